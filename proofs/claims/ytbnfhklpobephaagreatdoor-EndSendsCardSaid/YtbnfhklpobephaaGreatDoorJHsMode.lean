/- Several texts in one. -/
import Derived.Test.YtbnfhklpobephaaGreatDoorJHsGather
import Derived.Test.YtbnfhklpobephaaGreatDoorJMd
import Derived.Test.YtbnfhklpobephaaGreatDoorJScAskIn
import Derived.Test.YtbnfhklpobephaaGreatDoorSnReset
import Derived.Test.YtbnfhklpobephaaGreatDoorJRowK
import Derived.Test.YtbnfhklpobephaaGreatDoorJTbSay
import Derived.Test.YtbnfhklpobephaaGreatDoorJMkOf
/- A hub hears of the modes: all that comes of it. -/
namespace Go.Proofs.YtbnfhklpobephaaGreatDoor
open Go Go.RowKit
set_option maxRecDepth 100000
set_option maxHeartbeats 4000000

section
variable {w : World} {es : List Addr} {A : Option Addr} {n c : Nat} {b : List UInt8} {p q mo mq : Nat} {tp tq : TypeId} {pre post prq poq : List Value} {G : Nat → Prop} {h : Hb} {H : Hs} {ag : Nat → Nat → Bool} {T : Tb}
theorem hsMode (hE : ErrsAt w es) (k : HsAt w p mo tp pre post G h H) (hT : TbAt w q mq tq prq poq ag T) (hs : Src w A n b) : HearsF 225 w es p mo tp pre post G q mq 34 A n c (H.hearMode T b) := by
  obtain ⟨r, hr⟩ : ∃ r, r = H.hearMode T b := ⟨_, rfl⟩
  rw [← hr]
  unfold Hs.hearMode at hr
  have HU : Hid (∀ W, Only (fun _ => False) w W → Calls Tryz.prog 49 #[.pointer (some ⟨q, mq, none⟩), .int .i64 0, .int .i64 34] W fun e w' => e = .returned (.bool (onAt T true 34)) ∧ Only (fun _ => False) W w') := fun W ho => on_at hT true 34 W ho
  have HH : Hid (∀ W, Only (fun _ => False) w W → Calls Tryz.prog 49 #[.pointer (some ⟨q, mq, none⟩), .int .i64 1, .int .i64 34] W fun e w' => e = .returned (.bool (onAt T false 34)) ∧ Only (fun _ => False) W w') := fun W ho => on_at hT false 34 W ho
  have HTl := Lib.hid (fun W A n c => tell_any W 34 A n c)
  obtain ⟨a, ha, hst⟩ := (hE.of [9]).get 9 9 (by decide) rfl
  have HA10 : Hid (ErrV es (errV a) 10) := ErrV.err ha 10 rfl
  unfold errV at hst HA10
  have HC : Hid (∀ W, Only (fun _ => False) w W → W.cell? ⟨9, 0, none⟩ = some (.iface 409 (.pointer (some a)))) := fun W ho => ho.cellv hst (fun h => h)
  have HK := Lib.hid k
  cases hu : onAt T true 34 with
  | true =>
    rw [hu] at HU
    by_cases hn : takeNum b = 0
    · have HR1 : Hid (r = (0, some (bodyM (both (saysM b).1 h.tc + 4)), { H with tm := both (saysM b).1 h.tc })) := by
        show r = _
        rw [hr, hu, if_pos rfl, if_pos hn, k.is.tc]
      have HTa : Hid (∀ W, Only (fun _ => False) w W → _) := fun W ho => taHear_ok ((hE.only ho).of mdSel) (k.hub.same ho).tail (by rw [k.is.tc]; exact canOf_mask _) c (hs.only ho (fun _ _ _ h => h)) hn
      generalize both (saysM b).1 h.tc = bo at *
      clear hE k hT hs ha hst hn hu HH hr
      go_enter Tryz.func225, Tryz.ntmps225
      go_wp2_with (first
        | (go_at_call 49; (with_reducible refine (HU.out _ (Only.refl _ _)).mono ?_); rintro e w1 ⟨rfl, ho1⟩)
        | (go_at_call 236; (with_reducible refine (HTa.out _ ho1).mono ?_); rintro e w2 ⟨N, rfl, hN, hs2, ht2, ho2⟩)
        | (go_at_call 212; (with_reducible refine (HTl.out _ _ _ _).mono ?_); rintro e w3 ⟨rfl, hb3, ho3⟩))
      go_ret2
      have hO := ho2.out.trans ho3.out (fun _ h => h.elim)
      rw [HR1.out]
      have hz2 := ho2.out.size
      have hN' := hN.out
      have hk := ((HK.out.same ho1).is.own ho2.out).same ho3.out
      refine ⟨_, _, rfl, Ans.from_ (W := w1) ⟨ErrV.nil es, ⟨_, _, 2, 2, rfl, hz2, hb3.out, hs2.out.only ho3.out (fun _ _ _ h => h), fun _ ad e => ?_, Nat.le_refl _, by omega⟩, ⟨_, G, ⟨(HuAt.of_tail HK.out.hub.ok ht2.out).same ho3.out, { hk with tm := rfl }⟩, fun _ h => .inl h⟩, hO⟩ ho1⟩
      injection e with e
      subst e
      exact hN'
    · have HTa : Hid (∀ W, Only (fun _ => False) w W → Calls Tryz.prog 236 #[.pointer (some ⟨p, mo + 110, none⟩), .slice A n c] W fun e w' => ∃ a, e = .returned (.tuple #[.slice none 0 0, .iface 409 (.pointer (some a))]) ∧ ErrV es (.iface 409 (.pointer (some a))) (takeNum b) ∧ Only (fun _ => False) W w') := fun W ho => (taHear_bad ((hE.only ho).of mdSel) c (hs.only ho (fun _ _ _ h => h)) hn).mono (fun e w' ⟨E, h1, h2, h3⟩ => by
        rcases h1.ways with ⟨h0, _⟩ | ⟨_, a, rfl⟩
        · exact absurd h0 hn
        · exact ⟨a, h2, h1, h3⟩)
      have HR1 : Hid (r = (takeNum b, none, H)) := by
        show r = _
        rw [hr, hu, if_pos rfl, if_neg hn]
      clear hE k hT hs ha hst hn hu HH HTl hr
      go_enter Tryz.func225, Tryz.ntmps225
      go_wp2_with (first
        | (go_at_call 49; (with_reducible refine (HU.out _ (Only.refl _ _)).mono ?_); rintro e w1 ⟨rfl, ho1⟩)
        | (go_at_call 236; (with_reducible refine (HTa.out _ ho1).mono ?_); rintro e w2 ⟨a2, rfl, hv2, ho2⟩; have HV2 := Lib.hid hv2; clear hv2))
      go_ret2
      rw [HR1.out]
      exact ⟨_, _, rfl, Ans.bad HK.out (ho1.trans ho2 (fun _ h => h.elim)) HV2.out⟩
  | false =>
    rw [hu] at HU
    cases hh : onAt T false 34 with
    | false =>
      rw [hh] at HH
      have HR1 : Hid (r = (10, none, H)) := by
        show r = _
        rw [hr, hu, hh, if_neg (by decide), if_neg (by decide)]
      clear hE k hT hs ha hst hu hh HTl hr
      go_enter Tryz.func225, Tryz.ntmps225
      go_wp2_with (first
        | (go_at_call 49; (with_reducible refine (HU.out _ (Only.refl _ _)).mono ?_); rintro e w1 ⟨rfl, ho1⟩)
        | (go_at_call 49; (with_reducible refine (HH.out _ ho1).mono ?_); rintro e w2 ⟨rfl, ho2⟩; have HO2 := Lib.hid (ho1.trans ho2 (fun _ h => h.elim)); have hc2 := HC.out _ HO2.out))
      go_quiet (fail)
      go_wp2
      go_ret2
      rw [HR1.out]
      exact ⟨_, _, rfl, Ans.bad HK.out (HO2.out.drewN _) HA10.out⟩
    | true =>
      rw [hh] at HH
      by_cases hn : hearNum b h.hw = 0
      · have HR1 : Hid (r = (0, none, { H with hm := (saysM b).1, hw := false })) := by
          show r = _
          rw [hr, hu, hh, if_neg (by decide), if_pos rfl, ← k.is.hw, if_pos hn]
        have HHe : Hid (∀ W, Only (fun _ => False) w W → _) := fun W ho => heHear_ok ((hE.only ho).of mdSel) (k.hub.same ho).head c (hs.only ho (fun _ _ _ h => h)) hn
        clear hE k hT hs ha hst hn hu hh HTl HC hr
        go_enter Tryz.func225, Tryz.ntmps225
        go_wp2_with (first
          | (go_at_call 49; (with_reducible refine (HU.out _ (Only.refl _ _)).mono ?_); rintro e w1 ⟨rfl, ho1⟩)
          | (go_at_call 49; (with_reducible refine (HH.out _ ho1).mono ?_); rintro e w2 ⟨rfl, ho2⟩; have HO2 := Lib.hid (ho1.trans ho2 (fun _ h => h.elim)))
          | (go_at_call 237; (with_reducible refine (HHe.out _ HO2.out).mono ?_); rintro e w3 ⟨rfl, ht3, ho3⟩))
        go_ret2
        rw [HR1.out]
        have hk := (HK.out.same HO2.out).is.own ho3.out
        exact ⟨_, _, rfl, Ans.from_ (W := w2) ⟨ErrV.nil es, rfl, ⟨_, G, ⟨HuAt.of_head HK.out.hub.ok ht3.out, { hk with hm := rfl, hw := rfl }⟩, fun _ h => .inl h⟩, ho3.out⟩ HO2.out⟩
      · have HHe : Hid (∀ W, Only (fun _ => False) w W → Calls Tryz.prog 237 #[.pointer (some ⟨p, mo + 108, none⟩), .slice A n c] W fun e w' => ∃ a, e = .returned (.iface 409 (.pointer (some a))) ∧ ErrV es (.iface 409 (.pointer (some a))) (hearNum b h.hw) ∧ Only (fun _ => False) W w') := fun W ho => (heHear_bad ((hE.only ho).of mdSel) (k.hub.same ho).head c (hs.only ho (fun _ _ _ h => h)) hn).mono (fun e w' ⟨E, h1, h2, h3⟩ => by
          rcases h1.ways with ⟨h0, _⟩ | ⟨_, a, rfl⟩
          · exact absurd h0 hn
          · exact ⟨a, h2, h1, h3⟩)
        have HR1 : Hid (r = (hearNum b h.hw, none, H)) := by
          show r = _
          rw [hr, hu, hh, if_neg (by decide), if_pos rfl, ← k.is.hw, if_neg hn]
        clear hE k hT hs ha hst hn hu hh HTl HC hr
        go_enter Tryz.func225, Tryz.ntmps225
        go_wp2_with (first
          | (go_at_call 49; (with_reducible refine (HU.out _ (Only.refl _ _)).mono ?_); rintro e w1 ⟨rfl, ho1⟩)
          | (go_at_call 49; (with_reducible refine (HH.out _ ho1).mono ?_); rintro e w2 ⟨rfl, ho2⟩; have HO2 := Lib.hid (ho1.trans ho2 (fun _ h => h.elim)))
          | (go_at_call 237; (with_reducible refine (HHe.out _ HO2.out).mono ?_); rintro e w3 ⟨a3, rfl, hv3, ho3⟩; have HV3 := Lib.hid hv3; clear hv3))
        go_ret2
        rw [HR1.out]
        exact ⟨_, _, rfl, Ans.bad HK.out (HO2.out.trans ho3 (fun _ h => h.elim)) HV3.out⟩
end
end Go.Proofs.YtbnfhklpobephaaGreatDoor
/- A hub hears triples: all that comes of it. -/
namespace Go.Proofs.YtbnfhklpobephaaGreatDoor
open Go Go.RowKit
set_option maxRecDepth 100000
set_option maxHeartbeats 4000000

section
variable {w : World} {es : List Addr} {A : Option Addr} {n c : Nat} {b : List UInt8} {p q mo mq : Nat} {tp tq : TypeId} {pre post prq poq : List Value} {G : Nat → Prop} {h : Hb} {H : Hs} {ag : Nat → Nat → Bool} {T : Tb}
theorem hsChars_off (hE : ErrsAt w es) (k : HsAt w p mo tp pre post G h H) (hT : TbAt w q mq tq prq poq ag T) (hu : onAt T true 34 = false) (hh : onAt T false 34 = false) : HearsF 226 w es p mo tp pre post G q mq 34 A n c (H.hearChars T b) := by
  obtain ⟨r, hr⟩ : ∃ r, r = H.hearChars T b := ⟨_, rfl⟩
  rw [← hr]
  unfold Hs.hearChars at hr
  have HU : Hid (∀ W, Only (fun _ => False) w W → Calls Tryz.prog 49 #[.pointer (some ⟨q, mq, none⟩), .int .i64 0, .int .i64 34] W fun e w' => e = .returned (.bool (onAt T true 34)) ∧ Only (fun _ => False) W w') := fun W ho => on_at hT true 34 W ho
  have HH : Hid (∀ W, Only (fun _ => False) w W → Calls Tryz.prog 49 #[.pointer (some ⟨q, mq, none⟩), .int .i64 1, .int .i64 34] W fun e w' => e = .returned (.bool (onAt T false 34)) ∧ Only (fun _ => False) W w') := fun W ho => on_at hT false 34 W ho
  obtain ⟨a, ha, hst⟩ := (hE.of [9]).get 9 9 (by decide) rfl
  have HA10 : Hid (ErrV es (errV a) 10) := ErrV.err ha 10 rfl
  unfold errV at hst HA10
  have HC : Hid (∀ W, Only (fun _ => False) w W → W.cell? ⟨9, 0, none⟩ = some (.iface 409 (.pointer (some a)))) := fun W ho => ho.cellv hst (fun h => h)
  have HK := Lib.hid k
  rw [hu] at HU
  rw [hh] at HH
  have HR1 : Hid (r = (10, none, H)) := by
    show r = _
    rw [hr, hu, hh, if_pos ⟨rfl, rfl⟩]
  clear hE k hT ha hst hu hh hr
  go_enter Tryz.func226, Tryz.ntmps226
  go_wp2_with (first
    | (go_at_call 49; (with_reducible refine (HU.out _ (Only.refl _ _)).mono ?_); rintro e w1 ⟨rfl, ho1⟩)
    | (go_at_call 49; (with_reducible refine (HH.out _ ho1).mono ?_); rintro e w2 ⟨rfl, ho2⟩; have HO2 := Lib.hid (ho1.trans ho2 (fun _ h => h.elim)); have hc2 := HC.out _ HO2.out))
  go_quiet (fail)
  go_wp2
  go_ret2
  rw [HR1.out]
  exact ⟨_, _, rfl, Ans.bad HK.out (HO2.out.drewN _) HA10.out⟩
/-- Side's cells. -/
theorem sizeSd : (Tryz.prog.info? 114).map (·.size) = some 90 := by kernel_rfl
theorem hsChars_us (hE : ErrsAt w es) (k : HsAt w p mo tp pre post G h H) (hT : TbAt w q mq tq prq poq ag T) (hs : Src w A n b) (hn : n ≤ 256) (hnc : n ≤ c) (hcap : c ≤ 9223372036854775807) (hu : onAt T true 34 = true) : HearsF 226 w es p mo tp pre post G q mq 34 A n c (H.hearChars T b) := by
  obtain ⟨r, hr⟩ : ∃ r, r = H.hearChars T b := ⟨_, rfl⟩
  rw [← hr]
  unfold Hs.hearChars at hr
  have HU : Hid (∀ W, Only (fun _ => False) w W → Calls Tryz.prog 49 #[.pointer (some ⟨q, mq, none⟩), .int .i64 0, .int .i64 34] W fun e w' => e = .returned (.bool (onAt T true 34)) ∧ Only (fun _ => False) W w') := fun W ho => on_at hT true 34 W ho
  have HH : Hid (∀ W, Only (fun _ => False) w W → Calls Tryz.prog 49 #[.pointer (some ⟨q, mq, none⟩), .int .i64 1, .int .i64 34] W fun e w' => e = .returned (.bool (onAt T false 34)) ∧ Only (fun _ => False) W w') := fun W ho => on_at hT false 34 W ho
  have HK := Lib.hid k
  rw [hu] at HU
  clear HH
  by_cases h3 : n % 3 = 0
  · have HP : Hid (∀ W, Only (fun _ => False) w W → Calls Tryz.prog 238 #[.slice A n c] W fun e w' => ∃ A' m c', e = .returned (.tuple #[.slice A' m c', .nilIface]) ∧ m = (parseB b).length ∧ w'.ownsRow W.heap.size 262 4 (.slice A' m c') m (csT (parseB b)) ∧ Only (fun _ => False) W w') := fun W ho => sparse_ok (hs.only ho (fun _ _ _ h => h)) hnc hcap h3 (by omega)
    have HL : Hid ((parseB b).length ≤ 100) := by
      show (parseB b).length ≤ 100
      have := parseB_len _ b (Nat.le_refl _)
      have := hs.1
      omega
    have hS := k.is.sd
    have hr2 : r = if bodyN (gatherS H.S (parseB b)).2 ≠ 0 then (bodyN (gatherS H.S (parseB b)).2, none, H) else (0, toldB (gatherS H.S (parseB b)).2, { H with S := (gatherS H.S (parseB b)).1 }) := by
      rw [hr, if_neg (fun h => by rw [hu] at h; cases h.1), if_neg (by rw [hs.1]; omega)]
    obtain ⟨S, hSS⟩ : ∃ S, S = H.S := ⟨_, rfl⟩
    rw [← hSS] at hS hr2
    have hgl := gatherS_len (parseB b) S
    have HGl : Hid ((gatherS S (parseB b)).2.length ≤ 100) := Nat.le_trans hgl HL.out
    have HG := Lib.hid (fun W q (h : ScSdAt W q S) A n c (hr : W.ownsRow w.heap.size 262 4 (.slice A n c) n (csT (parseB b))) (hl : (parseB b).length = n) (hn : n ≤ 1000) => hsGather_any h hr hl hn)
    obtain ⟨S5, hS5⟩ : ∃ S5, S5 = (gatherS S (parseB b)).1 := ⟨_, rfl⟩
    obtain ⟨M, hM⟩ : ∃ M, M = (gatherS S (parseB b)).2 := ⟨_, rfl⟩
    rw [← hS5, ← hM] at HG hr2
    rw [← hM] at HGl
    obtain ⟨z, hzz⟩ : ∃ z, z = bodyN M := ⟨_, rfl⟩
    obtain ⟨t, htt⟩ : ∃ t, t = if bodyN M = 0 then toldB M else none := ⟨_, rfl⟩
    have HTe := Lib.hid (fun W (ho : Only (fun _ => False) w W) A n c (h : TrAt W A n M) (hn : n ≤ 100) => hsTell_any (c := c) (hE.only ho) h hn hzz htt)
    have HR0 : Hid (z = 0 → r = (0, t, { H with S := S5 })) := fun h0 => by
      rw [hr2, htt, ← hzz, if_neg (fun h => h h0), if_pos h0]
    have HR1 : Hid (z ≠ 0 → r = (z, none, H)) := fun h0 => by
      rw [hr2, ← hzz, if_pos h0]
    obtain ⟨zs, hzs⟩ : ∃ zs, zs = sc0 := ⟨_, rfl⟩
    have hz := zero_side
    have hzl : zs.length = 90 := by rw [hzs]; exact sc0_c.len
    rw [← hzs] at hz
    obtain ⟨sd, hsd⟩ : ∃ sd, sd = h.sd := ⟨_, rfl⟩
    have hsl : sd.length = 90 := by rw [hsd]; exact hS.len
    have HSd := Lib.hid hsd
    rw [← hsd] at hS
    have HS := Lib.hid hS
    have HZ := Lib.hid hz
    have HZl := Lib.hid hzl
    have HSl := Lib.hid hsl
    have HRg : Hid (∀ W, Only (fun _ => False) w W → W.rangeAt p (mo + 18) sd) := fun W ho => by rw [hsd]; exact (k.hub.same ho).in3.range
    have HLt := Lib.hid k.hub.lt
    clear hE k hT hs hu hn hnc hcap h3 hzs hz hzl hsl hS hsd hr hr2 hgl hS5 hM hzz htt hSS
    go_enter Tryz.func226, Tryz.ntmps226
    go_wp2_with (first
      | (go_at_call 49; (with_reducible refine (HU.out _ (Only.refl _ _)).mono ?_); rintro e w1 ⟨rfl, ho1⟩; have HO1 := Lib.hid ho1; clear ho1)
      | (go_at_call 238; (with_reducible refine (HP.out _ HO1.out).mono ?_); rintro e w2 ⟨A2, m2, c2, rfl, hm2, hr2, ho2⟩; have HM2 := Lib.hid hm2; have HR2 := Lib.hid (own_mono hr2 HO1.out.size); have HO2 := Lib.hid (HO1.out.trans ho2 (fun _ h => h.elim)); clear hm2 hr2 ho2)
      | ((with_reducible show wpList _ _ _ (⟨some 32, .load _ _, _, _, _, _⟩ :: _) _ _); refine wpList_load_mid rfl 114 _ rfl p (mo + 18) rfl sd _ (HRg.out _ HO2.out) Tryz.underlying114 rfl (by rw [HSl.out]; exact sizeSd) ?_)
      | ((with_reducible show wpList _ _ _ (⟨some 10, .alloc _, _, _, _, _⟩ :: _) _ _); refine step_alloc rfl 114 rfl zs 90 HZ.out ?_)
      | ((with_reducible show wpList _ _ _ (⟨none, .store 114 (.tmp 10) _, _, _, _, _⟩ :: _) _ _); refine step_store rfl 114 _ _ rfl w2.heap.size rfl sd rfl _ zs (Blk.new w2 114 zs) (by rw [HSl.out]; exact sizeSd) (by rw [HSl.out, HZl.out]) HS.out.one ?_; intro w3 hB3 hz3 ho3; have HB3 := Lib.hid hB3; have HO3 : Hid (Only (fun _ => False) w w3) := (HO2.out.alloc _).trans ho3 (fun i hi => .inr (by rw [hi]; exact HO2.out.size)); have HR3 := Lib.hid (own_only (HR2.out.alloc _) ho3 (fun j hj e => by have := (own_lt HR2.out j hj).2; omega)); obtain ⟨N, hN⟩ : ∃ N, N = w2.heap.size := ⟨_, rfl⟩; (rw [← hN] at HB3 ⊢); have HNp : Hid (w.heap.size ≤ N) := (by rw [hN]; exact HO2.out.size); have HS3 : Hid (ScSdAt w3 N S) := Exists.intro sd ⟨HB3.out, HS.out⟩; clear hB3 hz3 ho3 hN)
      | (go_at_call 239; (with_reducible refine (HG.out _ N HS3.out _ _ _ HR3.out HM2.out.symm (by have h1 := HM2.out; have h2 := HL.out; omega)).mono ?_); rintro e w4 ⟨A4, m4, c4, rfl, hm4, hr4, hs4, ho4⟩; have HM4 := Lib.hid hm4; have HMn : Hid (m4 ≤ 100) := (by have h2 := HGl.out; show m4 ≤ 100; omega); have HR4 := hr4; have HS4 := hs4; have HO4 : Hid (Only (fun _ => False) w w4) := HO3.out.trans ho4.out (fun i hi => .inr (by rw [hi]; exact HNp.out)); clear hm4 hr4 hs4 ho4)
      | (go_at_call 214; (with_reducible refine (HTe.out _ HO4.out _ _ _ (tris_own HR4.out HM4.out.symm) HMn.out).mono ?_); rintro e w5 ⟨v5, E5, rfl, hv5, ho5⟩; obtain ⟨cs5, hb5, hc5⟩ := HS4.out.same ho5.out; have HB5 := Lib.hid hb5; have HC5 := Lib.hid hc5; have HV5 := hv5; have HO5 := Lib.hid (HO4.out.trans ho5.out (fun _ h => h.elim)); have HW4 := Lib.hid HO4.out.size; clear hb5 hc5 hv5 ho5; have hw5 := HV5.out.1.ways; rcases hw5 with ⟨hz0, rfl⟩ | ⟨hz1, a5, rfl⟩)
      | ((with_reducible show wpList _ _ _ (⟨some 44, .load _ _, _, _, _, _⟩ :: _) _ _); refine wpList_load_mid rfl 114 _ rfl N 0 rfl cs5 _ (rng_blk HB5.out) Tryz.underlying114 rfl (by rw [HC5.out.len]; exact sizeSd) ?_)
      | ((with_reducible show wpList _ _ _ (⟨none, .store 114 (.tmp 46) _, _, _, _, _⟩ :: _) _ _); refine InB.store rfl 114 _ _ rfl (HK.out.hub.same HO5.out).in3 rfl cs5 rfl (by rw [HC5.out.len]; exact sizeSd) (by rw [HC5.out.len, ← HSd.out, HSl.out]) HC5.out.one ?_; intro w6 hI6 hz6 ho6))
    · go_ret2
      have hO : Only (· = p) w w6 := (Only.mono (T := (· = p)) HO5.out (fun _ h => h.elim)).trans ho6 (fun i hi => .inl hi)
      rw [HR0.out hz0]
      have hk := HK.out.is.own hO
      exact ⟨_, _, rfl, ErrV.nil es, (HV5.out.2.low HW4.out).only ho6 (fun i hi e => by have h2 := HLt.out; omega), ⟨_, G, ⟨HuAt.of_side HC5.out HK.out.hub.ok hI6.out, { hk with sd := HC5.out }⟩, fun _ h => .inl h⟩, hO⟩
    · go_ret2
      rw [HR1.out hz1]
      exact ⟨_, _, rfl, Ans.bad HK.out HO5.out HV5.out.1⟩
  · obtain ⟨a, ha, _⟩ := (hE.of [2, 3, 4]).get 2 2 (by decide) rfl
    have HP : Hid (∀ W, Only (fun _ => False) w W → Calls Tryz.prog 238 #[.slice A n c] W fun e w' => ∃ a, e = .returned (.tuple #[.slice none 0 0, .iface 409 (.pointer (some a))]) ∧ ErrV es (.iface 409 (.pointer (some a))) 3 ∧ Only (fun _ => False) W w') := fun W ho => (sparse_short ((hE.only ho).of [2, 3, 4]) A n c h3 (by omega)).mono (fun e w' ⟨a, ha, h1, h2⟩ => ⟨a, h1, ErrV.err ha 3 rfl, h2⟩)
    have HR3 : Hid (r = (3, none, H)) := by
      show r = _
      rw [hr, if_neg (fun h => by rw [hu] at h; cases h.1), if_pos (by rw [hs.1]; exact h3)]
    clear hE k hT hs hu hn hnc hcap h3 ha hr
    go_enter Tryz.func226, Tryz.ntmps226
    go_wp2_with (first
      | (go_at_call 49; (with_reducible refine (HU.out _ (Only.refl _ _)).mono ?_); rintro e w1 ⟨rfl, ho1⟩; have HO1 := Lib.hid ho1; clear ho1)
      | (go_at_call 238; (with_reducible refine (HP.out _ HO1.out).mono ?_); rintro e w2 ⟨a2, rfl, hv2, ho2⟩; have HV2 := Lib.hid hv2; clear hv2))
    go_ret2
    rw [HR3.out]
    exact ⟨_, _, rfl, Ans.bad HK.out (HO1.out.trans ho2 (fun _ h => h.elim)) HV2.out⟩
theorem hsChars_him (hE : ErrsAt w es) (k : HsAt w p mo tp pre post G h H) (hT : TbAt w q mq tq prq poq ag T) (hs : Src w A n b) (hn : n ≤ 256) (hnc : n ≤ c) (hcap : c ≤ 9223372036854775807) (hu : onAt T true 34 = false) (hh : onAt T false 34 = true) : HearsF 226 w es p mo tp pre post G q mq 34 A n c (H.hearChars T b) := by
  obtain ⟨r, hr⟩ : ∃ r, r = H.hearChars T b := ⟨_, rfl⟩
  rw [← hr]
  unfold Hs.hearChars at hr
  have HU : Hid (∀ W, Only (fun _ => False) w W → Calls Tryz.prog 49 #[.pointer (some ⟨q, mq, none⟩), .int .i64 0, .int .i64 34] W fun e w' => e = .returned (.bool (onAt T true 34)) ∧ Only (fun _ => False) W w') := fun W ho => on_at hT true 34 W ho
  have HH : Hid (∀ W, Only (fun _ => False) w W → Calls Tryz.prog 49 #[.pointer (some ⟨q, mq, none⟩), .int .i64 1, .int .i64 34] W fun e w' => e = .returned (.bool (onAt T false 34)) ∧ Only (fun _ => False) W w') := fun W ho => on_at hT false 34 W ho
  have HK := Lib.hid k
  rw [hu] at HU
  rw [hh] at HH
  by_cases h3 : n % 3 = 0
  · have HP : Hid (∀ W, Only (fun _ => False) w W → Calls Tryz.prog 238 #[.slice A n c] W fun e w' => ∃ A' m c', e = .returned (.tuple #[.slice A' m c', .nilIface]) ∧ m = (parseB b).length ∧ w'.ownsRow W.heap.size 262 4 (.slice A' m c') m (csT (parseB b)) ∧ Only (fun _ => False) W w') := fun W ho => sparse_ok (hs.only ho (fun _ _ _ h => h)) hnc hcap h3 (by omega)
    have HL : Hid ((parseB b).length ≤ 100) := by
      show (parseB b).length ≤ 100
      have := parseB_len _ b (Nat.le_refl _)
      have := hs.1
      omega
    have hS := k.is.sd
    have hr2 : r = if bodyN (gatherS H.S (parseB b)).2 ≠ 0 then (bodyN (gatherS H.S (parseB b)).2, none, H) else (0, toldB (gatherS H.S (parseB b)).2, { H with S := (gatherS H.S (parseB b)).1 }) := by
      rw [hr, if_neg (fun h => by rw [hh] at h; cases h.2), if_neg (by rw [hs.1]; omega)]
    obtain ⟨S, hSS⟩ : ∃ S, S = H.S := ⟨_, rfl⟩
    rw [← hSS] at hS hr2
    have hgl := gatherS_len (parseB b) S
    have HGl : Hid ((gatherS S (parseB b)).2.length ≤ 100) := Nat.le_trans hgl HL.out
    have HG := Lib.hid (fun W q (h : ScSdAt W q S) A n c (hr : W.ownsRow w.heap.size 262 4 (.slice A n c) n (csT (parseB b))) (hl : (parseB b).length = n) (hn : n ≤ 1000) => hsGather_any h hr hl hn)
    obtain ⟨S5, hS5⟩ : ∃ S5, S5 = (gatherS S (parseB b)).1 := ⟨_, rfl⟩
    obtain ⟨M, hM⟩ : ∃ M, M = (gatherS S (parseB b)).2 := ⟨_, rfl⟩
    rw [← hS5, ← hM] at HG hr2
    rw [← hM] at HGl
    obtain ⟨z, hzz⟩ : ∃ z, z = bodyN M := ⟨_, rfl⟩
    obtain ⟨t, htt⟩ : ∃ t, t = if bodyN M = 0 then toldB M else none := ⟨_, rfl⟩
    have HTe := Lib.hid (fun W (ho : Only (fun _ => False) w W) A n c (h : TrAt W A n M) (hn : n ≤ 100) => hsTell_any (c := c) (hE.only ho) h hn hzz htt)
    have HR0 : Hid (z = 0 → r = (0, t, { H with S := S5 })) := fun h0 => by
      rw [hr2, htt, ← hzz, if_neg (fun h => h h0), if_pos h0]
    have HR1 : Hid (z ≠ 0 → r = (z, none, H)) := fun h0 => by
      rw [hr2, ← hzz, if_pos h0]
    obtain ⟨zs, hzs⟩ : ∃ zs, zs = sc0 := ⟨_, rfl⟩
    have hz := zero_side
    have hzl : zs.length = 90 := by rw [hzs]; exact sc0_c.len
    rw [← hzs] at hz
    obtain ⟨sd, hsd⟩ : ∃ sd, sd = h.sd := ⟨_, rfl⟩
    have hsl : sd.length = 90 := by rw [hsd]; exact hS.len
    have HSd := Lib.hid hsd
    rw [← hsd] at hS
    have HS := Lib.hid hS
    have HZ := Lib.hid hz
    have HZl := Lib.hid hzl
    have HSl := Lib.hid hsl
    have HRg : Hid (∀ W, Only (fun _ => False) w W → W.rangeAt p (mo + 18) sd) := fun W ho => by rw [hsd]; exact (k.hub.same ho).in3.range
    have HLt := Lib.hid k.hub.lt
    clear hE k hT hs hu hh hn hnc hcap h3 hzs hz hzl hsl hS hsd hr hr2 hgl hS5 hM hzz htt hSS
    go_enter Tryz.func226, Tryz.ntmps226
    go_wp2_with (first
      | (go_at_call 49; (with_reducible refine (HU.out _ (Only.refl _ _)).mono ?_); rintro e w1 ⟨rfl, ho1⟩)
      | (go_at_call 49; (with_reducible refine (HH.out _ ho1).mono ?_); rintro e w1b ⟨rfl, ho1b⟩; have HO1 := Lib.hid (ho1.trans ho1b (fun _ h => h.elim)); clear ho1b)
      | (go_at_call 238; (with_reducible refine (HP.out _ HO1.out).mono ?_); rintro e w2 ⟨A2, m2, c2, rfl, hm2, hr2, ho2⟩; have HM2 := Lib.hid hm2; have HR2 := Lib.hid (own_mono hr2 HO1.out.size); have HO2 := Lib.hid (HO1.out.trans ho2 (fun _ h => h.elim)); clear hm2 hr2 ho2)
      | ((with_reducible show wpList _ _ _ (⟨some 32, .load _ _, _, _, _, _⟩ :: _) _ _); refine wpList_load_mid rfl 114 _ rfl p (mo + 18) rfl sd _ (HRg.out _ HO2.out) Tryz.underlying114 rfl (by rw [HSl.out]; exact sizeSd) ?_)
      | ((with_reducible show wpList _ _ _ (⟨some 10, .alloc _, _, _, _, _⟩ :: _) _ _); refine step_alloc rfl 114 rfl zs 90 HZ.out ?_)
      | ((with_reducible show wpList _ _ _ (⟨none, .store 114 (.tmp 10) _, _, _, _, _⟩ :: _) _ _); refine step_store rfl 114 _ _ rfl w2.heap.size rfl sd rfl _ zs (Blk.new w2 114 zs) (by rw [HSl.out]; exact sizeSd) (by rw [HSl.out, HZl.out]) HS.out.one ?_; intro w3 hB3 hz3 ho3; have HB3 := Lib.hid hB3; have HO3 : Hid (Only (fun _ => False) w w3) := (HO2.out.alloc _).trans ho3 (fun i hi => .inr (by rw [hi]; exact HO2.out.size)); have HR3 := Lib.hid (own_only (HR2.out.alloc _) ho3 (fun j hj e => by have := (own_lt HR2.out j hj).2; omega)); obtain ⟨N, hN⟩ : ∃ N, N = w2.heap.size := ⟨_, rfl⟩; (rw [← hN] at HB3 ⊢); have HNp : Hid (w.heap.size ≤ N) := (by rw [hN]; exact HO2.out.size); have HS3 : Hid (ScSdAt w3 N S) := Exists.intro sd ⟨HB3.out, HS.out⟩; clear hB3 hz3 ho3 hN)
      | (go_at_call 239; (with_reducible refine (HG.out _ N HS3.out _ _ _ HR3.out HM2.out.symm (by have h1 := HM2.out; have h2 := HL.out; omega)).mono ?_); rintro e w4 ⟨A4, m4, c4, rfl, hm4, hr4, hs4, ho4⟩; have HM4 := Lib.hid hm4; have HMn : Hid (m4 ≤ 100) := (by have h2 := HGl.out; show m4 ≤ 100; omega); have HR4 := hr4; have HS4 := hs4; have HO4 : Hid (Only (fun _ => False) w w4) := HO3.out.trans ho4.out (fun i hi => .inr (by rw [hi]; exact HNp.out)); clear hm4 hr4 hs4 ho4)
      | (go_at_call 214; (with_reducible refine (HTe.out _ HO4.out _ _ _ (tris_own HR4.out HM4.out.symm) HMn.out).mono ?_); rintro e w5 ⟨v5, E5, rfl, hv5, ho5⟩; obtain ⟨cs5, hb5, hc5⟩ := HS4.out.same ho5.out; have HB5 := Lib.hid hb5; have HC5 := Lib.hid hc5; have HV5 := hv5; have HO5 := Lib.hid (HO4.out.trans ho5.out (fun _ h => h.elim)); have HW4 := Lib.hid HO4.out.size; clear hb5 hc5 hv5 ho5; have hw5 := HV5.out.1.ways; rcases hw5 with ⟨hz0, rfl⟩ | ⟨hz1, a5, rfl⟩)
      | ((with_reducible show wpList _ _ _ (⟨some 44, .load _ _, _, _, _, _⟩ :: _) _ _); refine wpList_load_mid rfl 114 _ rfl N 0 rfl cs5 _ (rng_blk HB5.out) Tryz.underlying114 rfl (by rw [HC5.out.len]; exact sizeSd) ?_)
      | ((with_reducible show wpList _ _ _ (⟨none, .store 114 (.tmp 46) _, _, _, _, _⟩ :: _) _ _); refine InB.store rfl 114 _ _ rfl (HK.out.hub.same HO5.out).in3 rfl cs5 rfl (by rw [HC5.out.len]; exact sizeSd) (by rw [HC5.out.len, ← HSd.out, HSl.out]) HC5.out.one ?_; intro w6 hI6 hz6 ho6))
    · go_ret2
      have hO : Only (· = p) w w6 := (Only.mono (T := (· = p)) HO5.out (fun _ h => h.elim)).trans ho6 (fun i hi => .inl hi)
      rw [HR0.out hz0]
      have hk := HK.out.is.own hO
      exact ⟨_, _, rfl, ErrV.nil es, (HV5.out.2.low HW4.out).only ho6 (fun i hi e => by have h2 := HLt.out; omega), ⟨_, G, ⟨HuAt.of_side HC5.out HK.out.hub.ok hI6.out, { hk with sd := HC5.out }⟩, fun _ h => .inl h⟩, hO⟩
    · go_ret2
      rw [HR1.out hz1]
      exact ⟨_, _, rfl, Ans.bad HK.out HO5.out HV5.out.1⟩
  · obtain ⟨a, ha, _⟩ := (hE.of [2, 3, 4]).get 2 2 (by decide) rfl
    have HP : Hid (∀ W, Only (fun _ => False) w W → Calls Tryz.prog 238 #[.slice A n c] W fun e w' => ∃ a, e = .returned (.tuple #[.slice none 0 0, .iface 409 (.pointer (some a))]) ∧ ErrV es (.iface 409 (.pointer (some a))) 3 ∧ Only (fun _ => False) W w') := fun W ho => (sparse_short ((hE.only ho).of [2, 3, 4]) A n c h3 (by omega)).mono (fun e w' ⟨a, ha, h1, h2⟩ => ⟨a, h1, ErrV.err ha 3 rfl, h2⟩)
    have HR3 : Hid (r = (3, none, H)) := by
      show r = _
      rw [hr, if_neg (fun h => by rw [hh] at h; cases h.2), if_pos (by rw [hs.1]; exact h3)]
    clear hE k hT hs hu hh hn hnc hcap h3 ha hr
    go_enter Tryz.func226, Tryz.ntmps226
    go_wp2_with (first
      | (go_at_call 49; (with_reducible refine (HU.out _ (Only.refl _ _)).mono ?_); rintro e w1 ⟨rfl, ho1⟩)
      | (go_at_call 49; (with_reducible refine (HH.out _ ho1).mono ?_); rintro e w1b ⟨rfl, ho1b⟩; have HO1 := Lib.hid (ho1.trans ho1b (fun _ h => h.elim)); clear ho1b)
      | (go_at_call 238; (with_reducible refine (HP.out _ HO1.out).mono ?_); rintro e w2 ⟨a2, rfl, hv2, ho2⟩; have HV2 := Lib.hid hv2; clear hv2))
    go_ret2
    rw [HR3.out]
    exact ⟨_, _, rfl, Ans.bad HK.out (HO1.out.trans ho2 (fun _ h => h.elim)) HV2.out⟩
theorem hsChars (hE : ErrsAt w es) (k : HsAt w p mo tp pre post G h H) (hT : TbAt w q mq tq prq poq ag T) (hs : Src w A n b) (hn : n ≤ 256) (hnc : n ≤ c) (hcap : c ≤ 9223372036854775807) : HearsF 226 w es p mo tp pre post G q mq 34 A n c (H.hearChars T b) := by
  cases hu : onAt T true 34 with
  | true => exact hsChars_us hE k hT hs hn hnc hcap hu
  | false =>
    cases hh : onAt T false 34 with
    | true => exact hsChars_him hE k hT hs hn hnc hcap hu hh
    | false => exact hsChars_off hE k hT hu hh
end
end Go.Proofs.YtbnfhklpobephaaGreatDoor
/- A hub hears a body of Naws, of Ttype: all that comes of it. -/
namespace Go.Proofs.YtbnfhklpobephaaGreatDoor
open Go Go.RowKit
set_option maxRecDepth 100000
set_option maxHeartbeats 4000000

section
variable {w : World} {es : List Addr} {A : Option Addr} {n c : Nat} {b : List UInt8} {p q mo mq : Nat} {tp tq : TypeId} {pre post prq poq : List Value} {G : Nat → Prop} {h : Hb} {H : Hs} {ag : Nat → Nat → Bool} {T : Tb}
theorem hsSize (hE : ErrsAt w es) (k : HsAt w p mo tp pre post G h H) (hT : TbAt w q mq tq prq poq ag T) (hs : Src w A n b) : HearsF 208 w es p mo tp pre post G q mq 31 A n c (H.hearSize T b) := by
  refine (huSize_any hE k.hub hT c hs).mono ?_
  rintro e w' ⟨E, rfl, h1, h2⟩
  obtain ⟨h1, h3⟩ := h1.out
  have he : decide (T.get 1 31 = .yes) = onAt T false 31 := rfl
  rw [he] at h1 h3
  refine ⟨_, _, rfl, h1, rfl, ?_, h2.out⟩
  unfold Hs.hearSize
  by_cases hz : onNum (nsNum b) (onAt T false 31) = 0
  · rw [if_pos hz] at h3
    simp only [if_pos hz]
    obtain ⟨z1, z2, z3, z4, z5, z6, z7, z8, _, _, z9, z10, z11, z12, z13, z14, z15, z16, z17⟩ := k.is.own h2.out
    exact ⟨_, G, ⟨h3, ⟨z1, z2, z3, z4, z5, z6, z7, z8, rfl, rfl, z9, z10, z11, z12, z13, z14, z15, z16, z17⟩⟩, fun _ h => .inl h⟩
  · rw [if_neg hz] at h3
    simp only [if_neg hz]
    exact ⟨_, G, ⟨h3, k.is.own h2.out⟩, fun _ h => .inl h⟩
theorem hsType (hE : ErrsAt w es) (k : HsAt w p mo tp pre post G h H) (hT : TbAt w q mq tq prq poq ag T) (hs : Src w A n b) (hn : n ≤ 256) (hnc : n ≤ c) (hcap : c ≤ 9223372036854775807) : HearsF 209 w es p mo tp pre post G q mq 24 A n c (H.hearType T b) := by
  unfold Hs.hearType
  by_cases hz : tyNum T b = 0
  · rw [if_neg (fun h => h hz)]
    cases hx : (saysT b).2.1 with
    | true =>
      rw [if_pos rfl]
      refine (huType_asks hE k.hub hT k.is.cyOk c hs (by omega) hnc hcap hz hx).mono ?_
      rintro e w' ⟨N, rfl, h1, h2, h3⟩
      obtain ⟨z1, z2, _, z4, z5, z6, z7, z8, z9, z9', z10, z11, z12, z13, z14, z15, z16, z17, z18⟩ := k.is.own h3.out
      exact ⟨_, _, rfl, ErrV.nil es, h1.out, ⟨_, G, ⟨h2.out, ⟨z1, z2, rfl, z4, z5, z6, z7, z8, z9, z9', z10, z11, z12, z13, z14, z15, z16, z17, z18⟩⟩, fun _ h => .inl h⟩, h3.out⟩
    | false =>
      rw [if_neg (by decide)]
      refine (huType_name hE k.hub hT c hs (by omega) hnc hcap hz hx).mono ?_
      rintro e w' ⟨v, rfl, h1, h2, h3⟩
      obtain ⟨z1, z2, z3, z4, z5, z6, z7, z8, z9, z9', z10, z11, z12, z13, z14, z15, z16, z17, z18⟩ := k.is.own h3.out
      rw [z10] at h1 h2
      refine ⟨_, _, rfl, ErrV.nil es, ?_, ⟨_, G, ⟨h2.out, ⟨z1, z2, z3, z4, z5, z6, z7, z8, z9, z9', rfl, z11, z12, z13, z14, z15, z16, z17, z18⟩⟩, fun _ h => .inl h⟩, h3.out⟩
      have h1 := h1.out
      split at h1
      · rename_i hw
        simp only [if_pos hw]
        exact h1
      · rename_i hw
        simp only [if_neg hw]
        exact h1
  · rw [if_pos hz]
    refine (huType_bad hE k.hub hT c hs (by omega) hnc hcap hz).mono ?_
    rintro e w' ⟨E, rfl, h1, h2⟩
    exact ⟨_, _, rfl, Ans.bad k h2.out h1.out⟩
end
end Go.Proofs.YtbnfhklpobephaaGreatDoor
/- Package status: Ask, Body. -/
namespace Go.Proofs.YtbnfhklpobephaaGreatDoor
open Go Go.RowKit
set_option maxRecDepth 100000
set_option maxHeartbeats 4000000

theorem suOption_any (W : World) (c : Int) : Calls Tryz.prog 243 #[.int .i64 c] W fun e w' => e = .returned (.bool (decide (0 ≤ c ∧ c ≤ 255))) ∧ w' = W := by
  by_cases h1 : c < 0
  · go_enter Tryz.func243, Tryz.ntmps243
    go_wp2
    go_ret
    refine ⟨congrArg (fun b => Ending.returned (Value.bool b)) ?_, rfl⟩
    first | (simp; done) | (simp; omega)
  · go_enter Tryz.func243, Tryz.ntmps243
    go_wp2
    go_ret
    refine ⟨congrArg (fun b => Ending.returned (Value.bool b)) ?_, rfl⟩
    first | (simp; done) | (simp; omega)

/-- What a call answers: bytes, or an error. -/
theorem Body.new {w : World} {B : Nat} {A : Option Addr} {n c : Nat} {b : List UInt8} (h : Body w B (.slice A n c) b) (hn : n = b.length) : 0 < n → ∀ ad, A = some ad → B ≤ ad.block := fun h0 ad e => by
  subst hn
  obtain ⟨g, e', hg, _⟩ := own_at (xs := b.map B8) h h0
  rw [e] at e'
  injection e' with e'
  subst e'
  exact hg
def Answered (w : World) (es : List Addr) (num : Nat) (b : List UInt8) (e : Ending) (w' : World) : Prop :=
  ∃ A m c E, e = .returned (.tuple #[.slice A m c, E]) ∧ ErrV es E num ∧ Src w' A m b ∧ ((m ≤ c ∧ c ≤ 9223372036854775807) ∧ (0 < m → ∀ ad, A = some ad → w.heap.size ≤ ad.block)) ∧ Only (fun _ => False) w w'

theorem suBody_any {w : World} {es : List Addr} (hE : ErrsAt w es) {A : Option Addr} {n c : Nat} {l : List En} (h : EnAt w A n l) (hn : n ≤ 1000) :
    Calls Tryz.prog 234 #[.slice A n c] w (Answered w es (suNum l) (suBody l)) := by
  have H := Lib.hid h
  have HE := Lib.hid hE
  have hl := h.1
  clear h hE
  by_cases h120 : 120 < n
  · have hd : decide ((120 : Int) < (n : Int)) = true := by simp; omega
    obtain ⟨a, ha⟩ : ∃ a, es[3]? = some a := ⟨_, List.getElem?_eq_getElem (by rw [HE.out.len]; omega)⟩
    have hc := HE.out.at_ 3 3 a rfl ha
    unfold errV at hc
    have HA := Lib.hid ha
    have HNum : Hid (suNum l = 4) := by show suNum l = 4; rw [suNum, if_pos (by omega)]
    clear ha hl
    go_enter Tryz.func234, Tryz.ntmps234
    go_wp2
    go_quiet (fail)
    go_wp2
    go_ret2
    rw [HNum.out]
    exact ⟨none, 0, 0, errV a, rfl, ErrV.err HA.out 4 rfl, by rw [suBody, HNum.out, if_neg (by decide)]; exact Src.nil _ _, ⟨⟨Nat.le_refl _, by omega⟩, fun h => absurd h (by omega)⟩, (Only.refl _ _).drewN _⟩
  · have hd : decide ((120 : Int) < (n : Int)) = false := by simp; omega
    have HN : Hid (suNum l = enBad l) := by show suNum l = enBad l; rw [suNum, if_neg (by omega)]
    have HB0 : Hid (Body (w.alloc (.cells #[.int .u8 0] 5)) w.heap.size (.slice (some ⟨w.heap.size, 0, none⟩) (1 : Nat) 1) [0]) := (show World.ownsRow _ w.heap.size 5 1 (.slice (some ⟨w.heap.size, 0, none⟩) (1 : Nat) 1) 1 [.int .u8 0] from own_of_blk (cur := [.int .u8 0]) (Blk.new w _ [.int .u8 0]) rfl rfl (by omega) (by omega) (Nat.le_refl _))
    have HO0 : Hid (Only (fun _ => False) w (w.alloc (.cells #[.int .u8 0] 5))) := (Only.refl _ _).alloc _
    have HL := Lib.hid hl
    clear hl
    go_enter Tryz.func234, Tryz.ntmps234
    go_wp2
    generalize w.alloc (.cells #[.int .u8 0] 5) = w0 at *
    go_loopw [4, 14] (fun v i W => ∃ (k m cb : Nat) (B : Option Addr), k ≤ n ∧ m = 2 * k + 1 ∧ v = .slice B m cb ∧ i = .int .i64 (k : Int) ∧ Hid (∃ acc, Body W w.heap.size (.slice B m cb) acc ∧ m = acc.length ∧ acc ++ enBytes (l.drop k) = 0 :: enBytes l ∧ enBad (l.drop k) = enBad l ∧ Only (fun _ => False) w W)) (fun _ i _ => n - (intOf i).toNat)
    case atStart => exact ⟨0, 1, 1, _, by omega, by omega, rfl, rfl, [0], HB0.out, rfl, rfl, rfl, HO0.out⟩
    case round =>
      clear HB0 HO0
      obtain ⟨k, m, cb, B, hk, hm, rfl, rfl, hrel⟩ := hrel
      obtain ⟨acc, hacc, hml, hcat, hbad, hon⟩ := hrel.out
      have hcap : m ≤ cb ∧ cb ≤ 9223372036854775807 := by
        obtain ⟨A', c', e, h1, _⟩ := hacc.form
        injection e with e1 e2 e3
        omega
      have HAc := Lib.hid hacc
      have HML := Lib.hid hml
      have HCat := Lib.hid hcat
      have HBad := Lib.hid hbad
      have HOn := Lib.hid hon
      have HM := Lib.hid hm
      have hm2 : m ≤ 1000 := by omega
      clear hrel hacc hml hcat hbad hon hm
      by_cases hlt : k < n
      · have hlt2 : (k : Int) < (n : Int) := by omega
        obtain ⟨x, hx⟩ : ∃ x, l[k]? = some x := ⟨_, List.getElem?_eq_getElem (by rw [H.out.1]; omega)⟩
        obtain ⟨b, off, rfl, hbl, hrg⟩ := (H.out.same HOn.out).2 k x hx
        have hd0 : l.drop k = x :: l.drop (k + 1) := by
          obtain ⟨h1, e⟩ := List.getElem?_eq_some_iff.1 hx
          rw [List.drop_eq_getElem_cons h1, e]
        have HD := Lib.hid hd0
        have HRg := Lib.hid hrg
        obtain ⟨xv, xo⟩ := x
        have HVb := Lib.hid (fun W => verb_any W xv)
        have HOp := Lib.hid (fun W => suOption_any W xo)
        obtain ⟨p, hp⟩ : ∃ p, p = decide (251 ≤ xv ∧ xv ≤ 254) := ⟨_, rfl⟩
        obtain ⟨q, hq⟩ : ∃ q, q = decide (0 ≤ xo ∧ xo ≤ 255) := ⟨_, rfl⟩
        rw [← hp] at HVb
        rw [← hq] at HOp
        have HP := Lib.hid hp
        have HQ := Lib.hid hq
        clear hx hrg hd0 hp hq
        cases p
        · obtain ⟨a, ha⟩ : ∃ a, es[8]? = some a := ⟨_, List.getElem?_eq_getElem (by rw [HE.out.len]; omega)⟩
          have HC : Hid (∀ W, Only (fun _ => False) w W → W.cell? ⟨8, 0, none⟩ = some (errV a)) := fun W ho => (HE.out.only ho).at_ 8 _ a rfl ha
          have HA := Lib.hid ha
          clear ha
          have hc : ∀ ob, (wr.alloc ob).cell? ⟨8, 0, none⟩ = some (.iface 409 (.pointer (some a))) := fun ob => HC.out _ (HOn.out.alloc _)
          go_wp2_with (first
            | ((with_reducible show wpList _ _ _ (⟨some 17, _, _, _, _, _⟩ :: _) _ _); refine wpList_load_mid rfl 162 _ rfl b (off + k * 2) rfl [.int .i64 xv, .int .i64 xo] _ HRg.out Tryz.underlying162 rfl size_en ?_)
            | (go_at_call 158; refine (HVb.out _).mono ?_; rintro e w5 ⟨rfl, e5⟩; subst w5)
            | fail)
          go_quiet (fail)
          go_wp2
          go_ret2
          have hz : suNum l = 9 := by
            rw [HN.out, ← HBad.out, HD.out, enBad, ← HP.out, if_neg (by decide)]
          rw [hz]
          exact ⟨none, 0, 0, errV a, rfl, ErrV.err HA.out 9 rfl, by rw [suBody, hz, if_neg (by decide)]; exact Src.nil _ _, ⟨⟨Nat.le_refl _, by omega⟩, fun h => absurd h (by omega)⟩, (HOn.out.alloc _).drewN _⟩
        · cases q
          · obtain ⟨a, ha⟩ : ∃ a, es[0]? = some a := ⟨_, List.getElem?_eq_getElem (by rw [HE.out.len]; omega)⟩
            have HC : Hid (∀ W, Only (fun _ => False) w W → W.cell? ⟨0, 0, none⟩ = some (errV a)) := fun W ho => (HE.out.only ho).at_ 0 _ a rfl ha
            have HA := Lib.hid ha
            clear ha
            have hc : ∀ ob, (wr.alloc ob).cell? ⟨0, 0, none⟩ = some (.iface 409 (.pointer (some a))) := fun ob => HC.out _ (HOn.out.alloc _)
            go_wp2_with (first
              | ((with_reducible show wpList _ _ _ (⟨some 17, _, _, _, _, _⟩ :: _) _ _); refine wpList_load_mid rfl 162 _ rfl b (off + k * 2) rfl [.int .i64 xv, .int .i64 xo] _ HRg.out Tryz.underlying162 rfl size_en ?_)
              | (go_at_call 158; refine (HVb.out _).mono ?_; rintro e w5 ⟨rfl, e5⟩; subst w5)
              | (go_at_call 243; refine (HOp.out _).mono ?_; rintro e w5 ⟨rfl, e5⟩; subst w5)
              | fail)
            go_quiet (fail)
            go_wp2
            go_ret2
            have hz : suNum l = 1 := by
              rw [HN.out, ← HBad.out, HD.out, enBad, ← HP.out, if_pos rfl, ← HQ.out, if_neg (by decide)]
            rw [hz]
            exact ⟨none, 0, 0, errV a, rfl, ErrV.err HA.out 1 rfl, by rw [suBody, hz, if_neg (by decide)]; exact Src.nil _ _, ⟨⟨Nat.le_refl _, by omega⟩, fun h => absurd h (by omega)⟩, (HOn.out.alloc _).drewN _⟩
          · have hv := of_decide_eq_true HP.out.symm
            have ho := of_decide_eq_true HQ.out.symm
            have hw1 : IntKind.u8.wrap xv = xv := IntWalk.u8_in _ (by omega)
            have hw2 : IntKind.u8.wrap xo = xo := IntWalk.u8_in _ (by omega)
            have hb1 : B8 (b8 xv) = .int .u8 xv := by unfold B8; rw [b8_int (by omega) (by omega)]
            have hb2 : B8 (b8 xo) = .int .u8 xo := by unfold B8; rw [b8_int (by omega) (by omega)]
            have HSrc : Hid (∀ (W : World) (N : Nat), W.heap.size = N → Src (W.alloc (.cells #[.int .u8 xv, .int .u8 xo] 5)) (some ⟨N, 0, none⟩) 2 [b8 xv, b8 xo]) := fun W N hN => by
              subst hN
              exact src_new W [b8 xv, b8 xo] _ _ _ 2 (by rw [List.map_cons, List.map_cons, List.map_nil, hb1, hb2]) rfl
            have hBad2 : Hid (enBad (l.drop (k + 1)) = enBad l) := by
              show enBad (l.drop (k + 1)) = enBad l
              rw [← HBad.out, HD.out, enBad, ← HP.out, if_pos rfl, ← HQ.out, if_pos rfl]
            have hCat2 : Hid ((acc ++ [b8 xv, b8 xo]) ++ enBytes (l.drop (k + 1)) = 0 :: enBytes l) := by
              show (acc ++ [b8 xv, b8 xo]) ++ enBytes (l.drop (k + 1)) = 0 :: enBytes l
              rw [← HCat.out, HD.out, enBytes, List.append_assoc]
              rfl
            clear hv ho hb1 hb2
            go_wp2_with (first
              | ((with_reducible show wpList _ _ _ (⟨some 17, _, _, _, _, _⟩ :: _) _ _); refine wpList_load_mid rfl 162 _ rfl b (off + k * 2) rfl [.int .i64 xv, .int .i64 xo] _ HRg.out Tryz.underlying162 rfl size_en ?_)
              | (go_at_call 158; refine (HVb.out _).mono ?_; rintro e w5 ⟨rfl, e5⟩; subst w5)
              | (go_at_call 243; refine (HOp.out _).mono ?_; rintro e w5 ⟨rfl, e5⟩; subst w5)
              | (at_builtin; refine step_bytesG rfl _ _ rfl w.heap.size B m cb acc rfl (HAc.out.same (((Only.refl _ _).alloc _).alloc _)) HML.out (some ⟨wr.heap.size + 1, 0, none⟩) 2 2 [b8 xv, b8 xo] rfl (HSrc.out _ _ (by simp)) (by omega) (Nat.le_trans HOn.out.size (by simp; try omega)) ?_; intro A7 c7 w7 hB7 hG7)
              | fail)
            have HOn7 : Hid (Only (fun _ => False) w w7) := ((HOn.out.alloc _).alloc _).grown hG7.out (fun k hk => .inr (own_lt HAc.out k hk).1)
            go_roundw
            case rel => exact ⟨k + 1, m + 2, c7, A7, by omega, by have := HM.out; omega, rfl, by go_num, acc ++ [b8 xv, b8 xo], hB7.out, by rw [List.length_append, ← HML.out]; rfl, hCat2.out, hBad2.out, HOn7.out⟩
            case measure => simp [intOf]; omega
      · obtain rfl : k = n := by omega
        have hz : Hid (suNum l = 0) := by
          show suNum l = 0
          rw [HN.out, ← HBad.out, List.drop_eq_nil_of_le (by rw [HL.out]; exact Nat.le_refl _)]
          rfl
        have hsb : Hid (acc = suBody l) := by
          show acc = suBody l
          have := HCat.out
          rw [List.drop_eq_nil_of_le (by rw [HL.out]; exact Nat.le_refl _), enBytes, List.append_nil] at this
          rw [suBody, if_pos hz.out, this]
        go_wp2
        go_ret2
        rw [hz.out, ← hsb.out]
        exact ⟨B, m, cb, .nilIface, rfl, ErrV.nil es, HAc.out.src HML.out, ⟨hcap, fun hn ad e => HAc.out.new HML.out hn ad e⟩, HOn.out⟩
end Go.Proofs.YtbnfhklpobephaaGreatDoor
