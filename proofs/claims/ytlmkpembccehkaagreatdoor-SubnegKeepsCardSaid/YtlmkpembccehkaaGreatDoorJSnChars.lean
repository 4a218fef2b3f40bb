/- Several texts in one. -/
import Derived.Test.YtlmkpembccehkaaGreatDoorJSnChar
import Derived.Test.YtlmkpembccehkaaGreatDoorJSnKeep
import Derived.Test.YtlmkpembccehkaaGreatDoorJSnModeK
import Derived.Test.YtlmkpembccehkaaGreatDoorJBody
import Derived.Test.YtlmkpembccehkaaGreatDoorRowK
import Derived.BigQuiet
/- A hub hears triples. -/
namespace Go.Proofs.YtlmkpembccehkaaGreatDoor
open Go Go.RowKit
set_option maxRecDepth 100000
set_option maxHeartbeats 4000000

section
variable {w : World} {es : List Addr} {A : Option Addr} {n c : Nat} {b : List UInt8} {p q : Nat} {h : Hb} {ag : Nat → Nat → Bool} {T : Tb}
theorem keepChars_off (hE : ErrsAt w es) (k : HkAt w p h) (hT : TbAt w q ag T) (hu : onAt T true 34 = false) (hh : onAt T false 34 = false) : HearsB 76 w p q h 34 A n c := by
  have HU : Hid (∀ W, Only (fun _ => False) w W → Calls Tryz.prog 66 #[.pointer (some ⟨q, 0, none⟩), .int .i64 0, .int .i64 34] W fun e w' => e = .returned (.bool (onAt T true 34)) ∧ Only (fun _ => False) W w') := fun W ho => on_at hT true 34 W ho
  have HH : Hid (∀ W, Only (fun _ => False) w W → Calls Tryz.prog 66 #[.pointer (some ⟨q, 0, none⟩), .int .i64 1, .int .i64 34] W fun e w' => e = .returned (.bool (onAt T false 34)) ∧ Only (fun _ => False) W w') := fun W ho => on_at hT false 34 W ho
  obtain ⟨a, ha, hst⟩ := (hE.of [9]).get 9 8 (by decide) rfl
  unfold errV at hst
  have HC : Hid (∀ W, Only (fun _ => False) w W → W.cell? ⟨8, 0, none⟩ = some (.iface 191 (.pointer (some a)))) := fun W ho => ho.cellv hst (fun h => h)
  have HK := Lib.hid k
  rw [hu] at HU
  rw [hh] at HH
  clear hE k hT ha hst hu hh
  go_enter Tryz.func76, Tryz.ntmps76
  go_wp2_with (first
    | (go_at_call 66; (with_reducible refine (HU.out _ (Only.refl _ _)).mono ?_); rintro e w1 ⟨rfl, ho1⟩)
    | (go_at_call 66; (with_reducible refine (HH.out _ ho1).mono ?_); rintro e w2 ⟨rfl, ho2⟩; have HO2 := Lib.hid (ho1.trans ho2 (fun _ h => h.elim)); have hc2 := HC.out _ HO2.out))
  go_quiet (fail)
  go_wp2
  go_ret2
  exact ⟨_, _, rfl, Heard.err HK.out (HO2.out.drewN _)⟩
/-- Side's cells. -/
theorem sizeSd : (Tryz.prog.info? 80).map (·.size) = some 90 := by kernel_rfl
theorem keepChars_us (hE : ErrsAt w es) (k : HkAt w p h) (hT : TbAt w q ag T) (hs : Src w A n b) (hn : n ≤ 256) (hnc : n ≤ c) (hcap : c ≤ 9223372036854775807) (hu : onAt T true 34 = true) : HearsB 76 w p q h 34 A n c := by
  have HU : Hid (∀ W, Only (fun _ => False) w W → Calls Tryz.prog 66 #[.pointer (some ⟨q, 0, none⟩), .int .i64 0, .int .i64 34] W fun e w' => e = .returned (.bool (onAt T true 34)) ∧ Only (fun _ => False) W w') := fun W ho => on_at hT true 34 W ho
  have HH : Hid (∀ W, Only (fun _ => False) w W → Calls Tryz.prog 66 #[.pointer (some ⟨q, 0, none⟩), .int .i64 1, .int .i64 34] W fun e w' => e = .returned (.bool (onAt T false 34)) ∧ Only (fun _ => False) W w') := fun W ho => on_at hT false 34 W ho
  have HK := Lib.hid k
  rw [hu] at HU
  clear HH
  by_cases h3 : n % 3 = 0
  · have HP : Hid (∀ W, Only (fun _ => False) w W → Calls Tryz.prog 94 #[.slice A n c] W fun e w' => ∃ A' m c', e = .returned (.tuple #[.slice A' m c', .nilIface]) ∧ m = (parseB b).length ∧ w'.ownsRow W.heap.size 126 4 (.slice A' m c') m (csT (parseB b)) ∧ Only (fun _ => False) W w') := fun W ho => sparse_ok (hs.only ho (fun _ _ _ h => h)) hnc hcap h3 (by omega)
    have HL : Hid ((parseB b).length ≤ 100) := by
      show (parseB b).length ≤ 100
      have := parseB_len _ b (Nat.le_refl _)
      have := hs.1
      omega
    obtain ⟨S, hS⟩ := k.hub.ok.sd
    have HG := Lib.hid (fun W q (h : ScSdAt W q S) A n c (hr : W.ownsRow w.heap.size 126 4 (.slice A n c) n (csT (parseB b))) (hl : (parseB b).length = n) (hn : n ≤ 1000) => gather_any h hr hl hn)
    have HTe := Lib.hid (fun W (ho : Only (fun _ => False) w W) A n c L (h : TrAt W A n L) (hn : n ≤ 100) => tellChars_any (c := c) (hE.only ho) h hn)
    obtain ⟨zs, hzs⟩ : ∃ zs, zs = sc0 := ⟨_, rfl⟩
    have hz := zero_side
    have hzl : zs.length = 90 := by rw [hzs]; exact sc0_c.len
    rw [← hzs] at hz
    obtain ⟨sd, hsd⟩ : ∃ sd, sd = h.sd := ⟨_, rfl⟩
    have hsl : sd.length = 90 := by rw [hsd]; exact hS.len
    have HSd := Lib.hid hsd
    rw [← hsd] at hS
    have HS := Lib.hid hS
    have HZ := Lib.hid hz
    have HZl := Lib.hid hzl
    have HSl := Lib.hid hsl
    have HRg : Hid (∀ W, Only (fun _ => False) w W → W.rangeAt p 18 sd) := fun W ho => by rw [hsd]; exact (k.hub.same ho).in3.range
    have HLt := Lib.hid k.hub.lt
    clear hE k hT hs hu hn hnc hcap h3 hzs hz hzl hsl hS hsd
    go_enter Tryz.func76, Tryz.ntmps76
    go_wp2_with (first
      | (go_at_call 66; (with_reducible refine (HU.out _ (Only.refl _ _)).mono ?_); rintro e w1 ⟨rfl, ho1⟩; have HO1 := Lib.hid ho1; clear ho1)
      | (go_at_call 94; (with_reducible refine (HP.out _ HO1.out).mono ?_); rintro e w2 ⟨A2, m2, c2, rfl, hm2, hr2, ho2⟩; have HM2 := Lib.hid hm2; have HR2 := Lib.hid (own_mono hr2 HO1.out.size); have HO2 := Lib.hid (HO1.out.trans ho2 (fun _ h => h.elim)); clear hm2 hr2 ho2)
      | ((with_reducible show wpList _ _ _ (⟨some 32, .load _ _, _, _, _, _⟩ :: _) _ _); refine wpList_load_mid rfl 80 _ rfl p 18 rfl sd _ (HRg.out _ HO2.out) Tryz.underlying80 rfl (by rw [HSl.out]; exact sizeSd) ?_)
      | ((with_reducible show wpList _ _ _ (⟨some 10, .alloc _, _, _, _, _⟩ :: _) _ _); refine step_alloc rfl 80 rfl zs 90 HZ.out ?_)
      | ((with_reducible show wpList _ _ _ (⟨none, .store 80 (.tmp 10) _, _, _, _, _⟩ :: _) _ _); refine step_store rfl 80 _ _ rfl w2.heap.size rfl sd rfl _ zs (Blk.new w2 80 zs) (by rw [HSl.out]; exact sizeSd) (by rw [HSl.out, HZl.out]) HS.out.one ?_; intro w3 hB3 hz3 ho3; have HB3 := Lib.hid hB3; have HO3 : Hid (Only (fun _ => False) w w3) := (HO2.out.alloc _).trans ho3 (fun i hi => .inr (by rw [hi]; exact HO2.out.size)); have HR3 := Lib.hid (own_only (HR2.out.alloc _) ho3 (fun j hj e => by have := (own_lt HR2.out j hj).2; omega)); obtain ⟨N, hN⟩ : ∃ N, N = w2.heap.size := ⟨_, rfl⟩; (rw [← hN] at HB3 ⊢); have HNp : Hid (w.heap.size ≤ N) := (by rw [hN]; exact HO2.out.size); have HS3 : Hid (ScSdAt w3 N S) := Exists.intro sd ⟨HB3.out, HS.out⟩; clear hB3 hz3 ho3 hN)
      | (go_at_call 95; (with_reducible refine (HG.out _ N HS3.out _ _ _ HR3.out HM2.out.symm (by have h1 := HM2.out; have h2 := HL.out; omega)).mono ?_); rintro e w4 ⟨A4, m4, c4, M, rfl, hm4, hmn, hr4, hs4, ho4⟩; have HM4 := Lib.hid hm4; have HMn : Hid (m4 ≤ 100) := (by have h1 := HM2.out; have h2 := HL.out; show m4 ≤ 100; omega); have HR4 := hr4; have HS4 := hs4; have HO4 : Hid (Only (fun _ => False) w w4) := HO3.out.trans ho4.out (fun i hi => .inr (by rw [hi]; exact HNp.out)); clear hm4 hmn hr4 hs4 ho4)
      | (go_at_call 80; (with_reducible refine (HTe.out _ HO4.out _ _ _ _ (tris_own HR4.out HM4.out.symm) HMn.out).mono ?_); rintro e w5 ⟨v5, E5, rfl, hv5, ho5⟩; obtain ⟨S5, hS5⟩ := HS4.out; obtain ⟨cs5, hb5, hc5⟩ := hS5.same ho5.out; have HB5 := Lib.hid hb5; have HC5 := Lib.hid hc5; have HV5 := hv5; have HO5 := Lib.hid (HO4.out.trans ho5.out (fun _ h => h.elim)); have HW4 := Lib.hid HO4.out.size; clear hS5 hb5 hc5 hv5 ho5; rcases HV5.out with ⟨rfl, hv⟩ | ⟨⟨a5, rfl⟩, rfl⟩)
      | ((with_reducible show wpList _ _ _ (⟨some 44, .load _ _, _, _, _, _⟩ :: _) _ _); refine wpList_load_mid rfl 80 _ rfl N 0 rfl cs5 _ (rng_blk HB5.out) Tryz.underlying80 rfl (by rw [HC5.out.len]; exact sizeSd) ?_)
      | ((with_reducible show wpList _ _ _ (⟨none, .store 80 (.tmp 46) _, _, _, _, _⟩ :: _) _ _); refine InB.store rfl 80 _ _ rfl (HK.out.hub.same HO5.out).in3 rfl cs5 rfl (by rw [HC5.out.len]; exact sizeSd) (by rw [HC5.out.len, ← HSd.out, HSl.out]) HC5.out.one ?_; intro w6 hI6 hz6 ho6))
    · go_ret2
      have hO : Only (· = p) w w6 := (Only.mono (T := (· = p)) HO5.out (fun _ h => h.elim)).trans ho6 (fun i hi => .inl hi)
      refine ⟨_, _, rfl, .inl ⟨rfl, ?_, _, HK.out.next hO (HuAt.of_side HC5.out HK.out.hub.ok hI6.out) rfl rfl HK.out.tc⟩, hO⟩
      rcases hv with rfl | ⟨b, hb, hone⟩
      · exact .inl rfl
      · exact (hone.only ho6 (fun i hi e => by have h1 := HW4.out; have h2 := HLt.out; omega)).tol hb
    · go_ret2
      exact ⟨_, _, rfl, Heard.err HK.out HO5.out⟩
  · obtain ⟨a, ha, _⟩ := (hE.of [2, 3, 4]).get 2 9 (by decide) rfl
    have HP : Hid (∀ W, Only (fun _ => False) w W → Calls Tryz.prog 94 #[.slice A n c] W fun e w' => ∃ a, e = .returned (.tuple #[.slice none 0 0, .iface 191 (.pointer (some a))]) ∧ Only (fun _ => False) W w') := fun W ho => (sparse_short ((hE.only ho).of [2, 3, 4]) A n c h3 (by omega)).mono (fun e w' ⟨a, _, h1, h2⟩ => ⟨a, h1, h2⟩)
    clear hE k hT hs hu hn hnc hcap h3 ha
    go_enter Tryz.func76, Tryz.ntmps76
    go_wp2_with (first
      | (go_at_call 66; (with_reducible refine (HU.out _ (Only.refl _ _)).mono ?_); rintro e w1 ⟨rfl, ho1⟩; have HO1 := Lib.hid ho1; clear ho1)
      | (go_at_call 94; (with_reducible refine (HP.out _ HO1.out).mono ?_); rintro e w2 ⟨a2, rfl, ho2⟩))
    go_ret2
    exact ⟨_, _, rfl, Heard.err HK.out (HO1.out.trans ho2 (fun _ h => h.elim))⟩
theorem keepChars_him (hE : ErrsAt w es) (k : HkAt w p h) (hT : TbAt w q ag T) (hs : Src w A n b) (hn : n ≤ 256) (hnc : n ≤ c) (hcap : c ≤ 9223372036854775807) (hu : onAt T true 34 = false) (hh : onAt T false 34 = true) : HearsB 76 w p q h 34 A n c := by
  have HU : Hid (∀ W, Only (fun _ => False) w W → Calls Tryz.prog 66 #[.pointer (some ⟨q, 0, none⟩), .int .i64 0, .int .i64 34] W fun e w' => e = .returned (.bool (onAt T true 34)) ∧ Only (fun _ => False) W w') := fun W ho => on_at hT true 34 W ho
  have HH : Hid (∀ W, Only (fun _ => False) w W → Calls Tryz.prog 66 #[.pointer (some ⟨q, 0, none⟩), .int .i64 1, .int .i64 34] W fun e w' => e = .returned (.bool (onAt T false 34)) ∧ Only (fun _ => False) W w') := fun W ho => on_at hT false 34 W ho
  have HK := Lib.hid k
  rw [hu] at HU
  rw [hh] at HH
  by_cases h3 : n % 3 = 0
  · have HP : Hid (∀ W, Only (fun _ => False) w W → Calls Tryz.prog 94 #[.slice A n c] W fun e w' => ∃ A' m c', e = .returned (.tuple #[.slice A' m c', .nilIface]) ∧ m = (parseB b).length ∧ w'.ownsRow W.heap.size 126 4 (.slice A' m c') m (csT (parseB b)) ∧ Only (fun _ => False) W w') := fun W ho => sparse_ok (hs.only ho (fun _ _ _ h => h)) hnc hcap h3 (by omega)
    have HL : Hid ((parseB b).length ≤ 100) := by
      show (parseB b).length ≤ 100
      have := parseB_len _ b (Nat.le_refl _)
      have := hs.1
      omega
    obtain ⟨S, hS⟩ := k.hub.ok.sd
    have HG := Lib.hid (fun W q (h : ScSdAt W q S) A n c (hr : W.ownsRow w.heap.size 126 4 (.slice A n c) n (csT (parseB b))) (hl : (parseB b).length = n) (hn : n ≤ 1000) => gather_any h hr hl hn)
    have HTe := Lib.hid (fun W (ho : Only (fun _ => False) w W) A n c L (h : TrAt W A n L) (hn : n ≤ 100) => tellChars_any (c := c) (hE.only ho) h hn)
    obtain ⟨zs, hzs⟩ : ∃ zs, zs = sc0 := ⟨_, rfl⟩
    have hz := zero_side
    have hzl : zs.length = 90 := by rw [hzs]; exact sc0_c.len
    rw [← hzs] at hz
    obtain ⟨sd, hsd⟩ : ∃ sd, sd = h.sd := ⟨_, rfl⟩
    have hsl : sd.length = 90 := by rw [hsd]; exact hS.len
    have HSd := Lib.hid hsd
    rw [← hsd] at hS
    have HS := Lib.hid hS
    have HZ := Lib.hid hz
    have HZl := Lib.hid hzl
    have HSl := Lib.hid hsl
    have HRg : Hid (∀ W, Only (fun _ => False) w W → W.rangeAt p 18 sd) := fun W ho => by rw [hsd]; exact (k.hub.same ho).in3.range
    have HLt := Lib.hid k.hub.lt
    clear hE k hT hs hu hh hn hnc hcap h3 hzs hz hzl hsl hS hsd
    go_enter Tryz.func76, Tryz.ntmps76
    go_wp2_with (first
      | (go_at_call 66; (with_reducible refine (HU.out _ (Only.refl _ _)).mono ?_); rintro e w1 ⟨rfl, ho1⟩)
      | (go_at_call 66; (with_reducible refine (HH.out _ ho1).mono ?_); rintro e w1b ⟨rfl, ho1b⟩; have HO1 := Lib.hid (ho1.trans ho1b (fun _ h => h.elim)); clear ho1b)
      | (go_at_call 94; (with_reducible refine (HP.out _ HO1.out).mono ?_); rintro e w2 ⟨A2, m2, c2, rfl, hm2, hr2, ho2⟩; have HM2 := Lib.hid hm2; have HR2 := Lib.hid (own_mono hr2 HO1.out.size); have HO2 := Lib.hid (HO1.out.trans ho2 (fun _ h => h.elim)); clear hm2 hr2 ho2)
      | ((with_reducible show wpList _ _ _ (⟨some 32, .load _ _, _, _, _, _⟩ :: _) _ _); refine wpList_load_mid rfl 80 _ rfl p 18 rfl sd _ (HRg.out _ HO2.out) Tryz.underlying80 rfl (by rw [HSl.out]; exact sizeSd) ?_)
      | ((with_reducible show wpList _ _ _ (⟨some 10, .alloc _, _, _, _, _⟩ :: _) _ _); refine step_alloc rfl 80 rfl zs 90 HZ.out ?_)
      | ((with_reducible show wpList _ _ _ (⟨none, .store 80 (.tmp 10) _, _, _, _, _⟩ :: _) _ _); refine step_store rfl 80 _ _ rfl w2.heap.size rfl sd rfl _ zs (Blk.new w2 80 zs) (by rw [HSl.out]; exact sizeSd) (by rw [HSl.out, HZl.out]) HS.out.one ?_; intro w3 hB3 hz3 ho3; have HB3 := Lib.hid hB3; have HO3 : Hid (Only (fun _ => False) w w3) := (HO2.out.alloc _).trans ho3 (fun i hi => .inr (by rw [hi]; exact HO2.out.size)); have HR3 := Lib.hid (own_only (HR2.out.alloc _) ho3 (fun j hj e => by have := (own_lt HR2.out j hj).2; omega)); obtain ⟨N, hN⟩ : ∃ N, N = w2.heap.size := ⟨_, rfl⟩; (rw [← hN] at HB3 ⊢); have HNp : Hid (w.heap.size ≤ N) := (by rw [hN]; exact HO2.out.size); have HS3 : Hid (ScSdAt w3 N S) := Exists.intro sd ⟨HB3.out, HS.out⟩; clear hB3 hz3 ho3 hN)
      | (go_at_call 95; (with_reducible refine (HG.out _ N HS3.out _ _ _ HR3.out HM2.out.symm (by have h1 := HM2.out; have h2 := HL.out; omega)).mono ?_); rintro e w4 ⟨A4, m4, c4, M, rfl, hm4, hmn, hr4, hs4, ho4⟩; have HM4 := Lib.hid hm4; have HMn : Hid (m4 ≤ 100) := (by have h1 := HM2.out; have h2 := HL.out; show m4 ≤ 100; omega); have HR4 := hr4; have HS4 := hs4; have HO4 : Hid (Only (fun _ => False) w w4) := HO3.out.trans ho4.out (fun i hi => .inr (by rw [hi]; exact HNp.out)); clear hm4 hmn hr4 hs4 ho4)
      | (go_at_call 80; (with_reducible refine (HTe.out _ HO4.out _ _ _ _ (tris_own HR4.out HM4.out.symm) HMn.out).mono ?_); rintro e w5 ⟨v5, E5, rfl, hv5, ho5⟩; obtain ⟨S5, hS5⟩ := HS4.out; obtain ⟨cs5, hb5, hc5⟩ := hS5.same ho5.out; have HB5 := Lib.hid hb5; have HC5 := Lib.hid hc5; have HV5 := hv5; have HO5 := Lib.hid (HO4.out.trans ho5.out (fun _ h => h.elim)); have HW4 := Lib.hid HO4.out.size; clear hS5 hb5 hc5 hv5 ho5; rcases HV5.out with ⟨rfl, hv⟩ | ⟨⟨a5, rfl⟩, rfl⟩)
      | ((with_reducible show wpList _ _ _ (⟨some 44, .load _ _, _, _, _, _⟩ :: _) _ _); refine wpList_load_mid rfl 80 _ rfl N 0 rfl cs5 _ (rng_blk HB5.out) Tryz.underlying80 rfl (by rw [HC5.out.len]; exact sizeSd) ?_)
      | ((with_reducible show wpList _ _ _ (⟨none, .store 80 (.tmp 46) _, _, _, _, _⟩ :: _) _ _); refine InB.store rfl 80 _ _ rfl (HK.out.hub.same HO5.out).in3 rfl cs5 rfl (by rw [HC5.out.len]; exact sizeSd) (by rw [HC5.out.len, ← HSd.out, HSl.out]) HC5.out.one ?_; intro w6 hI6 hz6 ho6))
    · go_ret2
      have hO : Only (· = p) w w6 := (Only.mono (T := (· = p)) HO5.out (fun _ h => h.elim)).trans ho6 (fun i hi => .inl hi)
      refine ⟨_, _, rfl, .inl ⟨rfl, ?_, _, HK.out.next hO (HuAt.of_side HC5.out HK.out.hub.ok hI6.out) rfl rfl HK.out.tc⟩, hO⟩
      rcases hv with rfl | ⟨b, hb, hone⟩
      · exact .inl rfl
      · exact (hone.only ho6 (fun i hi e => by have h1 := HW4.out; have h2 := HLt.out; omega)).tol hb
    · go_ret2
      exact ⟨_, _, rfl, Heard.err HK.out HO5.out⟩
  · obtain ⟨a, ha, _⟩ := (hE.of [2, 3, 4]).get 2 9 (by decide) rfl
    have HP : Hid (∀ W, Only (fun _ => False) w W → Calls Tryz.prog 94 #[.slice A n c] W fun e w' => ∃ a, e = .returned (.tuple #[.slice none 0 0, .iface 191 (.pointer (some a))]) ∧ Only (fun _ => False) W w') := fun W ho => (sparse_short ((hE.only ho).of [2, 3, 4]) A n c h3 (by omega)).mono (fun e w' ⟨a, _, h1, h2⟩ => ⟨a, h1, h2⟩)
    clear hE k hT hs hu hh hn hnc hcap h3 ha
    go_enter Tryz.func76, Tryz.ntmps76
    go_wp2_with (first
      | (go_at_call 66; (with_reducible refine (HU.out _ (Only.refl _ _)).mono ?_); rintro e w1 ⟨rfl, ho1⟩)
      | (go_at_call 66; (with_reducible refine (HH.out _ ho1).mono ?_); rintro e w1b ⟨rfl, ho1b⟩; have HO1 := Lib.hid (ho1.trans ho1b (fun _ h => h.elim)); clear ho1b)
      | (go_at_call 94; (with_reducible refine (HP.out _ HO1.out).mono ?_); rintro e w2 ⟨a2, rfl, ho2⟩))
    go_ret2
    exact ⟨_, _, rfl, Heard.err HK.out (HO1.out.trans ho2 (fun _ h => h.elim))⟩
theorem keepChars (hE : ErrsAt w es) (k : HkAt w p h) (hT : TbAt w q ag T) (hs : Src w A n b) (hn : n ≤ 256) (hnc : n ≤ c) (hcap : c ≤ 9223372036854775807) : HearsB 76 w p q h 34 A n c := by
  cases hu : onAt T true 34 with
  | true => exact keepChars_us hE k hT hs hn hnc hcap hu
  | false =>
    cases hh : onAt T false 34 with
    | true => exact keepChars_him hE k hT hs hn hnc hcap hu hh
    | false => exact keepChars_off hE k hT hu hh
end
end Go.Proofs.YtlmkpembccehkaaGreatDoor
/- A hub hears a body of Linemode. -/
namespace Go.Proofs.YtlmkpembccehkaaGreatDoor
open Go Go.RowKit
set_option maxRecDepth 100000
set_option maxHeartbeats 4000000

section
variable {w : World} {es : List Addr} {A : Option Addr} {n c : Nat} {b : List UInt8} {p q : Nat} {h : Hb} {ag : Nat → Nat → Bool} {T : Tb}
theorem keepLines (hE : ErrsAt w es) (k : HkAt w p h) (hT : TbAt w q ag T) (hs : Src w A n b) (hn : n ≤ 256) (hnc : n ≤ c) (hcap : c ≤ 9223372036854775807) : HearsB 54 w p q h 34 A n c := by
  have HK := Lib.hid k
  by_cases h0 : n = 0
  · obtain ⟨a, ha, hst⟩ := (hE.of [2]).get 2 9 (by decide) rfl
    unfold errV at hst
    subst h0
    clear hE k hT hs hn hnc hcap ha
    go_enter Tryz.func54, Tryz.ntmps54
    go_wp2
    go_quiet (fail)
    go_wp2
    go_ret2
    exact ⟨_, _, rfl, Heard.err HK.out ((Only.refl _ _).drewN _)⟩
  · have hz : ((n : Int) == 0) = false := by simp; omega
    obtain ⟨ad, rfl, hcell⟩ := hs.2 (by omega)
    obtain ⟨x, r, rfl⟩ : ∃ x r, b = x :: r := by
      have := hs.1
      match b, this with
      | [], h => simp at h; omega
      | x :: r, _ => exact ⟨x, r, rfl⟩
    have c0 := hcell 0 x rfl
    rw [show ad.add 0 = ad from by simp [Addr.add]] at c0
    unfold B8 at c0
    have hi1 : (0 : Int) < (n : Int) := by omega
    have hx := x.toNat_lt
    have w1 : IntKind.i64.wrap (x.toNat : Int) = (x.toNat : Int) := IntWalk.i64_in _ (by omega)
    by_cases h1 : x.toNat = 1
    · have HM := Lib.hid (keepMode (c := c) hE k hT hs)
      rw [show ((x.toNat : Nat) : Int) = 1 by omega] at c0
      clear hE k hT hs hn hnc hcap hcell h0 hx w1 h1
      go_enter Tryz.func54, Tryz.ntmps54
      go_wp2_with (go_at_call 75; (with_reducible refine HM.out.mono ?_); rintro e w2 ⟨v, E, rfl, hC⟩)
      go_ret2
      exact ⟨v, E, rfl, hC⟩
    · by_cases h3 : x.toNat = 3
      · obtain ⟨D, hD⟩ : ∃ D, (if c = 1 then some ad else some ⟨ad.block, ad.off + 1, none⟩) = D := ⟨_, rfl⟩
        have hp := hs.piece 1 n (by omega) (Nat.le_refl _) D (fun hlt ad' e => by
          injection e with e
          subst e
          rw [if_neg (by omega)] at hD
          rw [← hD]
          simp [Addr.add])
        have HM := Lib.hid (keepChars (c := c - 1) hE k hT hp (by omega) (by omega) (by omega))
        have hk4 : (1 : Int) ≤ (n : Int) := by omega
        have hk5 : (n : Int) ≤ (c : Int) := by omega
        rw [show ((x.toNat : Nat) : Int) = 3 by omega] at c0
        clear hE k hT hs hn hcell h0 hx w1 h1 h3 hp
        go_enter Tryz.func54, Tryz.ntmps54
        go_wp2_with (go_at_call 76; (with_reducible refine HM.out.mono ?_); rintro e w2 ⟨v, E, rfl, hC⟩)
        go_ret2
        exact ⟨v, E, rfl, hC⟩
      · have HV := Lib.hid (fun W => verb_any W (x.toNat : Int))
        have hx1 : ((x.toNat : Int) == 1) = false := by simp; omega
        have hx3 : ((x.toNat : Int) == 3) = false := by simp; omega
        by_cases hv : 251 ≤ x.toNat ∧ x.toNat ≤ 254
        · have HM := Lib.hid (keepMask hE k hT hs hn hnc hcap)
          rw [decide_eq_true (show 251 ≤ (x.toNat : Int) ∧ (x.toNat : Int) ≤ 254 by omega)] at HV
          clear hE k hT hs hn hnc hcap hcell h0 h1 h3 hv
          go_enter Tryz.func54, Tryz.ntmps54
          go_wp2_with (first
            | (go_at_call 25; (with_reducible refine (HV.out _).mono ?_); rintro e w' ⟨rfl, e2⟩; subst w')
            | (go_at_call 77; (with_reducible refine HM.out.mono ?_); rintro e w2 ⟨v, E, rfl, hC⟩))
          go_ret2
          exact ⟨v, E, rfl, hC⟩
        · obtain ⟨a, ha, hst⟩ := (hE.of [8]).get 8 0 (by decide) rfl
          unfold errV at hst
          rw [decide_eq_false (show ¬ (251 ≤ (x.toNat : Int) ∧ (x.toNat : Int) ≤ 254) by omega)] at HV
          clear hE k hT hs hn hnc hcap hcell h0 h1 h3 hv ha
          go_enter Tryz.func54, Tryz.ntmps54
          go_wp2_with (first
            | (go_at_call 25; (with_reducible refine (HV.out _).mono ?_); rintro e w' ⟨rfl, e2⟩; subst w'))
          go_quiet (fail)
          go_wp2
          go_ret2
          exact ⟨_, _, rfl, Heard.err HK.out ((Only.refl _ _).drewN _)⟩
end
end Go.Proofs.YtlmkpembccehkaaGreatDoor
/- Layer 17 as plain functions: a report's number, body and line; what a body says. -/
namespace Go.Proofs.YtlmkpembccehkaaGreatDoor
open Go
set_option maxRecDepth 100000

/-- A verb and an option. -/
structure En where
  v : Int
  o : Int
@[reducible] def En.cs (e : En) : List Value := [.int .i64 e.v, .int .i64 e.o]
theorem En.cs_one (e : En) : ∀ v ∈ e.cs, v.oneCell' = true := by
  intro v hv
  simp only [En.cs, List.mem_cons, List.not_mem_nil, or_false] at hv
  rcases hv with rfl | rfl <;> rfl
def csE (l : List En) : List Value := l.flatMap En.cs
theorem csE_append (l m : List En) : csE (l ++ m) = csE l ++ csE m := by simp [csE]
theorem csE_one (x : En) : csE [x] = x.cs := by simp [csE]
abbrev EnAt := LsOf En.cs 2
theorem csE_length (l : List En) : (csE l).length = l.length * 2 := by
  induction l with
  | nil => rfl
  | cons x l ih => rw [show csE (x :: l) = x.cs ++ csE l from rfl, List.length_append, ih, List.length_cons]; simp; omega

/-- The number of the first error in a list; 0: there is none. -/
def enBad : List En → Nat
  | [] => 0
  | x :: l => if decide (251 ≤ x.v ∧ x.v ≤ 254) then (if decide (0 ≤ x.o ∧ x.o ≤ 255) then enBad l else 1) else 9
theorem enBad_cons (v o : Int) (l : List En) : enBad (⟨v, o⟩ :: l) = if decide (251 ≤ v ∧ v ≤ 254) then (if decide (0 ≤ o ∧ o ≤ 255) then enBad l else 1) else 9 := rfl
def enBytes : List En → List UInt8
  | [] => []
  | x :: l => b8 x.v :: b8 x.o :: enBytes l
def suNum (l : List En) : Nat := if 120 < l.length then 4 else enBad l
def suBody (l : List En) : List UInt8 := if suNum l = 0 then 0 :: enBytes l else []
theorem enBytes_length (l : List En) : (enBytes l).length = l.length * 2 := by
  induction l with
  | nil => rfl
  | cons x l ih => rw [enBytes, List.length_cons, List.length_cons, ih, List.length_cons]; omega

/-- What the bytes behind the first one say. -/
def enPairs : List UInt8 → List En
  | a :: b :: r => ⟨a.toNat, b.toNat⟩ :: enPairs r
  | _ => []
def enKind : List UInt8 → Bool
  | a :: _ :: r => decide (251 ≤ (a.toNat : Int) ∧ (a.toNat : Int) ≤ 254) && enKind r
  | _ => true
/-- The number of a body's error. -/
def paNum : List UInt8 → Nat
  | [] => 3
  | x :: r => if x.toNat = 1 then (if r.length = 0 then 0 else 4) else if x.toNat ≠ 0 then 5 else if r.length % 2 = 1 then 3 else if enKind r then 0 else 9
def paAsks (b : List UInt8) : Bool := b == [1]
def paList : List UInt8 → List En
  | x :: r => if x.toNat = 0 ∧ r.length % 2 = 0 ∧ enKind r = true then enPairs r else []
  | [] => []
theorem enPairs_length : ∀ (n : Nat) (r : List UInt8), r.length = 2 * n → (enPairs r).length = n
  | 0, [], _ => rfl
  | 0, _ :: _, h => by simp at h
  | n + 1, [], h => by simp at h
  | n + 1, [_], h => by simp at h; omega
  | n + 1, _ :: _ :: r, h => by
    rw [enPairs, List.length_cons, enPairs_length n r (by simp at h; omega)]

theorem enPairs_short : ∀ (n : Nat) (r : List UInt8), r.length ≤ n → (enPairs r).length ≤ n
  | _, [], _ => by simp [enPairs]
  | _, [_], _ => by simp [enPairs]
  | 0, _ :: _ :: _, h => by simp at h
  | n + 1, _ :: _ :: r, h => by
    rw [enPairs, List.length_cons]
    have := enPairs_short n r (by simp at h; omega)
    omega
theorem paList_length (b : List UInt8) (h : b.length ≤ 1000) : (paList b).length ≤ 1000 := by
  cases b with
  | nil => simp [paList]
  | cons x r =>
    rw [paList]
    split
    · exact enPairs_short 1000 r (by simp at h; omega)
    · simp
/-- A report is parsed from its body as it was. -/
theorem pairs_back : ∀ l : List En, enBad l = 0 → enPairs (enBytes l) = l ∧ enKind (enBytes l) = true
  | [], _ => ⟨rfl, rfl⟩
  | x :: l, h => by
    unfold enBad at h
    by_cases hv : 251 ≤ x.v ∧ x.v ≤ 254
    · rw [decide_eq_true hv, if_pos rfl] at h
      by_cases ho : 0 ≤ x.o ∧ x.o ≤ 255
      · rw [decide_eq_true ho, if_pos rfl] at h
        obtain ⟨h1, h2⟩ := pairs_back l h
        have e1 : ((b8 x.v).toNat : Int) = x.v := by rw [b8_nat (by omega) (by omega)]; omega
        have e2 : ((b8 x.o).toNat : Int) = x.o := by rw [b8_nat (by omega) (by omega)]; omega
        rw [enBytes, enPairs, enKind, h1, h2, e1, e2, decide_eq_true hv]
        exact ⟨rfl, rfl⟩
      · rw [decide_eq_false ho] at h
        simp at h
    · rw [decide_eq_false hv] at h
      simp at h
theorem body_back {l : List En} (h : suNum l = 0) : paNum (suBody l) = 0 ∧ paAsks (suBody l) = false ∧ paList (suBody l) = l := by
  unfold suBody
  rw [if_pos h]
  unfold suNum at h
  have hb : enBad l = 0 := by
    split at h
    · cases h
    · exact h
  obtain ⟨h1, h2⟩ := pairs_back l hb
  have hl : (enBytes l).length % 2 = 0 := by rw [enBytes_length]; omega
  refine ⟨?_, ?_, ?_⟩
  · rw [paNum, if_neg (by decide), if_neg (by decide), if_neg (by omega), if_pos h2]
  · unfold paAsks
    exact beq_eq_false_iff_ne.2 (fun e => by injection e with e _; cases e)
  · rw [paList, if_pos ⟨by decide, hl, h2⟩, h1]

end Go.Proofs.YtlmkpembccehkaaGreatDoor
/- The law's own: reports as the document's, and two of these. -/
namespace Go.Proofs.YtlmkpembccehkaaGreatDoor
open Go Go.RowKit
set_option maxRecDepth 100000
set_option maxHeartbeats 4000000

theorem size_en : (Tryz.prog.info? 185).map (·.size) = some 2 := by kernel_rfl
theorem info_en : (Tryz.prog.info? 185).map (fun i => (i.zero, i.size, i.bytes)) = some (some (.agg (En.cs ⟨0, 0⟩).toArray), 2, 16) := by kernel_rfl
end Go.Proofs.YtlmkpembccehkaaGreatDoor
