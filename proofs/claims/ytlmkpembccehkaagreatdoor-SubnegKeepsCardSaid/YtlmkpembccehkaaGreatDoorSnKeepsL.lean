/- SubnegKeeps: what a hub hears changes nothing where it is an error, and what it tells can be told. -/
import Derived.Test.YtlmkpembccehkaaGreatDoorJSnMaps
import Derived.Test.YtlmkpembccehkaaGreatDoorJTextsFew
import Derived.Test.YtlmkpembccehkaaGreatDoorJRefuse
import Derived.Test.YtlmkpembccehkaaGreatDoorJSnTurned
import Derived.Test.YtlmkpembccehkaaGreatDoorSnReset
import Derived.Test.YtlmkpembccehkaaGreatDoorJTbHear
import Derived.Test.YtlmkpembccehkaaGreatDoorJEmit
import Derived.Test.YtlmkpembccehkaaGreatDoorJIacSay
namespace Go.Proofs.YtlmkpembccehkaaGreatDoor
open Go Go.RowKit
set_option maxRecDepth 100000
set_option maxHeartbeats 4000000

theorem cfg_size : (Tryz.prog.info? 27).map (·.size) = some 5 := by kernel_rfl
theorem tokS : (Tryz.prog.info? 47).map (·.size) = some 5 := by kernel_rfl
theorem subS : (Tryz.prog.info? 55).map (·.size) = some 2 := by kernel_rfl
/-- A row of tokens that came in. -/
structure TkS (w : World) (A : Option Addr) (n : Nat) (ps : List TkP) : Prop where
  len : ps.length = n
  at_ : ∀ (i : Nat) (x : TkP), ps[i]? = some x → ∃ g off, A = some ⟨g, off, none⟩ ∧ w.rangeAt g (off + i * 5) x.cells ∧ Src w x.ad x.t.body.length x.t.body ∧ x.t.body.length ≤ x.cap ∧ x.cap ≤ 9223372036854775807
theorem TkS.same {w w' : World} {A : Option Addr} {n : Nat} {ps : List TkP} (h : TkS w A n ps) (ho : Only (fun _ => False) w w') : TkS w' A n ps :=
  ⟨h.len, fun i x hx => by
    obtain ⟨g, off, e, h1, h2, h3⟩ := h.at_ i x hx
    exact ⟨g, off, e, fun j v hv => ho.cellv (h1 j v hv) (fun h => h), h2.only ho (fun _ _ _ h => h), h3⟩⟩
section
variable {w : World} {es : List Addr} {A B IA KA : Option Addr} {n cA m cB ni ic nk kc : Nat} {ts : List (List UInt8)} {cc cr can : Int} {l : List Se} {zs : List Int} {ps : List TkP}
theorem keeps_long (hts : TSrc w A n ts) (hn : n ≤ 9223372036854775807) (h : snLong ts m = true ∨ 40 < ni ∨ 20 < nk) : Calls Tryz.prog 3 #[cfV cc cr A n cA B m cB can, .slice IA ni ic, .slice KA nk kc] w (Fine w) := by
  have HA := Lib.hid snAlive_any
  have HL : Hid (∀ W, Only (fun _ => False) w W → Calls Tryz.prog 6 #[cfV cc cr A n cA B m cB can] W fun e w' => e = .returned (.bool (snLong ts m)) ∧ Only (fun _ => False) W w') := fun W ho => snLong_any (hts.same ho) hn
  have HB : Hid (∀ W, Only (fun _ => False) (w.alloc (.cells (cfC cc cr A n cA B m cB can).toArray 27)) W → Blk W w.heap.size 27 (cfC cc cr A n cA B m cB can)) := fun W ho => (Blk.new w 27 (cfC cc cr A n cA B m cB can)).only ho (fun h => h)
  cases hl : snLong ts m with
  | true =>
    rw [hl] at HL
    clear hts hn hl h
    go_enter Tryz.func3, Tryz.ntmps3
    go_wp2_with (first
      | (go_at_call 5; (with_reducible refine (HA.out _).mono ?_); rintro e w1 ⟨rfl, ho1⟩; have HO1 : Hid (Only (fun _ => False) w w1) := ((Only.refl _ _).alloc _).trans ho1 (fun _ h => h.elim); have HB1 := Lib.hid (HB.out _ ho1); clear ho1)
      | ((with_reducible show wpList _ _ _ (⟨some 27, .load _ _, _, _, _, _⟩ :: _) _ _); refine wpList_load_mid rfl 27 _ rfl w.heap.size 0 rfl (cfC cc cr A n cA B m cB can) _ (rng_blk HB1.out) Tryz.underlying27 rfl cfg_size ?_)
      | (go_at_call 6; (with_reducible refine (HL.out _ HO1.out).mono ?_); rintro e w2 ⟨rfl, ho2⟩; have HO2 : Hid (Only (fun _ => False) w w2) := HO1.out.trans ho2 (fun _ h => h.elim); have HB2 := Lib.hid (HB1.out.only ho2 (fun h => h)); clear ho2))
    go_ret
    exact ⟨rfl, HO2.out⟩
  | false =>
    rw [hl] at h
    rw [hl] at HL
    by_cases hi : 40 < ni
    · have hd : decide ((40 : Int) < (ni : Int)) = true := by simp; omega
      clear hts hn hl h hi
      go_enter Tryz.func3, Tryz.ntmps3
      go_wp2_with (first
        | (go_at_call 5; (with_reducible refine (HA.out _).mono ?_); rintro e w1 ⟨rfl, ho1⟩; have HO1 : Hid (Only (fun _ => False) w w1) := ((Only.refl _ _).alloc _).trans ho1 (fun _ h => h.elim); have HB1 := Lib.hid (HB.out _ ho1); clear ho1)
        | ((with_reducible show wpList _ _ _ (⟨some 27, .load _ _, _, _, _, _⟩ :: _) _ _); refine wpList_load_mid rfl 27 _ rfl w.heap.size 0 rfl (cfC cc cr A n cA B m cB can) _ (rng_blk HB1.out) Tryz.underlying27 rfl cfg_size ?_)
        | (go_at_call 6; (with_reducible refine (HL.out _ HO1.out).mono ?_); rintro e w2 ⟨rfl, ho2⟩; have HO2 : Hid (Only (fun _ => False) w w2) := HO1.out.trans ho2 (fun _ h => h.elim); have HB2 := Lib.hid (HB1.out.only ho2 (fun h => h)); clear ho2))
      go_ret
      exact ⟨rfl, HO2.out⟩
    · have hd : decide ((40 : Int) < (ni : Int)) = false := by simp; omega
      have hd2 : decide ((20 : Int) < (nk : Int)) = true := by simp at h ⊢; omega
      clear hts hn hl h hi
      go_enter Tryz.func3, Tryz.ntmps3
      go_wp2_with (first
        | (go_at_call 5; (with_reducible refine (HA.out _).mono ?_); rintro e w1 ⟨rfl, ho1⟩; have HO1 : Hid (Only (fun _ => False) w w1) := ((Only.refl _ _).alloc _).trans ho1 (fun _ h => h.elim); have HB1 := Lib.hid (HB.out _ ho1); clear ho1)
        | ((with_reducible show wpList _ _ _ (⟨some 27, .load _ _, _, _, _, _⟩ :: _) _ _); refine wpList_load_mid rfl 27 _ rfl w.heap.size 0 rfl (cfC cc cr A n cA B m cB can) _ (rng_blk HB1.out) Tryz.underlying27 rfl cfg_size ?_)
        | (go_at_call 6; (with_reducible refine (HL.out _ HO1.out).mono ?_); rintro e w2 ⟨rfl, ho2⟩; have HO2 : Hid (Only (fun _ => False) w w2) := HO1.out.trans ho2 (fun _ h => h.elim); have HB2 := Lib.hid (HB1.out.only ho2 (fun h => h)); clear ho2))
      go_ret
      exact ⟨rfl, HO2.out⟩
theorem keeps_bad (hE : ErrsAt w es) (hts : TSrc w A n ts) (hn : n ≤ 9223372036854775807) (hl : snLong ts m = false) (hi : ni ≤ 40) (hk : nk ≤ 20) (hg : cfGood cc cr ts = false) : Calls Tryz.prog 3 #[cfV cc cr A n cA B m cB can, .slice IA ni ic, .slice KA nk kc] w (Fine w) := by
  have HA := Lib.hid snAlive_any
  have HL : Hid (∀ W, Only (fun _ => False) w W → Calls Tryz.prog 6 #[cfV cc cr A n cA B m cB can] W fun e w' => e = .returned (.bool (snLong ts m)) ∧ Only (fun _ => False) W w') := fun W ho => snLong_any (hts.same ho) hn
  rw [hl] at HL
  have HN := Lib.hid (fun W (ho : Only (fun _ => False) w W) => snNew_bad (cA := cA) (B := B) (m := m) (cB := cB) (can := can) (hE.only ho) (hts.same ho) hg)
  have HB : Hid (∀ W, Only (fun _ => False) (w.alloc (.cells (cfC cc cr A n cA B m cB can).toArray 27)) W → Blk W w.heap.size 27 (cfC cc cr A n cA B m cB can)) := fun W ho => (Blk.new w 27 (cfC cc cr A n cA B m cB can)).only ho (fun h => h)
  have hd : decide ((40 : Int) < (ni : Int)) = false := by simp; omega
  have hd2 : decide ((20 : Int) < (nk : Int)) = false := by simp; omega
  clear hts hn hl hi hk hE hg
  go_enter Tryz.func3, Tryz.ntmps3
  go_wp2_with (first
    | (go_at_call 5; (with_reducible refine (HA.out _).mono ?_); rintro e w1 ⟨rfl, ho1⟩; have HO1 : Hid (Only (fun _ => False) w w1) := ((Only.refl _ _).alloc _).trans ho1 (fun _ h => h.elim); have HB1 := Lib.hid (HB.out _ ho1); clear ho1)
    | ((with_reducible show wpList _ _ _ (⟨some 27, .load _ _, _, _, _, _⟩ :: _) _ _); refine wpList_load_mid rfl 27 _ rfl w.heap.size 0 rfl (cfC cc cr A n cA B m cB can) _ (rng_blk HB1.out) Tryz.underlying27 rfl cfg_size ?_)
    | (go_at_call 6; (with_reducible refine (HL.out _ HO1.out).mono ?_); rintro e w2 ⟨rfl, ho2⟩; have HO2 : Hid (Only (fun _ => False) w w2) := HO1.out.trans ho2 (fun _ h => h.elim); have HB2 := Lib.hid (HB1.out.only ho2 (fun h => h)); clear ho2)
    | ((with_reducible show wpList _ _ _ (⟨some 40, .load _ _, _, _, _, _⟩ :: _) _ _); refine wpList_load_mid rfl 27 _ rfl w.heap.size 0 rfl (cfC cc cr A n cA B m cB can) _ (rng_blk HB2.out) Tryz.underlying27 rfl cfg_size ?_)
    | (go_at_call 7; (with_reducible refine (HN.out _ HO2.out).mono ?_); rintro e w3 ⟨a, rfl, ho3⟩; have HO3 : Hid (Only (fun _ => False) w w3) := HO2.out.trans ho3.out (fun _ h => h.elim); clear ho3))
  go_ret
  exact ⟨rfl, HO3.out⟩
theorem HkAt.beside {w w' : World} {p q : Nat} {h : Hb} (k : HkAt w p h) (ho : Only (· = q) w w') (hpq : p ≠ q) (hc : ∀ A n c, h.ca = .slice A n c → 0 < n → ∀ ad, A = some ad → ad.block ≠ q) : HkAt w' p h := by
  obtain ⟨ts, j, hy⟩ := k.cyc
  obtain ⟨A, c, h1, h2⟩ := hy.ca
  exact ⟨k.hub.only ho hpq, ⟨ts, j, ⟨⟨A, c, h1, h2.only ho (fun hn ad e => hc A _ c h1 hn ad e)⟩, hy.ck, hy.one, hy.most, hy.okT⟩⟩, k.old, k.tc⟩
theorem sent_le1 (k : Nat) : sentN k ≤ 1 := by unfold sentN; split <;> omega
/-- A table hears a verb of whatever option. -/
theorem hearZ {W : World} (hT : TbW W) {p : Nat} {ag : Nat → Nat → Bool} {t : Tb} (h : TbAt W p ag t) {v : Int} (hv : 251 ≤ v ∧ v ≤ 254) (o : Int) {k : Nat} (hn : t.sent ≤ k) (hh : t.heard ≤ k) (hk : k ≤ 1000) :
    Calls Tryz.prog 9 #[.pointer (some ⟨p, 0, none⟩), .int .i64 v, .int .i64 o] W fun e w' => ∃ x y, e = .returned (.tuple #[x, y]) ∧ Hid (∃ t' : Tb, TbAt w' p ag t' ∧ t'.sent ≤ k + 1 ∧ t'.heard ≤ k + 1) ∧ Hid (Only (· = p) W w') := by
  obtain ⟨v, rfl⟩ : ∃ u : Nat, v = (u : Int) := ⟨v.toNat, by omega⟩
  by_cases ho : 0 ≤ o ∧ o ≤ 255
  · obtain ⟨x, rfl⟩ : ∃ x : Nat, o = (x : Int) := ⟨o.toNat, by omega⟩
    refine (thear_some hT h (v := v) (o := x) (by omega) (by omega) (by omega) (by omega)).mono fun e w' ⟨h1, h2, h3⟩ => ⟨_, _, h1, ⟨_, h2, ?_⟩, h3⟩
    simp only [Tb.hear]
    have := sent_le1 (hearQ (t.st (sideV v) x) (forV v) (ag (sideV v) x)).2.1
    omega
  · exact (thear_range hT p (v := (v : Int)) (by omega) ho).mono fun e w' ⟨⟨u, x, _, h1⟩, h2⟩ => ⟨_, _, h1, ⟨t, h.same h2, by omega, by omega⟩, h2.mono (fun _ h => h.elim)⟩
theorem keeps_main (hE : ErrsAt w es) (hTW : TbW w) (hts : TSrc w A n ts) (hn : n ≤ 9223372036854775807) (hst : StAt w B m l) (hm : m ≤ cB) (hcB : cB ≤ 9223372036854775807) (hz : Ints w IA ni zs) (hks : TkS w KA nk ps) (hl : snLong ts m = false) (hi : ni ≤ 40) (hk : nk ≤ 20) (hg : cfGood cc cr ts = true) : Calls Tryz.prog 3 #[cfV cc cr A n cA B m cB can, .slice IA ni ic, .slice KA nk kc] w (Fine w) := by
  have HA := Lib.hid snAlive_any
  have HL : Hid (∀ W, Only (fun _ => False) w W → Calls Tryz.prog 6 #[cfV cc cr A n cA B m cB can] W fun e w' => e = .returned (.bool (snLong ts m)) ∧ Only (fun _ => False) W w') := fun W ho => snLong_any (hts.same ho) hn
  rw [hl] at HL
  have HN := Lib.hid (fun W (ho : Only (fun _ => False) w W) => snNew_ok (cA := cA) (cB := cB) (can := can) (hts.same ho) (hst.same ho) hm hcB hg)
  have HTn := Lib.hid (fun W (ho : Only (fun _ => False) w W) => new_any ic ic (hz.only ho (fun _ _ _ h => h)) (hz.only ho (fun _ _ _ h => h)) (by omega) (by omega))
  have HB : Hid (∀ W, Only (fun _ => False) (w.alloc (.cells (cfC cc cr A n cA B m cB can).toArray 27)) W → Blk W w.heap.size 27 (cfC cc cr A n cA B m cB can)) := fun W ho => (Blk.new w 27 (cfC cc cr A n cA B m cB can)).only ho (fun h => h)
  have hd : decide ((40 : Int) < (ni : Int)) = false := by simp; omega
  have hd2 : decide ((20 : Int) < (nk : Int)) = false := by simp; omega
  have HE := Lib.hid hE
  have HTW := Lib.hid hTW
  have HZ := Lib.hid hz
  have HKs := Lib.hid hks
  clear hts hn hl hE hg hTW hst hm hcB hz hks
  go_enter Tryz.func3, Tryz.ntmps3
  go_wp2_with (first
    | (go_at_call 5; (with_reducible refine (HA.out _).mono ?_); rintro e w1 ⟨rfl, ho1⟩; have HO1 : Hid (Only (fun _ => False) w w1) := ((Only.refl _ _).alloc _).trans ho1 (fun _ h => h.elim); have HB1 := Lib.hid (HB.out _ ho1); clear ho1)
    | ((with_reducible show wpList _ _ _ (⟨some 27, .load _ _, _, _, _, _⟩ :: _) _ _); refine wpList_load_mid rfl 27 _ rfl w.heap.size 0 rfl (cfC cc cr A n cA B m cB can) _ (rng_blk HB1.out) Tryz.underlying27 rfl cfg_size ?_)
    | (go_at_call 6; (with_reducible refine (HL.out _ HO1.out).mono ?_); rintro e w2 ⟨rfl, ho2⟩; have HO2 : Hid (Only (fun _ => False) w w2) := HO1.out.trans ho2 (fun _ h => h.elim); have HB2 := Lib.hid (HB1.out.only ho2 (fun h => h)); clear ho2)
    | ((with_reducible show wpList _ _ _ (⟨some 40, .load _ _, _, _, _, _⟩ :: _) _ _); refine wpList_load_mid rfl 27 _ rfl w.heap.size 0 rfl (cfC cc cr A n cA B m cB can) _ (rng_blk HB2.out) Tryz.underlying27 rfl cfg_size ?_)
    | (go_at_call 7; (with_reducible refine (HN.out _ HO2.out).mono ?_); rintro e w3 ⟨p, rfl, hh3, ho3⟩; have HH3 := hh3; have HO3 : Hid (Only (fun _ => False) w w3) := HO2.out.trans ho3.out (fun _ h => h.elim); have HZ2 := Lib.hid HO2.out.size; clear hh3 ho3)
    | (go_at_call 8; (with_reducible refine (HTn.out _ HO3.out).mono ?_); rintro e w4 ⟨q, rfl, ht4, hq4, ho4⟩; have HT4 := Lib.hid ht4; have HQ4 := Lib.hid hq4; have HO34 := Lib.hid ho4; have HO4 : Hid (Only (fun _ => False) w w4) := HO3.out.trans ho4 (fun _ h => h.elim); clear ht4 hq4 ho4))
  obtain ⟨h3, hh3⟩ := HH3.out
  obtain ⟨can', htc⟩ := hh3.tc
  have HK3 : Hid (HkAt w3 p h3) := ⟨hh3.hub, ⟨ts, 0, hh3.cyc⟩, fun A n c e hn ad ha => by have := hh3.old A n c e ad ha hn; omega, by rw [htc]; exact canOf_mask can'⟩
  have HK4 := Lib.hid (HK3.out.same HO34.out)
  have HOl : Hid (∀ A n c, h3.ca = .slice A n c → 0 < n → ∀ ad, A = some ad → ad.block < p) := fun A n c e hn ad ha => hh3.old A n c e ad ha hn
  have hpq : w.heap.size ≤ p ∧ p < q ∧ w.heap.size ≤ q := by
    have h1 := hh3.new
    have h2 := hh3.hub.lt
    have h3 := HQ4.out
    have h4 := HZ2.out
    omega
  clear hh3 htc HH3
  go_loopw [60] (fun s W => ∃ k : Nat, k ≤ ni ∧ s = .int .i64 (k : Int) ∧ Hid (∃ T, TbAt W q (agOf zs zs) T ∧ T.sent ≤ k ∧ T.heard ≤ k ∧ Only (fun _ => False) w W ∧ HkAt W p h3)) (fun s _ => ni - (intOf s).toNat)
  case atStart => exact ⟨0, Nat.zero_le _, rfl, _, HT4.out, Nat.le_refl _, Nat.le_refl _, HO4.out, HK4.out⟩
  case round =>
    obtain ⟨k, hkn, rfl, hrel⟩ := hrel
    obtain ⟨T, hT, hsn, hhn, hon, hkk⟩ := hrel.out
    have HT := Lib.hid hT
    have HOn := Lib.hid hon
    have HKk := Lib.hid hkk
    clear hrel
    by_cases hlt : k < ni
    · have hlt2 : (k : Int) < (ni : Int) := by omega
      obtain ⟨ad, rfl, hcell⟩ := HZ.out.2 (by omega)
      obtain ⟨z, hzk⟩ : ∃ z, zs[k]? = some z := ⟨_, List.getElem?_eq_getElem (by rw [HZ.out.1]; exact hlt)⟩
      have cz := hon.cellv (hcell k z hzk) (fun h => h)
      have HHr := Lib.hid (fun (v : Int) (hv : 251 ≤ v ∧ v ≤ 254) => hearZ (HTW.out.only hon) hT (v := v) hv z hsn hhn (by omega))
      clear hT hsn hhn hon hkk hcell hzk
      rcases Nat.mod_two_eq_zero_or_one k with h2 | h2
      · have e1 : (k : Int).tmod 2 = 0 := by
          rw [Int.tmod_eq_emod_of_nonneg (by omega)]
          omega
        have HH1 := Lib.hid (HHr.out 251 (by omega))
        clear h2 HHr
        go_wp2_with (go_at_call 9; (with_reducible refine HH1.out.mono ?_); rintro e w5 ⟨x, y, rfl, ht5, ho5⟩)
        go_roundw
        case rel =>
          obtain ⟨T5, h1, h2, h3⟩ := ht5.out
          exact ⟨k + 1, by omega, by go_num, T5, h1, h2, h3, HOn.out.trans ho5.out (fun i hi => .inr (by rw [hi]; exact hpq.2.2)), HKk.out.beside ho5.out (by omega) (fun A n c e hn ad ha => by have := HOl.out A n c e hn ad ha; omega)⟩
        case measure => simp [intOf]; omega
      · have e1 : (k : Int).tmod 2 = 1 := by
          rw [Int.tmod_eq_emod_of_nonneg (by omega)]
          omega
        have HH1 := Lib.hid (HHr.out 253 (by omega))
        clear h2 HHr
        go_wp2_with (go_at_call 9; (with_reducible refine HH1.out.mono ?_); rintro e w5 ⟨x, y, rfl, ht5, ho5⟩)
        go_roundw
        case rel =>
          obtain ⟨T5, h1, h2, h3⟩ := ht5.out
          exact ⟨k + 1, by omega, by go_num, T5, h1, h2, h3, HOn.out.trans ho5.out (fun i hi => .inr (by rw [hi]; exact hpq.2.2)), HKk.out.beside ho5.out (by omega) (fun A n c e hn ad ha => by have := HOl.out A n c e hn ad ha; omega)⟩
        case measure => simp [intOf]; omega
    · have hT5 : ∃ T, TbAt wr q (agOf zs zs) T := ⟨T, hT⟩
      have HT5 := Lib.hid hT5
      clear hT hsn hhn hon hkk hT5
      go_wp2
      go_loopw [78] (fun s W => ∃ k : Nat, k ≤ nk ∧ s = .int .i64 (k : Int) ∧ Hid (∃ h T, HkAt W p h ∧ TbAt W q (agOf zs zs) T ∧ Only (fun _ => False) w W)) (fun s _ => nk - (intOf s).toNat)
      case atStart =>
        obtain ⟨T5, hT5⟩ := HT5.out
        exact ⟨0, Nat.zero_le _, rfl, h3, T5, HKk.out, hT5, HOn.out⟩
      case round =>
        obtain ⟨k, hkn2, rfl, hrel⟩ := hrel
        obtain ⟨h, T, hkk, hT, hon⟩ := hrel.out
        have HK := Lib.hid hkk
        have HT := Lib.hid hT
        have HOn2 := Lib.hid hon
        have hpr : p < wr.heap.size := hkk.hub.lt
        clear hrel HT5 HKk
        by_cases hlt2 : k < nk
        · have hlt3 : (k : Int) < (nk : Int) := by omega
          obtain ⟨⟨⟨kd, cd, op, b, ct⟩, ad, cap⟩, hx⟩ : ∃ x, ps[k]? = some x := ⟨_, List.getElem?_eq_getElem (by rw [HKs.out.len]; exact hlt2)⟩
          obtain ⟨g, off, rfl, hrg, hsb, hbc, hcap⟩ := (HKs.out.same hon).at_ k _ hx
          obtain ⟨bn, hbn⟩ : ∃ bn, bn = b.length := ⟨_, rfl⟩
          have HRg : Hid (wr.rangeAt g (off + k * 5) [.int .i64 kd, .int .i64 cd, .int .i64 op, .slice ad bn cap, .bool ct]) := by rw [hbn]; exact hrg
          have HSb : Hid (Src wr ad bn b) := by rw [hbn]; exact hsb
          have hbc2 : bn ≤ cap := by rw [hbn]; exact hbc
          clear hrg hsb hbc hbn hx
          by_cases hlong : 256 < bn
          · have hd3 : decide ((256 : Int) < (bn : Int)) = true := by simp; omega
            clear hkk hT hon hlong
            go_wp2_with (first
              | ((with_reducible show wpList _ _ _ (⟨some 81, .load _ _, _, _, _, _⟩ :: _) _ _); refine wpList_load_mid rfl 47 _ rfl g (off + k * 5) rfl [.int .i64 kd, .int .i64 cd, .int .i64 op, .slice ad bn cap, .bool ct] _ HRg.out Tryz.underlying47 rfl tokS ?_))
            go_ret
            exact ⟨rfl, HOn2.out.alloc _⟩
          · have hd3 : decide ((256 : Int) < (bn : Int)) = false := by simp; omega
            obtain ⟨S, hS⟩ := hkk.hub.ok.sd
            have HPe := Lib.hid (fun W (p : Nat) (h : Hb) (k : HkAt W p h) => huPeer_any k.hub)
            have HHd := Lib.hid (fun W (p : Nat) (h : Hb) (k : HkAt W p h) => huHead_any k.hub)
            have HTl := Lib.hid (fun W (p : Nat) (h : Hb) (k : HkAt W p h) => huTail_any k.hub)
            have HWa : Hid (∀ W, HkAt W p h → Calls Tryz.prog 13 #[.pointer (some ⟨p, 0, none⟩)] W fun e w' => e = .returned (.int .i64 (h.waits S : Int)) ∧ Only (fun _ => False) W w') := fun W k => huWaits_any k.hub hS
            have HTy := Lib.hid (fun W (p : Nat) (h : Hb) (k : HkAt W p h) => huTypes_any k.hub)
            have HHe := Lib.hid (fun W (ho : Only (fun _ => False) wr W) => hubHear_any (c := cap) (HE.out.only (hon.trans ho (fun _ h => h.elim))) (hkk.same ho) (hT.same ho) (HSb.out.only ho (fun _ _ _ h => h)) (by omega) hbc2 hcap kd cd op ct)
            have HB5 : Hid (∀ W, Only (fun _ => False) (wr.alloc (.cells #[.int .i64 kd, .int .i64 cd, .int .i64 op, .slice ad bn cap, .bool ct] 47)) W → Blk W wr.heap.size 47 [.int .i64 kd, .int .i64 cd, .int .i64 op, .slice ad bn cap, .bool ct]) := fun W ho => (Blk.new wr 47 [.int .i64 kd, .int .i64 cd, .int .i64 op, .slice ad bn cap, .bool ct]).only ho (fun h => h)
            obtain ⟨wt, hwt⟩ : ∃ wt : Int, wt = (h.waits S : Int) := ⟨_, rfl⟩
            rw [← hwt] at HWa
            unfold szVal at HPe
            have HPe1 : Hid (∀ W, Only (fun _ => False) wr W → _) := fun W ho => HPe.out W p h (HK.out.same ho)
            have HHd1 : Hid (∀ W, Only (fun _ => False) wr W → _) := fun W ho => HHd.out W p h (HK.out.same ho)
            have HTl1 : Hid (∀ W, Only (fun _ => False) wr W → _) := fun W ho => HTl.out W p h (HK.out.same ho)
            have HWa1 : Hid (∀ W, Only (fun _ => False) wr W → _) := fun W ho => HWa.out W (HK.out.same ho)
            have HTy1 : Hid (∀ W, Only (fun _ => False) wr W → _) := fun W ho => HTy.out W p h (HK.out.same ho)
            obtain ⟨pc, hpc⟩ : ∃ pc, pc = h.pc := ⟨_, rfl⟩
            obtain ⟨pr, hpr'⟩ : ∃ pr, pr = h.pr := ⟨_, rfl⟩
            obtain ⟨hm', hhm'⟩ : ∃ hm', hm' = h.hm := ⟨_, rfl⟩
            obtain ⟨tm', htm'⟩ : ∃ tm', tm' = h.tm := ⟨_, rfl⟩
            obtain ⟨nl, hnl⟩ : ∃ nl, nl = h.li.names.length := ⟨_, rfl⟩
            rw [← hpc, ← hpr'] at HPe1
            rw [← hhm'] at HHd1
            rw [← htm'] at HTl1
            rw [← hnl] at HTy1
            clear hkk hT hon hlong hS hwt hcap hbc2
            go_wp2_with (first
              | ((with_reducible show wpList _ _ _ (⟨some 81, .load _ _, _, _, _, _⟩ :: _) _ _); refine wpList_load_mid rfl 47 _ rfl g (off + k * 5) rfl [.int .i64 kd, .int .i64 cd, .int .i64 op, .slice ad bn cap, .bool ct] _ HRg.out Tryz.underlying47 rfl tokS ?_)
              | (go_at_call 10; (with_reducible refine (HPe1.out _ ((Only.refl _ _).alloc _)).mono ?_); rintro e w6 ⟨rfl, ho6⟩; have HO6 : Hid (Only (fun _ => False) wr w6) := ((Only.refl _ _).alloc _).trans ho6 (fun _ h => h.elim); have HA6 := Lib.hid ho6; clear ho6)
              | (go_at_call 11; (with_reducible refine (HHd1.out _ HO6.out).mono ?_); rintro e w' ⟨rfl, e2⟩; subst w')
              | (go_at_call 12; (with_reducible refine (HTl1.out _ HO6.out).mono ?_); rintro e w' ⟨rfl, e2⟩; subst w')
              | (go_at_call 13; (with_reducible refine (HWa1.out _ HO6.out).mono ?_); rintro e w7 ⟨rfl, ho7⟩; have HO7 := Lib.hid (HO6.out.trans ho7 (fun _ h => h.elim)); have HA7 := Lib.hid (HA6.out.trans ho7 (fun _ h => h.elim)); clear ho7)
              | (go_at_call 14; (with_reducible refine (HTy1.out _ HO7.out).mono ?_); rintro e w8 ⟨A8, c8, rfl, _, ho8⟩; have HO8 := Lib.hid (HO7.out.trans ho8.out (fun _ h => h.elim)); have HA8 := Lib.hid (HA7.out.trans ho8.out (fun _ h => h.elim)); clear ho8)
              | ((with_reducible show wpList _ _ _ (⟨some 100, .load _ _, _, _, _, _⟩ :: _) _ _); refine wpList_load_mid rfl 47 _ rfl wr.heap.size 0 rfl [.int .i64 kd, .int .i64 cd, .int .i64 op, .slice ad bn cap, .bool ct] _ (rng_blk (HB5.out _ (HA8.out.alloc _))) Tryz.underlying47 rfl tokS ?_)
              | (go_at_call 15; (with_reducible refine (HHe.out _ (HO8.out.alloc _)).mono ?_); rintro e w10 ⟨v, E, rfl, hH, hop⟩; have HOp := Lib.hid hop; clear hop; obtain ⟨hway, honly⟩ := hH.out; have HO10 := Lib.hid honly; clear honly hH; rcases hway with ⟨rfl, htol, hx⟩ | ⟨⟨a, rfl⟩, rfl, hk10⟩))
            · obtain ⟨h', hk'⟩ := hx
              have HK10 := Lib.hid hk'
              have HT10 : Hid (TbAt w10 q (agOf zs zs) T) := ((HT.out.same HO8.out).same ((Only.refl _ _).alloc _)).only HO10.out (by omega)
              have HW10 : Hid (Only (fun _ => False) w w10) := ((HOn2.out.trans HO8.out (fun _ h => h.elim)).alloc _).trans HO10.out (fun i hi => .inr (by rw [hi]; exact hpq.1))
              rcases htol with rfl | ⟨N, A2, n2, c2, b2, rfl, hb2, hs2, hn2⟩
              · clear hk'
                go_quiet (fail)
                go_wp2
                refine wp_loop_rounds 1 ?_
                rw [rounds_succ]
                go_wp2
                go_roundw
                case rel => exact ⟨k + 1, by omega, by go_num, h', T, HK10.out.same ((Only.refl _ _).drewN _), HT10.out.same ((Only.refl _ _).drewN _), HW10.out.drewN _⟩
                case measure => simp [intOf]; omega
              · have HB2 := Lib.hid hb2
                have HB13 : Hid (Blk w10 wr.heap.size 47 [.int .i64 kd, .int .i64 cd, .int .i64 op, .slice ad bn cap, .bool ct]) := (HB5.out _ (HA8.out.alloc _)).only HO10.out (by omega)
                have HEs : Hid (∀ W, Only (fun _ => False) w10 W → Calls Tryz.prog 16 #[.int .i64 op, .slice A2 n2 c2] W fun e w' => ∃ v, e = .returned (.tuple #[v, .nilIface]) ∧ Only (fun _ => False) W w') := fun W ho => (esub_any ((HE.out.only (HW10.out.trans ho (fun _ h => h.elim))).of [0, 3, 8]) 0 op (hs2.only ho (fun _ _ _ h => h))).mono (fun e w' ⟨A3, c3, E, h1, _, h3, h4⟩ => by
                  have h0 : tkNum ⟨4, 0, op, b2, false⟩ = 0 := by
                    have h5 : 0 ≤ op ∧ op ≤ 255 := by
                      have h7 := HOp.out
                      first | exact h7 rfl | exact h7 trivial
                    have h6 := hs2.1
                    have h7 : ¬ (256 < b2.length ∨ false = true) := by simp; omega
                    unfold tkNum
                    simp only [if_pos h5, if_neg h7]
                    rfl
                  rw [h0] at h3
                  rcases h3.ways with ⟨_, rfl⟩ | ⟨h, _⟩
                  · exact ⟨_, h1, h4.out⟩
                  · exact absurd rfl h)
                clear hk' hb2 hs2
                go_quiet (fail)
                obtain ⟨wd, hwd⟩ : ∃ wd, wd = w10.drewN nq := ⟨_, rfl⟩
                rw [← hwd]
                have HOd : Hid (Only (fun _ => False) w10 wd) := by rw [hwd]; exact (Only.refl _ _).drewN _
                have HB2d := Lib.hid (HB2.out.only HOd.out (fun h => h))
                have HB13d := Lib.hid (HB13.out.only HOd.out (fun h => h))
                clear hwd
                go_wp2
                refine wp_loop_rounds 2 ?_
                rw [rounds_succ]
                go_wp2_with (first
                  | ((with_reducible show wpList _ _ _ (⟨some 147, .load _ _, _, _, _, _⟩ :: _) _ _); refine wpList_load_mid rfl 55 _ rfl N 0 rfl [.int .i64 34, .slice A2 n2 c2] _ (rng_blk HB2d.out) Tryz.underlying55 rfl subS ?_)
                  | ((with_reducible show wpList _ _ _ (⟨some 147, .load _ _, _, _, _, _⟩ :: _) _ _); refine wpList_load_mid rfl 55 _ rfl N 0 rfl [.int .i64 op, .slice A2 n2 c2] _ (rng_blk HB2d.out) Tryz.underlying55 rfl subS ?_)
                  | (go_at_call 16; (with_reducible refine (HEs.out _ (HOd.out.alloc _)).mono ?_); rintro e w11 ⟨v11, rfl, ho11⟩; have HO11 := Lib.hid ((HOd.out.alloc _).trans ho11 (fun _ h => h.elim)); have q0 : w11.cell? ⟨wd.heap.size, 0, none⟩ = some (.int .i64 op) := ((Blk.new wd 55 [.int .i64 op, .slice A2 n2 c2]).only ho11 (fun h => h)).cell 0; have q2 : w11.cell? ⟨wr.heap.size, 2, none⟩ = some (.int .i64 op) := ((HB13d.out.alloc _).only ho11 (fun h => h)).cell 2; clear ho11))
                rw [rounds_succ]
                go_wp2
                go_roundw
                case rel => exact ⟨k + 1, by omega, by go_num, h', T, HK10.out.same HO11.out, HT10.out.same HO11.out, HW10.out.trans HO11.out (fun _ h => h.elim)⟩
                case measure => simp [intOf]; omega
            · have HK10 := Lib.hid hk10
              have HT10 : Hid (TbAt w10 q (agOf zs zs) T) := ((HT.out.same HO8.out).same ((Only.refl _ _).alloc _)).only HO10.out (by omega)
              have HW10 : Hid (Only (fun _ => False) w w10) := ((HOn2.out.trans HO8.out (fun _ h => h.elim)).alloc _).trans HO10.out (fun i hi => .inr (by rw [hi]; exact hpq.1))
              have hz8 : p ≠ w8.heap.size := by have := HO8.out.size; omega
              have HCs : Hid (∀ W, Only (fun _ => False) w10 W → W.cell? ⟨w8.heap.size, 0, none⟩ = some (.int .i64 h.pc) ∧ W.cell? ⟨w8.heap.size, 1, none⟩ = some (.int .i64 h.pr)) := fun W ho => ⟨(((Blk.new w8 23 [.int .i64 h.pc, .int .i64 h.pr]).only HO10.out (fun h => hz8 h.symm)).only ho (fun h => h)).cell 0, (((Blk.new w8 23 [.int .i64 h.pc, .int .i64 h.pr]).only HO10.out (fun h => hz8 h.symm)).only ho (fun h => h)).cell 1⟩
              have heq := fun W => eq_sz W h.pc h.pr h.pc h.pr
              have hgr := guard_sz
              rw [show decide (h.pc = h.pc ∧ h.pr = h.pr) = true by simp] at heq
              have HPe2 : Hid (∀ W, Only (fun _ => False) w10 W → _) := fun W ho => HPe.out W p h (HK10.out.same ho)
              have HHd2 : Hid (∀ W, Only (fun _ => False) w10 W → _) := fun W ho => HHd.out W p h (HK10.out.same ho)
              have HTl2 : Hid (∀ W, Only (fun _ => False) w10 W → _) := fun W ho => HTl.out W p h (HK10.out.same ho)
              have HWa2 : Hid (∀ W, Only (fun _ => False) w10 W → _) := fun W ho => HWa.out W (HK10.out.same ho)
              have HTy2 : Hid (∀ W, Only (fun _ => False) w10 W → _) := fun W ho => HTy.out W p h (HK10.out.same ho)
              clear hk10
              go_region_held3 (fun W => W.cell? ⟨w8.heap.size, 0, none⟩ = some (.int .i64 h.pc) ∧ W.cell? ⟨w8.heap.size, 1, none⟩ = some (.int .i64 h.pr))
                (first | exact HCs.out _ (Only.refl _ _).drew | exact HCs.out _ HO12.out | exact HCs.out _ HO13.out | exact HCs.out _ HO14.out)
                (first
                  | (go_at_call 10; (with_reducible refine (HPe2.out _ (Only.refl _ _).drew).mono ?_); rintro e w12 ⟨rfl, ho12⟩; have HO12 : Hid (Only (fun _ => False) w10 w12) := ((Only.refl _ _).drew).trans ho12 (fun _ h => h.elim))
                  | (go_at_call 11; (with_reducible refine (HHd2.out _ HO12.out).mono ?_); rintro e w' ⟨rfl, e2⟩; subst w')
                  | (go_at_call 12; (with_reducible refine (HTl2.out _ HO12.out).mono ?_); rintro e w' ⟨rfl, e2⟩; subst w')
                  | (go_at_call 13; (with_reducible refine (HWa2.out _ HO12.out).mono ?_); rintro e w13 ⟨rfl, ho13⟩; have HO13 := Lib.hid (HO12.out.trans ho13 (fun _ h => h.elim)))
                  | (go_at_call 14; (with_reducible refine (HTy2.out _ HO13.out).mono ?_); rintro e w14 ⟨A14, c14, rfl, _, ho14⟩; have HO14 := Lib.hid (HO13.out.trans ho14.out (fun _ h => h.elim))))
              go_wp2
              refine wp_loop_rounds 1 ?_
              rw [rounds_succ]
              go_wp2
              go_roundw
              case rel => exact ⟨k + 1, by omega, by go_num, h, T, HK10.out.same HO14.out, HT10.out.same HO14.out, HW10.out.trans HO14.out (fun _ h => h.elim)⟩
              case measure => simp [intOf]; omega
        · clear hkk hT hon
          go_wp2
          go_ret
          exact ⟨rfl, HOn2.out⟩
end
end Go.Proofs.YtlmkpembccehkaaGreatDoor
