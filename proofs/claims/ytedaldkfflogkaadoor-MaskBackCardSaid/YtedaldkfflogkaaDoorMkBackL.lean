/- MaskBack, walked. -/
import Derived.Test.YtedaldkfflogkaaDoorMkAlive
import Derived.Test.YtedaldkfflogkaaDoorMkParseOk
import Derived.Test.YtedaldkfflogkaaDoorMkEq
import Derived.Deep.RegionHeld3
namespace Go.Proofs.YtedaldkfflogkaaDoor
open Go Go.ChangeShapes Go.WideShapes Go.ChangeAt Go.RowKit
set_option maxRecDepth 100000
set_option maxHeartbeats 4000000

theorem mback_long (w : World) (A : Option Addr) (n cap : Nat) {m : List UInt8} (c : UInt8) (h : 300 < n) : Calls Tryd.prog 4 #[.slice A n cap, mkV m, B8 c] w (Fine w) := by
  have hd : decide ((300 : Int) < (n : Int)) = true := by simp; omega
  have HA := Lib.hid (fun W => mkalive_any W)
  clear h
  unfold mkV
  obtain ⟨cs, hcs⟩ : ∃ cs, cs = m.map B8 := ⟨_, rfl⟩
  rw [← hcs]
  clear hcs
  unfold B8
  go_enter Tryd.func4, Tryd.ntmps4
  go_wp2_with (go_at_call 5; refine (HA.out _).mono ?_; rintro e w1 ⟨rfl, ho1⟩)
  go_ret
  exact ⟨rfl, ((Only.refl _ _).alloc _).trans ho1 (fun _ h => h.elim)⟩

/-- What a mask's body says is the mask. -/
theorem mparse_back {W : World} {A : Option Addr} {n c : Nat} {m : List UInt8} (hl : m.length = 32) (hs : Src W A n (mkBody 253 m)) (hnc : n ≤ c) :
    Calls Tryd.prog 6 #[.slice A n c] W fun e w' => e = .returned (.tuple #[.int .i64 253, mkV m, .nilIface]) ∧ Only (fun _ => False) W w' := by
  have hp : mkCut m ++ List.replicate (32 - (mkCut m).length) 0 = m := by
    have := mkCut_pad (m := m)
    rw [hl] at this
    exact this
  have hn := hs.1
  have hle := mkCut_le m
  simp only [mkBody, if_true, List.cons_append, List.nil_append, List.length_cons] at hn
  have h := mparse_ok (x := b8 253) (y := 2) (r := mkCut m) hnc hs rfl (by decide) rfl (by
    rw [show ((b8 253).toNat : Int) = 253 from rfl, mostOf, if_pos rfl]
    omega)
  rw [hp] at h
  exact h

theorem mback_ok {w : World} {A : Option Addr} {n cap : Nat} {xs : List UInt8} (hs : Src w A n xs) {m : List UInt8} (hl : m.length = 32) (c : UInt8) (hn : n ≤ 300) :
    Calls Tryd.prog 4 #[.slice A n cap, mkV m, B8 c] w (Fine w) := by
  have hd : decide ((300 : Int) < (n : Int)) = false := by simp; omega
  have HA := Lib.hid (fun W => mkalive_any W)
  have HBd := Lib.hid (fun W => mbody_ok (w := W) (v := 253) (by omega) hl)
  have HP := Lib.hid (fun (W : World) (A : Option Addr) (n c : Nat) (hs : Src W A n (mkBody 253 m)) (hnc : n ≤ c) => mparse_back hl hs hnc)
  have HBy := Lib.hid (fun W => mbytes_any W hl)
  have HOf : Hid (∀ (W : World) (A : Option Addr) (c : Nat), Src W A (mkTo m 256).length (mkTo m 256) → Calls Tryd.prog 12 #[.slice A (mkTo m 256).length c] W fun e w' => e = .returned (mkV m) ∧ Only (fun _ => False) W w') := fun W A c hs => by
    have h := mof_any (c := c) hs (by have := mkTo_len m 256; omega)
    rw [mkOf_back hl] at h
    exact h
  have HO2 : Hid (∀ W, Only (fun _ => False) w W → Calls Tryd.prog 12 #[.slice A n cap] W fun e w' => e = .returned (mkV (mkOf xs)) ∧ Only (fun _ => False) W w') := fun W ho => mof_any (hs.only ho (fun _ _ _ h => h)) (by omega)
  have HHas := Lib.hid (fun W => mhas_any W (mkOf_len xs) c)
  rw [mkOf_has xs c.toNat c.toNat_lt] at HHas
  have heq := fun W => eq_mask W hl
  have hgr := guard_mask
  have HS := Lib.hid hs
  have HC1 := Lib.hid (mkV_one m)
  have HZ := Lib.hid zero_mask
  have HCz := Lib.hid (show ((List.replicate 32 0).map B8).length = 32 by simp)
  unfold mkV at *
  obtain ⟨cs, hcs⟩ : ∃ cs, cs = m.map B8 := ⟨_, rfl⟩
  obtain ⟨ds, hds⟩ : ∃ ds, ds = (mkOf xs).map B8 := ⟨_, rfl⟩
  obtain ⟨zs, hzs⟩ : ∃ zs : List Value, zs = (List.replicate 32 0).map B8 := ⟨_, rfl⟩
  have hcl : cs.length = 32 := by rw [hcs, List.length_map, hl]
  rw [← hcs] at HBd HP HBy HOf heq HC1 ⊢
  rw [← hds] at HO2 HHas
  rw [← hzs] at HZ HCz
  have hsz := size_mask
  rw [← hcl] at hsz
  have HSz := Lib.hid hsz
  have HL := Lib.hid hcl
  have hu := Tryd.underlying24
  clear hs hcs hds hzs hl hcl
  unfold B8 at *
  have HIn : Hid (∀ k, k < n → ∃ y : UInt8, xs[k]? = some y) := fun k hk => ⟨_, List.getElem?_eq_getElem (by rw [HS.out.1]; exact hk)⟩
  obtain ⟨nb, hnb⟩ : ∃ nb, nb = (mkTo m 256).length := ⟨_, rfl⟩
  rw [← hnb] at HBy HOf
  have HNB := Lib.hid hnb
  clear hnb
  go_enter Tryd.func4, Tryd.ntmps4
  go_wp2_with (first
    | (go_at_call 5; (with_reducible refine (HA.out _).mono ?_); rintro e w1 ⟨rfl, ho1⟩; have HO1 : Hid (Only (fun _ => False) w w1) := ((Only.refl _ w).alloc _).trans ho1 (fun _ h => h.elim); have HN : Hid (∀ W, Only (fun _ => False) w1 W → Blk W w.heap.size 24 cs) := (fun W ho => ((Blk.new w _ cs).only ho1 (fun h => h)).only ho (fun h => h)); clear ho1)
    | ((with_reducible show wpList _ _ _ (⟨some 21, .load _ _, _, _, _, _⟩ :: _) _ _); refine wpList_load_mid rfl 24 _ rfl w.heap.size 0 rfl cs _ (range_of (HN.out w1 (Only.refl _ _))) Tryd.underlying24 rfl HSz.out ?_)
    | (go_at_call 10; (with_reducible refine (HBd.out _).mono ?_); rintro e w2 ⟨A2, n2, c2, rfl, hle2, h34, hs2, ho2⟩)
    | (go_at_call 6; (with_reducible refine (HP.out _ _ _ _ hs2.out hle2).mono ?_); rintro e w3 ⟨rfl, ho3⟩; have HO3 : Hid (Only (fun _ => False) w1 w3) := ho2.out.trans ho3 (fun _ h => h.elim); clear ho3; have HB3 : Hid (Blk (w3.alloc (.cells zs.toArray 24)) w3.heap.size 24 zs) := Blk.new _ _ _)
    | ((with_reducible show wpList _ _ _ (⟨some 10, .alloc _, _, _, _, _⟩ :: _) _ _); refine step_alloc rfl 24 rfl zs 32 HZ.out ?_)
    | ((with_reducible show wpList _ _ _ (⟨none, .store _ _ _, _, _, _, _⟩ :: _) _ _); refine step_store rfl 24 _ _ rfl w3.heap.size rfl cs rfl 24 zs HB3.out HSz.out (by rw [HL.out]; exact HCz.out) HC1.out ?_; intro w4 hb4 hz4 ho4; have HO4 : Hid (Only (fun _ => False) w1 w4) := (HO3.out.alloc _).trans ho4 (fun i hi => .inr (by have := HO3.out.size; omega)); clear ho4 HB3; generalize w3.heap.size = M at *)
    | fail)
  have HK : Hid (∀ W, Only (fun _ => False) w4 W → W.rangeAt w.heap.size 0 cs ∧ W.rangeAt M 0 cs) := fun W ho => ⟨range_of (HN.out W (HO4.out.trans ho (fun _ h => h.elim))), range_of (hb4.out.only ho (fun h => h))⟩
  have HW4 : Hid (Only (fun _ => False) w w4) := HO1.out.trans HO4.out (fun _ h => h.elim)
  clear hs2 ho2 HO3 hb4 hz4 HO4 HO1 HN HBd HP HA
  refine wp_region_noPanic ?_
  refine wp_region_held_drew (S := fun W => W.rangeAt w.heap.size 0 cs ∧ W.rangeAt M 0 cs) (by kernel_rfl) (HK.out _ (Only.refl _ _).drew) (fun hHeld => ?_)
  refine wpAnyH_take (i := 0) (v := .nilIface) rfl (by kernel_rfl) (by kernel_rfl) (by kernel_rfl) (fun _ _ _ h => h) (Or.inl ⟨by rfl, fun W hSw => by (first | (go_simp; done) | (go_simp; with_reducible rfl))⟩) hHeld ?_
  simp only [List.getElem_toArray, List.getElem_cons_zero, Act.put, List.setIfInBounds_toArray, List.set_cons_zero, List.set_cons_succ]
  refine wpAnyH_take (i := 1) (v := .bool false) rfl (by kernel_rfl) (by kernel_rfl) (by kernel_rfl) (fun _ _ _ h => h) (Or.inl ⟨by rfl, fun W hSw => by (first | (go_simp; done) | (go_simp; with_reducible rfl))⟩) hHeld ?_
  simp only [List.getElem_toArray, List.getElem_cons_zero, List.getElem_cons_succ, Act.put, List.setIfInBounds_toArray, List.set_cons_zero, List.set_cons_succ]
  refine wpAnyH_take (i := 2) (v := .bool false) rfl (by kernel_rfl) (by kernel_rfl) (by kernel_rfl) (fun _ _ _ h => h) (Or.inl ⟨by rfl, fun W hSw => by (first | (go_simp; done) | (go_simp; with_reducible rfl))⟩) hHeld ?_
  simp only [List.getElem_toArray, List.getElem_cons_zero, List.getElem_cons_succ, Act.put, List.setIfInBounds_toArray, List.set_cons_zero, List.set_cons_succ]
  refine wpAnyH_take (i := 3) (v := .nilIface) rfl (by kernel_rfl) (by kernel_rfl) (by kernel_rfl) (fun _ _ _ h => h) (Or.inl ⟨by rfl, fun W hSw => by (first | (go_simp; done) | (go_simp; with_reducible rfl))⟩) hHeld ?_
  simp only [List.getElem_toArray, List.getElem_cons_zero, List.getElem_cons_succ, Act.put, List.setIfInBounds_toArray, List.set_cons_zero, List.set_cons_succ]
  refine wpAnyH_take (i := 4) (v := .bool false) rfl (by kernel_rfl) (by kernel_rfl) (by kernel_rfl) (fun _ _ _ h => h) (Or.inl ⟨by rfl, fun W hSw => by (first | (go_simp; done) | (go_simp; with_reducible rfl))⟩) hHeld ?_
  simp only [List.getElem_toArray, List.getElem_cons_zero, List.getElem_cons_succ, Act.put, List.setIfInBounds_toArray, List.set_cons_zero, List.set_cons_succ]
  refine wpAnyH_take (i := 5) (v := .bool false) rfl (by kernel_rfl) (by kernel_rfl) (by kernel_rfl) (fun _ _ _ h => h) (Or.inl ⟨by rfl, fun W hSw => by (first | (go_simp; done) | (go_simp; with_reducible rfl))⟩) hHeld ?_
  simp only [List.getElem_toArray, List.getElem_cons_zero, List.getElem_cons_succ, Act.put, List.setIfInBounds_toArray, List.set_cons_zero, List.set_cons_succ]
  refine wpAnyH_take (i := 6) (v := .bool false) rfl (by kernel_rfl) (by kernel_rfl) (by kernel_rfl) (fun _ _ _ h => h) (Or.inl ⟨by rfl, fun W hSw => by (first | (go_simp; done) | (go_simp; with_reducible rfl))⟩) hHeld ?_
  simp only [List.getElem_toArray, List.getElem_cons_zero, List.getElem_cons_succ, Act.put, List.setIfInBounds_toArray, List.set_cons_zero, List.set_cons_succ]
  refine wpAnyH_take (i := 7) (v := .agg cs.toArray) rfl (by kernel_rfl) (by kernel_rfl) (by kernel_rfl) (fun _ _ _ h => h) (yieldsIf_load_mid (by rfl) 24 _ rfl M 0 rfl cs _ (fun W h => h.2) hu rfl hsz) hHeld ?_
  simp only [List.getElem_toArray, List.getElem_cons_zero, List.getElem_cons_succ, Act.put, List.setIfInBounds_toArray, List.set_cons_zero, List.set_cons_succ]
  refine wpAnyH_take (i := 8) (v := .agg cs.toArray) rfl (by kernel_rfl) (by kernel_rfl) (by kernel_rfl) (fun _ _ _ h => h) (yieldsIf_load_mid (by rfl) 24 _ rfl w.heap.size 0 rfl cs _ (fun W h => h.1) hu rfl hsz) hHeld ?_
  simp only [List.getElem_toArray, List.getElem_cons_zero, List.getElem_cons_succ, Act.put, List.setIfInBounds_toArray, List.set_cons_zero, List.set_cons_succ]
  refine wpAnyH_take (i := 9) (v := .bool false) rfl (by kernel_rfl) (by kernel_rfl) (by kernel_rfl) (fun _ _ _ h => h) (Or.inl ⟨by rfl, fun W hSw => by (first | (go_simp; done) | (go_simp; with_reducible rfl))⟩) hHeld ?_
  simp only [List.getElem_toArray, List.getElem_cons_zero, List.getElem_cons_succ, Act.put, List.setIfInBounds_toArray, List.set_cons_zero, List.set_cons_succ]
  refine wpAnyH_take (i := 10) (v := .bool false) rfl (by kernel_rfl) (by kernel_rfl) (by kernel_rfl) (fun _ _ _ h => h) (Or.inl ⟨by rfl, fun W hSw => by (first | (go_simp; done) | (go_simp; with_reducible rfl))⟩) hHeld ?_
  simp only [List.getElem_toArray, List.getElem_cons_zero, List.getElem_cons_succ, Act.put, List.setIfInBounds_toArray, List.set_cons_zero, List.set_cons_succ]
  refine wpAnyH_take (i := 11) (v := .bool false) rfl (by kernel_rfl) (by kernel_rfl) (by kernel_rfl) (fun _ _ _ h => h) (Or.inl ⟨by rfl, fun W hSw => by (first | (go_simp; done) | (go_simp; with_reducible rfl))⟩) hHeld ?_
  simp only [List.getElem_toArray, List.getElem_cons_zero, List.getElem_cons_succ, Act.put, List.setIfInBounds_toArray, List.set_cons_zero, List.set_cons_succ]
  refine wpAnyH_take (i := 12) (v := .agg cs.toArray) rfl (by kernel_rfl) (by kernel_rfl) (by kernel_rfl) (fun _ _ _ h => h) (yieldsIf_load_mid (by rfl) 24 _ rfl w.heap.size 0 rfl cs _ (fun W h => h.1) hu rfl hsz) hHeld ?_
  simp only [List.getElem_toArray, List.getElem_cons_zero, List.getElem_cons_succ, Act.put, List.setIfInBounds_toArray, List.set_cons_zero, List.set_cons_succ]
  refine wpAnyH_take (i := 15) (v := .agg cs.toArray) rfl (by kernel_rfl) (by kernel_rfl) (by kernel_rfl) (fun _ _ _ h => h) (yieldsIf_load_mid (by rfl) 24 _ rfl w.heap.size 0 rfl cs _ (fun W h => h.1) hu rfl hsz) hHeld ?_
  simp only [List.getElem_toArray, List.getElem_cons_zero, List.getElem_cons_succ, Act.put, List.setIfInBounds_toArray, List.set_cons_zero, List.set_cons_succ]
  refine wpAnyH_ready (rs := [13]) (by kernel_rfl) (by simp) ?_
  refine AllReadyH.cons rfl (fun K hK => ?_) AllReadyH.nil
  go_simp
  (go_at_call 13; (with_reducible refine (HBy.out _).mono ?_); rintro e w5 ⟨A5, c5, rfl, hb5, ho5⟩; have HO5 : Hid (Only (fun _ => False) w4 w5) := (Only.refl _ _).drew.trans ho5.out (fun _ h => h.elim); clear ho5)
  refine hK.out _ _ (HK.out _ HO5.out) (fun hHeld => ?_)
  clear hK K
  refine wpAnyH_ready (rs := [14]) (by kernel_rfl) (by simp) ?_
  refine AllReadyH.cons rfl (fun K hK => ?_) AllReadyH.nil
  go_simp
  (go_at_call 12; (with_reducible refine (HOf.out _ _ _ (hb5.out.src HNB.out)).mono ?_); rintro e w6 ⟨rfl, ho6⟩; have HO6 : Hid (Only (fun _ => False) w4 w6) := HO5.out.trans ho6 (fun _ h => h.elim); clear ho6)
  refine hK.out _ _ (HK.out _ HO6.out) (fun hHeld => ?_)
  clear hK K
  refine wpAnyH_take (i := 16) (v := .bool false) rfl (by kernel_rfl) (by kernel_rfl) (by kernel_rfl) (fun _ _ _ h => h) (Or.inl ⟨by rfl, fun W hSw => by (first | (go_simp; done) | (go_simp; with_reducible rfl))⟩) hHeld ?_
  simp only [List.getElem_toArray, List.getElem_cons_zero, List.getElem_cons_succ, Act.put, List.setIfInBounds_toArray, List.set_cons_zero, List.set_cons_succ]
  refine wpAnyH_take (i := 17) (v := .bool false) rfl (by kernel_rfl) (by kernel_rfl) (by kernel_rfl) (fun _ _ _ h => h) (Or.inl ⟨by rfl, fun W hSw => by (first | (go_simp; done) | (go_simp; with_reducible rfl))⟩) hHeld ?_
  simp only [List.getElem_toArray, List.getElem_cons_zero, List.getElem_cons_succ, Act.put, List.setIfInBounds_toArray, List.set_cons_zero, List.set_cons_succ]
  refine wpAnyH_done (by kernel_rfl) (NoPanic.normal ?_) _
  go_wp2_with fail
  have HW6 : Hid (Only (fun _ => False) w w6) := HW4.out.trans HO6.out (fun _ h => h.elim)
  clear HO6 HO5 hb5 HK hHeld heq hgr HW4 HBy HOf
  go_loop [12, 51] (fun v i => ∃ (k : Nat) (b : Bool), k ≤ n ∧ v = .bool b ∧ i = .int .i64 (k : Int) ∧ Hid (b = (xs.take k).any (fun x => decide (x.toNat = c.toNat)))) (fun _ i => n - (intOf i).toNat)
  case atStart => exact ⟨0, false, by omega, rfl, rfl, rfl⟩
  case round =>
    obtain ⟨k, b, hk, rfl, rfl, HD⟩ := hrel
    by_cases hlt : k < n
    · obtain ⟨y, hy⟩ := HIn.out k hlt
      obtain ⟨ad, rfl, hcell⟩ := (HS.out.only HW6.out (fun _ _ _ h => h)).2 (by omega)
      have c0 := hcell k y hy
      have HX : Hid ((xs.take (k + 1)).any (fun x => decide (x.toNat = c.toNat)) = (b || decide (y.toNat = c.toNat))) := by
        rw [Hid, take_snoc hy, List.any_append, ← HD.out]
        simp
      unfold B8 at c0
      clear hcell hy
      cases b with
      | true =>
        go_wp2_with fail
        go_round
        case rel => exact ⟨k + 1, true, by omega, rfl, by go_num, by rw [HX.out, Bool.true_or]; rfl⟩
        case measure => simp [intOf]; omega
      | false =>
        obtain ⟨q, hq⟩ : ∃ q, q = decide (y.toNat = c.toNat) := ⟨_, rfl⟩
        have e1 : ((y.toNat : Int) == (c.toNat : Int)) = q := by rw [hq, Bool.eq_iff_iff]; simp; omega
        rw [← hq] at HX
        clear hq
        go_wp2_with fail
        go_round
        case rel => exact ⟨k + 1, q, by omega, rfl, by go_num, by rw [HX.out, Bool.false_or]; rfl⟩
        case measure => simp [intOf]; omega
    · obtain rfl : k = n := by omega
      have hb : b = xs.any (fun x => decide (x.toNat = c.toNat)) := by
        rw [HD.out, List.take_of_length_le (by rw [HS.out.1]; exact Nat.le_refl _)]
      rw [← hb] at HHas
      have hbb : (b == b) = true := by simp
      clear HD hb
      go_wp2_with (first
        | (go_at_call 12; (with_reducible refine (HO2.out _ HW6.out).mono ?_); rintro e w7 ⟨rfl, ho7⟩)
        | (go_at_call 14; (with_reducible refine (HHas.out _).mono ?_); rintro e w8 ⟨rfl, ho8⟩)
        | fail)
      go_ret
      exact ⟨rfl, (HW6.out.trans ho7 (fun _ h => h.elim)).trans ho8 (fun _ h => h.elim)⟩

theorem maskBack_walk (W : World) {H : Type} {enc : TypeId × Value → H} {fuel : Nat} {A : Option Addr} {n cap : Nat} {x : DataW H × List MemPlace} (hf : DataW.trod enc Tryd.prog W 0 (fun _ => true) true fuel 22 [.slice A n cap] = some x)
    {m : List UInt8} (hl : m.length = 32) {c : UInt8} (_ : True) {es : List Addr} (_ : ErrsOf W [2, 3, 8] es) : Calls Tryd.prog 4 #[.slice A n cap, mkV m, B8 c] W (Fine W) := by
  obtain ⟨A', n', c', xs, e1, h1, h2, h3⟩ := opened_cell hf
  injection e1 with e1 e2 e3
  subst e1 e2 e3
  by_cases h : 300 < n
  · exact mback_long W A n cap c h
  · exact mback_ok h1 hl c (by omega)
end Go.Proofs.YtedaldkfflogkaaDoor
