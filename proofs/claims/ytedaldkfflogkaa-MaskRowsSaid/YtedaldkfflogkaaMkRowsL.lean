/- MaskRows, walked. -/
import Derived.Test.YtedaldkfflogkaaMkAlive
import Derived.Test.YtedaldkfflogkaaMkRow
import Derived.Test.YtedaldkfflogkaaMkIn
import Derived.Test.YtedaldkfflogkaaMkEq
import Derived.Test.YtedaldkfflogkaaMkAll
import Derived.Deep.RegionHeldLaw
import Derived.Deep.RegionHeld3
namespace Go.Proofs.Ytedaldkfflogkaa
open Go Go.ChangeShapes Go.WideShapes Go.ChangeAt Go.RowKit
set_option maxRecDepth 100000
set_option maxHeartbeats 4000000

theorem mrows_long (w : World) (A : Option Addr) (n cap : Nat) {m : List UInt8} (c : UInt8) (h : 300 < n) : Calls Try.prog 3 #[.slice A n cap, mkV m, B8 c] w (Fine w) := by
  have hd : decide ((300 : Int) < (n : Int)) = true := by simp; omega
  have HA := Lib.hid (fun W => mkalive_any W)
  clear h
  unfold mkV
  obtain ⟨cs, hcs⟩ : ∃ cs, cs = m.map B8 := ⟨_, rfl⟩
  rw [← hcs]
  clear hcs
  unfold B8
  go_enter Try.func3, Try.ntmps3
  go_wp2_with (go_at_call 4; refine (HA.out _).mono ?_; rintro e w1 ⟨rfl, ho1⟩)
  go_ret
  exact ⟨rfl, ((Only.refl _ _).alloc _).trans ho1 (fun _ h => h.elim)⟩

theorem thrice {P : Prop} {C G : Option Addr → Nat → World → Prop} (k : (∀ a c W, C a c W → G a c W) → P) (h : ∀ a c W, C a c W → G a c W) : P := k h
/-- Where the loop over all bytes stands. -/
structure RowsAt (w4 W : World) (m : List UInt8) (k n : Nat) (V : Value) : Prop where
  len : n = (mkTo m k).length
  row : Body W w4.heap.size V (mkTo m k)
  only : Only (fun _ => False) w4 W

theorem mrows_ok {w : World} {A : Option Addr} {n cap : Nat} {xs : List UInt8} (hs : Src w A n xs) {m : List UInt8} (hl : m.length = 32) (c : UInt8) (hn : n ≤ 300) :
    Calls Try.prog 3 #[.slice A n cap, mkV m, B8 c] w (Fine w) := by
  have hd : decide ((300 : Int) < (n : Int)) = false := by simp; omega
  have hsl := hs.1
  have HA := Lib.hid (fun W => mkalive_any W)
  have HOf : Hid (∀ W, Only (fun _ => False) w W → Calls Try.prog 5 #[.slice A n cap] W fun e w' => e = .returned (mkV (mkOf xs)) ∧ Only (fun _ => False) W w') := fun W ho => mof_any (hs.only ho (fun _ _ _ h => h)) (by omega)
  have HRo := Lib.hid (fun W => mrow_any W (mkOf_len xs))
  have HRr := Lib.hid (fun W => rrow_any W xs (by omega))
  have HRm := Lib.hid (fun W => mrow_any W hl)
  have HBy := Lib.hid (fun W => mbytes_any W hl)
  have HHas := Lib.hid (fun W => mhas_any W hl c)
  have HIc := Lib.hid (fun W => rin_any W hl c.toNat c.toNat_lt)
  have HIk := Lib.hid (fun W k hk => rin_any W hl k hk)
  have HCu := Lib.hid (fun W => rcut_any W m (by omega))
  have HT := Lib.hid (hs.texts cap)
  have hal := all_mask
  unfold mkV at *
  obtain ⟨cs, hcs⟩ : ∃ cs, cs = m.map B8 := ⟨_, rfl⟩
  obtain ⟨ds, hds⟩ : ∃ ds, ds = (mkOf xs).map B8 := ⟨_, rfl⟩
  obtain ⟨q1, hq1⟩ : ∃ q1, q1 = mkCut (mkOf xs) := ⟨_, rfl⟩
  obtain ⟨q2, hq2⟩ : ∃ q2, q2 = mkCut m := ⟨_, rfl⟩
  obtain ⟨bb, hbb⟩ : ∃ bb, bb = mkHas m c.toNat := ⟨_, rfl⟩
  have hcl : cs.length = 32 := by rw [hcs, List.length_map, hl]
  rw [← hcs] at HBy HRm HHas ⊢
  rw [← hds] at HOf HRo
  rw [← hq1] at HRo HRr
  rw [← hq2] at HRm HCu
  rw [← hbb] at HHas HIc
  have hsz := size_mask
  rw [← hcl] at hsz
  have hu := Try.underlying24
  have HSm : Hid (∀ W, Blk W w.heap.size 24 cs → Src W (some ⟨w.heap.size, 0, none⟩) 32 m) := fun W hb => hb.src hl (fun j x hj => by rw [Nat.zero_add, hcs, List.getElem?_map, hj]; rfl)
  have hq11 : (q1 != q1) = false := by simp
  have hcb := c.toNat_lt
  unfold B8 at *
  clear hs hcs hds hq1 hq2 hbb hcl hsl hl
  go_enter Try.func3, Try.ntmps3
  go_wp2_with (first
    | (go_at_call 4; (with_reducible refine (HA.out _).mono ?_); rintro e w1 ⟨rfl, ho1⟩; have HO1 : Hid (Only (fun _ => False) w w1) := ((Only.refl _ w).alloc _).trans ho1 (fun _ h => h.elim); have HN : Hid (∀ W, Only (fun _ => False) w1 W → Blk W w.heap.size 24 cs) := (fun W ho => ((Blk.new w _ cs).only ho1 (fun h => h)).only ho (fun h => h)); clear ho1)
    | fail)
  apply thrice (C := fun _ _ W => Hid (Only (fun _ => False) w1 W))
  case k =>
    intro key
    go_region_held_law (fun W => (convert 22 9 (.slice A n cap)).run Try.prog W = .ok (.string ⟨xs.toArray⟩) W)
      (first | exact HT.out _ HO1.out.drew | exact HT.out _ (HO1.out.trans HO2.out (fun _ h => h.elim)) | exact HT.out _ (HO1.out.trans HO3.out (fun _ h => h.elim)) | exact HT.out _ (HO1.out.trans HO4.out (fun _ h => h.elim)))
      (first
        | (go_at_call 5; (with_reducible refine (HOf.out _ HO1.out.drew).mono ?_); rintro e w2 ⟨rfl, ho2⟩; have HO2 : Hid (Only (fun _ => False) w1 w2) := (Only.refl _ _).drew.trans ho2 (fun _ h => h.elim); clear ho2)
        | (go_at_call 6; (with_reducible refine (HRo.out _).mono ?_); rintro e w3 ⟨A3, c3, rfl, hs3, ho3⟩; have HO3 : Hid (Only (fun _ => False) w1 w3) := HO2.out.trans ho3.out (fun _ h => h.elim); clear ho3; have hcv3 := hs3.out.texts c3 w3 (Only.refl _ _))
        | (go_at_call 7; (with_reducible refine (HRr.out _).mono ?_); rintro e w4 ⟨rfl, ho4⟩; have HO4 : Hid (Only (fun _ => False) w1 w4) := HO3.out.trans ho4 (fun _ h => h.elim); have hcv4 := hs3.out.texts c3 w4 ho4; clear ho4))
    all_goals exact key A3 c3 w4 HO4
  case h =>
    intro A3 c3 w4 HO4
    have hcm := (HSm.out w4 (HN.out w4 HO4.out)).texts 32 w4 (Only.refl _ _)
    have H0 : Hid (RowsAt w4 (w4.alloc (.cells #[] 5)) m 0 0 (.slice (some ⟨w4.heap.size, 0, none⟩) 0 0)) :=
      ⟨rfl, own_of_blk (c := 0) (s := 1) (n := 0) (xs := []) (Blk.new w4 5 []) rfl rfl (by omega) (by omega) (Nat.le_refl _), (Only.refl _ _).alloc _⟩
    clear HA HOf HRo HRr HT hq11 hd
    go_wp2_with fail
    clear hcm
    go_loopw [8, 9] (fun v i W => ∃ (k n c : Nat) (A : Option Addr), k ≤ 256 ∧ n ≤ k ∧ v = .slice A n c ∧ i = .int .i64 (k : Int) ∧ Hid (RowsAt w4 W m k n (.slice A n c))) (fun _ i _ => 256 - (intOf i).toNat)
    case atStart => exact ⟨0, 0, 0, _, by omega, by omega, rfl, rfl, H0.out⟩
    case round =>
      clear H0
      obtain ⟨k, nk, ck, Ak, hk, hnk, rfl, rfl, HD⟩ := hrel
      by_cases hlt : k < 256
      · have hw8 : IntKind.u8.wrap (k : Int) = (k : Int) := IntWalk.u8_in _ (by omega)
        have hB8 : Hid (B8 (UInt8.ofNat k) = .int .u8 (k : Int)) := by
          unfold B8
          rw [UInt8.toNat_ofNat', Nat.mod_eq_of_lt (by omega)]
          rfl
        have HH := HIk.out wr k hlt
        cases hp : mkHas m k with
        | false =>
          rw [hp] at HH
          have HX := Lib.hid HH
          have HP := Lib.hid (mkTo_skip hp)
          clear hp HH
          go_wp2_with (first | (go_at_call 8; (with_reducible refine HX.out.mono ?_); rintro e w5 ⟨rfl, e5⟩; subst w5) | fail)
          go_roundw
          case rel => exact ⟨k + 1, nk, ck, Ak, by omega, by omega, rfl, by go_num, by rw [HP.out]; exact HD.out.len, by rw [HP.out]; exact HD.out.row, HD.out.only⟩
          case measure => simp [intOf]; omega
        | true =>
          rw [hp] at HH
          have HX := Lib.hid HH
          have HP := Lib.hid (mkTo_more hp)
          clear hp HH
          go_wp2_with (first
            | (go_at_call 8; (with_reducible refine HX.out.mono ?_); rintro e w5 ⟨rfl, e5⟩; subst w5)
            | (at_builtin; refine step_bytesG rfl (.tmp 33) (.tmp 36) rfl w4.heap.size Ak nk ck (mkTo m k) rfl (HD.out.row.same ((Only.refl _ _).alloc _)) HD.out.len (some ⟨wr.heap.size, 0, none⟩) 1 1 [UInt8.ofNat k] rfl (src_new wr [UInt8.ofNat k] _ _ _ 1 (by rw [List.map_cons, hB8.out]; rfl) rfl) (by omega) (by have := HD.out.only.size; simp; omega) ?_; intro A' c' w6 hb6 hg6)
            | fail)
          go_roundw
          case rel =>
            refine ⟨k + 1, nk + 1, c', A', by omega, by omega, rfl, by go_num, ?_, ?_, ?_⟩
            · rw [HP.out, List.length_append, ← HD.out.len]
              rfl
            · rw [HP.out]
              exact hb6.out
            · exact (HD.out.only.alloc _).grown hg6.out (fun q hq => .inr (own_lt HD.out.row q hq).1)
          case measure => simp [intOf]; omega
      · obtain rfl : k = 256 := by omega
        -- the last line
        have he := HD.out.len
        have HIn := Lib.hid (HD.out.row.texts he)
        have HWr : Hid (Only (fun _ => False) w1 wr) := HO4.out.trans HD.out.only (fun _ h => h.elim)
        obtain ⟨bs, hbs⟩ : ∃ bs, bs = mkTo m 256 := ⟨_, rfl⟩
        rw [← hbs] at he HIn HBy
        rw [← he] at HBy
        have HE := Lib.hid he
        have HKr : Hid (∀ W, Only (fun _ => False) wr W → W.rangeAt w.heap.size 0 cs ∧ (convert 22 9 (.slice Ak nk ck)).run Try.prog W = .ok (.string ⟨bs.toArray⟩) W) := fun W ho => ⟨range_of (HN.out W (HWr.out.trans ho (fun _ h => h.elim))), HIn.out W ho⟩
        have hbb1 : (bs == bs) = true := by simp
        have hbb2 : (bb == bb) = true := by simp
        have hq22 : (q2 == q2) = true := by simp
        have hcw : IntKind.i64.wrap (c.toNat : Int) = (c.toNat : Int) := by rw [IntWalk.i64_left]; exact wrap64_nat _ (by omega)
        clear he hbs HD HIn HIk hlt
        go_wp2_with fail
        refine wp_region_noPanic ?_
        refine wp_region_held_drew (S := fun W => W.rangeAt w.heap.size 0 cs ∧ (convert 22 9 (.slice Ak nk ck)).run Try.prog W = .ok (.string ⟨bs.toArray⟩) W) (by kernel_rfl) (HKr.out _ (Only.refl _ _).drew) (fun hHeld => ?_)
        refine wpAnyH_take (i := 0) (v := .agg cs.toArray) rfl (by kernel_rfl) (by kernel_rfl) (by kernel_rfl) (fun _ _ _ h => h) (yieldsIf_load_mid (by rfl) 24 _ rfl w.heap.size 0 rfl cs _ (fun W h => h.1) hu rfl hsz) hHeld ?_
        simp only [List.getElem_toArray, List.getElem_cons_zero, Act.put, List.setIfInBounds_toArray, List.set_cons_zero, List.set_cons_succ]
        refine wpAnyH_take (i := 1) (v := .int .u8 (c.toNat : Int)) rfl (by kernel_rfl) (by kernel_rfl) (by kernel_rfl) (fun _ _ _ h => h) (Or.inl ⟨by rfl, fun W hSw => by (first | (go_simp; done) | (go_simp; with_reducible rfl))⟩) hHeld ?_
        simp only [List.getElem_toArray, List.getElem_cons_zero, List.getElem_cons_succ, Act.put, List.setIfInBounds_toArray, List.set_cons_zero, List.set_cons_succ]
        refine wpAnyH_take (i := 3) (v := .string ⟨m.toArray⟩) rfl (by kernel_rfl) (by kernel_rfl) (by kernel_rfl) (fun _ _ _ h => h) (Or.inl ⟨by rfl, fun W hSw => by (first | (go_simp; done) | (go_simp; with_reducible rfl))⟩) hHeld ?_
        simp only [List.getElem_toArray, List.getElem_cons_zero, List.getElem_cons_succ, Act.put, List.setIfInBounds_toArray, List.set_cons_zero, List.set_cons_succ]
        refine wpAnyH_take (i := 4) (v := .int .u8 (c.toNat : Int)) rfl (by kernel_rfl) (by kernel_rfl) (by kernel_rfl) (fun _ _ _ h => h) (Or.inl ⟨by rfl, fun W hSw => by (first | (go_simp; done) | (go_simp; with_reducible rfl))⟩) hHeld ?_
        simp only [List.getElem_toArray, List.getElem_cons_zero, List.getElem_cons_succ, Act.put, List.setIfInBounds_toArray, List.set_cons_zero, List.set_cons_succ]
        refine wpAnyH_take (i := 5) (v := .int .i64 (c.toNat : Int)) rfl (by kernel_rfl) (by kernel_rfl) (by kernel_rfl) (fun _ _ _ h => h) (Or.inl ⟨by rfl, fun W hSw => by (first | (go_simp; done) | (go_simp; with_reducible rfl))⟩) hHeld ?_
        simp only [List.getElem_toArray, List.getElem_cons_zero, List.getElem_cons_succ, Act.put, List.setIfInBounds_toArray, List.set_cons_zero, List.set_cons_succ]
        refine wpAnyH_ready (rs := [2]) (by kernel_rfl) (by simp) ?_
        refine AllReadyH.cons rfl (fun K hK => ?_) AllReadyH.nil
        go_simp
        (go_at_call 9; (with_reducible refine (HHas.out _).mono ?_); rintro e w5 ⟨rfl, ho5⟩; have HO5 : Hid (Only (fun _ => False) wr w5) := (Only.refl _ _).drew.trans ho5 (fun _ h => h.elim); clear ho5)
        refine hK.out _ _ (HKr.out _ HO5.out) (fun hHeld => ?_)
        clear hK K
        refine wpAnyH_ready (rs := [6]) (by kernel_rfl) (by simp) ?_
        refine AllReadyH.cons rfl (fun K hK => ?_) AllReadyH.nil
        go_simp
        (go_at_call 8; (with_reducible refine (HIc.out _).mono ?_); rintro e w6 ⟨rfl, e6⟩; subst w6)
        refine hK.out _ _ (HKr.out _ HO5.out) (fun hHeld => ?_)
        clear hK K
        refine wpAnyH_take (i := 7) (v := .bool true) rfl (by kernel_rfl) (by kernel_rfl) (by kernel_rfl) (fun _ _ _ h => h) (Or.inl ⟨by rfl, fun W hSw => by (first | (go_simp; done) | (go_simp; with_reducible rfl))⟩) hHeld ?_
        simp only [List.getElem_toArray, List.getElem_cons_zero, List.getElem_cons_succ, Act.put, List.setIfInBounds_toArray, List.set_cons_zero, List.set_cons_succ]
        refine wpAnyH_take (i := 8) (v := .bool true) rfl (by kernel_rfl) (by kernel_rfl) (by kernel_rfl) (fun _ _ _ h => h) (Or.inl ⟨by rfl, fun W hSw => by (first | (go_simp; done) | (go_simp; with_reducible rfl))⟩) hHeld ?_
        simp only [List.getElem_toArray, List.getElem_cons_zero, List.getElem_cons_succ, Act.put, List.setIfInBounds_toArray, List.set_cons_zero, List.set_cons_succ]
        refine wpAnyH_take (i := 9) (v := .agg cs.toArray) rfl (by kernel_rfl) (by kernel_rfl) (by kernel_rfl) (fun _ _ _ h => h) (yieldsIf_load_mid (by rfl) 24 _ rfl w.heap.size 0 rfl cs _ (fun W h => h.1) hu rfl hsz) hHeld ?_
        simp only [List.getElem_toArray, List.getElem_cons_zero, List.getElem_cons_succ, Act.put, List.setIfInBounds_toArray, List.set_cons_zero, List.set_cons_succ]
        refine wpAnyH_take (i := 12) (v := .slice Ak nk ck) rfl (by kernel_rfl) (by kernel_rfl) (by kernel_rfl) (fun _ _ _ h => h) (Or.inl ⟨by rfl, fun W hSw => by (first | (go_simp; done) | (go_simp; with_reducible rfl))⟩) hHeld ?_
        simp only [List.getElem_toArray, List.getElem_cons_zero, List.getElem_cons_succ, Act.put, List.setIfInBounds_toArray, List.set_cons_zero, List.set_cons_succ]
        refine wpAnyH_take (i := 13) (v := .string ⟨bs.toArray⟩) rfl (by kernel_rfl) (by kernel_rfl) (by kernel_rfl) (fun _ _ _ h => h) (Or.inl ⟨by rfl, fun W hSw => by (first | (go_simp; done) | (go_simp; with_reducible rfl))⟩) hHeld ?_
        simp only [List.getElem_toArray, List.getElem_cons_zero, List.getElem_cons_succ, Act.put, List.setIfInBounds_toArray, List.set_cons_zero, List.set_cons_succ]
        refine wpAnyH_ready (rs := [10]) (by kernel_rfl) (by simp) ?_
        refine AllReadyH.cons rfl (fun K hK => ?_) AllReadyH.nil
        go_simp
        (go_at_call 10; (with_reducible refine (HBy.out _).mono ?_); rintro e w7 ⟨A7, c7, rfl, hb7, ho7⟩; have HO7 : Hid (Only (fun _ => False) wr w7) := HO5.out.trans ho7.out (fun _ h => h.elim); have hcv7 := hb7.out.texts HE.out w7 (Only.refl _ _))
        refine hK.out _ _ (HKr.out _ HO7.out) (fun hHeld => ?_)
        clear hK K
        refine wpAnyH_ready (rs := [11]) (by kernel_rfl) (by simp) ?_
        refine AllReadyH.cons rfl (fun K hK => ?_) AllReadyH.nil
        go_simp
        refine hK.out _ _ (HKr.out _ HO7.out) (fun hHeld => ?_)
        clear hK K
        refine wpAnyH_take (i := 14) (v := .bool true) rfl (by kernel_rfl) (by kernel_rfl) (by kernel_rfl) (fun _ _ _ h => h) (Or.inl ⟨by rfl, fun W hSw => by (first | (go_simp; done) | (go_simp; with_reducible rfl))⟩) hHeld ?_
        simp only [List.getElem_toArray, List.getElem_cons_zero, List.getElem_cons_succ, Act.put, List.setIfInBounds_toArray, List.set_cons_zero, List.set_cons_succ]
        refine wpAnyH_take (i := 15) (v := .bool true) rfl (by kernel_rfl) (by kernel_rfl) (by kernel_rfl) (fun _ _ _ h => h) (Or.inl ⟨by rfl, fun W hSw => by (first | (go_simp; done) | (go_simp; with_reducible rfl))⟩) hHeld ?_
        simp only [List.getElem_toArray, List.getElem_cons_zero, List.getElem_cons_succ, Act.put, List.setIfInBounds_toArray, List.set_cons_zero, List.set_cons_succ]
        refine wpAnyH_take (i := 16) (v := .bool true) rfl (by kernel_rfl) (by kernel_rfl) (by kernel_rfl) (fun _ _ _ h => h) (Or.inl ⟨by rfl, fun W hSw => by (first | (go_simp; done) | (go_simp; with_reducible rfl))⟩) hHeld ?_
        simp only [List.getElem_toArray, List.getElem_cons_zero, List.getElem_cons_succ, Act.put, List.setIfInBounds_toArray, List.set_cons_zero, List.set_cons_succ]
        refine wpAnyH_take (i := 17) (v := .agg cs.toArray) rfl (by kernel_rfl) (by kernel_rfl) (by kernel_rfl) (fun _ _ _ h => h) (yieldsIf_load_mid (by rfl) 24 _ rfl w.heap.size 0 rfl cs _ (fun W h => h.1) hu rfl hsz) hHeld ?_
        simp only [List.getElem_toArray, List.getElem_cons_zero, List.getElem_cons_succ, Act.put, List.setIfInBounds_toArray, List.set_cons_zero, List.set_cons_succ]
        refine wpAnyH_take (i := 20) (v := .string ⟨m.toArray⟩) rfl (by kernel_rfl) (by kernel_rfl) (by kernel_rfl) (fun _ _ _ h => h) (Or.inl ⟨by rfl, fun W hSw => by (first | (go_simp; done) | (go_simp; with_reducible rfl))⟩) hHeld ?_
        simp only [List.getElem_toArray, List.getElem_cons_zero, List.getElem_cons_succ, Act.put, List.setIfInBounds_toArray, List.set_cons_zero, List.set_cons_succ]
        refine wpAnyH_ready (rs := [18]) (by kernel_rfl) (by simp) ?_
        refine AllReadyH.cons rfl (fun K hK => ?_) AllReadyH.nil
        go_simp
        (go_at_call 6; (with_reducible refine (HRm.out _).mono ?_); rintro e w8 ⟨A8, c8, rfl, hs8, ho8⟩; have HO8 : Hid (Only (fun _ => False) wr w8) := HO7.out.trans ho8.out (fun _ h => h.elim); clear hcv7; have hcv8 := hs8.out.texts c8 w8 (Only.refl _ _))
        refine hK.out _ _ (HKr.out _ HO8.out) (fun hHeld => ?_)
        clear hK K
        refine wpAnyH_ready (rs := [19, 21]) (by kernel_rfl) (by simp) ?_
        refine AllReadyH.cons rfl (fun K hK => ?_) (AllReadyH.cons rfl (fun K hK => ?_) AllReadyH.nil)
        · go_simp
          refine hK.out _ _ (HKr.out _ HO8.out) (fun hHeld => ?_)
          clear hK K
          refine wpAnyH_ready (rs := [21]) (by kernel_rfl) (by simp) ?_
          refine AllReadyH.cons rfl (fun K hK => ?_) AllReadyH.nil
          go_simp
          (go_at_call 11; (with_reducible refine (HCu.out _).mono ?_); rintro e w9 ⟨rfl, e9⟩; subst w9)
          refine hK.out _ _ (HKr.out _ HO8.out) (fun hHeld => ?_)
          clear hK K
          refine wpAnyH_take (i := 22) (v := .bool true) rfl (by kernel_rfl) (by kernel_rfl) (by kernel_rfl) (fun _ _ _ h => h) (Or.inl ⟨by rfl, fun W hSw => by (first | (go_simp; done) | (go_simp; with_reducible rfl))⟩) hHeld ?_
          simp only [List.getElem_toArray, List.getElem_cons_zero, List.getElem_cons_succ, Act.put, List.setIfInBounds_toArray, List.set_cons_zero, List.set_cons_succ]
          refine wpAnyH_take (i := 23) (v := .bool true) rfl (by kernel_rfl) (by kernel_rfl) (by kernel_rfl) (fun _ _ _ h => h) (Or.inl ⟨by rfl, fun W hSw => by (first | (go_simp; done) | (go_simp; with_reducible rfl))⟩) hHeld ?_
          simp only [List.getElem_toArray, List.getElem_cons_zero, List.getElem_cons_succ, Act.put, List.setIfInBounds_toArray, List.set_cons_zero, List.set_cons_succ]
          refine wpAnyH_take (i := 24) (v := .bool true) rfl (by kernel_rfl) (by kernel_rfl) (by kernel_rfl) (fun _ _ _ h => h) (Or.inl ⟨by rfl, fun W hSw => by (first | (go_simp; done) | (go_simp; with_reducible rfl))⟩) hHeld ?_
          simp only [List.getElem_toArray, List.getElem_cons_zero, List.getElem_cons_succ, Act.put, List.setIfInBounds_toArray, List.set_cons_zero, List.set_cons_succ]
          refine wpAnyH_done (by kernel_rfl) (NoPanic.normal ?_) _
          go_wp2
          go_ret
          exact ⟨rfl, HO1.out.trans (HWr.out.trans HO8.out (fun _ h => h.elim)) (fun _ h => h.elim)⟩
        · go_simp
          (go_at_call 11; (with_reducible refine (HCu.out _).mono ?_); rintro e w9 ⟨rfl, e9⟩; subst w9)
          refine hK.out _ _ (HKr.out _ HO8.out) (fun hHeld => ?_)
          clear hK K
          refine wpAnyH_ready (rs := [19]) (by kernel_rfl) (by simp) ?_
          refine AllReadyH.cons rfl (fun K hK => ?_) AllReadyH.nil
          go_simp
          refine hK.out _ _ (HKr.out _ HO8.out) (fun hHeld => ?_)
          clear hK K
          refine wpAnyH_take (i := 22) (v := .bool true) rfl (by kernel_rfl) (by kernel_rfl) (by kernel_rfl) (fun _ _ _ h => h) (Or.inl ⟨by rfl, fun W hSw => by (first | (go_simp; done) | (go_simp; with_reducible rfl))⟩) hHeld ?_
          simp only [List.getElem_toArray, List.getElem_cons_zero, List.getElem_cons_succ, Act.put, List.setIfInBounds_toArray, List.set_cons_zero, List.set_cons_succ]
          refine wpAnyH_take (i := 23) (v := .bool true) rfl (by kernel_rfl) (by kernel_rfl) (by kernel_rfl) (fun _ _ _ h => h) (Or.inl ⟨by rfl, fun W hSw => by (first | (go_simp; done) | (go_simp; with_reducible rfl))⟩) hHeld ?_
          simp only [List.getElem_toArray, List.getElem_cons_zero, List.getElem_cons_succ, Act.put, List.setIfInBounds_toArray, List.set_cons_zero, List.set_cons_succ]
          refine wpAnyH_take (i := 24) (v := .bool true) rfl (by kernel_rfl) (by kernel_rfl) (by kernel_rfl) (fun _ _ _ h => h) (Or.inl ⟨by rfl, fun W hSw => by (first | (go_simp; done) | (go_simp; with_reducible rfl))⟩) hHeld ?_
          simp only [List.getElem_toArray, List.getElem_cons_zero, List.getElem_cons_succ, Act.put, List.setIfInBounds_toArray, List.set_cons_zero, List.set_cons_succ]
          refine wpAnyH_done (by kernel_rfl) (NoPanic.normal ?_) _
          go_wp2
          go_ret
          exact ⟨rfl, HO1.out.trans (HWr.out.trans HO8.out (fun _ h => h.elim)) (fun _ h => h.elim)⟩

theorem maskRows_walk (W : World) {H : Type} {enc : TypeId × Value → H} {fuel : Nat} {A : Option Addr} {n cap : Nat} {x : DataW H × List MemPlace} (hf : DataW.trod enc Try.prog W 0 (fun _ => true) true fuel 22 [.slice A n cap] = some x)
    {m : List UInt8} (hl : m.length = 32) {c : UInt8} (_ : True) : Calls Try.prog 3 #[.slice A n cap, mkV m, B8 c] W (Fine W) := by
  obtain ⟨A', n', c', xs, e1, h1, h2, h3⟩ := opened_cell hf
  injection e1 with e1 e2 e3
  subst e1 e2 e3
  by_cases h : 300 < n
  · exact mrows_long W A n cap c h
  · exact mrows_ok h1 hl c (by omega)
end Go.Proofs.Ytedaldkfflogkaa
