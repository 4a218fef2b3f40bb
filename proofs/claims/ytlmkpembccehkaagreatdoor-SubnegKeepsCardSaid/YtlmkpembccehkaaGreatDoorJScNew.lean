/- Several texts in one. -/
import Derived.Test.YtlmkpembccehkaaGreatDoorScHear
import Derived.Test.YtlmkpembccehkaaGreatDoorJBody
/- Package slc: New. -/
namespace Go.Proofs.YtlmkpembccehkaaGreatDoor
open Go Go.RowKit
set_option maxRecDepth 100000
set_option maxHeartbeats 4000000

/-- A slice of settings. -/
def StAt (W : World) (a : Option Addr) (len : Nat) (l : List Se) : Prop :=
  l.length = len ∧ ∀ (i : Nat) (x : Se), l[i]? = some x → ∃ b off, a = some ⟨b, off, none⟩ ∧ b < W.heap.size ∧ W.rangeAt b (off + i * 2) x.cs
theorem StAt.same {W W' : World} {a : Option Addr} {len : Nat} {l : List Se} (h : StAt W a len l) (ho : Only (fun _ => False) W W') : StAt W' a len l :=
  ⟨h.1, fun i x hx => by
    obtain ⟨b, off, e, hb, h1⟩ := h.2 i x hx
    exact ⟨b, off, e, Nat.lt_of_lt_of_le hb ho.size, fun j v hv => ho.cellv (h1 j v hv) (fun h => h)⟩⟩
def newTo (l : List Se) (k : Nat) : Sd := fun i => ⟨⟨0, 0⟩, if i < k then holdOf (l.getD i ⟨0, 0⟩) else ⟨0, 0⟩, false⟩
theorem newTo_zero (l : List Se) : newTo l 0 = Sd.zero := rfl
theorem newTo_succ {l : List Se} {k : Nat} {x : Se} (h : l[k]? = some x) : newTo l (k + 1) = (newTo l k).set k ⟨((newTo l k) k).has, holdOf x, ((newTo l k) k).waits⟩ := by
  funext i
  unfold Sd.set
  by_cases e : i = k
  · subst e
    rw [if_pos rfl]
    unfold newTo
    simp [List.getD_eq_getElem?_getD, h]
  · rw [if_neg e]
    unfold newTo
    by_cases e2 : i < k
    · rw [if_pos e2, if_pos (by omega)]
    · rw [if_neg e2, if_neg (by omega)]
theorem newTo_skip {l : List Se} {k : Nat} {x : Se} (h : l[k]? = some x) (hx : holdOf x = ⟨0, 0⟩) : newTo l (k + 1) = newTo l k := by
  funext i
  unfold newTo
  by_cases e : i = k
  · subst e
    rw [if_pos (by omega), if_neg (by omega), List.getD_eq_getElem?_getD, h]
    simp [hx]
  · by_cases e2 : i < k
    · rw [if_pos e2, if_pos (by omega)]
    · rw [if_neg e2, if_neg (by omega)]
theorem newTo_all {l : List Se} {m : Nat} (hm : m = min l.length 18) : newTo l m = newS l := by
  funext i
  unfold newTo newS
  by_cases e : i < m
  · rw [if_pos e, if_pos (by omega)]
  · rw [if_neg e]
    by_cases e2 : i < 18
    · rw [if_pos e2, List.getD_eq_getElem?_getD, List.getElem?_eq_none (by omega)]
      rfl
    · rw [if_neg e2]

theorem zero_of_side (W : World) : (zeroValue 80).run Tryz.prog W = .ok (.agg sc0.toArray) W := by kernel_rfl
theorem sc0_ne : ¬ sc0 = [] := by decide
theorem snew_any {w : World} {A : Option Addr} {n c : Nat} {l : List Se} (h : StAt w A n l) (hn : n ≤ c) (hc : c ≤ 9223372036854775807) :
    Calls Tryz.prog 45 #[.slice A n c] w fun e w' => ∃ p, e = .returned (.pointer (some ⟨p, 0, none⟩)) ∧ ScSdAt w' p (newS l) ∧ w.heap.size ≤ p ∧ Only (fun _ => False) w w' := by
  have H := Lib.hid h
  have HS := Lib.hid (fun W (x : Se) => isSet_any W x.l x.v)
  rcases Nat.lt_or_ge 18 n with h18 | h18
  · have hm : (18 : Int) < (n : Int) := by omega
    have hnew := newTo_all (l := l) (m := 18) (by rw [H.out.1]; omega)
    have HN := Lib.hid hnew
    have hzv := zero_of_side
    have hzn := sc0_ne
    clear hnew
    go_enter Tryz.func45, Tryz.ntmps45
    go_wp2_with (first
      | ((with_reducible show wpList _ _ _ (⟨some 6, _, _, _, _, _⟩ :: _) _ _); refine step_build rfl 80 _ rfl sc0 built_side ?_)
      | ((with_reducible show wpList _ _ _ (⟨some 7, _, _, _, _, _⟩ :: _) _ _); refine step_box rfl 80 _ rfl sc0 rfl ?_)
      | fail)
    have HB0 : Hid (ScSdAt (w.alloc (.cells sc0.toArray 80)) w.heap.size (newTo l 0)) := ⟨sc0, Blk.new w _ sc0, sc0_c⟩
    have HO0 : Hid (Only (fun _ => False) w (w.alloc (.cells sc0.toArray 80))) := (Only.refl _ _).alloc _
    have HNw : Hid (w.heap.size < (w.alloc (.cells sc0.toArray 80)).heap.size) := by simp [Hid]
    generalize w.alloc (.cells sc0.toArray 80) = w0 at *
    obtain ⟨q, hq⟩ : ∃ q, q = w.heap.size := ⟨_, rfl⟩
    rw [← hq] at HB0 HNw ⊢
    have HQ := Lib.hid hq
    clear hq
    go_loopw [14] (fun i W => ∃ k : Nat, k ≤ 18 ∧ i = .int .i64 (k : Int) ∧ Hid (ScSdAt W q (newTo l k) ∧ Only (fun _ => False) w W)) (fun i _ => 18 - (intOf i).toNat)
    case atStart => exact ⟨0, Nat.zero_le _, rfl, HB0.out, HO0.out⟩
    case round =>
      obtain ⟨k, hk, rfl, hrel⟩ := hrel
      by_cases hlt : k < 18
      · have hlt2 : (k : Int) < (18 : Int) := by omega
        have hk18 : (k : Int) < 18 := by omega
        have hk18' : k < 18 := by omega
        obtain ⟨x, hx⟩ : ∃ x, l[k]? = some x := ⟨_, List.getElem?_eq_getElem (by rw [H.out.1]; omega)⟩
        obtain ⟨b, off, rfl, hbl, hrg⟩ := (H.out.same hrel.out.2).2 k x hx
        have HX := Lib.hid hx
        have HRg := Lib.hid hrg
        obtain ⟨xl, xv⟩ := x
        have HSx := Lib.hid (fun W => HS.out W ⟨xl, xv⟩)
        have HG : Hid (∀ g, Se.fine ⟨xl, xv⟩ = g → (g = false ∨ (g = true ∧ xl = 3) → holdOf ⟨xl, xv⟩ = ⟨0, 0⟩) ∧ (g = true → xl ≠ 3 → holdOf ⟨xl, xv⟩ = ⟨xl, xv⟩)) := by
          intro g hg
          unfold holdOf
          refine ⟨fun h => ?_, fun h h3 => ?_⟩
          · rw [if_neg]
            rintro ⟨h1, h2⟩
            rcases h with h | ⟨_, h⟩
            · rw [hg, h] at h1; cases h1
            · exact h2 h
          · rw [if_pos ⟨hg.trans h, h3⟩]
        have hfin : ∃ g, Se.fine ⟨xl, xv⟩ = g := ⟨_, rfl⟩
        obtain ⟨g, hg⟩ := hfin
        have HG1 := Lib.hid (HG.out g hg).1
        have HG2 := Lib.hid (HG.out g hg).2
        simp only at HSx
        rw [hg] at HSx
        clear HG hx hrg hg
        have hM := hbl
        by_cases ho : g = true ∧ xl ≠ 3
        · obtain ⟨rfl, h3⟩ := ho
          have hn3 : (xl != 3) = true := by simp [h3]
          have HH := Lib.hid (HG2.out rfl h3)
          obtain ⟨⟨cs, hbs, hcs⟩, hon⟩ := hrel.out
          have HBs := Lib.hid hbs
          have HCs := Lib.hid hcs
          have HOn := Lib.hid hon
          have hqW := hbs.lt
          clear hbs hcs hon h3 HG1 HG2
          go_wp2_with (first
            | ((with_reducible show wpList _ _ _ (⟨some 18, _, _, _, _, _⟩ :: _) _ _); refine wpList_load_mid rfl 75 _ rfl b (off + k * 2) rfl [.int .i64 xl, .int .i64 xv] _ HRg.out Tryz.underlying75 rfl size_set ?_)
            | (go_at_call 62; refine (HSx.out _).mono ?_; rintro e w2 ⟨rfl, ho2⟩; have HB2 := Lib.hid ((Blk.new' _ 75 [.int .i64 xl, .int .i64 xv] rfl).only ho2 (fun h => h)); have b0 : w2.cell? ⟨wr.heap.size, 0, none⟩ = some (.int .i64 xl) := HB2.out.cell 0; have HBs2 := Lib.hid ((HBs.out.alloc _).only ho2 (fun h => h)); have HO2 : Hid (Only (fun _ => False) w w2) := (HOn.out.alloc _).trans ho2 (fun _ h => h.elim); clear ho2)
            | fail)

          have b1 : w2.cell? ⟨wr.heap.size, 1, none⟩ = some (.int .i64 xv) := HB2.out.cell 1
          have c2 : w2.cell? ⟨q, k * 5 + 2, none⟩ = some (.int .i64 (newTo l k k).holds.l) := (HBs2.out.cell _).trans (HCs.out.c2 hk18')
          have c3 : w2.cell? ⟨q, k * 5 + 3, none⟩ = some (.int .i64 (newTo l k k).holds.v) := (HBs2.out.cell _).trans (HCs.out.c3 hk18')
          have f2 := HBs2.out.frozen (k * 5 + 2)
          have f3 := HBs2.out.frozen (k * 5 + 3)
          go_region
          have HB9 : Hid (ScSdAt (((w2.setCell ⟨q, k * 5 + 2, none⟩ (.int .i64 xl)).setCell ⟨q, k * 5 + 2 + 1, none⟩ (.int .i64 xv)).drew) q (newTo l (k + 1))) := ⟨_, ((HBs2.out.setCell (k * 5 + 2) _).setCell (k * 5 + 2 + 1) _).drew, by
            rw [newTo_succ HX.out, HH.out]
            have h2 := HCs.out.setHolds hk18' ⟨xl, xv⟩
            rw [set2_eq _ _ _ _ (by rw [HCs.out.len]; omega)] at h2
            exact h2⟩
          have HO9 : Hid (Only (fun _ => False) w (((w2.setCell ⟨q, k * 5 + 2, none⟩ (.int .i64 xl)).setCell ⟨q, k * 5 + 2 + 1, none⟩ (.int .i64 xv)).drew)) := ((HO2.out.setCell (p := ⟨q, k * 5 + 2, none⟩) (.inr (by have := HQ.out; show w.heap.size ≤ q; omega)) _).setCell (p := ⟨q, k * 5 + 2 + 1, none⟩) (.inr (by have := HQ.out; show w.heap.size ≤ q; omega)) _).drew
          clear c2 c3 f2 f3 b0 b1
          generalize (((w2.setCell ⟨q, k * 5 + 2, none⟩ (.int .i64 xl)).setCell ⟨q, k * 5 + 2 + 1, none⟩ (.int .i64 xv)).drew) = w9 at *
          go_wp2
          go_roundw
          case rel => exact ⟨k + 1, by omega, by go_num, HB9.out, HO9.out⟩
          case measure => simp [intOf]; omega
        · have hh : holdOf ⟨xl, xv⟩ = ⟨0, 0⟩ := HG1.out (by
            cases g
            · exact .inl rfl
            · exact .inr ⟨rfl, Decidable.byContradiction fun h => ho ⟨rfl, h⟩⟩)
          have HT := Lib.hid (newTo_skip HX.out hh)
          have hg3 : g = false ∨ (g = true ∧ xl = 3) := by
            cases g
            · exact .inl rfl
            · exact .inr ⟨rfl, Decidable.byContradiction fun h => ho ⟨rfl, h⟩⟩
          clear ho hh HG1 HG2
          rcases hg3 with rfl | ⟨rfl, rfl⟩
          all_goals
            go_wp2_with (first
              | ((with_reducible show wpList _ _ _ (⟨some 18, _, _, _, _, _⟩ :: _) _ _); refine wpList_load_mid rfl 75 _ rfl b (off + k * 2) rfl [.int .i64 _, .int .i64 xv] _ HRg.out Tryz.underlying75 rfl size_set ?_)
              | (go_at_call 62; refine (HSx.out _).mono ?_; rintro e w2 ⟨rfl, ho2⟩; have HB2 := Lib.hid ((Blk.new' _ 75 [.int .i64 _, .int .i64 xv] rfl).only ho2 (fun h => h)); have b0 : w2.cell? ⟨wr.heap.size, 0, none⟩ = some (.int .i64 _) := HB2.out.cell 0; have HO2 : Hid (Only (fun _ => False) wr w2) := ((Only.refl _ _).alloc _).trans ho2 (fun _ h => h.elim); clear ho2)
              | fail)
            go_roundw
            case rel => exact ⟨k + 1, by omega, by go_num, by rw [HT.out]; exact hrel.out.1.same HO2.out, hrel.out.2.trans HO2.out (fun _ h => h.elim)⟩
            case measure => simp [intOf]; omega
      · obtain rfl : k = 18 := by omega
        go_wp2
        go_ret
        exact ⟨q, rfl, by rw [← HN.out]; exact hrel.out.1, by rw [HQ.out]; exact Nat.le_refl _, hrel.out.2⟩
  · have hm : (n : Int) ≤ 18 := by omega
    have hnew := newTo_all (l := l) (m := n) (by rw [H.out.1]; omega)
    have HN := Lib.hid hnew
    have hzv := zero_of_side
    have hzn := sc0_ne
    clear hnew
    go_enter Tryz.func45, Tryz.ntmps45
    go_wp2_with (first
      | ((with_reducible show wpList _ _ _ (⟨some 6, _, _, _, _, _⟩ :: _) _ _); refine step_build rfl 80 _ rfl sc0 built_side ?_)
      | ((with_reducible show wpList _ _ _ (⟨some 7, _, _, _, _, _⟩ :: _) _ _); refine step_box rfl 80 _ rfl sc0 rfl ?_)
      | fail)
    have HB0 : Hid (ScSdAt (w.alloc (.cells sc0.toArray 80)) w.heap.size (newTo l 0)) := ⟨sc0, Blk.new w _ sc0, sc0_c⟩
    have HO0 : Hid (Only (fun _ => False) w (w.alloc (.cells sc0.toArray 80))) := (Only.refl _ _).alloc _
    have HNw : Hid (w.heap.size < (w.alloc (.cells sc0.toArray 80)).heap.size) := by simp [Hid]
    generalize w.alloc (.cells sc0.toArray 80) = w0 at *
    obtain ⟨q, hq⟩ : ∃ q, q = w.heap.size := ⟨_, rfl⟩
    rw [← hq] at HB0 HNw ⊢
    have HQ := Lib.hid hq
    clear hq
    go_loopw [14] (fun i W => ∃ k : Nat, k ≤ n ∧ i = .int .i64 (k : Int) ∧ Hid (ScSdAt W q (newTo l k) ∧ Only (fun _ => False) w W)) (fun i _ => n - (intOf i).toNat)
    case atStart => exact ⟨0, Nat.zero_le _, rfl, HB0.out, HO0.out⟩
    case round =>
      obtain ⟨k, hk, rfl, hrel⟩ := hrel
      by_cases hlt : k < n
      · have hlt2 : (k : Int) < (n : Int) := by omega
        have hk18 : (k : Int) < 18 := by omega
        have hk18' : k < 18 := by omega
        obtain ⟨x, hx⟩ : ∃ x, l[k]? = some x := ⟨_, List.getElem?_eq_getElem (by rw [H.out.1]; omega)⟩
        obtain ⟨b, off, rfl, hbl, hrg⟩ := (H.out.same hrel.out.2).2 k x hx
        have HX := Lib.hid hx
        have HRg := Lib.hid hrg
        obtain ⟨xl, xv⟩ := x
        have HSx := Lib.hid (fun W => HS.out W ⟨xl, xv⟩)
        have HG : Hid (∀ g, Se.fine ⟨xl, xv⟩ = g → (g = false ∨ (g = true ∧ xl = 3) → holdOf ⟨xl, xv⟩ = ⟨0, 0⟩) ∧ (g = true → xl ≠ 3 → holdOf ⟨xl, xv⟩ = ⟨xl, xv⟩)) := by
          intro g hg
          unfold holdOf
          refine ⟨fun h => ?_, fun h h3 => ?_⟩
          · rw [if_neg]
            rintro ⟨h1, h2⟩
            rcases h with h | ⟨_, h⟩
            · rw [hg, h] at h1; cases h1
            · exact h2 h
          · rw [if_pos ⟨hg.trans h, h3⟩]
        have hfin : ∃ g, Se.fine ⟨xl, xv⟩ = g := ⟨_, rfl⟩
        obtain ⟨g, hg⟩ := hfin
        have HG1 := Lib.hid (HG.out g hg).1
        have HG2 := Lib.hid (HG.out g hg).2
        simp only at HSx
        rw [hg] at HSx
        clear HG hx hrg hg
        have hM := hbl
        by_cases ho : g = true ∧ xl ≠ 3
        · obtain ⟨rfl, h3⟩ := ho
          have hn3 : (xl != 3) = true := by simp [h3]
          have HH := Lib.hid (HG2.out rfl h3)
          obtain ⟨⟨cs, hbs, hcs⟩, hon⟩ := hrel.out
          have HBs := Lib.hid hbs
          have HCs := Lib.hid hcs
          have HOn := Lib.hid hon
          have hqW := hbs.lt
          clear hbs hcs hon h3 HG1 HG2
          go_wp2_with (first
            | ((with_reducible show wpList _ _ _ (⟨some 18, _, _, _, _, _⟩ :: _) _ _); refine wpList_load_mid rfl 75 _ rfl b (off + k * 2) rfl [.int .i64 xl, .int .i64 xv] _ HRg.out Tryz.underlying75 rfl size_set ?_)
            | (go_at_call 62; refine (HSx.out _).mono ?_; rintro e w2 ⟨rfl, ho2⟩; have HB2 := Lib.hid ((Blk.new' _ 75 [.int .i64 xl, .int .i64 xv] rfl).only ho2 (fun h => h)); have b0 : w2.cell? ⟨wr.heap.size, 0, none⟩ = some (.int .i64 xl) := HB2.out.cell 0; have HBs2 := Lib.hid ((HBs.out.alloc _).only ho2 (fun h => h)); have HO2 : Hid (Only (fun _ => False) w w2) := (HOn.out.alloc _).trans ho2 (fun _ h => h.elim); clear ho2)
            | fail)

          have b1 : w2.cell? ⟨wr.heap.size, 1, none⟩ = some (.int .i64 xv) := HB2.out.cell 1
          have c2 : w2.cell? ⟨q, k * 5 + 2, none⟩ = some (.int .i64 (newTo l k k).holds.l) := (HBs2.out.cell _).trans (HCs.out.c2 hk18')
          have c3 : w2.cell? ⟨q, k * 5 + 3, none⟩ = some (.int .i64 (newTo l k k).holds.v) := (HBs2.out.cell _).trans (HCs.out.c3 hk18')
          have f2 := HBs2.out.frozen (k * 5 + 2)
          have f3 := HBs2.out.frozen (k * 5 + 3)
          go_region
          have HB9 : Hid (ScSdAt (((w2.setCell ⟨q, k * 5 + 2, none⟩ (.int .i64 xl)).setCell ⟨q, k * 5 + 2 + 1, none⟩ (.int .i64 xv)).drew) q (newTo l (k + 1))) := ⟨_, ((HBs2.out.setCell (k * 5 + 2) _).setCell (k * 5 + 2 + 1) _).drew, by
            rw [newTo_succ HX.out, HH.out]
            have h2 := HCs.out.setHolds hk18' ⟨xl, xv⟩
            rw [set2_eq _ _ _ _ (by rw [HCs.out.len]; omega)] at h2
            exact h2⟩
          have HO9 : Hid (Only (fun _ => False) w (((w2.setCell ⟨q, k * 5 + 2, none⟩ (.int .i64 xl)).setCell ⟨q, k * 5 + 2 + 1, none⟩ (.int .i64 xv)).drew)) := ((HO2.out.setCell (p := ⟨q, k * 5 + 2, none⟩) (.inr (by have := HQ.out; show w.heap.size ≤ q; omega)) _).setCell (p := ⟨q, k * 5 + 2 + 1, none⟩) (.inr (by have := HQ.out; show w.heap.size ≤ q; omega)) _).drew
          clear c2 c3 f2 f3 b0 b1
          generalize (((w2.setCell ⟨q, k * 5 + 2, none⟩ (.int .i64 xl)).setCell ⟨q, k * 5 + 2 + 1, none⟩ (.int .i64 xv)).drew) = w9 at *
          go_wp2
          go_roundw
          case rel => exact ⟨k + 1, by omega, by go_num, HB9.out, HO9.out⟩
          case measure => simp [intOf]; omega
        · have hh : holdOf ⟨xl, xv⟩ = ⟨0, 0⟩ := HG1.out (by
            cases g
            · exact .inl rfl
            · exact .inr ⟨rfl, Decidable.byContradiction fun h => ho ⟨rfl, h⟩⟩)
          have HT := Lib.hid (newTo_skip HX.out hh)
          have hg3 : g = false ∨ (g = true ∧ xl = 3) := by
            cases g
            · exact .inl rfl
            · exact .inr ⟨rfl, Decidable.byContradiction fun h => ho ⟨rfl, h⟩⟩
          clear ho hh HG1 HG2
          rcases hg3 with rfl | ⟨rfl, rfl⟩
          all_goals
            go_wp2_with (first
              | ((with_reducible show wpList _ _ _ (⟨some 18, _, _, _, _, _⟩ :: _) _ _); refine wpList_load_mid rfl 75 _ rfl b (off + k * 2) rfl [.int .i64 _, .int .i64 xv] _ HRg.out Tryz.underlying75 rfl size_set ?_)
              | (go_at_call 62; refine (HSx.out _).mono ?_; rintro e w2 ⟨rfl, ho2⟩; have HB2 := Lib.hid ((Blk.new' _ 75 [.int .i64 _, .int .i64 xv] rfl).only ho2 (fun h => h)); have b0 : w2.cell? ⟨wr.heap.size, 0, none⟩ = some (.int .i64 _) := HB2.out.cell 0; have HO2 : Hid (Only (fun _ => False) wr w2) := ((Only.refl _ _).alloc _).trans ho2 (fun _ h => h.elim); clear ho2)
              | fail)
            go_roundw
            case rel => exact ⟨k + 1, by omega, by go_num, by rw [HT.out]; exact hrel.out.1.same HO2.out, hrel.out.2.trans HO2.out (fun _ h => h.elim)⟩
            case measure => simp [intOf]; omega
      · obtain rfl : k = n := by omega
        go_wp2
        go_ret
        exact ⟨q, rfl, by rw [← HN.out]; exact hrel.out.1, by rw [HQ.out]; exact Nat.le_refl _, hrel.out.2⟩
end Go.Proofs.YtlmkpembccehkaaGreatDoor
/- Masks of bytes: which bytes are in, what is added, all that are in, a row's noughts cut off: as plain functions of rows of 32 bytes. -/
namespace Go.Proofs.YtlmkpembccehkaaGreatDoor
open Go Go.RowKit
set_option maxRecDepth 100000
set_option maxHeartbeats 4000000

/-- A byte of a row; 0 behind its end. -/
def mkAt (m : List UInt8) (i : Nat) : Nat := ((m[i]?).getD 0).toNat
theorem mkAt_lt (m : List UInt8) (i : Nat) : mkAt m i < 256 := UInt8.toNat_lt _
theorem mkAt_of {m : List UInt8} {i : Nat} {x : UInt8} (h : m[i]? = some x) : mkAt m i = x.toNat := by simp [mkAt, h]
/-- Whether a byte is in. -/
def mkHas (m : List UInt8) (c : Nat) : Bool := (mkAt m (c / 8)).testBit (7 - c % 8)
theorem mkHas_div (m : List UInt8) (c : Nat) : mkHas m c = decide (mkAt m (c / 8) / 2 ^ (7 - c % 8) % 2 = 1) := Nat.testBit_eq_decide_div_mod_eq
/-- A row with one more byte. -/
def mkAdd (m : List UInt8) (x : UInt8) : List UInt8 := m.set (x.toNat / 8) (UInt8.ofNat (mkAt m (x.toNat / 8) ||| 2 ^ (7 - x.toNat % 8)))
theorem mkAdd_len (m : List UInt8) (x : UInt8) : (mkAdd m x).length = m.length := by simp [mkAdd]
theorem two_pow_lt {k : Nat} (h : k < 8) : 2 ^ k < 256 := by
  have := Nat.pow_lt_pow_right (a := 2) (by omega) h
  simpa using this
theorem or_lt {x k : Nat} (hx : x < 256) (hk : k < 8) : x ||| 2 ^ k < 256 := Nat.or_lt_two_pow (n := 8) hx (two_pow_lt hk)
theorem mkAdd_has {m : List UInt8} (hl : m.length = 32) (x : UInt8) (c : Nat) (hc : c < 256) : mkHas (mkAdd m x) c = (mkHas m c || decide (x.toNat = c)) := by
  have hx := x.toNat_lt
  have hlt := mkAt_lt m (x.toNat / 8)
  unfold mkHas
  by_cases h : x.toNat / 8 = c / 8
  · have e : mkAt (mkAdd m x) (c / 8) = mkAt m (c / 8) ||| 2 ^ (7 - x.toNat % 8) := by
      unfold mkAdd
      rw [← h]
      rw [mkAt_of (x := UInt8.ofNat (mkAt m (x.toNat / 8) ||| 2 ^ (7 - x.toNat % 8))) (by rw [List.getElem?_set_self]; omega)]
      rw [UInt8.toNat_ofNat']
      exact Nat.mod_eq_of_lt (or_lt hlt (by omega))
    rw [e, Nat.testBit_or, Nat.testBit_two_pow]
    congr 1
    rw [decide_eq_decide]
    omega
  · have e : mkAt (mkAdd m x) (c / 8) = mkAt m (c / 8) := by
      unfold mkAdd mkAt
      rw [List.getElem?_set_ne h]
    rw [e, decide_eq_false (p := x.toNat = c) (by rintro rfl; exact h rfl), Bool.or_false]
/-- The row of bytes. -/
def mkOf (xs : List UInt8) : List UInt8 := xs.foldl mkAdd (List.replicate 32 0)
theorem mkFold_len (xs : List UInt8) : ∀ m : List UInt8, (xs.foldl mkAdd m).length = m.length := by
  induction xs with
  | nil => intro m; rfl
  | cons x xs ih => intro m; rw [List.foldl_cons, ih, mkAdd_len]
theorem mkOf_len (xs : List UInt8) : (mkOf xs).length = 32 := by rw [mkOf, mkFold_len, List.length_replicate]
theorem mkFold_has (xs : List UInt8) (c : Nat) (hc : c < 256) : ∀ m : List UInt8, m.length = 32 → mkHas (xs.foldl mkAdd m) c = (mkHas m c || xs.any fun x => decide (x.toNat = c)) := by
  induction xs with
  | nil => intro m _; simp
  | cons x xs ih =>
    intro m hl
    rw [List.foldl_cons, ih _ (by rw [mkAdd_len]; exact hl), mkAdd_has hl x c hc, List.any_cons, Bool.or_assoc]
theorem mkNone (c : Nat) : mkHas (List.replicate 32 0) c = false := by
  have : mkAt (List.replicate 32 0) (c / 8) = 0 := by
    unfold mkAt
    rw [List.getElem?_replicate]
    split <;> rfl
  rw [mkHas, this, Nat.zero_testBit]
theorem mkOf_has (xs : List UInt8) (c : Nat) (hc : c < 256) : mkHas (mkOf xs) c = xs.any fun x => decide (x.toNat = c) := by
  rw [mkOf, mkFold_has xs c hc _ (by simp), mkNone, Bool.false_or]
/-- Two rows that have the same bytes are one. -/
theorem mk_ext {m m' : List UInt8} (h1 : m.length = 32) (h2 : m'.length = 32) (h : ∀ c, c < 256 → mkHas m c = mkHas m' c) : m = m' := by
  refine List.ext_getElem (by omega) fun i hi hi' => ?_
  have e1 : mkAt m i = (m[i]).toNat := mkAt_of (List.getElem?_eq_getElem hi)
  have e2 : mkAt m' i = (m'[i]).toNat := mkAt_of (List.getElem?_eq_getElem hi')
  apply UInt8.toNat_inj.1
  rw [← e1, ← e2]
  apply Nat.eq_of_testBit_eq
  intro j
  by_cases hj : j < 8
  · have := h (8 * i + (7 - j)) (by omega)
    unfold mkHas at this
    rwa [show (8 * i + (7 - j)) / 8 = i from by omega, show 7 - (8 * i + (7 - j)) % 8 = j from by omega] at this
  · rw [Nat.testBit_lt_two_pow (Nat.lt_of_lt_of_le (mkAt_lt m i) (by have := Nat.pow_le_pow_right (n := 2) (by omega) (show 8 ≤ j by omega); simpa using this)),
      Nat.testBit_lt_two_pow (Nat.lt_of_lt_of_le (mkAt_lt m' i) (by have := Nat.pow_le_pow_right (n := 2) (by omega) (show 8 ≤ j by omega); simpa using this))]

/-- All that are in, below a number. -/
def mkTo (m : List UInt8) (k : Nat) : List UInt8 := ((List.range k).filter (mkHas m)).map UInt8.ofNat
theorem mkTo_skip {m : List UInt8} {k : Nat} (h : mkHas m k = false) : mkTo m (k + 1) = mkTo m k := by simp [mkTo, List.range_succ, h]
theorem mkTo_more {m : List UInt8} {k : Nat} (h : mkHas m k = true) : mkTo m (k + 1) = mkTo m k ++ [UInt8.ofNat k] := by simp [mkTo, List.range_succ, h]
theorem mkTo_len (m : List UInt8) (k : Nat) : (mkTo m k).length ≤ k := by
  rw [mkTo, List.length_map]
  exact Nat.le_trans (List.length_filter_le _ _) (by simp)
/-- The bytes of a mask make the mask. -/
theorem mkOf_back {m : List UInt8} (hl : m.length = 32) : mkOf (mkTo m 256) = m := by
  refine mk_ext (mkOf_len _) hl fun c hc => ?_
  rw [mkOf_has _ c hc, Bool.eq_iff_iff, List.any_eq_true]
  constructor
  · rintro ⟨x, hx, he⟩
    obtain ⟨k, hk, rfl⟩ := List.mem_map.1 hx
    obtain ⟨hk1, hk2⟩ := List.mem_filter.1 hk
    rw [List.mem_range] at hk1
    rw [decide_eq_true_eq, UInt8.toNat_ofNat', Nat.mod_eq_of_lt (by omega)] at he
    subst he
    exact hk2
  · intro h
    refine ⟨UInt8.ofNat c, List.mem_map.2 ⟨c, List.mem_filter.2 ⟨List.mem_range.2 hc, h⟩, rfl⟩, ?_⟩
    rw [decide_eq_true_eq, UInt8.toNat_ofNat', Nat.mod_eq_of_lt (by omega)]

/-- How many bytes are left of the first so many, without the noughts at their end. -/
def cutLen (m : List UInt8) : Nat → Nat
  | 0 => 0
  | k + 1 => if mkAt m k = 0 then cutLen m k else k + 1
theorem cutLen_le (m : List UInt8) : ∀ k, cutLen m k ≤ k
  | 0 => Nat.le_refl _
  | k + 1 => by
    have := cutLen_le m k
    rw [cutLen]
    split <;> omega
/-- A row without noughts at its end. -/
def mkCut (m : List UInt8) : List UInt8 := m.take (cutLen m m.length)
theorem mkCut_len (m : List UInt8) : (mkCut m).length = cutLen m m.length := by
  rw [mkCut, List.length_take, Nat.min_eq_left (cutLen_le _ _)]
theorem mkCut_le (m : List UInt8) : (mkCut m).length ≤ m.length := by
  rw [mkCut_len]
  exact cutLen_le _ _
theorem cut_pad (m : List UInt8) : ∀ k, k ≤ m.length → m.take (cutLen m k) ++ List.replicate (k - cutLen m k) 0 = m.take k
  | 0, _ => by simp [cutLen]
  | k + 1, h => by
    have ih := cut_pad m k (by omega)
    have hle := cutLen_le m k
    rw [cutLen]
    split
    · rename_i h0
      rw [show k + 1 - cutLen m k = (k - cutLen m k) + 1 from by omega, List.replicate_succ', ← List.append_assoc, ih]
      have hg : m[k]? = some 0 := by
        have e : m[k]? = some m[k] := List.getElem?_eq_getElem (by omega)
        rw [mkAt_of e] at h0
        rw [e]
        congr 1
        exact UInt8.toNat_inj.1 h0
      rw [take_snoc hg]
    · simp
/-- A mask's row, with noughts behind it, is the mask. -/
theorem mkCut_pad {m : List UInt8} : mkCut m ++ List.replicate (m.length - (mkCut m).length) 0 = m := by
  have := cut_pad m m.length (Nat.le_refl _)
  rw [List.take_length] at this
  rw [mkCut_len]
  exact this
theorem cutLen_front (xs zs : List UInt8) : ∀ k, k ≤ xs.length → cutLen (xs ++ zs) k = cutLen xs k
  | 0, _ => rfl
  | k + 1, h => by
    have e : mkAt (xs ++ zs) k = mkAt xs k := by
      unfold mkAt
      rw [List.getElem?_append_left (by omega)]
    rw [cutLen, cutLen, e, cutLen_front xs zs k (by omega)]
theorem cutLen_zeros (xs : List UInt8) (n : Nat) : ∀ j, j ≤ n → cutLen (xs ++ List.replicate n 0) (xs.length + j) = cutLen xs xs.length
  | 0, _ => cutLen_front xs _ _ (Nat.le_refl _)
  | j + 1, h => by
    have e : mkAt (xs ++ List.replicate n 0) (xs.length + j) = 0 := by
      unfold mkAt
      rw [List.getElem?_append_right (by omega), show xs.length + j - xs.length = j from by omega, List.getElem?_replicate, if_pos (by omega)]
      rfl
    rw [show xs.length + (j + 1) = (xs.length + j) + 1 from by omega, cutLen, if_pos e]
    exact cutLen_zeros xs n j (by omega)
theorem mkCut_zeros (xs : List UInt8) (n : Nat) : mkCut (xs ++ List.replicate n 0) = mkCut xs := by
  unfold mkCut
  rw [List.length_append, List.length_replicate, cutLen_zeros xs n n (Nat.le_refl _), List.take_append_of_le_length (cutLen_le _ _)]

/-- The number of a row's byte, bit by bit, as far as so many. -/
def rowX (xs : List UInt8) (i : Nat) : Nat → Nat
  | 0 => 0
  | k + 1 => 2 * rowX xs i k + (if xs.any (fun x => decide (x.toNat = 8 * i + k)) then 1 else 0)
theorem rowX_lt (xs : List UInt8) (i : Nat) : ∀ k, rowX xs i k < 2 ^ k
  | 0 => by simp [rowX]
  | k + 1 => by
    have := rowX_lt xs i k
    rw [rowX, Nat.pow_succ]
    split <;> omega
theorem rowX_bit (xs : List UInt8) (i : Nat) : ∀ k j, j < k → (rowX xs i k).testBit j = xs.any (fun x => decide (x.toNat = 8 * i + (k - 1 - j)))
  | k + 1, 0, _ => by
    rw [rowX, Nat.testBit_zero]
    simp only [Nat.add_sub_cancel, Nat.sub_zero]
    cases xs.any (fun x => decide (x.toNat = 8 * i + k)) <;> simp <;> omega
  | k + 1, j + 1, h => by
    have ih := rowX_bit xs i k j (by omega)
    rw [rowX, Nat.testBit_succ]
    have e : (2 * rowX xs i k + (if xs.any (fun x => decide (x.toNat = 8 * i + k)) then 1 else 0)) / 2 = rowX xs i k := by split <;> omega
    rw [e, ih]
    congr 1
    funext x
    rw [show k + 1 - 1 - (j + 1) = k - 1 - j from by omega]
/-- The row, byte by byte, as far as so many. -/
def rowTo (xs : List UInt8) (n : Nat) : List UInt8 := (List.range n).map fun i => UInt8.ofNat (rowX xs i 8)
theorem rowTo_succ (xs : List UInt8) (n : Nat) : rowTo xs (n + 1) = rowTo xs n ++ [UInt8.ofNat (rowX xs n 8)] := by simp [rowTo, List.range_succ]
theorem rowTo_len (xs : List UInt8) (n : Nat) : (rowTo xs n).length = n := by simp [rowTo]
/-- The document's row is the mask's. -/
theorem rowTo_of (xs : List UInt8) : rowTo xs 32 = mkOf xs := by
  refine mk_ext (rowTo_len _ _) (mkOf_len _) fun c hc => ?_
  rw [mkOf_has xs c hc, mkHas]
  have e : (rowTo xs 32)[c / 8]? = some (UInt8.ofNat (rowX xs (c / 8) 8)) := by
    rw [rowTo, List.getElem?_map, List.getElem?_range (by omega)]
    rfl
  have hlt := rowX_lt xs (c / 8) 8
  rw [mkAt_of e, UInt8.toNat_ofNat', Nat.mod_eq_of_lt (by simpa using hlt), rowX_bit xs (c / 8) 8 _ (by omega)]
  congr 1
  funext x
  rw [show 8 * (c / 8) + (8 - 1 - (7 - c % 8)) = c from by omega]
end Go.Proofs.YtlmkpembccehkaaGreatDoor
