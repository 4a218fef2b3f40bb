
/- Package slc: New. -/
import Derived.Test.YtlmkpembccehkaaGreatDoorScHear
namespace Go.Proofs.YtlmkpembccehkaaGreatDoor
open Go Go.RowKit
set_option maxRecDepth 100000
set_option maxHeartbeats 4000000

/-- A slice of settings. -/
def StAt (W : World) (a : Option Addr) (len : Nat) (l : List Se) : Prop :=
  l.length = len ∧ ∀ (i : Nat) (x : Se), l[i]? = some x → ∃ b off, a = some ⟨b, off, none⟩ ∧ b < W.heap.size ∧ W.rangeAt b (off + i * 2) x.cs
theorem StAt.same {W W' : World} {a : Option Addr} {len : Nat} {l : List Se} (h : StAt W a len l) (ho : Only (fun _ => False) W W') : StAt W' a len l :=
  ⟨h.1, fun i x hx => by
    obtain ⟨b, off, e, hb, h1⟩ := h.2 i x hx
    exact ⟨b, off, e, Nat.lt_of_lt_of_le hb ho.size, fun j v hv => ho.cellv (h1 j v hv) (fun h => h)⟩⟩
def newTo (l : List Se) (k : Nat) : Sd := fun i => ⟨⟨0, 0⟩, if i < k then holdOf (l.getD i ⟨0, 0⟩) else ⟨0, 0⟩, false⟩
theorem newTo_zero (l : List Se) : newTo l 0 = Sd.zero := rfl
theorem newTo_succ {l : List Se} {k : Nat} {x : Se} (h : l[k]? = some x) : newTo l (k + 1) = (newTo l k).set k ⟨((newTo l k) k).has, holdOf x, ((newTo l k) k).waits⟩ := by
  funext i
  unfold Sd.set
  by_cases e : i = k
  · subst e
    rw [if_pos rfl]
    unfold newTo
    simp [List.getD_eq_getElem?_getD, h]
  · rw [if_neg e]
    unfold newTo
    by_cases e2 : i < k
    · rw [if_pos e2, if_pos (by omega)]
    · rw [if_neg e2, if_neg (by omega)]
theorem newTo_skip {l : List Se} {k : Nat} {x : Se} (h : l[k]? = some x) (hx : holdOf x = ⟨0, 0⟩) : newTo l (k + 1) = newTo l k := by
  funext i
  unfold newTo
  by_cases e : i = k
  · subst e
    rw [if_pos (by omega), if_neg (by omega), List.getD_eq_getElem?_getD, h]
    simp [hx]
  · by_cases e2 : i < k
    · rw [if_pos e2, if_pos (by omega)]
    · rw [if_neg e2, if_neg (by omega)]
theorem newTo_all {l : List Se} {m : Nat} (hm : m = min l.length 18) : newTo l m = newS l := by
  funext i
  unfold newTo newS
  by_cases e : i < m
  · rw [if_pos e, if_pos (by omega)]
  · rw [if_neg e]
    by_cases e2 : i < 18
    · rw [if_pos e2, List.getD_eq_getElem?_getD, List.getElem?_eq_none (by omega)]
      rfl
    · rw [if_neg e2]

theorem zero_of_side (W : World) : (zeroValue 80).run Tryz.prog W = .ok (.agg sc0.toArray) W := by kernel_rfl
theorem sc0_ne : ¬ sc0 = [] := by decide
theorem snew_any {w : World} {A : Option Addr} {n c : Nat} {l : List Se} (h : StAt w A n l) (hn : n ≤ c) (hc : c ≤ 9223372036854775807) :
    Calls Tryz.prog 45 #[.slice A n c] w fun e w' => ∃ p, e = .returned (.pointer (some ⟨p, 0, none⟩)) ∧ ScSdAt w' p (newS l) ∧ w.heap.size ≤ p ∧ Only (fun _ => False) w w' := by
  have H := Lib.hid h
  have HS := Lib.hid (fun W (x : Se) => isSet_any W x.l x.v)
  rcases Nat.lt_or_ge 18 n with h18 | h18
  · have hm : (18 : Int) < (n : Int) := by omega
    have hnew := newTo_all (l := l) (m := 18) (by rw [H.out.1]; omega)
    have HN := Lib.hid hnew
    have hzv := zero_of_side
    have hzn := sc0_ne
    clear hnew
    go_enter Tryz.func45, Tryz.ntmps45
    go_wp2_with (first
      | ((with_reducible show wpList _ _ _ (⟨some 6, _, _, _, _, _⟩ :: _) _ _); refine step_build rfl 80 _ rfl sc0 built_side ?_)
      | ((with_reducible show wpList _ _ _ (⟨some 7, _, _, _, _, _⟩ :: _) _ _); refine step_box rfl 80 _ rfl sc0 rfl ?_)
      | fail)
    have HB0 : Hid (ScSdAt (w.alloc (.cells sc0.toArray 80)) w.heap.size (newTo l 0)) := ⟨sc0, Blk.new w _ sc0, sc0_c⟩
    have HO0 : Hid (Only (fun _ => False) w (w.alloc (.cells sc0.toArray 80))) := (Only.refl _ _).alloc _
    have HNw : Hid (w.heap.size < (w.alloc (.cells sc0.toArray 80)).heap.size) := by simp [Hid]
    generalize w.alloc (.cells sc0.toArray 80) = w0 at *
    obtain ⟨q, hq⟩ : ∃ q, q = w.heap.size := ⟨_, rfl⟩
    rw [← hq] at HB0 HNw ⊢
    have HQ := Lib.hid hq
    clear hq
    go_loopw [14] (fun i W => ∃ k : Nat, k ≤ 18 ∧ i = .int .i64 (k : Int) ∧ Hid (ScSdAt W q (newTo l k) ∧ Only (fun _ => False) w W)) (fun i _ => 18 - (intOf i).toNat)
    case atStart => exact ⟨0, Nat.zero_le _, rfl, HB0.out, HO0.out⟩
    case round =>
      obtain ⟨k, hk, rfl, hrel⟩ := hrel
      by_cases hlt : k < 18
      · have hlt2 : (k : Int) < (18 : Int) := by omega
        have hk18 : (k : Int) < 18 := by omega
        have hk18' : k < 18 := by omega
        obtain ⟨x, hx⟩ : ∃ x, l[k]? = some x := ⟨_, List.getElem?_eq_getElem (by rw [H.out.1]; omega)⟩
        obtain ⟨b, off, rfl, hbl, hrg⟩ := (H.out.same hrel.out.2).2 k x hx
        have HX := Lib.hid hx
        have HRg := Lib.hid hrg
        obtain ⟨xl, xv⟩ := x
        have HSx := Lib.hid (fun W => HS.out W ⟨xl, xv⟩)
        have HG : Hid (∀ g, Se.fine ⟨xl, xv⟩ = g → (g = false ∨ (g = true ∧ xl = 3) → holdOf ⟨xl, xv⟩ = ⟨0, 0⟩) ∧ (g = true → xl ≠ 3 → holdOf ⟨xl, xv⟩ = ⟨xl, xv⟩)) := by
          intro g hg
          unfold holdOf
          refine ⟨fun h => ?_, fun h h3 => ?_⟩
          · rw [if_neg]
            rintro ⟨h1, h2⟩
            rcases h with h | ⟨_, h⟩
            · rw [hg, h] at h1; cases h1
            · exact h2 h
          · rw [if_pos ⟨hg.trans h, h3⟩]
        have hfin : ∃ g, Se.fine ⟨xl, xv⟩ = g := ⟨_, rfl⟩
        obtain ⟨g, hg⟩ := hfin
        have HG1 := Lib.hid (HG.out g hg).1
        have HG2 := Lib.hid (HG.out g hg).2
        simp only at HSx
        rw [hg] at HSx
        clear HG hx hrg hg
        have hM := hbl
        by_cases ho : g = true ∧ xl ≠ 3
        · obtain ⟨rfl, h3⟩ := ho
          have hn3 : (xl != 3) = true := by simp [h3]
          have HH := Lib.hid (HG2.out rfl h3)
          obtain ⟨⟨cs, hbs, hcs⟩, hon⟩ := hrel.out
          have HBs := Lib.hid hbs
          have HCs := Lib.hid hcs
          have HOn := Lib.hid hon
          have hqW := hbs.lt
          clear hbs hcs hon h3 HG1 HG2
          go_wp2_with (first
            | ((with_reducible show wpList _ _ _ (⟨some 18, _, _, _, _, _⟩ :: _) _ _); refine wpList_load_mid rfl 75 _ rfl b (off + k * 2) rfl [.int .i64 xl, .int .i64 xv] _ HRg.out Tryz.underlying75 rfl size_set ?_)
            | (go_at_call 62; refine (HSx.out _).mono ?_; rintro e w2 ⟨rfl, ho2⟩; have HB2 := Lib.hid ((Blk.new' _ 75 [.int .i64 xl, .int .i64 xv] rfl).only ho2 (fun h => h)); have b0 : w2.cell? ⟨wr.heap.size, 0, none⟩ = some (.int .i64 xl) := HB2.out.cell 0; have HBs2 := Lib.hid ((HBs.out.alloc _).only ho2 (fun h => h)); have HO2 : Hid (Only (fun _ => False) w w2) := (HOn.out.alloc _).trans ho2 (fun _ h => h.elim); clear ho2)
            | fail)

          have b1 : w2.cell? ⟨wr.heap.size, 1, none⟩ = some (.int .i64 xv) := HB2.out.cell 1
          have c2 : w2.cell? ⟨q, k * 5 + 2, none⟩ = some (.int .i64 (newTo l k k).holds.l) := (HBs2.out.cell _).trans (HCs.out.c2 hk18')
          have c3 : w2.cell? ⟨q, k * 5 + 3, none⟩ = some (.int .i64 (newTo l k k).holds.v) := (HBs2.out.cell _).trans (HCs.out.c3 hk18')
          have f2 := HBs2.out.frozen (k * 5 + 2)
          have f3 := HBs2.out.frozen (k * 5 + 3)
          go_region
          have HB9 : Hid (ScSdAt (((w2.setCell ⟨q, k * 5 + 2, none⟩ (.int .i64 xl)).setCell ⟨q, k * 5 + 2 + 1, none⟩ (.int .i64 xv)).drew) q (newTo l (k + 1))) := ⟨_, ((HBs2.out.setCell (k * 5 + 2) _).setCell (k * 5 + 2 + 1) _).drew, by
            rw [newTo_succ HX.out, HH.out]
            have h2 := HCs.out.setHolds hk18' ⟨xl, xv⟩
            rw [set2_eq _ _ _ _ (by rw [HCs.out.len]; omega)] at h2
            exact h2⟩
          have HO9 : Hid (Only (fun _ => False) w (((w2.setCell ⟨q, k * 5 + 2, none⟩ (.int .i64 xl)).setCell ⟨q, k * 5 + 2 + 1, none⟩ (.int .i64 xv)).drew)) := ((HO2.out.setCell (p := ⟨q, k * 5 + 2, none⟩) (.inr (by have := HQ.out; show w.heap.size ≤ q; omega)) _).setCell (p := ⟨q, k * 5 + 2 + 1, none⟩) (.inr (by have := HQ.out; show w.heap.size ≤ q; omega)) _).drew
          clear c2 c3 f2 f3 b0 b1
          generalize (((w2.setCell ⟨q, k * 5 + 2, none⟩ (.int .i64 xl)).setCell ⟨q, k * 5 + 2 + 1, none⟩ (.int .i64 xv)).drew) = w9 at *
          go_wp2
          go_roundw
          case rel => exact ⟨k + 1, by omega, by go_num, HB9.out, HO9.out⟩
          case measure => simp [intOf]; omega
        · have hh : holdOf ⟨xl, xv⟩ = ⟨0, 0⟩ := HG1.out (by
            cases g
            · exact .inl rfl
            · exact .inr ⟨rfl, Decidable.byContradiction fun h => ho ⟨rfl, h⟩⟩)
          have HT := Lib.hid (newTo_skip HX.out hh)
          have hg3 : g = false ∨ (g = true ∧ xl = 3) := by
            cases g
            · exact .inl rfl
            · exact .inr ⟨rfl, Decidable.byContradiction fun h => ho ⟨rfl, h⟩⟩
          clear ho hh HG1 HG2
          rcases hg3 with rfl | ⟨rfl, rfl⟩
          all_goals
            go_wp2_with (first
              | ((with_reducible show wpList _ _ _ (⟨some 18, _, _, _, _, _⟩ :: _) _ _); refine wpList_load_mid rfl 75 _ rfl b (off + k * 2) rfl [.int .i64 _, .int .i64 xv] _ HRg.out Tryz.underlying75 rfl size_set ?_)
              | (go_at_call 62; refine (HSx.out _).mono ?_; rintro e w2 ⟨rfl, ho2⟩; have HB2 := Lib.hid ((Blk.new' _ 75 [.int .i64 _, .int .i64 xv] rfl).only ho2 (fun h => h)); have b0 : w2.cell? ⟨wr.heap.size, 0, none⟩ = some (.int .i64 _) := HB2.out.cell 0; have HO2 : Hid (Only (fun _ => False) wr w2) := ((Only.refl _ _).alloc _).trans ho2 (fun _ h => h.elim); clear ho2)
              | fail)
            go_roundw
            case rel => exact ⟨k + 1, by omega, by go_num, by rw [HT.out]; exact hrel.out.1.same HO2.out, hrel.out.2.trans HO2.out (fun _ h => h.elim)⟩
            case measure => simp [intOf]; omega
      · obtain rfl : k = 18 := by omega
        go_wp2
        go_ret
        exact ⟨q, rfl, by rw [← HN.out]; exact hrel.out.1, by rw [HQ.out]; exact Nat.le_refl _, hrel.out.2⟩
  · have hm : (n : Int) ≤ 18 := by omega
    have hnew := newTo_all (l := l) (m := n) (by rw [H.out.1]; omega)
    have HN := Lib.hid hnew
    have hzv := zero_of_side
    have hzn := sc0_ne
    clear hnew
    go_enter Tryz.func45, Tryz.ntmps45
    go_wp2_with (first
      | ((with_reducible show wpList _ _ _ (⟨some 6, _, _, _, _, _⟩ :: _) _ _); refine step_build rfl 80 _ rfl sc0 built_side ?_)
      | ((with_reducible show wpList _ _ _ (⟨some 7, _, _, _, _, _⟩ :: _) _ _); refine step_box rfl 80 _ rfl sc0 rfl ?_)
      | fail)
    have HB0 : Hid (ScSdAt (w.alloc (.cells sc0.toArray 80)) w.heap.size (newTo l 0)) := ⟨sc0, Blk.new w _ sc0, sc0_c⟩
    have HO0 : Hid (Only (fun _ => False) w (w.alloc (.cells sc0.toArray 80))) := (Only.refl _ _).alloc _
    have HNw : Hid (w.heap.size < (w.alloc (.cells sc0.toArray 80)).heap.size) := by simp [Hid]
    generalize w.alloc (.cells sc0.toArray 80) = w0 at *
    obtain ⟨q, hq⟩ : ∃ q, q = w.heap.size := ⟨_, rfl⟩
    rw [← hq] at HB0 HNw ⊢
    have HQ := Lib.hid hq
    clear hq
    go_loopw [14] (fun i W => ∃ k : Nat, k ≤ n ∧ i = .int .i64 (k : Int) ∧ Hid (ScSdAt W q (newTo l k) ∧ Only (fun _ => False) w W)) (fun i _ => n - (intOf i).toNat)
    case atStart => exact ⟨0, Nat.zero_le _, rfl, HB0.out, HO0.out⟩
    case round =>
      obtain ⟨k, hk, rfl, hrel⟩ := hrel
      by_cases hlt : k < n
      · have hlt2 : (k : Int) < (n : Int) := by omega
        have hk18 : (k : Int) < 18 := by omega
        have hk18' : k < 18 := by omega
        obtain ⟨x, hx⟩ : ∃ x, l[k]? = some x := ⟨_, List.getElem?_eq_getElem (by rw [H.out.1]; omega)⟩
        obtain ⟨b, off, rfl, hbl, hrg⟩ := (H.out.same hrel.out.2).2 k x hx
        have HX := Lib.hid hx
        have HRg := Lib.hid hrg
        obtain ⟨xl, xv⟩ := x
        have HSx := Lib.hid (fun W => HS.out W ⟨xl, xv⟩)
        have HG : Hid (∀ g, Se.fine ⟨xl, xv⟩ = g → (g = false ∨ (g = true ∧ xl = 3) → holdOf ⟨xl, xv⟩ = ⟨0, 0⟩) ∧ (g = true → xl ≠ 3 → holdOf ⟨xl, xv⟩ = ⟨xl, xv⟩)) := by
          intro g hg
          unfold holdOf
          refine ⟨fun h => ?_, fun h h3 => ?_⟩
          · rw [if_neg]
            rintro ⟨h1, h2⟩
            rcases h with h | ⟨_, h⟩
            · rw [hg, h] at h1; cases h1
            · exact h2 h
          · rw [if_pos ⟨hg.trans h, h3⟩]
        have hfin : ∃ g, Se.fine ⟨xl, xv⟩ = g := ⟨_, rfl⟩
        obtain ⟨g, hg⟩ := hfin
        have HG1 := Lib.hid (HG.out g hg).1
        have HG2 := Lib.hid (HG.out g hg).2
        simp only at HSx
        rw [hg] at HSx
        clear HG hx hrg hg
        have hM := hbl
        by_cases ho : g = true ∧ xl ≠ 3
        · obtain ⟨rfl, h3⟩ := ho
          have hn3 : (xl != 3) = true := by simp [h3]
          have HH := Lib.hid (HG2.out rfl h3)
          obtain ⟨⟨cs, hbs, hcs⟩, hon⟩ := hrel.out
          have HBs := Lib.hid hbs
          have HCs := Lib.hid hcs
          have HOn := Lib.hid hon
          have hqW := hbs.lt
          clear hbs hcs hon h3 HG1 HG2
          go_wp2_with (first
            | ((with_reducible show wpList _ _ _ (⟨some 18, _, _, _, _, _⟩ :: _) _ _); refine wpList_load_mid rfl 75 _ rfl b (off + k * 2) rfl [.int .i64 xl, .int .i64 xv] _ HRg.out Tryz.underlying75 rfl size_set ?_)
            | (go_at_call 62; refine (HSx.out _).mono ?_; rintro e w2 ⟨rfl, ho2⟩; have HB2 := Lib.hid ((Blk.new' _ 75 [.int .i64 xl, .int .i64 xv] rfl).only ho2 (fun h => h)); have b0 : w2.cell? ⟨wr.heap.size, 0, none⟩ = some (.int .i64 xl) := HB2.out.cell 0; have HBs2 := Lib.hid ((HBs.out.alloc _).only ho2 (fun h => h)); have HO2 : Hid (Only (fun _ => False) w w2) := (HOn.out.alloc _).trans ho2 (fun _ h => h.elim); clear ho2)
            | fail)

          have b1 : w2.cell? ⟨wr.heap.size, 1, none⟩ = some (.int .i64 xv) := HB2.out.cell 1
          have c2 : w2.cell? ⟨q, k * 5 + 2, none⟩ = some (.int .i64 (newTo l k k).holds.l) := (HBs2.out.cell _).trans (HCs.out.c2 hk18')
          have c3 : w2.cell? ⟨q, k * 5 + 3, none⟩ = some (.int .i64 (newTo l k k).holds.v) := (HBs2.out.cell _).trans (HCs.out.c3 hk18')
          have f2 := HBs2.out.frozen (k * 5 + 2)
          have f3 := HBs2.out.frozen (k * 5 + 3)
          go_region
          have HB9 : Hid (ScSdAt (((w2.setCell ⟨q, k * 5 + 2, none⟩ (.int .i64 xl)).setCell ⟨q, k * 5 + 2 + 1, none⟩ (.int .i64 xv)).drew) q (newTo l (k + 1))) := ⟨_, ((HBs2.out.setCell (k * 5 + 2) _).setCell (k * 5 + 2 + 1) _).drew, by
            rw [newTo_succ HX.out, HH.out]
            have h2 := HCs.out.setHolds hk18' ⟨xl, xv⟩
            rw [set2_eq _ _ _ _ (by rw [HCs.out.len]; omega)] at h2
            exact h2⟩
          have HO9 : Hid (Only (fun _ => False) w (((w2.setCell ⟨q, k * 5 + 2, none⟩ (.int .i64 xl)).setCell ⟨q, k * 5 + 2 + 1, none⟩ (.int .i64 xv)).drew)) := ((HO2.out.setCell (p := ⟨q, k * 5 + 2, none⟩) (.inr (by have := HQ.out; show w.heap.size ≤ q; omega)) _).setCell (p := ⟨q, k * 5 + 2 + 1, none⟩) (.inr (by have := HQ.out; show w.heap.size ≤ q; omega)) _).drew
          clear c2 c3 f2 f3 b0 b1
          generalize (((w2.setCell ⟨q, k * 5 + 2, none⟩ (.int .i64 xl)).setCell ⟨q, k * 5 + 2 + 1, none⟩ (.int .i64 xv)).drew) = w9 at *
          go_wp2
          go_roundw
          case rel => exact ⟨k + 1, by omega, by go_num, HB9.out, HO9.out⟩
          case measure => simp [intOf]; omega
        · have hh : holdOf ⟨xl, xv⟩ = ⟨0, 0⟩ := HG1.out (by
            cases g
            · exact .inl rfl
            · exact .inr ⟨rfl, Decidable.byContradiction fun h => ho ⟨rfl, h⟩⟩)
          have HT := Lib.hid (newTo_skip HX.out hh)
          have hg3 : g = false ∨ (g = true ∧ xl = 3) := by
            cases g
            · exact .inl rfl
            · exact .inr ⟨rfl, Decidable.byContradiction fun h => ho ⟨rfl, h⟩⟩
          clear ho hh HG1 HG2
          rcases hg3 with rfl | ⟨rfl, rfl⟩
          all_goals
            go_wp2_with (first
              | ((with_reducible show wpList _ _ _ (⟨some 18, _, _, _, _, _⟩ :: _) _ _); refine wpList_load_mid rfl 75 _ rfl b (off + k * 2) rfl [.int .i64 _, .int .i64 xv] _ HRg.out Tryz.underlying75 rfl size_set ?_)
              | (go_at_call 62; refine (HSx.out _).mono ?_; rintro e w2 ⟨rfl, ho2⟩; have HB2 := Lib.hid ((Blk.new' _ 75 [.int .i64 _, .int .i64 xv] rfl).only ho2 (fun h => h)); have b0 : w2.cell? ⟨wr.heap.size, 0, none⟩ = some (.int .i64 _) := HB2.out.cell 0; have HO2 : Hid (Only (fun _ => False) wr w2) := ((Only.refl _ _).alloc _).trans ho2 (fun _ h => h.elim); clear ho2)
              | fail)
            go_roundw
            case rel => exact ⟨k + 1, by omega, by go_num, by rw [HT.out]; exact hrel.out.1.same HO2.out, hrel.out.2.trans HO2.out (fun _ h => h.elim)⟩
            case measure => simp [intOf]; omega
      · obtain rfl : k = n := by omega
        go_wp2
        go_ret
        exact ⟨q, rfl, by rw [← HN.out]; exact hrel.out.1, by rw [HQ.out]; exact Nat.le_refl _, hrel.out.2⟩
end Go.Proofs.YtlmkpembccehkaaGreatDoor
