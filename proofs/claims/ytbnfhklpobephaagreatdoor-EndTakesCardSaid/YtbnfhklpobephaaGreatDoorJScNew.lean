/- Several texts in one. -/
import Derived.Test.YtbnfhklpobephaaGreatDoorJSnType
import Derived.Test.YtbnfhklpobephaaGreatDoorKAlloc
import Derived.Deep.Fields
import Derived.Test.YtbnfhklpobephaaGreatDoorJBase
/- Package slc: New. -/
namespace Go.Proofs.YtbnfhklpobephaaGreatDoor
open Go Go.RowKit
set_option maxRecDepth 100000
set_option maxHeartbeats 4000000

/-- A slice of settings. -/
def StAt (W : World) (a : Option Addr) (len : Nat) (l : List Se) : Prop :=
  l.length = len ∧ ∀ (i : Nat) (x : Se), l[i]? = some x → ∃ b off, a = some ⟨b, off, none⟩ ∧ b < W.heap.size ∧ W.rangeAt b (off + i * 2) x.cs
theorem StAt.same {W W' : World} {a : Option Addr} {len : Nat} {l : List Se} (h : StAt W a len l) (ho : Only (fun _ => False) W W') : StAt W' a len l :=
  ⟨h.1, fun i x hx => by
    obtain ⟨b, off, e, hb, h1⟩ := h.2 i x hx
    exact ⟨b, off, e, Nat.lt_of_lt_of_le hb ho.size, fun j v hv => ho.cellv (h1 j v hv) (fun h => h)⟩⟩
def newTo (l : List Se) (k : Nat) : Sd := fun i => ⟨⟨0, 0⟩, if i < k then holdOf (l.getD i ⟨0, 0⟩) else ⟨0, 0⟩, false⟩
theorem newTo_zero (l : List Se) : newTo l 0 = Sd.zero := rfl
theorem newTo_succ {l : List Se} {k : Nat} {x : Se} (h : l[k]? = some x) : newTo l (k + 1) = (newTo l k).set k ⟨((newTo l k) k).has, holdOf x, ((newTo l k) k).waits⟩ := by
  funext i
  unfold Sd.set
  by_cases e : i = k
  · subst e
    rw [if_pos rfl]
    unfold newTo
    simp [List.getD_eq_getElem?_getD, h]
  · rw [if_neg e]
    unfold newTo
    by_cases e2 : i < k
    · rw [if_pos e2, if_pos (by omega)]
    · rw [if_neg e2, if_neg (by omega)]
theorem newTo_skip {l : List Se} {k : Nat} {x : Se} (h : l[k]? = some x) (hx : holdOf x = ⟨0, 0⟩) : newTo l (k + 1) = newTo l k := by
  funext i
  unfold newTo
  by_cases e : i = k
  · subst e
    rw [if_pos (by omega), if_neg (by omega), List.getD_eq_getElem?_getD, h]
    simp [hx]
  · by_cases e2 : i < k
    · rw [if_pos e2, if_pos (by omega)]
    · rw [if_neg e2, if_neg (by omega)]
theorem newTo_all {l : List Se} {m : Nat} (hm : m = min l.length 18) : newTo l m = newS l := by
  funext i
  unfold newTo newS
  by_cases e : i < m
  · rw [if_pos e, if_pos (by omega)]
  · rw [if_neg e]
    by_cases e2 : i < 18
    · rw [if_pos e2, List.getD_eq_getElem?_getD, List.getElem?_eq_none (by omega)]
      rfl
    · rw [if_neg e2]

theorem zero_of_side (W : World) : (zeroValue 114).run Tryz.prog W = .ok (.agg sc0.toArray) W := by kernel_rfl
theorem sc0_ne : ¬ sc0 = [] := by decide
theorem snew_any {w : World} {A : Option Addr} {n c : Nat} {l : List Se} (h : StAt w A n l) (hn : n ≤ c) (hc : c ≤ 9223372036854775807) :
    Calls Tryz.prog 134 #[.slice A n c] w fun e w' => ∃ p, e = .returned (.pointer (some ⟨p, 0, none⟩)) ∧ ScSdAt w' p (newS l) ∧ w.heap.size ≤ p ∧ Only (fun _ => False) w w' := by
  have H := Lib.hid h
  have HS := Lib.hid (fun W (x : Se) => isSet_any W x.l x.v)
  rcases Nat.lt_or_ge 18 n with h18 | h18
  · have hm : (18 : Int) < (n : Int) := by omega
    have hnew := newTo_all (l := l) (m := 18) (by rw [H.out.1]; omega)
    have HN := Lib.hid hnew
    have hzv := zero_of_side
    have hzn := sc0_ne
    clear hnew
    go_enter Tryz.func134, Tryz.ntmps134
    go_wp2_with (first
      | ((with_reducible show wpList _ _ _ (⟨some 6, _, _, _, _, _⟩ :: _) _ _); refine step_build rfl 114 _ rfl sc0 built_side ?_)
      | ((with_reducible show wpList _ _ _ (⟨some 7, _, _, _, _, _⟩ :: _) _ _); refine step_box rfl 114 _ rfl sc0 rfl ?_)
      | fail)
    have HB0 : Hid (ScSdAt (w.alloc (.cells sc0.toArray 114)) w.heap.size (newTo l 0)) := ⟨sc0, Blk.new w _ sc0, sc0_c⟩
    have HO0 : Hid (Only (fun _ => False) w (w.alloc (.cells sc0.toArray 114))) := (Only.refl _ _).alloc _
    have HNw : Hid (w.heap.size < (w.alloc (.cells sc0.toArray 114)).heap.size) := by simp [Hid]
    generalize w.alloc (.cells sc0.toArray 114) = w0 at *
    obtain ⟨q, hq⟩ : ∃ q, q = w.heap.size := ⟨_, rfl⟩
    rw [← hq] at HB0 HNw ⊢
    have HQ := Lib.hid hq
    clear hq
    go_loopw [14] (fun i W => ∃ k : Nat, k ≤ 18 ∧ i = .int .i64 (k : Int) ∧ Hid (ScSdAt W q (newTo l k) ∧ Only (fun _ => False) w W)) (fun i _ => 18 - (intOf i).toNat)
    case atStart => exact ⟨0, Nat.zero_le _, rfl, HB0.out, HO0.out⟩
    case round =>
      obtain ⟨k, hk, rfl, hrel⟩ := hrel
      by_cases hlt : k < 18
      · have hlt2 : (k : Int) < (18 : Int) := by omega
        have hk18 : (k : Int) < 18 := by omega
        have hk18' : k < 18 := by omega
        obtain ⟨x, hx⟩ : ∃ x, l[k]? = some x := ⟨_, List.getElem?_eq_getElem (by rw [H.out.1]; omega)⟩
        obtain ⟨b, off, rfl, hbl, hrg⟩ := (H.out.same hrel.out.2).2 k x hx
        have HX := Lib.hid hx
        have HRg := Lib.hid hrg
        obtain ⟨xl, xv⟩ := x
        have HSx := Lib.hid (fun W => HS.out W ⟨xl, xv⟩)
        have HG : Hid (∀ g, Se.fine ⟨xl, xv⟩ = g → (g = false ∨ (g = true ∧ xl = 3) → holdOf ⟨xl, xv⟩ = ⟨0, 0⟩) ∧ (g = true → xl ≠ 3 → holdOf ⟨xl, xv⟩ = ⟨xl, xv⟩)) := by
          intro g hg
          unfold holdOf
          refine ⟨fun h => ?_, fun h h3 => ?_⟩
          · rw [if_neg]
            rintro ⟨h1, h2⟩
            rcases h with h | ⟨_, h⟩
            · rw [hg, h] at h1; cases h1
            · exact h2 h
          · rw [if_pos ⟨hg.trans h, h3⟩]
        have hfin : ∃ g, Se.fine ⟨xl, xv⟩ = g := ⟨_, rfl⟩
        obtain ⟨g, hg⟩ := hfin
        have HG1 := Lib.hid (HG.out g hg).1
        have HG2 := Lib.hid (HG.out g hg).2
        simp only at HSx
        rw [hg] at HSx
        clear HG hx hrg hg
        have hM := hbl
        by_cases ho : g = true ∧ xl ≠ 3
        · obtain ⟨rfl, h3⟩ := ho
          have hn3 : (xl != 3) = true := by simp [h3]
          have HH := Lib.hid (HG2.out rfl h3)
          obtain ⟨⟨cs, hbs, hcs⟩, hon⟩ := hrel.out
          have HBs := Lib.hid hbs
          have HCs := Lib.hid hcs
          have HOn := Lib.hid hon
          have hqW := hbs.lt
          clear hbs hcs hon h3 HG1 HG2
          go_wp2_with (first
            | ((with_reducible show wpList _ _ _ (⟨some 18, _, _, _, _, _⟩ :: _) _ _); refine wpList_load_mid rfl 109 _ rfl b (off + k * 2) rfl [.int .i64 xl, .int .i64 xv] _ HRg.out Tryz.underlying109 rfl size_set ?_)
            | (go_at_call 173; refine (HSx.out _).mono ?_; rintro e w2 ⟨rfl, ho2⟩; have HB2 := Lib.hid ((Blk.new' _ 109 [.int .i64 xl, .int .i64 xv] rfl).only ho2 (fun h => h)); have b0 : w2.cell? ⟨wr.heap.size, 0, none⟩ = some (.int .i64 xl) := HB2.out.cell 0; have HBs2 := Lib.hid ((HBs.out.alloc _).only ho2 (fun h => h)); have HO2 : Hid (Only (fun _ => False) w w2) := (HOn.out.alloc _).trans ho2 (fun _ h => h.elim); clear ho2)
            | fail)

          have b1 : w2.cell? ⟨wr.heap.size, 1, none⟩ = some (.int .i64 xv) := HB2.out.cell 1
          have c2 : w2.cell? ⟨q, k * 5 + 2, none⟩ = some (.int .i64 (newTo l k k).holds.l) := (HBs2.out.cell _).trans (HCs.out.c2 hk18')
          have c3 : w2.cell? ⟨q, k * 5 + 3, none⟩ = some (.int .i64 (newTo l k k).holds.v) := (HBs2.out.cell _).trans (HCs.out.c3 hk18')
          have f2 := HBs2.out.frozen (k * 5 + 2)
          have f3 := HBs2.out.frozen (k * 5 + 3)
          go_region
          have HB9 : Hid (ScSdAt (((w2.setCell ⟨q, k * 5 + 2, none⟩ (.int .i64 xl)).setCell ⟨q, k * 5 + 2 + 1, none⟩ (.int .i64 xv)).drew) q (newTo l (k + 1))) := ⟨_, ((HBs2.out.setCell (k * 5 + 2) _).setCell (k * 5 + 2 + 1) _).drew, by
            rw [newTo_succ HX.out, HH.out]
            have h2 := HCs.out.setHolds hk18' ⟨xl, xv⟩
            rw [set2_eq _ _ _ _ (by rw [HCs.out.len]; omega)] at h2
            exact h2⟩
          have HO9 : Hid (Only (fun _ => False) w (((w2.setCell ⟨q, k * 5 + 2, none⟩ (.int .i64 xl)).setCell ⟨q, k * 5 + 2 + 1, none⟩ (.int .i64 xv)).drew)) := ((HO2.out.setCell (p := ⟨q, k * 5 + 2, none⟩) (.inr (by have := HQ.out; show w.heap.size ≤ q; omega)) _).setCell (p := ⟨q, k * 5 + 2 + 1, none⟩) (.inr (by have := HQ.out; show w.heap.size ≤ q; omega)) _).drew
          clear c2 c3 f2 f3 b0 b1
          generalize (((w2.setCell ⟨q, k * 5 + 2, none⟩ (.int .i64 xl)).setCell ⟨q, k * 5 + 2 + 1, none⟩ (.int .i64 xv)).drew) = w9 at *
          go_wp2
          go_roundw
          case rel => exact ⟨k + 1, by omega, by go_num, HB9.out, HO9.out⟩
          case measure => simp [intOf]; omega
        · have hh : holdOf ⟨xl, xv⟩ = ⟨0, 0⟩ := HG1.out (by
            cases g
            · exact .inl rfl
            · exact .inr ⟨rfl, Decidable.byContradiction fun h => ho ⟨rfl, h⟩⟩)
          have HT := Lib.hid (newTo_skip HX.out hh)
          have hg3 : g = false ∨ (g = true ∧ xl = 3) := by
            cases g
            · exact .inl rfl
            · exact .inr ⟨rfl, Decidable.byContradiction fun h => ho ⟨rfl, h⟩⟩
          clear ho hh HG1 HG2
          rcases hg3 with rfl | ⟨rfl, rfl⟩
          all_goals
            go_wp2_with (first
              | ((with_reducible show wpList _ _ _ (⟨some 18, _, _, _, _, _⟩ :: _) _ _); refine wpList_load_mid rfl 109 _ rfl b (off + k * 2) rfl [.int .i64 _, .int .i64 xv] _ HRg.out Tryz.underlying109 rfl size_set ?_)
              | (go_at_call 173; refine (HSx.out _).mono ?_; rintro e w2 ⟨rfl, ho2⟩; have HB2 := Lib.hid ((Blk.new' _ 109 [.int .i64 _, .int .i64 xv] rfl).only ho2 (fun h => h)); have b0 : w2.cell? ⟨wr.heap.size, 0, none⟩ = some (.int .i64 _) := HB2.out.cell 0; have HO2 : Hid (Only (fun _ => False) wr w2) := ((Only.refl _ _).alloc _).trans ho2 (fun _ h => h.elim); clear ho2)
              | fail)
            go_roundw
            case rel => exact ⟨k + 1, by omega, by go_num, by rw [HT.out]; exact hrel.out.1.same HO2.out, hrel.out.2.trans HO2.out (fun _ h => h.elim)⟩
            case measure => simp [intOf]; omega
      · obtain rfl : k = 18 := by omega
        go_wp2
        go_ret
        exact ⟨q, rfl, by rw [← HN.out]; exact hrel.out.1, by rw [HQ.out]; exact Nat.le_refl _, hrel.out.2⟩
  · have hm : (n : Int) ≤ 18 := by omega
    have hnew := newTo_all (l := l) (m := n) (by rw [H.out.1]; omega)
    have HN := Lib.hid hnew
    have hzv := zero_of_side
    have hzn := sc0_ne
    clear hnew
    go_enter Tryz.func134, Tryz.ntmps134
    go_wp2_with (first
      | ((with_reducible show wpList _ _ _ (⟨some 6, _, _, _, _, _⟩ :: _) _ _); refine step_build rfl 114 _ rfl sc0 built_side ?_)
      | ((with_reducible show wpList _ _ _ (⟨some 7, _, _, _, _, _⟩ :: _) _ _); refine step_box rfl 114 _ rfl sc0 rfl ?_)
      | fail)
    have HB0 : Hid (ScSdAt (w.alloc (.cells sc0.toArray 114)) w.heap.size (newTo l 0)) := ⟨sc0, Blk.new w _ sc0, sc0_c⟩
    have HO0 : Hid (Only (fun _ => False) w (w.alloc (.cells sc0.toArray 114))) := (Only.refl _ _).alloc _
    have HNw : Hid (w.heap.size < (w.alloc (.cells sc0.toArray 114)).heap.size) := by simp [Hid]
    generalize w.alloc (.cells sc0.toArray 114) = w0 at *
    obtain ⟨q, hq⟩ : ∃ q, q = w.heap.size := ⟨_, rfl⟩
    rw [← hq] at HB0 HNw ⊢
    have HQ := Lib.hid hq
    clear hq
    go_loopw [14] (fun i W => ∃ k : Nat, k ≤ n ∧ i = .int .i64 (k : Int) ∧ Hid (ScSdAt W q (newTo l k) ∧ Only (fun _ => False) w W)) (fun i _ => n - (intOf i).toNat)
    case atStart => exact ⟨0, Nat.zero_le _, rfl, HB0.out, HO0.out⟩
    case round =>
      obtain ⟨k, hk, rfl, hrel⟩ := hrel
      by_cases hlt : k < n
      · have hlt2 : (k : Int) < (n : Int) := by omega
        have hk18 : (k : Int) < 18 := by omega
        have hk18' : k < 18 := by omega
        obtain ⟨x, hx⟩ : ∃ x, l[k]? = some x := ⟨_, List.getElem?_eq_getElem (by rw [H.out.1]; omega)⟩
        obtain ⟨b, off, rfl, hbl, hrg⟩ := (H.out.same hrel.out.2).2 k x hx
        have HX := Lib.hid hx
        have HRg := Lib.hid hrg
        obtain ⟨xl, xv⟩ := x
        have HSx := Lib.hid (fun W => HS.out W ⟨xl, xv⟩)
        have HG : Hid (∀ g, Se.fine ⟨xl, xv⟩ = g → (g = false ∨ (g = true ∧ xl = 3) → holdOf ⟨xl, xv⟩ = ⟨0, 0⟩) ∧ (g = true → xl ≠ 3 → holdOf ⟨xl, xv⟩ = ⟨xl, xv⟩)) := by
          intro g hg
          unfold holdOf
          refine ⟨fun h => ?_, fun h h3 => ?_⟩
          · rw [if_neg]
            rintro ⟨h1, h2⟩
            rcases h with h | ⟨_, h⟩
            · rw [hg, h] at h1; cases h1
            · exact h2 h
          · rw [if_pos ⟨hg.trans h, h3⟩]
        have hfin : ∃ g, Se.fine ⟨xl, xv⟩ = g := ⟨_, rfl⟩
        obtain ⟨g, hg⟩ := hfin
        have HG1 := Lib.hid (HG.out g hg).1
        have HG2 := Lib.hid (HG.out g hg).2
        simp only at HSx
        rw [hg] at HSx
        clear HG hx hrg hg
        have hM := hbl
        by_cases ho : g = true ∧ xl ≠ 3
        · obtain ⟨rfl, h3⟩ := ho
          have hn3 : (xl != 3) = true := by simp [h3]
          have HH := Lib.hid (HG2.out rfl h3)
          obtain ⟨⟨cs, hbs, hcs⟩, hon⟩ := hrel.out
          have HBs := Lib.hid hbs
          have HCs := Lib.hid hcs
          have HOn := Lib.hid hon
          have hqW := hbs.lt
          clear hbs hcs hon h3 HG1 HG2
          go_wp2_with (first
            | ((with_reducible show wpList _ _ _ (⟨some 18, _, _, _, _, _⟩ :: _) _ _); refine wpList_load_mid rfl 109 _ rfl b (off + k * 2) rfl [.int .i64 xl, .int .i64 xv] _ HRg.out Tryz.underlying109 rfl size_set ?_)
            | (go_at_call 173; refine (HSx.out _).mono ?_; rintro e w2 ⟨rfl, ho2⟩; have HB2 := Lib.hid ((Blk.new' _ 109 [.int .i64 xl, .int .i64 xv] rfl).only ho2 (fun h => h)); have b0 : w2.cell? ⟨wr.heap.size, 0, none⟩ = some (.int .i64 xl) := HB2.out.cell 0; have HBs2 := Lib.hid ((HBs.out.alloc _).only ho2 (fun h => h)); have HO2 : Hid (Only (fun _ => False) w w2) := (HOn.out.alloc _).trans ho2 (fun _ h => h.elim); clear ho2)
            | fail)

          have b1 : w2.cell? ⟨wr.heap.size, 1, none⟩ = some (.int .i64 xv) := HB2.out.cell 1
          have c2 : w2.cell? ⟨q, k * 5 + 2, none⟩ = some (.int .i64 (newTo l k k).holds.l) := (HBs2.out.cell _).trans (HCs.out.c2 hk18')
          have c3 : w2.cell? ⟨q, k * 5 + 3, none⟩ = some (.int .i64 (newTo l k k).holds.v) := (HBs2.out.cell _).trans (HCs.out.c3 hk18')
          have f2 := HBs2.out.frozen (k * 5 + 2)
          have f3 := HBs2.out.frozen (k * 5 + 3)
          go_region
          have HB9 : Hid (ScSdAt (((w2.setCell ⟨q, k * 5 + 2, none⟩ (.int .i64 xl)).setCell ⟨q, k * 5 + 2 + 1, none⟩ (.int .i64 xv)).drew) q (newTo l (k + 1))) := ⟨_, ((HBs2.out.setCell (k * 5 + 2) _).setCell (k * 5 + 2 + 1) _).drew, by
            rw [newTo_succ HX.out, HH.out]
            have h2 := HCs.out.setHolds hk18' ⟨xl, xv⟩
            rw [set2_eq _ _ _ _ (by rw [HCs.out.len]; omega)] at h2
            exact h2⟩
          have HO9 : Hid (Only (fun _ => False) w (((w2.setCell ⟨q, k * 5 + 2, none⟩ (.int .i64 xl)).setCell ⟨q, k * 5 + 2 + 1, none⟩ (.int .i64 xv)).drew)) := ((HO2.out.setCell (p := ⟨q, k * 5 + 2, none⟩) (.inr (by have := HQ.out; show w.heap.size ≤ q; omega)) _).setCell (p := ⟨q, k * 5 + 2 + 1, none⟩) (.inr (by have := HQ.out; show w.heap.size ≤ q; omega)) _).drew
          clear c2 c3 f2 f3 b0 b1
          generalize (((w2.setCell ⟨q, k * 5 + 2, none⟩ (.int .i64 xl)).setCell ⟨q, k * 5 + 2 + 1, none⟩ (.int .i64 xv)).drew) = w9 at *
          go_wp2
          go_roundw
          case rel => exact ⟨k + 1, by omega, by go_num, HB9.out, HO9.out⟩
          case measure => simp [intOf]; omega
        · have hh : holdOf ⟨xl, xv⟩ = ⟨0, 0⟩ := HG1.out (by
            cases g
            · exact .inl rfl
            · exact .inr ⟨rfl, Decidable.byContradiction fun h => ho ⟨rfl, h⟩⟩)
          have HT := Lib.hid (newTo_skip HX.out hh)
          have hg3 : g = false ∨ (g = true ∧ xl = 3) := by
            cases g
            · exact .inl rfl
            · exact .inr ⟨rfl, Decidable.byContradiction fun h => ho ⟨rfl, h⟩⟩
          clear ho hh HG1 HG2
          rcases hg3 with rfl | ⟨rfl, rfl⟩
          all_goals
            go_wp2_with (first
              | ((with_reducible show wpList _ _ _ (⟨some 18, _, _, _, _, _⟩ :: _) _ _); refine wpList_load_mid rfl 109 _ rfl b (off + k * 2) rfl [.int .i64 _, .int .i64 xv] _ HRg.out Tryz.underlying109 rfl size_set ?_)
              | (go_at_call 173; refine (HSx.out _).mono ?_; rintro e w2 ⟨rfl, ho2⟩; have HB2 := Lib.hid ((Blk.new' _ 109 [.int .i64 _, .int .i64 xv] rfl).only ho2 (fun h => h)); have b0 : w2.cell? ⟨wr.heap.size, 0, none⟩ = some (.int .i64 _) := HB2.out.cell 0; have HO2 : Hid (Only (fun _ => False) wr w2) := ((Only.refl _ _).alloc _).trans ho2 (fun _ h => h.elim); clear ho2)
              | fail)
            go_roundw
            case rel => exact ⟨k + 1, by omega, by go_num, by rw [HT.out]; exact hrel.out.1.same HO2.out, hrel.out.2.trans HO2.out (fun _ h => h.elim)⟩
            case measure => simp [intOf]; omega
      · obtain rfl : k = n := by omega
        go_wp2
        go_ret
        exact ⟨q, rfl, by rw [← HN.out]; exact hrel.out.1, by rw [HQ.out]; exact Nat.le_refl _, hrel.out.2⟩
end Go.Proofs.YtbnfhklpobephaaGreatDoor
/- A slice of structs that came in, opened to its cells; a struct loaded whole out of memory. -/
namespace Go.Proofs.YtbnfhklpobephaaGreatDoor
open Go Go.ChangeShapes Go.WideShapes Go.ChangeAt Go.RowKit

/-- A slice of structs whose fields are one cell each: of each element its cells, and of each field its own reading. -/
theorem open_structs {H : Type} {enc : TypeId × Value → H} {P : Program} {t e : TypeId} {fs : Array Field} (ht : P.underlying t = some (.slice e)) (he : P.underlying e = some (.struct fs)) (hone : Go.Deep.oneCellFields P fs = true) (hC : P.cellsOf e = fs.size)
    {W : World} {spare : Nat → Bool} {held : Bool} {fuel : Nat} {a0 : Option Addr} {len cap : Nat} {x : DataW H × List MemPlace} (h : DataW.trod enc P W 0 spare held fuel t [.slice a0 len cap] = some x) :
    len ≤ cap ∧ cap ≤ 9223372036854775807 ∧ ∀ i, i < len → ∃ a, a0 = some a ∧ ∃ (vs : List Value) (n : Nat), vs.length = fs.size ∧ (∀ (j : Nat) (v : Value), vs[j]? = some v → W.cell? (a.add (i * fs.size + j)) = some v) ∧
      ∀ (j : Nat) (f : Field), fs[j]? = some f → ∃ v y, vs[j]? = some v ∧ DataW.trod enc P W 0 spare held n f.type [v] = some y := by
  rcases Go.Deep.open_slice ht h with ⟨h0, _⟩ | ⟨a, l, c, m, n, D, Pl, h0, _, hl, hm, hmm, _, hel⟩
  · simp at h0
    obtain ⟨rfl, rfl, rfl⟩ := h0
    exact ⟨Nat.le_refl _, by omega, fun i hi => absurd hi (by omega)⟩
  · simp at h0
    obtain ⟨rfl, rfl, rfl⟩ := h0
    refine ⟨hl, by unfold maxLen at hm; omega, fun i hi => ⟨a, rfl, ?_⟩⟩
    obtain ⟨cs, hc, htr⟩ := hel i (by split at hmm <;> omega)
    obtain ⟨_, hcl, hat⟩ := World.cells?_some hc
    obtain ⟨ys, k, _, _, _, hyl, hf⟩ := DataW.trod_struct he htr
    rw [hC] at hcl hat
    refine ⟨cs, k, hcl, fun j v hv => ?_, fun j f hj => ?_⟩
    · have hj : j < fs.size := by have := (List.getElem?_eq_some_iff.1 hv).1; omega
      have := hat j hj
      rw [Go.Deep.add_add] at this
      rw [this, hv]
    · obtain ⟨ho, hk⟩ := Go.Deep.hone_of hone j f hj
      have hjl : j < fs.size := (Array.getElem?_eq_some_iff.1 hj).1
      have h1 := hf j f hj
      rw [ho, hk] at h1
      have hv : cs[j]? = some (cs[j]'(by omega)) := List.getElem?_eq_getElem (by omega)
      have e1 : (cs.drop j).take 1 = [cs[j]'(by omega)] := by
        rw [List.drop_eq_getElem_cons (by omega)]
        rfl
      rw [e1] at h1
      have hy : ys[j]? = some (ys[j]'(by omega)) := List.getElem?_eq_getElem (by omega)
      exact ⟨_, _, hv, h1.trans hy⟩

theorem list_of {α : Type} {Q : Nat → α → Prop} : ∀ {n : Nat}, (∀ i, i < n → ∃ y, Q i y) → ∃ l : List α, l.length = n ∧ ∀ (i : Nat) (y : α), l[i]? = some y → Q i y
  | 0, _ => ⟨[], rfl, fun i y h => by cases h⟩
  | n + 1, h => by
    obtain ⟨l, hl, hq⟩ := list_of (n := n) (fun i hi => h i (by omega))
    obtain ⟨y, hy⟩ := h n (by omega)
    refine ⟨l ++ [y], by simp [hl], fun i z hz => ?_⟩
    rw [List.getElem?_append] at hz
    split at hz
    · exact hq i z hz
    · have hi : i = n := by
        have := (List.getElem?_eq_some_iff.1 hz).1
        simp at this
        omega
      subst hi
      rw [hl, Nat.sub_self] at hz
      simp only [List.getElem?_cons_zero, Option.some.injEq] at hz
      subst hz
      exact hy
end Go.Proofs.YtbnfhklpobephaaGreatDoor
/- Slices of structs: what came in, and what a call laid. -/
namespace Go.Proofs.YtbnfhklpobephaaGreatDoor
open Go Go.ChangeShapes Go.WideShapes Go.ChangeAt Go.RowKit
set_option maxRecDepth 100000
set_option maxHeartbeats 4000000

/-- A slice of structs of m cells each, of which each is one of α. -/
def LsOf {α : Type} (cs : α → List Value) (m : Nat) (W : World) (a : Option Addr) (len : Nat) (l : List α) : Prop :=
  l.length = len ∧ ∀ (i : Nat) (x : α), l[i]? = some x → ∃ b off, a = some ⟨b, off, none⟩ ∧ b < W.heap.size ∧ W.rangeAt b (off + i * m) (cs x)
theorem LsOf.same {α : Type} {cs : α → List Value} {m : Nat} {W W' : World} {a : Option Addr} {len : Nat} {l : List α} (h : LsOf cs m W a len l) (ho : Only (fun _ => False) W W') : LsOf cs m W' a len l :=
  ⟨h.1, fun i x hx => by
    obtain ⟨b, off, e, hb, h1⟩ := h.2 i x hx
    exact ⟨b, off, e, Nat.lt_of_lt_of_le hb ho.size, fun j v hv => ho.cellv (h1 j v hv) (fun h => h)⟩⟩
theorem open_ls {α : Type} {cs : α → List Value} {m : Nat} {t e : TypeId} (hm : 0 < m) (ht : Tryz.prog.underlying t = some (.slice e)) (hC : Tryz.prog.cellsOf e = m) (hcl : ∀ x, (cs x).length = m)
    {H : Type} {enc : TypeId × Value → H} {W : World} {spare : Nat → Bool} {held : Bool} {fuel : Nat} {a0 : Option Addr} {len cap : Nat} {x : DataW H × List MemPlace}
    (hone : ∀ {n : Nat} {vs : List Value} {y : DataW H × List MemPlace}, vs.length = m → DataW.trod enc Tryz.prog W 0 spare held n e vs = some y → ∃ x : α, vs = cs x)
    (h : DataW.trod enc Tryz.prog W 0 spare held fuel t [.slice a0 len cap] = some x) : len ≤ cap ∧ cap ≤ 9223372036854775807 ∧ ∃ l, LsOf cs m W a0 len l := by
  rcases Go.Deep.open_slice ht h with ⟨h0, _⟩ | ⟨a, l, c, mm, n, D, Pl, h0, _, hl, hmx, hmm, _, hel⟩
  · simp at h0
    obtain ⟨rfl, rfl, rfl⟩ := h0
    exact ⟨Nat.le_refl _, by omega, [], rfl, fun i x hx => by simp at hx⟩
  · simp at h0
    obtain ⟨rfl, rfl, rfl⟩ := h0
    refine ⟨hl, by unfold maxLen at hmx; omega, ?_⟩
    have each : ∀ i, i < len → ∃ y : α, ∃ b off, (some a : Option Addr) = some ⟨b, off, none⟩ ∧ b < W.heap.size ∧ W.rangeAt b (off + i * m) (cs y) := by
      intro i hi
      have part : ∀ i, i < len → ∃ y : α, ∀ (j : Nat) (v : Value), (cs y)[j]? = some v → W.cell? (a.add (i * m + j)) = some v := fun i hi => by
        obtain ⟨vs, hc, htr⟩ := hel i (by split at hmm <;> omega)
        obtain ⟨_, hvl, hat⟩ := World.cells?_some hc
        rw [hC] at hvl hat
        obtain ⟨y, rfl⟩ := hone hvl htr
        refine ⟨y, fun j v hv => ?_⟩
        have hj : j < m := by have := (List.getElem?_eq_some_iff.1 hv).1; rw [hcl] at this; exact this
        have := hat j hj
        rw [Go.Deep.add_add] at this
        rw [this, hv]
      obtain ⟨y, hy⟩ := part i hi
      obtain ⟨b, off, spot⟩ := a
      have h0' : 0 < (cs y).length := by rw [hcl]; exact hm
      have hv0 : (cs y)[0]? = some ((cs y)[0]'h0') := List.getElem?_eq_getElem _
      obtain rfl : spot = none := by
        obtain ⟨y', hy'⟩ := part 0 (by omega)
        have h0'' : 0 < (cs y').length := by rw [hcl]; exact hm
        have := World.cell?_spot (hy' 0 _ (List.getElem?_eq_getElem h0''))
        simpa [Addr.add] using this
      have hadd : ∀ q, (⟨b, off, none⟩ : Addr).add q = ⟨b, off + q, none⟩ := fun q => by unfold Addr.add; split <;> simp_all
      refine ⟨y, b, off, rfl, ?_, fun j v hv => ?_⟩
      · have := World.block_lt_of_cell? W _ (hy 0 _ hv0)
        rwa [block_add] at this
      · rw [Nat.add_assoc, ← hadd]
        exact hy j v hv
    obtain ⟨l, h1, h2⟩ := list_of each
    exact ⟨l, h1, h2⟩
theorem flat_at {α : Type} {cs : α → List Value} {m : Nat} (hm : ∀ x, (cs x).length = m) {x : α} {i : Nat} {v : Value} (hv : (cs x)[i]? = some v) : ∀ {l : List α} {k : Nat}, l[k]? = some x → (l.flatMap cs)[k * m + i]? = some v
  | [], k, h => by simp at h
  | r :: l, 0, h => by
    simp only [List.getElem?_cons_zero, Option.some.injEq] at h
    subst h
    rw [List.flatMap_cons, Nat.zero_mul, Nat.zero_add, List.getElem?_append_left (List.getElem?_eq_some_iff.1 hv).1]
    exact hv
  | r :: l, k + 1, h => by
    simp only [List.getElem?_cons_succ] at h
    have := flat_at hm hv h
    rw [List.flatMap_cons, List.getElem?_append_right (by rw [hm, Nat.add_mul]; omega), hm, ← this]
    congr 1
    rw [Nat.add_mul]
    omega
theorem LsOf.of_own {α : Type} {cs : α → List Value} {m : Nat} (hm : ∀ x, (cs x).length = m) {w : World} {B n c : Nat} {A : Option Addr} {l : List α} {e : TypeId} (h : w.ownsRow B e m (.slice A n c) n (l.flatMap cs)) (hl : l.length = n) : LsOf cs m w A n l :=
  ⟨hl, fun i x hx => by
    have hi := (List.getElem?_eq_some_iff.1 hx).1
    obtain ⟨g, e, _, hg, hc⟩ := own_at h (by omega)
    refine ⟨g, 0, e, hg, fun j v hv => ?_⟩
    rw [Nat.zero_add]
    exact hc _ v (flat_at hm hv hx)⟩
theorem LsOf.old {α : Type} {cs : α → List Value} {m : Nat} {W W' : World} {a : Option Addr} {len : Nat} {l : List α} {S : Nat → Prop} (h : LsOf cs m W a len l) (ho : Only S W W') (hS : ∀ k, k < W.heap.size → ¬ S k) : LsOf cs m W' a len l :=
  ⟨h.1, fun i x hx => by
    obtain ⟨b, off, e, hb, h1⟩ := h.2 i x hx
    exact ⟨b, off, e, Nat.lt_of_lt_of_le hb ho.size, fun j v hv => ho.cellv (h1 j v hv) (hS b hb)⟩⟩
theorem LsOf.nil {α : Type} (cs : α → List Value) (m : Nat) (W : World) (A : Option Addr) : LsOf cs m W A 0 [] := ⟨rfl, fun i x h => by simp at h⟩
end Go.Proofs.YtbnfhklpobephaaGreatDoor
/- Settings, triples and acts that came in. -/
namespace Go.Proofs.YtbnfhklpobephaaGreatDoor
open Go Go.ChangeShapes Go.WideShapes Go.ChangeAt Go.RowKit
set_option maxRecDepth 100000
set_option maxHeartbeats 4000000

section
variable {H : Type} {enc : TypeId × Value → H} {W : World} {spare : Nat → Bool} {held : Bool} {n : Nat}
theorem trod_set {vs : List Value} {y : DataW H × List MemPlace} (hl : vs.length = 2) (h : DataW.trod enc Tryz.prog W 0 spare held n 109 vs = some y) : ∃ x : Se, vs = x.cs := by
  obtain ⟨ys, k, _, _, _, hyl, hel⟩ := DataW.trod_struct Tryz.underlying109 h
  match vs, hl, hel with
  | [v0, v1], _, hel =>
    have hy : ∀ i, i < 2 → ∃ y, ys[i]? = some y := fun i hi => ⟨_, List.getElem?_eq_getElem (by rw [hyl]; exact hi)⟩
    have h0 := hel 0 _ rfl
    have h1 := hel 1 _ rfl
    obtain ⟨y0, e0⟩ := hy 0 (by omega)
    obtain ⟨y1, e1⟩ := hy 1 (by omega)
    rw [e0] at h0
    rw [e1] at h1
    replace h0 : DataW.trod enc Tryz.prog W 0 spare held k 3 [v0] = some y0 := h0
    replace h1 : DataW.trod enc Tryz.prog W 0 spare held k 3 [v1] = some y1 := h1
    obtain ⟨z0, q0, _, _⟩ := DataW.trod_int Tryz.underlying3 h0
    obtain ⟨z1, q1, _, _⟩ := DataW.trod_int Tryz.underlying3 h1
    obtain rfl : v0 = .int .i64 z0 := by simpa using q0
    obtain rfl : v1 = .int .i64 z1 := by simpa using q1
    exact ⟨⟨z0, z1⟩, rfl⟩
theorem trod_tri {vs : List Value} {y : DataW H × List MemPlace} (hl : vs.length = 4) (h : DataW.trod enc Tryz.prog W 0 spare held n 262 vs = some y) : ∃ x : Tr, vs = x.cs := by
  obtain ⟨ys, k, _, _, _, hyl, hel⟩ := DataW.trod_struct Tryz.underlying262 h
  match vs, hl, hel with
  | [v0, v1, v2, v3], _, hel =>
    have hy : ∀ i, i < 3 → ∃ y, ys[i]? = some y := fun i hi => ⟨_, List.getElem?_eq_getElem (by rw [hyl]; exact hi)⟩
    have h0 := hel 0 _ rfl
    have h1 := hel 1 _ rfl
    have h2 := hel 2 _ rfl
    obtain ⟨y0, e0⟩ := hy 0 (by omega)
    obtain ⟨y1, e1⟩ := hy 1 (by omega)
    obtain ⟨y2, e2⟩ := hy 2 (by omega)
    rw [e0] at h0
    rw [e1] at h1
    rw [e2] at h2
    replace h0 : DataW.trod enc Tryz.prog W 0 spare held k 3 [v0] = some y0 := h0
    replace h1 : DataW.trod enc Tryz.prog W 0 spare held k 109 [v1, v2] = some y1 := h1
    replace h2 : DataW.trod enc Tryz.prog W 0 spare held k 4 [v3] = some y2 := h2
    obtain ⟨z0, q0, _, _⟩ := DataW.trod_int Tryz.underlying3 h0
    obtain ⟨x, hx⟩ := trod_set rfl h1
    obtain ⟨b, q2, _⟩ := DataW.trod_bool Tryz.underlying4 h2
    obtain rfl : v0 = .int .i64 z0 := by simpa using q0
    obtain rfl : v3 = .bool b := by simpa using q2
    simp only [Se.cs, List.cons.injEq, and_true] at hx
    obtain ⟨rfl, rfl⟩ := hx
    exact ⟨⟨z0, x, b⟩, rfl⟩
end

/-- An act. -/
structure ScAc where
  k : Int
  t : Tr
section
variable {H : Type} {enc : TypeId × Value → H} {W : World} {spare : Nat → Bool} {fuel : Nat} {a0 : Option Addr} {len cap : Nat} {x : DataW H × List MemPlace}
theorem open_sets (h : DataW.trod enc Tryz.prog W 0 spare true fuel 28 [.slice a0 len cap] = some x) : len ≤ cap ∧ cap ≤ 9223372036854775807 ∧ ∃ l, StAt W a0 len l :=
  open_ls (cs := Se.cs) (m := 2) (by omega) Tryz.underlying28 (by kernel_rfl) (fun _ => rfl) (fun hl h => trod_set hl h) h
end
theorem open_tri {H : Type} {enc : TypeId × Value → H} {W : World} {r : Reach} {b0 : Nat} {v : Value} {d : DataW H} {p : List MemPlace}
    (hv : Value.okWide Tryz.prog W r b0 262 v) (h : DataW.Trod enc Tryz.prog W 0 (fun _ => true) true 262 v d p) : ∃ t : Tr, v = t.val ∧ True := by
  unfold Value.okWide at hv
  rw [Tryz.underlying262] at hv
  obtain ⟨cs, rfl, hsz, _⟩ := hv
  obtain ⟨fuel, hf⟩ := h
  obtain ⟨l⟩ := cs
  have hl : l.length = 4 := by
    have : Tryz.prog.cellsOf 262 = 4 := by kernel_rfl
    rw [this] at hsz
    simpa using hsz
  obtain ⟨t, ht⟩ := trod_tri hl hf
  exact ⟨t, by rw [show l = t.cs from ht], trivial⟩
end Go.Proofs.YtbnfhklpobephaaGreatDoor
