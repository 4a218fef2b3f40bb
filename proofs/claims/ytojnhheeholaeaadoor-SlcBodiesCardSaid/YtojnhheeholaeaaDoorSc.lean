/- Package slc: which settings and triples are right, what a side answers. -/
import Derived.Test.YtojnhheeholaeaaDoorScSay
import Derived.Test.YtojnhheeholaeaaDoorBox
import Derived.Deep.RegionHeld3
namespace Go.Proofs.YtojnhheeholaeaaDoor
open Go Go.RowKit
set_option maxRecDepth 100000
set_option maxHeartbeats 4000000

@[reducible] def Se.val (x : Se) : Value := .agg #[.int .i64 x.l, .int .i64 x.v]
@[reducible] def Tr.val (t : Tr) : Value := .agg #[.int .i64 t.f, .int .i64 t.x.l, .int .i64 t.x.v, .bool t.ack]
@[reducible] def Se.cs (x : Se) : List Value := [.int .i64 x.l, .int .i64 x.v]
@[reducible] def Tr.cs (t : Tr) : List Value := [.int .i64 t.f, .int .i64 t.x.l, .int .i64 t.x.v, .bool t.ack]
theorem size_set : (Tryd.prog.info? 32).map (·.size) = some 2 := by kernel_rfl
theorem size_tri : (Tryd.prog.info? 34).map (·.size) = some 4 := by kernel_rfl
theorem zero_set : (Tryd.prog.info? 32).map (fun i => (i.zero, i.size)) = some (some (.agg (Se.cs ⟨0, 0⟩).toArray), 2) := by kernel_rfl
theorem zero_tri : (Tryd.prog.info? 34).map (fun i => (i.zero, i.size)) = some (some (.agg (Tr.cs Tr.zero).toArray), 4) := by kernel_rfl
theorem Se.cs_one (x : Se) : ∀ v ∈ x.cs, v.oneCell' = true := by
  intro v hv
  simp only [Se.cs, List.mem_cons, List.not_mem_nil, or_false] at hv
  rcases hv with rfl | rfl <;> rfl
theorem Tr.cs_one (x : Tr) : ∀ v ∈ x.cs, v.oneCell' = true := by
  intro v hv
  simp only [Tr.cs, List.mem_cons, List.not_mem_nil, or_false] at hv
  rcases hv with rfl | rfl | rfl | rfl <;> rfl

theorem isFn_any (W : World) (c : Int) : Calls Tryd.prog 29 #[.int .i64 c] W fun e w' => e = .returned (.bool (isF c)) ∧ w' = W := by
  by_cases h0 : 1 ≤ c <;> by_cases h1 : c ≤ 18
  all_goals
    go_enter Tryd.func29, Tryd.ntmps29
    go_wp2
    go_ret
    refine ⟨?_, rfl⟩
    unfold isF
    congr 2
    simp
    try omega

theorem isSet_any (W : World) (l v : Int) : Calls Tryd.prog 26 #[.agg #[.int .i64 l, .int .i64 v]] W fun e w' => e = .returned (.bool (Se.fine ⟨l, v⟩)) ∧ Only (fun _ => False) W w' := by
  obtain ⟨b, hb⟩ : ∃ b, b = Se.fine ⟨l, v⟩ := ⟨_, rfl⟩
  rw [← hb]
  unfold Se.fine at hb
  simp only at hb
  by_cases h0 : l = 0
  · subst h0
    by_cases hv : v = 0
    all_goals
      have HB := Lib.hid hb
      clear hb
      go_enter Tryd.func26, Tryd.ntmps26
      go_wp2
      go_ret
      refine ⟨?_, (Only.refl _ _).alloc _⟩
      rw [HB.out]
      simp [hv]
  · by_cases h3 : l = 3
    · subst h3
      by_cases hv : v = 0
      all_goals
        have HB := Lib.hid hb
        clear hb
        go_enter Tryd.func26, Tryd.ntmps26
        go_wp2
        go_ret
        refine ⟨?_, (Only.refl _ _).alloc _⟩
        rw [HB.out]
        simp [hv]
    · by_cases h1 : l = 1
      · subst h1
        cases hv : decide (0 ≤ v) <;> cases hw : decide (v ≤ 255)
        all_goals
          have HB := Lib.hid hb
          clear hb
          go_enter Tryd.func26, Tryd.ntmps26
          go_wp2
          go_ret
          refine ⟨?_, (Only.refl _ _).alloc _⟩
          rw [HB.out]
          simp_all
      · by_cases h2 : l = 2
        · subst h2
          cases hv : decide (0 ≤ v) <;> cases hw : decide (v ≤ 255)
          all_goals
            have HB := Lib.hid hb
            clear hb
            go_enter Tryd.func26, Tryd.ntmps26
            go_wp2
            go_ret
            refine ⟨?_, (Only.refl _ _).alloc _⟩
            rw [HB.out]
            simp_all
        · have HB := Lib.hid hb
          clear hb
          go_enter Tryd.func26, Tryd.ntmps26
          go_wp2
          go_ret
          refine ⟨?_, (Only.refl _ _).alloc _⟩
          rw [HB.out]
          simp [h0, h1, h2, h3]

theorem right_any (W : World) (t : Tr) : Calls Tryd.prog 19 #[t.val] W fun e w' => e = .returned (.bool t.right) ∧ Only (fun _ => False) W w' := by
  obtain ⟨f, ⟨l, v⟩, k⟩ := t
  unfold Tr.right
  simp only
  have HS := Lib.hid (fun W => isSet_any W l v)
  have HF := Lib.hid (fun W => isFn_any W f)
  generalize isF f = p at *
  generalize Se.fine ⟨l, v⟩ = q at *
  cases p
  all_goals
    go_enter Tryd.func19, Tryd.ntmps19
    go_wp2_with (first
      | (go_at_call 29; refine (HF.out _).mono ?_; rintro e w' ⟨rfl, e2⟩; subst w')
      | (go_at_call 26; refine (HS.out _).mono ?_; rintro e w2 ⟨rfl, ho2⟩; have HO2 := Lib.hid ho2; clear ho2)
      | fail)
    go_ret
  · exact ⟨rfl, (Only.refl _ _).alloc _⟩
  · exact ⟨rfl, ((Only.refl _ _).alloc _).trans HO2.out (fun _ h => h.elim)⟩

theorem answer_any (W : World) (x h : Se) : Calls Tryd.prog 28 #[x.val, h.val] W fun e w' => e = .returned (.tuple #[(ansS x h).1.val, .bool (ansS x h).2]) ∧ Only (fun _ => False) W w' := by
  obtain ⟨xl, xv⟩ := x
  obtain ⟨hl, hv⟩ := h
  obtain ⟨y, hy⟩ : ∃ y, y = ansS ⟨xl, xv⟩ ⟨hl, hv⟩ := ⟨_, rfl⟩
  rw [← hy]
  unfold ansS at hy
  simp only at hy
  by_cases h0 : xl = 0
  · subst h0
    have HY : Hid (y = (⟨0, xv⟩, true)) := hy.trans (if_pos (.inl rfl))
    clear hy
    go_enter Tryd.func28, Tryd.ntmps28
    go_wp2
    refine ret_cell2 rfl (W.heap.size + 1 + 1) rfl 32 [.int .i64 0, .int .i64 xv] _ (Blk.new' _ _ _ (by simp)) Tryd.underlying32 rfl size_set rfl ?_
    exact ⟨by rw [HY.out]; rfl, (((Only.refl _ _).alloc _).alloc _).alloc _⟩
  · by_cases h3 : xl = 3
    · subst h3
      have HY : Hid (y = (⟨hl, hv⟩, false)) := hy.trans ((if_neg (by omega)).trans (if_neg (by omega)))
      clear hy
      cases hb : (hl == 2)
      all_goals
        go_enter Tryd.func28, Tryd.ntmps28
        go_wp2
        refine ret_cell2 rfl (W.heap.size + 1 + 1) rfl 32 [.int .i64 hl, .int .i64 hv] _ (Blk.new' _ _ _ (by simp)) Tryd.underlying32 rfl size_set rfl ?_
        exact ⟨by rw [HY.out]; rfl, (((Only.refl _ _).alloc _).alloc _).alloc _⟩
    · by_cases h2 : hl = 2
      · subst h2
        have HY : Hid (y = (⟨xl, xv⟩, true)) := hy.trans (if_pos (.inr ⟨rfl, h3⟩))
        clear hy
        go_enter Tryd.func28, Tryd.ntmps28
        go_wp2
        refine ret_cell2 rfl (W.heap.size + 1 + 1) rfl 32 [.int .i64 xl, .int .i64 xv] _ (Blk.new' _ _ _ (by simp)) Tryd.underlying32 rfl size_set rfl ?_
        exact ⟨by rw [HY.out]; rfl, (((Only.refl _ _).alloc _).alloc _).alloc _⟩
      · by_cases h1 : xl = 1
        · subst h1
          have HY : Hid (y = (⟨0, 0⟩, false)) := hy.trans ((if_neg (by omega)).trans (if_pos rfl))
          clear hy
          go_enter Tryd.func28, Tryd.ntmps28
          go_wp2
          refine ret_cell2 rfl (W.heap.size + 1 + 1) rfl 32 [.int .i64 0, .int .i64 0] _ (Blk.new' _ _ _ (by simp)) Tryd.underlying32 rfl size_set rfl ?_
          exact ⟨by rw [HY.out]; rfl, (((Only.refl _ _).alloc _).alloc _).alloc _⟩
        · have hb : (hl == 2) = false := by simp [h2]
          have HY : Hid (y = (⟨hl, hv⟩, false)) := hy.trans ((if_neg (by omega)).trans (if_neg (by omega)))
          clear hy
          go_enter Tryd.func28, Tryd.ntmps28
          go_wp2
          refine ret_cell2 rfl (W.heap.size + 1 + 1) rfl 32 [.int .i64 hl, .int .i64 hv] _ (Blk.new' _ _ _ (by simp)) Tryd.underlying32 rfl size_set rfl ?_
          exact ⟨by rw [HY.out]; rfl, (((Only.refl _ _).alloc _).alloc _).alloc _⟩
end Go.Proofs.YtojnhheeholaeaaDoor
