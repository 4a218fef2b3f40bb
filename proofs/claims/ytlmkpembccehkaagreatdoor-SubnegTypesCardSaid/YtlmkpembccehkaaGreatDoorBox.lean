
/- &T{}: a struct's new variable; two cells stored into a block known whole. -/
import Derived.Test.YtlmkpembccehkaaGreatDoorMid
namespace Go.Proofs.YtlmkpembccehkaaGreatDoor
open Go Go.RowKit
set_option maxRecDepth 100000
set_option maxHeartbeats 4000000

theorem set2_eq (cs : List Value) (i : Nat) (a b : Value) (h : i + 1 < cs.length) : cs.take i ++ ([a, b] ++ cs.drop (i + 2)) = (cs.set i a).set (i + 1) b := by
  apply List.ext_getElem?
  intro j
  rw [List.getElem?_set, List.getElem?_set]
  rcases Nat.lt_trichotomy j i with hj | rfl | hj
  · rw [List.getElem?_append_left (by simp; omega), List.getElem?_take, if_pos hj, if_neg (by omega), if_neg (by omega)]
  · rw [List.getElem?_append_right (by simp; omega), if_neg (by omega)]
    simp [Nat.min_eq_left (Nat.le_of_lt (Nat.lt_of_succ_lt h)), Nat.lt_of_succ_lt h]
  · rw [List.getElem?_append_right (by simp; omega)]
    have hm : (cs.take i).length = i := by rw [List.length_take]; omega
    rw [hm]
    rcases Nat.lt_or_ge j (i + 2) with h2 | h2
    · obtain rfl : j = i + 1 := by omega
      rw [if_pos rfl, if_pos (by simp; omega)]
      simp
    · rw [if_neg (by omega), if_neg (by omega), List.getElem?_append_right (by simp; omega), List.getElem?_drop]
      congr 1
      simp
      omega

section
variable {P : Program} {ops : Array Oper} {rest : List Oper} {o : Oper} {a : Act} {w : World} {Q : Exit → Act → World → Prop}
/-- &T{}: a new variable that holds so many cells. -/
theorem step_box (hgd : o.guard = none) (t : TypeId) (x : Operand) (ho : o.op = .box t x) (cells : List Value) (hx : a.eval x = .agg cells.toArray)
    (h : wpList P ops Q rest (a.put o.dst (.pointer (some ⟨w.heap.size, 0, none⟩))) (w.alloc (.cells cells.toArray t))) : wpList P ops Q (o :: rest) a w := by
  refine wpList_plain hgd fun K hK => ?_
  unfold Oper.wp execOp
  simp only [ho, hx, Sem.run_bind, Instr.box, newVar, newRow, run_newObj_alloc, Sem.run_pure, Result.andThen_ok]
  exact hK _ _ h
/-- Two cells are stored into a block known whole. -/
theorem step_store2 (hgd : o.guard = none) (ty : TypeId) (x y : Operand) (ho : o.op = .store ty x y) (g mo : Nat) (hx : a.eval x = .pointer (some ⟨g, mo, none⟩)) (u v : Value) (hy : a.eval y = .agg #[u, v])
    (t : TypeId) (cs : List Value) (hg : Blk w g t cs) (hl : mo + 1 < cs.length) (hi : (P.info? ty).map (·.size) = some 2) (hu : u.oneCell' = true) (hv : v.oneCell' = true)
    (h : ∀ w', Hid (Blk w' g t (cs.take mo ++ ([u, v] ++ cs.drop (mo + 2)))) → Hid (w'.heap.size = w.heap.size) → Only (· = g) w w' → wpList P ops Q rest (a.put o.dst undef) w') : wpList P ops Q (o :: rest) a w := by
  have e : cs = cs.take mo ++ ((cs.drop mo).take 2 ++ cs.drop (mo + 2)) := by
    rw [← List.drop_drop, List.take_append_drop, List.take_append_drop]
  rw [e] at hg
  exact step_storeM hgd ty x y ho g mo hx [u, v] hy t (cs.take mo) ((cs.drop mo).take 2) (cs.drop (mo + 2)) hg (by rw [List.length_take]; omega) hi (by simp; omega) (fun z hz => by simp at hz; rcases hz with rfl | rfl <;> assumption) h
end
end Go.Proofs.YtlmkpembccehkaaGreatDoor
