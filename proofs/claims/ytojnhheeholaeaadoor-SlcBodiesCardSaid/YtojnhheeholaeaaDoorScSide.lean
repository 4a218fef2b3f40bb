/- Package slc: a side's cells. -/
import Derived.Test.YtojnhheeholaeaaDoorSc
import Derived.Laws.StructEq
import Derived.BigQuiet
namespace Go.Proofs.YtojnhheeholaeaaDoor
open Go Go.RowKit
set_option maxRecDepth 100000
set_option maxHeartbeats 4000000

@[reducible] def Ch.cs (c : Ch) : List Value := [.int .i64 c.has.l, .int .i64 c.has.v, .int .i64 c.holds.l, .int .i64 c.holds.v, .bool c.waits]
/-- A side's cells. -/
structure ScC (cs : List Value) (S : Sd) : Prop where
  len : cs.length = 90
  at_ : ∀ i j v, i < 18 → (S i).cs[j]? = some v → cs[i * 5 + j]? = some v
def sc0 : List Value := (List.replicate 18 Ch.zero.cs).flatten
theorem sc0_c : ScC sc0 Sd.zero := by
  refine ⟨rfl, fun i j v hi hv => ?_⟩
  have hj : j < 5 := (List.getElem?_eq_some_iff.1 hv).1
  have key : ∀ i, i < 18 → ∀ j, j < 5 → sc0[i * 5 + j]? = Ch.zero.cs[j]? := by
    intro i hi j hj
    have : ∀ n, i < n → (List.replicate n Ch.zero.cs).flatten[i * 5 + j]? = Ch.zero.cs[j]? := by
      clear hi
      induction i with
      | zero =>
        intro n hn
        obtain ⟨m, rfl⟩ : ∃ m, n = m + 1 := ⟨n - 1, by omega⟩
        rw [List.replicate_succ, List.flatten_cons, Nat.zero_mul, Nat.zero_add, List.getElem?_append_left (by simpa using hj)]
      | succ i ih =>
        intro n hn
        obtain ⟨m, rfl⟩ : ∃ m, n = m + 1 := ⟨n - 1, by omega⟩
        rw [List.replicate_succ, List.flatten_cons, List.getElem?_append_right (by simp; omega), ← ih m (by omega)]
        congr 1
        simp
        omega
    exact this 18 hi
  rw [key i hi j hj]
  exact hv
theorem sc0_one : ∀ v ∈ sc0, v.oneCell' = true := by
  intro v hv
  simp only [sc0, List.mem_flatten, List.mem_replicate] at hv
  obtain ⟨l, ⟨_, rfl⟩, hv⟩ := hv
  simp only [List.mem_cons, List.not_mem_nil, or_false] at hv
  rcases hv with rfl | rfl | rfl | rfl | rfl <;> rfl
section
variable {cs : List Value} {S : Sd}
theorem ScC.upd (h : ScC cs S) {i : Nat} (hi : i < 18) {cs' : List Value} {c : Ch} (hl : cs'.length = 90) (hk : ∀ k, (k < i * 5 ∨ i * 5 + 5 ≤ k) → cs'[k]? = cs[k]?) (hc : ∀ j v, c.cs[j]? = some v → cs'[i * 5 + j]? = some v) : ScC cs' (S.set i c) := by
  refine ⟨hl, fun k j v hk' hv => ?_⟩
  have hj : j < 5 := (List.getElem?_eq_some_iff.1 hv).1
  by_cases e : k = i
  · subst e
    rw [Sd.set_self] at hv
    exact hc j v hv
  · rw [Sd.set_ne _ _ e] at hv
    rw [hk _ (by omega)]
    exact h.at_ k j v hk' hv
theorem ScC.c0 (h : ScC cs S) {i : Nat} (hi : i < 18) : cs[i * 5]? = some (.int .i64 (S i).has.l) := h.at_ i 0 _ hi rfl
theorem ScC.c1 (h : ScC cs S) {i : Nat} (hi : i < 18) : cs[i * 5 + 1]? = some (.int .i64 (S i).has.v) := h.at_ i 1 _ hi rfl
theorem ScC.c2 (h : ScC cs S) {i : Nat} (hi : i < 18) : cs[i * 5 + 2]? = some (.int .i64 (S i).holds.l) := h.at_ i 2 _ hi rfl
theorem ScC.c3 (h : ScC cs S) {i : Nat} (hi : i < 18) : cs[i * 5 + 3]? = some (.int .i64 (S i).holds.v) := h.at_ i 3 _ hi rfl
theorem ScC.c4 (h : ScC cs S) {i : Nat} (hi : i < 18) : cs[i * 5 + 4]? = some (.bool (S i).waits) := h.at_ i 4 _ hi rfl
theorem ScC.setWaits (h : ScC cs S) {i : Nat} (hi : i < 18) (b : Bool) : ScC (cs.set (i * 5 + 4) (.bool b)) (S.set i ⟨(S i).has, (S i).holds, b⟩) := by
  have hl := h.len
  refine h.upd hi (by rw [List.length_set, hl]) (fun k hk => List.getElem?_set_ne (by omega)) (fun j v hv => ?_)
  match j, hv with
  | 0, hv => rw [List.getElem?_set_ne (by omega)]; exact (h.c0 hi).trans hv
  | 1, hv => rw [List.getElem?_set_ne (by omega)]; exact (h.c1 hi).trans hv
  | 2, hv => rw [List.getElem?_set_ne (by omega)]; exact (h.c2 hi).trans hv
  | 3, hv => rw [List.getElem?_set_ne (by omega)]; exact (h.c3 hi).trans hv
  | 4, hv => rw [List.getElem?_set_self (by omega)]; exact hv
theorem ScC.setHas (h : ScC cs S) {i : Nat} (hi : i < 18) (x : Se) : ScC (cs.take (i * 5) ++ ([.int .i64 x.l, .int .i64 x.v] ++ cs.drop (i * 5 + 2))) (S.set i ⟨x, (S i).holds, (S i).waits⟩) := by
  have hl := h.len
  rw [set2_eq _ _ _ _ (by omega)]
  refine h.upd hi (by simp [hl]) (fun k hk => by rw [List.getElem?_set_ne (by omega), List.getElem?_set_ne (by omega)]) (fun j v hv => ?_)
  match j, hv with
  | 0, hv => rw [List.getElem?_set_ne (by omega), Nat.add_zero, List.getElem?_set_self (by omega)]; exact hv
  | 1, hv => rw [List.getElem?_set_self (by rw [List.length_set]; omega)]; exact hv
  | 2, hv => rw [List.getElem?_set_ne (by omega), List.getElem?_set_ne (by omega)]; exact (h.c2 hi).trans hv
  | 3, hv => rw [List.getElem?_set_ne (by omega), List.getElem?_set_ne (by omega)]; exact (h.c3 hi).trans hv
  | 4, hv => rw [List.getElem?_set_ne (by omega), List.getElem?_set_ne (by omega)]; exact (h.c4 hi).trans hv
theorem ScC.setHolds (h : ScC cs S) {i : Nat} (hi : i < 18) (x : Se) : ScC (cs.take (i * 5 + 2) ++ ([.int .i64 x.l, .int .i64 x.v] ++ cs.drop (i * 5 + 2 + 2))) (S.set i ⟨(S i).has, x, (S i).waits⟩) := by
  have hl := h.len
  rw [set2_eq _ _ _ _ (by omega)]
  refine h.upd hi (by simp [hl]) (fun k hk => by rw [List.getElem?_set_ne (by omega), List.getElem?_set_ne (by omega)]) (fun j v hv => ?_)
  match j, hv with
  | 0, hv => rw [List.getElem?_set_ne (by omega), List.getElem?_set_ne (by omega)]; exact (h.c0 hi).trans hv
  | 1, hv => rw [List.getElem?_set_ne (by omega), List.getElem?_set_ne (by omega)]; exact (h.c1 hi).trans hv
  | 2, hv => rw [List.getElem?_set_ne (by omega), List.getElem?_set_self (by omega)]; exact hv
  | 3, hv => rw [List.getElem?_set_self (by rw [List.length_set]; omega)]; exact hv
  | 4, hv => rw [List.getElem?_set_ne (by omega), List.getElem?_set_ne (by omega)]; exact (h.c4 hi).trans hv
end
/-- A side that lies in block p. -/
def SdAt (w : World) (p : Nat) (S : Sd) : Prop := ∃ cs, Blk w p 80 cs ∧ ScC cs S
section
variable {w w' : World} {p : Nat} {S : Sd}
theorem SdAt.lt (h : SdAt w p S) : p < w.heap.size := by obtain ⟨cs, h, _⟩ := h; exact h.lt
theorem SdAt.only {D : Nat → Prop} (h : SdAt w p S) (ho : Only D w w') (hD : ¬ D p) : SdAt w' p S := by
  obtain ⟨cs, h, hc⟩ := h
  exact ⟨cs, h.only ho hD, hc⟩
theorem SdAt.same (h : SdAt w p S) (ho : Only (fun _ => False) w w') : SdAt w' p S := h.only ho (fun h => h)
end
theorem zero_side : (Tryd.prog.info? 80).map (fun i => (i.zero, i.size)) = some (some (.agg sc0.toArray), 90) := by kernel_rfl
theorem built_side : Tryd.prog.built 80 [] = some sc0.toArray := by
  unfold Program.built
  have h := zero_side
  cases hi : Tryd.prog.info? 80 with
  | none => rw [hi] at h; cases h
  | some i =>
    rw [hi] at h
    simp only [Option.map_some, Option.some.injEq, Prod.mk.injEq] at h
    simp only [Tryd.underlying80, h.1]
    rfl
theorem has_range {w : World} {p : Nat} {cs : List Value} {S : Sd} (h : Blk w p 80 cs) (hc : ScC cs S) {i : Nat} (hi : i < 18) : w.rangeAt p (i * 5) (S i).has.cs := by
  intro j v hj
  rw [h.cell]
  match j, hj with
  | 0, hj => exact (hc.c0 hi).trans hj
  | 1, hj => exact (hc.c1 hi).trans hj
theorem eq_set (W : World) (a b c d : Int) : (Op.equalIn 10000 32 (.agg #[.int .i64 a, .int .i64 b]) (.agg #[.int .i64 c, .int .i64 d])).run Tryd.prog W = .ok (decide ((⟨a, b⟩ : Se) = ⟨c, d⟩)) W := by
  rw [show (10000 : Nat) = 9999 + 1 from rfl, run_equalIn_struct W 9999 _ _ _ (by kernel_rfl) (by kernel_rfl)]
  have u3 : Tryd.prog.underlying 3 = some (.int .i64) := Tryd.underlying3
  simp only [Program.fieldsOf, Tryd.underlying32, Op.eqFields]
  simp [go_sem, u3, Result.andThen]
  by_cases h1 : a = c <;> by_cases h2 : b = d <;> simp [h1, h2]
theorem guard_set : Tryd.prog.eqGuardType Tryd.prog.depth 32 = false := by kernel_rfl

theorem has_any {W : World} {p : Nat} {S : Sd} (h : SdAt W p S) (f : Int) : Calls Tryd.prog 16 #[.pointer (some ⟨p, 0, none⟩), .int .i64 f] W fun e w' => e = .returned (hasS S f).val ∧ Only (fun _ => False) W w' := by
  obtain ⟨cs, hB, hC⟩ := h
  have HF := Lib.hid (fun W => isFn_any W f)
  cases hf : isF f
  · rw [hf] at HF
    have e : hasS S f = ⟨0, 0⟩ := by unfold hasS; rw [hf]; rfl
    rw [e]
    clear e hf hB hC
    go_enter Tryd.func16, Tryd.ntmps16
    go_wp2_with (first
      | (go_at_call 29; refine (HF.out _).mono ?_; rintro e w' ⟨rfl, e2⟩; subst w')
      | fail)
    refine ret_cell1 rfl W.heap.size rfl 32 [.int .i64 0, .int .i64 0] _ (Blk.new' _ _ _ rfl) Tryd.underlying32 rfl size_set rfl ?_
    exact ⟨rfl, (Only.refl _ _).alloc _⟩
  · rw [hf] at HF
    have e : hasS S f = (S (plF f)).has := by unfold hasS; rw [if_pos hf]
    rw [e]
    have hi := plF_lt hf
    have he := plF_at hf
    have e1 : IntKind.i64.wrap (f - 1) = ((plF f : Nat) : Int) := by
      rw [← he]
      exact IntWalk.i64_in _ (by omega)
    obtain ⟨i, hii⟩ : ∃ i, i = plF f := ⟨_, rfl⟩
    rw [← hii] at hi e1 ⊢
    have hi2 : (i : Int) < 18 := by omega
    have HR := Lib.hid (fun ob => has_range (hB.alloc ob) hC hi)
    have hp := hB.lt
    obtain ⟨⟨a, b⟩, hx⟩ : ∃ x, x = (S i).has := ⟨_, rfl⟩
    rw [← hx] at HR ⊢
    clear e hf hB hC he hii hx
    go_enter Tryd.func16, Tryd.ntmps16
    go_wp2_with (first
      | (go_at_call 29; refine (HF.out _).mono ?_; rintro e w' ⟨rfl, e2⟩; subst w')
      | ((with_reducible show wpList _ _ _ (⟨some 16, _, _, _, _, _⟩ :: _) _ _); refine wpList_load_mid rfl 32 _ rfl p (i * 5) rfl [.int .i64 a, .int .i64 b] _ (HR.out _) Tryd.underlying32 rfl size_set ?_)
      | fail)
    refine ret_cell1 rfl W.heap.size rfl 32 [.int .i64 a, .int .i64 b] _ (Blk.new' _ _ _ rfl) Tryd.underlying32 rfl size_set rfl ?_
    exact ⟨rfl, (Only.refl _ _).alloc _⟩
end Go.Proofs.YtojnhheeholaeaaDoor
