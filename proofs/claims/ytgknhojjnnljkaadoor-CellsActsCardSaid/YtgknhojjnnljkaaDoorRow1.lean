
/- Rows of one cell an element that the call laid itself: append of one value. -/
import Derived.Test.YtgknhojjnnljkaaDoorAlloc
namespace Go.Proofs.YtgknhojjnnljkaaDoor
open Go Go.RowKit
set_option maxRecDepth 100000
set_option maxHeartbeats 4000000

theorem info_int : (Tryd.prog.info? 3).map (fun i => (i.zero, i.size, i.bytes)) = some (some (.int .i64 0), 1, 8) := by kernel_rfl
theorem info_bool1 : (Tryd.prog.info? 4).map (fun i => (i.zero, i.size, i.bytes)) = some (some (.bool false), 1, 1) := by kernel_rfl
theorem info1 {e : TypeId} {z : Value} {bytes : Nat} (h : (Tryd.prog.info? e).map (fun i => (i.zero, i.size, i.bytes)) = some (some z, 1, bytes)) : ∃ i, Tryd.prog.info? e = some i ∧ i.zero = some z ∧ i.size = 1 ∧ i.bytes = bytes := by
  cases hi : Tryd.prog.info? e with
  | none => rw [hi] at h; cases h
  | some i =>
    rw [hi] at h
    simp only [Option.map_some, Option.some.injEq, Prod.mk.injEq] at h
    exact ⟨i, rfl, h⟩
/-- append of one value. -/
theorem step_one {ops : Array Oper} {rest : List Oper} {o : Oper} {a : Act} {w : World} {Q : Exit → Act → World → Prop} (hgd : o.guard = none) (sx x : Operand) (t : TypeId) (ho : o.op = .call { callee := .builtin .append, args := #[sx, x], argTypes := #[t, t] })
    (e : TypeId) (z : Value) (bytes : Nat) (ht : Tryd.prog.underlying t = some (.slice e)) (hi : (Tryd.prog.info? e).map (fun i => (i.zero, i.size, i.bytes)) = some (some z, 1, bytes)) (hz : z.cells.size = 1) (hby : bytes ≤ 64)
    (B : Nat) (A : Option Addr) (n c : Nat) (vs : List Value) (hs : a.eval sx = .slice A n c) (hb : w.ownsRow B e 1 (.slice A n c) n vs) (g : Nat) (u : Value) (hx : a.eval x = .slice (some ⟨g, 0, none⟩) 1 1) (hc : w.cell? ⟨g, 0, none⟩ = some u) (hu : u.oneCell' = true) (hbd : n ≤ 1048576) (hB : B ≤ w.heap.size)
    (h : ∀ A' c' w', Hid (w'.ownsRow B e 1 (.slice A' (n + 1) c') (n + 1) (vs ++ [u])) → Hid (w.grownBy w' (Value.slice A n c).ownBlock) → Hid (∀ k, (Value.slice A' (n + 1) c').ownBlock = some k → (Value.slice A n c).ownBlock = some k ∨ w.heap.size ≤ k) → wpList Tryd.prog ops Q rest (a.put o.dst (.slice A' (n + 1) c')) w') :
    wpList Tryd.prog ops Q (o :: rest) a w := by
  obtain ⟨i, hi, hz1, h1, h2⟩ := info1 hi
  have hby' : (n + 1) * bytes ≤ 140737488355328 := Nat.le_trans (Nat.mul_le_mul (by omega : n + 1 ≤ 1048577) hby) (by decide)
  refine step_append_own hgd sx x t ho B e i _ 1 bytes ht hi hz1 h1 h2 hz (by omega) _ n vs hs hb (some ⟨g, 0, none⟩) 1 1 [u] hx rfl (fun _ => ⟨_, rfl, fun j v hj => ?_⟩) (fun v hv => by obtain rfl := List.mem_singleton.1 hv; exact hu) (by omega) hby' hB ?_
  · have hj0 : j = 0 := by have := (List.getElem?_eq_some_iff.1 hj).1; simp at this; omega
    subst hj0
    simp only [List.getElem?_cons_zero, Option.some.injEq] at hj
    subst hj
    rw [at_add]
    exact hc
  · intro A' c' w' _ _ hq
    exact h A' c' w' hq.out.1 hq.out.2.1 hq.out.2.2
/-- .. at a step of a region that draws its order. -/
theorem step_oneR {ops : Array Oper} {o : Oper} {a : Act} {w : World} {K : Act → World → Prop} {Q : Exit → Act → World → Prop} {E : Prop} (hgd : o.guard = none) (sx x : Operand) (t : TypeId) (ho : o.op = .call { callee := .builtin .append, args := #[sx, x], argTypes := #[t, t] })
    (e : TypeId) (z : Value) (bytes : Nat) (ht : Tryd.prog.underlying t = some (.slice e)) (hi : (Tryd.prog.info? e).map (fun i => (i.zero, i.size, i.bytes)) = some (some z, 1, bytes)) (hz : z.cells.size = 1) (hby : bytes ≤ 64)
    (B : Nat) (A : Option Addr) (n c : Nat) (vs : List Value) (hs : a.eval sx = .slice A n c) (hb : w.ownsRow B e 1 (.slice A n c) n vs) (g : Nat) (u : Value) (hx : a.eval x = .slice (some ⟨g, 0, none⟩) 1 1) (hc : w.cell? ⟨g, 0, none⟩ = some u) (hu : u.oneCell' = true) (hbd : n ≤ 1048576) (hB : B ≤ w.heap.size)
    (h : ∀ A' c' w', Hid (w'.ownsRow B e 1 (.slice A' (n + 1) c') (n + 1) (vs ++ [u])) → Hid (w.grownBy w' (Value.slice A n c).ownBlock) → K (a.put o.dst (.slice A' (n + 1) c')) w') :
    if Region.wanted o (yielded ops a.tmps) = true then Oper.wp Tryd.prog o a w K Q else E := by
  obtain ⟨i, hi, hz1, h1, h2⟩ := info1 hi
  have hby' : (n + 1) * bytes ≤ 140737488355328 := Nat.le_trans (Nat.mul_le_mul (by omega : n + 1 ≤ 1048577) hby) (by decide)
  refine step_append_lies w hgd sx x t ho B e i _ 1 bytes ht hi hz1 h1 h2 hz (by omega) _ n vs hs hb ⟨g, 0, none⟩ 1 1 [u] hx rfl (fun j v hj => ?_) (fun v hv => by obtain rfl := List.mem_singleton.1 hv; exact hu) (by omega) (by unfold maxLen; omega) hby' hB _ rfl ?_
  · have hj0 : j = 0 := by have := (List.getElem?_eq_some_iff.1 hj).1; simp at this; omega
    subst hj0
    simp only [List.getElem?_cons_zero, Option.some.injEq] at hj
    subst hj
    rw [at_add]
    exact hc
  · intro g cap w' hq1 hq2 _ _
    exact h _ cap w' hq1 hq2
/-- .. and its row is the same, or a new one. -/
theorem step_oneRS {ops : Array Oper} {o : Oper} {a : Act} {w : World} {K : Act → World → Prop} {Q : Exit → Act → World → Prop} {E : Prop} (hgd : o.guard = none) (sx x : Operand) (t : TypeId) (ho : o.op = .call { callee := .builtin .append, args := #[sx, x], argTypes := #[t, t] })
    (e : TypeId) (z : Value) (bytes : Nat) (ht : Tryd.prog.underlying t = some (.slice e)) (hi : (Tryd.prog.info? e).map (fun i => (i.zero, i.size, i.bytes)) = some (some z, 1, bytes)) (hz : z.cells.size = 1) (hby : bytes ≤ 64)
    (B : Nat) (A : Option Addr) (n c : Nat) (vs : List Value) (hs : a.eval sx = .slice A n c) (hb : w.ownsRow B e 1 (.slice A n c) n vs) (g : Nat) (u : Value) (hx : a.eval x = .slice (some ⟨g, 0, none⟩) 1 1) (hc : w.cell? ⟨g, 0, none⟩ = some u) (hu : u.oneCell' = true) (hbd : n ≤ 1048576) (hB : B ≤ w.heap.size)
    (h : ∀ A' c' w', Hid (w'.ownsRow B e 1 (.slice A' (n + 1) c') (n + 1) (vs ++ [u])) → Hid (w.grownBy w' (Value.slice A n c).ownBlock) → Hid (∀ k, (Value.slice A' (n + 1) c').ownBlock = some k → (Value.slice A n c).ownBlock = some k ∨ w.heap.size ≤ k) → K (a.put o.dst (.slice A' (n + 1) c')) w') :
    if Region.wanted o (yielded ops a.tmps) = true then Oper.wp Tryd.prog o a w K Q else E := by
  obtain ⟨i, hi, hz1, h1, h2⟩ := info1 hi
  have hby' : (n + 1) * bytes ≤ 140737488355328 := Nat.le_trans (Nat.mul_le_mul (by omega : n + 1 ≤ 1048577) hby) (by decide)
  refine step_append_lies w hgd sx x t ho B e i _ 1 bytes ht hi hz1 h1 h2 hz (by omega) _ n vs hs hb ⟨g, 0, none⟩ 1 1 [u] hx rfl (fun j v hj => ?_) (fun v hv => by obtain rfl := List.mem_singleton.1 hv; exact hu) (by omega) (by unfold maxLen; omega) hby' hB _ rfl ?_
  · have hj0 : j = 0 := by have := (List.getElem?_eq_some_iff.1 hj).1; simp at this; omega
    subst hj0
    simp only [List.getElem?_cons_zero, Option.some.injEq] at hj
    subst hj
    rw [at_add]
    exact hc
  · intro g cap w' hq1 hq2 hat _
    refine h _ cap w' hq1 hq2 (fun k hk => ?_)
    have hk' : g = k := by simpa [Value.ownBlock] using hk
    subst hk'
    rcases hat with hat | hat
    · exact .inl hat
    · exact .inr (by omega)
/-- append of so many values, or none, onto a row of the call's own, at a step of a region that draws its order. -/
theorem step_rowR {ops : Array Oper} {o : Oper} {a : Act} {w : World} {K : Act → World → Prop} {Q : Exit → Act → World → Prop} {E : Prop} (hgd : o.guard = none) (sx x : Operand) (t : TypeId) (ho : o.op = .call { callee := .builtin .append, args := #[sx, x], argTypes := #[t, t] })
    (e : TypeId) (z : Value) (bytes : Nat) (ht : Tryd.prog.underlying t = some (.slice e)) (hi : (Tryd.prog.info? e).map (fun i => (i.zero, i.size, i.bytes)) = some (some z, 1, bytes)) (hz : z.cells.size = 1) (hby : bytes ≤ 64)
    (B : Nat) (A : Option Addr) (n c : Nat) (vs : List Value) (hs : a.eval sx = .slice A n c) (hb : w.ownsRow B e 1 (.slice A n c) n vs) (S : Option Addr) (m d : Nat) (news : List Value) (hx : a.eval x = .slice S m d) (hl : news.length = m)
    (hc : 0 < m → ∃ ad, S = some ad ∧ ∀ (j : Nat) (u : Value), news[j]? = some u → w.cell? (ad.add j) = some u) (hu : ∀ u ∈ news, u.oneCell' = true) (hbd : n + m ≤ 1048576) (hB : B ≤ w.heap.size)
    (h : ∀ A' c' w', Hid (w'.ownsRow B e 1 (.slice A' (n + m) c') (n + m) (vs ++ news)) → Hid (w.grownBy w' (Value.slice A n c).ownBlock) → K (a.put o.dst (.slice A' (n + m) c')) w') :
    if Region.wanted o (yielded ops a.tmps) = true then Oper.wp Tryd.prog o a w K Q else E := by
  obtain ⟨i, hi, hz1, h1, h2⟩ := info1 hi
  by_cases hm : m = 0
  · subst hm
    obtain rfl : news = [] := List.eq_nil_of_length_eq_zero hl
    rw [if_pos (by simp [Region.wanted, hgd])]
    refine Lib.wp_append_run w sx x t t ho _ _ hs hx _ _ (run_append_zero' w t _ e i ht hi A n c (own_le hb).1 S d) (h A c w (show World.ownsRow _ _ _ _ _ _ _ by rw [List.append_nil]; exact hb) (show World.grownBy _ _ _ from ⟨rfl, rfl, rfl, Nat.le_refl _, fun _ _ _ => rfl⟩))
  · have hby' : (n + m) * bytes ≤ 140737488355328 := Nat.le_trans (Nat.mul_le_mul hbd hby) (by decide)
    obtain ⟨ad, rfl, hcc⟩ := hc (by omega)
    refine step_append_lies w hgd sx x t ho B e i _ 1 bytes ht hi hz1 h1 h2 hz (by omega) _ n vs hs hb ad m d news hx (by omega) hcc hu (by omega) (by unfold maxLen; omega) hby' hB _ rfl ?_
    intro g cap w' hq1 hq2 _ _
    exact h _ cap w' hq1 hq2
/-- A row beside another one that grows. -/
theorem own_beside {w w' : World} {B n s : Nat} {e : TypeId} {v : Value} {xs : List Value} {row : Option Nat} (h : w.ownsRow B e s v n xs) (hg : w.grownBy w' row) (hne : ∀ k, v.ownBlock = some k → row ≠ some k) : w'.ownsRow B e s v n xs :=
  h.kept hg (by
    cases hv : v.ownBlock with
    | none => exact .inl rfl
    | some k => exact .inr (fun e => hne k hv e.symm))
end Go.Proofs.YtgknhojjnnljkaaDoor
