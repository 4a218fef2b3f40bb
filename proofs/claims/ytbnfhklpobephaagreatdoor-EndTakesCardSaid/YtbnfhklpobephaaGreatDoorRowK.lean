
/- Rows of so many cells an element, wherever in their block they begin: s[1:]; append of so many elements, or none, in a drawn region. -/
import Derived.Test.YtbnfhklpobephaaGreatDoorRow
import Derived.Test.YtbnfhklpobephaaGreatDoorKAlloc
namespace Go.Proofs.YtbnfhklpobephaaGreatDoor
open Go Go.RowKit
set_option maxRecDepth 100000
set_option maxHeartbeats 4000000

section
variable {w w' : World} {B : Nat} {e : TypeId} {s n c : Nat} {v : Value} {A : Option Addr} {xs : List Value}
/-- s[1:], s cells an element: where cap is 1 the address stays. -/
theorem RowAt.tailK {g o c : Nat} {ys xs : List Value} (h : RowAt w B e s (.slice (some ⟨g, o, none⟩) (n + 1) c) (n + 1) (ys ++ xs)) (hy : ys.length = s) (o' : Nat) (ho : o' = o + s ∨ (c = 1 ∧ o' = o)) : RowAt w B e s (.slice (some ⟨g, o', none⟩) n (c - 1)) n xs := by
  obtain ⟨hl, h⟩ := h
  rcases h with ⟨h, _⟩ | ⟨g', o1, c', cur, hv, hb, hg, h1, h2, h3, h4⟩
  · cases h
  · injection hv with hA _ hc
    injection hA with hA
    injection hA with hgg hoo
    subst hgg hoo hc
    rw [List.length_append, hy, Nat.add_mul, Nat.one_mul] at hl
    have hc1 : c = (c - 1) + 1 := by omega
    have hcs : c * s = (c - 1) * s + s := by
      rw [hc1, Nat.add_mul, Nat.one_mul]
      simp
    refine ⟨by omega, .inr ⟨g, o', c - 1, cur, rfl, hb, hg, by omega, by omega, ?_, fun j u hj => ?_⟩⟩
    · rcases ho with rfl | ⟨hc', rfl⟩
      · omega
      · rw [hc']
        simp
        omega
    · rcases ho with rfl | ⟨hc', rfl⟩
      · have := h4 (s + j) u (by rw [List.getElem?_append_right (by omega), hy, Nat.add_sub_cancel_left]; exact hj)
        rw [Nat.add_assoc]
        exact this
      · have hj1 := (List.getElem?_eq_some_iff.1 hj).1
        have : n = 0 := by omega
        subst this
        omega
theorem infoK {e : TypeId} {z : Value} {s bytes : Nat} (h : (Tryz.prog.info? e).map (fun i => (i.zero, i.size, i.bytes)) = some (some z, s, bytes)) : ∃ i, Tryz.prog.info? e = some i ∧ i.zero = some z ∧ i.size = s ∧ i.bytes = bytes := by
  cases hi : Tryz.prog.info? e with
  | none => rw [hi] at h; cases h
  | some i =>
    rw [hi] at h
    simp only [Option.map_some, Option.some.injEq, Prod.mk.injEq] at h
    exact ⟨i, rfl, h⟩
end
/-- append of so many elements, or none, onto a row of the call's own, at a step of a region that draws its order. -/
theorem step_rowRK {ops : Array Oper} {o : Oper} {a : Act} {w : World} {K : Act → World → Prop} {Q : Exit → Act → World → Prop} {E : Prop} (hgd : o.guard = none) (sx x : Operand) (t : TypeId) (ho : o.op = .call { callee := .builtin .append, args := #[sx, x], argTypes := #[t, t] })
    (e : TypeId) (z : Value) (s bytes : Nat) (ht : Tryz.prog.underlying t = some (.slice e)) (hi : (Tryz.prog.info? e).map (fun i => (i.zero, i.size, i.bytes)) = some (some z, s, bytes)) (hz : z.cells.size = s) (hs0 : 0 < s) (hby : bytes ≤ 64)
    (B : Nat) (A : Option Addr) (n c : Nat) (vs : List Value) (hs : a.eval sx = .slice A n c) (hb : w.ownsRow B e s (.slice A n c) n vs) (S : Option Addr) (m d : Nat) (news : List Value) (hx : a.eval x = .slice S m d) (hl : news.length = m * s)
    (hc : 0 < m → ∃ ad, S = some ad ∧ ∀ (j : Nat) (u : Value), news[j]? = some u → w.cell? (ad.add j) = some u) (hu : ∀ u ∈ news, u.oneCell' = true) (hbd : n + m ≤ 1048576) (hB : B ≤ w.heap.size)
    (h : ∀ A' c' w', Hid (w'.ownsRow B e s (.slice A' (n + m) c') (n + m) (vs ++ news)) → Hid (w.grownBy w' (Value.slice A n c).ownBlock) → K (a.put o.dst (.slice A' (n + m) c')) w') :
    if Region.wanted o (yielded ops a.tmps) = true then Oper.wp Tryz.prog o a w K Q else E := by
  obtain ⟨i, hi, hz1, h1, h2⟩ := infoK hi
  by_cases hm : m = 0
  · subst hm
    obtain rfl : news = [] := List.eq_nil_of_length_eq_zero (by simpa using hl)
    rw [if_pos (by simp [Region.wanted, hgd])]
    refine Lib.wp_append_run w sx x t t ho _ _ hs hx _ _ (run_append_zero' w t _ e i ht hi A n c (own_le hb).1 S d) (h A c w (show World.ownsRow _ _ _ _ _ _ _ by rw [List.append_nil]; exact hb) (show World.grownBy _ _ _ from ⟨rfl, rfl, rfl, Nat.le_refl _, fun _ _ _ => rfl⟩))
  · have hby' : (n + m) * bytes ≤ 140737488355328 := Nat.le_trans (Nat.mul_le_mul hbd hby) (by decide)
    obtain ⟨ad, rfl, hcc⟩ := hc (by omega)
    refine step_append_lies w hgd sx x t ho B e i _ s bytes ht hi hz1 h1 h2 hz hs0 _ n vs hs hb ad m d news hx hl hcc hu (by omega) (by unfold maxLen; omega) hby' hB _ rfl ?_
    intro g cap w' hq1 hq2 _ _
    exact h _ cap w' hq1 hq2
end Go.Proofs.YtbnfhklpobephaaGreatDoor
