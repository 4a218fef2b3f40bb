
/- A slice that the program laid itself, wherever in its block it begins (what is left of a row behind s[1:]): its elements, and append onto it. -/
import Derived.Test.YtbnfhklpobephaaGreatDoorJBase
import Derived.ArgAppend
import Derived.Deep.AppendSrc
import Derived.Deep.Upon
namespace Go.Proofs.YtbnfhklpobephaaGreatDoor
open Go Go.RowKit

/-- v is a slice of n elements, of s cells each, in a block from B on that is known whole; nil, if it has none and no room. -/
def RowAt (w : World) (B : Nat) (e : TypeId) (s : Nat) (v : Value) (n : Nat) (xs : List Value) : Prop :=
  xs.length = n * s ∧ ((v = .slice none 0 0 ∧ n = 0) ∨ ∃ g o c cur, v = .slice (some ⟨g, o, none⟩) n c ∧ B ≤ g ∧ Blk w g e cur ∧ n ≤ c ∧ c ≤ 9223372036854775807 ∧ o + c * s ≤ cur.length ∧ ∀ (j : Nat) (u : Value), xs[j]? = some u → cur[o + j]? = some u)

section
variable {w w' : World} {B : Nat} {e : TypeId} {s n c : Nat} {v : Value} {A : Option Addr} {xs : List Value}
theorem RowAt.nil (w : World) (B : Nat) (e : TypeId) (s : Nat) : RowAt w B e s (.slice none 0 0) 0 [] := ⟨by simp, .inl ⟨rfl, rfl⟩⟩
theorem RowAt.only {S : Nat → Prop} (h : RowAt w B e s v n xs) (ho : Only S w w') (hS : ∀ k, v.ownBlock = some k → ¬ S k) : RowAt w' B e s v n xs := by
  refine ⟨h.1, ?_⟩
  rcases h.2 with hn | ⟨g, o, c, cur, rfl, hb, hg, rest⟩
  · exact .inl hn
  · exact .inr ⟨g, o, c, cur, rfl, hb, hg.only ho (hS g rfl), rest⟩
theorem RowAt.keep (h : RowAt w B e s v n xs) (hk : ∀ g t cs, v.ownBlock = some g → Blk w g t cs → Blk w' g t cs) : RowAt w' B e s v n xs := by
  refine ⟨h.1, ?_⟩
  rcases h.2 with hn | ⟨g, o, c, cur, rfl, hb, hg, rest⟩
  · exact .inl hn
  · exact .inr ⟨g, o, c, cur, rfl, hb, hk g _ _ rfl hg, rest⟩
theorem RowAt.lt (h : RowAt w B e s v n xs) : ∀ k, v.ownBlock = some k → B ≤ k ∧ k < w.heap.size := by
  rcases h.2 with ⟨rfl, _⟩ | ⟨g, o, c, cur, rfl, hb, hg, _⟩
  · rintro k ⟨⟩
  · rintro k ⟨⟩
    exact ⟨hb, hg.lt⟩
theorem RowAt.form (h : RowAt w B e s v n xs) : ∃ A c, v = .slice A n c ∧ n ≤ c ∧ c ≤ 9223372036854775807 := by
  rcases h.2 with ⟨rfl, rfl⟩ | ⟨g, o, c, cur, rfl, _, _, h1, h2, _⟩
  · exact ⟨_, _, rfl, Nat.le_refl _, by omega⟩
  · exact ⟨_, _, rfl, h1, h2⟩
theorem RowAt.ne {g : Nat} {t : TypeId} {cs : List Value} (h : RowAt w B e s v n xs) (hg : Blk w g t cs) (hne : e ≠ t) : ∀ k, v.ownBlock = some k → k ≠ g := by
  rcases h.2 with ⟨rfl, _⟩ | ⟨g', o, c, cur, rfl, _, hh, _⟩
  · rintro k ⟨⟩
  · rintro k ⟨⟩ rfl
    exact hh.ne hg hne rfl
theorem RowAt.of_own (h : w.ownsRow B e s v n xs) : RowAt w B e s v n xs := by
  refine ⟨h.1, ?_⟩
  rcases h.2 with hn | ⟨g, cap, cur, rfl, hb, hg, h1, h2, h3, h4⟩
  · exact .inl hn
  · refine .inr ⟨g, 0, cap, cur.toList, rfl, hb, by unfold Blk; simpa using hg, h1, by simpa [maxLen] using h2, by simpa using Nat.le_of_eq h3.symm, fun j u hj => ?_⟩
    rw [← h4, List.getElem?_take] at hj
    split at hj
    · rw [Nat.zero_add]; exact hj
    · cases hj
theorem RowAt.mono {B' : Nat} (h : RowAt w B e s v n xs) (hB : B' ≤ B) : RowAt w B' e s v n xs := by
  refine ⟨h.1, ?_⟩
  rcases h.2 with hn | ⟨g, o, c, cur, rfl, hb, rest⟩
  · exact .inl hn
  · exact .inr ⟨g, o, c, cur, rfl, Nat.le_trans hB hb, rest⟩
/-- s[1:], one cell an element: where cap is 1 the address stays. -/
theorem RowAt.tail {g o c : Nat} {x : Value} (h : RowAt w B e 1 (.slice (some ⟨g, o, none⟩) (n + 1) c) (n + 1) (x :: xs)) (o' : Nat) (ho : o' = o + 1 ∨ (c = 1 ∧ o' = o)) : RowAt w B e 1 (.slice (some ⟨g, o', none⟩) n (c - 1)) n xs := by
  obtain ⟨hl, h⟩ := h
  rcases h with ⟨h, _⟩ | ⟨g', o1, c', cur, hv, hb, hg, h1, h2, h3, h4⟩
  · cases h
  · injection hv with hA _ hc
    injection hA with hA
    injection hA with hgg hoo
    subst hgg hoo hc
    simp only [List.length_cons, Nat.mul_one] at hl
    refine ⟨by omega, .inr ⟨g, o', c - 1, cur, rfl, hb, hg, by omega, by omega, by omega, fun j u hj => ?_⟩⟩
    rcases ho with rfl | ⟨rfl, rfl⟩
    · have := h4 (j + 1) u (by simpa using hj)
      rw [show o + 1 + j = o + (j + 1) from by omega]
      exact this
    · have := (List.getElem?_eq_some_iff.1 hj).1
      omega
end

section
variable {P : Program} {ops : Array Oper} {rest : List Oper} {o : Oper} {a : Act} {w : World} {Q : Exit → Act → World → Prop}
end
end Go.Proofs.YtbnfhklpobephaaGreatDoor
