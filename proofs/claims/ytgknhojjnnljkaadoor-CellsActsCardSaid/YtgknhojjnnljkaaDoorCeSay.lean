/- A screen as plain functions: what each byte does, a row's line, another size. -/
import Derived.Test.YtgknhojjnnljkaaDoorCeRep
namespace Go.Proofs.YtgknhojjnnljkaaDoor
open Go Go.RowKit

/-- Columns, the cursor's place, the rows. -/
structure Sc where
  c : Nat
  x : Nat
  y : Nat
  rows : List (List UInt8)
/-- The next row. -/
def Sc.next (s : Sc) : Sc := if s.y + 1 < s.rows.length then ⟨s.c, s.x, s.y + 1, s.rows⟩ else ⟨s.c, s.x, s.y, s.rows.drop 1 ++ [blank s.c]⟩
/-- One to the right. -/
def Sc.step (s : Sc) : Sc := if s.x + 1 < s.c then ⟨s.c, s.x + 1, s.y, s.rows⟩ else (⟨s.c, 0, s.y, s.rows⟩ : Sc).next
/-- A byte in the cursor's cell. -/
def Sc.mark (s : Sc) (b : UInt8) : Sc := ⟨s.c, s.x, s.y, s.rows.set s.y ((s.rows.getD s.y []).set s.x b)⟩
def Sc.put (s : Sc) (b : UInt8) : Sc :=
  if 32 ≤ b.toNat ∧ b.toNat ≤ 126 then (s.mark b).step
  else if b.toNat = 8 then ⟨s.c, s.x - 1, s.y, s.rows⟩
  else if b.toNat = 9 then ⟨s.c, min ((s.x / 8 + 1) * 8) (s.c - 1), s.y, s.rows⟩
  else if b.toNat = 10 then s.next
  else if b.toNat = 13 then ⟨s.c, 0, s.y, s.rows⟩
  else if b.toNat = 12 then ⟨s.c, 0, 0, List.replicate s.rows.length (blank s.c)⟩
  else s
/-- Of so many columns and rows, at least one of each. -/
structure Sc.Ok (s : Sc) : Prop where
  c1 : 1 ≤ s.c
  c2 : s.c ≤ 60
  r1 : 1 ≤ s.rows.length
  r2 : s.rows.length ≤ 60
  hx : s.x < s.c
  hy : s.y < s.rows.length
  hr : ∀ r ∈ s.rows, r.length = s.c
theorem Sc.Ok.next {s : Sc} (h : s.Ok) : s.next.Ok := by
  unfold Sc.next
  split
  · rename_i hy
    exact ⟨h.c1, h.c2, h.r1, h.r2, h.hx, hy, h.hr⟩
  · have hl : (s.rows.drop 1 ++ [blank s.c]).length = s.rows.length := by
      have := h.r1
      rw [List.length_append, List.length_drop, List.length_singleton]; omega
    refine ⟨h.c1, h.c2, by show 1 ≤ (s.rows.drop 1 ++ [blank s.c]).length; rw [hl]; exact h.r1, by show (s.rows.drop 1 ++ [blank s.c]).length ≤ _; rw [hl]; exact h.r2, h.hx, by show s.y < (s.rows.drop 1 ++ [blank s.c]).length; rw [hl]; exact h.hy, fun r hr => ?_⟩
    rcases List.mem_append.1 hr with h1 | h1
    · exact h.hr r (List.mem_of_mem_drop h1)
    · rw [List.mem_singleton.1 h1]; exact blank_len _
theorem Sc.Ok.at0 {s : Sc} (h : s.Ok) : (⟨s.c, 0, s.y, s.rows⟩ : Sc).Ok := ⟨h.c1, h.c2, h.r1, h.r2, h.c1, h.hy, h.hr⟩
theorem Sc.Ok.step {s : Sc} (h : s.Ok) : s.step.Ok := by
  unfold Sc.step
  split
  · rename_i hx
    exact ⟨h.c1, h.c2, h.r1, h.r2, hx, h.hy, h.hr⟩
  · exact h.at0.next
theorem Sc.Ok.row {s : Sc} (h : s.Ok) : ∃ r, s.rows[s.y]? = some r ∧ r.length = s.c := ⟨s.rows[s.y]'h.hy, List.getElem?_eq_getElem h.hy, h.hr _ (List.getElem_mem h.hy)⟩
theorem Sc.Ok.mark {s : Sc} (h : s.Ok) (b : UInt8) : (s.mark b).Ok := by
  obtain ⟨r, hr, hl⟩ := h.row
  have e : (s.rows.set s.y ((s.rows.getD s.y []).set s.x b)).length = s.rows.length := List.length_set
  refine ⟨h.c1, h.c2, by show 1 ≤ (s.rows.set _ _).length; rw [e]; exact h.r1, by show (s.rows.set _ _).length ≤ _; rw [e]; exact h.r2, h.hx, by show s.y < (s.rows.set _ _).length; rw [e]; exact h.hy, fun q hq => ?_⟩
  rcases List.mem_or_eq_of_mem_set hq with h1 | h1
  · exact h.hr q h1
  · rw [h1, List.length_set, List.getD_eq_getElem?_getD, hr]; exact hl
theorem Sc.Ok.clear {s : Sc} (h : s.Ok) : (⟨s.c, 0, 0, List.replicate s.rows.length (blank s.c)⟩ : Sc).Ok :=
  ⟨h.c1, h.c2, by simp only [List.length_replicate]; exact h.r1, by simp only [List.length_replicate]; exact h.r2, h.c1, by simp only [List.length_replicate]; exact h.r1, fun r hr => by rw [(List.mem_replicate.1 hr).2]; exact blank_len _⟩
theorem Sc.Ok.put {s : Sc} (h : s.Ok) (b : UInt8) : (s.put b).Ok := by
  unfold Sc.put
  split
  · exact (h.mark b).step
  split
  · exact ⟨h.c1, h.c2, h.r1, h.r2, by have := h.hx; show s.x - 1 < s.c; omega, h.hy, h.hr⟩
  split
  · exact ⟨h.c1, h.c2, h.r1, h.r2, by have := h.c1; show min _ (s.c - 1) < s.c; omega, h.hy, h.hr⟩
  split
  · exact h.next
  split
  · exact h.at0
  split
  · exact h.clear
  · exact h

/-- How many bytes of the first n stay, without blanks at the end. -/
def trimN (r : List UInt8) : Nat → Nat
  | 0 => 0
  | n + 1 => if r[n]? = some 32 then trimN r n else n + 1
theorem trimN_le (r : List UInt8) : ∀ n, trimN r n ≤ n
  | 0 => Nat.le_refl _
  | n + 1 => by
    unfold trimN
    split
    · exact Nat.le_succ_of_le (trimN_le r n)
    · exact Nat.le_refl _
/-- A row's line. -/
def lineOf (r : List UInt8) : List UInt8 := r.take (trimN r r.length)
def Sc.line (s : Sc) (i : Int) : List UInt8 := if 0 ≤ i ∧ i < s.rows.length then lineOf (s.rows.getD i.toNat []) else []

/-- A row of another length. -/
def cutTo (c : Nat) (r : List UInt8) : List UInt8 := (r ++ blank c).take c
theorem cutTo_len (c : Nat) (r : List UInt8) : (cutTo c r).length = c := by
  unfold cutTo
  rw [List.length_take, List.length_append, blank_len]
  omega
def Sc.size (s : Sc) (c r : Nat) : Sc := ⟨c, min s.x (c - 1), min s.y (r - 1), (s.rows.take r).map (cutTo c) ++ List.replicate (r - s.rows.length) (blank c)⟩
theorem size_len (rows : List (List UInt8)) (c r : Nat) : ((rows.take r).map (cutTo c) ++ List.replicate (r - rows.length) (blank c)).length = r := by
  rw [List.length_append, List.length_map, List.length_take, List.length_replicate]
  omega
theorem Sc.Ok.size {s : Sc} (_ : s.Ok) {c r : Nat} (h1 : 1 ≤ c) (h2 : c ≤ 60) (h3 : 1 ≤ r) (h4 : r ≤ 60) : (s.size c r).Ok := by
  refine ⟨h1, h2, ?_, ?_, ?_, ?_, fun q hq => ?_⟩
  · show 1 ≤ List.length _; rw [Sc.size, size_len]; exact h3
  · show List.length _ ≤ 60; rw [Sc.size, size_len]; exact h4
  · show min s.x (c - 1) < c; omega
  · show min s.y (r - 1) < List.length _; rw [Sc.size, size_len]; omega
  · rcases List.mem_append.1 hq with h5 | h5
    · obtain ⟨x, _, rfl⟩ := List.mem_map.1 h5
      exact cutTo_len c x
    · rw [(List.mem_replicate.1 h5).2]; exact blank_len c
/-- A new screen. -/
def newSc (c r : Nat) : Sc := ⟨c, 0, 0, List.replicate r (blank c)⟩
theorem newSc_ok {c r : Nat} (h1 : 1 ≤ c) (h2 : c ≤ 60) (h3 : 1 ≤ r) (h4 : r ≤ 60) : (newSc c r).Ok :=
  ⟨h1, h2, by unfold newSc; rw [List.length_replicate]; exact h3, by unfold newSc; rw [List.length_replicate]; exact h4, h1, by unfold newSc; rw [List.length_replicate]; exact h3, fun r hr => by rw [(List.mem_replicate.1 hr).2]; exact blank_len _⟩
theorem size_zero (c r : Nat) : Sc.size ⟨0, 0, 0, []⟩ c r = newSc c r := by
  unfold Sc.size newSc
  simp
end Go.Proofs.YtgknhojjnnljkaaDoor
