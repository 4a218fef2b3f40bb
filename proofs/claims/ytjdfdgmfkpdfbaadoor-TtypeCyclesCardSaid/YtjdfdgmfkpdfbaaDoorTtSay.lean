/- Terminal types as plain functions: a type, a cycle's answers, what is gathered, what a body says. -/
import Derived.Test.YtjdfdgmfkpdfbaaDoorTexts
namespace Go.Proofs.YtjdfdgmfkpdfbaaDoor
open Go Go.RowKit
/-- A type's byte. -/
def okB (c : UInt8) : Bool := decide (33 ≤ c.toNat) && decide (c.toNat ≤ 126)
/-- A type. -/
def okT (s : List UInt8) : Bool := decide (1 ≤ s.length) && decide (s.length ≤ 24) && s.all okB
theorem okB_iff {c : UInt8} : okB c = true ↔ 33 ≤ c.toNat ∧ c.toNat ≤ 126 := by simp [okB]
theorem okT_iff {s : List UInt8} : okT s = true ↔ 1 ≤ s.length ∧ s.length ≤ 24 ∧ ∀ c ∈ s, okB c = true := by simp [okT, and_assoc]
theorem okT_empty : okT [] = false := rfl
theorem okT_long {s : List UInt8} (h : 24 < s.length) : okT s = false := by
  unfold okT
  rw [decide_eq_false (by omega : ¬ s.length ≤ 24)]
  simp
/-- The bytes up to k are a type's. -/
def Good (s : List UInt8) (k : Nat) : Prop := ∀ c ∈ s.take k, okB c = true
theorem Good.zero (s : List UInt8) : Good s 0 := by intro c hc; simp at hc
theorem Good.succ {s : List UInt8} {k : Nat} {x : UInt8} (h : Good s k) (hx : s[k]? = some x) (ho : okB x = true) : Good s (k + 1) := by
  intro c hc
  rw [List.take_add_one, hx] at hc
  rcases List.mem_append.1 hc with h1 | h1
  · exact h c h1
  · simp at h1; rw [h1]; exact ho
theorem Good.all {s : List UInt8} {n : Nat} (h : Good s n) (hn : n = s.length) (h1 : 1 ≤ n) (h24 : n ≤ 24) : okT s = true := by
  subst hn
  refine okT_iff.2 ⟨h1, h24, fun c hc => h c ?_⟩
  rw [List.take_length]
  exact hc
theorem okT_bad {s : List UInt8} {k : Nat} {x : UInt8} (hx : s[k]? = some x) (ho : okB x = false) : okT s = false := by
  cases h : okT s with
  | false => rfl
  | true =>
    have := (okT_iff.1 h).2.2 x (List.mem_of_getElem? hx)
    rw [ho] at this
    cases this

/-- The answer number n of a cycle. -/
def ansT (ts : List (List UInt8)) (n : Nat) : List UInt8 := ts.getD (min (n % (ts.length + 1)) (ts.length - 1)) []
theorem ansT_get {ts : List (List UInt8)} (h : 0 < ts.length) (n : Nat) : ts[min (n % (ts.length + 1)) (ts.length - 1)]? = some (ansT ts n) := by
  unfold ansT
  have hl : min (n % (ts.length + 1)) (ts.length - 1) < ts.length := by omega
  rw [List.getD_eq_getElem?_getD, List.getElem?_eq_getElem hl]
  rfl

/-- What is gathered. -/
structure Ls where
  names : List (List UInt8)
  whole : Bool
def Ls.take (l : Ls) (s : List UInt8) : Ls :=
  if l.whole || !okT s then l else if l.names.getLast? = some s then ⟨l.names, true⟩ else ⟨l.names ++ [s], decide (l.names.length + 1 = 8)⟩
structure Ls.Ok (l : Ls) : Prop where
  most : l.names.length ≤ 8
  room : l.whole = false → l.names.length < 8
def Ls.none : Ls := ⟨[], false⟩
theorem Ls.none_ok : Ls.none.Ok := ⟨by simp [Ls.none], fun _ => by simp [Ls.none]⟩
theorem Ls.take_full {l : Ls} {s : List UInt8} (h : l.whole = true) : l.take s = l := by simp [Ls.take, h]
theorem Ls.take_bad {l : Ls} {s : List UInt8} (h : okT s = false) : l.take s = l := by simp [Ls.take, h]
theorem Ls.take_end {l : Ls} {s : List UInt8} (h : l.whole = false) (ho : okT s = true) (hl : l.names.getLast? = some s) : l.take s = ⟨l.names, true⟩ := by simp [Ls.take, h, ho, hl]
theorem Ls.take_new {l : Ls} {s : List UInt8} (h : l.whole = false) (ho : okT s = true) (hl : l.names.getLast? ≠ some s) : l.take s = ⟨l.names ++ [s], decide (l.names.length + 1 = 8)⟩ := by simp [Ls.take, h, ho, hl]
theorem Ls.Ok.take {l : Ls} (h : l.Ok) (s : List UInt8) : (l.take s).Ok := by
  unfold Ls.take
  split
  · exact h
  · rename_i h1
    simp only [Bool.or_eq_true, not_or, Bool.not_eq_true] at h1
    have := h.room h1.1
    split
    · exact ⟨h.most, fun h => by cases h⟩
    · refine ⟨by simp; omega, fun h2 => ?_⟩
      simp at h2 ⊢
      omega
def gatherT (l : Ls) (ts : List (List UInt8)) : Ls := ts.foldl Ls.take l
theorem gatherT_ok {l : Ls} (h : l.Ok) (ts : List (List UInt8)) : (gatherT l ts).Ok := by
  induction ts generalizing l with
  | nil => exact h
  | cons t ts ih => exact ih (h.take t)
theorem gatherT_full {l : Ls} (h : l.whole = true) (ts : List (List UInt8)) : gatherT l ts = l := by
  induction ts with
  | nil => rfl
  | cons t ts ih =>
    show gatherT (l.take t) ts = l
    rw [Ls.take_full h, ih]
theorem gatherT_drop {l : Ls} {ts : List (List UInt8)} {k : Nat} {x : List UInt8} (h : ts[k]? = some x) : gatherT l (ts.drop k) = gatherT (l.take x) (ts.drop (k + 1)) := by
  obtain ⟨hk, hx⟩ := List.getElem?_eq_some_iff.1 h
  rw [List.drop_eq_getElem_cons hk, hx]
  rfl
theorem gatherT_snoc {l : Ls} {ts : List (List UInt8)} {k : Nat} {x : List UInt8} (h : ts[k]? = some x) : gatherT l (ts.take (k + 1)) = (gatherT l (ts.take k)).take x := by
  rw [List.take_add_one, h]
  show (ts.take k ++ [x]).foldl _ _ = _
  rw [List.foldl_append]
  rfl

/-- Of a cycle whose types differ from those ahead of them a list is gathered that has all. -/
theorem gatherT_all {ts : List (List UInt8)} (hok : ∀ t ∈ ts, okT t = true) (hne : ∀ (i : Nat) (x y : List UInt8), ts[i]? = some x → ts[i + 1]? = some y → x ≠ y) (h8 : ts.length ≤ 8) :
    ∀ k, k ≤ ts.length → gatherT Ls.none (ts.take k) = ⟨ts.take k, decide (k = 8)⟩ := by
  intro k
  induction k with
  | zero => intro _; rfl
  | succ k ih =>
    intro hk
    have hx : ts[k]? = some ts[k] := List.getElem?_eq_getElem (by omega)
    rw [gatherT_snoc hx, ih (by omega), Ls.take_new (by simp; omega) (hok _ (List.getElem_mem _)) ?_]
    · rw [List.take_add_one, hx]
      simp only [Option.toList_some, List.length_take]
      congr 2
      rw [eq_iff_iff]
      omega
    · intro h
      rcases Nat.eq_zero_or_pos k with h0 | h0
      · subst h0
        cases h
      · have hy : ts[k - 1]? = some ts[k - 1] := List.getElem?_eq_getElem (by omega)
        have := hne (k - 1) _ _ hy (by rw [show k - 1 + 1 = k from by omega]; exact hx)
        refine this ?_
        simp only [List.getLast?_take, show k ≠ 0 from by omega, if_false, hy] at h
        simpa using h
/-- What a body says: the type, whether it asks, the error's number. -/
def saysT (b : List UInt8) : List UInt8 × Bool × Nat :=
  match b with
  | [] => ([], false, 3)
  | c :: r => if c.toNat = 1 then (match r with | [] => ([], true, 0) | _ :: _ => ([], false, 4)) else if 1 < c.toNat then ([], false, 5) else if okT r then (r, false, 0) else ([], false, 6)
end Go.Proofs.YtjdfdgmfkpdfbaaDoor
