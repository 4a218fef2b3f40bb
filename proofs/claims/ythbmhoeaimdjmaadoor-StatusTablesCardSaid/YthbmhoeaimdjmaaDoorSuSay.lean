/- Layer 17 as plain functions: a report's number, body and line; what a body says. -/
import Derived.Test.YthbmhoeaimdjmaaDoorCodesSay
import Derived.Test.YthbmhoeaimdjmaaDoorText
import Derived.Test.YthbmhoeaimdjmaaDoorLs
namespace Go.Proofs.YthbmhoeaimdjmaaDoor
open Go
set_option maxRecDepth 100000

/-- A verb and an option. -/
structure En where
  v : Int
  o : Int
@[reducible] def En.cs (e : En) : List Value := [.int .i64 e.v, .int .i64 e.o]
theorem En.cs_one (e : En) : ∀ v ∈ e.cs, v.oneCell' = true := by
  intro v hv
  simp only [En.cs, List.mem_cons, List.not_mem_nil, or_false] at hv
  rcases hv with rfl | rfl <;> rfl
def csE (l : List En) : List Value := l.flatMap En.cs
theorem csE_append (l m : List En) : csE (l ++ m) = csE l ++ csE m := by simp [csE]
theorem csE_one (x : En) : csE [x] = x.cs := by simp [csE]
abbrev EnAt := LsOf En.cs 2
theorem csE_length (l : List En) : (csE l).length = l.length * 2 := by
  induction l with
  | nil => rfl
  | cons x l ih => rw [show csE (x :: l) = x.cs ++ csE l from rfl, List.length_append, ih, List.length_cons]; simp; omega

/-- The number of the first error in a list; 0: there is none. -/
def enBad : List En → Nat
  | [] => 0
  | x :: l => if decide (251 ≤ x.v ∧ x.v ≤ 254) then (if decide (0 ≤ x.o ∧ x.o ≤ 255) then enBad l else 1) else 9
theorem enBad_cons (v o : Int) (l : List En) : enBad (⟨v, o⟩ :: l) = if decide (251 ≤ v ∧ v ≤ 254) then (if decide (0 ≤ o ∧ o ≤ 255) then enBad l else 1) else 9 := rfl
def enBytes : List En → List UInt8
  | [] => []
  | x :: l => b8 x.v :: b8 x.o :: enBytes l
def suNum (l : List En) : Nat := if 120 < l.length then 4 else enBad l
def suBody (l : List En) : List UInt8 := if suNum l = 0 then 0 :: enBytes l else []
theorem enBytes_length (l : List En) : (enBytes l).length = l.length * 2 := by
  induction l with
  | nil => rfl
  | cons x l ih => rw [enBytes, List.length_cons, List.length_cons, ih, List.length_cons]; omega

/-- What the bytes behind the first one say. -/
def enPairs : List UInt8 → List En
  | a :: b :: r => ⟨a.toNat, b.toNat⟩ :: enPairs r
  | _ => []
def enKind : List UInt8 → Bool
  | a :: _ :: r => decide (251 ≤ (a.toNat : Int) ∧ (a.toNat : Int) ≤ 254) && enKind r
  | _ => true
/-- The number of a body's error. -/
def paNum : List UInt8 → Nat
  | [] => 3
  | x :: r => if x.toNat = 1 then (if r.length = 0 then 0 else 4) else if x.toNat ≠ 0 then 5 else if r.length % 2 = 1 then 3 else if enKind r then 0 else 9
def paAsks (b : List UInt8) : Bool := b == [1]
def paList : List UInt8 → List En
  | x :: r => if x.toNat = 0 ∧ r.length % 2 = 0 ∧ enKind r = true then enPairs r else []
  | [] => []
theorem enPairs_length : ∀ (n : Nat) (r : List UInt8), r.length = 2 * n → (enPairs r).length = n
  | 0, [], _ => rfl
  | 0, _ :: _, h => by simp at h
  | n + 1, [], h => by simp at h
  | n + 1, [_], h => by simp at h; omega
  | n + 1, _ :: _ :: r, h => by
    rw [enPairs, List.length_cons, enPairs_length n r (by simp at h; omega)]

theorem enPairs_short : ∀ (n : Nat) (r : List UInt8), r.length ≤ n → (enPairs r).length ≤ n
  | _, [], _ => by simp [enPairs]
  | _, [_], _ => by simp [enPairs]
  | 0, _ :: _ :: _, h => by simp at h
  | n + 1, _ :: _ :: r, h => by
    rw [enPairs, List.length_cons]
    have := enPairs_short n r (by simp at h; omega)
    omega
theorem paList_length (b : List UInt8) (h : b.length ≤ 1000) : (paList b).length ≤ 1000 := by
  cases b with
  | nil => simp [paList]
  | cons x r =>
    rw [paList]
    split
    · exact enPairs_short 1000 r (by simp at h; omega)
    · simp
/-- A report is parsed from its body as it was. -/
theorem pairs_back : ∀ l : List En, enBad l = 0 → enPairs (enBytes l) = l ∧ enKind (enBytes l) = true
  | [], _ => ⟨rfl, rfl⟩
  | x :: l, h => by
    unfold enBad at h
    by_cases hv : 251 ≤ x.v ∧ x.v ≤ 254
    · rw [decide_eq_true hv, if_pos rfl] at h
      by_cases ho : 0 ≤ x.o ∧ x.o ≤ 255
      · rw [decide_eq_true ho, if_pos rfl] at h
        obtain ⟨h1, h2⟩ := pairs_back l h
        have e1 : ((b8 x.v).toNat : Int) = x.v := by rw [b8_nat (by omega) (by omega)]; omega
        have e2 : ((b8 x.o).toNat : Int) = x.o := by rw [b8_nat (by omega) (by omega)]; omega
        rw [enBytes, enPairs, enKind, h1, h2, e1, e2, decide_eq_true hv]
        exact ⟨rfl, rfl⟩
      · rw [decide_eq_false ho] at h
        simp at h
    · rw [decide_eq_false hv] at h
      simp at h
theorem body_back {l : List En} (h : suNum l = 0) : paNum (suBody l) = 0 ∧ paAsks (suBody l) = false ∧ paList (suBody l) = l := by
  unfold suBody
  rw [if_pos h]
  unfold suNum at h
  have hb : enBad l = 0 := by
    split at h
    · cases h
    · exact h
  obtain ⟨h1, h2⟩ := pairs_back l hb
  have hl : (enBytes l).length % 2 = 0 := by rw [enBytes_length]; omega
  refine ⟨?_, ?_, ?_⟩
  · rw [paNum, if_neg (by decide), if_neg (by decide), if_neg (by omega), if_pos h2]
  · unfold paAsks
    exact beq_eq_false_iff_ne.2 (fun e => by injection e with e _; cases e)
  · rw [paList, if_pos ⟨by decide, hl, h2⟩, h1]

/-- A word, or the mark of what has none. -/
def orM (s : List UInt8) : List UInt8 := if s = [] then [63] else s
def sepAt (k : Nat) : List UInt8 := if k = 0 then [] else [44, 32]
/-- Entries' texts, from the one with this number on. -/
def lineAt : Nat → List En → List UInt8
  | _, [] => []
  | k, x :: l => sepAt k ++ (orM (wordOf x.v) ++ ([32] ++ (orM (nameOf x.o) ++ lineAt (k + 1) l)))
theorem short_word : ∀ i : Fin 16, (cmdWords.getD i.val []).length ≤ 4 := by decide +kernel
theorem wordOf_short (c : Int) : (wordOf c).length ≤ 4 := by
  unfold wordOf
  split
  · exact short_word ⟨(c - 240).toNat, by omega⟩
  · simp
theorem orM_short {s : List UInt8} {n : Nat} (h : s.length ≤ n) (h1 : 1 ≤ n) : (orM s).length ≤ n := by
  unfold orM
  split
  · exact h1
  · exact h
theorem lineAt_short : ∀ (l : List En) (k : Nat), (lineAt k l).length ≤ l.length * 107
  | [], _ => by simp [lineAt]
  | x :: l, k => by
    have h1 := orM_short (wordOf_short x.v) (by omega)
    have h2 := orM_short (nameOf_short x.o) (by omega)
    have h3 := lineAt_short l (k + 1)
    have h4 : (sepAt k).length ≤ 2 := by unfold sepAt; split <;> simp
    simp only [lineAt, List.length_append, List.length_cons, List.length_nil]
    omega
end Go.Proofs.YthbmhoeaimdjmaaDoor
