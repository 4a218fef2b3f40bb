/- The words of commands and of options, as plain functions: no two are one, and each is taken back to what it is of. -/
import Derived.Lib.ItoaNum
import Derived.Lib.AtoiAll
namespace Go.Proofs.YthbmhoeaimdjmaaDoor
open Go

/-- The commands' words, from 240 on. -/
def cmdWords : List (List UInt8) := [[115, 101], [110, 111, 112], [100, 109], [98, 114, 107], [105, 112], [97, 111], [97, 121, 116], [101, 99], [101, 108], [103, 97], [115, 98], [119, 105, 108, 108], [119, 111, 110, 116], [100, 111], [100, 111, 110, 116], [105, 97, 99]]
/-- The options' words. -/
def optWords : List (List UInt8) := [[98, 105, 110, 97, 114, 121], [101, 99, 104, 111], [], [115, 103, 97], [], [115, 116, 97, 116, 117, 115], [109, 97, 114, 107], [], [], [], [], [], [], [], [], [], [], [], [], [], [], [], [], [], [116, 116, 121, 112, 101], [], [], [], [], [], [], [110, 97, 119, 115], [], [], [108, 105, 110, 101, 109, 111, 100, 101]]

/-- A command's word. -/
def wordOf (c : Int) : List UInt8 := if 240 ≤ c ∧ c ≤ 255 then cmdWords.getD (c - 240).toNat [] else []
/-- A word's command: so many behind the first one. -/
def codeAt (s : List UInt8) : Option Nat := cmdWords.findIdx? (· == s)
/-- .. or 0. -/
def codeOf (s : List UInt8) : Int := match codeAt s with | some i => 240 + (i : Int) | none => 0

/-- An option's name. -/
def nameAt (n : Nat) : List UInt8 := if optWords.getD n [] = [] then Lib.itoa n else optWords.getD n []
def nameOf (n : Int) : List UInt8 := if 0 ≤ n ∧ n ≤ 255 then nameAt n.toNat else []
/-- What figures are of. -/
def figuresAt (s : List UInt8) : Option Nat := match Lib.atoiAll s with | .ok v => if 0 ≤ v ∧ v ≤ 255 ∧ Lib.itoa v = s then some v.toNat else none | _ => none
/-- What a name is of. -/
def optAt (s : List UInt8) : Option Nat := if s = [] then none else match optWords.findIdx? (· == s) with | some i => some i | none => figuresAt s
/-- .. or 0. -/
def orNone : Option Nat → Int | some n => (n : Int) | none => 0
/-- The verb by which a verb is answered; 0: it is none. -/
def answerOf (c : Int) (agree : Bool) : Int := if c < 251 ∨ 254 < c then 0 else (if c < 253 then 253 else 251) + (if agree then 0 else 1)

/-- Figures, reckoned. -/
def digs : Nat → Nat → List UInt8
  | 0, _ => []
  | k + 1, n => if n < 10 then [UInt8.ofNat (48 + n)] else digs k (n / 10) ++ [UInt8.ofNat (48 + n % 10)]
theorem digs_eq : ∀ (k n : Nat), n < 10 ^ k → 0 < k → Lib.decDigits n = digs k n
  | 0, n, _, h => by omega
  | k + 1, n, h, _ => by
    rw [Lib.decDigits, digs]
    by_cases h10 : n < 10
    · simp [h10]
    · have hk : 0 < k := by
        rcases Nat.eq_zero_or_pos k with rfl | h
        · simp at h; omega
        · exact h
      simp only [h10, dite_false, if_false]
      rw [digs_eq k (n / 10) (by rw [Nat.pow_succ] at h; omega) hk]
theorem itoa_digs (n : Nat) (h : n < 1000) : Lib.itoa (n : Int) = digs 3 n := by
  unfold Lib.itoa
  rw [if_neg (by omega), Int.toNat_natCast, digs_eq 3 n (by omega) (by omega)]

def nameAt' (n : Nat) : List UInt8 := if optWords.getD n [] = [] then digs 3 n else optWords.getD n []
def figuresAt' (s : List UInt8) : Option Nat := match Lib.atoiAll s with | .ok v => if 0 ≤ v ∧ v ≤ 255 ∧ digs 3 v.toNat = s then some v.toNat else none | _ => none
def optAt' (s : List UInt8) : Option Nat := if s = [] then none else match optWords.findIdx? (· == s) with | some i => some i | none => figuresAt' s
theorem nameAt_eq (n : Nat) (h : n < 1000) : nameAt n = nameAt' n := by unfold nameAt nameAt'; rw [itoa_digs n h]
theorem figuresAt_eq (s : List UInt8) : figuresAt s = figuresAt' s := by
  unfold figuresAt figuresAt'
  split
  · rename_i v _
    by_cases h : 0 ≤ v ∧ v ≤ 255
    · obtain ⟨n, rfl⟩ : ∃ n : Nat, v = n := ⟨v.toNat, by omega⟩
      rw [itoa_digs n (by omega), Int.toNat_natCast]
    · rw [if_neg (by omega), if_neg (by omega)]
  · rfl
theorem optAt_eq (s : List UInt8) : optAt s = optAt' s := by unfold optAt optAt'; rw [figuresAt_eq]

theorem back_name : ∀ n : Fin 256, optAt' (nameAt' n.val) = some n.val ∧ optAt' (digs 3 n.val) = some n.val := by decide +kernel
theorem word_name : ∀ i : Fin 35, optWords.getD i.val [] ≠ [] → nameAt' i.val = optWords.getD i.val [] := by decide +kernel
theorem back_word : ∀ i : Fin 16, codeAt (cmdWords.getD i.val []) = some i.val ∧ cmdWords.getD i.val [] ≠ [] := by decide +kernel
theorem none_word : codeAt [] = none := by decide +kernel
theorem none_opt : optAt' [] = none := by decide +kernel

/-- What a name is of: just what has it as its name, or as its figures. -/
theorem optAt_iff (s : List UInt8) (n : Nat) : optAt s = some n ↔ n < 256 ∧ (nameAt n = s ∨ Lib.itoa (n : Int) = s) := by
  constructor
  · intro h
    unfold optAt at h
    split at h
    · cases h
    · rename_i hne
      split at h
      · rename_i i hi
        injection h with h
        subst h
        rw [List.findIdx?_eq_some_iff_getElem] at hi
        obtain ⟨hlt, he, _⟩ := hi
        have e : optWords.getD i [] = s := by simpa [List.getD, List.getElem?_eq_getElem hlt] using he
        have hlt' : i < 35 := hlt
        refine ⟨by omega, .inl ?_⟩
        rw [nameAt_eq i (by omega), word_name ⟨i, hlt'⟩ (by show optWords.getD i [] ≠ []; rw [e]; exact hne)]
        exact e
      · unfold figuresAt at h
        split at h
        · split at h
          · rename_i v _ hv
            injection h with h
            subst h
            refine ⟨by omega, .inr ?_⟩
            rw [Int.toNat_of_nonneg hv.1]
            exact hv.2.2
          · cases h
        · cases h
  · rintro ⟨hn, h | h⟩
    · rw [nameAt_eq n (by omega)] at h
      rw [optAt_eq, ← h]
      exact (back_name ⟨n, hn⟩).1
    · rw [itoa_digs n (by omega)] at h
      rw [optAt_eq, ← h]
      exact (back_name ⟨n, hn⟩).2
theorem codeAt_iff (s : List UInt8) (i : Nat) : codeAt s = some i ↔ i < 16 ∧ cmdWords.getD i [] = s := by
  constructor
  · intro h
    unfold codeAt at h
    rw [List.findIdx?_eq_some_iff_getElem] at h
    obtain ⟨hlt, he, _⟩ := h
    exact ⟨hlt, by simpa [List.getD, List.getElem?_eq_getElem hlt] using he⟩
  · rintro ⟨hi, rfl⟩
    exact (back_word ⟨i, hi⟩).1
theorem name_ne (n : Nat) (h : n < 256) : nameAt n ≠ [] := by
  intro e
  have h1 := (optAt_iff (nameAt n) n).2 ⟨h, .inl rfl⟩
  rw [e, optAt_eq, none_opt] at h1
  cases h1
/-- An option's name is its own. -/
theorem name_own (a b : Int) (h : nameOf a ≠ []) (he : nameOf a = nameOf b) : a = b := by
  have ha : 0 ≤ a ∧ a ≤ 255 := by
    unfold nameOf at h
    split at h
    · assumption
    · exact absurd rfl h
  have hb : 0 ≤ b ∧ b ≤ 255 := by
    rw [he] at h
    unfold nameOf at h
    split at h
    · assumption
    · exact absurd rfl h
  unfold nameOf at he
  rw [if_pos ha, if_pos hb] at he
  have h1 := (optAt_iff (nameAt a.toNat) a.toNat).2 ⟨by omega, .inl rfl⟩
  have h2 := (optAt_iff (nameAt a.toNat) b.toNat).2 ⟨by omega, .inl he.symm⟩
  rw [h1] at h2
  injection h2 with h2
  omega
theorem short_name : ∀ n : Fin 256, (nameAt' n.val).length ≤ 100 := by decide +kernel
theorem nameOf_short (a : Int) : (nameOf a).length ≤ 100 := by
  unfold nameOf
  split
  · rw [nameAt_eq _ (by omega)]
    exact short_name ⟨a.toNat, by omega⟩
  · simp
theorem opt_of_name (a : Int) (h : 0 ≤ a ∧ a ≤ 255) : optAt (nameOf a) = some a.toNat := by
  unfold nameOf
  rw [if_pos h]
  exact (optAt_iff _ _).2 ⟨by omega, .inl rfl⟩
theorem opt_of_none : optAt [] = none := by unfold optAt; rw [if_pos rfl]
theorem nameOf_none (a : Int) (h : ¬ (0 ≤ a ∧ a ≤ 255)) : nameOf a = [] := by unfold nameOf; rw [if_neg h]
theorem nameOf_some (a : Int) (h : 0 ≤ a ∧ a ≤ 255) : nameOf a ≠ [] := by unfold nameOf; rw [if_pos h]; exact name_ne _ (by omega)
theorem code_of_word (a : Int) (h : 240 ≤ a ∧ a ≤ 255) : codeAt (wordOf a) = some (a - 240).toNat ∧ codeOf (wordOf a) = a := by
  have e : codeAt (wordOf a) = some (a - 240).toNat := by
    unfold wordOf
    rw [if_pos h]
    exact (codeAt_iff _ _).2 ⟨by omega, rfl⟩
  refine ⟨e, ?_⟩
  unfold codeOf
  rw [e]
  show 240 + (((a - 240).toNat : Nat) : Int) = a
  omega
theorem wordOf_none (a : Int) (h : ¬ (240 ≤ a ∧ a ≤ 255)) : wordOf a = [] := by unfold wordOf; rw [if_neg h]
theorem code_of_none : codeAt [] = none ∧ codeOf [] = 0 := ⟨none_word, by unfold codeOf; rw [none_word]⟩
end Go.Proofs.YthbmhoeaimdjmaaDoor
