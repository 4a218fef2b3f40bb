/- CellsPlain as plain functions: what stands behind so many lines. -/
import Derived.Test.YtgknhojjnnljkaaDoorCePutT
import Derived.Test.YtgknhojjnnljkaaDoorCeSize
import Derived.Test.YtgknhojjnnljkaaDoorCeLine
namespace Go.Proofs.YtgknhojjnnljkaaDoor
open Go Go.RowKit
set_option maxRecDepth 100000

/-- A byte that stands in a cell. -/
def shown (b : UInt8) : Prop := 32 ≤ b.toNat ∧ b.toNat ≤ 126
/-- A plain line: shorter than the columns, no blank at its end. -/
structure Plain (c : Nat) (l : List UInt8) : Prop where
  len : l.length < c
  last : ∀ b, l[l.length - 1]? = some b → b ≠ 32
  all : ∀ b ∈ l, shown b
theorem cutTo_at (c : Nat) (l : List UInt8) (i : Nat) : (cutTo c l)[i]? = if i < c then (if i < l.length then l[i]? else some 32) else none := by
  unfold cutTo blank
  rw [List.getElem?_take]
  split
  · split
    · rename_i h; rw [List.getElem?_append_left h]
    · rename_i h; rw [List.getElem?_append_right (by omega), List.getElem?_replicate, if_pos (by omega)]
  · rfl
theorem cutTo_set (c : Nat) (l : List UInt8) (b : UInt8) (h : l.length < c) : (cutTo c l).set l.length b = cutTo c (l ++ [b]) := by
  apply List.ext_getElem?
  intro i
  rw [List.getElem?_set, cutTo_at, cutTo_at, cutTo_len, List.length_append, List.length_singleton]
  rcases Nat.lt_trichotomy i l.length with h1 | h1 | h1
  · rw [if_neg (by omega), if_pos (by omega), if_pos h1, if_pos (by omega), if_pos (by omega), List.getElem?_append_left h1]
  · subst h1
    rw [if_pos rfl, if_pos h, if_pos h, if_pos (by omega), List.getElem?_append_right (Nat.le_refl _), Nat.sub_self]
    rfl
  · rw [if_neg (by omega)]
    by_cases h2 : i < c
    · rw [if_pos h2, if_neg (by omega), if_pos h2, if_neg (by omega)]
    · rw [if_neg h2, if_neg h2]
theorem cutTo_nil (c : Nat) : cutTo c [] = blank c := by unfold cutTo blank; simp
/-- A line written from the front of an empty row. -/
theorem puts_line {c k : Nat} {rows : List (List UInt8)} {l : List UInt8} (hl : l.length < c) (hs : ∀ b ∈ l, shown b) (hr : rows[k]? = some (blank c)) : ∀ j, j ≤ l.length →
    (⟨c, 0, k, rows⟩ : Sc).puts (l.take j) = ⟨c, j, k, rows.set k (cutTo c (l.take j))⟩ := by
  intro j
  have hk := (List.getElem?_eq_some_iff.1 hr).1
  induction j with
  | zero =>
    intro _
    rw [List.take_zero, cutTo_nil]
    show (⟨c, 0, k, rows⟩ : Sc) = _
    congr 1
    apply List.ext_getElem?
    intro i
    rw [List.getElem?_set]
    split
    · rename_i e
      subst e
      first | exact hr | rw [if_pos hk, hr]
    · rfl
  | succ j ih =>
    intro hj
    obtain ⟨b, hb⟩ : ∃ b, l[j]? = some b := ⟨_, List.getElem?_eq_getElem (by omega)⟩
    have ht : l.take (j + 1) = l.take j ++ [b] := by rw [List.take_add_one, hb]; rfl
    have hlen : (l.take j).length = j := by rw [List.length_take]; omega
    rw [ht, puts_snoc, ih (by omega)]
    have hsh := hs b (List.mem_of_getElem? hb)
    unfold Sc.put
    rw [if_pos (show 32 ≤ b.toNat ∧ b.toNat ≤ 126 from hsh)]
    have hm : (⟨c, j, k, rows.set k (cutTo c (l.take j))⟩ : Sc).mark b = ⟨c, j, k, rows.set k (cutTo c (l.take j ++ [b]))⟩ := by
      unfold Sc.mark
      simp only
      congr 1
      rw [List.set_set]
      congr 1
      rw [List.getD_eq_getElem?_getD, List.getElem?_set_self hk, Option.getD_some]
      have := cutTo_set c (l.take j) b (by rw [hlen]; omega)
      rw [hlen] at this
      exact this
    rw [hm]
    unfold Sc.step
    rw [if_pos (by show j + 1 < c; omega)]
/-- What stands behind so many lines. -/
def stP (c R : Nat) (ls : List (List UInt8)) (k : Nat) : Sc := if k = 0 then newSc c R else ⟨c, (ls.getD (k - 1) []).length, k - 1, cutRows ls c R k⟩
theorem stP_zero (c R : Nat) (ls : List (List UInt8)) : stP c R ls 0 = newSc c R := rfl
theorem stP_line {c R k : Nat} {ls : List (List UInt8)} {l : List UInt8} (hl : ls[k]? = some l) (hp : Plain c l) (hk : k < R) : (⟨c, 0, k, cutRows ls c R k⟩ : Sc).puts l = stP c R ls (k + 1) := by
  have hk2 := (List.getElem?_eq_some_iff.1 hl).1
  have h := puts_line hp.len hp.all (cut_at (rows := ls) (c := c) (R := R) (k := k) (by omega) hk) l.length (Nat.le_refl _)
  rw [List.take_length] at h
  rw [h, cut_step hl hk]
  unfold stP
  rw [if_neg (by omega)]
  show _ = (⟨c, (ls.getD k []).length, k, _⟩ : Sc)
  rw [List.getD_eq_getElem?_getD, hl]
  rfl
theorem stP_first {c R : Nat} {ls : List (List UInt8)} {l : List UInt8} (hl : ls[0]? = some l) (hp : Plain c l) (hk : 0 < R) : (stP c R ls 0).puts l = stP c R ls 1 := by
  rw [stP_zero]
  have : newSc c R = ⟨c, 0, 0, cutRows ls c R 0⟩ := by rw [cut_zero]; rfl
  rw [this]
  exact stP_line hl hp hk
theorem stP_crlf {c R k : Nat} {ls : List (List UInt8)} (hk : 0 < k) (hkR : k < R) (hl : R = ls.length) : (stP c R ls k).puts [13, 10] = ⟨c, 0, k, cutRows ls c R k⟩ := by
  unfold stP
  rw [if_neg (by omega)]
  show (Sc.put (Sc.put _ 13) 10) = _
  have h13 : (Sc.put (⟨c, (ls.getD (k - 1) []).length, k - 1, cutRows ls c R k⟩ : Sc) 13) = ⟨c, 0, k - 1, cutRows ls c R k⟩ := by
    unfold Sc.put
    rw [if_neg (by decide), if_neg (by decide), if_neg (by decide), if_neg (by decide), if_pos (by decide)]
  rw [h13]
  unfold Sc.put
  rw [if_neg (by decide), if_neg (by decide), if_neg (by decide), if_pos (by decide)]
  unfold Sc.next
  have hlen : (cutRows ls c R k).length = R := by
    unfold cutRows
    rw [List.length_append, List.length_map, List.length_take, List.length_replicate]; omega
  simp only
  rw [if_pos (by rw [hlen]; omega)]
  congr 1
  omega

theorem trim_blank {c : Nat} {l : List UInt8} (_ : l.length ≤ c) : ∀ d, l.length + d ≤ c → trimN (cutTo c l) (l.length + d) = trimN (cutTo c l) l.length := by
  intro d
  induction d with
  | zero => intro _; rfl
  | succ d ih =>
    intro hd
    rw [← Nat.add_assoc, trimN_step _ _ ?_, ih (by omega)]
    unfold cutTo blank
    rw [List.getElem?_take, if_pos (by omega), List.getElem?_append_right (by omega), List.getElem?_replicate, if_pos (by omega)]
theorem line_cut {c : Nat} {l : List UInt8} (hp : Plain c l) : lineOf (cutTo c l) = l := by
  have hl := hp.len
  have h1 : trimN (cutTo c l) c = trimN (cutTo c l) l.length := by
    have := trim_blank (c := c) (l := l) (by omega) (c - l.length) (by omega)
    rwa [show l.length + (c - l.length) = c from by omega] at this
  have h2 : trimN (cutTo c l) l.length = l.length := by
    cases hn : l.length with
    | zero => rfl
    | succ m =>
      refine trimN_stop _ m ?_
      obtain ⟨b, hb⟩ : ∃ b, l[m]? = some b := ⟨_, List.getElem?_eq_getElem (by omega)⟩
      have := hp.last b (by rw [hn]; exact hb)
      unfold cutTo
      rw [List.getElem?_take, if_pos (by omega), List.getElem?_append_left (by omega), hb]
      simpa using this
  unfold lineOf
  rw [cutTo_len, h1, h2]
  unfold cutTo
  rw [List.take_take, Nat.min_eq_left (by omega), List.take_left']
  rfl
theorem stP_lines {c R : Nat} {ls : List (List UInt8)} (hR : R = ls.length) (h1 : 1 ≤ R) (hp : ∀ l ∈ ls, Plain c l) : ∀ (i : Nat) (l : List UInt8), ls[i]? = some l → (stP c R ls R).line (i : Int) = l := by
  intro i l hl
  have hi := (List.getElem?_eq_some_iff.1 hl).1
  have e : (stP c R ls R).rows = ls.map (cutTo c) := by
    unfold stP
    rw [if_neg (by omega)]
    unfold cutRows
    rw [hR, List.take_length, Nat.sub_self]
    simp
  have hr : (stP c R ls R).rows[i]? = some (cutTo c l) := by rw [e, List.getElem?_map, hl]; rfl
  rw [line_at hr, line_cut (hp l (List.mem_of_getElem? hl))]
theorem line_blank (c : Nat) : lineOf (blank c) = [] := by
  have h : ∀ d, d ≤ c → trimN (blank c) d = 0 := by
    intro d
    induction d with
    | zero => intro _; rfl
    | succ d ih =>
      intro hd
      rw [trimN_step _ _ ?_, ih (by omega)]
      unfold blank
      rw [List.getElem?_replicate, if_pos (by omega)]
  unfold lineOf
  rw [blank_len, h c (Nat.le_refl _), List.take_zero]
theorem clear_line (c R : Nat) (i : Nat) : (⟨c, 0, 0, List.replicate R (blank c)⟩ : Sc).line (i : Int) = [] := by
  by_cases h : i < R
  · have hr : (⟨c, 0, 0, List.replicate R (blank c)⟩ : Sc).rows[i]? = some (blank c) := by
      show (List.replicate R (blank c))[i]? = _
      rw [List.getElem?_replicate, if_pos h]
    rw [line_at hr, line_blank]
  · unfold Sc.line
    rw [if_neg]
    show ¬ (0 ≤ (i : Int) ∧ (i : Int) < ((List.replicate R (blank c)).length : Int))
    rw [List.length_replicate]
    omega
theorem put_ff (s : Sc) : s.put 12 = ⟨s.c, 0, 0, List.replicate s.rows.length (blank s.c)⟩ := by
  unfold Sc.put
  rw [if_neg (by decide), if_neg (by decide), if_neg (by decide), if_neg (by decide), if_neg (by decide), if_pos (by decide)]
theorem stP_dim {c R : Nat} {ls : List (List UInt8)} (hR : R = ls.length) (h1 : 1 ≤ R) : (stP c R ls R).c = c ∧ (stP c R ls R).rows.length = R ∧ (stP c R ls R).x = (ls.getD (R - 1) []).length ∧ (stP c R ls R).y = R - 1 := by
  unfold stP
  rw [if_neg (by omega)]
  refine ⟨rfl, ?_, rfl, rfl⟩
  show (cutRows ls c R R).length = R
  unfold cutRows
  rw [List.length_append, List.length_map, List.length_take, List.length_replicate]; omega
end Go.Proofs.YtgknhojjnnljkaaDoor
