/- Layer 8 as plain functions: what goes out, what comes in, and that it is what it was. -/
import Derived.Test.YtelmfncdamakfaaBase
namespace Go.Proofs.Ytelmfncdamakfaa

/-- What goes out. -/
def out8 (raw : Bool) : List UInt8 → List UInt8
  | [] => []
  | x :: l => (if x.toNat = 13 ∧ raw = false ∧ (l.head?.map UInt8.toNat) ≠ some 10 then [x, 0] else [x]) ++ out8 raw l
theorem out8_raw : ∀ l, out8 true l = l
  | [] => rfl
  | x :: l => by simp [out8, out8_raw l]
theorem out8_le (raw : Bool) : ∀ l, (out8 raw l).length ≤ 2 * l.length
  | [] => by simp [out8]
  | x :: l => by
    have := out8_le raw l
    simp only [out8, List.length_append, List.length_cons]
    split <;> simp <;> omega

/-- What comes in, of bytes each raw or not, behind a 13 or not. -/
def in8 : Bool → List (UInt8 × Bool) → List UInt8
  | _, [] => []
  | b, (x, r) :: l => (if b = true ∧ x.toNat = 0 ∧ r = false then [] else [x]) ++ in8 (decide (x.toNat = 13) && !r) l
theorem in8_le : ∀ b l, (in8 b l).length ≤ l.length
  | _, [] => by simp [in8]
  | b, (x, r) :: l => by
    have := in8_le (decide (x.toNat = 13) && !r) l
    simp only [in8, List.length_append, List.length_cons]
    split <;> simp <;> omega
/-- .. all raw, or none. -/
def flags8 (raw : Bool) (l : List UInt8) : List (UInt8 × Bool) := l.map fun x => (x, raw)
theorem in8_raw : ∀ b l, in8 b (flags8 true l) = l
  | _, [] => rfl
  | b, x :: l => by
    have := in8_raw (decide (x.toNat = 13) && !true) l
    simp only [flags8, List.map_cons, in8] at this ⊢
    rw [this]
    simp

/-- What goes out comes in as it was, and what comes behind it as if nothing had come. -/
theorem in8_out8 : ∀ (l : List UInt8) (t : List UInt8) (b : Bool), (b = true → l.head?.map UInt8.toNat = some 10) → in8 b (flags8 false (out8 false l ++ t)) = l ++ in8 false (flags8 false t)
  | [], t, b, h => by
    cases b with
    | false => rfl
    | true => simp at h
  | x :: l, t, b, h => by
    have hx : ¬ (b = true ∧ x.toNat = 0 ∧ True) := by
      rintro ⟨hb, h0, _⟩
      have := h hb
      simp at this
      omega
    by_cases h13 : x.toNat = 13
    · by_cases h10 : (l.head?.map UInt8.toNat) = some 10
      · have e : out8 false (x :: l) = x :: out8 false l := by simp [out8, h10]
        have := in8_out8 l t true (fun _ => h10)
        rw [e]
        simp only [flags8, List.cons_append, List.map_cons, in8] at this ⊢
        rw [if_neg hx]
        simp only [h13, decide_true, Bool.not_false, Bool.and_self]
        rw [this]
        rfl
      · have e : out8 false (x :: l) = x :: 0 :: out8 false l := by simp [out8, h13, h10]
        have := in8_out8 l t false (fun h => by cases h)
        rw [e]
        simp only [flags8, List.cons_append, List.map_cons, in8] at this ⊢
        rw [if_neg hx]
        simp only [h13]
        have e0 : (0 : UInt8).toNat = 0 := rfl
        simp only [e0, decide_true, Bool.not_false, Bool.and_self, and_self, if_true, List.nil_append, show decide (0 = 13) = false from rfl, Bool.false_and]
        rw [this]
        rfl
    · have e : out8 false (x :: l) = x :: out8 false l := by simp [out8, h13]
      have := in8_out8 l t false (fun h => by cases h)
      rw [e]
      simp only [flags8, List.cons_append, List.map_cons, in8] at this ⊢
      rw [if_neg hx]
      simp only [h13, decide_false, Bool.false_and]
      rw [this]
      rfl

/-- The parts, one behind the other. -/
def cat8 : List (List UInt8) → List UInt8
  | [] => []
  | x :: l => x ++ cat8 l
theorem cat8_append (a b : List (List UInt8)) : cat8 (a ++ b) = cat8 a ++ cat8 b := by
  induction a with
  | nil => rfl
  | cons x l ih => simp [cat8, ih]
theorem back8_false : ∀ ps : List (List UInt8), in8 false (flags8 false (cat8 (ps.map (out8 false)))) = cat8 ps
  | [] => rfl
  | p :: ps => by
    simp only [List.map_cons, cat8]
    rw [in8_out8 p _ false (fun h => by cases h), back8_false ps]
theorem back8 (raw : Bool) (ps : List (List UInt8)) : in8 false (flags8 raw (cat8 (ps.map (out8 raw)))) = cat8 ps := by
  cases raw with
  | false => exact back8_false ps
  | true =>
    rw [in8_raw]
    have : (ps.map (out8 true)) = ps := by
      rw [show out8 true = id from funext out8_raw]
      simp
    rw [this]

/-- Behind each 13 stands a 0 or a 10. -/
def Ends8 (l : List UInt8) : Prop := ∀ (i : Nat) (x : UInt8), l[i]? = some x → x.toNat = 13 → ∃ y, l[i + 1]? = some y ∧ (y.toNat = 0 ∨ y.toNat = 10)
theorem Ends8.nil : Ends8 [] := fun i x h => by simp at h
theorem Ends8.append {a b : List UInt8} (ha : Ends8 a) (hb : Ends8 b) : Ends8 (a ++ b) := by
  intro i x hx h13
  rw [List.getElem?_append] at hx
  split at hx
  · obtain ⟨y, hy, h⟩ := ha i x hx h13
    exact ⟨y, by rw [List.getElem?_append_left (List.getElem?_eq_some_iff.1 hy).1]; exact hy, h⟩
  · obtain ⟨y, hy, h⟩ := hb _ x hx h13
    exact ⟨y, by rw [List.getElem?_append_right (by omega), show i + 1 - a.length = i - a.length + 1 from by omega]; exact hy, h⟩
theorem ends_out8 : ∀ l, Ends8 (out8 false l)
  | [] => Ends8.nil
  | x :: l => by
    have ih := ends_out8 l
    intro i c hc h13
    simp only [out8] at hc ⊢
    split at hc
    · rename_i h
      match i, hc with
      | 0, hc => exact ⟨0, by rw [if_pos h]; rfl, .inl (by decide)⟩
      | 1, hc => simp at hc; subst hc; simp at h13
      | i + 2, hc =>
        obtain ⟨y, hy, h2⟩ := ih i c (by simpa using hc) h13
        exact ⟨y, by rw [if_pos h]; simpa using hy, h2⟩
    · rename_i h
      match i, hc with
      | 0, hc =>
        simp at hc
        subst hc
        have h10 : l.head?.map UInt8.toNat = some 10 := by
          refine Classical.byContradiction fun h10 => h ⟨h13, trivial, h10⟩
        cases l with
        | nil => simp at h10
        | cons y l =>
          refine ⟨y, ?_, .inr (by simpa using h10)⟩
          rw [if_neg h]
          simp only [out8]
          split <;> simp
      | i + 1, hc =>
        obtain ⟨y, hy, h2⟩ := ih i c (by simpa using hc) h13
        exact ⟨y, by rw [if_neg h]; simpa using hy, h2⟩
theorem ends_cat8 : ∀ ps : List (List UInt8), Ends8 (cat8 (ps.map (out8 false)))
  | [] => Ends8.nil
  | p :: ps => (ends_out8 p).append (ends_cat8 ps)
end Go.Proofs.Ytelmfncdamakfaa
