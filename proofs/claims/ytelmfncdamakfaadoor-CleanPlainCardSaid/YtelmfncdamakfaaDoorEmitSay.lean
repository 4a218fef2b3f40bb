/- What layer 6 tells of tokens, as plain functions; layer 5 reads of it the same tokens. -/
import Derived.Test.YtelmfncdamakfaaDoorIacSay
import Derived.Test.YtelmfncdamakfaaDoorText
namespace Go.Proofs.YtelmfncdamakfaaDoor

/-- Bytes, each 255 of them doubled. -/
def dbl : List UInt8 → List UInt8
  | [] => []
  | c :: l => if c.toNat = 255 then c :: c :: dbl l else c :: dbl l
theorem dbl_append (a b : List UInt8) : dbl (a ++ b) = dbl a ++ dbl b := by
  induction a with
  | nil => rfl
  | cons c a ih =>
    simp only [List.cons_append, dbl]
    split <;> simp [ih]
theorem dbl_length (l : List UInt8) : l.length ≤ (dbl l).length ∧ (dbl l).length ≤ 2 * l.length := by
  induction l with
  | nil => simp [dbl]
  | cons c l ih =>
    simp only [dbl]
    split <;> simp only [List.length_cons] <;> omega
theorem dbl_two (l : List UInt8) (x : UInt8) (h : x.toNat = 255) : dbl (l ++ [x]) = dbl l ++ [x] ++ [x] := by
  rw [dbl_append]
  simp [dbl, h]
theorem dbl_one (l : List UInt8) (x : UInt8) (h : x.toNat ≠ 255) : dbl (l ++ [x]) = dbl l ++ [x] := by
  rw [dbl_append]
  simp [dbl, h]
/-- The error that a token's bytes have, by its number. -/
def tkNum (t : Tk) : Nat :=
  if t.kind = 1 then if 0 ≤ t.code ∧ t.code ≤ 255 then 0 else 1
  else if t.kind = 2 then if 241 ≤ t.code ∧ t.code ≤ 249 then 0 else 9
  else if t.kind = 3 then if 251 ≤ t.code ∧ t.code ≤ 254 then (if 0 ≤ t.opt ∧ t.opt ≤ 255 then 0 else 1) else 9
  else if t.kind = 4 then if 0 ≤ t.opt ∧ t.opt ≤ 255 then (if 256 < t.body.length ∨ t.cut = true then 4 else 0) else 1
  else 9
def tkRaw (t : Tk) : List UInt8 :=
  if t.kind = 1 then dbl [b8 t.code]
  else if t.kind = 2 then [255, b8 t.code]
  else if t.kind = 3 then [255, b8 t.code, b8 t.opt]
  else [255, 250, b8 t.opt] ++ dbl t.body ++ [255, 240]
/-- A token's bytes. -/
def tkBytes (t : Tk) : List UInt8 := if tkNum t = 0 then tkRaw t else []
theorem tkBytes_length (t : Tk) : (tkBytes t).length ≤ 600 := by
  unfold tkBytes
  split
  · rename_i h
    unfold tkRaw
    split
    · have := dbl_length [b8 t.code]; simp at this ⊢; omega
    · split
      · simp
      · split
        · simp
        · rename_i h1 h2 h3
          unfold tkNum at h
          rw [if_neg h1, if_neg h2, if_neg h3] at h
          have hb : t.body.length ≤ 256 := by
            split at h
            · split at h
              · split at h
                · omega
                · omega
              · omega
            · omega
          have := dbl_length t.body
          simp only [List.length_append, List.length_cons, List.length_nil]
          omega
  · simp

/-- What of a token its bytes say. -/
def canon (t : Tk) : Tk := ⟨t.kind, if t.kind = 4 then 0 else t.code, if t.kind = 3 ∨ t.kind = 4 then t.opt else 0, if t.kind = 4 then t.body else [], false⟩

theorem feed_keep (s : Nat) (o : Int) (f : List UInt8) (c : UInt8) (hf : f.length < 256) : (Ms.keep ⟨s, 0, o, f, false⟩ c).to 4 = ⟨4, 0, o, f ++ [c], false⟩ := by
  unfold Ms.keep Ms.to
  simp only
  rw [if_neg (by omega)]
theorem feeds_body (o : Int) : ∀ (b f : List UInt8), f.length + b.length ≤ 256 → feeds ⟨4, 0, o, f, false⟩ (dbl b) = ([], ⟨4, 0, o, f ++ b, false⟩)
  | [], f, _ => by simp [dbl, feeds]
  | c :: b, f, h => by
    simp only [List.length_cons] at h
    have ih := feeds_body o b (f ++ [c]) (by simp only [List.length_append, List.length_singleton]; omega)
    rw [List.append_assoc, List.singleton_append] at ih
    simp only [dbl]
    split
    · rename_i hc
      simp only [feeds, feed, if_pos hc]
      have h5 : (Ms.mk 4 0 o f false).to 5 = ⟨5, 0, o, f, false⟩ := rfl
      simp only [h5, feed_keep 5 o f c (by omega), ih]
      rfl
    · rename_i hc
      simp only [feeds, feed, if_neg hc, feed_keep 4 o f c (by omega), ih]
      rfl
theorem feeds_tk (t : Tk) (h : tkNum t = 0) : feeds .zero (tkRaw t) = ([canon t], .zero) := by
  obtain ⟨k, c, o, b, cut⟩ := t
  unfold tkNum at h
  simp only at h
  unfold tkRaw canon
  simp only
  by_cases h1 : k = 1
  · subst h1
    simp only [if_true] at h ⊢
    have hc : 0 ≤ c ∧ c ≤ 255 := by
      split at h
      · assumption
      · omega
    have hb := b8_int hc.1 hc.2
    simp only [dbl]
    split
    · rename_i h5
      simp only [feeds, feed, Ms.zero, Ms.to, if_pos h5]
      have e : c = 255 := by omega
      subst e
      simp
    · rename_i h5
      simp only [feeds, feed, Ms.zero, Ms.to, if_neg h5, hb]
      simp
  · by_cases h2 : k = 2
    · subst h2
      simp only [if_true, if_neg h1] at h ⊢
      have hc : 241 ≤ c ∧ c ≤ 249 := by
        split at h
        · assumption
        · omega
      have hb := b8_int (z := c) (by omega) (by omega)
      have a1 : ¬ (b8 c).toNat = 255 := by omega
      have a2 : ¬ (b8 c).toNat = 250 := by omega
      have a3 : ¬ (251 ≤ (b8 c).toNat ∧ (b8 c).toNat ≤ 254) := by omega
      simp [feeds, feed, Ms.zero, Ms.to, a1, a2, a3, hb]
    · by_cases h3 : k = 3
      · subst h3
        simp only [if_true, if_neg h1, if_neg h2] at h ⊢
        have hc : (251 ≤ c ∧ c ≤ 254) ∧ 0 ≤ o ∧ o ≤ 255 := by
          split at h
          · split at h
            · exact ⟨by assumption, by assumption⟩
            · omega
          · omega
        have hb := b8_int (z := c) (by omega) (by omega)
        have ho := b8_int (z := o) (by omega) (by omega)
        have a1 : ¬ (b8 c).toNat = 255 := by omega
        have a2 : ¬ (b8 c).toNat = 250 := by omega
        have a3 : 251 ≤ (b8 c).toNat ∧ (b8 c).toNat ≤ 254 := by omega
        simp [feeds, feed, Ms.zero, Ms.to, a1, a2, a3, hb, ho]
      · by_cases h4 : k = 4
        · subst h4
          simp only [if_true, if_neg h1, if_neg h2, if_neg h3] at h ⊢
          have hc : (0 ≤ o ∧ o ≤ 255) ∧ ¬ (256 < b.length ∨ cut = true) := by
            split at h
            · split at h
              · omega
              · exact ⟨by assumption, by assumption⟩
            · omega
          have ho := b8_int hc.1.1 hc.1.2
          have hl : ([] : List UInt8).length + b.length ≤ 256 := by simp; omega
          rw [List.append_assoc, feeds_append, feeds_append, show feeds Ms.zero [255, 250, b8 o] = ([], ⟨4, 0, o, [], false⟩) by simp [feeds, feed, Ms.zero, Ms.to, ho], feeds_body o b [] hl]
          simp [feeds, feed, Ms.zero, Ms.to]
        · rw [if_neg h1, if_neg h2, if_neg h3, if_neg h4] at h
          omega

/-- The first error of a list of tokens. -/
def numL : List Tk → Nat
  | [] => 0
  | t :: l => if tkNum t = 0 then numL l else tkNum t
/-- The bytes up to it. -/
def accB : List Tk → List UInt8
  | [] => []
  | t :: l => if tkNum t = 0 then tkBytes t ++ accB l else []
def allB (l : List Tk) : List UInt8 := if numL l = 0 then accB l else []
theorem tkBytes_bad {t : Tk} (h : tkNum t ≠ 0) : tkBytes t = [] := by rw [tkBytes, if_neg h]
theorem tkBytes_good {t : Tk} (h : tkNum t = 0) : tkBytes t = tkRaw t := by rw [tkBytes, if_pos h]
theorem numL_snoc (l : List Tk) (t : Tk) : numL (l ++ [t]) = if numL l = 0 then tkNum t else numL l := by
  induction l with
  | nil => simp only [List.nil_append, numL, if_true]; split <;> simp_all
  | cons a l ih =>
    simp only [List.cons_append, numL]
    split
    · exact ih
    · rfl
theorem accB_snoc (l : List Tk) (t : Tk) : accB (l ++ [t]) = if numL l = 0 then accB l ++ tkBytes t else accB l := by
  induction l with
  | nil =>
    simp only [List.nil_append, numL, accB, if_true]
    split
    · simp
    · rename_i h
      rw [tkBytes_bad h]
  | cons a l ih =>
    simp only [List.cons_append, numL, accB]
    split
    · rw [ih]
      split <;> simp
    · rfl
theorem accB_length (l : List Tk) : (accB l).length ≤ 600 * l.length := by
  induction l with
  | nil => simp [accB]
  | cons a l ih =>
    have := tkBytes_length a
    simp only [accB]
    split <;> simp only [List.length_append, List.length_cons, List.length_nil] <;> omega
/-- From the first error on it stays. -/
theorem numL_stays {l : List Tk} {k : Nat} (h : numL (l.take k) ≠ 0) : numL l = numL (l.take k) := by
  induction l generalizing k with
  | nil => simp
  | cons a l ih =>
    cases k with
    | zero => simp [numL] at h
    | succ k =>
      simp only [List.take_succ_cons, numL] at h ⊢
      split
      · rename_i h0
        rw [if_pos h0] at h
        exact ih h
      · rfl
theorem feeds_all : ∀ (l : List Tk), numL l = 0 → feeds .zero (accB l) = (l.map canon, .zero)
  | [], _ => rfl
  | t :: l, h => by
    simp only [numL] at h
    by_cases h0 : tkNum t = 0
    · rw [if_pos h0] at h
      simp only [accB]
      rw [if_pos h0, tkBytes_good h0, feeds_append, feeds_tk t h0, feeds_all l h]
      rfl
    · rw [if_neg h0] at h
      exact absurd h h0
theorem tk_kinds {t : Tk} (h : tkNum t = 0) : t.kind = 1 ∨ t.kind = 2 ∨ t.kind = 3 ∨ t.kind = 4 := by
  unfold tkNum at h
  by_cases h1 : t.kind = 1
  · exact .inl h1
  · by_cases h2 : t.kind = 2
    · exact .inr (.inl h2)
    · by_cases h3 : t.kind = 3
      · exact .inr (.inr (.inl h3))
      · by_cases h4 : t.kind = 4
        · exact .inr (.inr (.inr h4))
        · rw [if_neg h1, if_neg h2, if_neg h3, if_neg h4] at h
          omega
theorem numL_all : ∀ {l : List Tk}, numL l = 0 → ∀ t ∈ l, tkNum t = 0
  | [], _, t, ht => by cases ht
  | a :: l, h, t, ht => by
    simp only [numL] at h
    by_cases h0 : tkNum a = 0
    · rw [if_pos h0] at h
      rcases List.mem_cons.1 ht with rfl | ht
      · exact h0
      · exact numL_all h t ht
    · rw [if_neg h0] at h
      exact absurd h h0
end Go.Proofs.YtelmfncdamakfaaDoor
