/- Several texts in one. -/
import Derived.Test.YtlmkpembccehkaaGreatDoorJInfo
import Derived.Test.YtlmkpembccehkaaGreatDoorJBody
/- Telnet's tokens, as plain functions: a machine that reads bytes, and what is told of a row of them; the document's own way, each token cut off the front; both are one. -/
namespace Go.Proofs.YtlmkpembccehkaaGreatDoor

/-- A token. -/
structure Tk where
  kind : Int
  code : Int
  opt : Int
  body : List UInt8
  cut : Bool
deriving DecidableEq
def Tk.none : Tk := ⟨0, 0, 0, [], false⟩
/-- A machine. -/
structure Ms where
  st : Nat
  verb : Int
  opt : Int
  body : List UInt8
  cut : Bool
deriving DecidableEq
def Ms.zero : Ms := ⟨0, 0, 0, [], false⟩

def Ms.keep (m : Ms) (c : UInt8) : Ms := if m.body.length = 256 then { m with cut := true } else { m with body := m.body ++ [c] }
def Ms.to (m : Ms) (s : Nat) : Ms := { m with st := s }
/-- One byte. -/
def feed (m : Ms) (c : UInt8) : Ms × Option Tk :=
  match m.st with
  | 1 =>
    if c.toNat = 255 then (.zero, some ⟨1, 255, 0, [], false⟩)
    else if c.toNat = 250 then (m.to 3, .none)
    else if 251 ≤ c.toNat ∧ c.toNat ≤ 254 then ({ m with verb := (c.toNat : Int) }.to 2, .none)
    else (.zero, some ⟨2, (c.toNat : Int), 0, [], false⟩)
  | 2 => (.zero, some ⟨3, m.verb, (c.toNat : Int), [], false⟩)
  | 3 => ({ m with opt := (c.toNat : Int) }.to 4, .none)
  | 4 => if c.toNat = 255 then (m.to 5, .none) else ((m.keep c).to 4, .none)
  | 5 =>
    if c.toNat = 255 then ((m.keep c).to 4, .none)
    else if c.toNat = 240 then (.zero, some ⟨4, 0, m.opt, m.body, m.cut⟩)
    else (.zero, some ⟨5, (c.toNat : Int), m.opt, [], false⟩)
  | _ => if c.toNat = 255 then (m.to 1, .none) else (.zero, some ⟨1, (c.toNat : Int), 0, [], false⟩)

/-- What is told of bytes, and where the machine stands then. -/
def feeds : Ms → List UInt8 → List Tk × Ms
  | m, [] => ([], m)
  | m, c :: l => ((feed m c).2.toList ++ (feeds (feed m c).1 l).1, (feeds (feed m c).1 l).2)
theorem feeds_append (m : Ms) (a b : List UInt8) : feeds m (a ++ b) = ((feeds m a).1 ++ (feeds (feeds m a).2 b).1, (feeds (feeds m a).2 b).2) := by
  induction a generalizing m with
  | nil => simp [feeds]
  | cons c a ih => simp [feeds, ih]
theorem feeds_one (m : Ms) (c : UInt8) : feeds m [c] = ((feed m c).2.toList, (feed m c).1) := by simp [feeds]
theorem feeds_length (m : Ms) (l : List UInt8) : (feeds m l).1.length ≤ l.length := by
  induction l generalizing m with
  | nil => simp [feeds]
  | cons c l ih =>
    simp only [feeds, List.length_append, List.length_cons]
    have h1 := ih (feed m c).1
    have h2 : (feed m c).2.toList.length ≤ 1 := by cases (feed m c).2 <;> simp
    omega

/-- Such a machine as there is. -/
structure Ms.Ok (m : Ms) : Prop where
  st : m.st ≤ 5
  body : m.body.length ≤ 256
  idle : m.st = 0 → m = Ms.zero
theorem Ms.zero_ok : Ms.zero.Ok := ⟨by decide, by decide, fun _ => rfl⟩
theorem Ms.keep_body (m : Ms) (c : UInt8) (h : m.body.length ≤ 256) : (m.keep c).body.length ≤ 256 := by
  unfold Ms.keep
  split
  · exact h
  · simp only [List.length_append, List.length_singleton]
    omega
theorem feed_ok {m : Ms} (h : m.Ok) (c : UInt8) : (feed m c).1.Ok ∧ ((feed m c).1.st = 0 ↔ (feed m c).2.isSome = true) ∧ ∀ t, (feed m c).2 = some t → t.body.length ≤ 256 := by
  have h1 := h.body
  have h2 := Ms.keep_body m c h1
  unfold feed
  split
  all_goals
    repeat' split
    all_goals
      refine ⟨⟨?_, ?_, ?_⟩, ?_, ?_⟩ <;> simp_all [Ms.to, Ms.zero]
      all_goals (try (intro t ht; subst ht; simp; done))
      all_goals (try (intro t ht; subst ht; exact h1))
theorem feeds_ok {m : Ms} (h : m.Ok) (l : List UInt8) : (feeds m l).2.Ok ∧ ∀ t ∈ (feeds m l).1, t.body.length ≤ 256 := by
  induction l generalizing m with
  | nil => exact ⟨h, fun t ht => by cases ht⟩
  | cons c l ih =>
    obtain ⟨h1, h2, h3⟩ := feed_ok h c
    obtain ⟨h4, h5⟩ := ih h1
    refine ⟨h4, fun t ht => ?_⟩
    simp only [feeds, List.mem_append] at ht
    rcases ht with ht | ht
    · exact h3 t (by simpa using ht)
    · exact h5 t ht

/-! The document's own way. -/
def subGo (o : Int) : List UInt8 → Nat → List UInt8 → Option (Tk × Nat)
  | _, _, [] => .none
  | full, at_, [x] => if x.toNat = 255 then .none else subGo o (full ++ [x]) (at_ + 1) []
  | full, at_, x :: c :: l =>
    if x.toNat = 255 then
      if c.toNat = 255 then subGo o (full ++ [255]) (at_ + 2) l
      else if c.toNat = 240 then some (⟨4, 0, o, full.take 256, decide (256 < full.length)⟩, at_ + 2)
      else some (⟨5, (c.toNat : Int), o, [], false⟩, at_ + 2)
    else subGo o (full ++ [x]) (at_ + 1) (c :: l)
/-- The token with which bytes begin, and how many it has. -/
def next : List UInt8 → Option (Tk × Nat)
  | [] => .none
  | c :: l =>
    if c.toNat ≠ 255 then some (⟨1, (c.toNat : Int), 0, [], false⟩, 1)
    else match l with
      | [] => .none
      | d :: l =>
        if d.toNat = 255 then some (⟨1, 255, 0, [], false⟩, 2)
        else if d.toNat < 250 then some (⟨2, (d.toNat : Int), 0, [], false⟩, 2)
        else match l with
          | [] => .none
          | e :: l => if 250 < d.toNat then some (⟨3, (d.toNat : Int), (e.toNat : Int), [], false⟩, 3) else subGo (e.toNat : Int) [] 3 l

theorem subGo_plain (o : Int) (full : List UInt8) (n : Nat) (x : UInt8) (hx : x.toNat ≠ 255) (l : List UInt8) : subGo o full n (x :: l) = subGo o (full ++ [x]) (n + 1) l := by
  cases l with
  | nil => simp [subGo, hx]
  | cons c l => rw [subGo, if_neg hx]
theorem subGo_two (o : Int) (full : List UInt8) (n : Nat) (x c : UInt8) (hx : x.toNat = 255) (hc : c.toNat = 255) (l : List UInt8) : subGo o full n (x :: c :: l) = subGo o (full ++ [c]) (n + 2) l := by
  rw [subGo, if_pos hx, if_pos hc]
  obtain rfl : c = 255 := UInt8.toNat_inj.1 hc
  rfl
/-- So many bytes of a body stand for so many. -/
def Enc (s full : List UInt8) : Prop := ∀ (o : Int) (f : List UInt8) (n : Nat) (l : List UInt8), subGo o f n (s ++ l) = subGo o (f ++ full) (n + s.length) l
theorem Enc.nil : Enc [] [] := fun o f n l => by simp
theorem Enc.plain {s full : List UInt8} (h : Enc s full) {x : UInt8} (hx : x.toNat ≠ 255) : Enc (s ++ [x]) (full ++ [x]) := fun o f n l => by
  rw [List.append_assoc, h, List.singleton_append, subGo_plain _ _ _ _ hx, List.append_assoc, List.length_append]
  rfl
theorem Enc.two {s full : List UInt8} (h : Enc s full) {x c : UInt8} (hx : x.toNat = 255) (hc : c.toNat = 255) : Enc (s ++ [x] ++ [c]) (full ++ [c]) := fun o f n l => by
  rw [List.append_assoc, List.append_assoc, h, List.singleton_append, List.singleton_append, subGo_two _ _ _ _ _ hx hc, List.append_assoc]
  simp only [List.length_append, List.length_singleton]
  rfl

/-- What was read since the last token, and where the machine stands behind it. -/
def Pend (r : List UInt8) (m : Ms) : Prop :=
  (r = [] ∧ m = .zero) ∨ (∃ c : UInt8, r = [c] ∧ c.toNat = 255 ∧ m = ⟨1, 0, 0, [], false⟩)
  ∨ (∃ c d : UInt8, r = [c, d] ∧ c.toNat = 255 ∧ 251 ≤ d.toNat ∧ d.toNat ≤ 254 ∧ m = ⟨2, (d.toNat : Int), 0, [], false⟩)
  ∨ (∃ c d : UInt8, r = [c, d] ∧ c.toNat = 255 ∧ d.toNat = 250 ∧ m = ⟨3, 0, 0, [], false⟩)
  ∨ (∃ (c d e : UInt8) (s full : List UInt8), r = c :: d :: e :: s ∧ c.toNat = 255 ∧ d.toNat = 250 ∧ Enc s full ∧ m = ⟨4, 0, (e.toNat : Int), full.take 256, decide (256 < full.length)⟩)
  ∨ (∃ (c d e x : UInt8) (s full : List UInt8), r = c :: d :: e :: (s ++ [x]) ∧ c.toNat = 255 ∧ d.toNat = 250 ∧ x.toNat = 255 ∧ Enc s full ∧ m = ⟨5, 0, (e.toNat : Int), full.take 256, decide (256 < full.length)⟩)
theorem Pend.idle {r : List UInt8} {m : Ms} (h : Pend r m) : m.st = 0 ↔ r = [] := by
  rcases h with ⟨rfl, rfl⟩ | ⟨c, rfl, _, rfl⟩ | ⟨c, d, rfl, _, _, _, rfl⟩ | ⟨c, d, rfl, _, _, rfl⟩ | ⟨c, d, e, s, full, rfl, _, _, _, rfl⟩ | ⟨c, d, e, x, s, full, rfl, _, _, _, _, rfl⟩ <;> simp [Ms.zero]
theorem next_sub (c d e : UInt8) (l : List UInt8) (hc : c.toNat = 255) (hd : d.toNat = 250) : next (c :: d :: e :: l) = subGo (e.toNat : Int) [] 3 l := by
  simp [next, hc, hd]
theorem Pend.none {r : List UInt8} {m : Ms} (h : Pend r m) : next r = .none := by
  rcases h with ⟨rfl, rfl⟩ | ⟨c, rfl, h1, rfl⟩ | ⟨c, d, rfl, h1, h2, h3, rfl⟩ | ⟨c, d, rfl, h1, h2, rfl⟩ | ⟨c, d, e, s, full, rfl, h1, h2, h3, rfl⟩ | ⟨c, d, e, x, s, full, rfl, h1, h2, h4, h3, rfl⟩
  · rfl
  · simp [next, h1]
  · have a1 : ¬ d.toNat = 255 := by omega
    have a2 : ¬ d.toNat < 250 := by omega
    simp [next, h1, a1, a2]
  · simp [next, h1, h2]
  · rw [next_sub _ _ _ _ h1 h2]
    have := h3 (e.toNat : Int) [] 3 []
    rw [List.append_nil] at this
    rw [this, subGo]
  · rw [next_sub _ _ _ _ h1 h2, h3, subGo, if_pos h4]
theorem keep_take (full : List UInt8) (a b : Nat) (v o : Int) (x : UInt8) : (Ms.keep ⟨a, v, o, full.take 256, decide (256 < full.length)⟩ x).to b = ⟨b, v, o, (full ++ [x]).take 256, decide (256 < (full ++ [x]).length)⟩ := by
  unfold Ms.keep Ms.to
  simp only [List.length_take, List.length_append, List.length_singleton]
  by_cases h : 256 ≤ full.length
  · rw [if_pos (by omega), List.take_append_of_le_length h]
    congr 1
    simp
    omega
  · rw [if_neg (by omega), List.take_of_length_le (by omega), List.take_of_length_le (by simp; omega)]
    congr 1
    simp
    omega

theorem Pend.step {r : List UInt8} {m : Ms} (h : Pend r m) (c : UInt8) :
    (∃ t, feed m c = (.zero, some t) ∧ ∀ l, next (r ++ c :: l) = some (t, r.length + 1)) ∨ (∃ m', feed m c = (m', .none) ∧ Pend (r ++ [c]) m') := by
  rcases h with ⟨rfl, rfl⟩ | ⟨x, rfl, h1, rfl⟩ | ⟨x, d, rfl, h1, h2, h3, rfl⟩ | ⟨x, d, rfl, h1, h2, rfl⟩ | ⟨x, d, e, s, full, rfl, h1, h2, h3, rfl⟩ | ⟨x, d, e, y, s, full, rfl, h1, h2, h4, h3, rfl⟩
  · by_cases hc : c.toNat = 255
    · exact .inr ⟨_, by simp only [feed, Ms.zero, if_pos hc]; rfl, .inr (.inl ⟨c, rfl, hc, rfl⟩)⟩
    · exact .inl ⟨_, by simp only [feed, Ms.zero, if_neg hc]; rfl, fun l => by simp [next, hc]⟩
  · by_cases hc : c.toNat = 255
    · exact .inl ⟨_, by simp only [feed, if_pos hc]; rfl, fun l => by simp [next, h1, hc]⟩
    · by_cases hc2 : c.toNat = 250
      · exact .inr ⟨_, by simp only [feed, if_neg hc, if_pos hc2]; rfl, .inr (.inr (.inr (.inl ⟨x, c, rfl, h1, hc2, rfl⟩)))⟩
      · by_cases hc3 : 251 ≤ c.toNat ∧ c.toNat ≤ 254
        · exact .inr ⟨_, by simp only [feed, if_neg hc, if_neg hc2, if_pos hc3]; rfl, .inr (.inr (.inl ⟨x, c, rfl, h1, hc3.1, hc3.2, rfl⟩))⟩
        · have hb := c.toNat_lt
          have a2 : c.toNat < 250 := by omega
          exact .inl ⟨_, by simp only [feed, if_neg hc, if_neg hc2, if_neg hc3]; rfl, fun l => by simp [next, h1, hc, a2]⟩
  · have a1 : ¬ d.toNat = 255 := by omega
    have a2 : ¬ d.toNat < 250 := by omega
    have a3 : 250 < d.toNat := by omega
    exact .inl ⟨_, by simp only [feed]; rfl, fun l => by simp [next, h1, a1, a2, a3]⟩
  · exact .inr ⟨_, by simp only [feed]; rfl, .inr (.inr (.inr (.inr (.inl ⟨x, d, c, [], [], rfl, h1, h2, Enc.nil, rfl⟩))))⟩
  · by_cases hc : c.toNat = 255
    · exact .inr ⟨_, by simp only [feed, if_pos hc]; rfl, .inr (.inr (.inr (.inr (.inr ⟨x, d, e, c, s, full, by simp, h1, h2, hc, h3, rfl⟩))))⟩
    · exact .inr ⟨_, by simp only [feed, if_neg hc]; rfl, .inr (.inr (.inr (.inr (.inl ⟨x, d, e, s ++ [c], full ++ [c], by simp, h1, h2, h3.plain hc, keep_take _ _ _ _ _ _⟩))))⟩
  · by_cases hc : c.toNat = 255
    · exact .inr ⟨_, by simp only [feed, if_pos hc]; rfl, .inr (.inr (.inr (.inr (.inl ⟨x, d, e, s ++ [y] ++ [c], full ++ [c], by simp, h1, h2, h3.two h4 hc, keep_take _ _ _ _ _ _⟩))))⟩
    · by_cases hc2 : c.toNat = 240
      · refine .inl ⟨_, by simp only [feed, if_neg hc, if_pos hc2]; rfl, fun l => ?_⟩
        rw [show x :: d :: e :: (s ++ [y]) ++ c :: l = x :: d :: e :: (s ++ (y :: c :: l)) by simp, next_sub _ _ _ _ h1 h2, h3, subGo, if_pos h4, if_neg hc, if_pos hc2]
        simp
        omega
      · refine .inl ⟨_, by simp only [feed, if_neg hc, if_neg hc2]; rfl, fun l => ?_⟩
        rw [show x :: d :: e :: (s ++ [y]) ++ c :: l = x :: d :: e :: (s ++ (y :: c :: l)) by simp, next_sub _ _ _ _ h1 h2, h3, subGo, if_pos h4, if_neg hc, if_neg hc2]
        simp
        omega

theorem pend_all : ∀ (l r : List UInt8) (m : Ms), Pend r m →
    (next (r ++ l) = .none ∧ ∃ m', feeds m l = ([], m') ∧ Pend (r ++ l) m') ∨ (∃ t n, next (r ++ l) = some (t, n) ∧ 0 < n ∧ n ≤ (r ++ l).length ∧ feeds m l = (t :: (feeds .zero ((r ++ l).drop n)).1, (feeds .zero ((r ++ l).drop n)).2))
  | [], r, m, h => .inl ⟨by rw [List.append_nil]; exact h.none, m, rfl, by rw [List.append_nil]; exact h⟩
  | c :: l, r, m, h => by
    rcases h.step c with ⟨t, h1, h2⟩ | ⟨m', h1, h2⟩
    · refine .inr ⟨t, r.length + 1, h2 l, by omega, by simp, ?_⟩
      have e : (r ++ c :: l).drop (r.length + 1) = l := by
        rw [show r ++ c :: l = (r ++ [c]) ++ l by simp, show r.length + 1 = (r ++ [c]).length by simp, List.drop_left]
      rw [e]
      simp [feeds, h1]
    · have := pend_all l (r ++ [c]) m' h2
      rw [List.append_assoc, List.singleton_append] at this
      have e : feeds m (c :: l) = feeds m' l := by simp [feeds, h1]
      rw [e]
      exact this

theorem next_is_none {s : List UInt8} (h : next s = .none) : (feeds .zero s).1 = [] ∧ ((feeds .zero s).2.st = 0 ↔ s = []) := by
  rcases pend_all s [] .zero (.inl ⟨rfl, rfl⟩) with ⟨_, m', h1, h2⟩ | ⟨t, n, h1, _⟩
  · rw [h1]
    exact ⟨rfl, h2.idle⟩
  · rw [List.nil_append, h] at h1
    cases h1
theorem next_is_some {s : List UInt8} {t : Tk} {n : Nat} (h : next s = some (t, n)) : 0 < n ∧ n ≤ s.length ∧ (feeds .zero s).1 = t :: (feeds .zero (s.drop n)).1 ∧ (feeds .zero s).2 = (feeds .zero (s.drop n)).2 := by
  rcases pend_all s [] .zero (.inl ⟨rfl, rfl⟩) with ⟨h1, _⟩ | ⟨t', n', h1, h2, h3, h4⟩
  · rw [List.nil_append, h] at h1
    cases h1
  · rw [List.nil_append, h] at h1
    injection h1 with h1
    injection h1 with ha hb
    subst ha hb
    rw [List.nil_append] at h3 h4
    rw [h4]
    exact ⟨h2, h3, rfl, rfl⟩
end Go.Proofs.YtlmkpembccehkaaGreatDoor
/- What layer 6 tells of tokens, as plain functions; layer 5 reads of it the same tokens. -/
namespace Go.Proofs.YtlmkpembccehkaaGreatDoor

/-- Bytes, each 255 of them doubled. -/
def dbl : List UInt8 → List UInt8
  | [] => []
  | c :: l => if c.toNat = 255 then c :: c :: dbl l else c :: dbl l
theorem dbl_append (a b : List UInt8) : dbl (a ++ b) = dbl a ++ dbl b := by
  induction a with
  | nil => rfl
  | cons c a ih =>
    simp only [List.cons_append, dbl]
    split <;> simp [ih]
theorem dbl_length (l : List UInt8) : l.length ≤ (dbl l).length ∧ (dbl l).length ≤ 2 * l.length := by
  induction l with
  | nil => simp [dbl]
  | cons c l ih =>
    simp only [dbl]
    split <;> simp only [List.length_cons] <;> omega
theorem dbl_two (l : List UInt8) (x : UInt8) (h : x.toNat = 255) : dbl (l ++ [x]) = dbl l ++ [x] ++ [x] := by
  rw [dbl_append]
  simp [dbl, h]
theorem dbl_one (l : List UInt8) (x : UInt8) (h : x.toNat ≠ 255) : dbl (l ++ [x]) = dbl l ++ [x] := by
  rw [dbl_append]
  simp [dbl, h]
/-- The error that a token's bytes have, by its number. -/
def tkNum (t : Tk) : Nat :=
  if t.kind = 1 then if 0 ≤ t.code ∧ t.code ≤ 255 then 0 else 1
  else if t.kind = 2 then if 241 ≤ t.code ∧ t.code ≤ 249 then 0 else 9
  else if t.kind = 3 then if 251 ≤ t.code ∧ t.code ≤ 254 then (if 0 ≤ t.opt ∧ t.opt ≤ 255 then 0 else 1) else 9
  else if t.kind = 4 then if 0 ≤ t.opt ∧ t.opt ≤ 255 then (if 256 < t.body.length ∨ t.cut = true then 4 else 0) else 1
  else 9
def tkRaw (t : Tk) : List UInt8 :=
  if t.kind = 1 then dbl [b8 t.code]
  else if t.kind = 2 then [255, b8 t.code]
  else if t.kind = 3 then [255, b8 t.code, b8 t.opt]
  else [255, 250, b8 t.opt] ++ dbl t.body ++ [255, 240]
/-- A token's bytes. -/
def tkBytes (t : Tk) : List UInt8 := if tkNum t = 0 then tkRaw t else []
theorem tkBytes_length (t : Tk) : (tkBytes t).length ≤ 600 := by
  unfold tkBytes
  split
  · rename_i h
    unfold tkRaw
    split
    · have := dbl_length [b8 t.code]; simp at this ⊢; omega
    · split
      · simp
      · split
        · simp
        · rename_i h1 h2 h3
          unfold tkNum at h
          rw [if_neg h1, if_neg h2, if_neg h3] at h
          have hb : t.body.length ≤ 256 := by
            split at h
            · split at h
              · split at h
                · omega
                · omega
              · omega
            · omega
          have := dbl_length t.body
          simp only [List.length_append, List.length_cons, List.length_nil]
          omega
  · simp

/-- What of a token its bytes say. -/
def canon (t : Tk) : Tk := ⟨t.kind, if t.kind = 4 then 0 else t.code, if t.kind = 3 ∨ t.kind = 4 then t.opt else 0, if t.kind = 4 then t.body else [], false⟩

theorem feed_keep (s : Nat) (o : Int) (f : List UInt8) (c : UInt8) (hf : f.length < 256) : (Ms.keep ⟨s, 0, o, f, false⟩ c).to 4 = ⟨4, 0, o, f ++ [c], false⟩ := by
  unfold Ms.keep Ms.to
  simp only
  rw [if_neg (by omega)]
theorem feeds_body (o : Int) : ∀ (b f : List UInt8), f.length + b.length ≤ 256 → feeds ⟨4, 0, o, f, false⟩ (dbl b) = ([], ⟨4, 0, o, f ++ b, false⟩)
  | [], f, _ => by simp [dbl, feeds]
  | c :: b, f, h => by
    simp only [List.length_cons] at h
    have ih := feeds_body o b (f ++ [c]) (by simp only [List.length_append, List.length_singleton]; omega)
    rw [List.append_assoc, List.singleton_append] at ih
    simp only [dbl]
    split
    · rename_i hc
      simp only [feeds, feed, if_pos hc]
      have h5 : (Ms.mk 4 0 o f false).to 5 = ⟨5, 0, o, f, false⟩ := rfl
      simp only [h5, feed_keep 5 o f c (by omega), ih]
      rfl
    · rename_i hc
      simp only [feeds, feed, if_neg hc, feed_keep 4 o f c (by omega), ih]
      rfl
theorem feeds_tk (t : Tk) (h : tkNum t = 0) : feeds .zero (tkRaw t) = ([canon t], .zero) := by
  obtain ⟨k, c, o, b, cut⟩ := t
  unfold tkNum at h
  simp only at h
  unfold tkRaw canon
  simp only
  by_cases h1 : k = 1
  · subst h1
    simp only [if_true] at h ⊢
    have hc : 0 ≤ c ∧ c ≤ 255 := by
      split at h
      · assumption
      · omega
    have hb := b8_int hc.1 hc.2
    simp only [dbl]
    split
    · rename_i h5
      simp only [feeds, feed, Ms.zero, Ms.to, if_pos h5]
      have e : c = 255 := by omega
      subst e
      simp
    · rename_i h5
      simp only [feeds, feed, Ms.zero, Ms.to, if_neg h5, hb]
      simp
  · by_cases h2 : k = 2
    · subst h2
      simp only [if_true, if_neg h1] at h ⊢
      have hc : 241 ≤ c ∧ c ≤ 249 := by
        split at h
        · assumption
        · omega
      have hb := b8_int (z := c) (by omega) (by omega)
      have a1 : ¬ (b8 c).toNat = 255 := by omega
      have a2 : ¬ (b8 c).toNat = 250 := by omega
      have a3 : ¬ (251 ≤ (b8 c).toNat ∧ (b8 c).toNat ≤ 254) := by omega
      simp [feeds, feed, Ms.zero, Ms.to, a1, a2, a3, hb]
    · by_cases h3 : k = 3
      · subst h3
        simp only [if_true, if_neg h1, if_neg h2] at h ⊢
        have hc : (251 ≤ c ∧ c ≤ 254) ∧ 0 ≤ o ∧ o ≤ 255 := by
          split at h
          · split at h
            · exact ⟨by assumption, by assumption⟩
            · omega
          · omega
        have hb := b8_int (z := c) (by omega) (by omega)
        have ho := b8_int (z := o) (by omega) (by omega)
        have a1 : ¬ (b8 c).toNat = 255 := by omega
        have a2 : ¬ (b8 c).toNat = 250 := by omega
        have a3 : 251 ≤ (b8 c).toNat ∧ (b8 c).toNat ≤ 254 := by omega
        simp [feeds, feed, Ms.zero, Ms.to, a1, a2, a3, hb, ho]
      · by_cases h4 : k = 4
        · subst h4
          simp only [if_true, if_neg h1, if_neg h2, if_neg h3] at h ⊢
          have hc : (0 ≤ o ∧ o ≤ 255) ∧ ¬ (256 < b.length ∨ cut = true) := by
            split at h
            · split at h
              · omega
              · exact ⟨by assumption, by assumption⟩
            · omega
          have ho := b8_int hc.1.1 hc.1.2
          have hl : ([] : List UInt8).length + b.length ≤ 256 := by simp; omega
          rw [List.append_assoc, feeds_append, feeds_append, show feeds Ms.zero [255, 250, b8 o] = ([], ⟨4, 0, o, [], false⟩) by simp [feeds, feed, Ms.zero, Ms.to, ho], feeds_body o b [] hl]
          simp [feeds, feed, Ms.zero, Ms.to]
        · rw [if_neg h1, if_neg h2, if_neg h3, if_neg h4] at h
          omega

/-- The first error of a list of tokens. -/
def numL : List Tk → Nat
  | [] => 0
  | t :: l => if tkNum t = 0 then numL l else tkNum t
/-- The bytes up to it. -/
def accB : List Tk → List UInt8
  | [] => []
  | t :: l => if tkNum t = 0 then tkBytes t ++ accB l else []
def allB (l : List Tk) : List UInt8 := if numL l = 0 then accB l else []
theorem tkBytes_bad {t : Tk} (h : tkNum t ≠ 0) : tkBytes t = [] := by rw [tkBytes, if_neg h]
theorem tkBytes_good {t : Tk} (h : tkNum t = 0) : tkBytes t = tkRaw t := by rw [tkBytes, if_pos h]
theorem numL_snoc (l : List Tk) (t : Tk) : numL (l ++ [t]) = if numL l = 0 then tkNum t else numL l := by
  induction l with
  | nil => simp only [List.nil_append, numL, if_true]; split <;> simp_all
  | cons a l ih =>
    simp only [List.cons_append, numL]
    split
    · exact ih
    · rfl
theorem accB_snoc (l : List Tk) (t : Tk) : accB (l ++ [t]) = if numL l = 0 then accB l ++ tkBytes t else accB l := by
  induction l with
  | nil =>
    simp only [List.nil_append, numL, accB, if_true]
    split
    · simp
    · rename_i h
      rw [tkBytes_bad h]
  | cons a l ih =>
    simp only [List.cons_append, numL, accB]
    split
    · rw [ih]
      split <;> simp
    · rfl
theorem accB_length (l : List Tk) : (accB l).length ≤ 600 * l.length := by
  induction l with
  | nil => simp [accB]
  | cons a l ih =>
    have := tkBytes_length a
    simp only [accB]
    split <;> simp only [List.length_append, List.length_cons, List.length_nil] <;> omega
/-- From the first error on it stays. -/
theorem numL_stays {l : List Tk} {k : Nat} (h : numL (l.take k) ≠ 0) : numL l = numL (l.take k) := by
  induction l generalizing k with
  | nil => simp
  | cons a l ih =>
    cases k with
    | zero => simp [numL] at h
    | succ k =>
      simp only [List.take_succ_cons, numL] at h ⊢
      split
      · rename_i h0
        rw [if_pos h0] at h
        exact ih h
      · rfl
theorem feeds_all : ∀ (l : List Tk), numL l = 0 → feeds .zero (accB l) = (l.map canon, .zero)
  | [], _ => rfl
  | t :: l, h => by
    simp only [numL] at h
    by_cases h0 : tkNum t = 0
    · rw [if_pos h0] at h
      simp only [accB]
      rw [if_pos h0, tkBytes_good h0, feeds_append, feeds_tk t h0, feeds_all l h]
      rfl
    · rw [if_neg h0] at h
      exact absurd h h0
theorem tk_kinds {t : Tk} (h : tkNum t = 0) : t.kind = 1 ∨ t.kind = 2 ∨ t.kind = 3 ∨ t.kind = 4 := by
  unfold tkNum at h
  by_cases h1 : t.kind = 1
  · exact .inl h1
  · by_cases h2 : t.kind = 2
    · exact .inr (.inl h2)
    · by_cases h3 : t.kind = 3
      · exact .inr (.inr (.inl h3))
      · by_cases h4 : t.kind = 4
        · exact .inr (.inr (.inr h4))
        · rw [if_neg h1, if_neg h2, if_neg h3, if_neg h4] at h
          omega
theorem numL_all : ∀ {l : List Tk}, numL l = 0 → ∀ t ∈ l, tkNum t = 0
  | [], _, t, ht => by cases ht
  | a :: l, h, t, ht => by
    simp only [numL] at h
    by_cases h0 : tkNum a = 0
    · rw [if_pos h0] at h
      rcases List.mem_cons.1 ht with rfl | ht
      · exact h0
      · exact numL_all h t ht
    · rw [if_neg h0] at h
      exact absurd h h0
end Go.Proofs.YtlmkpembccehkaaGreatDoor
/- A token's cells; rows of tokens that the program laid itself. -/
namespace Go.Proofs.YtlmkpembccehkaaGreatDoor
open Go Go.RowKit
set_option maxRecDepth 100000
set_option maxHeartbeats 4000000

/-- A token's cells. -/
def tkCells (t : Tk) (v : Value) : List Value := [.int .i64 t.kind, .int .i64 t.code, .int .i64 t.opt, v, .bool t.cut]
theorem tkCells_length (t : Tk) (v : Value) : (tkCells t v).length = 5 := rfl
theorem size_tok : (Tryz.prog.info? 47).map (·.size) = some 5 := by kernel_rfl
theorem tk_one (t : Tk) (A : Option Addr) (n c : Nat) : ∀ v ∈ tkCells t (.slice A n c), v.oneCell' = true := by
  intro v hv
  simp only [tkCells, List.mem_cons, List.not_mem_nil, or_false] at hv
  rcases hv with rfl | rfl | rfl | rfl | rfl <;> rfl

/-- A token, and where its body lies. -/
structure TkP where
  t : Tk
  ad : Option Addr
  cap : Nat
def TkP.val (x : TkP) : Value := .slice x.ad x.t.body.length x.cap
def TkP.cells (x : TkP) : List Value := tkCells x.t x.val
def flatTk : List TkP → List Value
  | [] => []
  | x :: l => x.cells ++ flatTk l
theorem flatTk_length (l : List TkP) : (flatTk l).length = l.length * 5 := by
  induction l with
  | nil => rfl
  | cons x l ih => simp only [flatTk, List.length_append, ih, List.length_cons, TkP.cells, tkCells_length]; omega
theorem flatTk_append (l k : List TkP) : flatTk (l ++ k) = flatTk l ++ flatTk k := by
  induction l with
  | nil => rfl
  | cons x l ih => simp [flatTk, ih]
theorem flatTk_one (l : List TkP) : ∀ v ∈ flatTk l, v.oneCell' = true := by
  induction l with
  | nil => intro v h; cases h
  | cons x l ih =>
    intro v h
    rcases List.mem_append.1 h with h | h
    · exact tk_one _ _ _ _ v h
    · exact ih v h
theorem flatTk_get : ∀ {l : List TkP} {i : Nat} {x : TkP}, l[i]? = some x → ∀ (j : Nat) (v : Value), x.cells[j]? = some v → (flatTk l)[i * 5 + j]? = some v
  | y :: l, 0, x, h, j, v, hj => by
    simp only [List.getElem?_cons_zero, Option.some.injEq] at h
    subst h
    have hjl := (List.getElem?_eq_some_iff.1 hj).1
    rw [Nat.zero_mul, Nat.zero_add, flatTk, List.getElem?_append_left hjl]
    exact hj
  | y :: l, i + 1, x, h, j, v, hj => by
    have := flatTk_get (l := l) (i := i) (x := x) (by simpa using h) j v hj
    have e : y.cells.length = 5 := rfl
    rw [flatTk, List.getElem?_append_right (by rw [e]; omega), e, show (i + 1) * 5 + j - 5 = i * 5 + j from by omega]
    exact this

theorem TkP.cells_one (x : TkP) : ∀ v ∈ x.cells, v.oneCell' = true := tk_one _ _ _ _
/-- A row of tokens. -/
structure Toks (w : World) (B : Nat) (v : Value) (ps : List TkP) : Prop where
  row : w.ownsRow B 47 5 v ps.length (flatTk ps)
  bodies : ∀ x ∈ ps, Body w B x.val x.t.body
section
variable {w w' : World} {B : Nat} {v : Value} {ps : List TkP}
theorem Toks.nil (w : World) (B : Nat) : Toks w B (.slice none 0 0) [] := ⟨own_nil w B _ _, fun x h => by cases h⟩
/-- What turns is no body and no such row. -/
theorem Toks.only {S : Nat → Prop} (h : Toks w B v ps) (ho : Only S w w') (h1 : ∀ k, v.ownBlock = some k → ¬ S k) (h2 : ∀ x ∈ ps, ∀ k, x.val.ownBlock = some k → ¬ S k) : Toks w' B v ps :=
  ⟨own_only h.row ho h1, fun x hx => own_only (h.bodies x hx) ho (h2 x hx)⟩
theorem Toks.same (h : Toks w B v ps) (ho : Only (fun _ => False) w w') : Toks w' B v ps := h.only ho (fun _ _ h => h) (fun _ _ _ _ h => h)
/-- A block of the call's own that is no body and no such row. -/
theorem Toks.blk {g : Nat} {t : TypeId} {cs : List Value} (h : Toks w B v ps) (ho : Only (· = g) w w') (hb : Blk w g t cs) (h1 : t ≠ 47) (h2 : t ≠ 5) : Toks w' B v ps :=
  h.only ho (own_ne h.row hb (fun e => h1 e.symm)) (fun x hx => own_ne (h.bodies x hx) hb (fun e => h2 e.symm))
theorem Toks.mono {B' : Nat} (h : Toks w B v ps) (hB : B' ≤ B) : Toks w B' v ps := ⟨own_mono h.row hB, fun x hx => own_mono (h.bodies x hx) hB⟩
theorem Toks.form (h : Toks w B v ps) : ∃ A c, v = .slice A ps.length c ∧ ps.length ≤ c ∧ c ≤ 9223372036854775807 := own_form h.row
/-- What lies at a place. -/
theorem Toks.at_ {A : Option Addr} {n c i : Nat} {x : TkP} (h : Toks w B (.slice A n c) ps) (hx : ps[i]? = some x) :
    ∃ g, A = some ⟨g, 0, none⟩ ∧ B ≤ g ∧ g < w.heap.size ∧ w.rangeAt g (i * 5) x.cells ∧ Body w B x.val x.t.body := by
  obtain ⟨A', c', hv, _⟩ := own_form h.row
  injection hv with e1 e2 e3
  subst e1 e2 e3
  have hi := (List.getElem?_eq_some_iff.1 hx).1
  obtain ⟨g, hA, hB, hlt, hc⟩ := own_at h.row (by omega)
  exact ⟨g, hA, hB, hlt, fun j u hj => hc _ _ (flatTk_get hx j u hj), h.bodies x (List.mem_of_getElem? hx)⟩
end

theorem info_tok : (Tryz.prog.info? 47).map (fun i => (i.zero, i.size, i.bytes)) = some (some (.agg #[.int .i64 0, .int .i64 0, .int .i64 0, .slice none 0 0, .bool false]), 5, 56) := by kernel_rfl

/-- []Token{x} -/
theorem step_token {ops : Array Oper} {rest : List Oper} {o : Oper} {a : Act} {w : World} {Q : Exit → Act → World → Prop} (hgd : o.guard = none) (x : Operand) (ho : o.op = .buildSlice 29 1 #[(0, x)]) (cs : List Value) (hx : a.eval x = .agg cs.toArray) (hl : cs.length = 5)
    (h : wpList Tryz.prog ops Q rest (a.put o.dst (.slice (some ⟨w.heap.size, 0, none⟩) 1 1)) (w.alloc (.cells cs.toArray 47))) : wpList Tryz.prog ops Q (o :: rest) a w := by
  obtain ⟨i, hi, hz, h1, h2⟩ := info_parts info_tok
  refine wpList_buildSlice hgd 29 47 1 #[(0, x)] ho cs.toArray i _ Tryz.underlying29 hi hz (by rw [h1]; decide) (by rw [h1]; decide) ?_ h
  rw [h1]
  have := fill_tok [.int .i64 0, .int .i64 0, .int .i64 0, .slice none 0 0, .bool false] rfl cs hl
  simpa [hx, Value.cells] using this

/-- A token more. -/
theorem Toks.more {w w' : World} {B : Nat} {v v' : Value} {ps : List TkP} (h : Toks w B v ps) (x : TkP) (hx : Body w B x.val x.t.body) (hrow : w'.ownsRow B 47 5 v' (ps.length + 1) (flatTk ps ++ x.cells)) (hg : w.grownBy w' v.ownBlock) : Toks w' B v' (ps ++ [x]) := by
  have hne : (5 : Nat) ≠ 47 := by decide
  refine ⟨?_, fun z hz => ?_⟩
  · rw [flatTk_append, List.length_append]
    simpa [flatTk] using hrow
  · rcases List.mem_append.1 hz with hz | hz
    · exact own_kept (h.bodies z hz) h.row hne hg
    · obtain rfl := List.mem_singleton.1 hz
      exact own_kept hx h.row hne hg

/-- A token's five cells. -/
def FiveAt (w : World) (g o : Nat) (t : Tk) (A : Option Addr) (n c : Nat) : Prop :=
  w.cell? ⟨g, o, none⟩ = some (.int .i64 t.kind) ∧ w.cell? ⟨g, o + 1, none⟩ = some (.int .i64 t.code) ∧ w.cell? ⟨g, o + 2, none⟩ = some (.int .i64 t.opt) ∧ w.cell? ⟨g, o + 3, none⟩ = some (.slice A n c) ∧ w.cell? ⟨g, o + 4, none⟩ = some (.bool t.cut)
theorem five_of {w : World} {g o : Nat} {x : TkP} (h : w.rangeAt g o x.cells) : FiveAt w g o x.t x.ad x.t.body.length x.cap :=
  ⟨h 0 _ rfl, h 1 _ rfl, h 2 _ rfl, h 3 _ rfl, h 4 _ rfl⟩
theorem FiveAt.only {S : Nat → Prop} {w w' : World} {g o : Nat} {t : Tk} {A : Option Addr} {n c : Nat} (h : FiveAt w g o t A n c) (ho : Only S w w') (hS : ¬ S g) : FiveAt w' g o t A n c := by
  obtain ⟨h0, h1, h2, h3, h4⟩ := h
  exact ⟨ho.cellv h0 hS, ho.cellv h1 hS, ho.cellv h2 hS, ho.cellv h3 hS, ho.cellv h4 hS⟩
end Go.Proofs.YtlmkpembccehkaaGreatDoor
