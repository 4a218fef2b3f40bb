/- Telnet's tokens, as plain functions: a machine that reads bytes, and what is told of a row of them; the document's own way, each token cut off the front; both are one. -/
import Derived.Test.YtelmfncdamakfaaInfo
namespace Go.Proofs.Ytelmfncdamakfaa

/-- A token. -/
structure Tk where
  kind : Int
  code : Int
  opt : Int
  body : List UInt8
  cut : Bool
deriving DecidableEq
def Tk.none : Tk := ⟨0, 0, 0, [], false⟩
/-- A machine. -/
structure Ms where
  st : Nat
  verb : Int
  opt : Int
  body : List UInt8
  cut : Bool
deriving DecidableEq
def Ms.zero : Ms := ⟨0, 0, 0, [], false⟩

def Ms.keep (m : Ms) (c : UInt8) : Ms := if m.body.length = 256 then { m with cut := true } else { m with body := m.body ++ [c] }
def Ms.to (m : Ms) (s : Nat) : Ms := { m with st := s }
/-- One byte. -/
def feed (m : Ms) (c : UInt8) : Ms × Option Tk :=
  match m.st with
  | 1 =>
    if c.toNat = 255 then (.zero, some ⟨1, 255, 0, [], false⟩)
    else if c.toNat = 250 then (m.to 3, .none)
    else if 251 ≤ c.toNat ∧ c.toNat ≤ 254 then ({ m with verb := (c.toNat : Int) }.to 2, .none)
    else (.zero, some ⟨2, (c.toNat : Int), 0, [], false⟩)
  | 2 => (.zero, some ⟨3, m.verb, (c.toNat : Int), [], false⟩)
  | 3 => ({ m with opt := (c.toNat : Int) }.to 4, .none)
  | 4 => if c.toNat = 255 then (m.to 5, .none) else ((m.keep c).to 4, .none)
  | 5 =>
    if c.toNat = 255 then ((m.keep c).to 4, .none)
    else if c.toNat = 240 then (.zero, some ⟨4, 0, m.opt, m.body, m.cut⟩)
    else (.zero, some ⟨5, (c.toNat : Int), m.opt, [], false⟩)
  | _ => if c.toNat = 255 then (m.to 1, .none) else (.zero, some ⟨1, (c.toNat : Int), 0, [], false⟩)

/-- What is told of bytes, and where the machine stands then. -/
def feeds : Ms → List UInt8 → List Tk × Ms
  | m, [] => ([], m)
  | m, c :: l => ((feed m c).2.toList ++ (feeds (feed m c).1 l).1, (feeds (feed m c).1 l).2)
theorem feeds_append (m : Ms) (a b : List UInt8) : feeds m (a ++ b) = ((feeds m a).1 ++ (feeds (feeds m a).2 b).1, (feeds (feeds m a).2 b).2) := by
  induction a generalizing m with
  | nil => simp [feeds]
  | cons c a ih => simp [feeds, ih]
theorem feeds_one (m : Ms) (c : UInt8) : feeds m [c] = ((feed m c).2.toList, (feed m c).1) := by simp [feeds]
theorem feeds_length (m : Ms) (l : List UInt8) : (feeds m l).1.length ≤ l.length := by
  induction l generalizing m with
  | nil => simp [feeds]
  | cons c l ih =>
    simp only [feeds, List.length_append, List.length_cons]
    have h1 := ih (feed m c).1
    have h2 : (feed m c).2.toList.length ≤ 1 := by cases (feed m c).2 <;> simp
    omega

/-- Such a machine as there is. -/
structure Ms.Ok (m : Ms) : Prop where
  st : m.st ≤ 5
  body : m.body.length ≤ 256
  idle : m.st = 0 → m = Ms.zero
theorem Ms.zero_ok : Ms.zero.Ok := ⟨by decide, by decide, fun _ => rfl⟩
theorem Ms.keep_body (m : Ms) (c : UInt8) (h : m.body.length ≤ 256) : (m.keep c).body.length ≤ 256 := by
  unfold Ms.keep
  split
  · exact h
  · simp only [List.length_append, List.length_singleton]
    omega
theorem feed_ok {m : Ms} (h : m.Ok) (c : UInt8) : (feed m c).1.Ok ∧ ((feed m c).1.st = 0 ↔ (feed m c).2.isSome = true) ∧ ∀ t, (feed m c).2 = some t → t.body.length ≤ 256 := by
  have h1 := h.body
  have h2 := Ms.keep_body m c h1
  unfold feed
  split
  all_goals
    repeat' split
    all_goals
      refine ⟨⟨?_, ?_, ?_⟩, ?_, ?_⟩ <;> simp_all [Ms.to, Ms.zero]
      all_goals (try (intro t ht; subst ht; simp; done))
      all_goals (try (intro t ht; subst ht; exact h1))
theorem feeds_ok {m : Ms} (h : m.Ok) (l : List UInt8) : (feeds m l).2.Ok ∧ ∀ t ∈ (feeds m l).1, t.body.length ≤ 256 := by
  induction l generalizing m with
  | nil => exact ⟨h, fun t ht => by cases ht⟩
  | cons c l ih =>
    obtain ⟨h1, h2, h3⟩ := feed_ok h c
    obtain ⟨h4, h5⟩ := ih h1
    refine ⟨h4, fun t ht => ?_⟩
    simp only [feeds, List.mem_append] at ht
    rcases ht with ht | ht
    · exact h3 t (by simpa using ht)
    · exact h5 t ht

/-! The document's own way. -/
def subGo (o : Int) : List UInt8 → Nat → List UInt8 → Option (Tk × Nat)
  | _, _, [] => .none
  | full, at_, [x] => if x.toNat = 255 then .none else subGo o (full ++ [x]) (at_ + 1) []
  | full, at_, x :: c :: l =>
    if x.toNat = 255 then
      if c.toNat = 255 then subGo o (full ++ [255]) (at_ + 2) l
      else if c.toNat = 240 then some (⟨4, 0, o, full.take 256, decide (256 < full.length)⟩, at_ + 2)
      else some (⟨5, (c.toNat : Int), o, [], false⟩, at_ + 2)
    else subGo o (full ++ [x]) (at_ + 1) (c :: l)
/-- The token with which bytes begin, and how many it has. -/
def next : List UInt8 → Option (Tk × Nat)
  | [] => .none
  | c :: l =>
    if c.toNat ≠ 255 then some (⟨1, (c.toNat : Int), 0, [], false⟩, 1)
    else match l with
      | [] => .none
      | d :: l =>
        if d.toNat = 255 then some (⟨1, 255, 0, [], false⟩, 2)
        else if d.toNat < 250 then some (⟨2, (d.toNat : Int), 0, [], false⟩, 2)
        else match l with
          | [] => .none
          | e :: l => if 250 < d.toNat then some (⟨3, (d.toNat : Int), (e.toNat : Int), [], false⟩, 3) else subGo (e.toNat : Int) [] 3 l

theorem subGo_plain (o : Int) (full : List UInt8) (n : Nat) (x : UInt8) (hx : x.toNat ≠ 255) (l : List UInt8) : subGo o full n (x :: l) = subGo o (full ++ [x]) (n + 1) l := by
  cases l with
  | nil => simp [subGo, hx]
  | cons c l => rw [subGo, if_neg hx]
theorem subGo_two (o : Int) (full : List UInt8) (n : Nat) (x c : UInt8) (hx : x.toNat = 255) (hc : c.toNat = 255) (l : List UInt8) : subGo o full n (x :: c :: l) = subGo o (full ++ [c]) (n + 2) l := by
  rw [subGo, if_pos hx, if_pos hc]
  obtain rfl : c = 255 := UInt8.toNat_inj.1 hc
  rfl
/-- So many bytes of a body stand for so many. -/
def Enc (s full : List UInt8) : Prop := ∀ (o : Int) (f : List UInt8) (n : Nat) (l : List UInt8), subGo o f n (s ++ l) = subGo o (f ++ full) (n + s.length) l
theorem Enc.nil : Enc [] [] := fun o f n l => by simp
theorem Enc.plain {s full : List UInt8} (h : Enc s full) {x : UInt8} (hx : x.toNat ≠ 255) : Enc (s ++ [x]) (full ++ [x]) := fun o f n l => by
  rw [List.append_assoc, h, List.singleton_append, subGo_plain _ _ _ _ hx, List.append_assoc, List.length_append]
  rfl
theorem Enc.two {s full : List UInt8} (h : Enc s full) {x c : UInt8} (hx : x.toNat = 255) (hc : c.toNat = 255) : Enc (s ++ [x] ++ [c]) (full ++ [c]) := fun o f n l => by
  rw [List.append_assoc, List.append_assoc, h, List.singleton_append, List.singleton_append, subGo_two _ _ _ _ _ hx hc, List.append_assoc]
  simp only [List.length_append, List.length_singleton]
  rfl

/-- What was read since the last token, and where the machine stands behind it. -/
def Pend (r : List UInt8) (m : Ms) : Prop :=
  (r = [] ∧ m = .zero) ∨ (∃ c : UInt8, r = [c] ∧ c.toNat = 255 ∧ m = ⟨1, 0, 0, [], false⟩)
  ∨ (∃ c d : UInt8, r = [c, d] ∧ c.toNat = 255 ∧ 251 ≤ d.toNat ∧ d.toNat ≤ 254 ∧ m = ⟨2, (d.toNat : Int), 0, [], false⟩)
  ∨ (∃ c d : UInt8, r = [c, d] ∧ c.toNat = 255 ∧ d.toNat = 250 ∧ m = ⟨3, 0, 0, [], false⟩)
  ∨ (∃ (c d e : UInt8) (s full : List UInt8), r = c :: d :: e :: s ∧ c.toNat = 255 ∧ d.toNat = 250 ∧ Enc s full ∧ m = ⟨4, 0, (e.toNat : Int), full.take 256, decide (256 < full.length)⟩)
  ∨ (∃ (c d e x : UInt8) (s full : List UInt8), r = c :: d :: e :: (s ++ [x]) ∧ c.toNat = 255 ∧ d.toNat = 250 ∧ x.toNat = 255 ∧ Enc s full ∧ m = ⟨5, 0, (e.toNat : Int), full.take 256, decide (256 < full.length)⟩)
theorem Pend.idle {r : List UInt8} {m : Ms} (h : Pend r m) : m.st = 0 ↔ r = [] := by
  rcases h with ⟨rfl, rfl⟩ | ⟨c, rfl, _, rfl⟩ | ⟨c, d, rfl, _, _, _, rfl⟩ | ⟨c, d, rfl, _, _, rfl⟩ | ⟨c, d, e, s, full, rfl, _, _, _, rfl⟩ | ⟨c, d, e, x, s, full, rfl, _, _, _, _, rfl⟩ <;> simp [Ms.zero]
theorem next_sub (c d e : UInt8) (l : List UInt8) (hc : c.toNat = 255) (hd : d.toNat = 250) : next (c :: d :: e :: l) = subGo (e.toNat : Int) [] 3 l := by
  simp [next, hc, hd]
theorem Pend.none {r : List UInt8} {m : Ms} (h : Pend r m) : next r = .none := by
  rcases h with ⟨rfl, rfl⟩ | ⟨c, rfl, h1, rfl⟩ | ⟨c, d, rfl, h1, h2, h3, rfl⟩ | ⟨c, d, rfl, h1, h2, rfl⟩ | ⟨c, d, e, s, full, rfl, h1, h2, h3, rfl⟩ | ⟨c, d, e, x, s, full, rfl, h1, h2, h4, h3, rfl⟩
  · rfl
  · simp [next, h1]
  · have a1 : ¬ d.toNat = 255 := by omega
    have a2 : ¬ d.toNat < 250 := by omega
    simp [next, h1, a1, a2]
  · simp [next, h1, h2]
  · rw [next_sub _ _ _ _ h1 h2]
    have := h3 (e.toNat : Int) [] 3 []
    rw [List.append_nil] at this
    rw [this, subGo]
  · rw [next_sub _ _ _ _ h1 h2, h3, subGo, if_pos h4]
theorem keep_take (full : List UInt8) (a b : Nat) (v o : Int) (x : UInt8) : (Ms.keep ⟨a, v, o, full.take 256, decide (256 < full.length)⟩ x).to b = ⟨b, v, o, (full ++ [x]).take 256, decide (256 < (full ++ [x]).length)⟩ := by
  unfold Ms.keep Ms.to
  simp only [List.length_take, List.length_append, List.length_singleton]
  by_cases h : 256 ≤ full.length
  · rw [if_pos (by omega), List.take_append_of_le_length h]
    congr 1
    simp
    omega
  · rw [if_neg (by omega), List.take_of_length_le (by omega), List.take_of_length_le (by simp; omega)]
    congr 1
    simp
    omega

theorem Pend.step {r : List UInt8} {m : Ms} (h : Pend r m) (c : UInt8) :
    (∃ t, feed m c = (.zero, some t) ∧ ∀ l, next (r ++ c :: l) = some (t, r.length + 1)) ∨ (∃ m', feed m c = (m', .none) ∧ Pend (r ++ [c]) m') := by
  rcases h with ⟨rfl, rfl⟩ | ⟨x, rfl, h1, rfl⟩ | ⟨x, d, rfl, h1, h2, h3, rfl⟩ | ⟨x, d, rfl, h1, h2, rfl⟩ | ⟨x, d, e, s, full, rfl, h1, h2, h3, rfl⟩ | ⟨x, d, e, y, s, full, rfl, h1, h2, h4, h3, rfl⟩
  · by_cases hc : c.toNat = 255
    · exact .inr ⟨_, by simp only [feed, Ms.zero, if_pos hc]; rfl, .inr (.inl ⟨c, rfl, hc, rfl⟩)⟩
    · exact .inl ⟨_, by simp only [feed, Ms.zero, if_neg hc]; rfl, fun l => by simp [next, hc]⟩
  · by_cases hc : c.toNat = 255
    · exact .inl ⟨_, by simp only [feed, if_pos hc]; rfl, fun l => by simp [next, h1, hc]⟩
    · by_cases hc2 : c.toNat = 250
      · exact .inr ⟨_, by simp only [feed, if_neg hc, if_pos hc2]; rfl, .inr (.inr (.inr (.inl ⟨x, c, rfl, h1, hc2, rfl⟩)))⟩
      · by_cases hc3 : 251 ≤ c.toNat ∧ c.toNat ≤ 254
        · exact .inr ⟨_, by simp only [feed, if_neg hc, if_neg hc2, if_pos hc3]; rfl, .inr (.inr (.inl ⟨x, c, rfl, h1, hc3.1, hc3.2, rfl⟩))⟩
        · have hb := c.toNat_lt
          have a2 : c.toNat < 250 := by omega
          exact .inl ⟨_, by simp only [feed, if_neg hc, if_neg hc2, if_neg hc3]; rfl, fun l => by simp [next, h1, hc, a2]⟩
  · have a1 : ¬ d.toNat = 255 := by omega
    have a2 : ¬ d.toNat < 250 := by omega
    have a3 : 250 < d.toNat := by omega
    exact .inl ⟨_, by simp only [feed]; rfl, fun l => by simp [next, h1, a1, a2, a3]⟩
  · exact .inr ⟨_, by simp only [feed]; rfl, .inr (.inr (.inr (.inr (.inl ⟨x, d, c, [], [], rfl, h1, h2, Enc.nil, rfl⟩))))⟩
  · by_cases hc : c.toNat = 255
    · exact .inr ⟨_, by simp only [feed, if_pos hc]; rfl, .inr (.inr (.inr (.inr (.inr ⟨x, d, e, c, s, full, by simp, h1, h2, hc, h3, rfl⟩))))⟩
    · exact .inr ⟨_, by simp only [feed, if_neg hc]; rfl, .inr (.inr (.inr (.inr (.inl ⟨x, d, e, s ++ [c], full ++ [c], by simp, h1, h2, h3.plain hc, keep_take _ _ _ _ _ _⟩))))⟩
  · by_cases hc : c.toNat = 255
    · exact .inr ⟨_, by simp only [feed, if_pos hc]; rfl, .inr (.inr (.inr (.inr (.inl ⟨x, d, e, s ++ [y] ++ [c], full ++ [c], by simp, h1, h2, h3.two h4 hc, keep_take _ _ _ _ _ _⟩))))⟩
    · by_cases hc2 : c.toNat = 240
      · refine .inl ⟨_, by simp only [feed, if_neg hc, if_pos hc2]; rfl, fun l => ?_⟩
        rw [show x :: d :: e :: (s ++ [y]) ++ c :: l = x :: d :: e :: (s ++ (y :: c :: l)) by simp, next_sub _ _ _ _ h1 h2, h3, subGo, if_pos h4, if_neg hc, if_pos hc2]
        simp
        omega
      · refine .inl ⟨_, by simp only [feed, if_neg hc, if_neg hc2]; rfl, fun l => ?_⟩
        rw [show x :: d :: e :: (s ++ [y]) ++ c :: l = x :: d :: e :: (s ++ (y :: c :: l)) by simp, next_sub _ _ _ _ h1 h2, h3, subGo, if_pos h4, if_neg hc, if_neg hc2]
        simp
        omega

theorem pend_all : ∀ (l r : List UInt8) (m : Ms), Pend r m →
    (next (r ++ l) = .none ∧ ∃ m', feeds m l = ([], m') ∧ Pend (r ++ l) m') ∨ (∃ t n, next (r ++ l) = some (t, n) ∧ 0 < n ∧ n ≤ (r ++ l).length ∧ feeds m l = (t :: (feeds .zero ((r ++ l).drop n)).1, (feeds .zero ((r ++ l).drop n)).2))
  | [], r, m, h => .inl ⟨by rw [List.append_nil]; exact h.none, m, rfl, by rw [List.append_nil]; exact h⟩
  | c :: l, r, m, h => by
    rcases h.step c with ⟨t, h1, h2⟩ | ⟨m', h1, h2⟩
    · refine .inr ⟨t, r.length + 1, h2 l, by omega, by simp, ?_⟩
      have e : (r ++ c :: l).drop (r.length + 1) = l := by
        rw [show r ++ c :: l = (r ++ [c]) ++ l by simp, show r.length + 1 = (r ++ [c]).length by simp, List.drop_left]
      rw [e]
      simp [feeds, h1]
    · have := pend_all l (r ++ [c]) m' h2
      rw [List.append_assoc, List.singleton_append] at this
      have e : feeds m (c :: l) = feeds m' l := by simp [feeds, h1]
      rw [e]
      exact this

theorem next_is_none {s : List UInt8} (h : next s = .none) : (feeds .zero s).1 = [] ∧ ((feeds .zero s).2.st = 0 ↔ s = []) := by
  rcases pend_all s [] .zero (.inl ⟨rfl, rfl⟩) with ⟨_, m', h1, h2⟩ | ⟨t, n, h1, _⟩
  · rw [h1]
    exact ⟨rfl, h2.idle⟩
  · rw [List.nil_append, h] at h1
    cases h1
theorem next_is_some {s : List UInt8} {t : Tk} {n : Nat} (h : next s = some (t, n)) : 0 < n ∧ n ≤ s.length ∧ (feeds .zero s).1 = t :: (feeds .zero (s.drop n)).1 ∧ (feeds .zero s).2 = (feeds .zero (s.drop n)).2 := by
  rcases pend_all s [] .zero (.inl ⟨rfl, rfl⟩) with ⟨h1, _⟩ | ⟨t', n', h1, h2, h3, h4⟩
  · rw [List.nil_append, h] at h1
    cases h1
  · rw [List.nil_append, h] at h1
    injection h1 with h1
    injection h1 with ha hb
    subst ha hb
    rw [List.nil_append] at h3 h4
    rw [h4]
    exact ⟨h2, h3, rfl, rfl⟩
end Go.Proofs.Ytelmfncdamakfaa
