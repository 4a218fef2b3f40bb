/- Several texts in one. -/
import Derived.Test.YtbnfhklpobephaaGreatDoorJBase
import Derived.Test.YtbnfhklpobephaaGreatDoorJSnIn
import Derived.Test.YtbnfhklpobephaaGreatDoorJMkOf
import Derived.Test.YtbnfhklpobephaaGreatDoorJHsNew
/- Telnet's tokens, as plain functions: a machine that reads bytes, and what is told of a row of them; the document's own way, each token cut off the front; both are one. -/
namespace Go.Proofs.YtbnfhklpobephaaGreatDoor

/-- A token. -/
structure Tk where
  kind : Int
  code : Int
  opt : Int
  body : List UInt8
  cut : Bool
deriving DecidableEq
def Tk.none : Tk := ⟨0, 0, 0, [], false⟩
/-- A machine. -/
structure Ms where
  st : Nat
  verb : Int
  opt : Int
  body : List UInt8
  cut : Bool
deriving DecidableEq
def Ms.zero : Ms := ⟨0, 0, 0, [], false⟩

def Ms.keep (m : Ms) (c : UInt8) : Ms := if m.body.length = 256 then { m with cut := true } else { m with body := m.body ++ [c] }
def Ms.to (m : Ms) (s : Nat) : Ms := { m with st := s }
/-- One byte. -/
def feed (m : Ms) (c : UInt8) : Ms × Option Tk :=
  match m.st with
  | 1 =>
    if c.toNat = 255 then (.zero, some ⟨1, 255, 0, [], false⟩)
    else if c.toNat = 250 then (m.to 3, .none)
    else if 251 ≤ c.toNat ∧ c.toNat ≤ 254 then ({ m with verb := (c.toNat : Int) }.to 2, .none)
    else (.zero, some ⟨2, (c.toNat : Int), 0, [], false⟩)
  | 2 => (.zero, some ⟨3, m.verb, (c.toNat : Int), [], false⟩)
  | 3 => ({ m with opt := (c.toNat : Int) }.to 4, .none)
  | 4 => if c.toNat = 255 then (m.to 5, .none) else ((m.keep c).to 4, .none)
  | 5 =>
    if c.toNat = 255 then ((m.keep c).to 4, .none)
    else if c.toNat = 240 then (.zero, some ⟨4, 0, m.opt, m.body, m.cut⟩)
    else (.zero, some ⟨5, (c.toNat : Int), m.opt, [], false⟩)
  | _ => if c.toNat = 255 then (m.to 1, .none) else (.zero, some ⟨1, (c.toNat : Int), 0, [], false⟩)

/-- Such a machine as there is. -/
structure Ms.Ok (m : Ms) : Prop where
  st : m.st ≤ 5
  body : m.body.length ≤ 256
  idle : m.st = 0 → m = Ms.zero
theorem Ms.zero_ok : Ms.zero.Ok := ⟨by decide, by decide, fun _ => rfl⟩
theorem Ms.keep_body (m : Ms) (c : UInt8) (h : m.body.length ≤ 256) : (m.keep c).body.length ≤ 256 := by
  unfold Ms.keep
  split
  · exact h
  · simp only [List.length_append, List.length_singleton]
    omega
theorem feed_ok {m : Ms} (h : m.Ok) (c : UInt8) : (feed m c).1.Ok ∧ ((feed m c).1.st = 0 ↔ (feed m c).2.isSome = true) ∧ ∀ t, (feed m c).2 = some t → t.body.length ≤ 256 := by
  have h1 := h.body
  have h2 := Ms.keep_body m c h1
  unfold feed
  split
  all_goals
    repeat' split
    all_goals
      refine ⟨⟨?_, ?_, ?_⟩, ?_, ?_⟩ <;> simp_all [Ms.to, Ms.zero]
      all_goals (try (intro t ht; subst ht; simp; done))
      all_goals (try (intro t ht; subst ht; exact h1))
/-! The document's own way. -/
def subGo (o : Int) : List UInt8 → Nat → List UInt8 → Option (Tk × Nat)
  | _, _, [] => .none
  | full, at_, [x] => if x.toNat = 255 then .none else subGo o (full ++ [x]) (at_ + 1) []
  | full, at_, x :: c :: l =>
    if x.toNat = 255 then
      if c.toNat = 255 then subGo o (full ++ [255]) (at_ + 2) l
      else if c.toNat = 240 then some (⟨4, 0, o, full.take 256, decide (256 < full.length)⟩, at_ + 2)
      else some (⟨5, (c.toNat : Int), o, [], false⟩, at_ + 2)
    else subGo o (full ++ [x]) (at_ + 1) (c :: l)
/-- The token with which bytes begin, and how many it has. -/
def next : List UInt8 → Option (Tk × Nat)
  | [] => .none
  | c :: l =>
    if c.toNat ≠ 255 then some (⟨1, (c.toNat : Int), 0, [], false⟩, 1)
    else match l with
      | [] => .none
      | d :: l =>
        if d.toNat = 255 then some (⟨1, 255, 0, [], false⟩, 2)
        else if d.toNat < 250 then some (⟨2, (d.toNat : Int), 0, [], false⟩, 2)
        else match l with
          | [] => .none
          | e :: l => if 250 < d.toNat then some (⟨3, (d.toNat : Int), (e.toNat : Int), [], false⟩, 3) else subGo (e.toNat : Int) [] 3 l

theorem subGo_plain (o : Int) (full : List UInt8) (n : Nat) (x : UInt8) (hx : x.toNat ≠ 255) (l : List UInt8) : subGo o full n (x :: l) = subGo o (full ++ [x]) (n + 1) l := by
  cases l with
  | nil => simp [subGo, hx]
  | cons c l => rw [subGo, if_neg hx]
theorem subGo_two (o : Int) (full : List UInt8) (n : Nat) (x c : UInt8) (hx : x.toNat = 255) (hc : c.toNat = 255) (l : List UInt8) : subGo o full n (x :: c :: l) = subGo o (full ++ [c]) (n + 2) l := by
  rw [subGo, if_pos hx, if_pos hc]
  obtain rfl : c = 255 := UInt8.toNat_inj.1 hc
  rfl
/-- So many bytes of a body stand for so many. -/
def Enc (s full : List UInt8) : Prop := ∀ (o : Int) (f : List UInt8) (n : Nat) (l : List UInt8), subGo o f n (s ++ l) = subGo o (f ++ full) (n + s.length) l
theorem Enc.nil : Enc [] [] := fun o f n l => by simp
theorem Enc.plain {s full : List UInt8} (h : Enc s full) {x : UInt8} (hx : x.toNat ≠ 255) : Enc (s ++ [x]) (full ++ [x]) := fun o f n l => by
  rw [List.append_assoc, h, List.singleton_append, subGo_plain _ _ _ _ hx, List.append_assoc, List.length_append]
  rfl
theorem Enc.two {s full : List UInt8} (h : Enc s full) {x c : UInt8} (hx : x.toNat = 255) (hc : c.toNat = 255) : Enc (s ++ [x] ++ [c]) (full ++ [c]) := fun o f n l => by
  rw [List.append_assoc, List.append_assoc, h, List.singleton_append, List.singleton_append, subGo_two _ _ _ _ _ hx hc, List.append_assoc]
  simp only [List.length_append, List.length_singleton]
  rfl

/-- What was read since the last token, and where the machine stands behind it. -/
def Pend (r : List UInt8) (m : Ms) : Prop :=
  (r = [] ∧ m = .zero) ∨ (∃ c : UInt8, r = [c] ∧ c.toNat = 255 ∧ m = ⟨1, 0, 0, [], false⟩)
  ∨ (∃ c d : UInt8, r = [c, d] ∧ c.toNat = 255 ∧ 251 ≤ d.toNat ∧ d.toNat ≤ 254 ∧ m = ⟨2, (d.toNat : Int), 0, [], false⟩)
  ∨ (∃ c d : UInt8, r = [c, d] ∧ c.toNat = 255 ∧ d.toNat = 250 ∧ m = ⟨3, 0, 0, [], false⟩)
  ∨ (∃ (c d e : UInt8) (s full : List UInt8), r = c :: d :: e :: s ∧ c.toNat = 255 ∧ d.toNat = 250 ∧ Enc s full ∧ m = ⟨4, 0, (e.toNat : Int), full.take 256, decide (256 < full.length)⟩)
  ∨ (∃ (c d e x : UInt8) (s full : List UInt8), r = c :: d :: e :: (s ++ [x]) ∧ c.toNat = 255 ∧ d.toNat = 250 ∧ x.toNat = 255 ∧ Enc s full ∧ m = ⟨5, 0, (e.toNat : Int), full.take 256, decide (256 < full.length)⟩)
theorem Pend.idle {r : List UInt8} {m : Ms} (h : Pend r m) : m.st = 0 ↔ r = [] := by
  rcases h with ⟨rfl, rfl⟩ | ⟨c, rfl, _, rfl⟩ | ⟨c, d, rfl, _, _, _, rfl⟩ | ⟨c, d, rfl, _, _, rfl⟩ | ⟨c, d, e, s, full, rfl, _, _, _, rfl⟩ | ⟨c, d, e, x, s, full, rfl, _, _, _, _, rfl⟩ <;> simp [Ms.zero]
theorem next_sub (c d e : UInt8) (l : List UInt8) (hc : c.toNat = 255) (hd : d.toNat = 250) : next (c :: d :: e :: l) = subGo (e.toNat : Int) [] 3 l := by
  simp [next, hc, hd]
theorem Pend.none {r : List UInt8} {m : Ms} (h : Pend r m) : next r = .none := by
  rcases h with ⟨rfl, rfl⟩ | ⟨c, rfl, h1, rfl⟩ | ⟨c, d, rfl, h1, h2, h3, rfl⟩ | ⟨c, d, rfl, h1, h2, rfl⟩ | ⟨c, d, e, s, full, rfl, h1, h2, h3, rfl⟩ | ⟨c, d, e, x, s, full, rfl, h1, h2, h4, h3, rfl⟩
  · rfl
  · simp [next, h1]
  · have a1 : ¬ d.toNat = 255 := by omega
    have a2 : ¬ d.toNat < 250 := by omega
    simp [next, h1, a1, a2]
  · simp [next, h1, h2]
  · rw [next_sub _ _ _ _ h1 h2]
    have := h3 (e.toNat : Int) [] 3 []
    rw [List.append_nil] at this
    rw [this, subGo]
  · rw [next_sub _ _ _ _ h1 h2, h3, subGo, if_pos h4]
theorem keep_take (full : List UInt8) (a b : Nat) (v o : Int) (x : UInt8) : (Ms.keep ⟨a, v, o, full.take 256, decide (256 < full.length)⟩ x).to b = ⟨b, v, o, (full ++ [x]).take 256, decide (256 < (full ++ [x]).length)⟩ := by
  unfold Ms.keep Ms.to
  simp only [List.length_take, List.length_append, List.length_singleton]
  by_cases h : 256 ≤ full.length
  · rw [if_pos (by omega), List.take_append_of_le_length h]
    congr 1
    simp
    omega
  · rw [if_neg (by omega), List.take_of_length_le (by omega), List.take_of_length_le (by simp; omega)]
    congr 1
    simp
    omega

theorem Pend.step {r : List UInt8} {m : Ms} (h : Pend r m) (c : UInt8) :
    (∃ t, feed m c = (.zero, some t) ∧ ∀ l, next (r ++ c :: l) = some (t, r.length + 1)) ∨ (∃ m', feed m c = (m', .none) ∧ Pend (r ++ [c]) m') := by
  rcases h with ⟨rfl, rfl⟩ | ⟨x, rfl, h1, rfl⟩ | ⟨x, d, rfl, h1, h2, h3, rfl⟩ | ⟨x, d, rfl, h1, h2, rfl⟩ | ⟨x, d, e, s, full, rfl, h1, h2, h3, rfl⟩ | ⟨x, d, e, y, s, full, rfl, h1, h2, h4, h3, rfl⟩
  · by_cases hc : c.toNat = 255
    · exact .inr ⟨_, by simp only [feed, Ms.zero, if_pos hc]; rfl, .inr (.inl ⟨c, rfl, hc, rfl⟩)⟩
    · exact .inl ⟨_, by simp only [feed, Ms.zero, if_neg hc]; rfl, fun l => by simp [next, hc]⟩
  · by_cases hc : c.toNat = 255
    · exact .inl ⟨_, by simp only [feed, if_pos hc]; rfl, fun l => by simp [next, h1, hc]⟩
    · by_cases hc2 : c.toNat = 250
      · exact .inr ⟨_, by simp only [feed, if_neg hc, if_pos hc2]; rfl, .inr (.inr (.inr (.inl ⟨x, c, rfl, h1, hc2, rfl⟩)))⟩
      · by_cases hc3 : 251 ≤ c.toNat ∧ c.toNat ≤ 254
        · exact .inr ⟨_, by simp only [feed, if_neg hc, if_neg hc2, if_pos hc3]; rfl, .inr (.inr (.inl ⟨x, c, rfl, h1, hc3.1, hc3.2, rfl⟩))⟩
        · have hb := c.toNat_lt
          have a2 : c.toNat < 250 := by omega
          exact .inl ⟨_, by simp only [feed, if_neg hc, if_neg hc2, if_neg hc3]; rfl, fun l => by simp [next, h1, hc, a2]⟩
  · have a1 : ¬ d.toNat = 255 := by omega
    have a2 : ¬ d.toNat < 250 := by omega
    have a3 : 250 < d.toNat := by omega
    exact .inl ⟨_, by simp only [feed]; rfl, fun l => by simp [next, h1, a1, a2, a3]⟩
  · exact .inr ⟨_, by simp only [feed]; rfl, .inr (.inr (.inr (.inr (.inl ⟨x, d, c, [], [], rfl, h1, h2, Enc.nil, rfl⟩))))⟩
  · by_cases hc : c.toNat = 255
    · exact .inr ⟨_, by simp only [feed, if_pos hc]; rfl, .inr (.inr (.inr (.inr (.inr ⟨x, d, e, c, s, full, by simp, h1, h2, hc, h3, rfl⟩))))⟩
    · exact .inr ⟨_, by simp only [feed, if_neg hc]; rfl, .inr (.inr (.inr (.inr (.inl ⟨x, d, e, s ++ [c], full ++ [c], by simp, h1, h2, h3.plain hc, keep_take _ _ _ _ _ _⟩))))⟩
  · by_cases hc : c.toNat = 255
    · exact .inr ⟨_, by simp only [feed, if_pos hc]; rfl, .inr (.inr (.inr (.inr (.inl ⟨x, d, e, s ++ [y] ++ [c], full ++ [c], by simp, h1, h2, h3.two h4 hc, keep_take _ _ _ _ _ _⟩))))⟩
    · by_cases hc2 : c.toNat = 240
      · refine .inl ⟨_, by simp only [feed, if_neg hc, if_pos hc2]; rfl, fun l => ?_⟩
        rw [show x :: d :: e :: (s ++ [y]) ++ c :: l = x :: d :: e :: (s ++ (y :: c :: l)) by simp, next_sub _ _ _ _ h1 h2, h3, subGo, if_pos h4, if_neg hc, if_pos hc2]
        simp
        omega
      · refine .inl ⟨_, by simp only [feed, if_neg hc, if_neg hc2]; rfl, fun l => ?_⟩
        rw [show x :: d :: e :: (s ++ [y]) ++ c :: l = x :: d :: e :: (s ++ (y :: c :: l)) by simp, next_sub _ _ _ _ h1 h2, h3, subGo, if_pos h4, if_neg hc, if_neg hc2]
        simp
        omega

end Go.Proofs.YtbnfhklpobephaaGreatDoor
/- Layer 8 as plain functions: what goes out, what comes in, and that it is what it was. -/
namespace Go.Proofs.YtbnfhklpobephaaGreatDoor

/-- What goes out. -/
def out8 (raw : Bool) : List UInt8 → List UInt8
  | [] => []
  | x :: l => (if x.toNat = 13 ∧ raw = false ∧ (l.head?.map UInt8.toNat) ≠ some 10 then [x, 0] else [x]) ++ out8 raw l
theorem out8_le (raw : Bool) : ∀ l, (out8 raw l).length ≤ 2 * l.length
  | [] => by simp [out8]
  | x :: l => by
    have := out8_le raw l
    simp only [out8, List.length_append, List.length_cons]
    split <;> simp <;> omega

/-- Behind each 13 stands a 0 or a 10. -/
def Ends8 (l : List UInt8) : Prop := ∀ (i : Nat) (x : UInt8), l[i]? = some x → x.toNat = 13 → ∃ y, l[i + 1]? = some y ∧ (y.toNat = 0 ∨ y.toNat = 10)
theorem Ends8.nil : Ends8 [] := fun i x h => by simp at h
theorem Ends8.append {a b : List UInt8} (ha : Ends8 a) (hb : Ends8 b) : Ends8 (a ++ b) := by
  intro i x hx h13
  rw [List.getElem?_append] at hx
  split at hx
  · obtain ⟨y, hy, h⟩ := ha i x hx h13
    exact ⟨y, by rw [List.getElem?_append_left (List.getElem?_eq_some_iff.1 hy).1]; exact hy, h⟩
  · obtain ⟨y, hy, h⟩ := hb _ x hx h13
    exact ⟨y, by rw [List.getElem?_append_right (by omega), show i + 1 - a.length = i - a.length + 1 from by omega]; exact hy, h⟩
end Go.Proofs.YtbnfhklpobephaaGreatDoor
/- Layer 9 as plain functions: bytes with marks, raw or not, through the tokens' machine; the document's own way, of all tokens with their places; both are one. -/
namespace Go.Proofs.YtbnfhklpobephaaGreatDoor

/-- A byte that comes in. -/
structure Bt where
  c : UInt8
  mark : Bool
  raw : Bool
/-- A cleaner. -/
structure Cl where
  m : Ms
  deaf : Bool
  bh : Bool
def Cl.zero : Cl := ⟨.zero, false, false⟩
def isDM (t : Tk) : Bool := decide (t.kind = 2) && decide (t.code = 242)
def isData (t : Tk) : Bool := decide (t.kind = 1)
/-- Does a token stay? -/
def stays9 (deaf bh raw : Bool) (t : Tk) : Bool := !isData t || (!deaf && !(bh && decide (t.code = 0) && !raw))
/-- Would a 0 be left out behind it? -/
def behind9 (deaf bh raw : Bool) (t : Tk) : Bool := if isData t && !deaf then decide (t.code = 13) && !raw else bh
/-- One byte. -/
def feed9 (k : Cl) (x : Bt) : Cl × Option Tk :=
  match feed k.m x.c with
  | (m, .none) => (⟨m, k.deaf || x.mark, k.bh⟩, .none)
  | (m, some t) =>
    let deaf := (k.deaf || x.mark) && !isDM t
    (⟨m, deaf, behind9 deaf k.bh x.raw t⟩, if stays9 deaf k.bh x.raw t then some t else .none)
end Go.Proofs.YtbnfhklpobephaaGreatDoor
/- What layer 6 tells of tokens, as plain functions; layer 5 reads of it the same tokens. -/
namespace Go.Proofs.YtbnfhklpobephaaGreatDoor

/-- Bytes, each 255 of them doubled. -/
def dbl : List UInt8 → List UInt8
  | [] => []
  | c :: l => if c.toNat = 255 then c :: c :: dbl l else c :: dbl l
theorem dbl_append (a b : List UInt8) : dbl (a ++ b) = dbl a ++ dbl b := by
  induction a with
  | nil => rfl
  | cons c a ih =>
    simp only [List.cons_append, dbl]
    split <;> simp [ih]
theorem dbl_length (l : List UInt8) : l.length ≤ (dbl l).length ∧ (dbl l).length ≤ 2 * l.length := by
  induction l with
  | nil => simp [dbl]
  | cons c l ih =>
    simp only [dbl]
    split <;> simp only [List.length_cons] <;> omega
theorem dbl_two (l : List UInt8) (x : UInt8) (h : x.toNat = 255) : dbl (l ++ [x]) = dbl l ++ [x] ++ [x] := by
  rw [dbl_append]
  simp [dbl, h]
theorem dbl_one (l : List UInt8) (x : UInt8) (h : x.toNat ≠ 255) : dbl (l ++ [x]) = dbl l ++ [x] := by
  rw [dbl_append]
  simp [dbl, h]
/-- The error that a token's bytes have, by its number. -/
def tkNum (t : Tk) : Nat :=
  if t.kind = 1 then if 0 ≤ t.code ∧ t.code ≤ 255 then 0 else 1
  else if t.kind = 2 then if 241 ≤ t.code ∧ t.code ≤ 249 then 0 else 9
  else if t.kind = 3 then if 251 ≤ t.code ∧ t.code ≤ 254 then (if 0 ≤ t.opt ∧ t.opt ≤ 255 then 0 else 1) else 9
  else if t.kind = 4 then if 0 ≤ t.opt ∧ t.opt ≤ 255 then (if 256 < t.body.length ∨ t.cut = true then 4 else 0) else 1
  else 9
def tkRaw (t : Tk) : List UInt8 :=
  if t.kind = 1 then dbl [b8 t.code]
  else if t.kind = 2 then [255, b8 t.code]
  else if t.kind = 3 then [255, b8 t.code, b8 t.opt]
  else [255, 250, b8 t.opt] ++ dbl t.body ++ [255, 240]
/-- A token's bytes. -/
def tkBytes (t : Tk) : List UInt8 := if tkNum t = 0 then tkRaw t else []
theorem tkBytes_length (t : Tk) : (tkBytes t).length ≤ 600 := by
  unfold tkBytes
  split
  · rename_i h
    unfold tkRaw
    split
    · have := dbl_length [b8 t.code]; simp at this ⊢; omega
    · split
      · simp
      · split
        · simp
        · rename_i h1 h2 h3
          unfold tkNum at h
          rw [if_neg h1, if_neg h2, if_neg h3] at h
          have hb : t.body.length ≤ 256 := by
            split at h
            · split at h
              · split at h
                · omega
                · omega
              · omega
            · omega
          have := dbl_length t.body
          simp only [List.length_append, List.length_cons, List.length_nil]
          omega
  · simp

theorem tkBytes_bad {t : Tk} (h : tkNum t ≠ 0) : tkBytes t = [] := by rw [tkBytes, if_neg h]
theorem tkBytes_good {t : Tk} (h : tkNum t = 0) : tkBytes t = tkRaw t := by rw [tkBytes, if_pos h]
end Go.Proofs.YtbnfhklpobephaaGreatDoor
/- Layer 20 as plain functions: one end of a connection. -/
namespace Go.Proofs.YtbnfhklpobephaaGreatDoor
open Go Go.RowKit
set_option maxRecDepth 100000

/-- An end. -/
structure Ee where
  k : Cl
  T : Tb
  H : Hs
  out : List (Int × List UInt8)
  heard : Nat
  asked : Nat
  sent : Nat
/-- A note. -/
structure Nt where
  kind : Int
  code : Int
  side : Int
  opt : Int
  on : Bool
deriving DecidableEq
@[reducible] def Nt.cs (x : Nt) : List Value := [.int .i64 x.kind, .int .i64 x.code, .int .i64 x.side, .int .i64 x.opt, .bool x.on]
def Ee.zero (H : Hs) : Ee := ⟨.zero, .zero, H, [], 0, 0, 0⟩
def Ee.on (e : Ee) (s o : Int) : Bool := decide (e.T.get s o = .yes)
/-- Bytes are to be sent, if there are some. -/
def Ee.send (e : Ee) (k : Int) (b : List UInt8) : Ee := if b = [] then e else { e with out := e.out ++ [(k, b)] }
def tk3 (v o : Int) : Tk := ⟨3, v, o, [], false⟩
def tk2 (c : Int) : Tk := ⟨2, c, 0, [], false⟩
def tk4 (o : Int) (b : List UInt8) : Tk := ⟨4, 0, o, b, false⟩
/-- A verb is to be sent, if it is one. -/
def Ee.sendV (e : Ee) (v o : Int) : Ee := if tkNum (tk3 v o) = 0 then ({ e with sent := e.sent + 1 } : Ee).send 3 (tkBytes (tk3 v o)) else e
/-- What a hub tells is to be sent. -/
def Ee.sendS (e : Ee) (o : Int) : Option (List UInt8) → Ee
  | none => e
  | some b => e.send 4 (tkBytes (tk4 o b))
/-- An option has turned. -/
def Ee.turn (e : Ee) (s o : Int) : Ee := ({ e with H := (e.H.turned s o (e.on s o)).2 } : Ee).sendS o (e.H.turned s o (e.on s o)).1
def Ee.turnN (e : Ee) (s o : Int) : Nt := ⟨3, 0, s, o, e.on s o⟩
def Ee.hearMark (e : Ee) (v : Int) : Ee := if v = 253 then e.sendV 251 6 else e
/-- Behind the table's hearing, and the verb that it sends. -/
def Ee.heardT (ag : Nat → Nat → Bool) (e : Ee) (v o : Nat) : Ee := ({ e with heard := e.heard + 1, T := (e.T.hear ag v o).1 } : Ee).sendV (toldV (sideV v) (e.T.hear ag v o).2.2.1) o
def Ee.verbTurns (ag : Nat → Nat → Bool) (e : Ee) (v o : Nat) : Bool := turnedQ (e.T.hear ag v o).2.1 (e.T.st (sideV v) o)
def Ee.hearVerb (ag : Nat → Nat → Bool) (e : Ee) (v o : Nat) : Ee × List Nt :=
  if o = 6 then (({ e with heard := e.heard + 1 } : Ee).hearMark v, [⟨2, v, 0, 0, false⟩])
  else ((if e.verbTurns ag v o then (e.heardT ag v o).turn (sideV v) o else e.heardT ag v o),
    (if e.verbTurns ag v o then [(e.heardT ag v o).turnN (sideV v) o] else []) ++ (if (e.T.hear ag v o).2.2.2 then [⟨4, 0, sideV v, o, false⟩] else []))
def Ee.hearSub (e : Ee) (o : Int) (cut : Bool) (b : List UInt8) : Ee × List Nt :=
  if (e.H.hear e.T 4 o cut b).1 = 0 then (({ e with H := (e.H.hear e.T 4 o cut b).2.2 } : Ee).sendS o (e.H.hear e.T 4 o cut b).2.1, []) else (e, [⟨5, 0, 0, o, false⟩])
/-- A token is heard. -/
def Ee.tok (ag : Nat → Nat → Bool) (e : Ee) (t : Tk) : Ee × List UInt8 × List Nt :=
  if t.kind = 1 then (e, [b8 t.code], [])
  else if t.kind = 2 then (if t.code = 246 then e.send 2 (tkBytes (tk2 241)) else e, [], [⟨1, t.code, 0, 0, false⟩])
  else if t.kind = 3 then ((e.hearVerb ag t.code.toNat t.opt.toNat).1, [], (e.hearVerb ag t.code.toNat t.opt.toNat).2)
  else if t.kind = 4 then ((e.hearSub t.opt t.cut t.body).1, [], (e.hearSub t.opt t.cut t.body).2)
  else (e, [], [⟨5, 0, 0, t.opt, false⟩])
/-- A byte comes. -/
def Ee.feed (ag : Nat → Nat → Bool) (e : Ee) (c : UInt8) (mark : Bool) : Ee × List UInt8 × List Nt :=
  match feed9 e.k ⟨c, mark, e.on 1 0⟩ with
  | (k, none) => ({ e with k := k }, [], [])
  | (k, some t) => ({ e with k := k } : Ee).tok ag t
/-- The number of a table's error. -/
def Tb.askZ (T : Tb) (s o : Int) (on : Bool) : Nat := if ¬ (s = 0 ∨ s = 1) then 9 else if ¬ (0 ≤ o ∧ o ≤ 255) then 1 else if askQ (T.st s.toNat o.toNat) on = none then 10 else 0
/-- Behind the table's asking. -/
def Ee.askedT (e : Ee) (s o : Nat) (on : Bool) : Ee :=
  match e.T.ask s o on with
  | none => e
  | some r => ({ e with T := r.1, asked := e.asked + 1 } : Ee).sendV (toldV s r.2.2) o
def Ee.ask (e : Ee) (s o : Int) (on : Bool) : Nat × Ee × List Nt :=
  if o = 6 then (if s ≠ 1 ∨ on = false then (9, e, []) else (0, ({ e with asked := e.asked + 1 } : Ee).sendV 253 6, []))
  else if e.T.askZ s o on ≠ 0 then (e.T.askZ s o on, e, [])
  else if e.on s o = true ∧ (e.askedT s.toNat o.toNat on).on s o = false then (0, (e.askedT s.toNat o.toNat on).turn s o, [(e.askedT s.toNat o.toNat on).turnN s o])
  else (0, e.askedT s.toNat o.toNat on, [])
def Ee.set (e : Ee) (n : Int) : Nat × Ee := if (e.H.set e.T n).1 = 0 then (0, ({ e with H := (e.H.set e.T n).2.2 } : Ee).sendS 34 (e.H.set e.T n).2.1) else ((e.H.set e.T n).1, e)
def Ee.say (e : Ee) (b : List UInt8) : Ee := e.send 1 (dbl (out8 (e.on 0 0) b))
def Ee.cmd (e : Ee) (c : Int) : Nat × Ee := (tkNum (tk2 c), if tkNum (tk2 c) = 0 then e.send 2 (tkBytes (tk2 c)) else e)
def Ee.take (e : Ee) : Ee := { e with out := [] }
section
variable {e : Ee}
theorem Ee.send_k (k : Int) (b : List UInt8) : (e.send k b).k = e.k := by unfold Ee.send; split <;> rfl
theorem Ee.send_T (k : Int) (b : List UInt8) : (e.send k b).T = e.T := by unfold Ee.send; split <;> rfl
theorem Ee.sendV_T (v o : Int) : (e.sendV v o).T = e.T := by unfold Ee.sendV; split <;> first | exact Ee.send_T .. | rfl
theorem Ee.sendV_k (v o : Int) : (e.sendV v o).k = e.k := by unfold Ee.sendV; split <;> first | exact Ee.send_k .. | rfl
theorem Ee.sendS_T (o : Int) (t : Option (List UInt8)) : (e.sendS o t).T = e.T := by cases t <;> first | rfl | exact Ee.send_T ..
theorem Ee.sendS_k (o : Int) (t : Option (List UInt8)) : (e.sendS o t).k = e.k := by cases t <;> first | rfl | exact Ee.send_k ..
end
end Go.Proofs.YtbnfhklpobephaaGreatDoor
