/- Several texts in one. -/
import Derived.Test.YtbnfhklpobephaaGreatDoorJTbHear
import Derived.Test.YtbnfhklpobephaaGreatDoorKAlloc
import Derived.Test.YtbnfhklpobephaaGreatDoorJHsSay
/- Layer 9 as plain functions: bytes with marks, raw or not, through the tokens' machine; the document's own way, of all tokens with their places; both are one. -/
namespace Go.Proofs.YtbnfhklpobephaaGreatDoor

/-- A byte that comes in. -/
structure Bt where
  c : UInt8
  mark : Bool
  raw : Bool
/-- A cleaner. -/
structure Cl where
  m : Ms
  deaf : Bool
  bh : Bool
def Cl.zero : Cl := ⟨.zero, false, false⟩
def isDM (t : Tk) : Bool := decide (t.kind = 2) && decide (t.code = 242)
def isData (t : Tk) : Bool := decide (t.kind = 1)
/-- Does a token stay? -/
def stays9 (deaf bh raw : Bool) (t : Tk) : Bool := !isData t || (!deaf && !(bh && decide (t.code = 0) && !raw))
/-- Would a 0 be left out behind it? -/
def behind9 (deaf bh raw : Bool) (t : Tk) : Bool := if isData t && !deaf then decide (t.code = 13) && !raw else bh
/-- One byte. -/
def feed9 (k : Cl) (x : Bt) : Cl × Option Tk :=
  match feed k.m x.c with
  | (m, .none) => (⟨m, k.deaf || x.mark, k.bh⟩, .none)
  | (m, some t) =>
    let deaf := (k.deaf || x.mark) && !isDM t
    (⟨m, deaf, behind9 deaf k.bh x.raw t⟩, if stays9 deaf k.bh x.raw t then some t else .none)
/-- What is told of bytes, each at its place, and where the cleaner stands then. -/
def feeds9 : Cl → Nat → List Bt → List (Tk × Nat) × Cl
  | k, _, [] => ([], k)
  | k, p, x :: l => ((feed9 k x).2.toList.map (fun t => (t, p)) ++ (feeds9 (feed9 k x).1 (p + 1) l).1, (feeds9 (feed9 k x).1 (p + 1) l).2)
theorem feeds9_append (k : Cl) (p : Nat) (a b : List Bt) : feeds9 k p (a ++ b) = ((feeds9 k p a).1 ++ (feeds9 (feeds9 k p a).2 (p + a.length) b).1, (feeds9 (feeds9 k p a).2 (p + a.length) b).2) := by
  induction a generalizing k p with
  | nil => simp [feeds9]
  | cons c a ih =>
    simp only [List.cons_append, feeds9, ih, List.length_cons]
    rw [show p + 1 + a.length = p + (a.length + 1) from by omega]
    simp
theorem feeds9_m : ∀ (l : List Bt) (k : Cl) (p : Nat), (feeds9 k p l).2.m = (feeds k.m (l.map Bt.c)).2
  | [], _, _ => rfl
  | x :: l, k, p => by
    have e : (feed9 k x).1.m = (feed k.m x.c).1 := by
      unfold feed9
      cases h : feed k.m x.c with
      | mk m o => cases o <;> rfl
    simp only [feeds9, List.map_cons, feeds]
    rw [feeds9_m l, e]

/-- All tokens, and the place of each one's last byte. -/
def ends9 : Ms → Nat → List UInt8 → List (Tk × Nat)
  | _, _, [] => []
  | m, p, c :: l => (feed m c).2.toList.map (fun t => (t, p)) ++ ends9 (feed m c).1 (p + 1) l
theorem ends9_told : ∀ (l : List UInt8) (m : Ms) (p : Nat), (ends9 m p l).map Prod.fst = (feeds m l).1
  | [], _, _ => rfl
  | c :: l, m, p => by
    simp only [ends9, feeds, List.map_append, ends9_told l]
    congr 1
    cases (feed m c).2 <;> rfl
/-- Is one of so many places marked? -/
def anyIn (l : List Bt) (a b : Nat) : Bool := ((l.take b).drop a).any Bt.mark
def rawAt (l : List Bt) (i : Nat) : Bool := (l[i]?.map Bt.raw).getD false
/-- The document's way: of all tokens with their places. -/
def clean9 (l : List Bt) : Nat → Bool → Bool → List (Tk × Nat) → List (Tk × Nat)
  | _, _, _, [] => []
  | last, deaf, bh, (t, e) :: r =>
    let deaf := (deaf || anyIn l last (e + 1)) && !isDM t
    (if stays9 deaf bh (rawAt l e) t then [(t, e)] else []) ++ clean9 l (e + 1) deaf (behind9 deaf bh (rawAt l e) t) r

theorem anyIn_next {l : List Bt} {a p : Nat} {x : Bt} (hx : l[p]? = some x) (ha : a ≤ p) : anyIn l a (p + 1) = (anyIn l a p || x.mark) := by
  unfold anyIn
  have hp := (List.getElem?_eq_some_iff.1 hx).1
  rw [List.take_add_one, hx, Option.toList_some, List.drop_append_of_le_length (by rw [List.length_take]; omega), List.any_append]
  simp
theorem anyIn_self (l : List Bt) (p : Nat) : anyIn l p p = false := by
  unfold anyIn
  rw [List.drop_eq_nil_of_le (by rw [List.length_take]; omega)]
  rfl
theorem feeds9_clean (l : List Bt) : ∀ (r : List Bt) (p : Nat), l.drop p = r → ∀ (k : Cl) (last : Nat) (deaf : Bool), last ≤ p → k.deaf = (deaf || anyIn l last p) →
    (feeds9 k p r).1 = clean9 l last deaf k.bh (ends9 k.m p (r.map Bt.c))
  | [], p, _, k, last, deaf, _, _ => rfl
  | x :: r, p, hr, k, last, deaf, hlp, hd => by
    have hx : l[p]? = some x := by
      have := congrArg (fun q => q[0]?) hr
      simpa using this
    have hr' : l.drop (p + 1) = r := by
      have := congrArg (List.drop 1) hr
      rw [List.drop_drop] at this
      simpa using this
    have hraw : rawAt l p = x.raw := by unfold rawAt; rw [hx]; rfl
    have hn := anyIn_next hx hlp
    simp only [feeds9, List.map_cons, ends9]
    unfold feed9
    cases h : feed k.m x.c with
    | mk m o =>
      cases o with
      | none =>
        simp only [Option.toList_none, List.map_nil, List.nil_append]
        exact feeds9_clean l r (p + 1) hr' ⟨m, k.deaf || x.mark, k.bh⟩ last deaf (by omega) (by rw [hn, hd, Bool.or_assoc])
      | some t =>
        have e : (k.deaf || x.mark) = (deaf || anyIn l last (p + 1)) := by rw [hn, hd, Bool.or_assoc]
        simp only [Option.toList_some, List.map_cons, List.map_nil, List.singleton_append, clean9]
        rw [hraw, e]
        have ih := feeds9_clean l r (p + 1) hr' ⟨m, (deaf || anyIn l last (p + 1)) && !isDM t, behind9 ((deaf || anyIn l last (p + 1)) && !isDM t) k.bh x.raw t⟩ (p + 1) ((deaf || anyIn l last (p + 1)) && !isDM t) (Nat.le_refl _) (by rw [anyIn_self]; simp)
        rw [ih]
        congr 1
        split <;> rfl
/-- The cleaner's way is the document's. -/
theorem clean_all (l : List Bt) : (feeds9 .zero 0 l).1 = clean9 l 0 false false (ends9 .zero 0 (l.map Bt.c)) :=
  feeds9_clean l l 0 rfl .zero 0 false (Nat.le_refl _) (by rw [anyIn_self]; rfl)
end Go.Proofs.YtbnfhklpobephaaGreatDoor
/- What layer 6 tells of tokens, as plain functions; layer 5 reads of it the same tokens. -/
namespace Go.Proofs.YtbnfhklpobephaaGreatDoor

/-- Bytes, each 255 of them doubled. -/
def dbl : List UInt8 → List UInt8
  | [] => []
  | c :: l => if c.toNat = 255 then c :: c :: dbl l else c :: dbl l
theorem dbl_append (a b : List UInt8) : dbl (a ++ b) = dbl a ++ dbl b := by
  induction a with
  | nil => rfl
  | cons c a ih =>
    simp only [List.cons_append, dbl]
    split <;> simp [ih]
theorem dbl_length (l : List UInt8) : l.length ≤ (dbl l).length ∧ (dbl l).length ≤ 2 * l.length := by
  induction l with
  | nil => simp [dbl]
  | cons c l ih =>
    simp only [dbl]
    split <;> simp only [List.length_cons] <;> omega
theorem dbl_two (l : List UInt8) (x : UInt8) (h : x.toNat = 255) : dbl (l ++ [x]) = dbl l ++ [x] ++ [x] := by
  rw [dbl_append]
  simp [dbl, h]
theorem dbl_one (l : List UInt8) (x : UInt8) (h : x.toNat ≠ 255) : dbl (l ++ [x]) = dbl l ++ [x] := by
  rw [dbl_append]
  simp [dbl, h]
/-- The error that a token's bytes have, by its number. -/
def tkNum (t : Tk) : Nat :=
  if t.kind = 1 then if 0 ≤ t.code ∧ t.code ≤ 255 then 0 else 1
  else if t.kind = 2 then if 241 ≤ t.code ∧ t.code ≤ 249 then 0 else 9
  else if t.kind = 3 then if 251 ≤ t.code ∧ t.code ≤ 254 then (if 0 ≤ t.opt ∧ t.opt ≤ 255 then 0 else 1) else 9
  else if t.kind = 4 then if 0 ≤ t.opt ∧ t.opt ≤ 255 then (if 256 < t.body.length ∨ t.cut = true then 4 else 0) else 1
  else 9
def tkRaw (t : Tk) : List UInt8 :=
  if t.kind = 1 then dbl [b8 t.code]
  else if t.kind = 2 then [255, b8 t.code]
  else if t.kind = 3 then [255, b8 t.code, b8 t.opt]
  else [255, 250, b8 t.opt] ++ dbl t.body ++ [255, 240]
/-- A token's bytes. -/
def tkBytes (t : Tk) : List UInt8 := if tkNum t = 0 then tkRaw t else []
theorem tkBytes_length (t : Tk) : (tkBytes t).length ≤ 600 := by
  unfold tkBytes
  split
  · rename_i h
    unfold tkRaw
    split
    · have := dbl_length [b8 t.code]; simp at this ⊢; omega
    · split
      · simp
      · split
        · simp
        · rename_i h1 h2 h3
          unfold tkNum at h
          rw [if_neg h1, if_neg h2, if_neg h3] at h
          have hb : t.body.length ≤ 256 := by
            split at h
            · split at h
              · split at h
                · omega
                · omega
              · omega
            · omega
          have := dbl_length t.body
          simp only [List.length_append, List.length_cons, List.length_nil]
          omega
  · simp

/-- What of a token its bytes say. -/
def canon (t : Tk) : Tk := ⟨t.kind, if t.kind = 4 then 0 else t.code, if t.kind = 3 ∨ t.kind = 4 then t.opt else 0, if t.kind = 4 then t.body else [], false⟩

theorem feed_keep (s : Nat) (o : Int) (f : List UInt8) (c : UInt8) (hf : f.length < 256) : (Ms.keep ⟨s, 0, o, f, false⟩ c).to 4 = ⟨4, 0, o, f ++ [c], false⟩ := by
  unfold Ms.keep Ms.to
  simp only
  rw [if_neg (by omega)]
theorem feeds_body (o : Int) : ∀ (b f : List UInt8), f.length + b.length ≤ 256 → feeds ⟨4, 0, o, f, false⟩ (dbl b) = ([], ⟨4, 0, o, f ++ b, false⟩)
  | [], f, _ => by simp [dbl, feeds]
  | c :: b, f, h => by
    simp only [List.length_cons] at h
    have ih := feeds_body o b (f ++ [c]) (by simp only [List.length_append, List.length_singleton]; omega)
    rw [List.append_assoc, List.singleton_append] at ih
    simp only [dbl]
    split
    · rename_i hc
      simp only [feeds, feed, if_pos hc]
      have h5 : (Ms.mk 4 0 o f false).to 5 = ⟨5, 0, o, f, false⟩ := rfl
      simp only [h5, feed_keep 5 o f c (by omega), ih]
      rfl
    · rename_i hc
      simp only [feeds, feed, if_neg hc, feed_keep 4 o f c (by omega), ih]
      rfl
theorem feeds_tk (t : Tk) (h : tkNum t = 0) : feeds .zero (tkRaw t) = ([canon t], .zero) := by
  obtain ⟨k, c, o, b, cut⟩ := t
  unfold tkNum at h
  simp only at h
  unfold tkRaw canon
  simp only
  by_cases h1 : k = 1
  · subst h1
    simp only [if_true] at h ⊢
    have hc : 0 ≤ c ∧ c ≤ 255 := by
      split at h
      · assumption
      · omega
    have hb := b8_int hc.1 hc.2
    simp only [dbl]
    split
    · rename_i h5
      simp only [feeds, feed, Ms.zero, Ms.to, if_pos h5]
      have e : c = 255 := by omega
      subst e
      simp
    · rename_i h5
      simp only [feeds, feed, Ms.zero, Ms.to, if_neg h5, hb]
      simp
  · by_cases h2 : k = 2
    · subst h2
      simp only [if_true, if_neg h1] at h ⊢
      have hc : 241 ≤ c ∧ c ≤ 249 := by
        split at h
        · assumption
        · omega
      have hb := b8_int (z := c) (by omega) (by omega)
      have a1 : ¬ (b8 c).toNat = 255 := by omega
      have a2 : ¬ (b8 c).toNat = 250 := by omega
      have a3 : ¬ (251 ≤ (b8 c).toNat ∧ (b8 c).toNat ≤ 254) := by omega
      simp [feeds, feed, Ms.zero, Ms.to, a1, a2, a3, hb]
    · by_cases h3 : k = 3
      · subst h3
        simp only [if_true, if_neg h1, if_neg h2] at h ⊢
        have hc : (251 ≤ c ∧ c ≤ 254) ∧ 0 ≤ o ∧ o ≤ 255 := by
          split at h
          · split at h
            · exact ⟨by assumption, by assumption⟩
            · omega
          · omega
        have hb := b8_int (z := c) (by omega) (by omega)
        have ho := b8_int (z := o) (by omega) (by omega)
        have a1 : ¬ (b8 c).toNat = 255 := by omega
        have a2 : ¬ (b8 c).toNat = 250 := by omega
        have a3 : 251 ≤ (b8 c).toNat ∧ (b8 c).toNat ≤ 254 := by omega
        simp [feeds, feed, Ms.zero, Ms.to, a1, a2, a3, hb, ho]
      · by_cases h4 : k = 4
        · subst h4
          simp only [if_true, if_neg h1, if_neg h2, if_neg h3] at h ⊢
          have hc : (0 ≤ o ∧ o ≤ 255) ∧ ¬ (256 < b.length ∨ cut = true) := by
            split at h
            · split at h
              · omega
              · exact ⟨by assumption, by assumption⟩
            · omega
          have ho := b8_int hc.1.1 hc.1.2
          have hl : ([] : List UInt8).length + b.length ≤ 256 := by simp; omega
          rw [List.append_assoc, feeds_append, feeds_append, show feeds Ms.zero [255, 250, b8 o] = ([], ⟨4, 0, o, [], false⟩) by simp [feeds, feed, Ms.zero, Ms.to, ho], feeds_body o b [] hl]
          simp [feeds, feed, Ms.zero, Ms.to]
        · rw [if_neg h1, if_neg h2, if_neg h3, if_neg h4] at h
          omega

/-- The first error of a list of tokens. -/
def numL : List Tk → Nat
  | [] => 0
  | t :: l => if tkNum t = 0 then numL l else tkNum t
/-- The bytes up to it. -/
def accB : List Tk → List UInt8
  | [] => []
  | t :: l => if tkNum t = 0 then tkBytes t ++ accB l else []
def allB (l : List Tk) : List UInt8 := if numL l = 0 then accB l else []
theorem tkBytes_bad {t : Tk} (h : tkNum t ≠ 0) : tkBytes t = [] := by rw [tkBytes, if_neg h]
theorem tkBytes_good {t : Tk} (h : tkNum t = 0) : tkBytes t = tkRaw t := by rw [tkBytes, if_pos h]
theorem numL_snoc (l : List Tk) (t : Tk) : numL (l ++ [t]) = if numL l = 0 then tkNum t else numL l := by
  induction l with
  | nil => simp only [List.nil_append, numL, if_true]; split <;> simp_all
  | cons a l ih =>
    simp only [List.cons_append, numL]
    split
    · exact ih
    · rfl
theorem accB_snoc (l : List Tk) (t : Tk) : accB (l ++ [t]) = if numL l = 0 then accB l ++ tkBytes t else accB l := by
  induction l with
  | nil =>
    simp only [List.nil_append, numL, accB, if_true]
    split
    · simp
    · rename_i h
      rw [tkBytes_bad h]
  | cons a l ih =>
    simp only [List.cons_append, numL, accB]
    split
    · rw [ih]
      split <;> simp
    · rfl
theorem accB_length (l : List Tk) : (accB l).length ≤ 600 * l.length := by
  induction l with
  | nil => simp [accB]
  | cons a l ih =>
    have := tkBytes_length a
    simp only [accB]
    split <;> simp only [List.length_append, List.length_cons, List.length_nil] <;> omega
/-- From the first error on it stays. -/
theorem numL_stays {l : List Tk} {k : Nat} (h : numL (l.take k) ≠ 0) : numL l = numL (l.take k) := by
  induction l generalizing k with
  | nil => simp
  | cons a l ih =>
    cases k with
    | zero => simp [numL] at h
    | succ k =>
      simp only [List.take_succ_cons, numL] at h ⊢
      split
      · rename_i h0
        rw [if_pos h0] at h
        exact ih h
      · rfl
theorem feeds_all : ∀ (l : List Tk), numL l = 0 → feeds .zero (accB l) = (l.map canon, .zero)
  | [], _ => rfl
  | t :: l, h => by
    simp only [numL] at h
    by_cases h0 : tkNum t = 0
    · rw [if_pos h0] at h
      simp only [accB]
      rw [if_pos h0, tkBytes_good h0, feeds_append, feeds_tk t h0, feeds_all l h]
      rfl
    · rw [if_neg h0] at h
      exact absurd h h0
theorem tk_kinds {t : Tk} (h : tkNum t = 0) : t.kind = 1 ∨ t.kind = 2 ∨ t.kind = 3 ∨ t.kind = 4 := by
  unfold tkNum at h
  by_cases h1 : t.kind = 1
  · exact .inl h1
  · by_cases h2 : t.kind = 2
    · exact .inr (.inl h2)
    · by_cases h3 : t.kind = 3
      · exact .inr (.inr (.inl h3))
      · by_cases h4 : t.kind = 4
        · exact .inr (.inr (.inr h4))
        · rw [if_neg h1, if_neg h2, if_neg h3, if_neg h4] at h
          omega
theorem numL_all : ∀ {l : List Tk}, numL l = 0 → ∀ t ∈ l, tkNum t = 0
  | [], _, t, ht => by cases ht
  | a :: l, h, t, ht => by
    simp only [numL] at h
    by_cases h0 : tkNum a = 0
    · rw [if_pos h0] at h
      rcases List.mem_cons.1 ht with rfl | ht
      · exact h0
      · exact numL_all h t ht
    · rw [if_neg h0] at h
      exact absurd h h0
end Go.Proofs.YtbnfhklpobephaaGreatDoor
/- Layer 20 as plain functions: one end of a connection. -/
namespace Go.Proofs.YtbnfhklpobephaaGreatDoor
open Go Go.RowKit
set_option maxRecDepth 100000

/-- An end. -/
structure Ee where
  k : Cl
  T : Tb
  H : Hs
  out : List (Int × List UInt8)
  heard : Nat
  asked : Nat
  sent : Nat
/-- A note. -/
structure Nt where
  kind : Int
  code : Int
  side : Int
  opt : Int
  on : Bool
deriving DecidableEq
@[reducible] def Nt.cs (x : Nt) : List Value := [.int .i64 x.kind, .int .i64 x.code, .int .i64 x.side, .int .i64 x.opt, .bool x.on]
def Ee.zero (H : Hs) : Ee := ⟨.zero, .zero, H, [], 0, 0, 0⟩
def Ee.on (e : Ee) (s o : Int) : Bool := decide (e.T.get s o = .yes)
/-- Bytes are to be sent, if there are some. -/
def Ee.send (e : Ee) (k : Int) (b : List UInt8) : Ee := if b = [] then e else { e with out := e.out ++ [(k, b)] }
def tk3 (v o : Int) : Tk := ⟨3, v, o, [], false⟩
def tk2 (c : Int) : Tk := ⟨2, c, 0, [], false⟩
def tk4 (o : Int) (b : List UInt8) : Tk := ⟨4, 0, o, b, false⟩
/-- A verb is to be sent, if it is one. -/
def Ee.sendV (e : Ee) (v o : Int) : Ee := if tkNum (tk3 v o) = 0 then ({ e with sent := e.sent + 1 } : Ee).send 3 (tkBytes (tk3 v o)) else e
/-- What a hub tells is to be sent. -/
def Ee.sendS (e : Ee) (o : Int) : Option (List UInt8) → Ee
  | none => e
  | some b => e.send 4 (tkBytes (tk4 o b))
/-- An option has turned. -/
def Ee.turn (e : Ee) (s o : Int) : Ee := ({ e with H := (e.H.turned s o (e.on s o)).2 } : Ee).sendS o (e.H.turned s o (e.on s o)).1
def Ee.turnN (e : Ee) (s o : Int) : Nt := ⟨3, 0, s, o, e.on s o⟩
def Ee.hearMark (e : Ee) (v : Int) : Ee := if v = 253 then e.sendV 251 6 else e
/-- Behind the table's hearing, and the verb that it sends. -/
def Ee.heardT (ag : Nat → Nat → Bool) (e : Ee) (v o : Nat) : Ee := ({ e with heard := e.heard + 1, T := (e.T.hear ag v o).1 } : Ee).sendV (toldV (sideV v) (e.T.hear ag v o).2.2.1) o
def Ee.verbTurns (ag : Nat → Nat → Bool) (e : Ee) (v o : Nat) : Bool := turnedQ (e.T.hear ag v o).2.1 (e.T.st (sideV v) o)
def Ee.hearVerb (ag : Nat → Nat → Bool) (e : Ee) (v o : Nat) : Ee × List Nt :=
  if o = 6 then (({ e with heard := e.heard + 1 } : Ee).hearMark v, [⟨2, v, 0, 0, false⟩])
  else ((if e.verbTurns ag v o then (e.heardT ag v o).turn (sideV v) o else e.heardT ag v o),
    (if e.verbTurns ag v o then [(e.heardT ag v o).turnN (sideV v) o] else []) ++ (if (e.T.hear ag v o).2.2.2 then [⟨4, 0, sideV v, o, false⟩] else []))
def Ee.hearSub (e : Ee) (o : Int) (cut : Bool) (b : List UInt8) : Ee × List Nt :=
  if (e.H.hear e.T 4 o cut b).1 = 0 then (({ e with H := (e.H.hear e.T 4 o cut b).2.2 } : Ee).sendS o (e.H.hear e.T 4 o cut b).2.1, []) else (e, [⟨5, 0, 0, o, false⟩])
/-- A token is heard. -/
def Ee.tok (ag : Nat → Nat → Bool) (e : Ee) (t : Tk) : Ee × List UInt8 × List Nt :=
  if t.kind = 1 then (e, [b8 t.code], [])
  else if t.kind = 2 then (if t.code = 246 then e.send 2 (tkBytes (tk2 241)) else e, [], [⟨1, t.code, 0, 0, false⟩])
  else if t.kind = 3 then ((e.hearVerb ag t.code.toNat t.opt.toNat).1, [], (e.hearVerb ag t.code.toNat t.opt.toNat).2)
  else if t.kind = 4 then ((e.hearSub t.opt t.cut t.body).1, [], (e.hearSub t.opt t.cut t.body).2)
  else (e, [], [⟨5, 0, 0, t.opt, false⟩])
/-- A byte comes. -/
def Ee.feed (ag : Nat → Nat → Bool) (e : Ee) (c : UInt8) (mark : Bool) : Ee × List UInt8 × List Nt :=
  match feed9 e.k ⟨c, mark, e.on 1 0⟩ with
  | (k, none) => ({ e with k := k }, [], [])
  | (k, some t) => ({ e with k := k } : Ee).tok ag t
/-- The number of a table's error. -/
def Tb.askZ (T : Tb) (s o : Int) (on : Bool) : Nat := if ¬ (s = 0 ∨ s = 1) then 9 else if ¬ (0 ≤ o ∧ o ≤ 255) then 1 else if askQ (T.st s.toNat o.toNat) on = none then 10 else 0
/-- Behind the table's asking. -/
def Ee.askedT (e : Ee) (s o : Nat) (on : Bool) : Ee :=
  match e.T.ask s o on with
  | none => e
  | some r => ({ e with T := r.1, asked := e.asked + 1 } : Ee).sendV (toldV s r.2.2) o
def Ee.ask (e : Ee) (s o : Int) (on : Bool) : Nat × Ee × List Nt :=
  if o = 6 then (if s ≠ 1 ∨ on = false then (9, e, []) else (0, ({ e with asked := e.asked + 1 } : Ee).sendV 253 6, []))
  else if e.T.askZ s o on ≠ 0 then (e.T.askZ s o on, e, [])
  else if e.on s o = true ∧ (e.askedT s.toNat o.toNat on).on s o = false then (0, (e.askedT s.toNat o.toNat on).turn s o, [(e.askedT s.toNat o.toNat on).turnN s o])
  else (0, e.askedT s.toNat o.toNat on, [])
def Ee.set (e : Ee) (n : Int) : Nat × Ee := if (e.H.set e.T n).1 = 0 then (0, ({ e with H := (e.H.set e.T n).2.2 } : Ee).sendS 34 (e.H.set e.T n).2.1) else ((e.H.set e.T n).1, e)
def Ee.say (e : Ee) (b : List UInt8) : Ee := e.send 1 (dbl (out8 (e.on 0 0) b))
def Ee.cmd (e : Ee) (c : Int) : Nat × Ee := (tkNum (tk2 c), if tkNum (tk2 c) = 0 then e.send 2 (tkBytes (tk2 c)) else e)
def Ee.take (e : Ee) : Ee := { e with out := [] }
section
variable {e : Ee}
theorem Ee.send_k (k : Int) (b : List UInt8) : (e.send k b).k = e.k := by unfold Ee.send; split <;> rfl
theorem Ee.send_T (k : Int) (b : List UInt8) : (e.send k b).T = e.T := by unfold Ee.send; split <;> rfl
theorem Ee.send_H (k : Int) (b : List UInt8) : (e.send k b).H = e.H := by unfold Ee.send; split <;> rfl
theorem Ee.sendV_T (v o : Int) : (e.sendV v o).T = e.T := by unfold Ee.sendV; split <;> first | exact Ee.send_T .. | rfl
theorem Ee.sendV_H (v o : Int) : (e.sendV v o).H = e.H := by unfold Ee.sendV; split <;> first | exact Ee.send_H .. | rfl
theorem Ee.sendV_k (v o : Int) : (e.sendV v o).k = e.k := by unfold Ee.sendV; split <;> first | exact Ee.send_k .. | rfl
theorem Ee.sendS_T (o : Int) (t : Option (List UInt8)) : (e.sendS o t).T = e.T := by cases t <;> first | rfl | exact Ee.send_T ..
theorem Ee.sendS_H (o : Int) (t : Option (List UInt8)) : (e.sendS o t).H = e.H := by cases t <;> first | rfl | exact Ee.send_H ..
theorem Ee.sendS_k (o : Int) (t : Option (List UInt8)) : (e.sendS o t).k = e.k := by cases t <;> first | rfl | exact Ee.send_k ..
end
end Go.Proofs.YtbnfhklpobephaaGreatDoor
/- A token's cells; rows of tokens that the program laid itself. -/
namespace Go.Proofs.YtbnfhklpobephaaGreatDoor
open Go Go.RowKit
set_option maxRecDepth 100000
set_option maxHeartbeats 4000000

/-- A token's cells. -/
def tkCells (t : Tk) (v : Value) : List Value := [.int .i64 t.kind, .int .i64 t.code, .int .i64 t.opt, v, .bool t.cut]
theorem tkCells_length (t : Tk) (v : Value) : (tkCells t v).length = 5 := rfl
theorem size_tok : (Tryz.prog.info? 178).map (·.size) = some 5 := by kernel_rfl
theorem tk_one (t : Tk) (A : Option Addr) (n c : Nat) : ∀ v ∈ tkCells t (.slice A n c), v.oneCell' = true := by
  intro v hv
  simp only [tkCells, List.mem_cons, List.not_mem_nil, or_false] at hv
  rcases hv with rfl | rfl | rfl | rfl | rfl <;> rfl

/-- A token, and where its body lies. -/
structure TkP where
  t : Tk
  ad : Option Addr
  cap : Nat
def TkP.val (x : TkP) : Value := .slice x.ad x.t.body.length x.cap
def TkP.cells (x : TkP) : List Value := tkCells x.t x.val
def flatTk : List TkP → List Value
  | [] => []
  | x :: l => x.cells ++ flatTk l
theorem flatTk_length (l : List TkP) : (flatTk l).length = l.length * 5 := by
  induction l with
  | nil => rfl
  | cons x l ih => simp only [flatTk, List.length_append, ih, List.length_cons, TkP.cells, tkCells_length]; omega
theorem flatTk_append (l k : List TkP) : flatTk (l ++ k) = flatTk l ++ flatTk k := by
  induction l with
  | nil => rfl
  | cons x l ih => simp [flatTk, ih]
theorem flatTk_one (l : List TkP) : ∀ v ∈ flatTk l, v.oneCell' = true := by
  induction l with
  | nil => intro v h; cases h
  | cons x l ih =>
    intro v h
    rcases List.mem_append.1 h with h | h
    · exact tk_one _ _ _ _ v h
    · exact ih v h
theorem flatTk_get : ∀ {l : List TkP} {i : Nat} {x : TkP}, l[i]? = some x → ∀ (j : Nat) (v : Value), x.cells[j]? = some v → (flatTk l)[i * 5 + j]? = some v
  | y :: l, 0, x, h, j, v, hj => by
    simp only [List.getElem?_cons_zero, Option.some.injEq] at h
    subst h
    have hjl := (List.getElem?_eq_some_iff.1 hj).1
    rw [Nat.zero_mul, Nat.zero_add, flatTk, List.getElem?_append_left hjl]
    exact hj
  | y :: l, i + 1, x, h, j, v, hj => by
    have := flatTk_get (l := l) (i := i) (x := x) (by simpa using h) j v hj
    have e : y.cells.length = 5 := rfl
    rw [flatTk, List.getElem?_append_right (by rw [e]; omega), e, show (i + 1) * 5 + j - 5 = i * 5 + j from by omega]
    exact this

theorem TkP.cells_one (x : TkP) : ∀ v ∈ x.cells, v.oneCell' = true := tk_one _ _ _ _
/-- A row of tokens. -/
structure Toks (w : World) (B : Nat) (v : Value) (ps : List TkP) : Prop where
  row : w.ownsRow B 178 5 v ps.length (flatTk ps)
  bodies : ∀ x ∈ ps, Body w B x.val x.t.body
section
variable {w w' : World} {B : Nat} {v : Value} {ps : List TkP}
theorem Toks.nil (w : World) (B : Nat) : Toks w B (.slice none 0 0) [] := ⟨own_nil w B _ _, fun x h => by cases h⟩
/-- What turns is no body and no such row. -/
theorem Toks.only {S : Nat → Prop} (h : Toks w B v ps) (ho : Only S w w') (h1 : ∀ k, v.ownBlock = some k → ¬ S k) (h2 : ∀ x ∈ ps, ∀ k, x.val.ownBlock = some k → ¬ S k) : Toks w' B v ps :=
  ⟨own_only h.row ho h1, fun x hx => own_only (h.bodies x hx) ho (h2 x hx)⟩
theorem Toks.same (h : Toks w B v ps) (ho : Only (fun _ => False) w w') : Toks w' B v ps := h.only ho (fun _ _ h => h) (fun _ _ _ _ h => h)
/-- A block of the call's own that is no body and no such row. -/
theorem Toks.blk {g : Nat} {t : TypeId} {cs : List Value} (h : Toks w B v ps) (ho : Only (· = g) w w') (hb : Blk w g t cs) (h1 : t ≠ 178) (h2 : t ≠ 5) : Toks w' B v ps :=
  h.only ho (own_ne h.row hb (fun e => h1 e.symm)) (fun x hx => own_ne (h.bodies x hx) hb (fun e => h2 e.symm))
theorem Toks.mono {B' : Nat} (h : Toks w B v ps) (hB : B' ≤ B) : Toks w B' v ps := ⟨own_mono h.row hB, fun x hx => own_mono (h.bodies x hx) hB⟩
theorem Toks.form (h : Toks w B v ps) : ∃ A c, v = .slice A ps.length c ∧ ps.length ≤ c ∧ c ≤ 9223372036854775807 := own_form h.row
/-- What lies at a place. -/
theorem Toks.at_ {A : Option Addr} {n c i : Nat} {x : TkP} (h : Toks w B (.slice A n c) ps) (hx : ps[i]? = some x) :
    ∃ g, A = some ⟨g, 0, none⟩ ∧ B ≤ g ∧ g < w.heap.size ∧ w.rangeAt g (i * 5) x.cells ∧ Body w B x.val x.t.body := by
  obtain ⟨A', c', hv, _⟩ := own_form h.row
  injection hv with e1 e2 e3
  subst e1 e2 e3
  have hi := (List.getElem?_eq_some_iff.1 hx).1
  obtain ⟨g, hA, hB, hlt, hc⟩ := own_at h.row (by omega)
  exact ⟨g, hA, hB, hlt, fun j u hj => hc _ _ (flatTk_get hx j u hj), h.bodies x (List.mem_of_getElem? hx)⟩
end

theorem info_tok : (Tryz.prog.info? 178).map (fun i => (i.zero, i.size, i.bytes)) = some (some (.agg #[.int .i64 0, .int .i64 0, .int .i64 0, .slice none 0 0, .bool false]), 5, 56) := by kernel_rfl

/-- A token more. -/
theorem Toks.more {w w' : World} {B : Nat} {v v' : Value} {ps : List TkP} (h : Toks w B v ps) (x : TkP) (hx : Body w B x.val x.t.body) (hrow : w'.ownsRow B 178 5 v' (ps.length + 1) (flatTk ps ++ x.cells)) (hg : w.grownBy w' v.ownBlock) : Toks w' B v' (ps ++ [x]) := by
  have hne : (5 : Nat) ≠ 178 := by decide
  refine ⟨?_, fun z hz => ?_⟩
  · rw [flatTk_append, List.length_append]
    simpa [flatTk] using hrow
  · rcases List.mem_append.1 hz with hz | hz
    · exact own_kept (h.bodies z hz) h.row hne hg
    · obtain rfl := List.mem_singleton.1 hz
      exact own_kept hx h.row hne hg

/-- A token's five cells. -/
def FiveAt (w : World) (g o : Nat) (t : Tk) (A : Option Addr) (n c : Nat) : Prop :=
  w.cell? ⟨g, o, none⟩ = some (.int .i64 t.kind) ∧ w.cell? ⟨g, o + 1, none⟩ = some (.int .i64 t.code) ∧ w.cell? ⟨g, o + 2, none⟩ = some (.int .i64 t.opt) ∧ w.cell? ⟨g, o + 3, none⟩ = some (.slice A n c) ∧ w.cell? ⟨g, o + 4, none⟩ = some (.bool t.cut)
theorem five_of {w : World} {g o : Nat} {x : TkP} (h : w.rangeAt g o x.cells) : FiveAt w g o x.t x.ad x.t.body.length x.cap :=
  ⟨h 0 _ rfl, h 1 _ rfl, h 2 _ rfl, h 3 _ rfl, h 4 _ rfl⟩
theorem FiveAt.only {S : Nat → Prop} {w w' : World} {g o : Nat} {t : Tk} {A : Option Addr} {n c : Nat} (h : FiveAt w g o t A n c) (ho : Only S w w') (hS : ¬ S g) : FiveAt w' g o t A n c := by
  obtain ⟨h0, h1, h2, h3, h4⟩ := h
  exact ⟨ho.cellv h0 hS, ho.cellv h1 hS, ho.cellv h2 hS, ho.cellv h3 hS, ho.cellv h4 hS⟩
end Go.Proofs.YtbnfhklpobephaaGreatDoor
