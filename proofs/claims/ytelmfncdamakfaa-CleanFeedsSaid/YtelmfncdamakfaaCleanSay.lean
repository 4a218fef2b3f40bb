/- Layer 9 as plain functions: bytes with marks, raw or not, through the tokens' machine; the document's own way, of all tokens with their places; both are one. -/
import Derived.Test.YtelmfncdamakfaaIacSay
import Derived.Test.YtelmfncdamakfaaNvtSay
namespace Go.Proofs.Ytelmfncdamakfaa

/-- A byte that comes in. -/
structure Bt where
  c : UInt8
  mark : Bool
  raw : Bool
/-- A cleaner. -/
structure Cl where
  m : Ms
  deaf : Bool
  bh : Bool
def Cl.zero : Cl := ⟨.zero, false, false⟩
def isDM (t : Tk) : Bool := decide (t.kind = 2) && decide (t.code = 242)
def isData (t : Tk) : Bool := decide (t.kind = 1)
/-- Does a token stay? -/
def stays9 (deaf bh raw : Bool) (t : Tk) : Bool := !isData t || (!deaf && !(bh && decide (t.code = 0) && !raw))
/-- Would a 0 be left out behind it? -/
def behind9 (deaf bh raw : Bool) (t : Tk) : Bool := if isData t && !deaf then decide (t.code = 13) && !raw else bh
/-- One byte. -/
def feed9 (k : Cl) (x : Bt) : Cl × Option Tk :=
  match feed k.m x.c with
  | (m, .none) => (⟨m, k.deaf || x.mark, k.bh⟩, .none)
  | (m, some t) =>
    let deaf := (k.deaf || x.mark) && !isDM t
    (⟨m, deaf, behind9 deaf k.bh x.raw t⟩, if stays9 deaf k.bh x.raw t then some t else .none)
/-- What is told of bytes, each at its place, and where the cleaner stands then. -/
def feeds9 : Cl → Nat → List Bt → List (Tk × Nat) × Cl
  | k, _, [] => ([], k)
  | k, p, x :: l => ((feed9 k x).2.toList.map (fun t => (t, p)) ++ (feeds9 (feed9 k x).1 (p + 1) l).1, (feeds9 (feed9 k x).1 (p + 1) l).2)
theorem feeds9_append (k : Cl) (p : Nat) (a b : List Bt) : feeds9 k p (a ++ b) = ((feeds9 k p a).1 ++ (feeds9 (feeds9 k p a).2 (p + a.length) b).1, (feeds9 (feeds9 k p a).2 (p + a.length) b).2) := by
  induction a generalizing k p with
  | nil => simp [feeds9]
  | cons c a ih =>
    simp only [List.cons_append, feeds9, ih, List.length_cons]
    rw [show p + 1 + a.length = p + (a.length + 1) from by omega]
    simp
theorem feeds9_m : ∀ (l : List Bt) (k : Cl) (p : Nat), (feeds9 k p l).2.m = (feeds k.m (l.map Bt.c)).2
  | [], _, _ => rfl
  | x :: l, k, p => by
    have e : (feed9 k x).1.m = (feed k.m x.c).1 := by
      unfold feed9
      cases h : feed k.m x.c with
      | mk m o => cases o <;> rfl
    simp only [feeds9, List.map_cons, feeds]
    rw [feeds9_m l, e]

/-- All tokens, and the place of each one's last byte. -/
def ends9 : Ms → Nat → List UInt8 → List (Tk × Nat)
  | _, _, [] => []
  | m, p, c :: l => (feed m c).2.toList.map (fun t => (t, p)) ++ ends9 (feed m c).1 (p + 1) l
theorem ends9_told : ∀ (l : List UInt8) (m : Ms) (p : Nat), (ends9 m p l).map Prod.fst = (feeds m l).1
  | [], _, _ => rfl
  | c :: l, m, p => by
    simp only [ends9, feeds, List.map_append, ends9_told l]
    congr 1
    cases (feed m c).2 <;> rfl
/-- Is one of so many places marked? -/
def anyIn (l : List Bt) (a b : Nat) : Bool := ((l.take b).drop a).any Bt.mark
def rawAt (l : List Bt) (i : Nat) : Bool := (l[i]?.map Bt.raw).getD false
/-- The document's way: of all tokens with their places. -/
def clean9 (l : List Bt) : Nat → Bool → Bool → List (Tk × Nat) → List (Tk × Nat)
  | _, _, _, [] => []
  | last, deaf, bh, (t, e) :: r =>
    let deaf := (deaf || anyIn l last (e + 1)) && !isDM t
    (if stays9 deaf bh (rawAt l e) t then [(t, e)] else []) ++ clean9 l (e + 1) deaf (behind9 deaf bh (rawAt l e) t) r

theorem anyIn_next {l : List Bt} {a p : Nat} {x : Bt} (hx : l[p]? = some x) (ha : a ≤ p) : anyIn l a (p + 1) = (anyIn l a p || x.mark) := by
  unfold anyIn
  have hp := (List.getElem?_eq_some_iff.1 hx).1
  rw [List.take_add_one, hx, Option.toList_some, List.drop_append_of_le_length (by rw [List.length_take]; omega), List.any_append]
  simp
theorem anyIn_self (l : List Bt) (p : Nat) : anyIn l p p = false := by
  unfold anyIn
  rw [List.drop_eq_nil_of_le (by rw [List.length_take]; omega)]
  rfl
theorem feeds9_clean (l : List Bt) : ∀ (r : List Bt) (p : Nat), l.drop p = r → ∀ (k : Cl) (last : Nat) (deaf : Bool), last ≤ p → k.deaf = (deaf || anyIn l last p) →
    (feeds9 k p r).1 = clean9 l last deaf k.bh (ends9 k.m p (r.map Bt.c))
  | [], p, _, k, last, deaf, _, _ => rfl
  | x :: r, p, hr, k, last, deaf, hlp, hd => by
    have hx : l[p]? = some x := by
      have := congrArg (fun q => q[0]?) hr
      simpa using this
    have hr' : l.drop (p + 1) = r := by
      have := congrArg (List.drop 1) hr
      rw [List.drop_drop] at this
      simpa using this
    have hraw : rawAt l p = x.raw := by unfold rawAt; rw [hx]; rfl
    have hn := anyIn_next hx hlp
    simp only [feeds9, List.map_cons, ends9]
    unfold feed9
    cases h : feed k.m x.c with
    | mk m o =>
      cases o with
      | none =>
        simp only [Option.toList_none, List.map_nil, List.nil_append]
        exact feeds9_clean l r (p + 1) hr' ⟨m, k.deaf || x.mark, k.bh⟩ last deaf (by omega) (by rw [hn, hd, Bool.or_assoc])
      | some t =>
        have e : (k.deaf || x.mark) = (deaf || anyIn l last (p + 1)) := by rw [hn, hd, Bool.or_assoc]
        simp only [Option.toList_some, List.map_cons, List.map_nil, List.singleton_append, clean9]
        rw [hraw, e]
        have ih := feeds9_clean l r (p + 1) hr' ⟨m, (deaf || anyIn l last (p + 1)) && !isDM t, behind9 ((deaf || anyIn l last (p + 1)) && !isDM t) k.bh x.raw t⟩ (p + 1) ((deaf || anyIn l last (p + 1)) && !isDM t) (Nat.le_refl _) (by rw [anyIn_self]; simp)
        rw [ih]
        congr 1
        split <;> rfl
/-- The cleaner's way is the document's. -/
theorem clean_all (l : List Bt) : (feeds9 .zero 0 l).1 = clean9 l 0 false false (ends9 .zero 0 (l.map Bt.c)) :=
  feeds9_clean l l 0 rfl .zero 0 false (Nat.le_refl _) (by rw [anyIn_self]; rfl)
end Go.Proofs.Ytelmfncdamakfaa
