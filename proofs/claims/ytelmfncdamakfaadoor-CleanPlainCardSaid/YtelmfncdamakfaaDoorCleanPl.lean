/- Layer 9 without marks, as plain functions: raw, the tokens are layer 5's; what is sent by layers 6 and 8 comes in as it was. -/
import Derived.Test.YtelmfncdamakfaaDoorCleanWalk
import Derived.Test.YtelmfncdamakfaaDoorEmitSay
namespace Go.Proofs.YtelmfncdamakfaaDoor

/-- Bytes without marks, all raw or none. -/
def plainB (raw : Bool) (xs : List UInt8) : List Bt := xs.map fun c => ⟨c, false, raw⟩
theorem bts_plain (xs : List UInt8) (raw : Bool) : bts xs (mkd xs.length []) raw = plainB raw xs := by
  rw [mkd_nil]
  unfold bts plainB
  induction xs with
  | nil => rfl
  | cons x xs ih => simp [List.replicate_succ, ih]
/-- Raw, all tokens stay. -/
theorem plain_raw : ∀ (xs : List UInt8) (m : Ms) (p : Nat), (feeds9 ⟨m, false, false⟩ p (plainB true xs)).1.map Prod.fst = (feeds m xs).1
  | [], _, _ => rfl
  | x :: xs, m, p => by
    have e : feed9 ⟨m, false, false⟩ ⟨x, false, true⟩ = (⟨(feed m x).1, false, false⟩, (feed m x).2) := by
      unfold feed9
      cases h : feed m x with
      | mk m' o =>
        cases o with
        | none => simp
        | some t => simp [stays9, behind9]
    have ih := plain_raw xs (feed m x).1 (p + 1)
    simp only [plainB, List.map_cons, feeds9, feeds, List.map_append] at ih ⊢
    rw [e]
    simp only
    rw [ih]
    congr 1
    cases (feed m x).2 <;> rfl

theorem data9_cons' (t : Tk) (ts : List Tk) : data9 (t :: ts) = (if isData t then [b8 t.code] else []) ++ data9 ts := by
  unfold data9
  cases h : isData t <;> simp [h]
/-- What is sent: a byte of data, or a verb. -/
inductive Atom where
  | data (x : UInt8)
  | verb (c o : UInt8)
def Atom.enc : Atom → List UInt8
  | .data x => dbl [x]
  | .verb c o => [255, c, o]
def encs : List Atom → List UInt8
  | [] => []
  | a :: l => a.enc ++ encs l
theorem encs_append (a b : List Atom) : encs (a ++ b) = encs a ++ encs b := by
  induction a with
  | nil => rfl
  | cons x l ih => simp [encs, ih]
def datas : List Atom → List UInt8
  | [] => []
  | .data x :: l => x :: datas l
  | .verb _ _ :: l => datas l
theorem datas_append (a b : List Atom) : datas (a ++ b) = datas a ++ datas b := by
  induction a with
  | nil => rfl
  | cons x l ih => cases x <;> simp [datas, ih]
theorem datas_data (l : List UInt8) : datas (l.map .data) = l := by
  induction l with
  | nil => rfl
  | cons x l ih => simp [datas, ih]
theorem encs_data (l : List UInt8) : encs (l.map .data) = dbl l := by
  induction l with
  | nil => rfl
  | cons x l ih =>
    simp only [List.map_cons, encs, ih, Atom.enc]
    rw [← dbl_append]
    rfl
def Atom.Ok : Atom → Prop
  | .data _ => True
  | .verb c _ => 251 ≤ c.toNat ∧ c.toNat ≤ 254

theorem feed_one (x : UInt8) (h : x.toNat ≠ 255) : feed .zero x = (.zero, some ⟨1, (x.toNat : Int), 0, [], false⟩) := by simp [feed, Ms.zero, h]
theorem feed_iacz (x : UInt8) (h : x.toNat = 255) : feed .zero x = (Ms.zero.to 1, none) := by simp [feed, Ms.zero, Ms.to, h]
theorem feed_iac2 (x : UInt8) (h : x.toNat = 255) : feed (Ms.zero.to 1) x = (.zero, some ⟨1, 255, 0, [], false⟩) := by simp [feed, Ms.zero, Ms.to, h]
theorem feed_verb1 (x : UInt8) (h : 251 ≤ x.toNat ∧ x.toNat ≤ 254) : feed (Ms.zero.to 1) x = (({ Ms.zero with verb := (x.toNat : Int) } : Ms).to 2, none) := by
  have h1 : ¬ x.toNat = 255 := by omega
  have h2 : ¬ x.toNat = 250 := by omega
  simp [feed, Ms.zero, Ms.to, h1, h2, h]
theorem feed_verb2 (x y : UInt8) : feed (({ Ms.zero with verb := (x.toNat : Int) } : Ms).to 2) y = (.zero, some ⟨3, (x.toNat : Int), (y.toNat : Int), [], false⟩) := by simp [feed, Ms.zero, Ms.to]

theorem clean_atoms (raw : Bool) : ∀ (l : List Atom), (∀ a ∈ l, a.Ok) → ∀ (bh : Bool) (p : Nat), data9 ((feeds9 ⟨.zero, false, bh⟩ p (plainB raw (encs l))).1.map Prod.fst) = in8 bh (flags8 raw (datas l))
  | [], _, bh, p => rfl
  | .data x :: l, h, bh, p => by
    have ih := clean_atoms raw l (fun a ha => h a (List.mem_cons_of_mem _ ha)) (decide (x.toNat = 13) && !raw)
    have hx : (x.toNat : Int) = (x.toNat : Int) := rfl
    have e0 : decide ((x.toNat : Int) = 0) = decide (x.toNat = 0) := by simp
    have e13 : decide ((x.toNat : Int) = 13) = decide (x.toNat = 13) := by rw [Bool.eq_iff_iff]; simp; omega
    have hb : b8 (x.toNat : Int) = x := b8_of x
    simp only [encs, Atom.enc, datas, flags8, List.map_cons, in8]
    by_cases h255 : x.toNat = 255
    · have hd : dbl [x] = [x, x] := by
        have := dbl_two [] x h255
        simpa [dbl] using this
      rw [hd]
      simp only [plainB, List.cons_append, List.nil_append, List.map_cons, feeds9]
      have f1 : feed9 ⟨.zero, false, bh⟩ ⟨x, false, raw⟩ = (⟨Ms.zero.to 1, false, bh⟩, none) := by unfold feed9; simp only; rw [feed_iacz x h255]; rfl
      rw [f1]
      simp only
      have f2 : feed9 ⟨Ms.zero.to 1, false, bh⟩ ⟨x, false, raw⟩ = (⟨.zero, false, false⟩, some ⟨1, 255, 0, [], false⟩) := by
        unfold feed9
        simp only
        rw [feed_iac2 x h255]
        simp [stays9, behind9, isData, isDM]
      rw [f2]
      have e3 : (decide (x.toNat = 13) && !raw) = false := by simp; omega
      have e4 : ¬ (bh = true ∧ x.toNat = 0 ∧ raw = false) := by omega
      rw [e3] at ih ⊢
      rw [if_neg e4]
      simp only [Option.toList_none, List.map_nil, List.nil_append, Option.toList_some, List.map_cons, List.map_append, List.singleton_append]
      rw [data9_cons']
      have := ih (p + 1 + 1)
      simp only [plainB, flags8] at this
      rw [this]
      have e5 : b8 255 = x := by
        apply UInt8.toNat_inj.1
        rw [h255]
        rfl
      simp [isData, e5]
    · have hd : dbl [x] = [x] := by
        have := dbl_one [] x h255
        simpa [dbl] using this
      rw [hd]
      simp only [plainB, List.cons_append, List.nil_append, List.map_cons, feeds9]
      have f1 : feed9 ⟨.zero, false, bh⟩ ⟨x, false, raw⟩ = (⟨.zero, false, decide (x.toNat = 13) && !raw⟩, if bh = true ∧ x.toNat = 0 ∧ raw = false then none else some ⟨1, (x.toNat : Int), 0, [], false⟩) := by
        unfold feed9
        simp only
        rw [feed_one x h255]
        simp only [stays9, behind9, isData, isDM, e0, e13]
        congr 1
        cases bh <;> cases raw <;> by_cases h0 : x.toNat = 0 <;> simp [h0]
      rw [f1]
      have := ih (p + 1)
      simp only [plainB, flags8] at this
      simp only [List.map_append]
      split
      · simp only [Option.toList_none, List.map_nil, List.nil_append]
        exact this
      · simp only [Option.toList_some, List.map_cons, List.map_nil, List.singleton_append]
        rw [data9_cons', this]
        simp [isData, hb]
  | .verb c o :: l, h, bh, p => by
    have ih := clean_atoms raw l (fun a ha => h a (List.mem_cons_of_mem _ ha)) bh (p + 1 + 1 + 1)
    have hc : 251 ≤ c.toNat ∧ c.toNat ≤ 254 := h (.verb c o) List.mem_cons_self
    simp only [encs, Atom.enc, datas]
    simp only [plainB, List.cons_append, List.nil_append, List.map_cons, feeds9]
    have f1 : feed9 ⟨.zero, false, bh⟩ ⟨255, false, raw⟩ = (⟨Ms.zero.to 1, false, bh⟩, none) := by unfold feed9; simp only; rw [feed_iacz 255 rfl]; rfl
    rw [f1]
    simp only
    have f2 : feed9 ⟨Ms.zero.to 1, false, bh⟩ ⟨c, false, raw⟩ = (⟨({ Ms.zero with verb := (c.toNat : Int) } : Ms).to 2, false, bh⟩, none) := by unfold feed9; simp only; rw [feed_verb1 c hc]; rfl
    rw [f2]
    simp only
    have f3 : feed9 ⟨({ Ms.zero with verb := (c.toNat : Int) } : Ms).to 2, false, bh⟩ ⟨o, false, raw⟩ = (⟨.zero, false, bh⟩, some ⟨3, (c.toNat : Int), (o.toNat : Int), [], false⟩) := by
      unfold feed9
      simp only
      rw [feed_verb2 c o]
      simp [stays9, behind9, isData, isDM]
    rw [f3]
    simp only [Option.toList_none, List.map_nil, List.nil_append, Option.toList_some, List.map_cons, List.singleton_append]
    rw [data9_cons']
    simp only [plainB] at ih
    rw [ih]
    simp [isData]
end Go.Proofs.YtelmfncdamakfaaDoor
