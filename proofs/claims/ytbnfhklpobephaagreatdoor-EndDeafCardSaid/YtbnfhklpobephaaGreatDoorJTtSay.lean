/- Several texts in one. -/
import Derived.Test.YtbnfhklpobephaaGreatDoorJSum
import Derived.Test.YtbnfhklpobephaaGreatDoorJBase
import Derived.Test.YtbnfhklpobephaaGreatDoorJAlloc
/- Terminal types as plain functions: a type, a cycle's answers, what is gathered, what a body says. -/
namespace Go.Proofs.YtbnfhklpobephaaGreatDoor
open Go Go.RowKit
/-- A type's byte. -/
def okB (c : UInt8) : Bool := decide (33 ≤ c.toNat) && decide (c.toNat ≤ 126)
/-- A type. -/
def okT (s : List UInt8) : Bool := decide (1 ≤ s.length) && decide (s.length ≤ 24) && s.all okB
theorem okB_iff {c : UInt8} : okB c = true ↔ 33 ≤ c.toNat ∧ c.toNat ≤ 126 := by simp [okB]
theorem okT_iff {s : List UInt8} : okT s = true ↔ 1 ≤ s.length ∧ s.length ≤ 24 ∧ ∀ c ∈ s, okB c = true := by simp [okT, and_assoc]
theorem okT_empty : okT [] = false := rfl
theorem okT_long {s : List UInt8} (h : 24 < s.length) : okT s = false := by
  unfold okT
  rw [decide_eq_false (by omega : ¬ s.length ≤ 24)]
  simp
/-- The bytes up to k are a type's. -/
def TtGood (s : List UInt8) (k : Nat) : Prop := ∀ c ∈ s.take k, okB c = true
theorem TtGood.zero (s : List UInt8) : TtGood s 0 := by intro c hc; simp at hc
theorem TtGood.succ {s : List UInt8} {k : Nat} {x : UInt8} (h : TtGood s k) (hx : s[k]? = some x) (ho : okB x = true) : TtGood s (k + 1) := by
  intro c hc
  rw [List.take_add_one, hx] at hc
  rcases List.mem_append.1 hc with h1 | h1
  · exact h c h1
  · simp at h1; rw [h1]; exact ho
theorem TtGood.all {s : List UInt8} {n : Nat} (h : TtGood s n) (hn : n = s.length) (h1 : 1 ≤ n) (h24 : n ≤ 24) : okT s = true := by
  subst hn
  refine okT_iff.2 ⟨h1, h24, fun c hc => h c ?_⟩
  rw [List.take_length]
  exact hc
theorem okT_bad {s : List UInt8} {k : Nat} {x : UInt8} (hx : s[k]? = some x) (ho : okB x = false) : okT s = false := by
  cases h : okT s with
  | false => rfl
  | true =>
    have := (okT_iff.1 h).2.2 x (List.mem_of_getElem? hx)
    rw [ho] at this
    cases this

/-- The answer number n of a cycle. -/
def ansT (ts : List (List UInt8)) (n : Nat) : List UInt8 := ts.getD (min (n % (ts.length + 1)) (ts.length - 1)) []
theorem ansT_get {ts : List (List UInt8)} (h : 0 < ts.length) (n : Nat) : ts[min (n % (ts.length + 1)) (ts.length - 1)]? = some (ansT ts n) := by
  unfold ansT
  have hl : min (n % (ts.length + 1)) (ts.length - 1) < ts.length := by omega
  rw [List.getD_eq_getElem?_getD, List.getElem?_eq_getElem hl]
  rfl

/-- What is gathered. -/
structure Ls where
  names : List (List UInt8)
  whole : Bool
def Ls.take (l : Ls) (s : List UInt8) : Ls :=
  if l.whole || !okT s then l else if l.names.getLast? = some s then ⟨l.names, true⟩ else ⟨l.names ++ [s], decide (l.names.length + 1 = 8)⟩
structure Ls.Ok (l : Ls) : Prop where
  most : l.names.length ≤ 8
  room : l.whole = false → l.names.length < 8
def Ls.none : Ls := ⟨[], false⟩
theorem Ls.none_ok : Ls.none.Ok := ⟨by simp [Ls.none], fun _ => by simp [Ls.none]⟩
theorem Ls.take_full {l : Ls} {s : List UInt8} (h : l.whole = true) : l.take s = l := by simp [Ls.take, h]
theorem Ls.take_bad {l : Ls} {s : List UInt8} (h : okT s = false) : l.take s = l := by simp [Ls.take, h]
theorem Ls.take_end {l : Ls} {s : List UInt8} (h : l.whole = false) (ho : okT s = true) (hl : l.names.getLast? = some s) : l.take s = ⟨l.names, true⟩ := by simp [Ls.take, h, ho, hl]
theorem Ls.take_new {l : Ls} {s : List UInt8} (h : l.whole = false) (ho : okT s = true) (hl : l.names.getLast? ≠ some s) : l.take s = ⟨l.names ++ [s], decide (l.names.length + 1 = 8)⟩ := by simp [Ls.take, h, ho, hl]
theorem Ls.Ok.take {l : Ls} (h : l.Ok) (s : List UInt8) : (l.take s).Ok := by
  unfold Ls.take
  split
  · exact h
  · rename_i h1
    simp only [Bool.or_eq_true, not_or, Bool.not_eq_true] at h1
    have := h.room h1.1
    split
    · exact ⟨h.most, fun h => by cases h⟩
    · refine ⟨by simp; omega, fun h2 => ?_⟩
      simp at h2 ⊢
      omega
def gatherT (l : Ls) (ts : List (List UInt8)) : Ls := ts.foldl Ls.take l
theorem gatherT_ok {l : Ls} (h : l.Ok) (ts : List (List UInt8)) : (gatherT l ts).Ok := by
  induction ts generalizing l with
  | nil => exact h
  | cons t ts ih => exact ih (h.take t)
theorem gatherT_full {l : Ls} (h : l.whole = true) (ts : List (List UInt8)) : gatherT l ts = l := by
  induction ts with
  | nil => rfl
  | cons t ts ih =>
    show gatherT (l.take t) ts = l
    rw [Ls.take_full h, ih]
theorem gatherT_drop {l : Ls} {ts : List (List UInt8)} {k : Nat} {x : List UInt8} (h : ts[k]? = some x) : gatherT l (ts.drop k) = gatherT (l.take x) (ts.drop (k + 1)) := by
  obtain ⟨hk, hx⟩ := List.getElem?_eq_some_iff.1 h
  rw [List.drop_eq_getElem_cons hk, hx]
  rfl
theorem gatherT_snoc {l : Ls} {ts : List (List UInt8)} {k : Nat} {x : List UInt8} (h : ts[k]? = some x) : gatherT l (ts.take (k + 1)) = (gatherT l (ts.take k)).take x := by
  rw [List.take_add_one, h]
  show (ts.take k ++ [x]).foldl _ _ = _
  rw [List.foldl_append]
  rfl

/-- Of a cycle whose types differ from those ahead of them a list is gathered that has all. -/
theorem gatherT_all {ts : List (List UInt8)} (hok : ∀ t ∈ ts, okT t = true) (hne : ∀ (i : Nat) (x y : List UInt8), ts[i]? = some x → ts[i + 1]? = some y → x ≠ y) (h8 : ts.length ≤ 8) :
    ∀ k, k ≤ ts.length → gatherT Ls.none (ts.take k) = ⟨ts.take k, decide (k = 8)⟩ := by
  intro k
  induction k with
  | zero => intro _; rfl
  | succ k ih =>
    intro hk
    have hx : ts[k]? = some ts[k] := List.getElem?_eq_getElem (by omega)
    rw [gatherT_snoc hx, ih (by omega), Ls.take_new (by simp; omega) (hok _ (List.getElem_mem _)) ?_]
    · rw [List.take_add_one, hx]
      simp only [Option.toList_some, List.length_take]
      congr 2
      rw [eq_iff_iff]
      omega
    · intro h
      rcases Nat.eq_zero_or_pos k with h0 | h0
      · subst h0
        cases h
      · have hy : ts[k - 1]? = some ts[k - 1] := List.getElem?_eq_getElem (by omega)
        have := hne (k - 1) _ _ hy (by rw [show k - 1 + 1 = k from by omega]; exact hx)
        refine this ?_
        simp only [List.getLast?_take, show k ≠ 0 from by omega, if_false, hy] at h
        simpa using h
/-- What a body says: the type, whether it asks, the error's number. -/
def saysT (b : List UInt8) : List UInt8 × Bool × Nat :=
  match b with
  | [] => ([], false, 3)
  | c :: r => if c.toNat = 1 then (match r with | [] => ([], true, 0) | _ :: _ => ([], false, 4)) else if 1 < c.toNat then ([], false, 5) else if okT r then (r, false, 0) else ([], false, 6)
end Go.Proofs.YtbnfhklpobephaaGreatDoor
/- A list of types: its cells. -/
namespace Go.Proofs.YtbnfhklpobephaaGreatDoor
open Go Go.RowKit
set_option maxRecDepth 100000

/-- A list's cells. -/
def cellsL (l : Ls) : List Value := (l.names.map S8 ++ List.replicate (8 - l.names.length) (S8 [])) ++ [.int .i64 (l.names.length : Int), .bool l.whole]
section
variable {l : Ls} (h : l.Ok)
include h
theorem cellsL_front : (l.names.map S8 ++ List.replicate (8 - l.names.length) (S8 [])).length = 8 := by
  have := h.most
  simp
  omega
theorem cellsL_len : (cellsL l).length = 10 := by
  unfold cellsL
  rw [List.length_append, cellsL_front h]
  rfl
omit h in
theorem cellsL_name {i : Nat} {s : List UInt8} (hi : l.names[i]? = some s) : (cellsL l)[i]? = some (S8 s) := by
  have := (List.getElem?_eq_some_iff.1 hi).1
  unfold cellsL
  rw [List.append_assoc, List.getElem?_append_left (by rw [List.length_map]; exact this), List.getElem?_map, hi]
  rfl
theorem cellsL_count : (cellsL l)[8]? = some (.int .i64 (l.names.length : Int)) := by
  unfold cellsL
  rw [List.getElem?_append_right (by rw [cellsL_front h]; omega), cellsL_front h]
  rfl
theorem cellsL_whole : (cellsL l)[9]? = some (.bool l.whole) := by
  unfold cellsL
  rw [List.getElem?_append_right (by rw [cellsL_front h]; omega), cellsL_front h]
  rfl
theorem cellsL_end (b : Bool) : (cellsL l).set 9 (.bool b) = cellsL ⟨l.names, b⟩ := by
  unfold cellsL
  rw [List.set_append_right _ _ (by rw [cellsL_front h]; omega), cellsL_front h]
  rfl
theorem cellsL_new (hr : l.names.length < 8) (s : List UInt8) (b : Bool) : (((cellsL l).set l.names.length (S8 s)).set 8 (.int .i64 ((l.names.length : Int) + 1))).set 9 (.bool b) = cellsL ⟨l.names ++ [s], b⟩ := by
  have hf := cellsL_front h
  have hF : (l.names.map S8 ++ List.replicate (8 - l.names.length) (S8 [])).set l.names.length (S8 s) = (l.names ++ [s]).map S8 ++ List.replicate (8 - (l.names ++ [s]).length) (S8 []) := by
    rw [List.set_append_right _ _ (by simp), List.length_map, Nat.sub_self, show 8 - l.names.length = (8 - (l.names ++ [s]).length) + 1 from by simp; omega, List.replicate_succ, List.set_cons_zero]
    simp
  unfold cellsL
  rw [List.set_append_left _ _ (by rw [hf]; exact hr), hF]
  have hl : ((l.names ++ [s]).map S8 ++ List.replicate (8 - (l.names ++ [s]).length) (S8 [])).length = 8 := by
    simp
    omega
  rw [List.set_append_right _ _ (by rw [hl]; omega), List.set_append_right _ _ (by rw [hl]; omega), hl]
  simp
end

end Go.Proofs.YtbnfhklpobephaaGreatDoor
/- Layer 14 as plain functions: settings and triples; what a side has, holds and waits for; what comes of a triple that is heard, and of asking. -/
namespace Go.Proofs.YtbnfhklpobephaaGreatDoor

structure Se where
  l : Int
  v : Int
  deriving DecidableEq
/-- Is it a setting? -/
def Se.fine (x : Se) : Bool := (decide (x.l = 0 ∨ x.l = 3) && decide (x.v = 0)) || (decide (x.l = 1 ∨ x.l = 2) && decide (0 ≤ x.v ∧ x.v ≤ 255))
theorem Se.fine_iff {x : Se} : x.fine = true ↔ ((x.l = 0 ∨ x.l = 3) ∧ x.v = 0) ∨ ((x.l = 1 ∨ x.l = 2) ∧ 0 ≤ x.v ∧ x.v ≤ 255) := by
  unfold Se.fine
  simp
theorem Se.none_of {x : Se} (h : x.fine = true) (hl : x.l = 0) : x = ⟨0, 0⟩ := by
  rw [Se.fine_iff] at h
  obtain ⟨l, v⟩ := x
  simp only at hl h
  subst hl
  rcases h with ⟨_, rfl⟩ | ⟨h, _⟩
  · rfl
  · omega
theorem Se.v_of {x : Se} (h : x.fine = true) : 0 ≤ x.v ∧ x.v ≤ 255 := by
  rw [Se.fine_iff] at h
  omega
theorem Se.l_of {x : Se} (h : x.fine = true) : 0 ≤ x.l ∧ x.l ≤ 3 := by
  rw [Se.fine_iff] at h
  omega

structure Tr where
  f : Int
  x : Se
  ack : Bool
  deriving DecidableEq
def Tr.zero : Tr := ⟨0, ⟨0, 0⟩, false⟩
def isF (n : Int) : Bool := decide (1 ≤ n ∧ n ≤ 18)
theorem isF_iff {n : Int} : isF n = true ↔ 1 ≤ n ∧ n ≤ 18 := by simp [isF]
def Tr.right (t : Tr) : Bool := isF t.f && t.x.fine

/-- What a side has, and holds, of a function, and whether it waits. -/
structure Ch where
  has : Se
  holds : Se
  waits : Bool
  deriving DecidableEq
def Ch.zero : Ch := ⟨⟨0, 0⟩, ⟨0, 0⟩, false⟩
/-- What a side has behind a setting that is heard and isn't what it has; whether it agrees. -/
def ansS (x h : Se) : Se × Bool :=
  if x.l = 0 ∨ (h.l = 2 ∧ x.l ≠ 3) then (x, true) else if x.l = 1 then (⟨0, 0⟩, false) else (h, false)
def Ch.hear (c : Ch) (x : Se) (ack : Bool) : Ch × Option (Se × Bool) :=
  if x = c.has ∨ ack = true then (⟨c.has, c.holds, false⟩, none) else (⟨(ansS x c.holds).1, c.holds, false⟩, some (ansS x c.holds))
/-- The error's number, or 0. -/
def Ch.askN (c : Ch) (x : Se) : Nat := if c.waits then 10 else if x = c.has then 8 else 0
def Ch.asked (c : Ch) (x : Se) : Ch := ⟨if x.l = 3 then c.has else x, c.holds, true⟩

/-- A side: of each function's place. -/
abbrev Sd := Nat → Ch
def Sd.zero : Sd := fun _ => Ch.zero
def Sd.set (S : Sd) (i : Nat) (c : Ch) : Sd := fun j => if j = i then c else S j
theorem Sd.set_self (S : Sd) (i : Nat) (c : Ch) : S.set i c i = c := by simp [Sd.set]
theorem Sd.set_ne (S : Sd) {i j : Nat} (c : Ch) (h : j ≠ i) : S.set i c j = S j := by simp [Sd.set, h]
theorem Sd.set_same (S : Sd) (i : Nat) : S.set i (S i) = S := by
  funext j
  unfold Sd.set
  split <;> simp_all
theorem Sd.set_set (S : Sd) (i : Nat) (c d : Ch) : (S.set i c).set i d = S.set i d := by
  funext j
  unfold Sd.set
  split <;> rfl
/-- A side that holds settings. -/
def holdOf (x : Se) : Se := if x.fine = true ∧ x.l ≠ 3 then x else ⟨0, 0⟩
def newS (l : List Se) : Sd := fun i => ⟨⟨0, 0⟩, if i < 18 then holdOf (l.getD i ⟨0, 0⟩) else ⟨0, 0⟩, false⟩
/-- A function's place. -/
def plF (f : Int) : Nat := (f - 1).toNat
def hearS (S : Sd) (t : Tr) : Sd × Tr × Bool :=
  if t.right = true then
    match (S (plF t.f)).hear t.x t.ack with
    | (c, none) => (S.set (plF t.f) c, Tr.zero, false)
    | (c, some y) => (S.set (plF t.f) c, ⟨t.f, y.1, y.2⟩, true)
  else (S, Tr.zero, false)
/-- The error's number of an asking, or 0. -/
def askN (S : Sd) (f : Int) (x : Se) : Nat :=
  if isF f = false then 1 else if x.fine = false ∨ x.l = 0 then 5 else (S (plF f)).askN x
def askS (S : Sd) (f : Int) (x : Se) : Sd × Tr := if askN S f x = 0 then (S.set (plF f) ((S (plF f)).asked x), ⟨f, x, false⟩) else (S, Tr.zero)
def hasS (S : Sd) (f : Int) : Se := if isF f = true then (S (plF f)).has else ⟨0, 0⟩
def waitsTo (S : Sd) : Nat → Nat
  | 0 => 0
  | k + 1 => waitsTo S k + if (S k).waits then 1 else 0
def waitsS (S : Sd) : Nat := waitsTo S 18
theorem waitsTo_le (S : Sd) (k : Nat) : waitsTo S k ≤ k := by
  induction k with
  | zero => exact Nat.le_refl _
  | succ k ih => unfold waitsTo; split <;> omega
theorem waits_none {S : Sd} (h : ∀ i, i < 18 → (S i).waits = false) : waitsS S = 0 := by
  have key : ∀ k, k ≤ 18 → waitsTo S k = 0 := by
    intro k
    induction k with
    | zero => intro _; rfl
    | succ k ih =>
      intro hk
      unfold waitsTo
      rw [ih (by omega), h k (by omega)]
      rfl
  exact key 18 (Nat.le_refl _)

theorem plF_lt {f : Int} (h : isF f = true) : plF f < 18 := by
  rw [isF_iff] at h
  unfold plF
  omega
theorem plF_at {f : Int} (h : isF f = true) : ((plF f : Nat) : Int) = f - 1 := by
  rw [isF_iff] at h
  unfold plF
  omega

theorem hearS_not {S : Sd} {t : Tr} (h : t.right = false) : hearS S t = (S, Tr.zero, false) := by
  unfold hearS
  rw [if_neg (by rw [h]; decide)]
theorem hearS_still {S : Sd} {t : Tr} (h : t.right = true) (hs : t.x = (S (plF t.f)).has ∨ t.ack = true) : hearS S t = (S.set (plF t.f) ⟨(S (plF t.f)).has, (S (plF t.f)).holds, false⟩, Tr.zero, false) := by
  unfold hearS
  rw [if_pos h, Ch.hear, if_pos hs]
theorem hearS_told {S : Sd} {t : Tr} (h : t.right = true) (hs : ¬ (t.x = (S (plF t.f)).has ∨ t.ack = true)) :
    hearS S t = (S.set (plF t.f) ⟨(ansS t.x (S (plF t.f)).holds).1, (S (plF t.f)).holds, false⟩, ⟨t.f, (ansS t.x (S (plF t.f)).holds).1, (ansS t.x (S (plF t.f)).holds).2⟩, true) := by
  unfold hearS
  rw [if_pos h, Ch.hear, if_neg hs]

/-- What a side has and holds is right, and no Default. -/
def Ch.Ok (c : Ch) : Prop := c.has.fine = true ∧ c.has.l ≠ 3 ∧ c.holds.fine = true ∧ c.holds.l ≠ 3
theorem Ch.zero_ok : Ch.zero.Ok := ⟨rfl, by decide, rfl, by decide⟩
theorem holdOf_ok (x : Se) : (holdOf x).fine = true ∧ (holdOf x).l ≠ 3 := by
  unfold holdOf
  split
  · next h => exact h
  · decide
theorem newS_ok (l : List Se) (i : Nat) : (newS l i).Ok := by
  refine ⟨(rfl : Se.fine ⟨0, 0⟩ = true), (by decide : (0 : Int) ≠ 3), ?_⟩
  show (if i < 18 then _ else _ : Se).fine = true ∧ (if i < 18 then _ else _ : Se).l ≠ 3
  split
  · exact holdOf_ok _
  · decide
theorem ansS_ok {x h : Se} (hx : x.fine = true) (hh : h.fine = true) (h3 : h.l ≠ 3) : (ansS x h).1.fine = true ∧ (ansS x h).1.l ≠ 3 := by
  unfold ansS
  split
  · next e =>
    refine ⟨hx, ?_⟩
    show x.l ≠ 3
    omega
  · split
    · exact ⟨rfl, by decide⟩
    · exact ⟨hh, h3⟩
theorem Ch.hear_ok {c : Ch} (h : c.Ok) {x : Se} (hx : x.fine = true) (a : Bool) : (c.hear x a).1.Ok := by
  unfold Ch.hear
  split
  · exact h
  · exact ⟨(ansS_ok hx h.2.2.1 h.2.2.2).1, (ansS_ok hx h.2.2.1 h.2.2.2).2, h.2.2⟩
theorem Ch.asked_ok {c : Ch} (h : c.Ok) {x : Se} (hx : x.fine = true) : (c.asked x).Ok := by
  unfold Ch.asked
  refine ⟨?_, ?_, h.2.2⟩
  · show (if x.l = 3 then c.has else x).fine = true
    split
    · exact h.1
    · exact hx
  · show (if x.l = 3 then c.has else x).l ≠ 3
    split
    · exact h.2.1
    · assumption
end Go.Proofs.YtbnfhklpobephaaGreatDoor
/- &T{}: a struct's new variable; two cells stored into a block known whole. -/
namespace Go.Proofs.YtbnfhklpobephaaGreatDoor
open Go Go.RowKit
set_option maxRecDepth 100000
set_option maxHeartbeats 4000000

theorem set2_eq (cs : List Value) (i : Nat) (a b : Value) (h : i + 1 < cs.length) : cs.take i ++ ([a, b] ++ cs.drop (i + 2)) = (cs.set i a).set (i + 1) b := by
  apply List.ext_getElem?
  intro j
  rw [List.getElem?_set, List.getElem?_set]
  rcases Nat.lt_trichotomy j i with hj | rfl | hj
  · rw [List.getElem?_append_left (by simp; omega), List.getElem?_take, if_pos hj, if_neg (by omega), if_neg (by omega)]
  · rw [List.getElem?_append_right (by simp; omega), if_neg (by omega)]
    simp [Nat.min_eq_left (Nat.le_of_lt (Nat.lt_of_succ_lt h)), Nat.lt_of_succ_lt h]
  · rw [List.getElem?_append_right (by simp; omega)]
    have hm : (cs.take i).length = i := by rw [List.length_take]; omega
    rw [hm]
    rcases Nat.lt_or_ge j (i + 2) with h2 | h2
    · obtain rfl : j = i + 1 := by omega
      rw [if_pos rfl, if_pos (by simp; omega)]
      simp
    · rw [if_neg (by omega), if_neg (by omega), List.getElem?_append_right (by simp; omega), List.getElem?_drop]
      congr 1
      simp
      omega

section
variable {P : Program} {ops : Array Oper} {rest : List Oper} {o : Oper} {a : Act} {w : World} {Q : Exit → Act → World → Prop}
/-- &T{}: a new variable that holds so many cells. -/
theorem step_box (hgd : o.guard = none) (t : TypeId) (x : Operand) (ho : o.op = .box t x) (cells : List Value) (hx : a.eval x = .agg cells.toArray)
    (h : wpList P ops Q rest (a.put o.dst (.pointer (some ⟨w.heap.size, 0, none⟩))) (w.alloc (.cells cells.toArray t))) : wpList P ops Q (o :: rest) a w := by
  refine wpList_plain hgd fun K hK => ?_
  unfold Oper.wp execOp
  simp only [ho, hx, Sem.run_bind, Instr.box, newVar, newRow, run_newObj_alloc, Sem.run_pure, Result.andThen_ok]
  exact hK _ _ h
/-- Two cells are stored into a block known whole. -/
theorem step_store2 (hgd : o.guard = none) (ty : TypeId) (x y : Operand) (ho : o.op = .store ty x y) (g mo : Nat) (hx : a.eval x = .pointer (some ⟨g, mo, none⟩)) (u v : Value) (hy : a.eval y = .agg #[u, v])
    (t : TypeId) (cs : List Value) (hg : Blk w g t cs) (hl : mo + 1 < cs.length) (hi : (P.info? ty).map (·.size) = some 2) (hu : u.oneCell' = true) (hv : v.oneCell' = true)
    (h : ∀ w', Hid (Blk w' g t (cs.take mo ++ ([u, v] ++ cs.drop (mo + 2)))) → Hid (w'.heap.size = w.heap.size) → Only (· = g) w w' → wpList P ops Q rest (a.put o.dst undef) w') : wpList P ops Q (o :: rest) a w := by
  have e : cs = cs.take mo ++ ((cs.drop mo).take 2 ++ cs.drop (mo + 2)) := by
    rw [← List.drop_drop, List.take_append_drop, List.take_append_drop]
  rw [e] at hg
  exact step_storeM hgd ty x y ho g mo hx [u, v] hy t (cs.take mo) ((cs.drop mo).take 2) (cs.drop (mo + 2)) hg (by rw [List.length_take]; omega) hi (by simp; omega) (fun z hz => by simp at hz; rcases hz with rfl | rfl <;> assumption) h
end
end Go.Proofs.YtbnfhklpobephaaGreatDoor
