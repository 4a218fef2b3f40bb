/- Several texts in one. -/
import Derived.Test.YtbnfhklpobephaaGreatDoorJSnIn
import Derived.Deep.Strs
import Derived.Test.YtbnfhklpobephaaGreatDoorJBase
/- Rows of strings: what came in, what a call laid, a part of it; two of them compared. -/
namespace Go.Proofs.YtbnfhklpobephaaGreatDoor
open Go Go.ChangeShapes Go.WideShapes Go.ChangeAt Go.RowKit
set_option maxRecDepth 100000
set_option maxHeartbeats 4000000

/-- A string as a cell holds it. -/
@[reducible] def S8 (s : List UInt8) : Value := .string ⟨s.toArray⟩
theorem S8_one (ts : List (List UInt8)) : ∀ u ∈ ts.map S8, u.oneCell' = true := by
  intro u hu
  obtain ⟨x, _, rfl⟩ := List.mem_map.1 hu
  rfl
theorem info_str : (Tryz.prog.info? 9).map (fun i => (i.zero, i.size, i.bytes)) = some (some (.string ⟨#[]⟩), 1, 16) := by kernel_rfl

/-- A slice of strings. -/
def TSrc (w : World) (A : Option Addr) (n : Nat) (ts : List (List UInt8)) : Prop :=
  ts.length = n ∧ (0 < n → ∃ ad, A = some ad ∧ ∀ (j : Nat) (s : List UInt8), ts[j]? = some s → w.cell? (ad.add j) = some (.string ⟨s.toArray⟩))
section
variable {w w' : World} {A : Option Addr} {n : Nat} {ts : List (List UInt8)}
theorem TSrc.nil (w : World) (A : Option Addr) : TSrc w A 0 [] := ⟨rfl, fun h => absurd h (by omega)⟩
theorem TSrc.only {S : Nat → Prop} (h : TSrc w A n ts) (ho : Only S w w') (hS : 0 < n → ∀ ad, A = some ad → ¬ S ad.block) : TSrc w' A n ts :=
  ⟨h.1, fun hn => by
    obtain ⟨ad, e, hc⟩ := h.2 hn
    exact ⟨ad, e, fun j x hx => ho.cellv (hc j x hx) (by rw [block_add]; exact hS hn ad e)⟩⟩
theorem TSrc.same (h : TSrc w A n ts) (ho : Only (fun _ => False) w w') : TSrc w' A n ts := h.only ho (fun _ _ _ h => h)
theorem TSrc.lt (h : TSrc w A n ts) (hn : 0 < n) : ∀ ad, A = some ad → ad.block < w.heap.size := by
  obtain ⟨ad, e, hc⟩ := h.2 hn
  intro ad' e'
  rw [e] at e'
  injection e' with e'
  subst e'
  have hl := h.1
  have h1 := World.block_lt_of_cell? w _ (hc 0 (ts[0]'(by omega)) (List.getElem?_eq_getElem (by omega)))
  rwa [block_add] at h1
/-- .. what was there stays, whatever newer blocks turn. -/
theorem TSrc.old {S : Nat → Prop} (h : TSrc w A n ts) (ho : Only S w w') (hS : ∀ k, k < w.heap.size → ¬ S k) : TSrc w' A n ts := h.only ho (fun hn ad e => hS _ (h.lt hn ad e))
theorem TSrc.take (h : TSrc w A n ts) (k : Nat) (hk : k ≤ n) : TSrc w A k (ts.take k) := by
  refine ⟨by rw [List.length_take, h.1]; omega, fun h0 => ?_⟩
  obtain ⟨ad, e, hc⟩ := h.2 (by omega)
  refine ⟨ad, e, fun j x hx => ?_⟩
  rw [List.getElem?_take] at hx
  split at hx
  · exact hc j x hx
  · cases hx
theorem TSrc.of_blk {N : Nat} {e : TypeId} {cs : List Value} (h : Blk w N e cs) (hl : ts.length = n) (hx : ∀ (j : Nat) (x : List UInt8), ts[j]? = some x → cs[j]? = some (S8 x)) : TSrc w (some ⟨N, 0, none⟩) n ts :=
  ⟨hl, fun _ => ⟨_, rfl, fun j x hj => by rw [at_add, h.cell]; exact hx j x hj⟩⟩
theorem TSrc.of_own {B c : Nat} {e : TypeId} (h : w.ownsRow B e 1 (.slice A n c) n (ts.map S8)) : TSrc w A n ts := by
  refine ⟨by have := h.1; simpa using this, fun hn => ?_⟩
  obtain ⟨g, hA, _, _, hc⟩ := own_at h hn
  exact ⟨_, hA, fun j x hx => by rw [at_add]; exact hc j _ (by rw [List.getElem?_map, hx]; rfl)⟩
/-- One of them, in every world that only grew. -/
theorem TSrc.get (h : TSrc w A n ts) {k : Nat} (hk : k < n) : ∃ ad s, A = some ad ∧ ts[k]? = some s ∧ w.cell? (ad.add k) = some (.string ⟨s.toArray⟩) := by
  obtain ⟨ad, e, hc⟩ := h.2 (by omega)
  have hs : ts[k]? = some (ts[k]'(by rw [h.1]; exact hk)) := List.getElem?_eq_getElem _
  exact ⟨ad, _, e, hs, hc k _ hs⟩
end

/-- A slice of strings that came in. -/
theorem opened_texts {H : Type} {enc : TypeId × Value → H} {W : World} {spare : Nat → Bool} {fuel : Nat} {a0 : Option Addr} {len cap : Nat} {x : DataW H × List MemPlace} (hf : DataW.trod enc Tryz.prog W 0 spare true fuel 27 [.slice a0 len cap] = some x) :
    ∃ ts : List (List UInt8), TSrc W a0 len ts ∧ len ≤ cap ∧ cap ≤ 9223372036854775807 ∧ ∀ t ∈ ts, t.length ≤ 9223372036854775807 := by
  rcases Go.Deep.open_strs Tryz.underlying27 Tryz.underlying9 (by kernel_rfl) hf with ⟨hcs, _⟩ | ⟨a, l, c, m, Sx, hcs, _, hl, hm, hmm, _, hcell⟩
  · simp at hcs
    obtain ⟨rfl, rfl, rfl⟩ := hcs
    exact ⟨[], TSrc.nil _ _, Nat.le_refl _, by omega, fun _ h => by cases h⟩
  · simp at hcs
    obtain ⟨rfl, rfl, rfl⟩ := hcs
    have hlm : len ≤ m := by rw [hmm]; split <;> omega
    refine ⟨(List.range len).map fun i => (Sx i).data.toList, ⟨by simp, fun _ => ⟨_, rfl, fun j s hs => ?_⟩⟩, hl, by unfold maxLen at hm; omega, fun t ht => ?_⟩
    · rw [List.getElem?_map] at hs
      have hj : j < len := by
        rcases Nat.lt_or_ge j len with h | h
        · exact h
        · rw [List.getElem?_eq_none (by simpa using h)] at hs
          cases hs
      rw [List.getElem?_range hj] at hs
      simp only [Option.map_some, Option.some.injEq] at hs
      subst hs
      rw [(hcell j (by omega)).1]
    · obtain ⟨i, hi, rfl⟩ := List.mem_map.1 ht
      have := (hcell i (by have := List.mem_range.1 hi; omega)).2
      have e : (Sx i).data.toList.length = (Sx i).size := Array.length_toList
      rw [e]
      exact this
end Go.Proofs.YtbnfhklpobephaaGreatDoor
/- Terminal types as plain functions: a type, a cycle's answers, what is gathered, what a body says. -/
namespace Go.Proofs.YtbnfhklpobephaaGreatDoor
open Go Go.RowKit
/-- A type's byte. -/
def okB (c : UInt8) : Bool := decide (33 ≤ c.toNat) && decide (c.toNat ≤ 126)
/-- A type. -/
def okT (s : List UInt8) : Bool := decide (1 ≤ s.length) && decide (s.length ≤ 24) && s.all okB
theorem okB_iff {c : UInt8} : okB c = true ↔ 33 ≤ c.toNat ∧ c.toNat ≤ 126 := by simp [okB]
theorem okT_iff {s : List UInt8} : okT s = true ↔ 1 ≤ s.length ∧ s.length ≤ 24 ∧ ∀ c ∈ s, okB c = true := by simp [okT, and_assoc]
theorem okT_long {s : List UInt8} (h : 24 < s.length) : okT s = false := by
  unfold okT
  rw [decide_eq_false (by omega : ¬ s.length ≤ 24)]
  simp
/-- The bytes up to k are a type's. -/
def TtGood (s : List UInt8) (k : Nat) : Prop := ∀ c ∈ s.take k, okB c = true
theorem TtGood.zero (s : List UInt8) : TtGood s 0 := by intro c hc; simp at hc
theorem TtGood.succ {s : List UInt8} {k : Nat} {x : UInt8} (h : TtGood s k) (hx : s[k]? = some x) (ho : okB x = true) : TtGood s (k + 1) := by
  intro c hc
  rw [List.take_add_one, hx] at hc
  rcases List.mem_append.1 hc with h1 | h1
  · exact h c h1
  · simp at h1; rw [h1]; exact ho
theorem TtGood.all {s : List UInt8} {n : Nat} (h : TtGood s n) (hn : n = s.length) (h1 : 1 ≤ n) (h24 : n ≤ 24) : okT s = true := by
  subst hn
  refine okT_iff.2 ⟨h1, h24, fun c hc => h c ?_⟩
  rw [List.take_length]
  exact hc
theorem okT_bad {s : List UInt8} {k : Nat} {x : UInt8} (hx : s[k]? = some x) (ho : okB x = false) : okT s = false := by
  cases h : okT s with
  | false => rfl
  | true =>
    have := (okT_iff.1 h).2.2 x (List.mem_of_getElem? hx)
    rw [ho] at this
    cases this

/-- The answer number n of a cycle. -/
def ansT (ts : List (List UInt8)) (n : Nat) : List UInt8 := ts.getD (min (n % (ts.length + 1)) (ts.length - 1)) []
theorem ansT_get {ts : List (List UInt8)} (h : 0 < ts.length) (n : Nat) : ts[min (n % (ts.length + 1)) (ts.length - 1)]? = some (ansT ts n) := by
  unfold ansT
  have hl : min (n % (ts.length + 1)) (ts.length - 1) < ts.length := by omega
  rw [List.getD_eq_getElem?_getD, List.getElem?_eq_getElem hl]
  rfl

/-- What is gathered. -/
structure Ls where
  names : List (List UInt8)
  whole : Bool
def Ls.take (l : Ls) (s : List UInt8) : Ls :=
  if l.whole || !okT s then l else if l.names.getLast? = some s then ⟨l.names, true⟩ else ⟨l.names ++ [s], decide (l.names.length + 1 = 8)⟩
structure Ls.Ok (l : Ls) : Prop where
  most : l.names.length ≤ 8
  room : l.whole = false → l.names.length < 8
def Ls.none : Ls := ⟨[], false⟩
theorem Ls.none_ok : Ls.none.Ok := ⟨by simp [Ls.none], fun _ => by simp [Ls.none]⟩
theorem Ls.take_full {l : Ls} {s : List UInt8} (h : l.whole = true) : l.take s = l := by simp [Ls.take, h]
theorem Ls.take_bad {l : Ls} {s : List UInt8} (h : okT s = false) : l.take s = l := by simp [Ls.take, h]
theorem Ls.take_end {l : Ls} {s : List UInt8} (h : l.whole = false) (ho : okT s = true) (hl : l.names.getLast? = some s) : l.take s = ⟨l.names, true⟩ := by simp [Ls.take, h, ho, hl]
theorem Ls.take_new {l : Ls} {s : List UInt8} (h : l.whole = false) (ho : okT s = true) (hl : l.names.getLast? ≠ some s) : l.take s = ⟨l.names ++ [s], decide (l.names.length + 1 = 8)⟩ := by simp [Ls.take, h, ho, hl]
theorem Ls.Ok.take {l : Ls} (h : l.Ok) (s : List UInt8) : (l.take s).Ok := by
  unfold Ls.take
  split
  · exact h
  · rename_i h1
    simp only [Bool.or_eq_true, not_or, Bool.not_eq_true] at h1
    have := h.room h1.1
    split
    · exact ⟨h.most, fun h => by cases h⟩
    · refine ⟨by simp; omega, fun h2 => ?_⟩
      simp at h2 ⊢
      omega
/-- What a body says: the type, whether it asks, the error's number. -/
def saysT (b : List UInt8) : List UInt8 × Bool × Nat :=
  match b with
  | [] => ([], false, 3)
  | c :: r => if c.toNat = 1 then (match r with | [] => ([], true, 0) | _ :: _ => ([], false, 4)) else if 1 < c.toNat then ([], false, 5) else if okT r then (r, false, 0) else ([], false, 6)
end Go.Proofs.YtbnfhklpobephaaGreatDoor
/- A list of types: its cells. -/
namespace Go.Proofs.YtbnfhklpobephaaGreatDoor
open Go Go.RowKit
set_option maxRecDepth 100000

/-- A list's cells. -/
def cellsL (l : Ls) : List Value := (l.names.map S8 ++ List.replicate (8 - l.names.length) (S8 [])) ++ [.int .i64 (l.names.length : Int), .bool l.whole]
section
variable {l : Ls} (h : l.Ok)
include h
theorem cellsL_front : (l.names.map S8 ++ List.replicate (8 - l.names.length) (S8 [])).length = 8 := by
  have := h.most
  simp
  omega
theorem cellsL_len : (cellsL l).length = 10 := by
  unfold cellsL
  rw [List.length_append, cellsL_front h]
  rfl
omit h in
theorem cellsL_name {i : Nat} {s : List UInt8} (hi : l.names[i]? = some s) : (cellsL l)[i]? = some (S8 s) := by
  have := (List.getElem?_eq_some_iff.1 hi).1
  unfold cellsL
  rw [List.append_assoc, List.getElem?_append_left (by rw [List.length_map]; exact this), List.getElem?_map, hi]
  rfl
theorem cellsL_count : (cellsL l)[8]? = some (.int .i64 (l.names.length : Int)) := by
  unfold cellsL
  rw [List.getElem?_append_right (by rw [cellsL_front h]; omega), cellsL_front h]
  rfl
theorem cellsL_whole : (cellsL l)[9]? = some (.bool l.whole) := by
  unfold cellsL
  rw [List.getElem?_append_right (by rw [cellsL_front h]; omega), cellsL_front h]
  rfl
theorem cellsL_end (b : Bool) : (cellsL l).set 9 (.bool b) = cellsL ⟨l.names, b⟩ := by
  unfold cellsL
  rw [List.set_append_right _ _ (by rw [cellsL_front h]; omega), cellsL_front h]
  rfl
theorem cellsL_new (hr : l.names.length < 8) (s : List UInt8) (b : Bool) : (((cellsL l).set l.names.length (S8 s)).set 8 (.int .i64 ((l.names.length : Int) + 1))).set 9 (.bool b) = cellsL ⟨l.names ++ [s], b⟩ := by
  have hf := cellsL_front h
  have hF : (l.names.map S8 ++ List.replicate (8 - l.names.length) (S8 [])).set l.names.length (S8 s) = (l.names ++ [s]).map S8 ++ List.replicate (8 - (l.names ++ [s]).length) (S8 []) := by
    rw [List.set_append_right _ _ (by simp), List.length_map, Nat.sub_self, show 8 - l.names.length = (8 - (l.names ++ [s]).length) + 1 from by simp; omega, List.replicate_succ, List.set_cons_zero]
    simp
  unfold cellsL
  rw [List.set_append_left _ _ (by rw [hf]; exact hr), hF]
  have hl : ((l.names ++ [s]).map S8 ++ List.replicate (8 - (l.names ++ [s]).length) (S8 [])).length = 8 := by
    simp
    omega
  rw [List.set_append_right _ _ (by rw [hl]; omega), List.set_append_right _ _ (by rw [hl]; omega), hl]
  simp
end

end Go.Proofs.YtbnfhklpobephaaGreatDoor
/- Layer 14 as plain functions: settings and triples; what a side has, holds and waits for; what comes of a triple that is heard, and of asking. -/
namespace Go.Proofs.YtbnfhklpobephaaGreatDoor

structure Se where
  l : Int
  v : Int
  deriving DecidableEq
/-- Is it a setting? -/
def Se.fine (x : Se) : Bool := (decide (x.l = 0 ∨ x.l = 3) && decide (x.v = 0)) || (decide (x.l = 1 ∨ x.l = 2) && decide (0 ≤ x.v ∧ x.v ≤ 255))
theorem Se.fine_iff {x : Se} : x.fine = true ↔ ((x.l = 0 ∨ x.l = 3) ∧ x.v = 0) ∨ ((x.l = 1 ∨ x.l = 2) ∧ 0 ≤ x.v ∧ x.v ≤ 255) := by
  unfold Se.fine
  simp
theorem Se.v_of {x : Se} (h : x.fine = true) : 0 ≤ x.v ∧ x.v ≤ 255 := by
  rw [Se.fine_iff] at h
  omega
theorem Se.l_of {x : Se} (h : x.fine = true) : 0 ≤ x.l ∧ x.l ≤ 3 := by
  rw [Se.fine_iff] at h
  omega

structure Tr where
  f : Int
  x : Se
  ack : Bool
  deriving DecidableEq
def Tr.zero : Tr := ⟨0, ⟨0, 0⟩, false⟩
def isF (n : Int) : Bool := decide (1 ≤ n ∧ n ≤ 18)
theorem isF_iff {n : Int} : isF n = true ↔ 1 ≤ n ∧ n ≤ 18 := by simp [isF]
def Tr.right (t : Tr) : Bool := isF t.f && t.x.fine

/-- What a side has, and holds, of a function, and whether it waits. -/
structure Ch where
  has : Se
  holds : Se
  waits : Bool
  deriving DecidableEq
def Ch.zero : Ch := ⟨⟨0, 0⟩, ⟨0, 0⟩, false⟩
/-- What a side has behind a setting that is heard and isn't what it has; whether it agrees. -/
def ansS (x h : Se) : Se × Bool :=
  if x.l = 0 ∨ (h.l = 2 ∧ x.l ≠ 3) then (x, true) else if x.l = 1 then (⟨0, 0⟩, false) else (h, false)
def Ch.hear (c : Ch) (x : Se) (ack : Bool) : Ch × Option (Se × Bool) :=
  if x = c.has ∨ ack = true then (⟨c.has, c.holds, false⟩, none) else (⟨(ansS x c.holds).1, c.holds, false⟩, some (ansS x c.holds))
/-- The error's number, or 0. -/
def Ch.askN (c : Ch) (x : Se) : Nat := if c.waits then 10 else if x = c.has then 8 else 0
def Ch.asked (c : Ch) (x : Se) : Ch := ⟨if x.l = 3 then c.has else x, c.holds, true⟩

/-- A side: of each function's place. -/
abbrev Sd := Nat → Ch
def Sd.zero : Sd := fun _ => Ch.zero
def Sd.set (S : Sd) (i : Nat) (c : Ch) : Sd := fun j => if j = i then c else S j
theorem Sd.set_self (S : Sd) (i : Nat) (c : Ch) : S.set i c i = c := by simp [Sd.set]
theorem Sd.set_ne (S : Sd) {i j : Nat} (c : Ch) (h : j ≠ i) : S.set i c j = S j := by simp [Sd.set, h]
theorem Sd.set_set (S : Sd) (i : Nat) (c d : Ch) : (S.set i c).set i d = S.set i d := by
  funext j
  unfold Sd.set
  split <;> rfl
/-- A side that holds settings. -/
def holdOf (x : Se) : Se := if x.fine = true ∧ x.l ≠ 3 then x else ⟨0, 0⟩
def newS (l : List Se) : Sd := fun i => ⟨⟨0, 0⟩, if i < 18 then holdOf (l.getD i ⟨0, 0⟩) else ⟨0, 0⟩, false⟩
/-- A function's place. -/
def plF (f : Int) : Nat := (f - 1).toNat
def hearS (S : Sd) (t : Tr) : Sd × Tr × Bool :=
  if t.right = true then
    match (S (plF t.f)).hear t.x t.ack with
    | (c, none) => (S.set (plF t.f) c, Tr.zero, false)
    | (c, some y) => (S.set (plF t.f) c, ⟨t.f, y.1, y.2⟩, true)
  else (S, Tr.zero, false)
/-- The error's number of an asking, or 0. -/
def askN (S : Sd) (f : Int) (x : Se) : Nat :=
  if isF f = false then 1 else if x.fine = false ∨ x.l = 0 then 5 else (S (plF f)).askN x
def askS (S : Sd) (f : Int) (x : Se) : Sd × Tr := if askN S f x = 0 then (S.set (plF f) ((S (plF f)).asked x), ⟨f, x, false⟩) else (S, Tr.zero)
def hasS (S : Sd) (f : Int) : Se := if isF f = true then (S (plF f)).has else ⟨0, 0⟩
def waitsTo (S : Sd) : Nat → Nat
  | 0 => 0
  | k + 1 => waitsTo S k + if (S k).waits then 1 else 0
def waitsS (S : Sd) : Nat := waitsTo S 18
theorem plF_lt {f : Int} (h : isF f = true) : plF f < 18 := by
  rw [isF_iff] at h
  unfold plF
  omega
theorem plF_at {f : Int} (h : isF f = true) : ((plF f : Nat) : Int) = f - 1 := by
  rw [isF_iff] at h
  unfold plF
  omega

theorem hearS_not {S : Sd} {t : Tr} (h : t.right = false) : hearS S t = (S, Tr.zero, false) := by
  unfold hearS
  rw [if_neg (by rw [h]; decide)]
theorem hearS_still {S : Sd} {t : Tr} (h : t.right = true) (hs : t.x = (S (plF t.f)).has ∨ t.ack = true) : hearS S t = (S.set (plF t.f) ⟨(S (plF t.f)).has, (S (plF t.f)).holds, false⟩, Tr.zero, false) := by
  unfold hearS
  rw [if_pos h, Ch.hear, if_pos hs]
theorem hearS_told {S : Sd} {t : Tr} (h : t.right = true) (hs : ¬ (t.x = (S (plF t.f)).has ∨ t.ack = true)) :
    hearS S t = (S.set (plF t.f) ⟨(ansS t.x (S (plF t.f)).holds).1, (S (plF t.f)).holds, false⟩, ⟨t.f, (ansS t.x (S (plF t.f)).holds).1, (ansS t.x (S (plF t.f)).holds).2⟩, true) := by
  unfold hearS
  rw [if_pos h, Ch.hear, if_neg hs]

/-- What a side has and holds is right, and no Default. -/
def Ch.Ok (c : Ch) : Prop := c.has.fine = true ∧ c.has.l ≠ 3 ∧ c.holds.fine = true ∧ c.holds.l ≠ 3
theorem Ch.zero_ok : Ch.zero.Ok := ⟨rfl, by decide, rfl, by decide⟩
end Go.Proofs.YtbnfhklpobephaaGreatDoor
/- &T{}: a struct's new variable; two cells stored into a block known whole. -/
namespace Go.Proofs.YtbnfhklpobephaaGreatDoor
open Go Go.RowKit
set_option maxRecDepth 100000
set_option maxHeartbeats 4000000

theorem set2_eq (cs : List Value) (i : Nat) (a b : Value) (h : i + 1 < cs.length) : cs.take i ++ ([a, b] ++ cs.drop (i + 2)) = (cs.set i a).set (i + 1) b := by
  apply List.ext_getElem?
  intro j
  rw [List.getElem?_set, List.getElem?_set]
  rcases Nat.lt_trichotomy j i with hj | rfl | hj
  · rw [List.getElem?_append_left (by simp; omega), List.getElem?_take, if_pos hj, if_neg (by omega), if_neg (by omega)]
  · rw [List.getElem?_append_right (by simp; omega), if_neg (by omega)]
    simp [Nat.min_eq_left (Nat.le_of_lt (Nat.lt_of_succ_lt h)), Nat.lt_of_succ_lt h]
  · rw [List.getElem?_append_right (by simp; omega)]
    have hm : (cs.take i).length = i := by rw [List.length_take]; omega
    rw [hm]
    rcases Nat.lt_or_ge j (i + 2) with h2 | h2
    · obtain rfl : j = i + 1 := by omega
      rw [if_pos rfl, if_pos (by simp; omega)]
      simp
    · rw [if_neg (by omega), if_neg (by omega), List.getElem?_append_right (by simp; omega), List.getElem?_drop]
      congr 1
      simp
      omega

section
variable {P : Program} {ops : Array Oper} {rest : List Oper} {o : Oper} {a : Act} {w : World} {Q : Exit → Act → World → Prop}
/-- &T{}: a new variable that holds so many cells. -/
theorem step_box (hgd : o.guard = none) (t : TypeId) (x : Operand) (ho : o.op = .box t x) (cells : List Value) (hx : a.eval x = .agg cells.toArray)
    (h : wpList P ops Q rest (a.put o.dst (.pointer (some ⟨w.heap.size, 0, none⟩))) (w.alloc (.cells cells.toArray t))) : wpList P ops Q (o :: rest) a w := by
  refine wpList_plain hgd fun K hK => ?_
  unfold Oper.wp execOp
  simp only [ho, hx, Sem.run_bind, Instr.box, newVar, newRow, run_newObj_alloc, Sem.run_pure, Result.andThen_ok]
  exact hK _ _ h
/-- Two cells are stored into a block known whole. -/
theorem step_store2 (hgd : o.guard = none) (ty : TypeId) (x y : Operand) (ho : o.op = .store ty x y) (g mo : Nat) (hx : a.eval x = .pointer (some ⟨g, mo, none⟩)) (u v : Value) (hy : a.eval y = .agg #[u, v])
    (t : TypeId) (cs : List Value) (hg : Blk w g t cs) (hl : mo + 1 < cs.length) (hi : (P.info? ty).map (·.size) = some 2) (hu : u.oneCell' = true) (hv : v.oneCell' = true)
    (h : ∀ w', Hid (Blk w' g t (cs.take mo ++ ([u, v] ++ cs.drop (mo + 2)))) → Hid (w'.heap.size = w.heap.size) → Only (· = g) w w' → wpList P ops Q rest (a.put o.dst undef) w') : wpList P ops Q (o :: rest) a w := by
  have e : cs = cs.take mo ++ ((cs.drop mo).take 2 ++ cs.drop (mo + 2)) := by
    rw [← List.drop_drop, List.take_append_drop, List.take_append_drop]
  rw [e] at hg
  exact step_storeM hgd ty x y ho g mo hx [u, v] hy t (cs.take mo) ((cs.drop mo).take 2) (cs.drop (mo + 2)) hg (by rw [List.length_take]; omega) hi (by simp; omega) (fun z hz => by simp at hz; rcases hz with rfl | rfl <;> assumption) h
end
end Go.Proofs.YtbnfhklpobephaaGreatDoor
