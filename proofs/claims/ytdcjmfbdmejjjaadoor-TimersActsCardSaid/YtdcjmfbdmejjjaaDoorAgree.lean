/- The timers and the document's own, call by call: the same answers, said once for both. -/
import Derived.Test.YtdcjmfbdmejjjaaDoorRefV
import Derived.Test.YtdcjmfbdmejjjaaDoorSet
namespace Go.Proofs.YtdcjmfbdmejjjaaDoor
open Go Go.RowKit
set_option maxRecDepth 100000

/-- An error, by its number; none is 0. -/
def ErrV (es : List Addr) (v : Value) (num : Nat) : Prop := (num = 0 ∧ v = .nilIface) ∨ ∃ i a, num = i + 1 ∧ es[i]? = some a ∧ v = errV a
theorem num_any {W : World} {es : List Addr} (h : ErrsAt W es) {v : Value} {num : Nat} (hv : ErrV es v num) :
    Calls Tryd.prog 7 #[v] W fun e w' => e = .returned (.int .i64 (num : Int)) ∧ Only (fun _ => False) W w' := by
  rcases hv with ⟨rfl, rfl⟩ | ⟨i, a, rfl, ha, rfl⟩
  · refine (num_nil W).mono ?_
    rintro e w' ⟨rfl, rfl⟩
    exact ⟨rfl, Only.refl _ _⟩
  · exact num_err h i a ha

/-! What is answered, as plain functions of the timers. -/
def setNum (now : Int) (ts : List Tm) (key at_ : Int) : Nat :=
  if at_ < now ∨ 1099511627776 < at_ then 1 else if 16 ≤ ts.length ∧ ts.any (fun x => x.1 == key) = false then 2 else 0
def setList (now : Int) (ts : List Tm) (key at_ : Int) : List Tm :=
  if setNum now ts key at_ = 0 then (key, at_) :: ts.filter (fun x => !(x.1 == key)) else ts
def tickBad (now n : Int) : Bool := decide (n < 0 ∨ 1099511627776 - now < n)
def tickNum (now n : Int) : Nat := if tickBad now n = true then 1 else 0
def tickNow (now n : Int) : Int := if tickBad now n = true then now else now + n
def tickOut (now n : Int) (ts : List Tm) : List Tm := if tickBad now n = true then [] else ts.filter fun x => decide (x.2 ≤ now + n)
def tickList (now n : Int) (ts : List Tm) : List Tm := if tickBad now n = true then ts else ts.filter fun x => !decide (x.2 ≤ now + n)
def n1 : List Tm → Int
  | [] => 0
  | x :: _ => x.1
def n2 : List Tm → Int
  | [] => 0
  | x :: _ => x.2
def n3 : List Tm → Bool
  | [] => false
  | _ :: _ => true
def at1 (ts : List Tm) (key : Int) : Int := ((ts.find? fun x => x.1 == key).map (·.2)).getD 0
def at2 (ts : List Tm) (key : Int) : Bool := (ts.find? fun x => x.1 == key).isSome

theorem any_perm {l ts : List Tm} (h : l.Perm ts) (p : Tm → Bool) : l.any p = ts.any p := by
  rw [Bool.eq_iff_iff, List.any_eq_true, List.any_eq_true]
  constructor
  · rintro ⟨x, h1, h2⟩; exact ⟨x, h.mem_iff.1 h1, h2⟩
  · rintro ⟨x, h1, h2⟩; exact ⟨x, h.mem_iff.2 h1, h2⟩
theorem any_false {ts : List Tm} {p : Tm → Bool} (h : ts.any p = false) : ∀ x ∈ ts, p x = false := by
  intro x hx
  have := List.any_eq_false.1 h x hx
  simpa using this
theorem rest_lt {ts : List Tm} (hm : ts.length ≤ 16) (p : Tm → Bool) (h : ts.length < 16 ∨ ts.any p = true) : (ts.filter fun x => !p x).length < 16 := by
  have h1 := List.length_filter_le (fun x => !p x) ts
  rcases h with h | h
  · omega
  · rcases Nat.lt_or_ge (ts.filter fun x => !p x).length 16 with h2 | h2
    · exact h2
    · exfalso
      have h3 := List.length_filter_eq_length_iff.1 (show (ts.filter fun x => !p x).length = ts.length by omega)
      obtain ⟨x, hx, hp⟩ := List.any_eq_true.1 h
      have := h3 x hx
      rw [hp] at this
      cases this

section
variable {B p m c : Nat} {w : World} {now : Int} {A : Option Addr} {ts l : List Tm}
def SetAns (w : World) (es : List Addr) (p : Nat) (now : Int) (num : Nat) (to : List Tm) (e : Ending) (w' : World) : Prop :=
  ∃ v A c ts', e = .returned v ∧ ErrV es v num ∧ IsTm 0 w' p now A c ts' ∧ Good ts' ∧ ts'.Perm to ∧ Only (· = p) w w'
theorem set_any {es : List Addr} (hes : ErrsIn w 2 es) (h : IsTm B w p now A c ts) (hg : Good ts) (key at_ : Int) :
    Calls Tryd.prog 8 #[.pointer (some ⟨p, 0, none⟩), .int .i64 key, .int .i64 at_] w (SetAns w es p now (setNum now ts key at_) (setList now ts key at_)) := by
  by_cases hr : at_ < now ∨ 1099511627776 < at_
  · have e : setNum now ts key at_ = 1 := by rw [setNum, if_pos hr]
    obtain ⟨a, ha, C⟩ := tmSet_range hes h key at_ hr
    refine C.mono ?_
    rintro e' w' ⟨rfl, ho⟩
    rw [setList, e, if_neg (by omega)]
    exact ⟨_, A, c, ts, rfl, .inr ⟨0, a, rfl, ha, rfl⟩, (h.same ho).mono (Nat.zero_le _), hg, List.Perm.refl _, ho.mono (fun _ h => h.elim)⟩
  · by_cases hf : 16 ≤ ts.length ∧ ts.any (fun x => x.1 == key) = false
    · have e : setNum now ts key at_ = 2 := by rw [setNum, if_neg hr, if_pos hf]
      obtain ⟨a, ha, C⟩ := tmSet_full hes h key at_ (by omega) (by omega) hf.1 (any_false hf.2)
      refine C.mono ?_
      rintro e' w' ⟨rfl, ho⟩
      rw [setList, e, if_neg (by omega)]
      exact ⟨_, A, c, ts, rfl, .inr ⟨1, a, rfl, ha, rfl⟩, (h.same ho).mono (Nat.zero_le _), hg, List.Perm.refl _, ho.mono (fun _ h => h.elim)⟩
    · have e : setNum now ts key at_ = 0 := by rw [setNum, if_neg hr, if_neg hf]
      have hc : ts.length < 16 ∨ ts.any (fun x => x.1 == key) = true := by
        by_cases h16 : ts.length < 16
        · exact .inl h16
        · right
          cases hb : ts.any (fun x => x.1 == key)
          · exact absurd ⟨by omega, hb⟩ hf
          · rfl
      have hgr := hg.filter (fun x => !(x.1 == key))
      refine (tmSet_ok h key at_ (by omega) (by omega) hc _ rfl (rest_lt h.most _ hc) (hgr.mono_cmp (key, at_))).mono ?_
      rintro e' w' ⟨i, A', c', rfl, _, hlo, hhi, ht, ho⟩
      rw [setList, e, if_pos rfl]
      refine ⟨_, A', c', _, rfl, .inl ⟨rfl, rfl⟩, ht.mono (Nat.zero_le _), hgr.insert (key, at_) (fun x hx => ?_) i hlo hhi, perm_in _ _ _, ho⟩
      have := (List.mem_filter.1 hx).2
      simpa using this

def RfAns (w : World) (m : Nat) (now : Int) (v : Value) (to : List Tm) (e : Ending) (w' : World) : Prop :=
  ∃ A c l, e = .returned v ∧ IsRf w' m now A c l ∧ l.Perm to ∧ Only (· = m) w w'
theorem rset_any (h : IsRf w m now A c l) (hp : l.Perm ts) (hg : Good ts) (key at_ : Int) :
    Calls Tryd.prog 9 #[.pointer (some ⟨m, 0, none⟩), .int .i64 key, .int .i64 at_] w (RfAns w m now (.int .i64 (setNum now ts key at_ : Nat)) (setList now ts key at_)) := by
  have hl := hp.length_eq
  have ha := any_perm hp (fun x => x.1 == key)
  by_cases hr : at_ < now ∨ 1099511627776 < at_
  · have e : setNum now ts key at_ = 1 := by rw [setNum, if_pos hr]
    refine (rfSet_range h key at_ hr).mono ?_
    rintro e' w' ⟨rfl, ho⟩
    rw [setList, e, if_neg (by omega)]
    exact ⟨A, c, l, rfl, h.same ho, hp, ho.mono (fun _ h => h.elim)⟩
  · by_cases hf : 16 ≤ ts.length ∧ ts.any (fun x => x.1 == key) = false
    · have e : setNum now ts key at_ = 2 := by rw [setNum, if_neg hr, if_pos hf]
      refine (rfSet_full h key at_ (by omega) (by omega) (by have := h.most; omega) (any_false (ha.trans hf.2))).mono ?_
      rintro e' w' ⟨rfl, ho⟩
      rw [setList, e, if_neg (by omega)]
      exact ⟨A, c, l, rfl, h.same ho, hp, ho.mono (fun _ h => h.elim)⟩
    · have e : setNum now ts key at_ = 0 := by rw [setNum, if_neg hr, if_neg hf]
      have hc : l.length < 16 ∨ l.any (fun x => x.1 == key) = true := by
        by_cases h16 : l.length < 16
        · exact .inl h16
        · right
          cases hb : l.any (fun x => x.1 == key)
          · exact absurd ⟨by omega, ha.symm.trans hb⟩ hf
          · rfl
      refine (rfSet_ok h key at_ (by omega) (by omega) _ rfl (rest_lt h.most _ hc) ?_).mono ?_
      · rcases first_of (fun x => x.1 == key) l with hno | ⟨k, x, h1, h2, h3⟩
        · rcases hc with hc | hc
          · exact .inl ⟨hc, hno⟩
          · obtain ⟨x, hx, hk⟩ := List.any_eq_true.1 hc
            rw [hno x hx] at hk
            cases hk
        · exact .inr ⟨k, x, h1, h2, h3⟩
      · rintro e' w' ⟨A', c', rfl, ht, ho⟩
        rw [setList, e, if_pos rfl]
        refine ⟨A', c', _, rfl, ht, ?_, ho⟩
        refine List.perm_append_comm.trans ?_
        exact (hp.filter _).cons _

/-- Clear. -/
def ClearAns (w : World) (p : Nat) (now : Int) (b : Bool) (to : List Tm) (e : Ending) (w' : World) : Prop :=
  ∃ A c, e = .returned (.bool b) ∧ IsTm 0 w' p now A c to ∧ Only (· = p) w w'
theorem clear_any (h : IsTm B w p now A c ts) (key : Int) : Calls Tryd.prog 10 #[.pointer (some ⟨p, 0, none⟩), .int .i64 key] w
    (ClearAns w p now (ts.any fun x => x.1 == key) (ts.filter fun x => !(x.1 == key))) := by
  refine (tmClear h key).mono ?_
  rintro e w' ⟨A', c', rfl, ht, ho⟩
  exact ⟨A', c', rfl, ht.mono (Nat.zero_le _), ho⟩
theorem rclear_any (h : IsRf w m now A c l) (hp : l.Perm ts) (key : Int) : Calls Tryd.prog 11 #[.pointer (some ⟨m, 0, none⟩), .int .i64 key] w
    (RfAns w m now (.bool (ts.any fun x => x.1 == key)) (ts.filter fun x => !(x.1 == key))) := by
  refine (rfDrop h key).mono ?_
  rintro e w' ⟨g, c', rfl, ht, ho⟩
  rw [any_perm hp]
  exact ⟨_, c', _, rfl, ht, hp.filter _, ho⟩

/-- Tick. -/
def TickAns (w : World) (es : List Addr) (p : Nat) (now : Int) (num : Nat) (out to : List Tm) (e : Ending) (w' : World) : Prop :=
  ∃ K kc v A c, e = .returned (.tuple #[.slice K out.length kc, v]) ∧ ErrV es v num ∧ w'.ownsRow 0 3 1 (.slice K out.length kc) out.length (keysOf out) ∧ IsTm 0 w' p now A c to ∧ Only (· = p) w w'
theorem tick_any {es : List Addr} (hes : ErrsIn w 2 es) (h : IsTm B w p now A c ts) (h0 : 0 ≤ now) (h1 : now ≤ 1099511627776) (n : Int) :
    Calls Tryd.prog 12 #[.pointer (some ⟨p, 0, none⟩), .int .i64 n] w (TickAns w es p (tickNow now n) (tickNum now n) (tickOut now n ts) (tickList now n ts)) := by
  by_cases hr : n < 0 ∨ 1099511627776 - now < n
  · have e : tickBad now n = true := by simpa [tickBad] using hr
    obtain ⟨a, ha, C⟩ := tmTick_bad hes h h0 h1 n hr
    refine C.mono ?_
    rintro e' w' ⟨rfl, ho⟩
    rw [tickNow, tickNum, tickOut, tickList, if_pos e, if_pos e, if_pos e, if_pos e]
    exact ⟨none, 0, _, A, c, rfl, .inr ⟨0, a, rfl, ha, rfl⟩, own_nil _ _ _ _, (h.same ho).mono (Nat.zero_le _), ho.mono (fun _ h => h.elim)⟩
  · have e : ¬ tickBad now n = true := by simpa [tickBad] using hr
    refine (tmTick h h0 h1 n (by omega) (by omega)).mono ?_
    rintro e' w' ⟨K, kc, A', c', rfl, hk, ht, ho⟩
    rw [tickNow, tickNum, tickOut, tickList, if_neg e, if_neg e, if_neg e, if_neg e]
    exact ⟨K, kc, _, A', c', rfl, .inl ⟨rfl, rfl⟩, own_mono hk (Nat.zero_le _), ht.mono (Nat.zero_le _), ho⟩
def RTickAns (w : World) (m : Nat) (now : Int) (num : Nat) (out to : List Tm) (e : Ending) (w' : World) : Prop :=
  ∃ K kc A c l, e = .returned (.tuple #[.slice K out.length kc, .int .i64 (num : Int)]) ∧ w'.ownsRow 0 3 1 (.slice K out.length kc) out.length (keysOf out) ∧ IsRf w' m now A c l ∧ l.Perm to ∧ Only (· = m) w w'
theorem rtick_any (h : IsRf w m now A c l) (hp : l.Perm ts) (hg : Good ts) (h0 : 0 ≤ now) (h1 : now ≤ 1099511627776) (n : Int) (hn : n ≤ 9223372036854775807) :
    Calls Tryd.prog 13 #[.pointer (some ⟨m, 0, none⟩), .int .i64 n] w (RTickAns w m (tickNow now n) (tickNum now n) (tickOut now n ts) (tickList now n ts)) := by
  by_cases hr : n < 0 ∨ 1099511627776 - now < n
  · have e : tickBad now n = true := by simpa [tickBad] using hr
    refine (rfTick_bad h n h0 hn hr).mono ?_
    rintro e' w' ⟨rfl, ho⟩
    rw [tickNow, tickNum, tickOut, tickList, if_pos e, if_pos e, if_pos e, if_pos e]
    exact ⟨none, 0, A, c, l, rfl, own_nil _ _ _ _, h.same ho, hp, ho.mono (fun _ h => h.elim)⟩
  · have e : ¬ tickBad now n = true := by simpa [tickBad] using hr
    refine (rfTick_ok h n h0 h1 (by omega) (by omega) ts hg hp).mono ?_
    rintro e' w' ⟨K, kc, A', c', l', rfl, hk, ht, hp', ho⟩
    rw [tickNow, tickNum, tickOut, tickList, if_neg e, if_neg e, if_neg e, if_neg e]
    exact ⟨K, kc, A', c', l', rfl, own_mono hk (Nat.zero_le _), ht, hp', ho⟩

/-- Next, First. -/
theorem next_any (h : IsTm B w p now A c ts) : Calls Tryd.prog 15 #[.pointer (some ⟨p, 0, none⟩)] w fun e w' => e = .returned (.tuple #[.int .i64 (n1 ts), .int .i64 (n2 ts), .bool (n3 ts)]) ∧ Only (fun _ => False) w w' := by
  cases ts with
  | nil => exact tmNext_none h
  | cons x ts => exact tmNext_some h
theorem rnext_any (h : IsRf w m now A c l) (hp : l.Perm ts) (hg : Good ts) : Calls Tryd.prog 16 #[.pointer (some ⟨m, 0, none⟩)] w fun e w' => e = .returned (.tuple #[.int .i64 (n1 ts), .int .i64 (n2 ts), .bool (n3 ts)]) ∧ Only (fun _ => False) w w' := by
  cases ts with
  | nil =>
    obtain rfl : l = [] := List.Perm.eq_nil hp
    exact rfFirst_none h
  | cons x ts => exact rfFirst_some h x (hg.head hp)

/-- At. -/
theorem find_some {ts : List Tm} {p : Tm → Bool} {k : Nat} {x : Tm} (h1 : ts[k]? = some x) (h2 : p x = true) (h3 : ∀ (j : Nat) (y : Tm), j < k → ts[j]? = some y → p y = false) : ts.find? p = some x := by
  rw [List.find?_eq_some_iff_getElem]
  obtain ⟨hk, he⟩ := List.getElem?_eq_some_iff.1 h1
  refine ⟨h2, k, hk, he, fun j hj => ?_⟩
  have := h3 j _ hj (List.getElem?_eq_getElem (by omega))
  simpa using this
theorem at_any (h : IsTm B w p now A c ts) (key : Int) : Calls Tryd.prog 17 #[.pointer (some ⟨p, 0, none⟩), .int .i64 key] w fun e w' => e = .returned (.tuple #[.int .i64 (at1 ts key), .bool (at2 ts key)]) ∧ Only (fun _ => False) w w' := by
  unfold at1 at2
  rcases first_of (fun x => x.1 == key) ts with hno | ⟨k, x, h1, h2, h3⟩
  · rw [List.find?_eq_none.2 (fun x hx => by simp [hno x hx])]
    exact tmAt_none h key hno
  · rw [find_some h1 h2 h3]
    exact tmAt_some h key k x h1 h2 h3
theorem rat_any (h : IsRf w m now A c l) (hp : l.Perm ts) (hg : Good ts) (key : Int) : Calls Tryd.prog 18 #[.pointer (some ⟨m, 0, none⟩), .int .i64 key] w fun e w' => e = .returned (.tuple #[.int .i64 (at1 ts key), .bool (at2 ts key)]) ∧ Only (fun _ => False) w w' := by
  unfold at1 at2
  rcases first_of (fun x => x.1 == key) l with hno | ⟨k, x, h1, h2, h3⟩
  · rw [List.find?_eq_none.2 (fun x hx => by simp [hno x (hp.mem_iff.2 hx)])]
    exact rfAt_none h key hno
  · have e : ts.find? (fun x => x.1 == key) = some x := by
      rcases first_of (fun x => x.1 == key) ts with hno | ⟨k', x', h1', h2', h3'⟩
      · have := hno x (hp.mem_iff.1 (List.mem_of_getElem? h1))
        rw [h2] at this
        cases this
      · rw [find_some h1' h2' h3']
        refine congrArg some (one_key hg.keys (List.mem_of_getElem? h1') (hp.mem_iff.1 (List.mem_of_getElem? h1)) ?_)
        have e1 : x'.1 = key := by simpa using h2'
        have e2 : x.1 = key := by simpa using h2
        rw [e1, e2]
    rw [e]
    exact rfAt_some h key k x h1 h2 h3
end

/-- Sorted timers are told by which they are. -/
theorem sorted_eq : ∀ {a b : List Tm}, a.Pairwise Lt → b.Pairwise Lt → a.Perm b → a = b
  | [], b, _, _, h => (List.Perm.eq_nil h.symm).symm
  | x :: a, [], _, _, h => absurd (List.Perm.eq_nil h) (by simp)
  | x :: a, y :: b, ha, hb, h => by
    have hx : IsMin (x :: a) x := ⟨List.mem_cons_self .., fun z hz => by
      rcases List.mem_cons.1 hz with h1 | h1
      · exact .inl h1
      · exact .inr ((List.pairwise_cons.1 ha).1 z h1)⟩
    have hy : IsMin (x :: a) y := ⟨h.mem_iff.2 (List.mem_cons_self ..), fun z hz => by
      rcases List.mem_cons.1 (h.mem_iff.1 hz) with h1 | h1
      · exact .inl h1
      · exact .inr ((List.pairwise_cons.1 hb).1 z h1)⟩
    obtain rfl := hx.unique hy
    rw [sorted_eq (List.pairwise_cons.1 ha).2 (List.pairwise_cons.1 hb).2 (h.cons_inv)]
end Go.Proofs.YtdcjmfbdmejjjaaDoor
