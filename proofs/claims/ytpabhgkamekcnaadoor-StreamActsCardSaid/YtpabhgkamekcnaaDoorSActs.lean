/- The acts that StreamActs is called with, as they lie in memory; is there more than is asked? A stream and the document's, side by side. -/
import Derived.Test.YtpabhgkamekcnaaDoorSRef
import Derived.Test.YtpabhgkamekcnaaDoorSAlive
import Derived.Outline
namespace Go.Proofs.YtpabhgkamekcnaaDoor
open Go Go.ChangeShapes Go.WideShapes Go.ChangeAt Go.RowKit
set_option maxRecDepth 100000

structure SAct where
  kind : Int
  n : Int
  ad : Option Addr
  len : Nat
  cap : Nat
  xs : List UInt8
  mad : Option Addr
  mlen : Nat
  mcap : Nat
  ml : List Int
def SAct.vals (x : SAct) : List Value := [.int .i64 x.kind, .int .i64 x.n, .slice x.ad x.len x.cap, .slice x.mad x.mlen x.mcap]
structure SAct.Ok (W : World) (x : SAct) : Prop where
  src : Src W x.ad x.len x.xs
  le : x.len ≤ x.cap
  top : x.cap ≤ 9223372036854775807
  ints : IntsAt W x.mad x.mlen x.ml
  mle : x.mlen ≤ x.mcap
  mtop : x.mcap ≤ 9223372036854775807
theorem SAct.Ok.only {W W' : World} {x : SAct} (h : x.Ok W) (ho : Only (fun _ => False) W W') : x.Ok W' := ⟨h.src.only ho (fun _ _ _ h => h), h.le, h.top, h.ints.only ho (fun _ _ _ h => h), h.mle, h.mtop⟩
/-- A slice of acts, which holds l. -/
def SActs (W : World) (a : Option Addr) (len : Nat) (l : List SAct) : Prop :=
  l.length = len ∧ ∀ (i : Nat) (x : SAct), l[i]? = some x → ∃ b off, a = some ⟨b, off, none⟩ ∧ (∀ (j : Nat) (v : Value), x.vals[j]? = some v → W.cell? ⟨b, off + i * 4 + j, none⟩ = some v) ∧ x.Ok W
theorem SActs.only {W W' : World} {a : Option Addr} {len : Nat} {l : List SAct} (h : SActs W a len l) (ho : Only (fun _ => False) W W') : SActs W' a len l :=
  ⟨h.1, fun i x hx => by
    obtain ⟨b, off, e, h1, h2⟩ := h.2 i x hx
    exact ⟨b, off, e, fun j v hv => ho.cellv (h1 j v hv) (fun h => h), h2.only ho⟩⟩

theorem open_sacts {H : Type} {enc : TypeId × Value → H} {W : World} {spare : Nat → Bool} {fuel : Nat} {a0 : Option Addr} {len cap : Nat} {x : DataW H × List MemPlace} (hsp : ∀ b, spare b = true)
    (h : DataW.trod enc Tryd.prog W 0 spare true fuel 22 [.slice a0 len cap] = some x) : len ≤ cap ∧ cap ≤ 9223372036854775807 ∧ ∃ l, SActs W a0 len l := by
  obtain ⟨h1, h2, h3⟩ := open_structs Tryd.underlying22 Tryd.underlying38 (by kernel_rfl) (by kernel_rfl) h
  refine ⟨h1, h2, ?_⟩
  have each : ∀ i, i < len → ∃ y : SAct, ∃ b off, a0 = some ⟨b, off, none⟩ ∧ (∀ (j : Nat) (v : Value), y.vals[j]? = some v → W.cell? ⟨b, off + i * 4 + j, none⟩ = some v) ∧ y.Ok W := by
    intro i hi
    obtain ⟨a, rfl, vs, n, hl, hc, hf⟩ := h3 i hi
    obtain ⟨v0, y0, e0, t0⟩ := hf 0 _ rfl
    obtain ⟨v1, y1, e1, t1⟩ := hf 1 _ rfl
    obtain ⟨v2, y2, e2, t2⟩ := hf 2 _ rfl
    obtain ⟨v3, y3, e3, t3⟩ := hf 3 _ rfl
    obtain ⟨k, f0, _, _⟩ := DataW.trod_int Tryd.underlying3 t0
    obtain ⟨m, f1, _, _⟩ := DataW.trod_int Tryd.underlying3 t1
    simp only [List.cons.injEq, and_true] at f0 f1
    subst f0 f1
    obtain ⟨A, l, c, xs, rfl, hs, hlc, hct⟩ := opened_cell t2
    have ts : ∃ A l c, v3 = .slice A l c := by
      rcases Go.Deep.open_slice Tryd.underlying36 t3 with ⟨h0, _⟩ | ⟨a, l, c, m, n, D, Pl, h0, _⟩
      · simp only [List.cons.injEq, and_true] at h0
        exact ⟨_, _, _, h0⟩
      · simp only [List.cons.injEq, and_true] at h0
        exact ⟨_, _, _, h0⟩
    obtain ⟨MA, ml, mc, rfl⟩ := ts
    obtain ⟨hmlc, hmct, il, hil⟩ := opened_ints t3
    obtain ⟨b, off, spot⟩ := a
    obtain rfl : spot = none := by
      obtain ⟨a', ea, vs', _, _, hc', hf'⟩ := h3 0 (by omega)
      injection ea with ea
      subst ea
      obtain ⟨_, _, e0', _⟩ := hf' 0 _ rfl
      have := World.cell?_spot (hc' 0 _ e0')
      simpa [Addr.add] using this
    refine ⟨⟨k, m, A, l, c, xs, MA, ml, mc, il⟩, b, off, rfl, fun j v hv => ?_, ⟨hs, hlc, hct, hil, hmlc, hmct⟩⟩
    rw [Nat.add_assoc, ← add_none]
    refine hc j v ?_
    match j, hv with
    | 0, hv => simp only [SAct.vals, List.getElem?_cons_zero, Option.some.injEq] at hv; rw [e0, hv]
    | 1, hv => simp only [SAct.vals, List.getElem?_cons_succ, List.getElem?_cons_zero, Option.some.injEq] at hv; rw [e1, hv]
    | 2, hv => simp only [SAct.vals, List.getElem?_cons_succ, List.getElem?_cons_zero, Option.some.injEq] at hv; rw [e2, hv]
    | 3, hv => simp only [SAct.vals, List.getElem?_cons_succ, List.getElem?_cons_zero, Option.some.injEq] at hv; rw [e3, hv]
  exact list_of each

/-- Is there more than is asked? -/
def SAct.over (x : SAct) : Bool := decide (300 < x.len) || decide (40 < x.mlen)
theorem slong_many (W : World) (a : Option Addr) (len cap : Nat) (hc : len ≤ 9223372036854775807) (h : 60 < len) :
    Calls Tryd.prog 7 #[.slice a len cap] W fun e w' => e = .returned (.bool true) ∧ Only (fun _ => False) W w' := by
  go_enter Tryd.func7, Tryd.ntmps7
  go_wp2
  go_ret
  exact ⟨rfl, Only.refl _ _⟩

theorem slong_few (W : World) (a : Option Addr) (len cap : Nat) (l : List SAct) (ha : SActs W a len l) (h : len ≤ 60) :
    Calls Tryd.prog 7 #[.slice a len cap] W fun e w' => e = .returned (.bool (l.any SAct.over)) ∧ Only (fun _ => False) W w' := by
  have hdec : decide ((60 : Int) < (len : Int)) = false := by simp; omega
  have HA := Lib.hid ha
  clear ha
  go_enter Tryd.func7, Tryd.ntmps7
  go_wp2
  go_loopw [10] (fun i w => ∃ k : Nat, k ≤ len ∧ i = .int .i64 (k : Int) ∧ Hid ((l.take k).any SAct.over = false) ∧ Only (fun _ => False) W w) (fun i _ => len - (intOf i).toNat)
  case atStart => exact ⟨0, Nat.zero_le _, rfl, rfl, Only.refl _ _⟩
  case round =>
    obtain ⟨k, hk, rfl, HN, ho⟩ := hrel
    by_cases hlt : k < len
    · obtain ⟨x, hx⟩ : ∃ x, l[k]? = some x := ⟨_, List.getElem?_eq_getElem (by rw [HA.out.1]; exact hlt)⟩
      obtain ⟨b, off, rfl, hcell, hok⟩ := (HA.out.only ho).2 k x hx
      have c0 := hcell 0 _ rfl
      have c1 := hcell 1 _ rfl
      have c2 := hcell 2 _ rfl
      have c3 := hcell 3 _ rfl
      simp only [Nat.add_zero] at c0
      have HX := Lib.hid hx
      have hl1 := hok.le
      have hl2 := hok.top
      have hl3 := hok.mle
      have hl4 := hok.mtop
      clear hcell hx
      by_cases hb : 300 < x.len
      · have HOv := Lib.hid (show x.over = true by unfold SAct.over; simp [hb])
        go_wp2
        go_ret
        refine ⟨?_, (ho.alloc _)⟩
        have : (l.any SAct.over) = true := List.any_eq_true.2 ⟨x, List.mem_of_getElem? HX.out, HOv.out⟩
        rw [this]
        rfl
      · have b1 : decide ((300 : Int) < (x.len : Int)) = false := by simp; omega
        by_cases hb2 : 40 < x.mlen
        · have HOv := Lib.hid (show x.over = true by unfold SAct.over; simp [hb2])
          have b2 : decide ((40 : Int) < (x.mlen : Int)) = true := by simp; omega
          go_wp2
          go_ret
          refine ⟨?_, (ho.alloc _)⟩
          have : (l.any SAct.over) = true := List.any_eq_true.2 ⟨x, List.mem_of_getElem? HX.out, HOv.out⟩
          rw [this]
          rfl
        · have HOv := Lib.hid (show x.over = false by unfold SAct.over; simp [hb, hb2])
          have b2 : decide ((40 : Int) < (x.mlen : Int)) = false := by simp; omega
          go_wp2
          go_roundw
          case rel => exact ⟨k + 1, by omega, by go_num, (by show List.any _ _ = false; rw [List.take_add_one, HX.out, List.any_append, HN.out]; simpa using HOv.out), ho.alloc _⟩
          case measure => simp [intOf]; omega
    · go_wp2
      go_ret
      obtain rfl : k = l.length := by have := HA.out.1; omega
      have hno := HN.out
      rw [List.take_length] at hno
      rw [hno]
      exact ⟨rfl, ho⟩

/-! A stream of the call's own, in the state s, beside the document's, in the state t. -/
def ActAt (w W : World) (p r : Nat) (s t : St) : Prop :=
  ∃ m V mk, m.p = p ∧ IsStr w.heap.size W m s ∧ IsRfS w.heap.size W r t V mk ∧ ¬ m.has r ∧ (∀ i, V.ownBlock = some i → ¬ m.has i) ∧ Only (fun _ => False) w W
section
variable {w W W' : World} {p r : Nat} {s t s' t' : St}
theorem ActAt.same (h : ActAt w W p r s t) (ho : Only (fun _ => False) W W') : ActAt w W' p r s t := by
  obtain ⟨m, V, mk, h1, h2, h3, h4, h5, h6⟩ := h
  exact ⟨m, V, mk, h1, h2.same ho, h3.same ho, h4, h5, h6.trans ho (fun _ h => h.elim)⟩
theorem ActAt.only (h : ActAt w W p r s t) : Only (fun _ => False) w W := by
  obtain ⟨_, _, _, _, _, _, _, _, h⟩ := h
  exact h
theorem ActAt.left {m : Me} {V : Value} {mk : List Bool} (h1 : m.p = p) (h2 : IsStr w.heap.size W m s) (h3 : IsRfS w.heap.size W r t V mk) (h4 : ¬ m.has r) (h5 : ∀ i, V.ownBlock = some i → ¬ m.has i) (h6 : Only (fun _ => False) w W) (hL : Left w.heap.size W m s' W') : ActAt w W' p r s' t ∧ Only m.has W W' := by
  obtain ⟨m', e1, e2, e3, e4⟩ := hL
  refine ⟨⟨m', V, mk, e1.trans h1, e2, h3.only e3 h4 h5, fun hr => ?_, fun i hi hm => ?_, h6.trans e3 (fun i hi => .inr (h2.has_lt i hi).1)⟩, e3⟩
  · rcases e4 r hr with h | h
    · exact h4 h
    · have := h3.head.lt
      omega
  · rcases e4 i hm with h | h
    · exact h5 i hi h
    · have := (own_lt h3.row i hi).2
      omega
theorem ActAt.right {m : Me} {V : Value} {mk : List Bool} (h1 : m.p = p) (h2 : IsStr w.heap.size W m s) (h3 : IsRfS w.heap.size W r t V mk) (h4 : ¬ m.has r) (h5 : ∀ i, V.ownBlock = some i → ¬ m.has i) (h6 : Only (fun _ => False) w W) (hL : RLeft w.heap.size W r V t' W') : ActAt w W' p r s t' ∧ Only (· = r) W W' := by
  obtain ⟨V', mk', e1, e2, e3⟩ := hL
  refine ⟨⟨m, V', mk', h1, h2.only e2 (fun i hi hr => h4 (hr ▸ hi)), e1, h4, fun i hi hm => ?_, h6.trans e2 (fun i hi => .inr (by rw [hi]; exact h3.lo))⟩, e2⟩
  rcases e3 i hi with h | h
  · exact h5 i h hm
  · have := (h2.has_lt i hm).2
    omega
/-- What a call on either turns: blocks of the two alone, that were there in W0; no boxed act. -/
def Turns (w W0 W W' : World) : Prop := ∃ S : Nat → Prop, Only S W W' ∧ ∀ i, S i → w.heap.size ≤ i ∧ i < W0.heap.size ∧ ∀ cs, ¬ Blk W i 38 cs
theorem Turns.same {W0 : World} (ho : Only (fun _ => False) W W') : Turns w W0 W W' := ⟨fun _ => False, ho, fun _ h => h.elim⟩
theorem Turns.box {W0 : World} (h : Turns w W0 W W') {N : Nat} {cs : List Value} (hb : Blk W N 38 cs) : Blk W' N 38 cs := by
  obtain ⟨S, h1, h2⟩ := h
  exact hb.only h1 (fun hS => (h2 N hS).2.2 cs hb)
theorem Turns.new {W0 : World} (h : Turns w W0 W W') {N : Nat} {t : TypeId} {cs : List Value} (hb : Blk W N t cs) (hN : W0.heap.size ≤ N) : Blk W' N t cs := by
  obtain ⟨S, h1, h2⟩ := h
  exact hb.only h1 (fun hS => by have := (h2 N hS).2.1; omega)
theorem IsStr.no_box {B : Nat} {m : Me} (h : IsStr B W m s) : ∀ i, m.has i → ∀ cs, ¬ Blk W i 38 cs := by
  intro i hi cs hb
  obtain ⟨c1, b1, _⟩ := h.inn.body
  obtain ⟨c2, b2, _⟩ := h.ou.body
  rcases hi with rfl | rfl | rfl | hi | hi
  · exact h.head.ne hb (by decide) rfl
  · exact b1.ne hb (by decide) rfl
  · exact b2.ne hb (by decide) rfl
  · exact h.marks.ne hb (by decide) i hi rfl
  · exact own_ne h.wire hb (by decide) i hi rfl
theorem act_left {W0 : World} (h : ActAt w W0 p r s t) (ho : Only (fun _ => False) W0 W) {f : FuncId} {args : Array Value} {num : Value → Prop}
    (C : ∀ m : Me, m.p = p → IsStr w.heap.size W m s → (∀ i, m.has i → w.heap.size ≤ i ∧ i < W0.heap.size) → Calls Tryd.prog f args W fun e w' => ∃ v, e = .returned v ∧ num v ∧ Left w.heap.size W m s' w') :
    Calls Tryd.prog f args W fun e w' => ∃ v, e = .returned v ∧ num v ∧ ActAt w w' p r s' t ∧ Turns w W0 W w' := by
  obtain ⟨m, V, mk, h1, h2, h3, h4, h5, h6⟩ := h
  refine (C m h1 (h2.same ho) h2.has_lt).mono ?_
  rintro e w' ⟨v, rfl, hv, hL⟩
  obtain ⟨h7, h8⟩ := ActAt.left h1 (h2.same ho) (h3.same ho) h4 h5 (h6.trans ho (fun _ h => h.elim)) hL
  refine ⟨v, rfl, hv, h7, m.has, h8, fun i hi => ?_⟩
  have h9 := h2.has_lt i hi
  exact ⟨h9.1, h9.2, (h2.same ho).no_box i hi⟩
/-- What a call on the document's stream turns. -/
def RTurns (r : Nat) (W W' : World) : Prop := Only (· = r) W W' ∧ ∃ cs, Blk W r 34 cs
theorem RTurns.blk (h : RTurns r W W') {N : Nat} {t : TypeId} {cs : List Value} (hb : Blk W N t cs) (ht : t ≠ 34) : Blk W' N t cs := by
  obtain ⟨h1, cs0, h2⟩ := h
  exact hb.only h1 (fun e => hb.ne h2 ht e)
theorem act_right {W0 : World} (h : ActAt w W0 p r s t) (ho : Only (fun _ => False) W0 W) {f : FuncId} {args : Array Value} {num : Value → Prop}
    (C : ∀ V mk, IsRfS w.heap.size W r t V mk → w.heap.size ≤ W.heap.size → Calls Tryd.prog f args W fun e w' => ∃ v, e = .returned v ∧ num v ∧ RLeft w.heap.size W r V t' w') :
    Calls Tryd.prog f args W fun e w' => ∃ v, e = .returned v ∧ num v ∧ ActAt w w' p r s t' ∧ RTurns r W w' := by
  obtain ⟨m, V, mk, h1, h2, h3, h4, h5, h6⟩ := h
  have h7 := h6.trans ho (fun _ h => h.elim)
  refine (C V mk (h3.same ho) h7.size).mono ?_
  rintro e w' ⟨v, rfl, hv, hL⟩
  obtain ⟨h8, h9⟩ := ActAt.right h1 (h2.same ho) (h3.same ho) h4 h5 h7 hL
  exact ⟨v, rfl, hv, h8, h9, _, (h3.same ho).head⟩

theorem act_deliver {W0 : World} (h : ActAt w W0 p r s t) (ho : Only (fun _ => False) W0 W) {es : List Addr} (hes : ErrsOf w [0, 1, 13] es) (A : Option Addr) (n c : Nat) (xs : List UInt8) (hs : Src W A n xs) (hnc : n ≤ c) (hc63 : c ≤ 9223372036854775807)
    (hA : 0 < n → ∀ ad, A = some ad → W0.heap.size ≤ ad.block ∧ ad.block < W.heap.size) (M : Option Addr) (k kc : Nat) (l : List Int) (hl : IntsAt w M k l) (hfar : s.came.length + n ≤ 1099511627776) (hk1 : k ≤ 1000) :
    Calls Tryd.prog 17 #[.pointer (some ⟨p, 0, none⟩), .slice A n c, .slice M k kc] W fun e w' => ∃ v, e = .returned v ∧ ErrV es v (delNum s n l) ∧ ActAt w w' p r (delSt s xs l) t ∧ Turns w W0 W w' := by
  have hO := h.only.trans ho (fun _ h => h.elim)
  refine act_left h ho (num := fun v => ErrV es v (delNum s n l)) (fun m hp h2 hlt => ?_)
  subst hp
  exact strDeliver h2 hO.size (hes.only hO) A n c xs hs hnc hc63 (fun hn ad e => ⟨fun hm => by have := hlt _ hm; have := hA hn ad e; omega, (hA hn ad e).2⟩) M k kc l (hl.only hO (fun _ _ _ h => h))
    (fun hk ad e hm => by have := hlt _ hm; have := hl.lt hk ad e; omega) hfar hk1
theorem act_send {W0 : World} (h : ActAt w W0 p r s t) (ho : Only (fun _ => False) W0 W) {es : List Addr} (hes : ErrsOf w [0, 1, 13] es) (A : Option Addr) (n c : Nat) (xs : List UInt8) (hs : Src w A n xs) (hnc : n ≤ c) (hc63 : c ≤ 9223372036854775807) (hfar : s.sent.length + n ≤ 1099511627776) :
    Calls Tryd.prog 19 #[.pointer (some ⟨p, 0, none⟩), .slice A n c] W fun e w' => ∃ v, e = .returned v ∧ ErrV es v (sendNum s n) ∧ ActAt w w' p r (sendSt s xs) t ∧ Turns w W0 W w' := by
  have hO := h.only.trans ho (fun _ h => h.elim)
  refine act_left h ho (num := fun v => ErrV es v (sendNum s n)) (fun m hp h2 hlt => ?_)
  subst hp
  exact strSend h2 (hes.only hO) A n c xs (hs.only hO (fun _ _ _ h => h)) hnc hc63 (fun hn ad e hm => by have := hlt _ hm; have := hs.lt hn ad e; omega) hfar
theorem act_grant {W0 : World} (h : ActAt w W0 p r s t) (ho : Only (fun _ => False) W0 W) (n : Int) (hfar : s.sent.length ≤ 1099511627776) :
    Calls Tryd.prog 20 #[.pointer (some ⟨p, 0, none⟩), .int .i64 n] W fun e w' => ∃ v, e = .returned v ∧ v = .int .i64 ((grantNum s n : Nat) : Int) ∧ ActAt w w' p r (grantSt s n) t ∧ Turns w W0 W w' := by
  have hO := h.only.trans ho (fun _ h => h.elim)
  refine act_left h ho (num := fun v => v = .int .i64 ((grantNum s n : Nat) : Int)) (fun m hp h2 hlt => ?_)
  subst hp
  refine (strGrant h2 n hO.size hfar).mono ?_
  rintro e w' ⟨rfl, hL⟩
  exact ⟨_, rfl, rfl, hL⟩
theorem act_next {W0 : World} (h : ActAt w W0 p r s t) (ho : Only (fun _ => False) W0 W) :
    Calls Tryd.prog 18 #[.pointer (some ⟨p, 0, none⟩)] W fun e w' => ∃ v, e = .returned v ∧ v = .tuple #[B8 (nextC s), .bool (nextM s), .bool (nextIs s)] ∧ ActAt w w' p r (nextSt s) t ∧ Turns w W0 W w' := by
  refine act_left h ho (num := fun v => v = .tuple #[B8 (nextC s), .bool (nextM s), .bool (nextIs s)]) (fun m hp h2 hlt => ?_)
  subst hp
  refine (strNext h2).mono ?_
  rintro e w' ⟨rfl, hL⟩
  exact ⟨_, rfl, rfl, hL⟩
theorem act_close {W0 : World} (h : ActAt w W0 p r s t) (ho : Only (fun _ => False) W0 W) {es : List Addr} (hes : ErrsOf w [0, 1, 13] es) :
    Calls Tryd.prog 30 #[.pointer (some ⟨p, 0, none⟩)] W fun e w' => ∃ v, e = .returned v ∧ ErrV es v (closeNum s) ∧ ActAt w w' p r { s with closed := true } t ∧ Turns w W0 W w' := by
  have hO := h.only.trans ho (fun _ h => h.elim)
  refine act_left h ho (num := fun v => ErrV es v (closeNum s)) (fun m hp h2 hlt => ?_)
  subst hp
  exact strClose h2 (hes.only hO)
theorem ract_deliver {W0 : World} (h : ActAt w W0 p r s t) (ho : Only (fun _ => False) W0 W) (xs : List UInt8) (n : Nat) (hn : xs.length = n) (M : Option Addr) (k kc : Nat) (l : List Int) (hl : IntsAt w M k l) (hk : k ≤ 1000) (hfar : t.came.length + n ≤ 1099511627776) :
    Calls Tryd.prog 25 #[.pointer (some ⟨r, 0, none⟩), .string ⟨xs.toArray⟩, .slice M k kc] W fun e w' => ∃ v, e = .returned v ∧ v = .int .i64 ((delNum t n l : Nat) : Int) ∧ ActAt w w' p r s (delSt t xs l) ∧ RTurns r W w' := by
  have hO := h.only.trans ho (fun _ h => h.elim)
  refine act_right h ho (num := fun v => v = .int .i64 ((delNum t n l : Nat) : Int)) (fun V mk h2 hB => ?_)
  refine (rfDeliver h2 hB xs n hn M k kc l (hl.only hO (fun _ _ _ h => h)) hk hfar).mono ?_
  rintro e w' ⟨rfl, hL⟩
  exact ⟨_, rfl, rfl, hL⟩
theorem ract_send {W0 : World} (h : ActAt w W0 p r s t) (ho : Only (fun _ => False) W0 W) (xs : List UInt8) (n : Nat) (hn : xs.length = n) (hfar : t.sent.length + n ≤ 1099511627776) (hr : t.room ≤ 1099511627776) (hf : t.sent.length - t.out ≤ t.room) :
    Calls Tryd.prog 28 #[.pointer (some ⟨r, 0, none⟩), .string ⟨xs.toArray⟩] W fun e w' => ∃ v, e = .returned v ∧ v = .int .i64 ((sendNum t n : Nat) : Int) ∧ ActAt w w' p r s (sendSt t xs) ∧ RTurns r W w' := by
  refine act_right h ho (num := fun v => v = .int .i64 ((sendNum t n : Nat) : Int)) (fun V mk h2 hB => ?_)
  refine (rfSend h2 xs n hn hfar hr hf).mono ?_
  rintro e w' ⟨rfl, hL⟩
  exact ⟨_, rfl, rfl, hL⟩
theorem ract_grant {W0 : World} (h : ActAt w W0 p r s t) (ho : Only (fun _ => False) W0 W) (n : Int) (hfar : t.sent.length ≤ 1099511627776) :
    Calls Tryd.prog 29 #[.pointer (some ⟨r, 0, none⟩), .int .i64 n] W fun e w' => ∃ v, e = .returned v ∧ v = .int .i64 ((grantNum t n : Nat) : Int) ∧ ActAt w w' p r s (grantSt t n) ∧ RTurns r W w' := by
  refine act_right h ho (num := fun v => v = .int .i64 ((grantNum t n : Nat) : Int)) (fun V mk h2 hB => ?_)
  refine (rfGrant h2 n hfar).mono ?_
  rintro e w' ⟨rfl, hL⟩
  exact ⟨_, rfl, rfl, hL⟩
theorem ract_next {W0 : World} (h : ActAt w W0 p r s t) (ho : Only (fun _ => False) W0 W) (hfar : t.came.length ≤ 1099511627776) :
    Calls Tryd.prog 27 #[.pointer (some ⟨r, 0, none⟩)] W fun e w' => ∃ v, e = .returned v ∧ v = .tuple #[B8 (nextC t), .bool (nextM t), .bool (nextIs t)] ∧ ActAt w w' p r s (nextSt t) ∧ RTurns r W w' := by
  refine act_right h ho (num := fun v => v = .tuple #[B8 (nextC t), .bool (nextM t), .bool (nextIs t)]) (fun V mk h2 hB => ?_)
  refine (rfNext h2 hfar).mono ?_
  rintro e w' ⟨rfl, hL⟩
  exact ⟨_, rfl, rfl, hL⟩
end
end Go.Proofs.YtpabhgkamekcnaaDoor
