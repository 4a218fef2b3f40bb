/- CodesOwn: an option's name is its own, and a command's word; an answer's answer. -/
import Derived.Test.YtdcalfmmcciicaaDoorCodesAlive
namespace Go.Proofs.YtdcalfmmcciicaaDoor
open Go Go.RowKit

/-- All that the calls of layer 4 read at package level. -/
structure CodesAt (W : World) : Prop where
  cw : TextsAt W 0 cmdWords
  ow : TextsAt W 1 optWords
  pow : Pow W
  syn : ErrAt Tryd.prog W "strconv.ErrSyntax"
  rng : ErrAt Tryd.prog W "strconv.ErrRange"
theorem CodesAt.only {W W' : World} (h : CodesAt W) (ho : Only (fun _ => False) W W') : CodesAt W' := ⟨h.cw.only ho, h.ow.only ho, h.pow.only ho, h.syn.only ho, h.rng.only ho⟩

/-- A call that answers v, wherever nothing old has turned. -/
def Says (W : World) (f : FuncId) (args : Array Value) (v : Value) : Prop := ∀ w, Only (fun _ => False) W w → Calls Tryd.prog f args w fun e w' => e = .returned v ∧ Only (fun _ => False) W w'
theorem Says.of_same {W : World} {f : FuncId} {args : Array Value} {v : Value} (h : ∀ w, Only (fun _ => False) W w → Calls Tryd.prog f args w fun e w' => e = .returned v ∧ w' = w) : Says W f args v := fun w ho =>
  (h w ho).mono fun e w' ⟨he, hw⟩ => ⟨he, by rw [hw]; exact ho⟩
theorem Says.of {W : World} {f : FuncId} {args : Array Value} {v : Value} (h : ∀ w, Only (fun _ => False) W w → Calls Tryd.prog f args w fun e w' => e = .returned v ∧ Only (fun _ => False) w w') : Says W f args v := fun w ho =>
  (h w ho).mono fun e w' ⟨he, hw⟩ => ⟨he, ho.trans hw (fun _ h => h.elim)⟩

section
variable {W : World} (h : CodesAt W)
include h
theorem says_alive : Says W 6 #[] (.bool true) := Says.of fun _ ho => alive_any (h.ow.only ho) (h.pow.only ho)
theorem says_name (a : Int) (h0 : -9223372036854775808 ≤ a) (h1 : a ≤ 9223372036854775807) {N : List UInt8} (hn : nameOf a = N) : Says W 19 #[.int .i64 a] (.string ⟨N.toArray⟩) := Says.of fun _ ho => by
  subst hn
  exact name_any (h.ow.only ho) (h.pow.only ho) a h0 h1
theorem says_option (s : List UInt8) (hs : s.length ≤ 100) : Says W 17 #[.string ⟨s.toArray⟩] (.tuple #[.int .i64 (orNone (optAt s)), .bool (optAt s).isSome]) := Says.of fun _ ho => option_any (h.ow.only ho) (h.pow.only ho) (h.syn.only ho) (h.rng.only ho) s hs
theorem says_word (a : Int) {N : List UInt8} (hn : wordOf a = N) : Says W 9 #[.int .i64 a] (.string ⟨N.toArray⟩) := Says.of_same fun _ ho => by
  subst hn
  exact word_any (h.cw.only ho) a
theorem says_code (s : List UInt8) : Says W 13 #[.string ⟨s.toArray⟩] (.tuple #[.int .i64 (codeOf s), .bool (codeAt s).isSome]) := Says.of_same fun _ ho => code_any (h.cw.only ho) s
end
theorem says_answer (W : World) (c : Int) (agree : Bool) {x : Int} {b : Bool} (hx : answerOf c agree = x) (hb : decide (251 ≤ c ∧ c ≤ 254) = b) : Says W 7 #[.int .i64 c, .bool agree] (.tuple #[.int .i64 x, .bool b]) := Says.of_same fun _ _ => by
  subst hx hb
  exact answer_any _ c agree
theorem says_for (W : World) (c : Int) {b : Bool} (hb : decide (c = 251 ∨ c = 253) = b) : Says W 15 #[.int .i64 c] (.bool b) := Says.of_same fun _ _ => by
  subst hb
  exact for_any _ c
theorem says_own (W : World) (c : Int) {b : Bool} (hb : decide (c = 251 ∨ c = 252) = b) : Says W 16 #[.int .i64 c] (.bool b) := Says.of_same fun _ _ => by
  subst hb
  exact own_any _ c

/-- Two options that are one, or whose names part. -/
def Apart (a b : Int) (N M : List UInt8) : Prop := a = b ∨ ((a != b) = true ∧ (a == b) = false ∧ (N != []) = false ∧ (N == []) = true) ∨ ((a != b) = true ∧ (a == b) = false ∧ (N != []) = true ∧ (N == []) = false ∧ (N == M) = false)
/-- Where a number stands: how it is as an option, and as a command. -/
def Stands (a o c : Int) (ob cb : Bool) : Prop :=
  (a < 0 ∧ ob = false ∧ cb = false) ∨ (255 < a ∧ ob = false ∧ cb = false) ∨ (0 ≤ a ∧ a < 240 ∧ ob = true ∧ cb = false ∧ a = o) ∨ (240 ≤ a ∧ a ≤ 255 ∧ ob = true ∧ cb = true ∧ a = o ∧ a = c)

set_option maxHeartbeats 4000000 in
theorem own_other (W : World) (a b : Int) (agree : Bool) (N M K : List UInt8) (o c : Int) (ob cb : Bool) (hal : Hid (Says W 6 #[] (.bool true)))
    (na : Hid (Says W 19 #[.int .i64 a] (.string ⟨N.toArray⟩))) (nb : Hid (Says W 19 #[.int .i64 b] (.string ⟨M.toArray⟩)))
    (O : Hid (Says W 17 #[.string ⟨N.toArray⟩] (.tuple #[.int .i64 o, .bool ob]))) (wa : Hid (Says W 9 #[.int .i64 a] (.string ⟨K.toArray⟩)))
    (C : Hid (Says W 13 #[.string ⟨K.toArray⟩] (.tuple #[.int .i64 c, .bool cb])))
    (A : Hid (Says W 7 #[.int .i64 a, .bool agree] (.tuple #[.int .i64 0, .bool false])))
    (hs : Stands a o c ob cb) (ht : Apart a b N M) :
    Calls Tryd.prog 5 #[.int .i64 a, .int .i64 b, .bool agree] W (Fine W) := by
  have ho0 : Only (fun _ => False) W W := Only.refl _ _
  rcases hs with ⟨h1, rfl, rfl⟩ | ⟨h1, rfl, rfl⟩ | ⟨h1, h2, rfl, rfl, rfl⟩ | ⟨h1, h2, rfl, rfl, rfl, rfl⟩
  all_goals
    rcases ht with rfl | ⟨t1, t2, t3, t4⟩ | ⟨t1, t2, t3, t4, t5⟩
    all_goals
      go_enter Tryd.func5, Tryd.ntmps5
      go_wp2_with (first
        | (go_at_call 6; refine (hal.out _ (by assumption)).mono ?_; rintro e w1 ⟨rfl, ho1⟩)
        | ((with_reducible show Calls _ 19 #[.int .i64 a] _ _); refine (na.out _ (by assumption)).mono ?_; rintro e w1 ⟨rfl, ho1⟩)
        | ((with_reducible show Calls _ 19 #[.int .i64 b] _ _); refine (nb.out _ (by assumption)).mono ?_; rintro e w1 ⟨rfl, ho1⟩)
        | (go_at_call 17; refine (O.out _ (by assumption)).mono ?_; rintro e w1 ⟨rfl, ho1⟩)
        | (go_at_call 9; refine (wa.out _ (by assumption)).mono ?_; rintro e w1 ⟨rfl, ho1⟩)
        | (go_at_call 13; refine (C.out _ (by assumption)).mono ?_; rintro e w1 ⟨rfl, ho1⟩)
        | (go_at_call 7; refine (A.out _ (by assumption)).mono ?_; rintro e w1 ⟨rfl, ho1⟩))
      go_ret
      exact ⟨rfl, by assumption⟩

set_option maxHeartbeats 4000000 in
theorem own_verb (W : World) (a b : Int) (agree : Bool) (N M K : List UInt8) (o c : Int) (ob cb : Bool) (hal : Hid (Says W 6 #[] (.bool true)))
    (na : Hid (Says W 19 #[.int .i64 a] (.string ⟨N.toArray⟩))) (nb : Hid (Says W 19 #[.int .i64 b] (.string ⟨M.toArray⟩)))
    (O : Hid (Says W 17 #[.string ⟨N.toArray⟩] (.tuple #[.int .i64 o, .bool ob]))) (wa : Hid (Says W 9 #[.int .i64 a] (.string ⟨K.toArray⟩)))
    (C : Hid (Says W 13 #[.string ⟨K.toArray⟩] (.tuple #[.int .i64 c, .bool cb])))
    (x : Int) (f u : Bool) (A : Hid (Says W 7 #[.int .i64 a, .bool agree] (.tuple #[.int .i64 x, .bool true]))) (A2 : Hid (Says W 7 #[.int .i64 x, .bool f] (.tuple #[.int .i64 a, .bool true])))
    (F : Hid (Says W 15 #[.int .i64 a] (.bool f))) (FX : Hid (Says W 15 #[.int .i64 x] (.bool agree)))
    (OW : Hid (Says W 16 #[.int .i64 a] (.bool u))) (OX : Hid (Says W 16 #[.int .i64 x] (.bool !u)))
    (h1 : 240 ≤ a) (h2 : a ≤ 255) (e1 : ob = true) (e2 : cb = true) (e3 : a = o) (e4 : a = c) (ht : Apart a b N M) :
    Calls Tryd.prog 5 #[.int .i64 a, .int .i64 b, .bool agree] W (Fine W) := by
  have ho0 : Only (fun _ => False) W W := Only.refl _ _
  subst e1 e2 e3 e4
  cases u
  all_goals
    rcases ht with rfl | ⟨t1, t2, t3, t4⟩ | ⟨t1, t2, t3, t4, t5⟩
    all_goals
      go_enter Tryd.func5, Tryd.ntmps5
      go_wp2_with (first
        | (go_at_call 6; refine (hal.out _ (by assumption)).mono ?_; rintro e w1 ⟨rfl, ho1⟩)
        | ((with_reducible show Calls _ 19 #[.int .i64 a] _ _); refine (na.out _ (by assumption)).mono ?_; rintro e w1 ⟨rfl, ho1⟩)
        | ((with_reducible show Calls _ 19 #[.int .i64 b] _ _); refine (nb.out _ (by assumption)).mono ?_; rintro e w1 ⟨rfl, ho1⟩)
        | (go_at_call 17; refine (O.out _ (by assumption)).mono ?_; rintro e w1 ⟨rfl, ho1⟩)
        | (go_at_call 9; refine (wa.out _ (by assumption)).mono ?_; rintro e w1 ⟨rfl, ho1⟩)
        | (go_at_call 13; refine (C.out _ (by assumption)).mono ?_; rintro e w1 ⟨rfl, ho1⟩)
        | ((with_reducible show Calls _ 7 #[.int .i64 a, _] _ _); refine (A.out _ (by assumption)).mono ?_; rintro e w1 ⟨rfl, ho1⟩)
        | ((with_reducible show Calls _ 7 #[.int .i64 x, _] _ _); refine (A2.out _ (by assumption)).mono ?_; rintro e w1 ⟨rfl, ho1⟩)
        | ((with_reducible show Calls _ 15 #[.int .i64 a] _ _); refine (F.out _ (by assumption)).mono ?_; rintro e w1 ⟨rfl, ho1⟩)
        | ((with_reducible show Calls _ 15 #[.int .i64 x] _ _); refine (FX.out _ (by assumption)).mono ?_; rintro e w1 ⟨rfl, ho1⟩)
        | ((with_reducible show Calls _ 16 #[.int .i64 a] _ _); refine (OW.out _ (by assumption)).mono ?_; rintro e w1 ⟨rfl, ho1⟩)
        | ((with_reducible show Calls _ 16 #[.int .i64 x] _ _); refine (OX.out _ (by assumption)).mono ?_; rintro e w1 ⟨rfl, ho1⟩))
      go_ret
      exact ⟨rfl, by assumption⟩
end Go.Proofs.YtdcalfmmcciicaaDoor
