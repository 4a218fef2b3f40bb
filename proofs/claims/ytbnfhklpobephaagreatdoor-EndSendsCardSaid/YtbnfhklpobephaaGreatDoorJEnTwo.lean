/- Several texts in one. -/
import Derived.Test.YtbnfhklpobephaaGreatDoorJEnTake
import Derived.Test.YtbnfhklpobephaaGreatDoorJNvtOut
import Derived.Test.YtbnfhklpobephaaGreatDoorJTexts
import Derived.Test.YtbnfhklpobephaaGreatDoorJHsNew
/- Two ends side by side. -/
namespace Go.Proofs.YtbnfhklpobephaaGreatDoor
open Go Go.RowKit
set_option maxRecDepth 100000
set_option maxHeartbeats 4000000

/-- Both, in blocks that are neither's. -/
structure TwoAt (w W : World) (es : List Addr) (p q : Nat) (ag : Nat → Nat → Bool) (E F : Ee) (M R M' R' : Nat → Prop) : Prop where
  e : IsEe W p 0 132 [] [] M R ag E
  f : IsEe W q 0 132 [] [] M' R' ag F
  old : Only (fun _ => False) w W
  me : ∀ i, M i → w.heap.size ≤ i
  mf : ∀ i, M' i → w.heap.size ≤ i
  mm : ∀ i, M i → ¬ M' i
  er : ∀ i, M i → ¬ R' i
  fr : ∀ i, M' i → ¬ R i
  errs : ErrsAt W es
  tbw : TbW W
def EnTwo (w W : World) (es : List Addr) (p q : Nat) (ag : Nat → Nat → Bool) (E F : Ee) : Prop := ∃ M R M' R', TwoAt w W es p q ag E F M R M' R'
section
variable {w W W' : World} {es : List Addr} {p q : Nat} {ag : Nat → Nat → Bool} {E F E' F' : Ee} {M R M' R' : Nat → Prop}
theorem TwoAt.swap (h : TwoAt w W es p q ag E F M R M' R') : TwoAt w W es q p ag F E M' R' M R := ⟨h.f, h.e, h.old, h.mf, h.me, fun i a b => h.mm i b a, h.fr, h.er, h.errs, h.tbw⟩
theorem EnTwo.swap (h : EnTwo w W es p q ag E F) : EnTwo w W es q p ag F E := by
  obtain ⟨_, _, _, _, h⟩ := h
  exact ⟨_, _, _, _, h.swap⟩
theorem EnTwo.same (h : EnTwo w W es p q ag E F) (ho : Only (fun _ => False) W W') : EnTwo w W' es p q ag E F := by
  obtain ⟨M, R, M', R', h⟩ := h
  exact ⟨M, R, M', R', h.e.same ho, h.f.same ho, h.old.trans ho (fun _ h => h.elim), h.me, h.mf, h.mm, h.er, h.fr, h.errs.only ho, h.tbw.only ho⟩
theorem EnTwo.old (h : EnTwo w W es p q ag E F) : Only (fun _ => False) w W := by
  obtain ⟨_, _, _, _, h⟩ := h
  exact h.old
/-- One of them goes on. -/
theorem TwoAt.goes (h : TwoAt w W es p q ag E F M R M' R') (g : EnGoes W.heap.size W p 0 132 [] [] M R ag E' W') : EnTwo w W' es p q ag E' F := by
  have he := g.errs h.e h.errs
  have ht := g.tbw h.e h.tbw
  obtain ⟨M1, R1, k, g⟩ := g
  have hz := h.old.size
  have hlm := h.f.mlt
  have hlr := h.f.rlt
  refine ⟨M1, R1, M', R', k, h.f.far g.only (fun i a b => h.mm i b a) (fun i a b => h.er i b a), h.old.trans g.only (fun i hi => .inr (h.me i hi)), fun i hi => (g.gm i hi).elim (h.me i) (fun h => Nat.le_trans hz h), h.mf, fun i a b => ?_, fun i a b => ?_, fun i a b => ?_, he, ht⟩
  · rcases g.gm i a with h1 | h1
    · exact h.mm i h1 b
    · have := hlm i b; omega
  · rcases g.gm i a with h1 | h1
    · exact h.er i h1 b
    · have := hlr i b; omega
  · rcases g.gr i b with h1 | h1
    · exact h.fr i a h1
    · have := hlm i a; omega
theorem EnTwo.feed (h : EnTwo w W es p q ag E F) (hv : VOk E.k.m) (hl : E.Lo) (c : UInt8) (mark : Bool) :
    Calls Tryz.prog 23 #[.pointer (some ⟨p, 0, none⟩), .int .u8 (c.toNat : Int), .bool mark] W fun e w' => ∃ v1 v2, e = .returned (.tuple #[v1, v2]) ∧ Hid (EnTwo w w' es p q ag (E.feed ag c mark).1 F) := by
  obtain ⟨M, R, M', R', h⟩ := h
  refine (enFeed h.e h.errs h.tbw hv hl c mark).mono ?_
  rintro e w' ⟨v1, v2, rfl, hf⟩
  exact ⟨v1, v2, rfl, h.goes hf.out.en⟩
theorem EnTwo.ask (h : EnTwo w W es p q ag E F) (hl : E.Lo) (s o : Int) (on : Bool) :
    Calls Tryz.prog 24 #[.pointer (some ⟨p, 0, none⟩), .int .i64 s, .int .i64 o, .bool on] W fun e w' => ∃ v Er, e = .returned (.tuple #[v, Er]) ∧ Hid (EnTwo w w' es p q ag (E.ask s o on).2.1 F) := by
  obtain ⟨M, R, M', R', h⟩ := h
  refine (enAsk h.e h.errs h.tbw hl s o on).mono ?_
  rintro e w' ⟨v, Er, rfl, hf⟩
  exact ⟨v, Er, rfl, h.goes hf.out.en⟩
theorem EnTwo.set (h : EnTwo w W es p q ag E F) (hl : E.Lo) {n : Int} (h64 : In64 n) :
    Calls Tryz.prog 25 #[.pointer (some ⟨p, 0, none⟩), .int .i64 n] W fun e w' => ∃ Er, e = .returned Er ∧ Hid (EnTwo w w' es p q ag (E.set n).2 F) := by
  obtain ⟨M, R, M', R', h⟩ := h
  refine (enSet h.e h.errs hl h64).mono ?_
  rintro e w' ⟨Er, rfl, hf⟩
  exact ⟨Er, rfl, h.goes hf.out.en⟩
theorem EnTwo.say (h : EnTwo w W es p q ag E F) (hl : E.Lo) {A : Option Addr} {n c : Nat} {xs : List UInt8} (hs : Src W A n xs) (hn : n ≤ 1000) (hnc : n ≤ c) :
    Calls Tryz.prog 26 #[.pointer (some ⟨p, 0, none⟩), .slice A n c] W fun e w' => e = .returned (.tuple #[]) ∧ Hid (EnTwo w w' es p q ag (E.say xs) F) := by
  obtain ⟨M, R, M', R', h⟩ := h
  refine (enSay h.e hl hs hn hnc).mono ?_
  rintro e w' ⟨rfl, hf⟩
  exact ⟨rfl, h.goes hf.out⟩
theorem EnTwo.cmd (h : EnTwo w W es p q ag E F) (hl : E.Lo) (c : Int) :
    Calls Tryz.prog 27 #[.pointer (some ⟨p, 0, none⟩), .int .i64 c] W fun e w' => ∃ Er, e = .returned Er ∧ Hid (EnTwo w w' es p q ag (E.cmd c).2 F) := by
  obtain ⟨M, R, M', R', h⟩ := h
  refine (enCmd h.e h.errs (by have := hl.out; omega) c).mono ?_
  rintro e w' ⟨Er, rfl, hf⟩
  exact ⟨Er, rfl, h.goes hf.out.2.2⟩
/-- What is taken of one stays as it is: its rows are of blocks that no other writes to any more. -/
theorem EnTwo.take (h : EnTwo w W es p q ag E F) :
    Calls Tryz.prog 28 #[.pointer (some ⟨p, 0, none⟩)] W fun e w' => ∃ A n c, e = .returned (.slice A n c) ∧ Hid (EnTwo w w' es p q ag E.take F ∧ ∃ R xs, PcsAt w' A n R xs E.out ∧ n ≤ c ∧ c ≤ 9223372036854775807) := by
  obtain ⟨M, R, M', R', h⟩ := h
  refine (enTake h.e).mono ?_
  rintro e w' ⟨A, n, c, rfl, hf⟩
  obtain ⟨k', ho, xs, hx⟩ := hf.out
  exact ⟨A, n, c, rfl, h.goes (EnGoes.own h.e k' ho), R, xs, hx⟩
end
end Go.Proofs.YtbnfhklpobephaaGreatDoor
/- An end's counts grow by one at a time; what was to be sent before stands ahead of what comes. -/
namespace Go.Proofs.YtbnfhklpobephaaGreatDoor
open Go Go.RowKit
set_option maxRecDepth 100000

/-- So much has happened at most. -/
structure Ee.Sz (E : Ee) (k : Nat) : Prop where
  out : E.out.length ≤ 2 * k
  sent : E.sent ≤ k
  heard : E.heard ≤ k
  asked : E.asked ≤ k
  tsent : E.T.sent ≤ k
  theard : E.T.heard ≤ k
  tasked : E.T.asked ≤ k
theorem Ee.Sz.lo {E : Ee} {k : Nat} (h : E.Sz k) (hk : k ≤ 1000) : E.Lo :=
  ⟨by have := h.out; omega, by have := h.sent; omega, by have := h.heard; omega, by have := h.asked; omega, by have := h.tsent; omega, by have := h.theard; omega, by have := h.tasked; omega⟩
theorem Ee.Sz.more {E : Ee} {k m : Nat} (h : E.Sz k) (hk : k ≤ m) : E.Sz m :=
  ⟨by have := h.out; omega, by have := h.sent; omega, by have := h.heard; omega, by have := h.asked; omega, by have := h.tsent; omega, by have := h.theard; omega, by have := h.tasked; omega⟩
theorem sz0 (H : Hs) : (Ee.zero H).Sz 0 := ⟨Nat.le_refl _, Nat.le_refl _, Nat.le_refl _, Nat.le_refl _, Nat.le_refl _, Nat.le_refl _, Nat.le_refl _⟩
section
variable {e : Ee} (E : Ee)
theorem Ee.send_sent (k : Int) (b : List UInt8) : (e.send k b).sent = e.sent ∧ (e.send k b).heard = e.heard ∧ (e.send k b).asked = e.asked := by unfold Ee.send; split <;> exact ⟨rfl, rfl, rfl⟩
theorem Ee.sendS_sent (o : Int) (t : Option (List UInt8)) : (e.sendS o t).sent = e.sent ∧ (e.sendS o t).heard = e.heard ∧ (e.sendS o t).asked = e.asked := by
  cases t with
  | none => exact ⟨rfl, rfl, rfl⟩
  | some b => exact Ee.send_sent _ _
theorem Ee.sendV_sent (v o : Int) : (e.sendV v o).sent ≤ e.sent + 1 ∧ (e.sendV v o).heard = e.heard ∧ (e.sendV v o).asked = e.asked := by
  unfold Ee.sendV
  split
  · obtain ⟨h1, h2, h3⟩ := Ee.send_sent (e := { e with sent := e.sent + 1 }) 3 (tkBytes (tk3 v o))
    exact ⟨Nat.le_of_eq h1, h2, h3⟩
  · exact ⟨Nat.le_succ _, rfl, rfl⟩
end
theorem sentN_le (n : Nat) : sentN n ≤ 1 := by unfold sentN; split <;> omega
theorem Ee.turn_sz {E : Ee} {k : Nat} (h1 : E.out.length ≤ 2 * k + 1) (h2 : E.sent ≤ k + 1) (h3 : E.heard ≤ k + 1) (h4 : E.asked ≤ k + 1) (h5 : E.T.sent ≤ k + 1) (h6 : E.T.heard ≤ k + 1) (h7 : E.T.asked ≤ k + 1) (s o : Int) : (E.turn s o).Sz (k + 1) := by
  unfold Ee.turn
  obtain ⟨q1, q2, q3⟩ := Ee.sendS_sent (e := { E with H := (E.H.turned s o (E.on s o)).2 }) o (E.H.turned s o (E.on s o)).1
  have q4 := Ee.sendS_len { E with H := (E.H.turned s o (E.on s o)).2 } o (E.H.turned s o (E.on s o)).1
  have q5 := Ee.sendS_T (e := { E with H := (E.H.turned s o (E.on s o)).2 }) o (E.H.turned s o (E.on s o)).1
  refine ⟨?_, ?_, ?_, ?_, ?_, ?_, ?_⟩
  · have : ({ E with H := (E.H.turned s o (E.on s o)).2 } : Ee).out.length = E.out.length := rfl
    omega
  · rw [q1]; exact h2
  · rw [q2]; exact h3
  · rw [q3]; exact h4
  · rw [q5]; exact h5
  · rw [q5]; exact h6
  · rw [q5]; exact h7
theorem Ee.verb_sz {E : Ee} {k : Nat} (ag : Nat → Nat → Bool) (h : E.Sz k) (v o : Nat) : (E.hearVerb ag v o).1.Sz (k + 1) := by
  unfold Ee.hearVerb
  split
  · show (({ E with heard := E.heard + 1 } : Ee).hearMark v).Sz (k + 1)
    unfold Ee.hearMark
    split
    · obtain ⟨q1, q2, q3⟩ := Ee.sendV_sent (e := { E with heard := E.heard + 1 }) 251 6
      have q4 := Ee.sendV_len { E with heard := E.heard + 1 } 251 6
      have q5 := Ee.sendV_T (e := { E with heard := E.heard + 1 }) 251 6
      refine ⟨?_, ?_, ?_, ?_, ?_, ?_, ?_⟩
      · have := h.out; have e1 : ({ E with heard := E.heard + 1 } : Ee).out.length = E.out.length := rfl; omega
      · have := h.sent; have e1 : ({ E with heard := E.heard + 1 } : Ee).sent = E.sent := rfl; omega
      · rw [q2]; exact Nat.succ_le_succ h.heard
      · rw [q3]; exact Nat.le_succ_of_le h.asked
      · rw [q5]; exact Nat.le_succ_of_le h.tsent
      · rw [q5]; exact Nat.le_succ_of_le h.theard
      · rw [q5]; exact Nat.le_succ_of_le h.tasked
    · exact ⟨by have := h.out; show E.out.length ≤ _; omega, Nat.le_succ_of_le h.sent, Nat.succ_le_succ h.heard, Nat.le_succ_of_le h.asked, Nat.le_succ_of_le h.tsent, Nat.le_succ_of_le h.theard, Nat.le_succ_of_le h.tasked⟩
  · show (if E.verbTurns ag v o then (E.heardT ag v o).turn (sideV v) o else E.heardT ag v o).Sz (k + 1)
    have key : (E.heardT ag v o).out.length ≤ 2 * k + 1 ∧ (E.heardT ag v o).sent ≤ k + 1 ∧ (E.heardT ag v o).heard ≤ k + 1 ∧ (E.heardT ag v o).asked ≤ k + 1 ∧ (E.heardT ag v o).T.sent ≤ k + 1 ∧ (E.heardT ag v o).T.heard ≤ k + 1 ∧ (E.heardT ag v o).T.asked ≤ k + 1 := by
      unfold Ee.heardT
      obtain ⟨E2, hE2⟩ : ∃ E2, E2 = ({ E with heard := E.heard + 1, T := (E.T.hear ag v o).1 } : Ee) := ⟨_, rfl⟩
      rw [← hE2]
      have g1 : E2.out.length ≤ 2 * k := by rw [hE2]; exact h.out
      have g2 : E2.sent ≤ k := by rw [hE2]; exact h.sent
      have g3 : E2.heard ≤ k + 1 := by rw [hE2]; exact Nat.succ_le_succ h.heard
      have g4 : E2.asked ≤ k := by rw [hE2]; exact h.asked
      have g5 : E2.T.sent ≤ k + 1 := by
        rw [hE2]
        show E.T.sent + sentN _ ≤ k + 1
        have := h.tsent
        have := sentN_le (hearQ (E.T.st (sideV v) o) (forV v) (ag (sideV v) o)).2.1
        omega
      have g6 : E2.T.heard ≤ k + 1 := by rw [hE2]; exact Nat.succ_le_succ h.theard
      have g7 : E2.T.asked ≤ k := by rw [hE2]; exact h.tasked
      obtain ⟨q1, q2, q3⟩ := Ee.sendV_sent (e := E2) (toldV (sideV v) (E.T.hear ag v o).2.2.1) o
      have q4 := Ee.sendV_len E2 (toldV (sideV v) (E.T.hear ag v o).2.2.1) o
      have q5 := Ee.sendV_T (e := E2) (toldV (sideV v) (E.T.hear ag v o).2.2.1) o
      rw [q5]
      exact ⟨by omega, by omega, by omega, by omega, by omega, by omega, by omega⟩
    obtain ⟨g1, g2, g3, g4, g5, g6, g7⟩ := key
    split
    · exact Ee.turn_sz g1 g2 g3 g4 g5 g6 g7 _ _
    · exact ⟨by omega, g2, g3, g4, g5, g6, g7⟩
/-- Pieces alone are more by one. -/
theorem Ee.sz_out {E E' : Ee} {k : Nat} (h : E.Sz k) (ho : E'.out.length ≤ E.out.length + 2) (h1 : E'.sent = E.sent) (h2 : E'.heard = E.heard) (h3 : E'.asked = E.asked) (h4 : E'.T = E.T) : E'.Sz (k + 1) :=
  ⟨by have := h.out; omega, by rw [h1]; exact Nat.le_succ_of_le h.sent, by rw [h2]; exact Nat.le_succ_of_le h.heard, by rw [h3]; exact Nat.le_succ_of_le h.asked, by rw [h4]; exact Nat.le_succ_of_le h.tsent, by rw [h4]; exact Nat.le_succ_of_le h.theard, by rw [h4]; exact Nat.le_succ_of_le h.tasked⟩
theorem Ee.send_sz {E : Ee} {k : Nat} (h : E.Sz k) (z : Int) (b : List UInt8) : (E.send z b).Sz (k + 1) := by
  obtain ⟨q1, q2, q3⟩ := Ee.send_sent (e := E) z b
  exact Ee.sz_out h (Nat.le_succ_of_le (Ee.send_len E z b)) q1 q2 q3 (Ee.send_T _ _)
theorem Ee.sendS_sz {E : Ee} {k : Nat} (h : E.Sz k) (H' : Hs) (o : Int) (t : Option (List UInt8)) : (({ E with H := H' } : Ee).sendS o t).Sz (k + 1) := by
  obtain ⟨q1, q2, q3⟩ := Ee.sendS_sent (e := { E with H := H' }) o t
  exact Ee.sz_out h (Nat.le_succ_of_le (Ee.sendS_len { E with H := H' } o t)) q1 q2 q3 (Ee.sendS_T _ _)
theorem Ee.tok_sz {E : Ee} {k : Nat} (ag : Nat → Nat → Bool) (h : E.Sz k) (t : Tk) : (Ee.tok ag E t).1.Sz (k + 1) := by
  have h1 := h.more (Nat.le_succ k)
  unfold Ee.tok
  split
  · exact h1
  split
  · show (if t.code = 246 then E.send 2 (tkBytes (tk2 241)) else E).Sz (k + 1)
    split
    · exact Ee.send_sz h _ _
    · exact h1
  split
  · exact Ee.verb_sz ag h _ _
  split
  · show (E.hearSub t.opt t.cut t.body).1.Sz (k + 1)
    unfold Ee.hearSub
    split
    · exact Ee.sendS_sz h _ _ _
    · exact h1
  · exact h1
theorem Ee.feed_sz {E : Ee} {k : Nat} (ag : Nat → Nat → Bool) (h : E.Sz k) (c : UInt8) (mark : Bool) : (E.feed ag c mark).1.Sz (k + 1) := by
  unfold Ee.feed
  cases hf : feed9 E.k ⟨c, mark, E.on 1 0⟩ with
  | mk k' o =>
    have h2 : ({ E with k := k' } : Ee).Sz k := ⟨h.out, h.sent, h.heard, h.asked, h.tsent, h.theard, h.tasked⟩
    cases o with
    | none => exact h2.more (Nat.le_succ k)
    | some t => exact Ee.tok_sz ag h2 t
theorem Ee.askedT_sz {E : Ee} {k : Nat} (h : E.Sz k) (s o : Nat) (on : Bool) : (E.askedT s o on).out.length ≤ 2 * k + 1 ∧ (E.askedT s o on).sent ≤ k + 1 ∧ (E.askedT s o on).heard ≤ k + 1 ∧ (E.askedT s o on).asked ≤ k + 1 ∧ (E.askedT s o on).T.sent ≤ k + 1 ∧ (E.askedT s o on).T.heard ≤ k + 1 ∧ (E.askedT s o on).T.asked ≤ k + 1 := by
  have hk := h.out
  have hs := h.sent
  have hh := h.heard
  have ha := h.asked
  have hts := h.tsent
  have hth := h.theard
  have hta := h.tasked
  unfold Ee.askedT
  cases hq : E.T.ask s o on with
  | none => exact ⟨by show E.out.length ≤ _; omega, by show E.sent ≤ _; omega, by show E.heard ≤ _; omega, by show E.asked ≤ _; omega, by show E.T.sent ≤ _; omega, by show E.T.heard ≤ _; omega, by show E.T.asked ≤ _; omega⟩
  | some r =>
    unfold Tb.ask at hq
    cases hm : askQ (E.T.st s o) on with
    | none => rw [hm] at hq; cases hq
    | some m =>
      rw [hm] at hq
      injection hq with hq
      subst hq
      obtain ⟨E2, hE2⟩ : ∃ E2, E2 = ({ E with T := ⟨setQ E.T.st s o m.1, E.T.heard, E.T.asked + 1, E.T.sent + sentN m.2⟩, asked := E.asked + 1 } : Ee) := ⟨_, rfl⟩
      have g1 : E2.out.length = E.out.length := by rw [hE2]
      have g2 : E2.sent = E.sent := by rw [hE2]
      have g3 : E2.heard = E.heard := by rw [hE2]
      have g4 : E2.asked = E.asked + 1 := by rw [hE2]
      have g5 : E2.T.sent = E.T.sent + sentN m.2 := by rw [hE2]
      have g6 : E2.T.heard = E.T.heard := by rw [hE2]
      have g7 : E2.T.asked = E.T.asked + 1 := by rw [hE2]
      have g8 := sentN_le m.2
      obtain ⟨q1, q2, q3⟩ := Ee.sendV_sent (e := E2) (toldV s m.2) o
      have q4 := Ee.sendV_len E2 (toldV s m.2) o
      have q5 := Ee.sendV_T (e := E2) (toldV s m.2) o
      have key : ∀ X : Ee, X = E2.sendV (toldV s m.2) o → X.out.length ≤ 2 * k + 1 ∧ X.sent ≤ k + 1 ∧ X.heard ≤ k + 1 ∧ X.asked ≤ k + 1 ∧ X.T.sent ≤ k + 1 ∧ X.T.heard ≤ k + 1 ∧ X.T.asked ≤ k + 1 := fun X hX => by
        subst hX
        simp only [q5]
        exact ⟨by omega, by omega, by omega, by omega, by omega, by omega, by omega⟩
      exact key _ (by rw [hE2])
theorem Ee.ask_sz {E : Ee} {k : Nat} (h : E.Sz k) (s o : Int) (on : Bool) : (E.ask s o on).2.1.Sz (k + 1) := by
  have h1 := h.more (Nat.le_succ k)
  unfold Ee.ask
  split
  · split
    · exact h1
    · obtain ⟨q1, q2, q3⟩ := Ee.sendV_sent (e := { E with asked := E.asked + 1 }) 253 6
      have q4 := Ee.sendV_len { E with asked := E.asked + 1 } 253 6
      have q5 := Ee.sendV_T (e := { E with asked := E.asked + 1 }) 253 6
      refine ⟨?_, ?_, ?_, ?_, ?_, ?_, ?_⟩
      · have := h.out; have e1 : ({ E with asked := E.asked + 1 } : Ee).out.length = E.out.length := rfl; show (Ee.sendV _ _ _).out.length ≤ _; omega
      · exact Nat.le_trans q1 (Nat.succ_le_succ h.sent)
      · show (Ee.sendV _ _ _).heard ≤ _; rw [q2]; exact Nat.le_succ_of_le h.heard
      · show (Ee.sendV _ _ _).asked ≤ _; rw [q3]; exact Nat.succ_le_succ h.asked
      · show (Ee.sendV _ _ _).T.sent ≤ _; rw [q5]; exact Nat.le_succ_of_le h.tsent
      · show (Ee.sendV _ _ _).T.heard ≤ _; rw [q5]; exact Nat.le_succ_of_le h.theard
      · show (Ee.sendV _ _ _).T.asked ≤ _; rw [q5]; exact Nat.le_succ_of_le h.tasked
  · split
    · exact h1
    · obtain ⟨g1, g2, g3, g4, g5, g6, g7⟩ := Ee.askedT_sz h s.toNat o.toNat on
      split
      · exact Ee.turn_sz g1 g2 g3 g4 g5 g6 g7 _ _
      · exact ⟨by show (E.askedT _ _ _).out.length ≤ _; omega, g2, g3, g4, g5, g6, g7⟩
theorem Ee.set_sz {E : Ee} {k : Nat} (h : E.Sz k) (n : Int) : (E.set n).2.Sz (k + 1) := by
  unfold Ee.set
  split
  · exact Ee.sendS_sz h _ _ _
  · exact h.more (Nat.le_succ k)
theorem Ee.say_sz {E : Ee} {k : Nat} (h : E.Sz k) (b : List UInt8) : (E.say b).Sz (k + 1) := Ee.send_sz h _ _
theorem Ee.cmd_sz {E : Ee} {k : Nat} (h : E.Sz k) (c : Int) : (E.cmd c).2.Sz (k + 1) := by
  show (if tkNum (tk2 c) = 0 then E.send 2 (tkBytes (tk2 c)) else E).Sz (k + 1)
  split
  · exact Ee.send_sz h _ _
  · exact h.more (Nat.le_succ k)
theorem Ee.take_sz {E : Ee} {k : Nat} (h : E.Sz k) : E.take.Sz k := ⟨Nat.zero_le _, h.sent, h.heard, h.asked, h.tsent, h.theard, h.tasked⟩
end Go.Proofs.YtbnfhklpobephaaGreatDoor
/- What was to be sent before stands ahead of all that comes, and changes nothing else: when it is taken doesn't matter. -/
namespace Go.Proofs.YtbnfhklpobephaaGreatDoor
open Go Go.RowKit
set_option maxRecDepth 100000

/-- With so much to be sent ahead. -/
def Ee.pre (o : List (Int × List UInt8)) (E : Ee) : Ee := { E with out := o ++ E.out }
section
variable (o : List (Int × List UInt8)) (E : Ee)
end
end Go.Proofs.YtbnfhklpobephaaGreatDoor
/- Rows of strings: few ones. -/
namespace Go.Proofs.YtbnfhklpobephaaGreatDoor
open Go Go.ChangeShapes Go.WideShapes Go.ChangeAt Go.RowKit
set_option maxRecDepth 100000
set_option maxHeartbeats 4000000

/-- At most so many, each of at most so many bytes. -/
def fewT (ts : List (List UInt8)) (many most : Nat) : Bool := decide (ts.length ≤ many) && ts.all fun s => decide (s.length ≤ most)
theorem fewT_iff {ts : List (List UInt8)} {many most : Nat} : fewT ts many most = true ↔ ts.length ≤ many ∧ ∀ t ∈ ts, t.length ≤ most := by simp [fewT]
theorem few_any {w : World} {A : Option Addr} {n c : Nat} {ts : List (List UInt8)} (hs : TSrc w A n ts) (hn : n ≤ 9223372036854775807) (many most : Nat) :
    Calls Tryz.prog 78 #[.slice A n c, .int .i64 (many : Int), .int .i64 (most : Int)] w fun e w' => e = .returned (.bool (fewT ts many most)) ∧ w' = w := by
  obtain ⟨F, hF⟩ : ∃ F, F = fewT ts many most := ⟨_, rfl⟩
  have HF := Lib.hid hF
  rw [← hF]
  clear hF
  have HS := Lib.hid hs
  clear hs
  by_cases hm : many < n
  · have hd : decide ((many : Int) < (n : Int)) = true := by simp; omega
    go_enter Tryz.func78, Tryz.ntmps78
    go_wp2
    go_ret
    refine ⟨?_, rfl⟩
    rw [HF.out]
    unfold fewT
    rw [HS.out.1, decide_eq_false (by omega)]
    rfl
  · have hd : decide ((many : Int) < (n : Int)) = false := by simp; omega
    go_enter Tryz.func78, Tryz.ntmps78
    go_wp2
    go_loop [15] (fun i => ∃ k : Nat, k ≤ n ∧ i = .int .i64 (k : Int) ∧ Hid (∀ t ∈ ts.take k, t.length ≤ most)) (fun i => n - (intOf i).toNat)
    case atStart => exact ⟨0, Nat.zero_le _, rfl, fun t ht => by simp at ht⟩
    case round =>
      obtain ⟨k, hk, rfl, HD⟩ := hrel
      by_cases hlt : k < n
      · obtain ⟨ad, s, rfl, hx, hc⟩ := HS.out.get hlt
        have HX := Lib.hid hx
        obtain ⟨sl, hsl⟩ : ∃ sl, sl = s.length := ⟨_, rfl⟩
        have hz : (ByteArray.mk s.toArray).size = sl := by rw [hsl]; rfl
        have HL := Lib.hid hsl
        clear hx hsl
        by_cases hlong : most < sl
        · have hd2 : decide ((most : Int) < (sl : Int)) = true := by simp; omega
          go_wp2
          go_ret
          refine ⟨?_, rfl⟩
          rw [HF.out]
          show Ending.returned (.bool _) = _
          congr 2
          symm
          rw [Bool.eq_false_iff]
          intro h
          have := (fewT_iff.1 h).2 s (List.mem_of_getElem? HX.out)
          have := HL.out
          omega
        · have hd2 : decide ((most : Int) < (sl : Int)) = false := by simp; omega
          go_wp2
          go_round
          case rel =>
            refine ⟨k + 1, by omega, by go_num, fun t ht => ?_⟩
            rw [take_snoc HX.out] at ht
            rcases List.mem_append.1 ht with h | h
            · exact HD.out t h
            · have := HL.out
              simp only [List.mem_singleton] at h
              subst h
              omega
          case measure => simp [intOf]; omega
      · obtain rfl : k = n := by omega
        go_wp2
        go_ret
        refine ⟨?_, rfl⟩
        rw [HF.out]
        show Ending.returned (.bool _) = _
        congr 2
        symm
        refine fewT_iff.2 ⟨by rw [HS.out.1]; omega, fun t ht => HD.out t ?_⟩
        rw [← HS.out.1, List.take_length]
        exact ht
end Go.Proofs.YtbnfhklpobephaaGreatDoor
/- Whether a config is too long for the laws. -/
namespace Go.Proofs.YtbnfhklpobephaaGreatDoor
open Go Go.RowKit
set_option maxRecDepth 100000
set_option maxHeartbeats 4000000

def snLong (ts : List (List UInt8)) (m : Nat) : Bool := !fewT ts 20 60 || decide (30 < m)
section
variable {w : World} {A B : Option Addr} {n cA m cB : Nat} {ts : List (List UInt8)} {cc cr can : Int}
theorem snLong_any (hts : TSrc w A n ts) (hn : n ≤ 9223372036854775807) :
    Calls Tryz.prog 34 #[cfV cc cr A n cA B m cB can] w fun e w' => e = .returned (.bool (snLong ts m)) ∧ Only (fun _ => False) w w' := by
  have HF : Hid (∀ W, Only (fun _ => False) w W → Calls Tryz.prog 78 #[.slice A n cA, .int .i64 20, .int .i64 60] W fun e w' => e = .returned (.bool (fewT ts 20 60)) ∧ w' = W) := fun W ho => few_any (hts.same ho) hn 20 60
  unfold snLong
  cases hf : fewT ts 20 60 with
  | false =>
    rw [hf] at HF
    clear hts hn hf
    go_enter Tryz.func34, Tryz.ntmps34
    go_wp2_with (go_at_call 78; (with_reducible refine (HF.out _ ((Only.refl _ _).alloc _)).mono ?_); rintro e w' ⟨rfl, e2⟩; subst w')
    go_ret
    exact ⟨rfl, (Only.refl _ _).alloc _⟩
  | true =>
    rw [hf] at HF
    by_cases hm : 30 < m
    · have hd : decide ((30 : Int) < (m : Int)) = true := by simp; omega
      rw [decide_eq_true hm]
      clear hts hn hf hm
      go_enter Tryz.func34, Tryz.ntmps34
      go_wp2_with (go_at_call 78; (with_reducible refine (HF.out _ ((Only.refl _ _).alloc _)).mono ?_); rintro e w' ⟨rfl, e2⟩; subst w')
      go_ret
      exact ⟨rfl, (Only.refl _ _).alloc _⟩
    · have hd : decide ((30 : Int) < (m : Int)) = false := by simp; omega
      rw [decide_eq_false hm]
      clear hts hn hf hm
      go_enter Tryz.func34, Tryz.ntmps34
      go_wp2_with (go_at_call 78; (with_reducible refine (HF.out _ ((Only.refl _ _).alloc _)).mono ?_); rintro e w' ⟨rfl, e2⟩; subst w')
      go_ret
      exact ⟨rfl, (Only.refl _ _).alloc _⟩
end
end Go.Proofs.YtbnfhklpobephaaGreatDoor
