/- Layer 15's laws: the words of any number; the chapter's example. -/
import Derived.Test.YtefcgbkbgkllaaaDoorMdHear
import Derived.Test.YtefcgbkbgkllaaaDoorMdWords
namespace Go.Proofs.YtefcgbkbgkllaaaDoor
open Go Go.RowKit
set_option maxRecDepth 100000
set_option maxHeartbeats 4000000

/-- What Words answers. -/
def wordsM (m : Int) : List UInt8 := if isMask m then textM m else []
theorem mdWords_any {w : World} (hB : BitsAt w) {m : Int} (h64 : In64 m) :
    Calls Tryd.prog 13 #[.int .i64 m] w fun e w' => e = .returned (.string ⟨(wordsM m).toArray⟩) ∧ Only (fun _ => False) w w' := by
  have HR := Lib.hid (fun W => mdRight_any W h64)
  unfold wordsM
  cases hk : isMask m with
  | false =>
    rw [hk] at HR
    clear hk hB
    go_enter Tryd.func13, Tryd.ntmps13
    go_wp2_with (go_at_call 12; (with_reducible refine (HR.out _).mono ?_); rintro e w1 ⟨rfl, e1⟩; subst w1)
    go_ret
    exact ⟨rfl, Only.refl _ _⟩
  | true =>
    by_cases h0 : m = 0
    · subst h0
      rw [hk] at HR
      clear hk hB
      go_enter Tryd.func13, Tryd.ntmps13
      go_wp2_with (go_at_call 12; (with_reducible refine (HR.out _).mono ?_); rintro e w1 ⟨rfl, e1⟩; subst w1)
      go_ret
      exact ⟨rfl, Only.refl _ _⟩
    · exact mdWords_mask hB hk h0

/-- What the calls read at package level. -/
structure MdW (W : World) (es : List Addr) : Prop where
  errs : ErrsOf W mdSel es
  bits : BitsAt W
theorem MdW.only {W W' : World} {es : List Addr} (h : MdW W es) (ho : Only (fun _ => False) W W') : MdW W' es := ⟨h.errs.only ho, h.bits.only ho⟩

theorem mdAlive {w : World} {es : List Addr} (hW : MdW w es) : Calls Tryd.prog 6 #[] w fun e w' => e = .returned (.bool true) ∧ Only (fun _ => False) w w' := by
  have HW := Lib.hid hW
  have HT := Lib.hid (fun W => mdNewTail_any W 1)
  rw [show canOf 1 = 1 from by decide +kernel] at HT
  have HH := Lib.hid (fun W => mdNewHead_any W)
  have H1 : Hid (∀ W p, HdAt W p 0 false → _) := fun W p (h : HdAt W p 0 false) => mdSet_ok (m := 9) h ⟨by omega, by omega⟩ (by decide +kernel)
  have H2 : Hid (∀ W q A, Only (fun _ => False) w W → TlAt W q 1 0 → Src W A 2 (bodyM 9) → Calls Tryd.prog 18 #[.pointer (some ⟨q, 0, none⟩), .slice A 2 2] W fun e w' => ∃ N, e = .returned (.tuple #[.slice (some ⟨N, 0, none⟩) 2 2, .nilIface]) ∧ Hid (W.heap.size ≤ N) ∧ Hid (Src w' (some ⟨N, 0, none⟩) 2 (bodyM 5)) ∧ Hid (TlAt w' q 1 1) ∧ Hid (Only (· = q) W w')) := fun W q A ho h hs => by
    have := mdTake_ok (hW.errs.only ho) h (by decide) 2 hs (by decide +kernel)
    rw [show both (saysM (bodyM 9)).1 1 = 1 from by decide +kernel] at this
    exact this
  have H3 : Hid (∀ W p A, Only (fun _ => False) w W → HdAt W p 9 true → Src W A 2 (bodyM 5) → Calls Tryd.prog 17 #[.pointer (some ⟨p, 0, none⟩), .slice A 2 2] W fun e w' => e = .returned .nilIface ∧ Hid (HdAt w' p 1 false) ∧ Hid (Only (· = p) W w')) := fun W p A ho h hs => by
    have := mdHear_ok (hW.errs.only ho) h 2 hs (by decide +kernel)
    rw [show (saysM (bodyM 5)).1 = 1 from by decide +kernel] at this
    exact this
  have H4 : Hid (∀ W, Only (fun _ => False) w W → Calls Tryd.prog 13 #[.int .i64 9] W fun e w' => e = .returned (.string ⟨#[101, 100, 105, 116, 43, 115, 111, 102, 116]⟩) ∧ Only (fun _ => False) W w') := fun W ho => by
    have := mdWords_any (hW.bits.only ho) (m := 9) ⟨by omega, by omega⟩
    rw [show wordsM 9 = [101, 100, 105, 116, 43, 115, 111, 102, 116] from by decide +kernel] at this
    exact this
  clear hW
  go_enter Tryd.func6, Tryd.ntmps6
  go_wp2_with (first
    | (go_at_call 14; (with_reducible refine (HH.out _).mono ?_); rintro e w1 ⟨rfl, hd1, hz1, ho1⟩)
    | (go_at_call 15; (with_reducible refine (HT.out _).mono ?_); rintro e w2 ⟨rfl, ht2, hz2, ho2⟩; have hpq : w.heap.size ≠ w1.heap.size := (by have := hz1.out; omega); have HO2 : Hid (Only (fun _ => False) w w2) := ho1.out.trans ho2.out (fun _ h => h.elim); have HD2 : Hid (HdAt w2 w.heap.size 0 false) := hd1.out.same ho2.out)
    | (go_at_call 16; (with_reducible refine (H1.out _ _ HD2.out).mono ?_); rintro e w3 ⟨N, rfl, hN3, hs3, hd3, ho3⟩; have HO3 : Hid (Only (fun _ => False) w w3) := HO2.out.trans ho3.out (fun i hi => .inr (by omega)); have HT3 : Hid (TlAt w3 w1.heap.size 1 0) := ht2.out.far ho3.out hpq.symm)
    | (go_at_call 18; (with_reducible refine (H2.out _ _ _ HO3.out HT3.out hs3.out).mono ?_); rintro e w4 ⟨M, rfl, hM4, hs4, ht4, ho4⟩; have HO4 : Hid (Only (fun _ => False) w w4) := HO3.out.trans ho4.out (fun i hi => .inr (by have := hz1.out; omega)); have HD4 : Hid (HdAt w4 w.heap.size 9 true) := hd3.out.far ho4.out hpq)
    | (go_at_call 17; (with_reducible refine (H3.out _ _ _ HO4.out HD4.out hs4.out).mono ?_); rintro e w5 ⟨rfl, hd5, ho5⟩; have HO5 : Hid (Only (fun _ => False) w w5) := HO4.out.trans ho5.out (fun i hi => .inr (by omega)); have HT5 : Hid (TlAt w5 w1.heap.size 1 1) := ht4.out.far ho5.out hpq.symm)
    | (go_at_call 20; (with_reducible refine (mdMask_any hd5.out).mono ?_); rintro e w6 ⟨rfl, e6⟩; subst w6)
    | (go_at_call 22; (with_reducible refine (mdTMask_any HT5.out).mono ?_); rintro e w7 ⟨rfl, e7⟩; subst w7)
    | (go_at_call 13; (with_reducible refine (H4.out _ HO5.out).mono ?_); rintro e w8 ⟨rfl, ho8⟩)
    | fail)
  go_ret
  exact ⟨rfl, HO5.out.trans ho8 (fun _ h => h.elim)⟩
end Go.Proofs.YtefcgbkbgkllaaaDoor
