/- Layer 13's laws: the chapter's example. -/
import Derived.Test.YtjdfdgmfkpdfbaaDoorTtCycle
namespace Go.Proofs.YtjdfdgmfkpdfbaaDoor
open Go Go.RowKit
set_option maxRecDepth 100000
set_option maxHeartbeats 4000000

def vt : List UInt8 := [118, 116, 49, 48, 48]
def an : List UInt8 := [97, 110, 115, 105]
theorem tt_alive (w : World) : Calls Tryd.prog 6 #[] w fun e w' => e = .returned (.bool true) ∧ Only (fun _ => False) w w' := by
  have hsrc : TSrc (w.alloc (.cells #[.string ⟨#[118, 116, 49, 48, 48]⟩, .string ⟨#[97, 110, 115, 105]⟩] 9)) (some ⟨w.heap.size, 0, none⟩) 2 [vt, an] :=
    TSrc.of_blk (Blk.new w 9 [S8 vt, S8 an]) rfl (fun j x hx => by
      match j, hx with
      | 0, hx => injection hx with hx; subst hx; rfl
      | 1, hx => injection hx with hx; subst hx; rfl
      | j + 2, hx => simp at hx)
  have HN := Lib.hid (new_ok (n := 2) 2 hsrc (by omega) (by omega) (by decide))
  have H0 : Hid (∀ (W : World) (p : Nat), CycAt W p [vt, an] 0 → Calls Tryd.prog 17 #[.pointer (some ⟨p, 0, none⟩)] W fun e w' => e = .returned (.string ⟨#[118, 116, 49, 48, 48]⟩) ∧ CycAt w' p [vt, an] 1 ∧ Only (· = p) W w') := fun W p h => next_any (k := 0) h (by decide) (by decide)
  have H1 : Hid (∀ (W : World) (p : Nat), CycAt W p [vt, an] 1 → Calls Tryd.prog 17 #[.pointer (some ⟨p, 0, none⟩)] W fun e w' => e = .returned (.string ⟨#[97, 110, 115, 105]⟩) ∧ CycAt w' p [vt, an] 2 ∧ Only (· = p) W w') := fun W p h => next_any (k := 1) h (by decide) (by decide)
  have H2 : Hid (∀ (W : World) (p : Nat), CycAt W p [vt, an] 2 → Calls Tryd.prog 17 #[.pointer (some ⟨p, 0, none⟩)] W fun e w' => e = .returned (.string ⟨#[97, 110, 115, 105]⟩) ∧ CycAt w' p [vt, an] 0 ∧ Only (· = p) W w') := fun W p h => next_any (k := 2) h (by decide) (by decide)
  clear hsrc
  go_enter Tryd.func6, Tryd.ntmps6
  go_wp2_with (first
    | (go_at_call 13; (with_reducible refine HN.out.mono ?_); rintro e w1 ⟨p, rfl, hc1, hp1, ho1⟩; have HC1 := Lib.hid hc1; have HO1 := Lib.hid ho1; have HP1 := Lib.hid hp1; clear hc1 ho1 hp1 HN)
    | (go_at_call 17; (with_reducible refine (H0.out _ _ HC1.out).mono ?_); rintro e w2 ⟨rfl, hc2, ho2⟩; have HC2 := Lib.hid hc2; have HO2 := Lib.hid ho2; clear hc2 ho2 HC1)
    | (go_at_call 17; (with_reducible refine (H1.out _ _ HC2.out).mono ?_); rintro e w3 ⟨rfl, hc3, ho3⟩; have HC3 := Lib.hid hc3; have HO3 := Lib.hid ho3; clear hc3 ho3 HC2)
    | (go_at_call 17; (with_reducible refine (H2.out _ _ HC3.out).mono ?_); rintro e w4 ⟨rfl, hc4, ho4⟩; have HC4 := Lib.hid hc4; have HO4 := Lib.hid ho4; clear hc4 ho4 HC3)
    | (go_at_call 17; (with_reducible refine (H0.out _ _ HC4.out).mono ?_); rintro e w5 ⟨rfl, hc5, ho5⟩; have HO5 := Lib.hid ho5; clear hc5 ho5 HC4))
  go_ret
  refine ⟨rfl, ?_⟩
  have h := (((HO2.out.trans HO3.out (fun i hi => .inl hi)).trans HO4.out (fun i hi => .inl hi)).trans HO5.out (fun i hi => .inl hi))
  exact (((Only.refl _ w).alloc _).trans HO1.out (fun _ h => h.elim)).trans h (fun i hi => .inr (by have := HP1.out; simp at this; omega))
end Go.Proofs.YtjdfdgmfkpdfbaaDoor
