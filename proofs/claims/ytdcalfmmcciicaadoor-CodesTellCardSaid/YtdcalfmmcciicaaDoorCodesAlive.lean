/- The chapter's example of layer 4, as its statements ask it first, comes out as told. -/
import Derived.Test.YtdcalfmmcciicaaDoorCodes
namespace Go.Proofs.YtdcalfmmcciicaaDoor
open Go Go.RowKit

theorem name24 : nameOf 24 = [116, 116, 121, 112, 101] := by
  unfold nameOf
  rw [if_pos (by omega), nameAt_eq _ (by decide)]
  decide +kernel
theorem name25 : nameOf 25 = [50, 53] := by
  unfold nameOf
  rw [if_pos (by omega), nameAt_eq _ (by decide)]
  decide +kernel

theorem alive_any {W : World} (h : TextsAt W 1 optWords) (hp : Pow W) : Calls Tryd.prog 6 #[] W fun e w' => e = .returned (.bool true) ∧ Only (fun _ => False) W w' := by
  have A := answer_any W 253 true
  rw [show answerOf 253 true = 251 from rfl, show decide ((251 : Int) ≤ 253 ∧ (253 : Int) ≤ 254) = true from rfl] at A
  have B := fun w => verb_any w 254
  simp only [show decide ((251 : Int) ≤ 254 ∧ (254 : Int) ≤ 254) = true from rfl] at B
  have H := Lib.hid h
  have HP := Lib.hid hp
  have HA := Lib.hid A
  have HB := Lib.hid B
  have C : Hid (∀ w, Only (fun _ => False) W w → Calls Tryd.prog 19 #[.int .i64 24] w fun e w' => e = .returned (.string ⟨#[116, 116, 121, 112, 101]⟩) ∧ Only (fun _ => False) W w') := fun w ho => by
    have := name_any (H.out.only ho) (HP.out.only ho) 24 (by decide) (by decide)
    rw [name24] at this
    exact this.mono fun e w' ⟨he, h2⟩ => ⟨he, ho.trans h2 (fun _ h => h.elim)⟩
  have D : Hid (∀ w, Only (fun _ => False) W w → Calls Tryd.prog 19 #[.int .i64 25] w fun e w' => e = .returned (.string ⟨#[50, 53]⟩) ∧ Only (fun _ => False) W w') := fun w ho => by
    have := name_any (H.out.only ho) (HP.out.only ho) 25 (by decide) (by decide)
    rw [name25] at this
    exact this.mono fun e w' ⟨he, h2⟩ => ⟨he, ho.trans h2 (fun _ h => h.elim)⟩
  clear h hp A B
  go_enter Tryd.func6, Tryd.ntmps6
  go_wp2_with (first
    | (go_at_call 7; refine HA.out.mono ?_; rintro e w0 ⟨rfl, rfl⟩)
    | ((with_reducible show Calls _ _ #[.int .i64 24] _ _); refine (C.out _ (Only.refl _ _)).mono ?_; rintro e w1 ⟨rfl, ho1⟩)
    | ((with_reducible show Calls _ _ #[.int .i64 25] _ _); refine (D.out _ ho1).mono ?_; rintro e w2 ⟨rfl, ho2⟩)
    | (go_at_call 12; refine (HB.out _).mono ?_; rintro e w' ⟨rfl, rfl⟩))
  trace_state
  go_ret
  exact ⟨rfl, ho2⟩
end Go.Proofs.YtdcalfmmcciicaaDoor
