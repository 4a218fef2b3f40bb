/- The chapter's example of layer 6, as its statements ask it first, comes out as told. -/
import Derived.Test.YtgahamdfgjijkaaDoorEmitAll
namespace Go.Proofs.YtgahamdfgjijkaaDoor
open Go Go.RowKit
set_option maxRecDepth 100000
set_option maxHeartbeats 4000000

theorem ealive_any {W : World} {es : List Addr} (hes : ErrsOf W [0, 3, 8] es) : Calls Tryd.prog 6 #[] W fun e w' => e = .returned (.bool true) ∧ Only (fun _ => False) W w' := by
  have C : Calls Tryd.prog 16 #[.int .i64 253, .int .i64 1] W fun e w' => ∃ A c, e = .returned (.tuple #[.slice A 3 c, .nilIface]) ∧ Hid (Src w' A 3 [255, 253, 1]) ∧ Hid (Only (fun _ => False) W w') := by
    refine (verb3_any hes 253 1 [] false).mono ?_
    rintro e w' ⟨A, c, E, rfl, hb, hE, ho⟩
    have e1 : tkBytes ⟨3, 253, 1, [], false⟩ = [255, 253, 1] := by decide +kernel
    have e2 : tkNum ⟨3, 253, 1, [], false⟩ = 0 := by decide +kernel
    rw [e2] at hE
    obtain rfl : E = .nilIface := by rcases hE with ⟨_, h⟩ | ⟨i, a, h, _⟩; exact h; omega
    rw [e1] at hb ⊢
    exact ⟨A, c, rfl, hb.out.src rfl, ho⟩
  have D : ∀ W0 : World, Calls Tryd.prog 13 #[.slice (some ⟨W0.heap.size, 0, none⟩) 2 2] (W0.alloc (.cells #[.int .u8 1, .int .u8 255] 5)) fun e w' => ∃ A c, e = .returned (.slice A 3 c) ∧ Hid (Src w' A 3 [1, 255, 255]) ∧ Hid (Only (fun _ => False) W0 w') := fun W0 => by
    refine (data_any (c := 2) (src_new W0 [1, 255] _ _ (0, 0) 2 rfl rfl) (by omega)).mono ?_
    rintro e w' ⟨A, c, rfl, hb, ho⟩
    have e1 : dbl [1, 255] = [1, 255, 255] := by decide +kernel
    rw [e1] at hb ⊢
    exact ⟨A, c, rfl, hb.out.src rfl, ((Only.refl (fun _ => False) W0).alloc _).trans ho.out (fun _ h => h.elim)⟩
  have HC := Lib.hid C
  have HD := Lib.hid D
  clear C D hes
  go_enter Tryd.func6, Tryd.ntmps6
  go_wp2_with (first
    | (go_at_call 16; refine HC.out.mono ?_; rintro e w1 ⟨A1, c1, rfl, hs1, ho1⟩; have hcv1 := text_of (P := Tryd.prog) hs1.out c1 24 9 5 Tryd.underlying24 Tryd.underlying5 Tryd.underlying9)
    | (go_at_call 13; refine (HD.out w1).mono ?_; rintro e w2 ⟨A2, c2, rfl, hs2, ho2⟩; have hcv2 := text_of (P := Tryd.prog) hs2.out c2 24 9 5 Tryd.underlying24 Tryd.underlying5 Tryd.underlying9))
  go_ret
  exact ⟨rfl, ho1.out.trans ho2.out (fun _ h => h.elim)⟩
end Go.Proofs.YtgahamdfgjijkaaDoor
