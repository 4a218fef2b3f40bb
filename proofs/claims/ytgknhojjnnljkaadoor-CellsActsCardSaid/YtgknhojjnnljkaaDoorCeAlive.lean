/- Layer 19's laws: the chapter's example. -/
import Derived.Test.YtgknhojjnnljkaaDoorCePutT
import Derived.Test.YtgknhojjnnljkaaDoorCeNew
import Derived.Test.YtgknhojjnnljkaaDoorCeLine
import Derived.Lib.SlBytesConst
namespace Go.Proofs.YtgknhojjnnljkaaDoor
open Go Go.RowKit
set_option maxRecDepth 100000
set_option maxHeartbeats 4000000

def abcde : List UInt8 := [97, 98, 99, 100, 101]
theorem alive_x : ((newSc 4 2).puts abcde).x = 1 := by decide
theorem alive_y : ((newSc 4 2).puts abcde).y = 1 := by decide
theorem alive_0 : ((newSc 4 2).puts abcde).line 0 = [97, 98, 99, 100] := by decide
theorem alive_1 : ((newSc 4 2).puts abcde).line 1 = [101] := by decide
theorem one_one : (FloatKind.f64.format.order 4607182418800017408 4607182418800017408 == some .eq) = true := by decide +kernel

theorem ce_alive (w : World) : Calls Tryd.prog 6 #[] w fun e w' => e = .returned (.bool true) ∧ Hid (Only (fun _ => False) w w') := by
  have HN := Lib.hid (fun W => new_ok (w := W) (c := 4) (R := 2) (by omega) (by omega) (by omega) (by omega))
  have HN : Hid (∀ W, Calls Tryd.prog 7 #[.int .i64 4, .int .i64 2] W fun e w' => ∃ p F, e = .returned (.tuple #[.pointer (some ⟨p, 0, none⟩), .nilIface]) ∧ Hid (ScAt w' p F (newSc 4 2)) ∧ Hid (∀ k, F k → W.heap.size ≤ k) ∧ Hid (Only (fun _ => False) W w')) := HN
  have HW : Hid (∀ (W : World) (p : Nat) (F : Nat → Prop) (fr : Nat × Nat), ScAt W p F (newSc 4 2) → Calls Tryd.prog 11 #[.pointer (some ⟨p, 0, none⟩), .slice (some ⟨W.heap.size, 0, none⟩) 5 5] (W.alloc (.cells #[.int .u8 97, .int .u8 98, .int .u8 99, .int .u8 100, .int .u8 101] 5 fr)) fun e w' => e = .returned (.tuple #[]) ∧ Hid (Goes p F ((newSc 4 2).puts abcde) W w')) := fun W p F fr h => by
    have hs : Src (W.alloc (.cells #[.int .u8 97, .int .u8 98, .int .u8 99, .int .u8 100, .int .u8 101] 5 fr)) (some ⟨W.heap.size, 0, none⟩) 5 abcde := src_new W abcde _ _ _ 5 rfl rfl
    have ho : Only (fun _ => False) W (W.alloc (.cells #[.int .u8 97, .int .u8 98, .int .u8 99, .int .u8 100, .int .u8 101] 5 fr)) := (Only.refl _ W).alloc _
    refine (write_any (h.same ho) 5 hs (by omega) (fun _ ad e hF => ?_)).mono fun e w' ⟨h1, h2⟩ => ⟨h1, h2.out.pre (ho.mono (fun _ h => h.elim))⟩
    injection e with e
    subst e
    have := h.lt _ hF
    simp at this
  have HL0 : Hid (∀ (W : World) (p : Nat) (F : Nat → Prop), ScAt W p F ((newSc 4 2).puts abcde) → Calls Tryd.prog 21 #[.pointer (some ⟨p, 0, none⟩), .int .i64 0] W fun e w' => e = .returned (.string ⟨#[97, 98, 99, 100]⟩) ∧ w' = W) := fun W p F h => by
    have := line_any h 0
    rw [alive_0] at this
    exact this
  have HL1 : Hid (∀ (W : World) (p : Nat) (F : Nat → Prop), ScAt W p F ((newSc 4 2).puts abcde) → Calls Tryd.prog 21 #[.pointer (some ⟨p, 0, none⟩), .int .i64 1] W fun e w' => e = .returned (.string ⟨#[101]⟩) ∧ w' = W) := fun W p F h => by
    have := line_any h 1
    rw [alive_1] at this
    exact this
  have HC : Hid (∀ (W : World) (p : Nat) (F : Nat → Prop), ScAt W p F ((newSc 4 2).puts abcde) → Calls Tryd.prog 20 #[.pointer (some ⟨p, 0, none⟩)] W fun e w' => e = .returned (.complex .f64 4607182418800017408 4607182418800017408) ∧ w' = W) := fun W p F h => by
    have := cursor_any h
    rw [alive_x, alive_y, show ((1 : Nat) : Int) = 1 from rfl, fl_one] at this
    exact this
  have hone := one_one
  have kc := fun (w : World) (C : Array Value) (n c : Nat) => Lib.run_convert_bytes_const (P := Tryd.prog) w 34 5 C n c Tryd.underlying34 Tryd.underlying5
  go_enter Tryd.func6, Tryd.ntmps6
  go_wp2_with (first
    | (go_at_call 7; (with_reducible refine (HN.out _).mono ?_); rintro e w1 ⟨p, F, rfl, hs1, hF1, ho1⟩)
    | (go_at_call 11; (with_reducible refine (HW.out _ _ _ _ hs1.out).mono ?_); rintro e w2 ⟨rfl, hg2⟩; obtain ⟨F2, hs2, ho2, hF2⟩ := hg2.out; have HS2 := Lib.hid hs2; have HO2 := Lib.hid ho2; clear hs2 ho2 hF2)
    | (go_at_call 21; (with_reducible refine (HL0.out _ _ _ HS2.out).mono ?_); rintro e w3 ⟨rfl, e2⟩; subst w3)
    | (go_at_call 21; (with_reducible refine (HL1.out _ _ _ HS2.out).mono ?_); rintro e w3 ⟨rfl, e2⟩; subst w3)
    | (go_at_call 20; (with_reducible refine (HC.out _ _ _ HS2.out).mono ?_); rintro e w3 ⟨rfl, e2⟩; subst w3))
  go_ret
  exact ⟨rfl, ho1.out.trans HO2.out (fun i hi => .inr (hF1.out i hi))⟩
end Go.Proofs.YtgknhojjnnljkaaDoor
