/- Package iac: Same, Word; what of bytes they lean on; the chapter's example. -/
import Derived.Test.YtelmfncdamakfaaDoorIacAll
import Derived.BigQuiet
namespace Go.Proofs.YtelmfncdamakfaaDoor
open Go Go.RowKit
set_option maxRecDepth 100000
set_option maxHeartbeats 4000000

theorem equal_any {w : World} {A B : Option Addr} {n m c d : Nat} {xs ys : List UInt8} (ha : Src w A n xs) (hb : Src w B m ys) :
    Calls Tryd.prog 16 #[.slice A n c, .slice B m d] w fun e w' => e = .returned (.bool (decide (xs = ys))) ∧ w' = w := by
  have h1 := text_of (P := Tryd.prog) ha c 22 9 5 Tryd.underlying22 Tryd.underlying5 Tryd.underlying9
  have h2 := text_of (P := Tryd.prog) hb d 22 9 5 Tryd.underlying22 Tryd.underlying5 Tryd.underlying9
  clear ha hb
  go_enter Tryd.func16, Tryd.ntmps16
  go_wp2
  go_ret
  refine ⟨congrArg (fun b => Ending.returned (Value.bool b)) ?_, rfl⟩
  exact Bool.eq_iff_iff.2 (by rw [beq_iff_eq, decide_eq_true_iff])

theorem same_any {w : World} (a b : Tk) (va vb : Value) (ha : Reads w va a.body) (hb : Reads w vb b.body) :
    Calls Tryd.prog 7 #[.agg (tkCells a va).toArray, .agg (tkCells b vb).toArray] w fun e w' => e = .returned (.bool (decide (a = b))) ∧ Only (fun _ => False) w w' := by
  obtain ⟨A, c, rfl, hsa, _⟩ := ha
  obtain ⟨B, d, rfl, hsb, _⟩ := hb
  obtain ⟨ak, ac, ao, ab, at_⟩ := a
  obtain ⟨bk, bc, bo, bb, bt⟩ := b
  simp only at hsa hsb
  obtain ⟨n, hn⟩ : ∃ n, n = ab.length := ⟨_, rfl⟩
  obtain ⟨m, hm⟩ : ∃ m, m = bb.length := ⟨_, rfl⟩
  have HE : Hid (∀ W, Only (fun _ => False) w W → Calls Tryd.prog 16 #[.slice A n c, .slice B m d] W fun e w' => e = .returned (.bool (decide (ab = bb))) ∧ w' = W) := fun W ho => by
    rw [hn, hm]
    exact equal_any (c := c) (d := d) (hsa.only ho (fun _ _ _ h => h)) (hsb.only ho (fun _ _ _ h => h))
  simp only [tkCells]
  rw [← hn, ← hm]
  clear hsa hsb hn hm
  go_enter Tryd.func7, Tryd.ntmps7
  go_wp2_with (go_at_call 16; refine (HE.out _ (((Only.refl _ _).alloc _).alloc _)).mono ?_; rintro e w' ⟨rfl, rfl⟩)
  all_goals
    go_ret
    refine ⟨congrArg (fun b => Ending.returned (Value.bool b)) ?_, ((Only.refl _ _).alloc _).alloc _⟩
    simp_all

/-- .. of a token and itself, its cells spelt out. -/
theorem same_flat {w : World} (k c o : Int) (b : List UInt8) (cut : Bool) (A1 A2 : Option Addr) (n c1 c2 : Nat) (hn : n = b.length) (ha : Reads w (.slice A1 n c1) b) (hb : Reads w (.slice A2 n c2) b) :
    Calls Tryd.prog 7 #[.agg #[.int .i64 k, .int .i64 c, .int .i64 o, .slice A1 n c1, .bool cut], .agg #[.int .i64 k, .int .i64 c, .int .i64 o, .slice A2 n c2, .bool cut]] w fun e w' => e = .returned (.bool true) ∧ Only (fun _ => False) w w' := by
  subst hn
  refine (same_any ⟨k, c, o, b, cut⟩ ⟨k, c, o, b, cut⟩ _ _ ha hb).mono ?_
  rintro e w' ⟨rfl, ho⟩
  exact ⟨by simp, ho⟩
end Go.Proofs.YtelmfncdamakfaaDoor
