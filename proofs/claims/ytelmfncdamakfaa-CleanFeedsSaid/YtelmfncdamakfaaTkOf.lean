/- The law's Of: a token as the document has it. -/
import Derived.Test.YtelmfncdamakfaaStr
import Derived.Laws.StructEq
namespace Go.Proofs.Ytelmfncdamakfaa
open Go Go.RowKit
set_option maxRecDepth 100000
set_option maxHeartbeats 4000000

theorem of_any {w : World} (t : Tk) (v : Value) (h : Reads w v t.body) :
    Calls Try.prog 17 #[.agg (tkCells t v).toArray] w fun e w' => e = .returned (.agg (rkCells t).toArray) ∧ Only (fun _ => False) w w' := by
  obtain ⟨A, c, rfl, hs, _⟩ := h
  obtain ⟨tk, tc, to_, tb, tcut⟩ := t
  simp only at hs
  obtain ⟨n, hn⟩ : ∃ n, n = tb.length := ⟨_, rfl⟩
  have hO : Only (fun _ => False) w ((w.alloc (.cells #[.int .i64 tk, .int .i64 tc, .int .i64 to_, .slice A n c, .bool tcut] 52)).alloc (.cells #[.int .i64 0, .int .i64 0, .int .i64 0, .string ⟨#[]⟩, .bool false] 56)) := ((Only.refl _ _).alloc _).alloc _
  have hc := text_of (P := Try.prog) (hs.only hO (fun _ _ _ h => h)) c 22 9 5 Try.underlying22 Try.underlying5 Try.underlying9
  simp only [tkCells]
  rw [← hn] at hc ⊢
  clear hs hO hn
  go_enter Try.func17, Try.ntmps17
  go_wp2
  refine ret_cell1 rfl _ rfl _ (rkCells ⟨tk, tc, to_, tb, tcut⟩) _ (Blk.new' _ _ _ (by simp)) Try.underlying56 rfl size_rtok rfl ?_
  exact ⟨rfl, ((Only.refl _ _).alloc _).alloc _⟩

theorem eq_rtok (W : World) (a b : Tk) : (Op.equalIn 10000 56 (.agg (rkCells a).toArray) (.agg (rkCells b).toArray)).run Try.prog W = .ok (decide (a = b)) W := by
  obtain ⟨ak, ac, ao, ab, acut⟩ := a
  obtain ⟨bk, bc, bo, bb, bcut⟩ := b
  rw [show (10000 : Nat) = 9999 + 1 from rfl, run_equalIn_struct W 9999 _ _ _ (by kernel_rfl) (by kernel_rfl)]
  have u3 : Try.prog.underlying 3 = some (.int .i64) := Try.underlying3
  have u9 : Try.prog.underlying 9 = some .string := Try.underlying9
  have u4 : Try.prog.underlying 4 = some .bool := Try.underlying4
  simp only [Program.fieldsOf, Try.underlying56, Op.eqFields, rkCells]
  simp [go_sem, u3, u9, u4, Result.andThen]
  by_cases h1 : ak = bk <;> by_cases h2 : ac = bc <;> by_cases h3 : ao = bo <;> by_cases h4 : ab = bb <;> by_cases h5 : acut = bcut <;> simp [h1, h2, h3, h4, h5]
theorem guard_rtok : Try.prog.eqGuardType Try.prog.depth 56 = false := by kernel_rfl

/-- Of, the cells spelt out. -/
theorem of_flat {w : World} (k c o : Int) (b : List UInt8) (cut : Bool) (A1 : Option Addr) (n c1 : Nat) (hn : n = b.length) (ha : Reads w (.slice A1 n c1) b) :
    Calls Try.prog 17 #[.agg #[.int .i64 k, .int .i64 c, .int .i64 o, .slice A1 n c1, .bool cut]] w fun e w' => e = .returned (.agg #[.int .i64 k, .int .i64 c, .int .i64 o, .string ⟨b.toArray⟩, .bool cut]) ∧ Only (fun _ => False) w w' := by
  subst hn
  exact of_any ⟨k, c, o, b, cut⟩ _ ha

end Go.Proofs.Ytelmfncdamakfaa
