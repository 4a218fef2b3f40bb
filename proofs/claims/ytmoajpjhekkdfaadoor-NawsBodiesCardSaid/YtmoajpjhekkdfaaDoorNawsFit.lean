/- Package naws: Parse of four bytes, and Fit. -/
import Derived.Test.YtmoajpjhekkdfaaDoorNawsSz
namespace Go.Proofs.YtmoajpjhekkdfaaDoor
open Go Go.RowKit
set_option maxRecDepth 100000
set_option maxHeartbeats 4000000

theorem parse_ok {w : World} {A : Option Addr} {a b c d : UInt8} (h : Src w A 4 [a, b, c, d]) (cap : Nat) :
    Calls Tryd.prog 8 #[.slice A 4 cap] w fun e w' => e = .returned (.tuple #[szVal (two a b) (two c d), .nilIface]) ∧ Only (fun _ => False) w w' := by
  obtain ⟨_, hx⟩ := h
  obtain ⟨ad, rfl, hs⟩ := hx (by omega)
  have c0 := hs 0 a rfl
  have c1 := hs 1 b rfl
  have c2 := hs 2 c rfl
  have c3 := hs 3 d rfl
  have add_k : ∀ k, 0 < k → ad.add k = ⟨ad.block, ad.off + k, none⟩ := fun k hk => by simp [Addr.add]; omega
  rw [show ad.add 0 = ad from by simp [Addr.add]] at c0
  rw [add_k 1 (by omega)] at c1
  rw [add_k 2 (by omega)] at c2
  rw [add_k 3 (by omega)] at c3
  have hlt := World.block_lt_of_cell? w _ c0
  have HN1 := Lib.hid (fun W => number_any W a b)
  have HN2 := Lib.hid (fun W => number_any W c d)
  have hne : ad.block ≠ w.heap.size := by omega
  clear hs hx add_k
  unfold szVal
  unfold B8 at *
  generalize two a b = x at *
  generalize two c d = y at *
  have b1 : (1 : Int) < (4 : Int) := by omega
  go_enter Tryd.func8, Tryd.ntmps8
  go_wp2_with fail
  go_region_held3 (fun W => W.cell? ad = some (.int .u8 (a.toNat : Int)) ∧ W.cell? ⟨ad.block, ad.off + 1, none⟩ = some (.int .u8 (b.toNat : Int)) ∧ W.cell? ⟨ad.block, ad.off + 2, none⟩ = some (.int .u8 (c.toNat : Int)) ∧ W.cell? ⟨ad.block, ad.off + 3, none⟩ = some (.int .u8 (d.toNat : Int)))
    (go_keep)
    (first
      | (go_at_call 16; (with_reducible refine (HN1.out _).mono ?_); rintro e w' ⟨rfl, e2⟩; subst w')
      | (go_at_call 16; (with_reducible refine (HN2.out _).mono ?_); rintro e w' ⟨rfl, e2⟩; subst w'))
  all_goals
    go_wp2
    refine ret_cell2 rfl w.heap.size rfl 23 [.int .i64 x, .int .i64 y] _ (Blk.new' _ _ _ rfl).drew Tryd.underlying23 rfl size_sz rfl ?_
    exact ⟨rfl, ((Only.refl _ _).alloc _).drew⟩

theorem fit_any (w : World) (a b c d : Int) :
    Calls Tryd.prog 13 #[szVal a b, szVal c d] w fun e w' => e = .returned (szVal (less a c) (less b d)) ∧ Only (fun _ => False) w w' := by
  have HL1 := Lib.hid (fun W => lesser_any W a c)
  have HL2 := Lib.hid (fun W => lesser_any W b d)
  unfold szVal
  generalize less a c = x at *
  generalize less b d = y at *
  go_enter Tryd.func13, Tryd.ntmps13
  go_wp2_with fail
  go_region_held3 (fun W => W.cell? ⟨w.heap.size, 0, none⟩ = some (.int .i64 a) ∧ W.cell? ⟨w.heap.size, 1, none⟩ = some (.int .i64 b) ∧ W.cell? ⟨w.heap.size + 1, 0, none⟩ = some (.int .i64 c) ∧ W.cell? ⟨w.heap.size + 1, 1, none⟩ = some (.int .i64 d))
    (go_keep)
    (first
      | (go_at_call 20; (with_reducible refine (HL1.out _).mono ?_); rintro e w' ⟨rfl, e2⟩; subst w')
      | (go_at_call 20; (with_reducible refine (HL2.out _).mono ?_); rintro e w' ⟨rfl, e2⟩; subst w'))
  trace_state
  all_goals
    go_wp2
    refine ret_cell1 rfl (w.heap.size + 1 + 1) rfl 23 [.int .i64 x, .int .i64 y] _ (Blk.new' _ _ _ (by simp)).drew Tryd.underlying23 rfl size_sz rfl ?_
    exact ⟨rfl, ((((Only.refl _ _).alloc _).alloc _).alloc _).drew⟩
end Go.Proofs.YtmoajpjhekkdfaaDoor
