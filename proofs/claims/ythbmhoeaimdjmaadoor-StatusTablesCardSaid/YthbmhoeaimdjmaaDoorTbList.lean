/- Package table: List. -/
import Derived.Test.YthbmhoeaimdjmaaDoorQsTb
import Derived.Test.YthbmhoeaimdjmaaDoorRow1
namespace Go.Proofs.YthbmhoeaimdjmaaDoor
open Go Go.RowKit
set_option maxRecDepth 100000
set_option maxHeartbeats 4000000

/-- A row of ints that a call laid. -/
def onL (t : Tb) (s : Int) (n : Nat) : List Int := ((List.range n).filter fun (o : Nat) => decide (t.get s (o : Int) = .yes)).map fun (o : Nat) => (o : Int)
theorem onL_succ (t : Tb) (s : Int) (n : Nat) : onL t s (n + 1) = onL t s n ++ (if t.get s (n : Int) = .yes then [(n : Int)] else []) := by
  unfold onL
  rw [List.range_succ, List.filter_append, List.map_append]
  congr 1
  by_cases h : t.get s (n : Int) = .yes <;> simp [h]
def iv (z : Int) : Value := .int .i64 z
theorem tlist_any {W : World} {p : Nat} {ag : Nat → Nat → Bool} {t : Tb} (h : TbAt W p ag t) (s : Int) : Calls Tryd.prog 50 #[.pointer (some ⟨p, 0, none⟩), .int .i64 s] W fun e w' =>
    ∃ A n c, e = .returned (.slice A n c) ∧ n = (onL t s 256).length ∧ w'.ownsRow W.heap.size 3 1 (.slice A n c) n ((onL t s 256).map iv) ∧ Only (fun _ => False) W w' := by
  have HT := Lib.hid h
  clear h
  go_enter Tryd.func50, Tryd.ntmps50
  go_wp2
  go_loopw [5, 7] (fun v i w => ∃ (j : Nat) (A : Option Addr) (n c : Nat), j ≤ 256 ∧ n ≤ j ∧ v = .slice A n c ∧ i = .int .i64 (j : Int) ∧ Hid (n = (onL t s j).length ∧ Only (fun _ => False) W w ∧ w.ownsRow W.heap.size 3 1 (.slice A n c) n ((onL t s j).map iv))) (fun _ i _ => 256 - (intOf i).toNat)
  case atStart => exact ⟨0, none, 0, 0, by omega, by omega, rfl, rfl, rfl, Only.refl _ _, own_nil _ _ _ _⟩
  case round =>
    obtain ⟨j, A, n, c, hj, hnj, rfl, rfl, hrel⟩ := hrel
    by_cases hjn : j < 256
    · have hj2 : (j : Int) < 256 := by omega
      have HOn : Hid (Calls Tryd.prog 62 #[.pointer (some ⟨p, 0, none⟩), .int .i64 s, .int .i64 (j : Int)] wr fun e w' => e = .returned (.bool (decide (t.get s (j : Int) = .yes))) ∧ Only (fun _ => False) wr w') := ton_any (HT.out.same hrel.out.2.1) s (j : Int)
      have HS := Lib.hid (onL_succ t s j)
      by_cases hon : t.get s (j : Int) = .yes
      · rw [decide_eq_true hon] at HOn
        rw [if_pos hon] at HS
        obtain ⟨vs, hvs⟩ : ∃ vs, vs = (onL t s j).map iv := ⟨_, rfl⟩
        have HV := Lib.hid hvs
        clear hon hvs
        go_wp2_with (first
          | (go_at_call 62; refine HOn.out.mono ?_; rintro e w5 ⟨rfl, ho5⟩; have HO5 := Lib.hid (hrel.out.2.1.trans ho5 (fun _ h => h.elim)); have HR5 := Lib.hid (own_same hrel.out.2.2 ho5); rw [← HV.out] at HR5; clear ho5)
          | (at_builtin; refine step_one rfl _ _ 43 rfl 3 _ 8 Tryd.underlying43 info_int rfl (by omega) W.heap.size A n c vs rfl (own_same HR5.out ((Only.refl _ _).alloc _)) w5.heap.size _ rfl ((Blk.new w5 3 [.int .i64 (j : Int)]).cell 0) rfl (by omega) (by have := HO5.out.size; simp; omega) ?_; intro A' c' w6 hR6 hG6 hN6)
          | fail)
        go_roundw
        case rel =>
          refine ⟨j + 1, A', n + 1, c', by omega, by omega, rfl, by go_num, ?_, ?_, ?_⟩
          · rw [HS.out, List.length_append, ← hrel.out.1]; rfl
          · exact (HO5.out.alloc _).grown hG6.out (fun k hk => .inr (own_lt HR5.out k hk).1)
          · rw [HS.out, List.map_append, ← HV.out]; exact hR6.out
        case measure => simp [intOf]; omega
      · rw [decide_eq_false hon] at HOn
        rw [if_neg hon, List.append_nil] at HS
        clear hon
        go_wp2_with (first
          | (go_at_call 62; refine HOn.out.mono ?_; rintro e w5 ⟨rfl, ho5⟩; have HO5 := Lib.hid (hrel.out.2.1.trans ho5 (fun _ h => h.elim)); have HR5 := Lib.hid (own_same hrel.out.2.2 ho5); clear ho5)
          | fail)
        go_roundw
        case rel => exact ⟨j + 1, A, n, c, by omega, by omega, rfl, by go_num, by rw [HS.out]; exact hrel.out.1, HO5.out, by rw [HS.out]; exact HR5.out⟩
        case measure => simp [intOf]; omega
    · obtain rfl : j = 256 := by omega
      go_wp2
      go_ret
      exact ⟨A, n, c, rfl, hrel.out.1, hrel.out.2.2, hrel.out.2.1⟩
end Go.Proofs.YthbmhoeaimdjmaaDoor
