/- CellsActs, where it returns ahead of its loop. Written by wip/gen-CeActsF.py. -/
import Derived.Test.YtgknhojjnnljkaaDoorCeActsA
namespace Go.Proofs.YtgknhojjnnljkaaDoor
open Go Go.RowKit
set_option maxRecDepth 100000
set_option maxHeartbeats 4000000

/-- The two pairs, each in a variable of the call's own. -/
theorem two_pairs (w : World) (a b c d : Int) : Hid (∀ w1, Only (fun _ => False) ((w.alloc (.cells #[.int .i64 a, .int .i64 b] 22)).alloc (.cells #[.int .i64 c, .int .i64 d] 22)) w1 → w1.cell? ⟨w.heap.size, 0, none⟩ = some (.int .i64 a) ∧ w1.cell? ⟨w.heap.size, 1, none⟩ = some (.int .i64 b)) := fun w1 ho => by
  have h := ((Blk.new w 22 [.int .i64 a, .int .i64 b]).alloc _).only ho (fun h => h)
  exact ⟨h.cell 0, h.cell 1⟩
theorem two_only (w : World) (a b c d : Int) : Only (fun _ => False) w ((w.alloc (.cells #[.int .i64 a, .int .i64 b] 22)).alloc (.cells #[.int .i64 c, .int .i64 d] 22)) := ((Only.refl (fun _ => False) w).alloc _).alloc _
theorem acts_early (w : World) (s0 s1 f0 f1 : Int) (A : Option Addr) (n c : Nat) (h : 20 < n ∨ (40 < s0 ∧ s0 ≤ 200) ∨ (40 < s1 ∧ s1 ≤ 200)) :
    Calls Tryd.prog 3 #[pairV s0 s1, .slice A n c, pairV f0 f1] w (Fine w) := by
  have HC := two_pairs w s0 s1 f0 f1
  have HO := Lib.hid (two_only w s0 s1 f0 f1)
  have HA := Lib.hid (fun W => ce_alive W)
  by_cases h1 : 20 < n
  · have i1 : (20 : Int) < (n : Int) := by omega
    clear h h1
    go_enter Tryd.func3, Tryd.ntmps3
    go_wp2_with (first
      | (go_at_call 6; (with_reducible refine (HA.out _).mono ?_); rintro e w1 ⟨rfl, ho1⟩; obtain ⟨c0, c1⟩ := HC.out w1 ho1.out; have HO1 := Lib.hid (HO.out.trans ho1.out (fun _ h => h.elim)); clear HA)
      | fail)
    go_ret
    exact ⟨rfl, HO1.out⟩
  have i1 : ¬ (20 : Int) < (n : Int) := by omega
  by_cases hk_mid : 40 < s0 ∧ s0 ≤ 200
  · have j0 : (40 : Int) < s0 := by omega
    have j1 : s0 ≤ 200 := by omega
    clear h h1 hk_mid
    go_enter Tryd.func3, Tryd.ntmps3
    go_wp2_with (first
      | (go_at_call 6; (with_reducible refine (HA.out _).mono ?_); rintro e w1 ⟨rfl, ho1⟩; obtain ⟨c0, c1⟩ := HC.out w1 ho1.out; have HO1 := Lib.hid (HO.out.trans ho1.out (fun _ h => h.elim)); clear HA)
      | fail)
    go_ret
    exact ⟨rfl, HO1.out⟩
  by_cases hk_lo : s0 ≤ 40
  · have j0 : ¬ (40 : Int) < s0 := by omega
    have j1 : (40 : Int) < s1 := by omega
    have j2 : s1 ≤ 200 := by omega
    clear h h1 hk_lo
    go_enter Tryd.func3, Tryd.ntmps3
    go_wp2_with (first
      | (go_at_call 6; (with_reducible refine (HA.out _).mono ?_); rintro e w1 ⟨rfl, ho1⟩; obtain ⟨c0, c1⟩ := HC.out w1 ho1.out; have HO1 := Lib.hid (HO.out.trans ho1.out (fun _ h => h.elim)); clear HA)
      | fail)
    go_ret
    exact ⟨rfl, HO1.out⟩
  by_cases hk_hi : 200 < s0
  · have j0 : (40 : Int) < s0 := by omega
    have j1 : ¬ s0 ≤ 200 := by omega
    have j2 : (40 : Int) < s1 := by omega
    have j3 : s1 ≤ 200 := by omega
    clear h h1 hk_hi
    go_enter Tryd.func3, Tryd.ntmps3
    go_wp2_with (first
      | (go_at_call 6; (with_reducible refine (HA.out _).mono ?_); rintro e w1 ⟨rfl, ho1⟩; obtain ⟨c0, c1⟩ := HC.out w1 ho1.out; have HO1 := Lib.hid (HO.out.trans ho1.out (fun _ h => h.elim)); clear HA)
      | fail)
    go_ret
    exact ⟨rfl, HO1.out⟩
  omega
theorem acts_bad {w : World} {es : List Addr} (hes : ErrsAt w es) (s0 s1 f0 f1 : Int) (A : Option Addr) (n c : Nat) (h1 : n ≤ 20) (h2 : s0 ≤ 40 ∨ 200 < s0) (h3 : s1 ≤ 40 ∨ 200 < s1) (hf : fitsS s0 s1 = false) :
    Calls Tryd.prog 3 #[pairV s0 s1, .slice A n c, pairV f0 f1] w (Fine w) := by
  have HC := two_pairs w s0 s1 f0 f1
  have HO := Lib.hid (two_only w s0 s1 f0 f1)
  have HA := Lib.hid (fun W => ce_alive W)
  obtain ⟨a, hea, hec⟩ := (hes.of [0]).get 0 0 (by decide) rfl
  have HN : Hid (∀ W, Only (fun _ => False) w W → Calls Tryd.prog 7 #[.int .i64 s0, .int .i64 s1] W fun e w' => e = .returned (.tuple #[.pointer none, errV a]) ∧ Hid (Only (fun _ => False) W w')) := fun W ho => new_bad (ho.cellv hec (fun h => h)) s0 s1 hf
  have HR := Lib.hid (fun W => rnew_bad (w := W) s0 s1 hf)
  have HNu : Hid (∀ W, Only (fun _ => False) w W → Calls Tryd.prog 9 #[errV a] W fun e w' => e = .returned (.int .i64 1) ∧ Only (fun _ => False) W w') := fun W ho => num_is hes (ErrV.err hea 1 rfl) W ho
  have i1 : ¬ (20 : Int) < (n : Int) := by omega
  clear hes hea hec hf h1
  unfold errV at HN HNu
  by_cases hk_lolo : s0 ≤ 40 ∧ s1 ≤ 40
  · have j0 : ¬ (40 : Int) < s0 := by omega
    have j1 : ¬ (40 : Int) < s1 := by omega
    clear h2 h3 hk_lolo
    go_enter Tryd.func3, Tryd.ntmps3
    go_wp2_with (first
      | (go_at_call 6; (with_reducible refine (HA.out _).mono ?_); rintro e w1 ⟨rfl, ho1⟩; obtain ⟨c0, c1⟩ := HC.out w1 ho1.out; have HO1 := Lib.hid (HO.out.trans ho1.out (fun _ h => h.elim)); clear HA)
      | (go_at_call 7; (with_reducible refine (HN.out _ HO1.out).mono ?_); rintro e w2 ⟨rfl, ho2⟩; obtain ⟨c2, c3⟩ := HC.out w2 (ho1.out.trans ho2.out (fun _ h => h.elim)); have HO2 := Lib.hid (HO1.out.trans ho2.out (fun _ h => h.elim)); clear HO1)
      | (go_at_call 8; (with_reducible refine (HR.out _).mono ?_); rintro e w3 ⟨rfl, e2⟩; subst w3)
      | (go_at_call 9; (with_reducible refine (HNu.out _ HO2.out).mono ?_); rintro e w4 ⟨rfl, ho4⟩; have HO4 := Lib.hid (HO2.out.trans ho4 (fun _ h => h.elim)); clear ho4)
      | fail)
    go_ret
    exact ⟨rfl, HO4.out⟩
  by_cases hk_lohi : s0 ≤ 40 ∧ 200 < s1
  · have j0 : ¬ (40 : Int) < s0 := by omega
    have j1 : (40 : Int) < s1 := by omega
    have j2 : ¬ s1 ≤ 200 := by omega
    clear h2 h3 hk_lohi
    go_enter Tryd.func3, Tryd.ntmps3
    go_wp2_with (first
      | (go_at_call 6; (with_reducible refine (HA.out _).mono ?_); rintro e w1 ⟨rfl, ho1⟩; obtain ⟨c0, c1⟩ := HC.out w1 ho1.out; have HO1 := Lib.hid (HO.out.trans ho1.out (fun _ h => h.elim)); clear HA)
      | (go_at_call 7; (with_reducible refine (HN.out _ HO1.out).mono ?_); rintro e w2 ⟨rfl, ho2⟩; obtain ⟨c2, c3⟩ := HC.out w2 (ho1.out.trans ho2.out (fun _ h => h.elim)); have HO2 := Lib.hid (HO1.out.trans ho2.out (fun _ h => h.elim)); clear HO1)
      | (go_at_call 8; (with_reducible refine (HR.out _).mono ?_); rintro e w3 ⟨rfl, e2⟩; subst w3)
      | (go_at_call 9; (with_reducible refine (HNu.out _ HO2.out).mono ?_); rintro e w4 ⟨rfl, ho4⟩; have HO4 := Lib.hid (HO2.out.trans ho4 (fun _ h => h.elim)); clear ho4)
      | fail)
    go_ret
    exact ⟨rfl, HO4.out⟩
  by_cases hk_hilo : 200 < s0 ∧ s1 ≤ 40
  · have j0 : (40 : Int) < s0 := by omega
    have j1 : ¬ s0 ≤ 200 := by omega
    have j2 : ¬ (40 : Int) < s1 := by omega
    clear h2 h3 hk_hilo
    go_enter Tryd.func3, Tryd.ntmps3
    go_wp2_with (first
      | (go_at_call 6; (with_reducible refine (HA.out _).mono ?_); rintro e w1 ⟨rfl, ho1⟩; obtain ⟨c0, c1⟩ := HC.out w1 ho1.out; have HO1 := Lib.hid (HO.out.trans ho1.out (fun _ h => h.elim)); clear HA)
      | (go_at_call 7; (with_reducible refine (HN.out _ HO1.out).mono ?_); rintro e w2 ⟨rfl, ho2⟩; obtain ⟨c2, c3⟩ := HC.out w2 (ho1.out.trans ho2.out (fun _ h => h.elim)); have HO2 := Lib.hid (HO1.out.trans ho2.out (fun _ h => h.elim)); clear HO1)
      | (go_at_call 8; (with_reducible refine (HR.out _).mono ?_); rintro e w3 ⟨rfl, e2⟩; subst w3)
      | (go_at_call 9; (with_reducible refine (HNu.out _ HO2.out).mono ?_); rintro e w4 ⟨rfl, ho4⟩; have HO4 := Lib.hid (HO2.out.trans ho4 (fun _ h => h.elim)); clear ho4)
      | fail)
    go_ret
    exact ⟨rfl, HO4.out⟩
  by_cases hk_hihi : 200 < s0 ∧ 200 < s1
  · have j0 : (40 : Int) < s0 := by omega
    have j1 : ¬ s0 ≤ 200 := by omega
    have j2 : (40 : Int) < s1 := by omega
    have j3 : ¬ s1 ≤ 200 := by omega
    clear h2 h3 hk_hihi
    go_enter Tryd.func3, Tryd.ntmps3
    go_wp2_with (first
      | (go_at_call 6; (with_reducible refine (HA.out _).mono ?_); rintro e w1 ⟨rfl, ho1⟩; obtain ⟨c0, c1⟩ := HC.out w1 ho1.out; have HO1 := Lib.hid (HO.out.trans ho1.out (fun _ h => h.elim)); clear HA)
      | (go_at_call 7; (with_reducible refine (HN.out _ HO1.out).mono ?_); rintro e w2 ⟨rfl, ho2⟩; obtain ⟨c2, c3⟩ := HC.out w2 (ho1.out.trans ho2.out (fun _ h => h.elim)); have HO2 := Lib.hid (HO1.out.trans ho2.out (fun _ h => h.elim)); clear HO1)
      | (go_at_call 8; (with_reducible refine (HR.out _).mono ?_); rintro e w3 ⟨rfl, e2⟩; subst w3)
      | (go_at_call 9; (with_reducible refine (HNu.out _ HO2.out).mono ?_); rintro e w4 ⟨rfl, ho4⟩; have HO4 := Lib.hid (HO2.out.trans ho4 (fun _ h => h.elim)); clear ho4)
      | fail)
    go_ret
    exact ⟨rfl, HO4.out⟩
  omega
end Go.Proofs.YtgknhojjnnljkaaDoor
