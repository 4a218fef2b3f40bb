/- CellsParts: what is written in parts stands as what is written at once; the cursor stands within the screen. -/
import Derived.Test.YtgknhojjnnljkaaDoorCeAlive
import Derived.Test.YtgknhojjnnljkaaDoorTextsTwo
import Derived.Test.YtgknhojjnnljkaaDoorInts
namespace Go.Proofs.YtgknhojjnnljkaaDoor
open Go Go.ChangeShapes Go.WideShapes Go.ChangeAt Go.RowKit
set_option maxRecDepth 100000
set_option maxHeartbeats 4000000

@[reducible] def pairV (a b : Int) : Value := .agg #[.int .i64 a, .int .i64 b]
theorem open_pair {H : Type} {enc : TypeId × Value → H} {W : World} {r : Reach} {b0 : Nat} {v : Value} {d : DataW H} {p : List MemPlace}
    (hv : Value.okWide Tryd.prog W r b0 22 v) (h : DataW.Trod enc Tryd.prog W 0 (fun _ => true) true 22 v d p) :
    ∃ (a b : Int), v = pairV a b ∧ -9223372036854775808 ≤ a ∧ a ≤ 9223372036854775807 ∧ -9223372036854775808 ≤ b ∧ b ≤ 9223372036854775807 := by
  unfold Value.okWide at hv
  rw [Tryd.underlying22] at hv
  obtain ⟨cs, rfl, hsz, _⟩ := hv
  obtain ⟨fuel, hf⟩ := h
  obtain ⟨ys, k, _, _, _, hyl, hel⟩ := DataW.trod_array Tryd.underlying22 hf
  obtain ⟨l⟩ := cs
  have hl2 : l.length = 2 := by
    have : Tryd.prog.cellsOf 22 = 2 := by kernel_rfl
    rw [this] at hsz
    simpa using hsz
  match l, hl2, hel with
  | [v0, v1], _, hel =>
    have hc : Tryd.prog.cellsOf 3 = 1 := by kernel_rfl
    have hy : ∀ i, i < 2 → ∃ y, ys[i]? = some y := fun i hi => ⟨_, List.getElem?_eq_getElem (by rw [hyl]; exact hi)⟩
    obtain ⟨y0, e0⟩ := hy 0 (by omega)
    obtain ⟨y1, e1⟩ := hy 1 (by omega)
    have h0 := hel 0 (by omega)
    have h1 := hel 1 (by omega)
    rw [hc, e0] at h0
    rw [hc, e1] at h1
    replace h0 : DataW.trod enc Tryd.prog W 0 (fun _ => true) true k 3 [v0] = some y0 := h0
    replace h1 : DataW.trod enc Tryd.prog W 0 (fun _ => true) true k 3 [v1] = some y1 := h1
    obtain ⟨z0, q0, _, g0⟩ := DataW.trod_int Tryd.underlying3 h0
    obtain ⟨z1, q1, _, g1⟩ := DataW.trod_int Tryd.underlying3 h1
    obtain rfl : v0 = .int .i64 z0 := by simpa using q0
    obtain rfl : v1 = .int .i64 z1 := by simpa using q1
    have b0 := bounds_i64 g0
    have b1 := bounds_i64 g1
    exact ⟨z0, z1, rfl, b0.1, b0.2, b1.1, b1.2⟩

/-- The pair of sizes, put into a variable of the call's own. -/
theorem pair_cells (w : World) (a b : Int) : Hid (∀ w1, Only (fun _ => False) (w.alloc (.cells #[.int .i64 a, .int .i64 b] 22)) w1 → w1.cell? ⟨w.heap.size, 0, none⟩ = some (.int .i64 a) ∧ w1.cell? ⟨w.heap.size, 1, none⟩ = some (.int .i64 b)) := fun w1 ho => by
  have h := (Blk.new w 22 [.int .i64 a, .int .i64 b]).only ho (fun h => h)
  exact ⟨h.cell 0, h.cell 1⟩

theorem parts_long (w : World) (s0 s1 : Int) (A : Option Addr) (n c : Nat) (B : Option Addr) (m d : Nat) (h : 300 < n ∨ 30 < m ∨ 60 < s0 ∨ 60 < s1) :
    Calls Tryd.prog 4 #[pairV s0 s1, .slice A n c, .slice B m d] w (Fine w) := by
  have HC := pair_cells w s0 s1
  have HO := Lib.hid ((Only.refl (fun _ => False) w).alloc (.cells #[.int .i64 s0, .int .i64 s1] 22))
  have HA := Lib.hid (fun W => ce_alive W)
  by_cases h1 : 300 < n
  · have i1 : (300 : Int) < (n : Int) := by omega
    clear h
    go_enter Tryd.func4, Tryd.ntmps4
    go_wp2_with (go_at_call 6; (with_reducible refine (HA.out _).mono ?_); rintro e w1 ⟨rfl, ho1⟩; obtain ⟨c0, c1⟩ := HC.out w1 ho1.out)
    go_ret
    exact ⟨rfl, HO.out.trans ho1.out (fun _ h => h.elim)⟩
  have i1 : ¬ (300 : Int) < (n : Int) := by omega
  by_cases h2 : 30 < m
  · have i2 : (30 : Int) < (m : Int) := by omega
    clear h
    go_enter Tryd.func4, Tryd.ntmps4
    go_wp2_with (go_at_call 6; (with_reducible refine (HA.out _).mono ?_); rintro e w1 ⟨rfl, ho1⟩; obtain ⟨c0, c1⟩ := HC.out w1 ho1.out)
    go_ret
    exact ⟨rfl, HO.out.trans ho1.out (fun _ h => h.elim)⟩
  have i2 : ¬ (30 : Int) < (m : Int) := by omega
  by_cases h3 : 60 < s0
  · clear h
    go_enter Tryd.func4, Tryd.ntmps4
    go_wp2_with (go_at_call 6; (with_reducible refine (HA.out _).mono ?_); rintro e w1 ⟨rfl, ho1⟩; obtain ⟨c0, c1⟩ := HC.out w1 ho1.out)
    go_ret
    exact ⟨rfl, HO.out.trans ho1.out (fun _ h => h.elim)⟩
  have h4 : 60 < s1 := by omega
  clear h
  go_enter Tryd.func4, Tryd.ntmps4
  go_wp2_with (go_at_call 6; (with_reducible refine (HA.out _).mono ?_); rintro e w1 ⟨rfl, ho1⟩; obtain ⟨c0, c1⟩ := HC.out w1 ho1.out)
  go_ret
  exact ⟨rfl, HO.out.trans ho1.out (fun _ h => h.elim)⟩

theorem parts_bad {w : World} {a : Addr} (he : w.cell? ⟨0, 0, none⟩ = some (errV a)) (s0 s1 : Int) (A : Option Addr) (n c : Nat) (B : Option Addr) (m d : Nat) (h1 : n ≤ 300) (h2 : m ≤ 30) (h3 : s0 ≤ 60) (h4 : s1 ≤ 60) (hf : fitsS s0 s1 = false) :
    Calls Tryd.prog 4 #[pairV s0 s1, .slice A n c, .slice B m d] w (Fine w) := by
  have HC := pair_cells w s0 s1
  have HO := Lib.hid ((Only.refl (fun _ => False) w).alloc (.cells #[.int .i64 s0, .int .i64 s1] 22))
  have HA := Lib.hid (fun W => ce_alive W)
  have HN : Hid (∀ W, Only (fun _ => False) w W → Calls Tryd.prog 7 #[.int .i64 s0, .int .i64 s1] W fun e w' => e = .returned (.tuple #[.pointer none, errV a]) ∧ Hid (Only (fun _ => False) W w')) := fun W ho => new_bad (ho.cellv he (fun h => h)) s0 s1 hf
  have i1 : ¬ (300 : Int) < (n : Int) := by omega
  have i2 : ¬ (30 : Int) < (m : Int) := by omega
  have i3 : ¬ 60 < s0 := by omega
  have i4 : ¬ 60 < s1 := by omega
  clear he hf h1 h2 h3 h4
  unfold errV at HN
  go_enter Tryd.func4, Tryd.ntmps4
  go_wp2_with (first
    | (go_at_call 6; (with_reducible refine (HA.out _).mono ?_); rintro e w1 ⟨rfl, ho1⟩; obtain ⟨c0, c1⟩ := HC.out w1 ho1.out; have HO1 := Lib.hid (HO.out.trans ho1.out (fun _ h => h.elim)); clear HA)
    | (go_at_call 7; (with_reducible refine (HN.out _ HO1.out).mono ?_); rintro e w2 ⟨rfl, ho2⟩; obtain ⟨c2, c3⟩ := HC.out w2 (ho1.out.trans ho2.out (fun _ h => h.elim)); have HO2 := Lib.hid (HO1.out.trans ho2.out (fun _ h => h.elim)); clear HO1)
    | (go_at_call 7; (with_reducible refine (HN.out _ HO2.out).mono ?_); rintro e w3 ⟨rfl, ho3⟩))
  go_ret
  exact ⟨rfl, HO2.out.trans ho3.out (fun _ h => h.elim)⟩
end Go.Proofs.YtgknhojjnnljkaaDoor
