/- Package naws: one contract for each of its calls on sizes. -/
import Derived.Test.YtmoajpjhekkdfaaDoorNaws
import Derived.Test.YtmoajpjhekkdfaaDoorErrSel
namespace Go.Proofs.YtmoajpjhekkdfaaDoor
open Go Go.RowKit
set_option maxRecDepth 100000
set_option maxHeartbeats 4000000

theorem b8_of {z : Int} (h0 : 0 ≤ z) (h1 : z ≤ 255) : ((UInt8.ofNat z.toNat).toNat : Int) = z := by
  rw [UInt8.toNat_ofNat']
  omega
/-- A size's bytes. -/
def bodyOf (c r : Int) : List UInt8 := [UInt8.ofNat (c / 256).toNat, UInt8.ofNat (c % 256).toNat, UInt8.ofNat (r / 256).toNat, UInt8.ofNat (r % 256).toNat]
theorem bodyOf_cells {c r : Int} (hc : fitsN c = true) (hr : fitsN r = true) : (bodyOf c r).map B8 = [.int .u8 (c / 256), .int .u8 (c % 256), .int .u8 (r / 256), .int .u8 (r % 256)] := by
  rw [fitsN_iff] at hc hr
  simp only [bodyOf, List.map_cons, List.map_nil, B8]
  rw [b8_of (by omega) (by omega), b8_of (by omega) (by omega), b8_of (by omega) (by omega), b8_of (by omega) (by omega)]

theorem right_any (w : World) (c r : Int) : Calls Tryd.prog 12 #[szVal c r] w fun e w' => e = .returned (.bool (fitsN c && fitsN r)) ∧ Only (fun _ => False) w w' := by
  unfold szVal
  have F := fun W n => fits_any W n
  have Fc := fun W => fits_any W c
  have Fr := fun W => fits_any W r
  generalize fitsN c = p at Fc ⊢
  generalize fitsN r = q at Fr ⊢
  clear F
  cases p
  all_goals
    go_enter Tryd.func12, Tryd.ntmps12
    go_wp2_with (first
      | (go_at_call 19; refine (Fc _).mono ?_; rintro e w' ⟨rfl, e2⟩; subst w')
      | (go_at_call 19; refine (Fr _).mono ?_; rintro e w' ⟨rfl, e2⟩; subst w'))
    go_ret
    exact ⟨rfl, (Only.refl _ _).alloc _⟩

theorem body_bad {w : World} {es : List Addr} (hes : ErrsOf w [0, 2, 3] es) (c r : Int) (h : (fitsN c && fitsN r) = false) :
    Calls Tryd.prog 6 #[szVal c r] w fun e w' => ∃ a, es[0]? = some a ∧ e = .returned (.tuple #[.slice none 0 0, errV a]) ∧ Only (fun _ => False) w w' := by
  obtain ⟨a, ha, hc⟩ := hes.get 0 0 (by decide) rfl
  unfold errV at hc
  have R := fun W => right_any W c r
  rw [h] at R
  have HO : Hid (∀ W, Only (fun _ => False) w W → W.cell? ⟨0, 0, none⟩ = some (.iface 64 (.pointer (some a)))) := fun W ho => ho.cellv hc (fun h => h)
  have HR := Lib.hid R
  have HA := Lib.hid ha
  clear hc R h hes ha
  unfold szVal at *
  go_enter Tryd.func6, Tryd.ntmps6
  go_wp2_with (go_at_call 12; refine (HR.out _).mono ?_; rintro e w1 ⟨rfl, ho1⟩; have hc1 := HO.out w1 (((Only.refl _ w).alloc _).trans ho1 (fun _ h => h.elim)))
  go_quiet (fail)
  go_wp2
  go_ret2
  exact ⟨a, HA.out, rfl, (((Only.refl _ w).alloc _).trans ho1 (fun _ h => h.elim)).drewN _⟩

theorem size_sz : (Tryd.prog.info? 23).map (·.size) = some 2 := by kernel_rfl
theorem sz_one (c r : Int) : ∀ v ∈ [Value.int .i64 c, .int .i64 r], v.oneCell' = true := by
  intro v hv
  simp only [List.mem_cons, List.not_mem_nil, or_false] at hv
  rcases hv with rfl | rfl <;> rfl

/-- Too short, or too long. -/
theorem parse_short {w : World} {es : List Addr} (hes : ErrsOf w [0, 2, 3] es) (A : Option Addr) (n c : Nat) (h : n < 4) :
    Calls Tryd.prog 8 #[.slice A n c] w fun e w' => ∃ a, es[2]? = some a ∧ e = .returned (.tuple #[szVal 0 0, errV a]) ∧ Only (fun _ => False) w w' := by
  obtain ⟨a, ha, hc⟩ := hes.get 2 1 (by decide) rfl
  unfold errV at hc
  have HA := Lib.hid ha
  have hd : decide ((n : Int) < 4) = true := by simp; omega
  have hlt := World.block_lt_of_cell? w _ hc
  have hB := Lib.hid (Blk.new w 23 [.int .i64 0, .int .i64 0])
  have hcc : (w.alloc (.cells [Value.int .i64 0, .int .i64 0].toArray 23)).cell? ⟨1, 0, none⟩ = some (.iface 64 (.pointer (some a))) := ((Only.refl (fun _ => False) w).alloc _).cellv hc (fun h => h)
  have HC := Lib.hid hcc
  have HL : Hid (1 ≠ w.heap.size) := Nat.ne_of_lt hlt
  clear ha hc hes h hcc hlt
  unfold szVal
  go_enter Tryd.func8, Tryd.ntmps8
  go_wp2_with fail
  refine wp_refuse 23 27 _ 1 2 8 9 w.heap.size _ [.int .i64 0, .int .i64 0] (by kernel_rfl) rfl rfl rfl rfl rfl rfl rfl rfl rfl rfl (by kernel_rfl) (by kernel_rfl) (by kernel_rfl) (by kernel_rfl) (by kernel_rfl) (by kernel_rfl) (by kernel_rfl) (by kernel_rfl) (by kernel_rfl) size_sz (sz_one 0 0) load_err rfl HC.out rfl rfl rfl hB.out rfl HL.out ?_
  intro W' hW hO
  go_wp2
  refine ret_cell2 rfl w.heap.size rfl _ [.int .i64 0, .int .i64 0] _ hW.out Tryd.underlying23 rfl size_sz rfl ?_
  exact ⟨a, HA.out, rfl, ((Only.refl _ w).alloc _).trans hO.out (fun i hi => .inr (by omega))⟩
theorem parse_long {w : World} {es : List Addr} (hes : ErrsOf w [0, 2, 3] es) (A : Option Addr) (n c : Nat) (h : 4 < n) :
    Calls Tryd.prog 8 #[.slice A n c] w fun e w' => ∃ a, es[3]? = some a ∧ e = .returned (.tuple #[szVal 0 0, errV a]) ∧ Only (fun _ => False) w w' := by
  obtain ⟨a, ha, hc⟩ := hes.get 3 2 (by decide) rfl
  unfold errV at hc
  have HA := Lib.hid ha
  have hd : decide ((n : Int) < 4) = false := by simp; omega
  have hd2 : decide ((4 : Int) < (n : Int)) = true := by simp; omega
  have hlt := World.block_lt_of_cell? w _ hc
  have hB := Lib.hid (Blk.new w 23 [.int .i64 0, .int .i64 0])
  have hcc : (w.alloc (.cells [Value.int .i64 0, .int .i64 0].toArray 23)).cell? ⟨2, 0, none⟩ = some (.iface 64 (.pointer (some a))) := ((Only.refl (fun _ => False) w).alloc _).cellv hc (fun h => h)
  have HC := Lib.hid hcc
  have HL : Hid (2 ≠ w.heap.size) := Nat.ne_of_lt hlt
  clear ha hc hes h hcc hlt
  unfold szVal
  go_enter Tryd.func8, Tryd.ntmps8
  go_wp2_with fail
  refine wp_refuse 23 27 _ 2 2 14 15 w.heap.size _ [.int .i64 0, .int .i64 0] (by kernel_rfl) rfl rfl rfl rfl rfl rfl rfl rfl rfl rfl (by kernel_rfl) (by kernel_rfl) (by kernel_rfl) (by kernel_rfl) (by kernel_rfl) (by kernel_rfl) (by kernel_rfl) (by kernel_rfl) (by kernel_rfl) size_sz (sz_one 0 0) load_err rfl HC.out rfl rfl rfl hB.out rfl HL.out ?_
  intro W' hW hO
  go_wp2
  refine ret_cell2 rfl w.heap.size rfl _ [.int .i64 0, .int .i64 0] _ hW.out Tryd.underlying23 rfl size_sz rfl ?_
  exact ⟨a, HA.out, rfl, ((Only.refl _ w).alloc _).trans hO.out (fun i hi => .inr (by omega))⟩
end Go.Proofs.YtmoajpjhekkdfaaDoor
