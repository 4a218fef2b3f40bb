
/- Package naws: the body of a size. -/
import Derived.Test.YtlmkpembccehkaaGreatDoorJRefuse
namespace Go.Proofs.YtlmkpembccehkaaGreatDoor
open Go Go.RowKit
set_option maxRecDepth 100000
set_option maxHeartbeats 4000000

theorem nbody_ok (w : World) (c r : Int) (hc : fitsN c = true) (hr : fitsN r = true) :
    Calls Tryz.prog 20 #[szVal c r] w fun e w' => ∃ N, e = .returned (.tuple #[.slice (some ⟨N, 0, none⟩) 4 4, .nilIface]) ∧ Hid (Src w' (some ⟨N, 0, none⟩) 4 (bodyOf c r)) ∧ Hid (Only (fun _ => False) w w') := by
  have HR := Lib.hid (fun W => nright_any W c r)
  rw [hc, hr] at HR
  have HB := Lib.hid (bodyOf_cells hc hr)
  have HHc : Hid (∀ W, _) := Lib.hid (fun W => high_any W c hc)
  have HHr : Hid (∀ W, _) := Lib.hid (fun W => high_any W r hr)
  have HLc : Hid (∀ W, _) := Lib.hid (fun W => low_any W c hc)
  have HLr : Hid (∀ W, _) := Lib.hid (fun W => low_any W r hr)
  clear hc hr
  unfold szVal at *
  go_enter Tryz.func20, Tryz.ntmps20
  go_wp2_with (go_at_call 40; refine (HR.out _).mono ?_; rintro e w1 ⟨rfl, ho1⟩; have HO1 := Lib.hid ho1; clear ho1)
  have HBk : Hid (Blk w1 w.heap.size 23 [.int .i64 c, .int .i64 r]) := (Blk.new w 23 [.int .i64 c, .int .i64 r]).only HO1.out (fun h => h)
  generalize w.heap.size = N at *
  go_region_held3 (fun W => W.cell? ⟨N, 0, none⟩ = some (.int .i64 c) ∧ W.cell? ⟨N, 1, none⟩ = some (.int .i64 r))
    (first | exact ⟨HBk.out.cell 0, HBk.out.cell 1⟩ | exact ⟨(HBk.out.alloc _).cell 0, (HBk.out.alloc _).cell 1⟩)
    (first
      | (go_at_call 41; (with_reducible refine (HHc.out _).mono ?_); rintro e w' ⟨rfl, e2⟩; subst w')
      | (go_at_call 41; (with_reducible refine (HHr.out _).mono ?_); rintro e w' ⟨rfl, e2⟩; subst w')
      | (go_at_call 42; (with_reducible refine (HLc.out _).mono ?_); rintro e w' ⟨rfl, e2⟩; subst w')
      | (go_at_call 42; (with_reducible refine (HLr.out _).mono ?_); rintro e w' ⟨rfl, e2⟩; subst w'))
  go_wp2
  go_ret2
  exact ⟨_, rfl, src_new w1 (bodyOf c r) _ 5 _ 4 (by rw [HB.out]) rfl, ((((Only.refl _ w).alloc _).trans HO1.out (fun _ h => h.elim)).alloc _).drew⟩

end Go.Proofs.YtlmkpembccehkaaGreatDoor
