/- Package clean: Deaf, Idle. -/
import Derived.Test.YtelmfncdamakfaaClean
namespace Go.Proofs.Ytelmfncdamakfaa
open Go Go.RowKit
set_option maxRecDepth 100000
set_option maxHeartbeats 4000000

theorem cdeaf_in {w : World} {p mo : Nat} {tp : TypeId} {pre post : List Value} {k : Cl} (h : ClAt w p mo tp pre k post) :
    Calls Try.prog 20 #[.pointer (some ⟨p, mo, none⟩)] w fun e w' => e = .returned (.bool k.deaf) ∧ w' = w := by
  have c0 := h.cDeaf
  clear h
  go_enter Try.func20, Try.ntmps20
  go_wp2
  go_ret
  exact ⟨rfl, rfl⟩
theorem cidle_in {w : World} {p mo : Nat} {tp : TypeId} {pre post : List Value} {k : Cl} (h : ClAt w p mo tp pre k post) :
    Calls Try.prog 19 #[.pointer (some ⟨p, mo, none⟩)] w fun e w' => e = .returned (.bool (decide (k.m.st = 0))) ∧ w' = w := by
  have HI := Lib.hid (idle_in (m := k.m) h)
  clear h
  go_enter Try.func19, Try.ntmps19
  go_wp2_with (go_at_call 29; refine HI.out.mono ?_; rintro e w' ⟨rfl, rfl⟩)
  go_ret
  exact ⟨rfl, rfl⟩
end Go.Proofs.Ytelmfncdamakfaa
