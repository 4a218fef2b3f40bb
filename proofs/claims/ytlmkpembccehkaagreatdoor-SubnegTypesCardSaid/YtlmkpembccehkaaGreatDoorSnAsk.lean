/- A hub's calls that only ask: Peer, Head, Tail, Waits, Types. -/
import Derived.Test.YtlmkpembccehkaaGreatDoorSnHub
import Derived.Test.YtlmkpembccehkaaGreatDoorSnList
import Derived.Test.YtlmkpembccehkaaGreatDoorMdAll
import Derived.Test.YtlmkpembccehkaaGreatDoorSnWaits
import Derived.Test.YtlmkpembccehkaaGreatDoorNwAll
namespace Go.Proofs.YtlmkpembccehkaaGreatDoor
open Go Go.RowKit
set_option maxRecDepth 100000
set_option maxHeartbeats 4000000

/-- For how many answers it waits. -/
def Hb.waits (h : Hb) (S : Sd) : Nat := waitsS S + if h.hw then 1 else 0
section
variable {w : World} {p : Nat} {h : Hb} (k : HuAt w p h)
include k
theorem huPeer_any : Calls Tryz.prog 10 #[.pointer (some ⟨p, 0, none⟩)] w fun e w' => e = .returned (szVal h.pc h.pr) ∧ Only (fun _ => False) w w' := by
  have HR := Lib.hid (fun ob => (k.peer.alloc ob).range)
  have hp := k.lt
  obtain ⟨a, ha⟩ : ∃ a, a = h.pc := ⟨_, rfl⟩
  obtain ⟨b, hb⟩ : ∃ b, b = h.pr := ⟨_, rfl⟩
  rw [← ha, ← hb] at HR ⊢
  clear k ha hb
  unfold szVal
  go_enter Tryz.func10, Tryz.ntmps10
  go_wp2_with (first
    | ((with_reducible show wpList _ _ _ (⟨some 6, _, _, _, _, _⟩ :: _) _ _); refine wpList_load_mid rfl 23 _ rfl p 5 rfl [.int .i64 a, .int .i64 b] _ (HR.out _) Tryz.underlying23 rfl size_sz ?_)
    | fail)
  refine ret_cell1 rfl w.heap.size rfl 23 [.int .i64 a, .int .i64 b] _ (Blk.new' _ _ _ rfl) Tryz.underlying23 rfl size_sz rfl ?_
  exact ⟨rfl, (Only.refl _ _).alloc _⟩
theorem huHead_any : Calls Tryz.prog 11 #[.pointer (some ⟨p, 0, none⟩)] w fun e w' => e = .returned (.int .i64 h.hm) ∧ w' = w := by
  have H := Lib.hid (heMask_any k.head)
  clear k
  go_enter Tryz.func11, Tryz.ntmps11
  go_wp2_with (go_at_call 31; (with_reducible refine H.out.mono ?_); rintro e w1 ⟨rfl, e1⟩; subst w1)
  go_ret
  exact ⟨rfl, rfl⟩
theorem huTail_any : Calls Tryz.prog 12 #[.pointer (some ⟨p, 0, none⟩)] w fun e w' => e = .returned (.int .i64 h.tm) ∧ w' = w := by
  have H := Lib.hid (taMask_any k.tail)
  clear k
  go_enter Tryz.func12, Tryz.ntmps12
  go_wp2_with (go_at_call 32; (with_reducible refine H.out.mono ?_); rintro e w1 ⟨rfl, e1⟩; subst w1)
  go_ret
  exact ⟨rfl, rfl⟩
theorem huWaits_any {S : Sd} (hS : ScC h.sd S) : Calls Tryz.prog 13 #[.pointer (some ⟨p, 0, none⟩)] w fun e w' => e = .returned (.int .i64 (h.waits S : Int)) ∧ Only (fun _ => False) w w' := by
  have H1 := Lib.hid (siWaits_any k.in3 hS)
  have H2 := Lib.hid (fun W ho => heWaits_any (k.same (w' := W) ho).head)
  have hn := waitsTo_le S 18
  unfold Hb.waits waitsS
  unfold waitsS at H1
  generalize waitsTo S 18 = n at *
  generalize h.hw = b at *
  clear k hS
  cases b
  all_goals
    go_enter Tryz.func13, Tryz.ntmps13
    go_wp2_with (first
      | (go_at_call 33; (with_reducible refine H1.out.mono ?_); rintro e w1 ⟨rfl, ho1⟩; have HO1 := Lib.hid ho1; clear ho1)
      | (go_at_call 34; (with_reducible refine (H2.out _ HO1.out).mono ?_); rintro e w2 ⟨rfl, e2⟩; subst w2))
    go_ret
    exact ⟨by simp, HO1.out⟩
theorem huTypes_any : Calls Tryz.prog 14 #[.pointer (some ⟨p, 0, none⟩)] w fun e w' => ∃ A c, e = .returned (.slice A h.li.names.length c) ∧ Hid (TSrc w' A h.li.names.length h.li.names) ∧ Hid (Only (fun _ => False) w w') := by
  have H := Lib.hid (liNames_any ⟨k.ok.li, k.in1⟩)
  clear k
  go_enter Tryz.func14, Tryz.ntmps14
  go_wp2_with (go_at_call 35; (with_reducible refine H.out.mono ?_); rintro e w1 ⟨A, c, rfl, hs, ho⟩)
  go_ret
  exact ⟨A, c, rfl, hs, ho⟩
end
end Go.Proofs.YtlmkpembccehkaaGreatDoor
