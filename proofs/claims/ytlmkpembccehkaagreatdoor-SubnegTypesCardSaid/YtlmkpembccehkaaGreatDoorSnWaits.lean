/- Within a block: a side's Waits (from place 18 on). -/
import Derived.Test.YtlmkpembccehkaaGreatDoorScAll
import Derived.Test.YtlmkpembccehkaaGreatDoorSnIn
namespace Go.Proofs.YtlmkpembccehkaaGreatDoor
open Go Go.RowKit
set_option maxRecDepth 100000
set_option maxHeartbeats 4000000

theorem idx_char (W : World) {cs : List Value} {S : Sd} (h : ScC cs S) {i : Nat} (hi : i < 18) : (Instr.index 78 (.agg cs.toArray) (.int .i64 (i : Int))).run Tryz.prog W = .ok (.agg (S i).cs.toArray) W := by
  have hu := Tryz.underlying78
  have hs : ∀ W, (sizeOf 77).run Tryz.prog W = .ok 5 W := fun W => by kernel_rfl
  have hg : ∀ W, (isAgg 77).run Tryz.prog W = .ok true W := fun W => by kernel_rfl
  have hi2 : (i : Int) < 18 := by omega
  have he : List.take 5 (List.drop (i * 5) cs) = (S i).cs := by
    apply List.ext_getElem?
    intro j
    by_cases hj : j < 5
    · have hv : (S i).cs[j]? = some ((S i).cs[j]'hj) := List.getElem?_eq_getElem _
      rw [hv, ← h.at_ i j _ hi hv, List.getElem?_take, if_pos hj, List.getElem?_drop]
    · rw [List.getElem?_take, if_neg hj, List.getElem?_eq_none (by simp; omega)]
  simp [Instr.index, run_underlying hu, asIntOf, go_sem, part, hs, hg]
  rw [if_pos hi, he]
theorem size_arr : (Tryz.prog.info? 78).map (·.size) = some 90 := by kernel_rfl

theorem siWaits_any {W : World} {p : Nat} {t : TypeId} {pre post cs : List Value} {S : Sd} (hB : InB W p t pre post 18 cs) (hC : ScC cs S) : Calls Tryz.prog 33 #[.pointer (some ⟨p, 18, none⟩)] W fun e w' => e = .returned (.int .i64 (waitsS S : Int)) ∧ Only (fun _ => False) W w' := by
  have HB := Lib.hid hB
  have HC := Lib.hid hC
  have hsz : (Tryz.prog.info? 78).map (·.size) = some cs.length := by rw [hC.len]; exact size_arr
  have hix : ∀ W i, i < 18 → _ := fun W i (hi : i < 18) => idx_char W hC hi
  have HX := Lib.hid hix
  have HSz := Lib.hid hsz
  clear hB hC hix hsz
  go_enter Tryz.func33, Tryz.ntmps33
  go_wp2_with (first
    | ((with_reducible show wpList _ _ _ (⟨some 9, _, _, _, _, _⟩ :: _) _ _); refine wpList_load_mid rfl 78 _ rfl p 18 rfl cs _ HB.out.range Tryz.underlying78 rfl HSz.out ?_)
    | fail)
  go_loopw [3, 10] (fun n i w => ∃ k : Nat, k ≤ 18 ∧ n = .int .i64 (waitsTo S k : Int) ∧ i = .int .i64 (k : Int) ∧ Hid (Only (fun _ => False) W w)) (fun _ i _ => 18 - (intOf i).toNat)
  case atStart => exact ⟨0, Nat.zero_le _, rfl, rfl, Only.refl _ _⟩
  case round =>
    obtain ⟨k, hk, rfl, rfl, hrel⟩ := hrel
    by_cases hlt : k < 18
    · have hlt2 : (k : Int) < 18 := by omega
      have hx := fun W => HX.out W k hlt
      obtain ⟨b, hb⟩ : ∃ b, b = (S k).waits := ⟨_, rfl⟩
      obtain ⟨v0, v1, v2, v3, hv⟩ : ∃ v0 v1 v2 v3 : Int, (S k).cs = [.int .i64 v0, .int .i64 v1, .int .i64 v2, .int .i64 v3, .bool b] := ⟨_, _, _, _, by rw [hb]⟩
      have hn := waitsTo_le S k
      have hs : waitsTo S (k + 1) = waitsTo S k + if b then 1 else 0 := by rw [hb]; rfl
      obtain ⟨n, hnn⟩ : ∃ n, n = waitsTo S k := ⟨_, rfl⟩
      rw [← hnn] at hn hs ⊢
      rw [hv] at hx
      have HS := Lib.hid hs
      clear hb hv hs hnn
      cases b
      all_goals
        go_wp2
        go_roundw
        case rel => exact ⟨k + 1, by omega, by rw [HS.out]; go_num, by go_num, hrel.out.alloc _⟩
        case measure => simp [intOf]; omega
    · obtain rfl : k = 18 := by omega
      go_wp2
      go_ret
      exact ⟨rfl, hrel.out⟩
end Go.Proofs.YtlmkpembccehkaaGreatDoor
