/- Package slc: Waits. -/
import Derived.Test.YtojnhheeholaeaaDoorScSide
namespace Go.Proofs.YtojnhheeholaeaaDoor
open Go Go.RowKit
set_option maxRecDepth 100000
set_option maxHeartbeats 4000000

theorem idx_char (W : World) {cs : List Value} {S : Sd} (h : ScC cs S) {i : Nat} (hi : i < 18) : (Instr.index 78 (.agg cs.toArray) (.int .i64 (i : Int))).run Tryd.prog W = .ok (.agg (S i).cs.toArray) W := by
  have hu := Tryd.underlying78
  have hs : ∀ W, (sizeOf 77).run Tryd.prog W = .ok 5 W := fun W => by kernel_rfl
  have hg : ∀ W, (isAgg 77).run Tryd.prog W = .ok true W := fun W => by kernel_rfl
  have hi2 : (i : Int) < 18 := by omega
  have he : List.take 5 (List.drop (i * 5) cs) = (S i).cs := by
    apply List.ext_getElem?
    intro j
    by_cases hj : j < 5
    · have hv : (S i).cs[j]? = some ((S i).cs[j]'hj) := List.getElem?_eq_getElem _
      rw [hv, ← h.at_ i j _ hi hv, List.getElem?_take, if_pos hj, List.getElem?_drop]
    · rw [List.getElem?_take, if_neg hj, List.getElem?_eq_none (by simp; omega)]
  simp [Instr.index, run_underlying hu, asIntOf, go_sem, part, hs, hg]
  rw [if_pos hi, he]
theorem all_range {w : World} {p : Nat} {t : TypeId} {cs : List Value} (h : Blk w p t cs) : w.rangeAt p 0 cs := fun j v hj => by
  rw [Nat.zero_add, h.cell]
  exact hj
theorem size_arr : (Tryd.prog.info? 78).map (·.size) = some 90 := by kernel_rfl

theorem waits_any {W : World} {p : Nat} {S : Sd} (h : SdAt W p S) : Calls Tryd.prog 17 #[.pointer (some ⟨p, 0, none⟩)] W fun e w' => e = .returned (.int .i64 (waitsS S : Int)) ∧ Only (fun _ => False) W w' := by
  obtain ⟨cs, hB, hC⟩ := h
  have HB := Lib.hid hB
  have HC := Lib.hid hC
  have hsz : (Tryd.prog.info? 78).map (·.size) = some cs.length := by rw [hC.len]; exact size_arr
  have hix : ∀ W i, i < 18 → _ := fun W i (hi : i < 18) => idx_char W hC hi
  have HX := Lib.hid hix
  have HSz := Lib.hid hsz
  clear hB hC hix hsz
  go_enter Tryd.func17, Tryd.ntmps17
  go_wp2_with (first
    | ((with_reducible show wpList _ _ _ (⟨some 9, _, _, _, _, _⟩ :: _) _ _); refine wpList_load_mid rfl 78 _ rfl p 0 rfl cs _ (all_range HB.out) Tryd.underlying78 rfl HSz.out ?_)
    | fail)
  go_loopw [3, 10] (fun n i w => ∃ k : Nat, k ≤ 18 ∧ n = .int .i64 (waitsTo S k : Int) ∧ i = .int .i64 (k : Int) ∧ Hid (Only (fun _ => False) W w)) (fun _ i _ => 18 - (intOf i).toNat)
  case atStart => exact ⟨0, Nat.zero_le _, rfl, rfl, Only.refl _ _⟩
  case round =>
    obtain ⟨k, hk, rfl, rfl, hrel⟩ := hrel
    by_cases hlt : k < 18
    · have hlt2 : (k : Int) < 18 := by omega
      have hx := fun W => HX.out W k hlt
      obtain ⟨b, hb⟩ : ∃ b, b = (S k).waits := ⟨_, rfl⟩
      obtain ⟨v0, v1, v2, v3, hv⟩ : ∃ v0 v1 v2 v3 : Int, (S k).cs = [.int .i64 v0, .int .i64 v1, .int .i64 v2, .int .i64 v3, .bool b] := ⟨_, _, _, _, by rw [hb]⟩
      have hn := waitsTo_le S k
      have hs : waitsTo S (k + 1) = waitsTo S k + if b then 1 else 0 := by rw [hb]; rfl
      obtain ⟨n, hnn⟩ : ∃ n, n = waitsTo S k := ⟨_, rfl⟩
      rw [← hnn] at hn hs ⊢
      rw [hv] at hx
      have HS := Lib.hid hs
      clear hb hv hs hnn
      cases b
      all_goals
        go_wp2
        go_roundw
        case rel => exact ⟨k + 1, by omega, by rw [HS.out]; go_num, by go_num, hrel.out.alloc _⟩
        case measure => simp [intOf]; omega
    · obtain rfl : k = 18 := by omega
      go_wp2
      go_ret
      exact ⟨rfl, hrel.out⟩
end Go.Proofs.YtojnhheeholaeaaDoor
