/- The document's Gone and Flags of layer 8. -/
import Derived.Test.YtelmfncdamakfaaText
import Derived.Test.YtelmfncdamakfaaBools
import Derived.BigQuiet
namespace Go.Proofs.Ytelmfncdamakfaa
open Go Go.RowKit
set_option maxRecDepth 100000
set_option maxHeartbeats 4000000

theorem gone_any {w : World} {s : List UInt8} {rs : List Bool} {A : Option Addr} {n c : Nat} (hr : Flg w A n rs) {k : Nat} {x : UInt8} {r b : Bool} (hx : s[k]? = some x) (hrk : rs[k]? = some r) (hb : Bh s rs k b) (hn : n ≤ 9223372036854775807) :
    Calls Try.prog 23 #[.string ⟨s.toArray⟩, .slice A n c, .int .i64 (k : Int)] w fun e w' => e = .returned (.bool (b && decide (x.toNat = 0) && !r)) ∧ w = w' := by
  have hkn : k < n := by rw [← hr.1]; exact (List.getElem?_eq_some_iff.1 hrk).1
  have hks : k < s.length := (List.getElem?_eq_some_iff.1 hx).1
  have hix := str_get hx hks
  obtain ⟨ad, rfl, hc⟩ := hr.2 (by omega)
  have c0 := hc k r hrk
  obtain ⟨p0, h0⟩ : ∃ p, p = decide (x.toNat = 0) := ⟨_, rfl⟩
  have e0 : (((x.toNat : Nat) : Int) == 0) = p0 := by rw [h0, Bool.eq_iff_iff]; simp
  have e0' : decide (((x.toNat : Nat) : Int) = 0) = p0 := by rw [h0, Bool.eq_iff_iff]; simp
  rw [← h0]
  rcases hb with ⟨rfl, rfl⟩ | ⟨j, y, q, rfl, hy, hq, rfl⟩
  · clear hr hx hrk hc h0
    go_enter Try.func23, Try.ntmps23
    go_wp2
    go_ret
    exact ⟨rfl, rfl⟩
  · have hjs : j < s.length := (List.getElem?_eq_some_iff.1 hy).1
    have hiy := str_get hy hjs
    have c1 := hc j q hq
    have c2 : w.cell? ⟨ad.block, ad.off + (j + 1), none⟩ = some (.bool r) := by simpa [Addr.add] using c0
    obtain ⟨p1, h1⟩ : ∃ p, p = decide (y.toNat = 13) := ⟨_, rfl⟩
    have e1 : (((y.toNat : Nat) : Int) == 13) = p1 := by rw [h1, Bool.eq_iff_iff]; simp; omega
    have e1' : decide (((y.toNat : Nat) : Int) = 13) = p1 := by rw [h1, Bool.eq_iff_iff]; simp; omega
    rw [← h1]
    clear hr hx hrk hc h0 hy hq h1
    cases p0 <;> cases r <;> cases p1 <;> cases q
    all_goals
      go_enter Try.func23, Try.ntmps23
      go_wp2
      go_ret
      exact ⟨rfl, rfl⟩

/-- Where Flags stands. -/
structure FlagAt (w : World) (raw : Bool) (n : Nat) (g : Nat) (W : World) (k : Nat) : Prop where
  blk : Blk W g 4 (List.replicate k (.bool raw) ++ List.replicate (n - k) (.bool false))
  only : Only (fun _ => False) w W

theorem flags_any {w : World} (n : Nat) (raw : Bool) (hn : n ≤ 100000) :
    Calls Try.prog 10 #[.int .i64 (n : Int), .bool raw] w fun e w' => e = .returned (.slice (some ⟨w.heap.size, 0, none⟩) n n) ∧ Flg w' (some ⟨w.heap.size, 0, none⟩) n (List.replicate n raw) ∧ Only (fun _ => False) w w' := by
  have hmk := make_bools n (by omega)
  have H0 : Hid (FlagAt w raw n w.heap.size (w.alloc (.cells (List.replicate n (.bool false)).toArray 4)) 0) := ⟨by simpa using Blk.new w 4 (List.replicate n (.bool false)), (Only.refl _ w).alloc _⟩
  go_enter Try.func10, Try.ntmps10
  go_wp2
  clear hmk
  obtain ⟨g, hg⟩ : ∃ g, g = w.heap.size := ⟨_, rfl⟩
  rw [← hg] at H0 ⊢
  have HGe := Lib.hid hg
  clear hg
  go_loopw [11] (fun i W => ∃ (k : Nat), k ≤ n ∧ i = .int .i64 (k : Int) ∧ Hid (FlagAt w raw n g W k)) (fun i _ => n - (intOf i).toNat)
  case atStart => exact ⟨0, Nat.zero_le _, rfl, H0.out⟩
  case round =>
    clear H0
    obtain ⟨k, hk, rfl, HF⟩ := hrel
    by_cases hlt : k < n
    · have hc0 : wr.cell? ⟨g, k, none⟩ = some (.bool false) := by
        rw [HF.out.blk.cell, List.getElem?_append_right (by simp), List.length_replicate, Nat.sub_self, List.getElem?_replicate, if_pos (by omega)]
      have hfz := HF.out.blk.frozen k
      go_wp2
      go_roundw
      case rel =>
        refine ⟨k + 1, by omega, by go_num, ?_, HF.out.only.setCell (p := ⟨g, k, none⟩) (.inr (Nat.le_of_eq HGe.out.symm)) _⟩
        have := HF.out.blk.setCell k (.bool raw)
        rw [List.set_append_right _ _ (by simp), List.length_replicate, Nat.sub_self, show n - k = (n - (k + 1)) + 1 from by omega, List.replicate_succ, List.set_cons_zero, ← List.singleton_append, ← List.append_assoc, ← List.replicate_succ'] at this
        exact this
      case measure => simp [intOf]; omega
    · obtain rfl : k = n := by omega
      go_wp2
      go_ret
      obtain rfl := HGe.out
      refine ⟨rfl, ⟨by simp, fun _ => ⟨_, rfl, fun j r hj => ?_⟩⟩, HF.out.only⟩
      rw [at_add, HF.out.blk.cell]
      rw [List.getElem?_replicate] at hj
      split at hj
      · rename_i h1
        injection hj with hj
        subst hj
        rw [List.getElem?_append_left (by simpa using h1), List.getElem?_replicate, if_pos h1]
      · cases hj
end Go.Proofs.Ytelmfncdamakfaa
