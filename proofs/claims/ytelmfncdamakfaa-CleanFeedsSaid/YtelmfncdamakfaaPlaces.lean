/- Slices of ints that came in; of each place whether it is one of these: the program's places, the document's Marked. -/
import Derived.Test.YtelmfncdamakfaaBools
namespace Go.Proofs.Ytelmfncdamakfaa
open Go Go.RowKit
set_option maxRecDepth 100000
set_option maxHeartbeats 4000000

/-- A slice of ints. -/
def Ints (w : World) (A : Option Addr) (n : Nat) (zs : List Int) : Prop :=
  zs.length = n ∧ (0 < n → ∃ ad, A = some ad ∧ ∀ (j : Nat) (z : Int), zs[j]? = some z → w.cell? (ad.add j) = some (.int .i64 z))
theorem Ints.only {S : Nat → Prop} {w w' : World} {A : Option Addr} {n : Nat} {zs : List Int} (h : Ints w A n zs) (ho : Only S w w') (hS : 0 < n → ∀ ad, A = some ad → ¬ S ad.block) : Ints w' A n zs :=
  ⟨h.1, fun hn => by
    obtain ⟨ad, e, hc⟩ := h.2 hn
    exact ⟨ad, e, fun j x hx => ho.cellv (hc j x hx) (by rw [block_add]; exact hS hn ad e)⟩⟩
theorem Ints.same {w w' : World} {A : Option Addr} {n : Nat} {zs : List Int} (h : Ints w A n zs) (ho : Only (fun _ => False) w w') : Ints w' A n zs := h.only ho (fun _ _ _ h => h)
theorem Ints.nil (w : World) (A : Option Addr) : Ints w A 0 [] := ⟨rfl, fun h => absurd h (by omega)⟩

/-- Of each of n places whether it is one of these. -/
def mkd (n : Nat) (zs : List Int) : List Bool := (List.range n).map fun (i : Nat) => decide ((i : Int) ∈ zs)
theorem mkd_length (n : Nat) (zs : List Int) : (mkd n zs).length = n := by simp [mkd]
theorem mkd_nil (n : Nat) : mkd n [] = List.replicate n false := by
  apply List.ext_getElem
  · simp [mkd]
  · intro i h1 h2
    simp [mkd]
theorem mkd_in (n : Nat) (zs : List Int) (K : Nat) : mkd n (zs ++ [(K : Int)]) = (mkd n zs).set K true := by
  apply List.ext_getElem
  · simp [mkd]
  · intro i h1 h2
    by_cases h : i = K
    · subst h
      simp [mkd]
    · rw [List.getElem_set_ne (by omega)]
      simp only [mkd, List.getElem_map, List.getElem_range]
      apply decide_eq_decide.2
      simp
      omega
theorem mkd_out (n : Nat) (zs : List Int) (z : Int) (h : z < 0 ∨ (n : Int) ≤ z) : mkd n (zs ++ [z]) = mkd n zs := by
  apply List.ext_getElem
  · simp [mkd]
  · intro i h1 h2
    have hi : i < n := by simpa [mkd] using h2
    simp only [mkd, List.getElem_map, List.getElem_range]
    apply decide_eq_decide.2
    simp
    omega

theorem places_any {w : World} {A : Option Addr} {m c n : Nat} {zs : List Int} (hs : Ints w A m zs) (hm : m ≤ 1048576) (hn : n ≤ 1048576) :
    Calls Try.prog 31 #[.slice A m c, .int .i64 (n : Int)] w fun e w' => e = .returned (.slice (some ⟨w.heap.size, 0, none⟩) n n) ∧ Hid (Blk w' w.heap.size 4 ((mkd n zs).map .bool)) ∧ Hid (Only (fun _ => False) w w') := by
  have hmk := make_bools n (by omega)
  have H0 : Hid (Blk (w.alloc (.cells (List.replicate n (.bool false)).toArray 4)) w.heap.size 4 ((mkd n (zs.take 0)).map .bool) ∧ Only (fun _ => False) w (w.alloc (.cells (List.replicate n (.bool false)).toArray 4))) := ⟨by
    rw [List.take_zero, mkd_nil, List.map_replicate]
    exact Blk.new w _ _, (Only.refl _ w).alloc _⟩
  have HS := Lib.hid hs
  clear hs
  go_enter Try.func31, Try.ntmps31
  go_wp2
  clear hmk
  obtain ⟨g, hg⟩ : ∃ g, g = w.heap.size := ⟨_, rfl⟩
  rw [← hg] at H0 ⊢
  have HG := Lib.hid hg
  clear hg
  go_loopw [12] (fun i W => ∃ k : Nat, k ≤ m ∧ i = .int .i64 (k : Int) ∧ Hid (Blk W g 4 ((mkd n (zs.take k)).map .bool) ∧ Only (fun _ => False) w W)) (fun i _ => m - (intOf i).toNat)
  case atStart => exact ⟨0, Nat.zero_le _, rfl, H0.out⟩
  case round =>
    clear H0
    obtain ⟨k, hk, rfl, HD⟩ := hrel
    by_cases hlt : k < m
    · obtain ⟨z, hz⟩ : ∃ z, zs[k]? = some z := ⟨_, List.getElem?_eq_getElem (by rw [HS.out.1]; exact hlt)⟩
      have htk := take_snoc hz
      obtain ⟨ad, rfl, hcell⟩ := (HS.out.same HD.out.2).2 (by omega)
      have c0 := hcell k z hz
      by_cases hin : 0 ≤ z ∧ z < (n : Int)
      · obtain ⟨K, rfl⟩ := Int.eq_ofNat_of_zero_le hin.1
        have hKn : K < n := by omega
        have hv : ∃ v, wr.cell? ⟨g, K, none⟩ = some v := by
          rw [HD.out.1.cell]
          exact ⟨_, List.getElem?_eq_getElem (by rw [List.length_map, mkd_length]; exact hKn)⟩
        obtain ⟨v, hv⟩ := hv
        have hfz := HD.out.1.frozen K
        have HT := Lib.hid htk
        clear htk hz hcell hin
        go_wp2
        go_roundw
        case rel =>
          refine ⟨k + 1, by omega, by go_num, ?_, HD.out.2.setCell (p := ⟨g, K, none⟩) (.inr (Nat.le_of_eq HG.out.symm)) _⟩
          have := HD.out.1.setCell K (.bool true)
          rw [HT.out, mkd_in, List.map_set]
          exact this
        case measure => simp [intOf]; omega
      · have HT := Lib.hid htk
        have HOut : Hid (z < 0 ∨ (n : Int) ≤ z) := by
          show z < 0 ∨ (n : Int) ≤ z
          omega
        clear htk hz hcell
        by_cases h0 : 0 ≤ z
        · have e0 : decide ((0 : Int) ≤ z) = true := by simpa using h0
          have e1 : decide (z < (n : Int)) = false := by simp; omega
          clear hin h0
          go_wp2
          go_roundw
          case rel =>
            refine ⟨k + 1, by omega, by go_num, ?_, HD.out.2⟩
            rw [HT.out, mkd_out _ _ _ HOut.out]
            exact HD.out.1
          case measure => simp [intOf]; omega
        · have e0 : decide ((0 : Int) ≤ z) = false := by simpa using h0
          clear hin h0
          go_wp2
          go_roundw
          case rel =>
            refine ⟨k + 1, by omega, by go_num, ?_, HD.out.2⟩
            rw [HT.out, mkd_out _ _ _ HOut.out]
            exact HD.out.1
          case measure => simp [intOf]; omega
    · obtain rfl : k = m := by omega
      have hT : zs.take k = zs := List.take_of_length_le (by rw [HS.out.1]; exact Nat.le_refl _)
      rw [hT] at HD
      go_wp2
      go_ret
      obtain rfl := HG.out
      exact ⟨rfl, HD.out.1, HD.out.2⟩
end Go.Proofs.Ytelmfncdamakfaa
