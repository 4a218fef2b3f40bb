/- Several texts in one. -/
import Derived.Test.YtlmkpembccehkaaGreatDoorJTexts
import Derived.Test.YtlmkpembccehkaaGreatDoorSnNew
/- Rows of strings: few ones. -/
namespace Go.Proofs.YtlmkpembccehkaaGreatDoor
open Go Go.ChangeShapes Go.WideShapes Go.ChangeAt Go.RowKit
set_option maxRecDepth 100000
set_option maxHeartbeats 4000000

/-- At most so many, each of at most so many bytes. -/
def fewT (ts : List (List UInt8)) (many most : Nat) : Bool := decide (ts.length ≤ many) && ts.all fun s => decide (s.length ≤ most)
theorem fewT_iff {ts : List (List UInt8)} {many most : Nat} : fewT ts many most = true ↔ ts.length ≤ many ∧ ∀ t ∈ ts, t.length ≤ most := by simp [fewT]
theorem few_any {w : World} {A : Option Addr} {n c : Nat} {ts : List (List UInt8)} (hs : TSrc w A n ts) (hn : n ≤ 9223372036854775807) (many most : Nat) :
    Calls Tryz.prog 17 #[.slice A n c, .int .i64 (many : Int), .int .i64 (most : Int)] w fun e w' => e = .returned (.bool (fewT ts many most)) ∧ w' = w := by
  obtain ⟨F, hF⟩ : ∃ F, F = fewT ts many most := ⟨_, rfl⟩
  have HF := Lib.hid hF
  rw [← hF]
  clear hF
  have HS := Lib.hid hs
  clear hs
  by_cases hm : many < n
  · have hd : decide ((many : Int) < (n : Int)) = true := by simp; omega
    go_enter Tryz.func17, Tryz.ntmps17
    go_wp2
    go_ret
    refine ⟨?_, rfl⟩
    rw [HF.out]
    unfold fewT
    rw [HS.out.1, decide_eq_false (by omega)]
    rfl
  · have hd : decide ((many : Int) < (n : Int)) = false := by simp; omega
    go_enter Tryz.func17, Tryz.ntmps17
    go_wp2
    go_loop [15] (fun i => ∃ k : Nat, k ≤ n ∧ i = .int .i64 (k : Int) ∧ Hid (∀ t ∈ ts.take k, t.length ≤ most)) (fun i => n - (intOf i).toNat)
    case atStart => exact ⟨0, Nat.zero_le _, rfl, fun t ht => by simp at ht⟩
    case round =>
      obtain ⟨k, hk, rfl, HD⟩ := hrel
      by_cases hlt : k < n
      · obtain ⟨ad, s, rfl, hx, hc⟩ := HS.out.get hlt
        have HX := Lib.hid hx
        obtain ⟨sl, hsl⟩ : ∃ sl, sl = s.length := ⟨_, rfl⟩
        have hz : (ByteArray.mk s.toArray).size = sl := by rw [hsl]; rfl
        have HL := Lib.hid hsl
        clear hx hsl
        by_cases hlong : most < sl
        · have hd2 : decide ((most : Int) < (sl : Int)) = true := by simp; omega
          go_wp2
          go_ret
          refine ⟨?_, rfl⟩
          rw [HF.out]
          show Ending.returned (.bool _) = _
          congr 2
          symm
          rw [Bool.eq_false_iff]
          intro h
          have := (fewT_iff.1 h).2 s (List.mem_of_getElem? HX.out)
          have := HL.out
          omega
        · have hd2 : decide ((most : Int) < (sl : Int)) = false := by simp; omega
          go_wp2
          go_round
          case rel =>
            refine ⟨k + 1, by omega, by go_num, fun t ht => ?_⟩
            rw [take_snoc HX.out] at ht
            rcases List.mem_append.1 ht with h | h
            · exact HD.out t h
            · have := HL.out
              simp only [List.mem_singleton] at h
              subst h
              omega
          case measure => simp [intOf]; omega
      · obtain rfl : k = n := by omega
        go_wp2
        go_ret
        refine ⟨?_, rfl⟩
        rw [HF.out]
        show Ending.returned (.bool _) = _
        congr 2
        symm
        refine fewT_iff.2 ⟨by rw [HS.out.1]; omega, fun t ht => HD.out t ?_⟩
        rw [← HS.out.1, List.take_length]
        exact ht
end Go.Proofs.YtlmkpembccehkaaGreatDoor
/- Whether a config is too long for the laws. -/
namespace Go.Proofs.YtlmkpembccehkaaGreatDoor
open Go Go.RowKit
set_option maxRecDepth 100000
set_option maxHeartbeats 4000000

def snLong (ts : List (List UInt8)) (m : Nat) : Bool := !fewT ts 20 60 || decide (30 < m)
section
variable {w : World} {A B : Option Addr} {n cA m cB : Nat} {ts : List (List UInt8)} {cc cr can : Int}
theorem snLong_any (hts : TSrc w A n ts) (hn : n ≤ 9223372036854775807) :
    Calls Tryz.prog 6 #[cfV cc cr A n cA B m cB can] w fun e w' => e = .returned (.bool (snLong ts m)) ∧ Only (fun _ => False) w w' := by
  have HF : Hid (∀ W, Only (fun _ => False) w W → Calls Tryz.prog 17 #[.slice A n cA, .int .i64 20, .int .i64 60] W fun e w' => e = .returned (.bool (fewT ts 20 60)) ∧ w' = W) := fun W ho => few_any (hts.same ho) hn 20 60
  unfold snLong
  cases hf : fewT ts 20 60 with
  | false =>
    rw [hf] at HF
    clear hts hn hf
    go_enter Tryz.func6, Tryz.ntmps6
    go_wp2_with (go_at_call 17; (with_reducible refine (HF.out _ ((Only.refl _ _).alloc _)).mono ?_); rintro e w' ⟨rfl, e2⟩; subst w')
    go_ret
    exact ⟨rfl, (Only.refl _ _).alloc _⟩
  | true =>
    rw [hf] at HF
    by_cases hm : 30 < m
    · have hd : decide ((30 : Int) < (m : Int)) = true := by simp; omega
      rw [decide_eq_true hm]
      clear hts hn hf hm
      go_enter Tryz.func6, Tryz.ntmps6
      go_wp2_with (go_at_call 17; (with_reducible refine (HF.out _ ((Only.refl _ _).alloc _)).mono ?_); rintro e w' ⟨rfl, e2⟩; subst w')
      go_ret
      exact ⟨rfl, (Only.refl _ _).alloc _⟩
    · have hd : decide ((30 : Int) < (m : Int)) = false := by simp; omega
      rw [decide_eq_false hm]
      clear hts hn hf hm
      go_enter Tryz.func6, Tryz.ntmps6
      go_wp2_with (go_at_call 17; (with_reducible refine (HF.out _ ((Only.refl _ _).alloc _)).mono ?_); rintro e w' ⟨rfl, e2⟩; subst w')
      go_ret
      exact ⟨rfl, (Only.refl _ _).alloc _⟩
end
end Go.Proofs.YtlmkpembccehkaaGreatDoor
