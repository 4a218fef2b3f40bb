/- slices.BinarySearchFunc over timers. -/
import Derived.Test.YtdcjmfbdmejjjaaDoorSearch
import Derived.Deep.RegionLaw
import Derived.BigQuiet
import Derived.Deep.RegionHeld3
namespace Go.Proofs.YtdcjmfbdmejjjaaDoor
open Go Go.RowKit

/-- What a search answers: how many stand ahead; and whether it is there, which nobody asks. -/
def Stands (ts : List Tm) (y : Tm) (w : World) (e : Ending) (w' : World) : Prop :=
  ∃ (i : Nat) (b : Bool), e = .returned (.tuple #[.int .i64 (i : Int), .bool b]) ∧ i ≤ ts.length ∧ (∀ (j : Nat) (x : Tm), j < i → ts[j]? = some x → cmpTm x y < 0) ∧ (∀ (j : Nat) (x : Tm), i ≤ j → ts[j]? = some x → 0 ≤ cmpTm x y) ∧ Only (fun _ => False) w w'

theorem keep5 {w W W' : World} {a b c d : Addr} {v0 v1 v2 v3 : Value} (h : W.cell? a = some v0 ∧ W.cell? b = some v1 ∧ W.cell? c = some v2 ∧ W.cell? d = some v3 ∧ Hid (Only (fun _ => False) w W)) (ho : Only (fun _ => False) W W') :
    W'.cell? a = some v0 ∧ W'.cell? b = some v1 ∧ W'.cell? c = some v2 ∧ W'.cell? d = some v3 ∧ Hid (Only (fun _ => False) w W') :=
  ⟨ho.cellv h.1 (fun h => h), ho.cellv h.2.1 (fun h => h), ho.cellv h.2.2.1 (fun h => h), ho.cellv h.2.2.2.1 (fun h => h), h.2.2.2.2.out.trans ho (fun _ h => h.elim)⟩

set_option maxHeartbeats 1000000 in
set_option maxRecDepth 100000 in
theorem bsearch_any {w : World} {B : Nat} {A : Option Addr} {n c : Nat} {ts : List Tm} (h : w.ownsRow B 59 2 (.slice A n c) n (flat ts)) (y1 y2 : Int) (hn : n ≤ 1048576)
    (hmono : ∀ (i j : Nat) (x z : Tm), i ≤ j → ts[i]? = some x → ts[j]? = some z → cmpTm z (y1, y2) < 0 → cmpTm x (y1, y2) < 0) :
    Calls Tryd.prog 33 #[.slice A n c, .agg #[.int .i64 y1, .int .i64 y2], .func (.func 34) #[] #[]] w (Stands ts (y1, y2) w) := by
  have hle := own_le h
  have hl := own_len h
  have HM := Lib.hid hmono
  have HO := Lib.hid h
  have HL := Lib.hid hl
  have HW := Lib.hid (Nat.le_refl w.heap.size)
  clear hmono h hl
  go_enter Tryd.func33, Tryd.ntmps33
  have hA := Lib.hid ((Only.refl (fun _ => False) w).alloc (.cells #[.int .i64 y1, .int .i64 y2] 59))
  have hB := Lib.hid (Blk.new w 59 [.int .i64 y1, .int .i64 y2])
  go_wp2
  generalize hW1 : w.alloc (.cells #[.int .i64 y1, .int .i64 y2] 59) = w1 at *
  have HW1 := Lib.hid hW1
  clear hW1
  generalize hN : w.heap.size = N at *
  have HN := Lib.hid hN
  clear hN
  go_loopw [9, 10] (fun a b W => ∃ lo hi : Nat, lo ≤ hi ∧ hi ≤ n ∧ a = .int .i64 (lo : Int) ∧ b = .int .i64 (hi : Int) ∧ Hid (Only (fun _ => False) w1 W ∧ (∀ (j : Nat) (x : Tm), j < lo → ts[j]? = some x → cmpTm x (y1, y2) < 0) ∧ (∀ (j : Nat) (x : Tm), hi ≤ j → ts[j]? = some x → 0 ≤ cmpTm x (y1, y2)))) (fun a b _ => (intOf b).toNat - (intOf a).toNat)
  case atStart => exact ⟨0, n, Nat.zero_le _, Nat.le_refl _, rfl, rfl, Only.refl _ _, fun j x hj => absurd hj (by omega), fun j x hj hx => absurd (List.getElem?_eq_some_iff.1 hx).1 (by have := HL.out; omega)⟩
  case round =>
    obtain ⟨lo, hi, hlh, hhi, rfl, rfl, hr⟩ := hrel
    have HOr := Lib.hid (hA.out.trans hr.out.1 (fun _ h => h.elim))
    have hBr := hB.out.only hr.out.1 (fun h => h)
    have t0 : wr.cell? ⟨N, 0, none⟩ = some (.int .i64 y1) := by rw [hBr.cell]; rfl
    have t1 : wr.cell? ⟨N, 1, none⟩ = some (.int .i64 y2) := by rw [hBr.cell]; rfl
    clear hBr
    by_cases hlt : lo < hi
    · obtain ⟨m, hm⟩ : ∃ m, m = (lo + hi) / 2 := ⟨_, rfl⟩
      have hm1 : lo ≤ m := by omega
      have hm2 : m < hi := by omega
      obtain ⟨x, hx⟩ : ∃ x, ts[m]? = some x := ⟨_, List.getElem?_eq_getElem (by rw [HL.out]; omega)⟩
      obtain ⟨g0, rfl, _, hg0, c0, c1⟩ := two_of (own_same HO.out HOr.out) hx (by omega)
      have Hx := Lib.hid hx
      have Hm := Lib.hid hm
      have hmn : m < n := by omega
      have em : ((lo : Int) + (hi : Int)) / 2 = (m : Int) := by omega
      clear hx hm
      go_wp2_with fail
      refine region_tail 6 (by kernel_rfl) (by kernel_rfl) ?_
      simp only [List.take_succ_cons, List.take_zero, List.drop_succ_cons, List.drop_zero]
      repeat still_step
      refine wpStill_nil ?_
      have C := Lib.hid (compare_any wr.drew x.1 x.2 y1 y2)
      by_cases hlx : cmpTm (x.1, x.2) (y1, y2) < 0
      · go_wp2_with (go_at_call 34; refine C.out.mono ?_; rintro e w' ⟨rfl, ho'⟩)
        go_roundw
        case rel =>
          refine ⟨m + 1, hi, by omega, hhi, by go_num, rfl, (hr.out.1.drew).trans ho' (fun _ h => h.elim), fun j z hj hz => ?_, hr.out.2.2⟩
          exact HM.out j m z x (by omega) hz Hx.out hlx
        case measure => simp [intOf]; omega
      · go_wp2_with (go_at_call 34; refine C.out.mono ?_; rintro e w' ⟨rfl, ho'⟩)
        go_roundw
        case rel =>
          refine ⟨lo, m, by omega, by omega, rfl, rfl, (hr.out.1.drew).trans ho' (fun _ h => h.elim), hr.out.2.1, fun j z hj hz => ?_⟩
          exact Int.not_lt.1 (fun hc => Int.not_lt.2 (by first | exact hlx | exact Int.not_lt.1 hlx) (HM.out m j x z hj Hx.out hz hc))
        case measure => simp [intOf]; omega
    · obtain rfl : hi = lo := by omega
      by_cases hend : hi < n
      · obtain ⟨x, hx⟩ : ∃ x, ts[hi]? = some x := ⟨_, List.getElem?_eq_getElem (by rw [HL.out]; omega)⟩
        obtain ⟨g0, rfl, _, hg0, c0, c1⟩ := two_of (own_same HO.out HOr.out) hx (by omega)
        have Hx := Lib.hid hx
        have C := Lib.hid (compare_any wr.drew x.1 x.2 y1 y2)
        have bb : decide ((hi : Int) < (n : Int)) = true := by simp; omega
        clear hx
        go_wp2_with fail
        go_region_held3 (fun W => W.cell? ⟨g0, hi * 2, none⟩ = some (.int .i64 x.1) ∧ W.cell? ⟨g0, hi * 2 + 1, none⟩ = some (.int .i64 x.2) ∧ W.cell? ⟨N, 0, none⟩ = some (.int .i64 y1) ∧ W.cell? ⟨N, 1, none⟩ = some (.int .i64 y2) ∧ Hid (Only (fun _ => False) w W))
          (first | exact ⟨c0, c1, t0, t1, HOr.out.drew⟩ | exact hK)
          ((go_at_call 34; refine (compare_any _ x.1 x.2 y1 y2).mono ?_; rintro e w' ⟨rfl, ho'⟩; have hK := keep5 (by first | exact ⟨c0, c1, t0, t1, HOr.out.drew⟩ | assumption) ho'))
        all_goals
          go_wp2
          go_ret2
          exact ⟨hi, _, rfl, by rw [HL.out]; omega, hr.out.2.1, hr.out.2.2, hK.2.2.2.2.out⟩
      · have bb : decide ((hi : Int) < (n : Int)) = false := by simp; omega
        go_wp2_with fail
        go_quiet (fail)
        go_wp2
        go_ret2
        exact ⟨hi, _, rfl, by rw [HL.out]; omega, hr.out.2.1, hr.out.2.2, HOr.out.drewN _⟩
end Go.Proofs.YtdcjmfbdmejjjaaDoor
