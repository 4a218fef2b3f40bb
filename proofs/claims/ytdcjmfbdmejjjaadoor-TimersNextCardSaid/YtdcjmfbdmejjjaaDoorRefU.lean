/- The document's own timers: At, First, Set. -/
import Derived.Test.YtdcjmfbdmejjjaaDoorRefT
namespace Go.Proofs.YtdcjmfbdmejjjaaDoor
open Go Go.RowKit
set_option maxRecDepth 100000

section
variable {m c : Nat} {w w' : World} {now : Int} {A : Option Addr} {l : List Tm}
theorem rfAt_none (h : IsRf w m now A c l) (key : Int) (hno : ∀ x ∈ l, (x.1 == key) = false) : Calls Tryd.prog 18 #[.pointer (some ⟨m, 0, none⟩), .int .i64 key] w
    fun e w' => e = .returned (.tuple #[.int .i64 0, .bool false]) ∧ Only (fun _ => False) w w' := by
  have c1 := h.c1
  have hle := own_le h.row
  have HH := Lib.hid h
  have HNo := Lib.hid hno
  clear h hno
  obtain ⟨n, hn⟩ : ∃ n, n = l.length := ⟨_, rfl⟩
  rw [← hn] at c1 hle
  have HN := Lib.hid hn
  clear hn
  go_enter Tryd.func18, Tryd.ntmps18
  go_wp2
  clear c1
  go_loopw [13] (fun i W => ∃ k : Nat, k ≤ n ∧ i = .int .i64 (k : Int) ∧ Hid (Only (fun _ => False) w W)) (fun i _ => n - (intOf i).toNat)
  case atStart => exact ⟨0, Nat.zero_le _, rfl, Only.refl _ _⟩
  case round =>
    obtain ⟨k, hk, rfl, ho⟩ := hrel
    by_cases hlt : k < n
    · obtain ⟨x, hx⟩ : ∃ x, l[k]? = some x := ⟨_, List.getElem?_eq_getElem (by rw [← HN.out]; exact hlt)⟩
      have hrow := own_same HH.out.row ho.out
      rw [← HN.out] at hrow
      obtain ⟨g0, rfl, _, hg0, d0, d1⟩ := two_of hrow hx hlt
      have b1 := HNo.out _ (List.mem_of_getElem? hx)
      clear hx hrow
      go_wp2
      go_roundw
      case rel => exact ⟨k + 1, by omega, by go_num, ho.out.alloc _⟩
      case measure => simp [intOf]; omega
    · go_wp2
      go_ret2
      exact ⟨rfl, ho.out⟩

theorem rfAt_some (h : IsRf w m now A c l) (key : Int) (q : Nat) (y : Tm) (hy : l[q]? = some y) (hky : (y.1 == key) = true) (hno : ∀ (j : Nat) (x : Tm), j < q → l[j]? = some x → (x.1 == key) = false) :
    Calls Tryd.prog 18 #[.pointer (some ⟨m, 0, none⟩), .int .i64 key] w fun e w' => e = .returned (.tuple #[.int .i64 y.2, .bool true]) ∧ Only (fun _ => False) w w' := by
  have c1 := h.c1
  have hle := own_le h.row
  have HH := Lib.hid h
  have HNo := Lib.hid hno
  have hq : q < l.length := (List.getElem?_eq_some_iff.1 hy).1
  have HY := Lib.hid hy
  have HKY := Lib.hid hky
  clear h hno hy hky
  obtain ⟨n, hn⟩ : ∃ n, n = l.length := ⟨_, rfl⟩
  rw [← hn] at c1 hle hq
  have HN := Lib.hid hn
  clear hn
  go_enter Tryd.func18, Tryd.ntmps18
  go_wp2
  clear c1
  go_loopw [13] (fun i W => ∃ k : Nat, k ≤ q ∧ i = .int .i64 (k : Int) ∧ Hid (Only (fun _ => False) w W)) (fun i _ => n - (intOf i).toNat)
  case atStart => exact ⟨0, Nat.zero_le _, rfl, Only.refl _ _⟩
  case round =>
    obtain ⟨k, hk, rfl, ho⟩ := hrel
    have hlt : k < n := by omega
    obtain ⟨x, hx⟩ : ∃ x, l[k]? = some x := ⟨_, List.getElem?_eq_getElem (by rw [← HN.out]; exact hlt)⟩
    have hrow := own_same HH.out.row ho.out
    rw [← HN.out] at hrow
    obtain ⟨g0, rfl, _, hg0, d0, d1⟩ := two_of hrow hx hlt
    by_cases hkq : k < q
    · have b1 := HNo.out k _ hkq hx
      clear hx hrow
      go_wp2
      go_roundw
      case rel => exact ⟨k + 1, by omega, by go_num, ho.out.alloc _⟩
      case measure => simp [intOf]; omega
    · obtain rfl : k = q := by omega
      have e : x = y := by
        have := HY.out
        rw [hx] at this
        exact Option.some.inj this
      rw [e] at d0 d1
      have b1 := HKY.out
      clear hx hrow e
      go_wp2
      go_ret2
      exact ⟨rfl, ho.out.alloc _⟩

/-! First. -/
theorem rfFirst_none (h : IsRf w m now A c []) : Calls Tryd.prog 16 #[.pointer (some ⟨m, 0, none⟩)] w fun e w' => e = .returned (.tuple #[.int .i64 0, .int .i64 0, .bool false]) ∧ Only (fun _ => False) w w' := by
  have c1 := h.c1
  have hle := own_le h.row
  clear h
  simp only [List.length_nil] at c1 hle
  go_enter Tryd.func16, Tryd.ntmps16
  go_wp2
  refine wp_loop_rounds 1 ?_
  rw [rounds_succ]
  go_wp2
  go_ret3
  exact ⟨rfl, Only.refl _ _⟩

/-- The first one so far, if there is one. -/
def BestAt (l : List Tm) (k : Nat) (b : Int) : Prop := (k = 0 ∧ b = -1) ∨ ∃ (q : Nat) (z : Tm), b = (q : Int) ∧ q < k ∧ l[q]? = some z ∧ ∀ (j : Nat) (y : Tm), j < k → l[j]? = some y → y = z ∨ Lt z y
theorem BestAt.next {l : List Tm} {k q : Nat} {x z : Tm} (hx : l[k]? = some x) (hz : l[q]? = some z) (hq : q < k) (h : ∀ (j : Nat) (y : Tm), j < k → l[j]? = some y → y = z ∨ Lt z y) :
    (Lt x z → BestAt l (k + 1) (k : Int)) ∧ (¬ Lt x z → BestAt l (k + 1) (q : Int)) := by
  constructor
  · intro hxz
    refine .inr ⟨k, x, rfl, by omega, hx, fun j y hj hy => ?_⟩
    by_cases hjk : j = k
    · subst hjk
      rw [hx] at hy
      exact .inl (Option.some.inj hy).symm
    · rcases h j y (by omega) hy with rfl | h1
      · exact .inr hxz
      · exact .inr (hxz.trans h1)
  · intro hxz
    refine .inr ⟨q, z, rfl, by omega, hz, fun j y hj hy => ?_⟩
    by_cases hjk : j = k
    · subst hjk
      rw [hx] at hy
      cases hy
      rcases Lt.tri x z with h1 | h1 | h1
      · exact absurd h1 hxz
      · exact .inl h1
      · exact .inr h1
    · exact h j y (by omega) hy

set_option maxHeartbeats 1000000 in
theorem rfFirst_some (h : IsRf w m now A c l) (x0 : Tm) (hmin : IsMin l x0) : Calls Tryd.prog 16 #[.pointer (some ⟨m, 0, none⟩)] w fun e w' => e = .returned (.tuple #[.int .i64 x0.1, .int .i64 x0.2, .bool true]) ∧ Only (fun _ => False) w w' := by
  have c1 := h.c1
  have hle := own_le h.row
  have hpos : 0 < l.length := List.length_pos_of_mem hmin.1
  have hm := h.most
  have HH := Lib.hid h
  have HM := Lib.hid hmin
  clear h hmin
  obtain ⟨n, hn⟩ : ∃ n, n = l.length := ⟨_, rfl⟩
  rw [← hn] at c1 hle hpos hm
  have HN := Lib.hid hn
  have HC1 := Lib.hid c1
  have HB0 := Lib.hid (show BestAt l 0 (-1) from .inl ⟨rfl, rfl⟩)
  clear hn
  go_enter Tryd.func16, Tryd.ntmps16
  go_wp2
  clear c1
  go_loopw [5, 13] (fun b i W => ∃ (k : Nat) (bz : Int), k ≤ n ∧ i = .int .i64 (k : Int) ∧ b = .int .i64 bz ∧ Hid (BestAt l k bz) ∧ Hid (Only (fun _ => False) w W)) (fun _ i _ => n - (intOf i).toNat)
  case atStart => exact ⟨0, -1, Nat.zero_le _, rfl, rfl, HB0.out, Only.refl _ _⟩
  case round =>
    clear HB0
    obtain ⟨k, bz, hk, rfl, rfl, hb, ho⟩ := hrel
    have hrow := own_same HH.out.row ho.out
    rw [← HN.out] at hrow
    have c1 := ho.out.cellv HC1.out (fun h => h)
    by_cases hlt : k < n
    · obtain ⟨x, hx⟩ : ∃ x, l[k]? = some x := ⟨_, List.getElem?_eq_getElem (by rw [← HN.out]; exact hlt)⟩
      obtain ⟨g0, rfl, _, hg0, d0, d1⟩ := two_of hrow hx hlt
      rcases hb.out with ⟨rfl, rfl⟩ | ⟨q, z, rfl, hq, hz, hbest⟩
      · have HX0 := Lib.hid hx
        clear hrow hx
        go_wp2_with fail
        go_quiet (fail)
        go_wp2
        go_roundw
        case rel =>
          exact ⟨1, ((0 : Nat) : Int), by omega, by go_num, by go_num, (show BestAt l 1 ((0 : Nat) : Int) from .inr ⟨0, x, rfl, by omega, HX0.out, fun j y hj hy => .inl (by
            obtain rfl : j = 0 := by omega
            have := HX0.out
            rw [hy] at this
            exact Option.some.inj this)⟩), (ho.out.alloc _).drewN _⟩
        case measure => simp [intOf]; omega
      · obtain ⟨g1, hg1, _, _, e0, e1⟩ := two_of hrow hz (by omega)
        obtain rfl : g0 = g1 := by
          injection hg1 with hg1
          injection hg1
        have hnx := Lib.hid (BestAt.next hx hz hq hbest)
        have hqn : q < n := by omega
        have hml : m < wr.heap.size := World.block_lt_of_cell? wr _ c1
        clear hrow hx hz hbest hb hg1
        have hcases : x.2 < z.2 ∨ (¬ x.2 < z.2 ∧ x.2 = z.2 ∧ x.1 < z.1) ∨ (¬ x.2 < z.2 ∧ x.2 = z.2 ∧ ¬ x.1 < z.1) ∨ (¬ x.2 < z.2 ∧ x.2 ≠ z.2) := by omega
        have bq : decide ((q : Int) < 0) = false := by simp
        rcases hcases with h1 | ⟨h1, h2, h3⟩ | ⟨h1, h2, h3⟩ | ⟨h1, h2⟩
        · have b1 : decide (x.2 < z.2) = true := by simpa using h1
          have HL := Lib.hid (show Lt x z from .inl h1)
          clear h1
          go_wp2_with fail
          go_quiet (fail)
          go_wp2
          go_roundw
          case rel => exact ⟨k + 1, (k : Int), by omega, by go_num, rfl, hnx.out.1 HL.out, (ho.out.alloc _).drewN _⟩
          case measure => simp [intOf]; omega
        · have b1 : decide (x.2 < z.2) = false := by simpa using h1
          have b2 : (x.2 == z.2) = true := by simpa using h2
          have b3 : decide (x.1 < z.1) = true := by simpa using h3
          have HL := Lib.hid (show Lt x z from .inr ⟨h2, h3⟩)
          clear h1 h2 h3
          go_wp2_with fail
          go_quiet (fail)
          go_wp2
          go_roundw
          case rel => exact ⟨k + 1, (k : Int), by omega, by go_num, rfl, hnx.out.1 HL.out, (ho.out.alloc _).drewN _⟩
          case measure => simp [intOf]; omega
        · have b1 : decide (x.2 < z.2) = false := by simpa using h1
          have b2 : (x.2 == z.2) = true := by simpa using h2
          have b3 : decide (x.1 < z.1) = false := by simpa using h3
          have HL := Lib.hid (show ¬ Lt x z by unfold Lt; omega)
          clear h1 h2 h3
          go_wp2_with fail
          go_quiet (fail)
          go_wp2
          go_roundw
          case rel => exact ⟨k + 1, (q : Int), by omega, by go_num, rfl, hnx.out.2 HL.out, (ho.out.alloc _).drewN _⟩
          case measure => simp [intOf]; omega
        · have b1 : decide (x.2 < z.2) = false := by simpa using h1
          have b2 : (x.2 == z.2) = false := by simpa using h2
          have HL := Lib.hid (show ¬ Lt x z by unfold Lt; omega)
          clear h1 h2
          go_wp2_with fail
          go_quiet (fail)
          go_wp2
          go_roundw
          case rel => exact ⟨k + 1, (q : Int), by omega, by go_num, rfl, hnx.out.2 HL.out, (ho.out.alloc _).drewN _⟩
          case measure => simp [intOf]; omega
    · obtain rfl : k = n := by omega
      rcases hb.out with ⟨rfl, _⟩ | ⟨q, z, rfl, hq, hz, hbest⟩
      · exact absurd hpos (by omega)
      · have hz0 : z = x0 := by
          refine IsMin.unique (l := l) ⟨List.mem_of_getElem? hz, fun y hy => ?_⟩ HM.out
          obtain ⟨j, hj⟩ := List.getElem?_of_mem hy
          exact hbest j y (by rw [HN.out]; exact (List.getElem?_eq_some_iff.1 hj).1) hj
        subst hz0
        obtain ⟨g0, rfl, _, hg0, e0, e1⟩ := two_of hrow hz hq
        clear hrow hz hbest hb
        go_wp2_with fail
        go_quiet (fail)
        go_wp2
        go_ret3
        exact ⟨rfl, ho.out.drewN _⟩
end
end Go.Proofs.YtdcjmfbdmejjjaaDoor
