/- TimersNext, walked: it answers true, whatever it is called with. -/
import Derived.Test.YtdcjmfbdmejjjaaDoorTAlive
import Derived.Test.YtdcjmfbdmejjjaaDoorFinish
namespace Go.Proofs.YtdcjmfbdmejjjaaDoor
open Go Go.RowKit
set_option maxRecDepth 100000

theorem has_no {w : World} {A : Option Addr} {n c : Nat} (key : Int) (hc : n ≤ 9223372036854775807) (h : ∀ j, j < n → ∃ g off v, A = some ⟨g, off, none⟩ ∧ w.cell? ⟨g, off + j, none⟩ = some (.int .i64 v) ∧ (v == key) = false) :
    Calls Tryd.prog 21 #[.slice A n c, .int .i64 key] w fun e w' => e = .returned (.bool false) ∧ w = w' := by
  have H := Lib.hid h
  clear h
  go_enter Tryd.func21, Tryd.ntmps21
  go_wp2
  go_loop [6, 9] (fun _ i => ∃ k : Nat, k ≤ n ∧ i = .int .i64 (k : Int)) (fun _ i => n - (intOf i).toNat)
  case atStart => exact ⟨0, Nat.zero_le _, rfl⟩
  case round =>
    obtain ⟨k, hk, rfl⟩ := hrel
    by_cases hlt : k < n
    · obtain ⟨g, off, v, rfl, d0, b0⟩ := H.out k hlt
      go_wp2
      go_round
      case rel => exact ⟨k + 1, by omega, by go_num⟩
      case measure => simp [intOf]; omega
    · go_wp2
      go_ret
      exact ⟨rfl, rfl⟩

theorem tnext_many (w : World) (a : Option Addr) (len cap : Nat) (hc : len ≤ 9223372036854775807) (h : 40 < len) :
    Calls Tryd.prog 4 #[.slice a len cap] w (Fine w) := by
  go_enter Tryd.func4, Tryd.ntmps4
  go_wp2_with fail
  refine (talive_any _).mono ?_
  rintro e w1 ⟨rfl, ho1⟩
  go_wp2
  go_ret
  exact ⟨rfl, ho1⟩

/-- Timers that are due from 0 to MaxTick. -/
def InRange (ts : List Tm) : Prop := ∀ x ∈ ts, 0 ≤ x.2 ∧ x.2 ≤ 1099511627776
theorem InRange.set {ts ts' : List Tm} (h : InRange ts) (key at_ : Int) (hp : ts'.Perm (setList 0 ts key at_)) : InRange ts' := by
  intro x hx
  have hx := hp.mem_iff.1 hx
  unfold setList at hx
  split at hx
  · rename_i h0
    rcases List.mem_cons.1 hx with rfl | hx
    · unfold setNum at h0
      split at h0
      · cases h0
      · show 0 ≤ at_ ∧ at_ ≤ 1099511627776
        omega
    · exact h x (List.mem_filter.1 hx).1
  · exact h x hx

def TNextRel (w : World) (p : Nat) (W : World) : Prop := ∃ A c ts, IsTm 0 W p 0 A c ts ∧ Good ts ∧ InRange ts ∧ Only (fun _ => False) w W

set_option maxHeartbeats 2000000 in
theorem tnext_ok (w : World) (a : Option Addr) (len cap : Nat) (l : List TAct) (ha : TActs w a len l) (hn : len ≤ 40) {es : List Addr} (hes : ErrsIn w 2 es) :
    Calls Tryd.prog 4 #[.slice a len cap] w (Fine w) := by
  have b0 : decide ((40 : Int) < (len : Int)) = false := by simp; omega
  have HA := Lib.hid ha
  have HE := Lib.hid hes
  clear ha hes
  go_enter Tryd.func4, Tryd.ntmps4
  go_wp2_with fail
  refine (talive_any _).mono ?_
  rintro e w1 ⟨rfl, ho1⟩
  have HO1 := Lib.hid ho1
  clear ho1
  go_wp2_with fail
  refine (tmNew w1).mono ?_
  rintro e w2 ⟨rfl, h2, ho2⟩
  obtain ⟨p, hp⟩ : ∃ p, p = w1.heap.size := ⟨_, rfl⟩
  rw [← hp] at h2 ⊢
  have HP := Lib.hid (show w.heap.size ≤ p by have := HO1.out.size; omega)
  have HR0 := Lib.hid (show TNextRel w p w2 from ⟨none, 0, [], h2, Good.nil, (by intro x hx; cases hx), HO1.out.trans ho2 (fun i hi => hi.elim)⟩)
  clear h2 ho2 HO1 hp
  go_wp2_with fail
  go_loopw [23] (fun i W => ∃ k : Nat, k ≤ len ∧ i = .int .i64 (k : Int) ∧ Hid (TNextRel w p W)) (fun i _ => len - (intOf i).toNat)
  case atStart => exact ⟨0, Nat.zero_le _, rfl, HR0.out⟩
  case round =>
    clear HR0 b0
    obtain ⟨k, hk, rfl, hr⟩ := hrel
    obtain ⟨A, c, ts, ht, hg, hrg, ho⟩ := hr.out
    have HT := Lib.hid ht
    have HG := Lib.hid hg
    have HRg := Lib.hid hrg
    have HO := Lib.hid ho
    clear hr ht hg hrg ho
    by_cases hlt : k < len
    · obtain ⟨x, hx⟩ : ∃ x, l[k]? = some x := ⟨_, List.getElem?_eq_getElem (by rw [HA.out.1]; exact hlt)⟩
      obtain ⟨b, off, rfl, hb, hcell, hx63⟩ := (HA.out.only HO.out).2 k x hx
      have d0 := hcell 0 _ rfl
      have d1 := hcell 1 _ rfl
      have d2 := hcell 2 _ rfl
      simp only [Nat.add_zero] at d0
      have Hal := Lib.hid ((Only.refl (fun _ => False) wr).alloc (.cells #[.int .i64 x.1, .int .i64 x.2.1, .int .i64 x.2.2] 31))
      clear hx hcell
      by_cases hk0 : x.1 = 0
      · have bk : (x.1 == 0) = true := by simpa using hk0
        have C := Lib.hid (set_any ((HE.out.only HO.out).only Hal.out) (HT.out.same Hal.out) HG.out x.2.1 x.2.2)
        clear hk0
        go_wp2_with fail
        refine C.out.mono ?_
        rintro e w4 ⟨v4, A4, c4, ts4, rfl, _, ht4, hg4, hp4, ho4⟩
        have HR4 := Lib.hid (show TNextRel w p w4 from ⟨A4, c4, ts4, ht4, hg4, HRg.out.set _ _ hp4, (HO.out.trans Hal.out (fun i hi => hi.elim)).trans ho4 (fun i hi => .inr (by have := HP.out; omega))⟩)
        clear ht4 hg4 hp4 ho4 C
        go_wp2
        go_roundw
        case rel => exact ⟨k + 1, by omega, by go_num, HR4.out⟩
        case measure => simp [intOf]; omega
      · have bk : (x.1 == 0) = false := by simpa using hk0
        clear hk0
        go_wp2
        go_roundw
        case rel => exact ⟨k + 1, by omega, by go_num, A, c, ts, HT.out.same Hal.out, HG.out, HRg.out, HO.out.trans Hal.out (fun i hi => hi.elim)⟩
        case measure => simp [intOf]; omega
    · cases ts with
      | nil =>
        have C := Lib.hid (tmNext_none HT.out)
        go_wp2_with fail
        refine C.out.mono ?_
        rintro e w4 ⟨rfl, ho4⟩
        have CL := Lib.hid (tmLen (HT.out.same ho4))
        have HO4 := Lib.hid (HO.out.trans ho4 (fun i hi => hi.elim))
        clear ho4 C
        go_wp2_with fail
        refine CL.out.mono ?_
        rintro e w5 ⟨rfl, rfl⟩
        go_wp2
        go_ret
        exact ⟨rfl, HO4.out⟩
      | cons x tl =>
        have C := Lib.hid (tmNext_some HT.out)
        obtain ⟨hx0, hx1⟩ := HRg.out x (List.mem_cons_self ..)
        go_wp2_with fail
        refine C.out.mono ?_
        rintro e w4 ⟨rfl, ho4⟩
        have HT4 := Lib.hid (HT.out.same ho4)
        have HO4 := Lib.hid (HO.out.trans ho4 (fun i hi => hi.elim))
        clear ho4 C HT HO
        by_cases hpos : 0 < x.2
        · have s1 : IntKind.i64.wrap (x.2 - 1) = x.2 - 1 := IntWalk.i64_in _ (by omega)
          have HS1 := Lib.hid s1
          have CT := Lib.hid (tmTick HT4.out (by omega) (by omega) (x.2 - 1) (by omega) (by omega))
          clear s1
          go_wp2_with fail
          refine CT.out.mono ?_
          rintro e w5 ⟨K5, kc5, A5, c5, rfl, hk5, h5, ho5⟩
          have hz := due_first HG.out.sorted (0 + (x.2 - 1)) 0 (by intro y hy; simp at hy) (by
            intro y hy
            simp only [List.getElem?_cons_zero, Option.some.injEq] at hy
            subst hy
            omega)
          rw [hz.1, List.take_zero] at hk5 ⊢
          rw [hz.2, List.drop_zero] at h5
          simp only [List.length_nil] at hk5 ⊢
          have hkl5 := own_le hk5
          have HT5 := Lib.hid h5
          have HO5 := Lib.hid (HO4.out.trans ho5 (fun i hi => .inr (by have := HP.out; omega)))
          have e6 : (0 : Int) + (x.2 - 1) + 1 = x.2 := by omega
          have CT6 := tmTick HT5.out (by omega) (by omega) 1 (by omega) (by omega)
          rw [e6] at CT6
          have hfx : ((x :: tl).filter fun y => decide (y.2 ≤ x.2)) = x :: tl.filter fun y => decide (y.2 ≤ x.2) := List.filter_cons_of_pos (by simp)
          rw [hfx] at CT6
          obtain ⟨r6, hr6⟩ : ∃ r6, r6 = tl.filter fun y => decide (y.2 ≤ x.2) := ⟨_, rfl⟩
          obtain ⟨q6, hq6⟩ : ∃ q6, q6 = (x :: tl).filter fun y => !decide (y.2 ≤ x.2) := ⟨_, rfl⟩
          rw [← hr6, ← hq6] at CT6
          have HC6 := Lib.hid CT6
          clear hz hk5 h5 ho5 CT CT6 e6 hfx hr6 hq6 HT4 HO4
          go_wp2_with fail
          refine HC6.out.mono ?_
          rintro e w6 ⟨K6, kc6, A6, c6, rfl, hk6, h6, ho6⟩
          obtain ⟨g6, rfl, _, hg6, hcells⟩ := own_at hk6 (by simp)
          have d0 := hcells 0 (.int .i64 x.1) rfl
          have hle6 := own_le hk6
          have hl6 : (x :: r6).length = r6.length + 1 := rfl
          rw [hl6] at hle6 ⊢
          generalize r6.length = m6 at *
          have CN := Lib.hid (tmNow h6)
          have HO6 := Lib.hid (HO5.out.trans ho6 (fun i hi => .inr (by have := HP.out; omega)))
          have bx : (x.1 == x.1) = true := by simp
          have by_ : (x.2 == x.2) = true := by simp
          clear hk6 h6 ho6 hcells hl6 HC6 HO5 HT5
          go_wp2_with fail
          refine CN.out.mono ?_
          rintro e w7 ⟨rfl, rfl⟩
          go_wp2
          go_ret
          exact ⟨rfl, HO6.out⟩
        · have hx2 : x.2 = 0 := by omega
          have CT := tmTick HT4.out (by omega) (by omega) 0 (by omega) (by omega)
          rw [Int.add_zero] at CT
          have hfx : ((x :: tl).filter fun y => decide (y.2 ≤ 0)) = x :: tl.filter fun y => decide (y.2 ≤ 0) := List.filter_cons_of_pos (by simp; omega)
          rw [hfx] at CT
          have hkeys : ∀ y ∈ tl.filter fun y => decide (y.2 ≤ 0), (y.1 == x.1) = false := by
            intro y hy
            have h1 := HG.out.keys
            rw [List.map_cons, List.nodup_cons] at h1
            have : y.1 ≠ x.1 := fun e => h1.1 (List.mem_map.2 ⟨y, (List.mem_filter.1 hy).1, e⟩)
            simpa using this
          obtain ⟨r6, hr6⟩ : ∃ r6, r6 = tl.filter fun y => decide (y.2 ≤ 0) := ⟨_, rfl⟩
          obtain ⟨q6, hq6⟩ : ∃ q6, q6 = (x :: tl).filter fun y => !decide (y.2 ≤ 0) := ⟨_, rfl⟩
          rw [← hr6] at hkeys
          rw [← hr6, ← hq6] at CT
          have HK := Lib.hid hkeys
          have HCT := Lib.hid CT
          have bp : decide (0 < x.2) = false := by simpa using hpos
          have HX2 := Lib.hid hx2
          clear hpos hx2 CT hfx hkeys hr6 hq6 HT4
          go_wp2_with fail
          refine HCT.out.mono ?_
          rintro e w6 ⟨K6, kc6, A6, c6, rfl, hk6, h6, ho6⟩
          obtain ⟨g6, rfl, _, hg6, hcells⟩ := own_at hk6 (by simp)
          have d0 := hcells 0 (.int .i64 x.1) rfl
          have hle6 := own_le hk6
          have hl6 : (x :: r6).length = r6.length + 1 := rfl
          have HO6 := Lib.hid (HO4.out.trans ho6 (fun i hi => .inr (by have := HP.out; omega)))
          have hcell : ∀ j, j < r6.length → ∃ v, w6.cell? ⟨g6, 1 + j, none⟩ = some (.int .i64 v) ∧ (v == x.1) = false := by
            intro j hj
            refine ⟨(r6[j]).1, hcells (1 + j) _ ?_, HK.out _ (List.getElem_mem hj)⟩
            rw [Nat.add_comm 1 j]
            show ((x :: r6).map _)[j + 1]? = _
            simp [hj]
          have HCell := Lib.hid hcell
          rw [hl6] at hle6 ⊢
          obtain ⟨m6, hm6⟩ : ∃ m6, m6 = r6.length := ⟨_, rfl⟩
          rw [← hm6] at hle6 ⊢
          have HM6 := Lib.hid hm6
          have bx : (x.1 == x.1) = true := by simp
          clear hk6 h6 ho6 hcells hl6 HCT hcell hm6 HO4
          by_cases hk1 : kc6 = 1
          · subst hk1
            obtain rfl : m6 = 0 := by omega
            have CH := Lib.hid (has_no (w := w6) (A := some ⟨g6, 0, none⟩) (n := 0) (c := 0) x.1 (by omega) (fun j hj => absurd hj (by omega)))
            go_wp2_with fail
            refine CH.out.mono ?_
            rintro e w7 ⟨rfl, rfl⟩
            go_wp2
            go_ret
            exact ⟨rfl, HO6.out⟩
          · have CH := Lib.hid (has_no (w := w6) (A := some ⟨g6, 1, none⟩) (n := m6) (c := kc6 - 1) x.1 (by omega) (fun j hj => by
              obtain ⟨v, h1, h2⟩ := HCell.out j (by rw [← HM6.out]; exact hj)
              exact ⟨g6, 1, v, rfl, h1, h2⟩))
            go_wp2_with fail
            refine CH.out.mono ?_
            rintro e w7 ⟨rfl, rfl⟩
            go_wp2
            go_ret
            exact ⟨rfl, HO6.out⟩

theorem timersNext_walk (w : World) {H : Type} {enc : TypeId × Value → H} {fuel : Nat} {a : Option Addr} {len cap : Nat} {x : DataW H × List MemPlace} (hf : DataW.trod enc Tryd.prog w 0 (fun _ => true) true fuel 22 [.slice a len cap] = some x) {es : List Addr} (hes : ErrsIn w 2 es) :
    Calls Tryd.prog 4 #[.slice a len cap] w (Fine w) := by
  obtain ⟨hlc, hcap, l, hl⟩ := open_tacts hf
  by_cases hn : 40 < len
  · exact tnext_many w a len cap (by omega) hn
  · exact tnext_ok w a len cap l hl (by omega) hes
end Go.Proofs.YtdcjmfbdmejjjaaDoor
