/- The document's answers for terminal types: Answer, Parse, Gather. -/
import Derived.Test.YtjdfdgmfkpdfbaaDoorTtRight
import Derived.Test.YtjdfdgmfkpdfbaaDoorRow1
namespace Go.Proofs.YtjdfdgmfkpdfbaaDoor
open Go Go.RowKit
set_option maxRecDepth 100000
set_option maxHeartbeats 4000000

theorem rAnswer_any {w : World} {A : Option Addr} {n : Nat} (c : Nat) {ts : List (List UInt8)} (hs : TSrc w A n ts) (h1 : 1 ≤ n) (h8 : n ≤ 8) (k : Nat) (hk : k ≤ 1048576) :
    Calls Tryd.prog 18 #[.slice A n c, .int .i64 (k : Int)] w fun e w' => e = .returned (.string ⟨(ansT ts k).toArray⟩) ∧ w' = w := by
  have hg := ansT_get (ts := ts) (by rw [hs.1]; exact h1) k
  rw [hs.1] at hg
  obtain ⟨s, hs'⟩ : ∃ s, s = ansT ts k := ⟨_, rfl⟩
  rw [← hs'] at hg ⊢
  obtain ⟨ad, rfl, hx⟩ := hs.2 (by omega)
  have c0 := hx _ _ hg
  obtain ⟨m, hm⟩ : ∃ m, m = k % (n + 1) := ⟨_, rfl⟩
  have hmn : m ≤ n := by rw [hm]; have := Nat.mod_lt k (show 0 < n + 1 by omega); omega
  have e3 : ((k : Int)).tmod ((n : Int) + 1) = (m : Int) := by
    rw [hm, Int.tmod_eq_emod_of_nonneg (by omega), Int.natCast_emod]
    rfl
  rw [← hm] at c0
  clear hm hs hx hg hs'
  by_cases h : m = n
  · have e4 : (m == n) = true := by simp [h]
    rw [show min m (n - 1) = n - 1 from by omega] at c0
    obtain ⟨j, hj⟩ : ∃ j, j = n - 1 := ⟨_, rfl⟩
    rw [← hj] at c0
    have e5 : (m : Int) - 1 = (j : Int) := by omega
    have hjn : j < n := by omega
    clear h hj
    go_enter Tryd.func18, Tryd.ntmps18
    go_wp2
    go_ret
    exact ⟨rfl, rfl⟩
  · have e4 : (m == n) = false := by simp [h]
    rw [show min m (n - 1) = m from by omega] at c0
    have hmn : m < n := by omega
    clear h
    go_enter Tryd.func18, Tryd.ntmps18
    go_wp2
    go_ret
    exact ⟨rfl, rfl⟩

theorem rParse_any (w : World) (s : List UInt8) (hl : s.length ≤ 1048576) : Calls Tryd.prog 22 #[.string ⟨s.toArray⟩] w fun e w' => e = .returned (.tuple #[.string ⟨(saysT s).1.toArray⟩, .bool (saysT s).2.1, .int .i64 ((saysT s).2.2 : Int)]) ∧ w' = w := by
  obtain ⟨n, hn⟩ : ∃ n, n = s.length := ⟨_, rfl⟩
  have hz : (ByteArray.mk s.toArray).size = n := by rw [hn]; rfl
  rw [← hn] at hl
  cases hb : s with
  | nil =>
    rw [hb] at hn hz
    obtain rfl : n = 0 := hn
    show Calls Tryd.prog 22 #[.string ⟨#[]⟩] w fun e w' => e = .returned (.tuple #[.string ⟨#[]⟩, .bool false, .int .i64 3]) ∧ w' = w
    clear hb hz
    go_enter Tryd.func22, Tryd.ntmps22
    go_wp2
    go_ret3
    exact ⟨rfl, rfl⟩
  | cons c r =>
    have hs := saysT.eq_def s
    rw [hb] at hs
    simp only at hs
    rw [← hb] at hs ⊢
    obtain ⟨X, hX⟩ : ∃ X, X = saysT s := ⟨_, rfl⟩
    rw [← hX] at hs ⊢
    have g0 := str_get (s := s) (k := 0) (x := c) (by rw [hb]; rfl)
    have HR := Lib.hid (fun W => rRight_any W r)
    have hcut : (ByteArray.mk s.toArray).extract 1 n = ⟨r.toArray⟩ := by
      rw [str_cut, hn, List.take_length, hb]
      rfl
    have hnr : n = r.length + 1 := by rw [hn, hb]; rfl
    have hn1 : 1 ≤ n := by omega
    clear hX
    rcases (by omega : c.toNat = 1 ∨ 1 < c.toNat ∨ c.toNat = 0) with h | h | h
    · rw [if_pos h] at hs
      have e1 : ((c.toNat : Int) == 1) = true := by rw [h]; rfl
      cases r with
      | nil =>
        simp only at hs
        subst hs
        have hn1 : n = 1 := hnr
        subst hn1
        clear hn hb hnr hcut HR
        go_enter Tryd.func22, Tryd.ntmps22
        go_wp2
        go_ret3
        exact ⟨rfl, rfl⟩
      | cons x r =>
        simp only at hs
        subst hs
        rw [List.length_cons] at hnr
        have e2 : decide ((1 : Int) < (n : Int)) = true := by simp; omega
        clear hn hb hnr hcut HR
        go_enter Tryd.func22, Tryd.ntmps22
        go_wp2
        go_ret3
        exact ⟨rfl, rfl⟩
    · rw [if_neg (by omega), if_pos h] at hs
      subst hs
      have e1 : ((c.toNat : Int) == 1) = false := by simp; omega
      have e2 : decide ((1 : Int) < (c.toNat : Int)) = true := by simp; omega
      clear hn hb hnr hcut HR
      go_enter Tryd.func22, Tryd.ntmps22
      go_wp2
      go_ret3
      exact ⟨rfl, rfl⟩
    · rw [if_neg (by omega), if_neg (by omega)] at hs
      have e1 : ((c.toNat : Int) == 1) = false := by simp; omega
      have e2 : decide ((1 : Int) < (c.toNat : Int)) = false := by simp; omega
      cases ho : okT r with
      | false =>
        rw [ho] at hs HR
        simp only [Bool.false_eq_true, if_false] at hs
        subst hs
        clear hn hb hnr ho
        go_enter Tryd.func22, Tryd.ntmps22
        go_wp2_with (go_at_call 14; (with_reducible refine (HR.out _).mono ?_); rintro e w1 ⟨rfl, e1⟩; subst w1)
        go_ret3
        exact ⟨rfl, rfl⟩
      | true =>
        rw [ho] at hs HR
        simp only [if_true] at hs
        subst hs
        clear hn hb hnr ho
        go_enter Tryd.func22, Tryd.ntmps22
        go_wp2_with (go_at_call 14; (with_reducible refine (HR.out _).mono ?_); rintro e w1 ⟨rfl, e1⟩; subst w1)
        go_ret3
        exact ⟨rfl, rfl⟩

theorem not_eight {m : Nat} {l : List (List UInt8)} {s : List UInt8} (h : m = l.length) (hm : m ≠ 7) : (Ls.mk (l ++ [s]) (decide (l.length + 1 = 8))).whole = false := by
  show decide (l.length + 1 = 8) = false
  exact decide_eq_false (by omega)
/-- What is gathered, as the document tells it. -/
theorem gather_any {w : World} {A : Option Addr} {n : Nat} (c : Nat) {ts : List (List UInt8)} (hs : TSrc w A n ts) (hn : n ≤ 1048576) :
    Calls Tryd.prog 9 #[.slice A n c] w fun e w' => ∃ A' c', e = .returned (.tuple #[.slice A' (gatherT Ls.none ts).names.length c', .bool (gatherT Ls.none ts).whole]) ∧ Hid (TSrc w' A' (gatherT Ls.none ts).names.length (gatherT Ls.none ts).names) ∧ Hid (Only (fun _ => False) w w') := by
  obtain ⟨G, hG⟩ : ∃ G, G = gatherT Ls.none ts := ⟨_, rfl⟩
  rw [← hG]
  have HG := Lib.hid hG
  have HS := Lib.hid hs
  have HR := Lib.hid (fun W s => rRight_any W s)
  clear hG hs
  have HE := Lib.hid (own_of_blk (B := w.heap.size) (c := 0) (s := 1) (n := 0) (xs := []) (Blk.new w 9 []) rfl rfl (by omega) (by omega) (Nat.le_refl _))
  have HO := Lib.hid ((Only.refl (fun _ => False) w).alloc (.cells #[] 9))
  go_enter Tryd.func9, Tryd.ntmps9
  go_wp2
  go_loopw [4, 10] (fun v i W => ∃ (k m : Nat) (B : Option Addr) (cb : Nat) (l : Ls), k ≤ n ∧ m < 8 ∧ v = .slice B m cb ∧ i = .int .i64 (k : Int) ∧ Hid (m = l.names.length ∧ l.whole = false ∧ l.Ok ∧ gatherT l (ts.drop k) = G ∧ Only (fun _ => False) w W ∧ W.ownsRow w.heap.size 9 1 (.slice B m cb) m (l.names.map S8))) (fun _ i _ => n - (intOf i).toNat)
  case atStart => exact ⟨0, 0, _, 0, Ls.none, Nat.zero_le _, by omega, rfl, rfl, rfl, rfl, Ls.none_ok, HG.out.symm, HO.out, HE.out⟩
  case round =>
    clear HE HO
    obtain ⟨k, m, B, cb, l, hk, hm, rfl, rfl, HD⟩ := hrel
    by_cases hlt : k < n
    · obtain ⟨ad, s, rfl, hx, hc⟩ := (HS.out.same HD.out.2.2.2.2.1).get hlt
      have HX := Lib.hid hx
      have HRs := Lib.hid (fun W => HR.out W s)
      clear hx
      cases ho : okT s with
      | false =>
        rw [ho] at HRs
        have HOk := Lib.hid ho
        clear ho
        go_wp2_with (go_at_call 14; (with_reducible refine (HRs.out _).mono ?_); rintro e w1 ⟨rfl, e1⟩; subst w1)
        go_roundw
        case rel =>
          obtain ⟨d1, d2, d3, d4, d5, d6⟩ := HD.out
          refine ⟨k + 1, m, B, cb, l, by omega, hm, rfl, by go_num, d1, d2, d3, ?_, d5, d6⟩
          rw [gatherT_drop HX.out, Ls.take_bad HOk.out] at d4
          exact d4
        case measure => simp [intOf]; omega
      | true =>
        rw [ho] at HRs
        have HOk := Lib.hid ho
        clear ho
        obtain ⟨vs, hvs⟩ : ∃ vs, vs = l.names.map S8 := ⟨_, rfl⟩
        have HRow : Hid (wr.ownsRow w.heap.size 9 1 (.slice B m cb) m vs) := by rw [hvs]; exact HD.out.2.2.2.2.2
        have HOn : Hid (Only (fun _ => False) w wr) := HD.out.2.2.2.2.1
        have HV := Lib.hid hvs
        clear hvs
        rcases Nat.eq_zero_or_pos m with h0 | h0
        · subst h0
          have HLast : Hid (l.names.getLast? ≠ some s) := by
            intro h
            rw [List.eq_nil_of_length_eq_zero HD.out.1.symm] at h
            cases h
          go_wp2_with (first
            | (go_at_call 14; (with_reducible refine (HRs.out _).mono ?_); rintro e w1 ⟨rfl, e1⟩; subst w1)
            | (at_builtin; refine step_one rfl _ _ 22 rfl 9 _ 16 Tryd.underlying22 info_str rfl (by omega) w.heap.size B 0 cb vs rfl (own_same HRow.out ((Only.refl _ _).alloc _)) wr.heap.size _ rfl ((Blk.new wr 9 [.string ⟨s.toArray⟩]).cell 0) rfl (by omega) (by have := HOn.out.size; simp; omega) ?_; intro A' c' w6 hR6 hG6 hN6))
          go_roundw
          case rel =>
            obtain ⟨d1, d2, d3, d4, d5, d6⟩ := HD.out
            rw [gatherT_drop HX.out, Ls.take_new d2 HOk.out HLast.out] at d4
            have hok := d3.take s
            rw [Ls.take_new d2 HOk.out HLast.out] at hok
            refine ⟨k + 1, 1, A', c', ⟨l.names ++ [s], decide (l.names.length + 1 = 8)⟩, by omega, by omega, rfl, by go_num, by rw [List.length_append, ← d1]; rfl, not_eight d1 (by omega), hok, d4, (HOn.out.alloc _).grown hG6.out (fun q hq => .inr (own_lt HRow.out q hq).1), ?_⟩
            have := hR6.out
            rw [HV.out] at this
            rw [List.map_append]
            exact this
          case measure => simp [intOf]; omega

        · have hlen := HD.out.1
          obtain ⟨j, hj⟩ : ∃ j, j = m - 1 := ⟨_, rfl⟩
          have hy : l.names[j]? = some (l.names[j]'(by omega)) := List.getElem?_eq_getElem _
          obtain ⟨y, hy'⟩ : ∃ y, y = l.names[j]'(by omega) := ⟨_, rfl⟩
          rw [← hy'] at hy
          have hlast : l.names.getLast? = some y := by rw [List.getLast?_eq_getElem?, ← hlen, ← hj, hy]
          obtain ⟨g, rfl, _, _, hcell⟩ := own_at HRow.out h0
          have cj := hcell j (.string ⟨y.toArray⟩) (by rw [HV.out, List.getElem?_map, hy]; rfl)
          have e1 : (m : Int) - 1 = (j : Int) := by omega
          have hjm : j < m := by omega
          have hm0 : decide (0 < m) = true := by simp; omega
          have HLast := Lib.hid hlast
          clear hcell hy hy' hlast hlen hj
          by_cases he : y = s
          · subst he
            have eb : (y == y) = true := by simp
            go_wp2_with (go_at_call 14; (with_reducible refine (HRs.out _).mono ?_); rintro e w1 ⟨rfl, e1⟩; subst w1)
            go_ret2
            obtain ⟨d1, d2, d3, d4, d5, d6⟩ := HD.out
            rw [gatherT_drop HX.out, Ls.take_end d2 HOk.out HLast.out, gatherT_full rfl] at d4
            subst d4
            subst d1
            exact ⟨_, cb, rfl, TSrc.of_own d6, d5⟩
          · have eb : (y == s) = false := by simp [he]
            have HLast : Hid (l.names.getLast? ≠ some s) := by
              intro h
              rw [HLast.out] at h
              injection h with h
              exact he h
            clear he
            by_cases h7 : m = 7
            · subst h7
              obtain rfl : j = 6 := by omega
              go_wp2_with (first
                | (go_at_call 14; (with_reducible refine (HRs.out _).mono ?_); rintro e w1 ⟨rfl, e1⟩; subst w1)
                | (at_builtin; refine step_one rfl _ _ 22 rfl 9 _ 16 Tryd.underlying22 info_str rfl (by omega) w.heap.size (some ⟨g, 0, none⟩) 7 cb vs rfl (own_same HRow.out ((Only.refl _ _).alloc _)) wr.heap.size _ rfl ((Blk.new wr 9 [.string ⟨s.toArray⟩]).cell 0) rfl (by omega) (by have := HOn.out.size; simp; omega) ?_; intro A' c' w6 hR6 hG6 hN6))
              go_ret2
              obtain ⟨d1, d2, d3, d4, d5, d6⟩ := HD.out
              rw [gatherT_drop HX.out, Ls.take_new d2 HOk.out HLast.out, gatherT_full (by simp; omega)] at d4
              subst d4
              have hl8 : (l.names ++ [s]).length = 8 := by simp; omega
              refine ⟨A', c', ?_, ?_, (HOn.out.alloc _).grown hG6.out (fun q hq => .inr (own_lt HRow.out q hq).1)⟩
              · show _ = Ending.returned (.tuple #[.slice A' (l.names ++ [s]).length c', .bool (decide (l.names.length + 1 = 8))])
                rw [hl8, decide_eq_true (by omega)]
                rfl
              · show TSrc w6 A' (l.names ++ [s]).length (l.names ++ [s])
                have := hR6.out
                rw [HV.out] at this
                rw [hl8]
                exact TSrc.of_own (by rw [List.map_append]; exact this)
            · have e8 : ((m : Int) + 1 == 8) = false := by simp; omega
              go_wp2_with (first
                | (go_at_call 14; (with_reducible refine (HRs.out _).mono ?_); rintro e w1 ⟨rfl, e1⟩; subst w1)
                | (at_builtin; refine step_one rfl _ _ 22 rfl 9 _ 16 Tryd.underlying22 info_str rfl (by omega) w.heap.size (some ⟨g, 0, none⟩) m cb vs rfl (own_same HRow.out ((Only.refl _ _).alloc _)) wr.heap.size _ rfl ((Blk.new wr 9 [.string ⟨s.toArray⟩]).cell 0) rfl (by omega) (by have := HOn.out.size; simp; omega) ?_; intro A' c' w6 hR6 hG6 hN6))
              go_roundw
              case rel =>
                obtain ⟨d1, d2, d3, d4, d5, d6⟩ := HD.out
                rw [gatherT_drop HX.out, Ls.take_new d2 HOk.out HLast.out] at d4
                have hok := d3.take s
                rw [Ls.take_new d2 HOk.out HLast.out] at hok
                refine ⟨k + 1, m + 1, A', c', ⟨l.names ++ [s], decide (l.names.length + 1 = 8)⟩, by omega, by omega, rfl, by go_num, by rw [List.length_append, ← d1]; rfl, not_eight d1 (by omega), hok, d4, (HOn.out.alloc _).grown hG6.out (fun q hq => .inr (own_lt HRow.out q hq).1), ?_⟩
                have := hR6.out
                rw [HV.out] at this
                rw [List.map_append]
                exact this
              case measure => simp [intOf]; omega
    · obtain rfl : k = n := by omega
      go_wp2
      go_ret2
      obtain ⟨d1, d2, d3, d4, d5, d6⟩ := HD.out
      rw [List.drop_of_length_le (by rw [HS.out.1]; exact Nat.le_refl _)] at d4
      have d4 : l = G := d4
      subst d4
      subst d1
      exact ⟨B, cb, by rw [d2]; rfl, TSrc.of_own d6, d5⟩
end Go.Proofs.YtjdfdgmfkpdfbaaDoor
