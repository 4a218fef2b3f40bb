/- Rows of strings: two of them compared, a copy of one. -/
import Derived.Test.YtjdfdgmfkpdfbaaDoorTexts
import Derived.Test.YtjdfdgmfkpdfbaaDoorAlloc
import Derived.Lib.SliceRun
namespace Go.Proofs.YtjdfdgmfkpdfbaaDoor
open Go Go.RowKit
set_option maxRecDepth 100000
set_option maxHeartbeats 4000000

theorem sameTexts_any {w : World} {A B : Option Addr} {n m ca cb : Nat} {xs ys : List (List UInt8)} (h : TSrc w A n xs) (h' : TSrc w B m ys) (hn : n ≤ 9223372036854775807) :
    Calls Tryd.prog 11 #[.slice A n ca, .slice B m cb] w fun e w' => e = .returned (.bool (decide (xs = ys))) ∧ w' = w := by
  obtain ⟨F, hF⟩ : ∃ F, F = decide (xs = ys) := ⟨_, rfl⟩
  have HF := Lib.hid hF
  rw [← hF]
  clear hF
  have H1 := Lib.hid h
  have H2 := Lib.hid h'
  clear h h'
  by_cases hm : n = m
  · subst hm
    go_enter Tryd.func11, Tryd.ntmps11
    go_wp2
    go_loop [14] (fun i => ∃ k : Nat, k ≤ n ∧ i = .int .i64 (k : Int) ∧ Hid (xs.take k = ys.take k)) (fun i => n - (intOf i).toNat)
    case atStart => exact ⟨0, Nat.zero_le _, rfl, by simp [Hid]⟩
    case round =>
      obtain ⟨k, hk, rfl, HD⟩ := hrel
      by_cases hlt : k < n
      · obtain ⟨ad, x, rfl, hx, hc⟩ := H1.out.get hlt
        obtain ⟨bd, y, rfl, hy, hd⟩ := H2.out.get hlt
        have HX := Lib.hid hx
        have HY := Lib.hid hy
        clear hx hy
        by_cases he : x = y
        · subst he
          have hxx : (x == x) = true := by simp
          go_wp2
          go_round
          case rel => exact ⟨k + 1, by omega, by go_num, by rw [Hid, take_snoc HX.out, take_snoc HY.out, HD.out]⟩
          case measure => simp [intOf]; omega
        · have hxy : (x == y) = false := by simp [he]
          go_wp2
          go_ret
          refine ⟨?_, rfl⟩
          rw [HF.out, decide_eq_false]
          · rfl
          · intro h
            subst h
            have h1 := HX.out
            rw [HY.out] at h1
            injection h1 with h1
            exact he h1.symm
      · obtain rfl : k = n := by omega
        go_wp2
        go_ret
        refine ⟨?_, rfl⟩
        have hd := HD.out
        rw [List.take_of_length_le (by rw [H1.out.1]; exact Nat.le_refl _), List.take_of_length_le (by rw [H2.out.1]; exact Nat.le_refl _)] at hd
        rw [HF.out, decide_eq_true hd]
        rfl
  · have hd : (n == m) = false := by simp; omega
    have hd2 : (n != m) = true := by simp; omega
    go_enter Tryd.func11, Tryd.ntmps11
    go_wp2
    go_ret
    refine ⟨?_, rfl⟩
    rw [HF.out, decide_eq_false]
    · rfl
    · intro h
      subst h
      exact hm (H1.out.1.symm.trans H2.out.1)

theorem clone_texts {w : World} {A : Option Addr} {n c : Nat} {ts : List (List UInt8)} (hs : TSrc w A n ts) (hn63 : n ≤ 1048576) :
    Calls Tryd.prog 25 #[.slice A n c] w fun e w' => ∃ A' c', e = .returned (.slice A' n c') ∧ TSrc w' A' n ts ∧ n ≤ c' ∧ c' ≤ 9223372036854775807 ∧ Only (fun _ => False) w w' := by
  obtain ⟨i0, hi0, hz0, hz1, hz2⟩ := info_parts info_str
  have hl : ts.length = n := hs.1
  have qn : ∀ (w : World) (a : Option Addr) (n c n' c' : Nat), (binOp .eql 22 (.slice a n c) (.slice none n' c')).run Tryd.prog w = .ok (.bool a.isNone) w := fun w a n c n' c' => Lib.run_eql_slice_nil w _ _ a n c n' c' Tryd.underlying22
  have HO := Lib.hid (((Only.refl (fun _ => False) w).alloc (.cells #[] 9)))
  have HE := Lib.hid (own_of_blk (B := 0) (c := 0) (s := 1) (n := 0) (xs := []) (Blk.new w 9 []) rfl rfl (by omega) (by omega) (Nat.zero_le _))
  have HS := Lib.hid hs
  have HL := Lib.hid hl
  clear hs hl
  cases A with
  | none =>
    have h0 : n = 0 := by
      rcases Nat.eq_zero_or_pos n with h | h
      · exact h
      · obtain ⟨_, h, _⟩ := HS.out.2 h
        cases h
    subst h0
    go_enter Tryd.func25, Tryd.ntmps25
    go_wp2
    go_ret
    exact ⟨_, _, rfl, HS.out, Nat.le_refl _, by omega, Only.refl _ _⟩
  | some ad =>
    have HN : Hid (∀ (j : Nat) (u : Value), (ts.map S8)[j]? = some u → (w.alloc (.cells #[] 9)).cell? (ad.add j) = some u) := fun j u hj => by
      have hn : 0 < n := by
        have := (List.getElem?_eq_some_iff.1 hj).1
        rw [List.length_map, HL.out] at this
        omega
      obtain ⟨ad', e, hc⟩ := HS.out.2 hn
      injection e with e
      subst e
      rw [List.getElem?_map] at hj
      cases hx : ts[j]? with
      | none => rw [hx] at hj; cases hj
      | some s =>
        rw [hx] at hj
        injection hj with hj
        subst hj
        exact HO.out.cellv (hc j s hx) (fun h => h)
    go_enter Tryd.func25, Tryd.ntmps25
    go_wp2_with (at_builtin; refine step_append_own rfl (.tmp 5) (.tmp 6) 22 rfl 0 9 i0 _ 1 16 Tryd.underlying22 hi0 hz0 hz1 hz2 rfl (by omega) _ 0 [] rfl HE.out (some ad) n c (ts.map S8) rfl (by rw [List.length_map, HL.out]; omega) (fun hn => ⟨ad, rfl, HN.out⟩) (S8_one _) (by omega) (by omega) (Nat.zero_le _) ?_; intro A' c' w2 hl1 hl2 hq; have HQ := Lib.hid hq.out; clear hq)
    go_ret
    obtain ⟨hown, hgr, _⟩ := HQ.out
    rw [Nat.zero_add, List.nil_append] at hown
    refine ⟨A', c', rfl, TSrc.of_own hown, by omega, hl2, HO.out.grown hgr (fun q hq => .inr (by cases hq; exact Nat.le_refl _))⟩
end Go.Proofs.YtjdfdgmfkpdfbaaDoor
