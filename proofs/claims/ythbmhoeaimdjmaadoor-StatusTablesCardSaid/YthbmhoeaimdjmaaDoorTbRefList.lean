/- Layer 11's document, walked: Has, List. -/
import Derived.Test.YthbmhoeaimdjmaaDoorTbRefSet
import Derived.Test.YthbmhoeaimdjmaaDoorTbList
namespace Go.Proofs.YthbmhoeaimdjmaaDoor
open Go Go.RowKit
set_option maxRecDepth 100000
set_option maxHeartbeats 4000000

theorem has_any {w : World} {A : Option Addr} {n : Nat} (c : Nat) {zs : List Int} (h : Ints w A n zs) (hn : n ≤ 1000) (x : Int) : Calls Tryd.prog 41 #[.slice A n c, .int .i64 x] w fun e w' => e = .returned (.bool (zs.contains x)) ∧ Only (fun _ => False) w w' := by
  have H := Lib.hid h
  obtain ⟨b, hb⟩ : ∃ b, b = zs.contains x := ⟨_, rfl⟩
  have HB := Lib.hid hb
  rw [← hb]
  clear h hb
  go_enter Tryd.func41, Tryd.ntmps41
  go_wp2
  go_loopw [9] (fun i W => ∃ k : Nat, k ≤ n ∧ i = .int .i64 (k : Int) ∧ Hid (Only (fun _ => False) w W ∧ (zs.take k).contains x = false)) (fun i _ => n - (intOf i).toNat)
  case atStart => exact ⟨0, Nat.zero_le _, rfl, Only.refl _ _, rfl⟩
  case round =>
    obtain ⟨k, hk, rfl, hrel⟩ := hrel
    by_cases hlt : k < n
    · have hlt2 : (k : Int) < (n : Int) := by omega
      obtain ⟨z, hz⟩ : ∃ z, zs[k]? = some z := ⟨_, List.getElem?_eq_getElem (by rw [H.out.1]; exact hlt)⟩
      obtain ⟨ad, rfl, hcell⟩ := (H.out.only hrel.out.1 (fun _ _ _ h => h)).2 (by omega)
      have c0 := hcell k z hz
      have ht := contains_take zs k z hz x
      rw [hrel.out.2, Bool.false_or] at ht
      have HTk := Lib.hid ht
      have HZ := Lib.hid hz
      clear hcell hz ht
      obtain ⟨p1, hp1⟩ : ∃ p1, decide (z = x) = p1 := ⟨_, rfl⟩
      have hq1 : (z == x) = p1 := by rw [← hp1]; rfl
      cases p1
      · have HP := Lib.hid hp1
        go_wp2
        go_roundw
        case rel => exact ⟨k + 1, by omega, by go_num, hrel.out.1, by rw [HTk.out]; have := HP.out; simp at this ⊢; exact fun e => this e.symm⟩
        case measure => simp [intOf]; omega
      · have hz2 : z = x := by simpa using hp1
        have HF : Hid (b = true) := by
          show b = true
          rw [HB.out, List.contains_iff_mem, ← hz2]
          exact List.mem_of_getElem? HZ.out
        clear hz2
        go_wp2
        go_ret
        exact ⟨by rw [HF.out]; rfl, hrel.out.1⟩
    · obtain rfl : k = n := by omega
      have HF : Hid (b = false) := by
        have := hrel.out.2
        rw [List.take_of_length_le (Nat.le_of_eq H.out.1)] at this
        exact HB.out.trans this
      clear hlt
      go_wp2
      go_ret
      exact ⟨by rw [HF.out]; rfl, hrel.out.1⟩

theorem rlist_any {w : World} {B r : Nat} {P : Po} {l : List Rq} {T : Tb} (h : RfAt w B r P l T) (hr : RowsAre l T.st) (s : Int) : Calls Tryd.prog 51 #[.pointer (some ⟨r, 0, none⟩), .int .i64 s] w fun e w' =>
    ∃ A n c, e = .returned (.slice A n c) ∧ n = (onL T s 256).length ∧ w'.ownsRow w.heap.size 3 1 (.slice A n c) n ((onL T s 256).map iv) ∧ Only (fun _ => False) w w' := by
  have HT := Lib.hid h
  have HR := Lib.hid hr
  clear h hr
  have HRow0 : Hid ((w.alloc (.cells #[] 3)).ownsRow w.heap.size 3 1 (.slice (some ⟨w.heap.size, 0, none⟩) (0 : Nat) 0) 0 []) := own_of_blk (cur := []) (Blk.new w _ []) rfl rfl (Nat.le_refl _) (by omega) (Nat.le_refl _)
  go_enter Tryd.func51, Tryd.ntmps51
  go_wp2
  go_loopw [5, 6] (fun v i W => ∃ (j : Nat) (A : Option Addr) (n c : Nat), j ≤ 256 ∧ n ≤ j ∧ v = .slice A n c ∧ i = .int .i64 (j : Int) ∧ Hid (n = (onL T s j).length ∧ Only (fun _ => False) w W ∧ W.ownsRow w.heap.size 3 1 (.slice A n c) n ((onL T s j).map iv))) (fun _ i _ => 256 - (intOf i).toNat)
  case atStart => exact ⟨0, _, 0, 0, by omega, by omega, rfl, rfl, rfl, alloc_only _, HRow0.out⟩
  case round =>
    clear HRow0
    obtain ⟨j, A, n, c, hj, hnj, rfl, rfl, hrel⟩ := hrel
    by_cases hjn : j < 256
    · have hj2 : (j : Int) < 256 := by omega
      obtain ⟨k, hk⟩ : ∃ x, x = ((lookR l s (j : Int)).kind : Int) := ⟨_, rfl⟩
      obtain ⟨o, ho⟩ : ∃ x, x = (lookR l s (j : Int)).opp := ⟨_, rfl⟩
      have HSt : Hid (Calls Tryd.prog 42 #[.pointer (some ⟨r, 0, none⟩), .int .i64 s, .int .i64 (j : Int)] wr fun e w' => e = .returned (.agg #[.int .i64 k, .bool o]) ∧ Only (fun _ => False) wr w') := by rw [hk, ho]; exact rstate_any (HT.out.same hrel.out.2.1) s (j : Int)
      have HS := Lib.hid (onL_succ T s j)
      have hk1 : decide (k = 1) = decide (T.get s (j : Int) = .yes) := by rw [hk, kind_one, HR.out.get]
      have hfd : ∀ W, (Instr.field 103 (.agg #[.int .i64 k, .bool o]) 0).run Tryd.prog W = .ok (.int .i64 k) W := fun W => by kernel_rfl
      clear hk ho
      by_cases hon : T.get s (j : Int) = .yes
      · rw [decide_eq_true hon] at hk1
        have hk2 : (k == 1) = true := hk1
        rw [if_pos hon] at HS
        obtain ⟨vs, hvs⟩ : ∃ vs, vs = (onL T s j).map iv := ⟨_, rfl⟩
        have HV := Lib.hid hvs
        clear hon hvs
        go_wp2_with (first
          | (go_at_call 42; refine HSt.out.mono ?_; rintro e w5 ⟨rfl, ho5⟩; have HO5 := Lib.hid (hrel.out.2.1.trans ho5 (fun _ h => h.elim)); have HR5 := Lib.hid (own_same hrel.out.2.2 ho5); rw [← HV.out] at HR5; clear ho5)
          | (at_builtin; refine step_one rfl _ _ 43 rfl 3 _ 8 Tryd.underlying43 info_int rfl (by omega) w.heap.size A n c vs rfl (own_same HR5.out ((Only.refl _ _).alloc _)) w5.heap.size _ rfl ((Blk.new w5 3 [.int .i64 (j : Int)]).cell 0) rfl (by omega) (by have := HO5.out.size; simp; omega) ?_; intro A' c' w6 hR6 hG6 hN6)
          | fail)
        go_roundw
        case rel =>
          refine ⟨j + 1, A', n + 1, c', by omega, by omega, rfl, by go_num, ?_, ?_, ?_⟩
          · rw [HS.out, List.length_append, ← hrel.out.1]; rfl
          · exact (HO5.out.alloc _).grown hG6.out (fun k hk => .inr (own_lt HR5.out k hk).1)
          · rw [HS.out, List.map_append, ← HV.out]; exact hR6.out
        case measure => simp [intOf]; omega
      · rw [decide_eq_false hon] at hk1
        have hk2 : (k == 1) = false := hk1
        rw [if_neg hon, List.append_nil] at HS
        clear hon
        go_wp2_with (first
          | (go_at_call 42; refine HSt.out.mono ?_; rintro e w5 ⟨rfl, ho5⟩; have HO5 := Lib.hid (hrel.out.2.1.trans ho5 (fun _ h => h.elim)); have HR5 := Lib.hid (own_same hrel.out.2.2 ho5); clear ho5)
          | fail)
        go_roundw
        case rel => exact ⟨j + 1, A, n, c, by omega, by omega, rfl, by go_num, by rw [HS.out]; exact hrel.out.1, HO5.out, by rw [HS.out]; exact HR5.out⟩
        case measure => simp [intOf]; omega
    · obtain rfl : j = 256 := by omega
      go_wp2
      go_ret
      exact ⟨A, n, c, rfl, hrel.out.1, hrel.out.2.2, hrel.out.2.1⟩
end Go.Proofs.YthbmhoeaimdjmaaDoor
