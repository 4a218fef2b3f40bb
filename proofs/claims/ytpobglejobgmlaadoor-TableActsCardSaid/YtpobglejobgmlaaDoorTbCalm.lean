/- Package table: Calm, List. -/
import Derived.Test.YtpobglejobgmlaaDoorTbSt
import Derived.Test.YtpobglejobgmlaaDoorRow1
import Derived.Test.YtpobglejobgmlaaDoorTbRefSay
namespace Go.Proofs.YtpobglejobgmlaaDoor
open Go Go.RowKit
set_option maxRecDepth 100000
set_option maxHeartbeats 4000000

/-- Whether all is calm. -/
def CalmT (f : Nat → Nat → Qs) : Prop := ∀ s, s < 2 → ∀ o, o < 256 → calmQ (f s o) = true
def calmT (f : Nat → Nat → Qs) : Bool := (List.range 2).all fun s => (List.range 256).all fun o => calmQ (f s o)
theorem calmT_iff {f : Nat → Nat → Qs} : calmT f = true ↔ CalmT f := by simp [calmT, CalmT]
theorem calm_kind (q : Qs) : (decide ((q.kind : Int) = 0 ∧ q.opp = false) || decide ((q.kind : Int) = 1 ∧ q.opp = false)) = calmQ q := by cases q <;> rfl

theorem tcalm_any {W : World} {p : Nat} {ag : Nat → Nat → Bool} {t : Tb} (h : TbAt W p ag t) : Calls Tryd.prog 14 #[.pointer (some ⟨p, 0, none⟩)] W fun e w' =>
    e = .returned (.bool (calmT t.st)) ∧ Only (fun _ => False) W w' := by
  have HT := Lib.hid h
  clear h
  obtain ⟨b, hb⟩ : ∃ b, b = calmT t.st := ⟨_, rfl⟩
  have Hb := Lib.hid hb
  rw [← hb]
  clear hb
  go_enter Tryd.func14, Tryd.ntmps14
  go_wp2
  go_loopw [5] (fun i w => ∃ k : Nat, k ≤ 2 ∧ i = .int .i64 (k : Int) ∧ Hid (Only (fun _ => False) W w ∧ ∀ s, s < k → ∀ o, o < 256 → calmQ (t.st s o) = true)) (fun i _ => 2 - (intOf i).toNat)
  case atStart => exact ⟨0, by omega, rfl, Only.refl _ _, fun s hs => absurd hs (by omega)⟩
  case round =>
    obtain ⟨k, hk, rfl, hrel⟩ := hrel
    by_cases hlt : k < 2
    · have hk2 : (k : Int) < 2 := by omega
      go_wp2
      obtain ⟨W1, hW1⟩ : ∃ W1, W1 = wr := ⟨_, rfl⟩
      subst hW1
      have HR := hrel
      clear hrel
      go_loopw [8] (fun i w => ∃ j : Nat, j ≤ 256 ∧ i = .int .i64 (j : Int) ∧ Hid (Only (fun _ => False) W w ∧ (∀ s, s < k → ∀ o, o < 256 → calmQ (t.st s o) = true) ∧ ∀ o, o < j → calmQ (t.st k o) = true)) (fun i _ => 256 - (intOf i).toNat)
      case atStart => exact ⟨0, by omega, rfl, HR.out.1, HR.out.2, fun o ho => absurd ho (by omega)⟩
      case round =>
        clear HR
        obtain ⟨j, hj, rfl, hrel⟩ := hrel
        by_cases hjn : j < 256
        · have hj2 : (j : Int) < 256 := by omega
          obtain ⟨cs, hB, hC⟩ := HT.out.same hrel.out.1
          have hr := st_range hB hC hlt hjn rfl
          obtain ⟨q, hq⟩ : ∃ q, q = t.st k j := ⟨_, rfl⟩
          rw [← hq] at hr
          have HRg := Lib.hid hr
          have HQ := Lib.hid hq
          have HCm : Hid (∀ w, Calls Tryd.prog 41 #[.agg #[.int .i64 (q.kind : Int), .bool q.opp]] w fun e w' => e = .returned (.bool (calmQ q)) ∧ Only (fun _ => False) w w') := fun w => by
            have := calm_any w (q.kind : Int) q.opp
            rwa [calm_kind] at this
          clear hB hC hr hq
          cases hcq : calmQ q
          · have HF := Lib.hid (Hb.out.trans (Bool.eq_false_iff.2 (fun hA => by have := calmT_iff.1 hA k hlt j hjn; rw [← HQ.out, hcq] at this; cases this)))
            rw [hcq] at HCm
            clear hcq
            go_wp2_with (first
              | ((with_reducible show wpList _ _ _ (⟨some 18, _, _, _, _, _⟩ :: _) _ _); refine wpList_load_mid rfl 53 _ rfl p (k * 512 + j * 2) rfl (qsC q) _ HRg.out Tryd.underlying53 rfl size_state ?_)
              | (go_at_call 41; refine (HCm.out _).mono ?_; rintro e w5 ⟨rfl, ho⟩; have ho5 := Lib.hid (hrel.out.1.trans ho (fun _ h => h.elim)); clear ho)
              | fail)
            go_ret
            exact ⟨by rw [HF.out]; rfl, ho5.out⟩
          · have HCQ := Lib.hid hcq
            rw [hcq] at HCm
            clear hcq
            go_wp2_with (first
              | ((with_reducible show wpList _ _ _ (⟨some 18, _, _, _, _, _⟩ :: _) _ _); refine wpList_load_mid rfl 53 _ rfl p (k * 512 + j * 2) rfl (qsC q) _ HRg.out Tryd.underlying53 rfl size_state ?_)
              | (go_at_call 41; refine (HCm.out _).mono ?_; rintro e w5 ⟨rfl, ho⟩; have ho5 := Lib.hid (hrel.out.1.trans ho (fun _ h => h.elim)); clear ho)
              | fail)
            go_roundw
            case rel =>
              refine ⟨j + 1, by omega, by go_num, ho5.out, hrel.out.2.1, fun o ho => ?_⟩
              rcases Nat.lt_or_ge o j with h1 | h1
              · exact hrel.out.2.2 o h1
              · obtain rfl : o = j := by omega
                rw [← HQ.out]; exact HCQ.out
            case measure => simp [intOf]; omega
        · obtain rfl : j = 256 := by omega
          go_wp2
          go_roundw
          case rel =>
            refine ⟨k + 1, by omega, by go_num, hrel.out.1, fun s hs => ?_⟩
            rcases Nat.lt_or_ge s k with h1 | h1
            · exact hrel.out.2.1 s h1
            · obtain rfl : s = k := by omega
              exact hrel.out.2.2
          case measure => simp [intOf]; omega
    · obtain rfl : k = 2 := by omega
      have HF := Lib.hid (Hb.out.trans (calmT_iff.2 hrel.out.2))
      go_wp2
      go_ret
      exact ⟨by rw [HF.out]; rfl, hrel.out.1⟩

/-- A row of ints that a call laid. -/
def onL (t : Tb) (s : Int) (n : Nat) : List Int := ((List.range n).filter fun (o : Nat) => decide (t.get s (o : Int) = .yes)).map fun (o : Nat) => (o : Int)
theorem onL_succ (t : Tb) (s : Int) (n : Nat) : onL t s (n + 1) = onL t s n ++ (if t.get s (n : Int) = .yes then [(n : Int)] else []) := by
  unfold onL
  rw [List.range_succ, List.filter_append, List.map_append]
  congr 1
  by_cases h : t.get s (n : Int) = .yes <;> simp [h]
def iv (z : Int) : Value := .int .i64 z
theorem tlist_any {W : World} {p : Nat} {ag : Nat → Nat → Bool} {t : Tb} (h : TbAt W p ag t) (s : Int) : Calls Tryd.prog 20 #[.pointer (some ⟨p, 0, none⟩), .int .i64 s] W fun e w' =>
    ∃ A n c, e = .returned (.slice A n c) ∧ n = (onL t s 256).length ∧ w'.ownsRow W.heap.size 3 1 (.slice A n c) n ((onL t s 256).map iv) ∧ Only (fun _ => False) W w' := by
  have HT := Lib.hid h
  clear h
  go_enter Tryd.func20, Tryd.ntmps20
  go_wp2
  go_loopw [5, 7] (fun v i w => ∃ (j : Nat) (A : Option Addr) (n c : Nat), j ≤ 256 ∧ n ≤ j ∧ v = .slice A n c ∧ i = .int .i64 (j : Int) ∧ Hid (n = (onL t s j).length ∧ Only (fun _ => False) W w ∧ w.ownsRow W.heap.size 3 1 (.slice A n c) n ((onL t s j).map iv))) (fun _ i _ => 256 - (intOf i).toNat)
  case atStart => exact ⟨0, none, 0, 0, by omega, by omega, rfl, rfl, rfl, Only.refl _ _, own_nil _ _ _ _⟩
  case round =>
    obtain ⟨j, A, n, c, hj, hnj, rfl, rfl, hrel⟩ := hrel
    by_cases hjn : j < 256
    · have hj2 : (j : Int) < 256 := by omega
      have HOn : Hid (Calls Tryd.prog 18 #[.pointer (some ⟨p, 0, none⟩), .int .i64 s, .int .i64 (j : Int)] wr fun e w' => e = .returned (.bool (decide (t.get s (j : Int) = .yes))) ∧ Only (fun _ => False) wr w') := ton_any (HT.out.same hrel.out.2.1) s (j : Int)
      have HS := Lib.hid (onL_succ t s j)
      by_cases hon : t.get s (j : Int) = .yes
      · rw [decide_eq_true hon] at HOn
        rw [if_pos hon] at HS
        obtain ⟨vs, hvs⟩ : ∃ vs, vs = (onL t s j).map iv := ⟨_, rfl⟩
        have HV := Lib.hid hvs
        clear hon hvs
        go_wp2_with (first
          | (go_at_call 18; refine HOn.out.mono ?_; rintro e w5 ⟨rfl, ho5⟩; have HO5 := Lib.hid (hrel.out.2.1.trans ho5 (fun _ h => h.elim)); have HR5 := Lib.hid (own_same hrel.out.2.2 ho5); rw [← HV.out] at HR5; clear ho5)
          | (at_builtin; refine step_one rfl _ _ 22 rfl 3 _ 8 Tryd.underlying22 info_int rfl (by omega) W.heap.size A n c vs rfl (own_same HR5.out ((Only.refl _ _).alloc _)) w5.heap.size _ rfl ((Blk.new w5 3 [.int .i64 (j : Int)]).cell 0) rfl (by omega) (by have := HO5.out.size; simp; omega) ?_; intro A' c' w6 hR6 hG6 hN6)
          | fail)
        go_roundw
        case rel =>
          refine ⟨j + 1, A', n + 1, c', by omega, by omega, rfl, by go_num, ?_, ?_, ?_⟩
          · rw [HS.out, List.length_append, ← hrel.out.1]; rfl
          · exact (HO5.out.alloc _).grown hG6.out (fun k hk => .inr (own_lt HR5.out k hk).1)
          · rw [HS.out, List.map_append, ← HV.out]; exact hR6.out
        case measure => simp [intOf]; omega
      · rw [decide_eq_false hon] at HOn
        rw [if_neg hon, List.append_nil] at HS
        clear hon
        go_wp2_with (first
          | (go_at_call 18; refine HOn.out.mono ?_; rintro e w5 ⟨rfl, ho5⟩; have HO5 := Lib.hid (hrel.out.2.1.trans ho5 (fun _ h => h.elim)); have HR5 := Lib.hid (own_same hrel.out.2.2 ho5); clear ho5)
          | fail)
        go_roundw
        case rel => exact ⟨j + 1, A, n, c, by omega, by omega, rfl, by go_num, by rw [HS.out]; exact hrel.out.1, HO5.out, by rw [HS.out]; exact HR5.out⟩
        case measure => simp [intOf]; omega
    · obtain rfl : j = 256 := by omega
      go_wp2
      go_ret
      exact ⟨A, n, c, rfl, hrel.out.1, hrel.out.2.2, hrel.out.2.1⟩
end Go.Proofs.YtpobglejobgmlaaDoor
