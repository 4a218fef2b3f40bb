/- TableApart, walked. -/
import Derived.Test.YtpobglejobgmlaaDoorTbOne
import Derived.BigQuiet
namespace Go.Proofs.YtpobglejobgmlaaDoor
open Go Go.RowKit
set_option maxRecDepth 100000
set_option maxHeartbeats 4000000

/-- Two tables, one of which heard of one option alone. -/
structure Apart (W w : World) (p q : Nat) (ag : Nat → Nat → Bool) (opt : Int) (j : Nat) (T U : Tb) : Prop where
  t : TbAt w p ag T
  u : TbAt w q ag U
  same : ∀ s : Int, T.get s opt = U.get s opt
  tsent : T.sent ≤ T.heard + T.asked
  usent : U.sent ≤ U.heard + U.asked
  tn : T.heard + T.asked ≤ j
  un : U.heard + U.asked ≤ j
  only : Only (fun _ => False) W w
section
variable {W w w' : World} {p q : Nat} {ag : Nat → Nat → Bool} {opt : Int} {j : Nat} {T U : Tb}
theorem Apart.same_ (h : Apart W w p q ag opt j T U) (ho : Only (fun _ => False) w w') : Apart W w' p q ag opt j T U :=
  ⟨h.t.same ho, h.u.same ho, h.same, h.tsent, h.usent, h.tn, h.un, h.only.trans ho (fun _ h => h.elim)⟩
end

theorem apart_ok {W : World} (hT : TbW W) {P : Po} (hP : P.At W) {A : Option Addr} {n c : Nat} {l : List Ac} (hA : AcAt W A n l) (opt : Int) (h0 : n ≤ 60) (h1 : P.n1 ≤ 40) (h2 : P.n2 ≤ 40) :
    Calls Tryd.prog 4 #[P.val, .slice A n c, .int .i64 opt] W (Fine W) := by
  obtain ⟨a1, n1, c1, a2, n2, c2, us, hims⟩ := P
  simp only [Po.val, Po.At] at hP h1 h2 ⊢
  have d0 : decide ((60 : Int) < (n : Int)) = false := by simp; omega
  have d1 : decide ((40 : Int) < (n1 : Int)) = false := by simp; omega
  have d2 : decide ((40 : Int) < (n2 : Int)) = false := by simp; omega
  have HT := Lib.hid hT
  have HA := Lib.hid hA
  have HP := Lib.hid hP
  have HNew : Hid (∀ w, Only (fun _ => False) W w → Calls Tryd.prog 7 #[.agg #[.slice a1 n1 c1, .slice a2 n2 c2]] w fun e w' => ∃ p, e = .returned (.pointer (some ⟨p, 0, none⟩)) ∧ TbAt w' p (agOf us hims) Tb.zero ∧ w.heap.size ≤ p ∧ Only (fun _ => False) w w') := fun w ho =>
    new_any c1 c2 (HP.out.1.same ho) (HP.out.2.same ho) (by omega) (by omega)
  obtain ⟨ag, hag⟩ : ∃ ag, ag = agOf us hims := ⟨_, rfl⟩
  rw [← hag] at HNew
  have hn60 := h0
  clear hT hA hP hag h0 h1 h2
  go_enter Tryd.func4, Tryd.ntmps4
  go_wp2_with (first
    | (go_at_call 6; refine (alive_any (HT.out.only (alloc_only _))).mono ?_; rintro e w1 ⟨rfl, ho1⟩; have HB1 := Lib.hid ((Blk.new W 24 [.slice a1 n1 c1, .slice a2 n2 c2]).only ho1 (fun h => h)); have HO1 := Lib.hid ((alloc_only (W := W) _).trans ho1 (fun _ h => h.elim)); have g0 := HB1.out.cell 0; have g1 := HB1.out.cell 1; simp only [List.getElem?_cons_zero, List.getElem?_cons_succ] at g0 g1; clear ho1)
    | fail)
  obtain ⟨N, hN⟩ : ∃ N, N = W.heap.size := ⟨_, rfl⟩
  rw [← hN] at HB1 g0 g1 ⊢
  have HS : Hid (∀ w, Only (fun _ => False) w1 w → w.cell? ⟨N, 0, none⟩ = some (.slice a1 n1 c1) ∧ w.cell? ⟨N, 1, none⟩ = some (.slice a2 n2 c2)) := fun w ho => ⟨(HB1.out.only ho (fun h => h)).cell 0, (HB1.out.only ho (fun h => h)).cell 1⟩
  have HNW : Hid (W.heap.size = N) := hN.symm
  clear g0 g1 hN
  go_region_held3 (fun w => w.cell? ⟨N, 0, none⟩ = some (.slice a1 n1 c1) ∧ w.cell? ⟨N, 1, none⟩ = some (.slice a2 n2 c2))
    (first | exact HS.out _ (Only.refl _ _).drew | exact HS.out _ ho2.out | exact HS.out _ ho3.out)
    (first
      | ((with_reducible show Calls _ _ _ (World.drew w1) _); refine (HNew.out _ HO1.out.drew).mono ?_; rintro e w2 ⟨p, rfl, ht2, hp2, ho⟩; have ho2 := Lib.hid (((Only.refl (fun _ => False) w1).drew).trans ho (fun _ h => h.elim)); have HT2 := Lib.hid ht2; clear ht2 ho)
      | ((with_reducible show Calls _ _ _ w2 _); refine (HNew.out _ (HO1.out.trans ho2.out (fun _ h => h.elim))).mono ?_; rintro e w3 ⟨q, rfl, ht3, hq3, ho⟩; have ho3 := Lib.hid (ho2.out.trans ho (fun _ h => h.elim)); have HT3 := Lib.hid ht3; have HT2' := Lib.hid (HT2.out.same ho); have hpq := HT2.out.lt; clear ho ht3))
  have HRel0 : Hid (∃ T U, Apart W w3 p q ag opt 0 T U) := ⟨_, _, HT2'.out, HT3.out, fun _ => rfl, Nat.le_refl _, Nat.le_refl _, Nat.le_refl _, Nat.le_refl _, HO1.out.trans ho3.out (fun _ h => h.elim)⟩
  have hpW : N ≤ p := by have := HO1.out.size; have := HNW.out; have h3 : w1.heap.size ≤ p := hp2; omega
  have hqW : N ≤ q := by have := HO1.out.trans ho2.out (fun _ h => h.elim); have := this.size; have := HNW.out; omega
  have hne : p ≠ q := by omega
  clear HT2 HT2' HT3 ho2 ho3 hp2 hq3 hpq HS HNew HB1
  obtain ⟨wA, hwA⟩ : ∃ wA, wA = w3 := ⟨_, rfl⟩
  rw [← hwA] at HRel0 ⊢
  clear hwA
  go_wp2
  go_loopw [43] (fun i w => ∃ j : Nat, j ≤ n ∧ i = .int .i64 (j : Int) ∧ Hid (∃ T U, Apart W w p q ag opt j T U)) (fun i _ => n - (intOf i).toNat)
  case atStart => exact ⟨0, by omega, rfl, HRel0.out⟩
  case round =>
    clear HRel0
    obtain ⟨j, hj, rfl, hrel⟩ := hrel
    by_cases hjn : j < n
    · obtain ⟨x, hx⟩ : ∃ x, l[j]? = some x := ⟨_, List.getElem?_eq_getElem (by rw [HA.out.1]; exact hjn)⟩
      obtain ⟨T, U, hR⟩ := hrel.out
      obtain ⟨b, off, rfl, hb, hrange, _⟩ := (HA.out.same hR.only).2 j x hx
      have HR := Lib.hid hR
      have hjn2 : (j : Int) < (n : Int) := by omega
      clear hrel hx hR
      obtain ⟨k, c0, o⟩ := x
      have hrg : wr.rangeAt b (off + j * 3) [.int .i64 k, .int .i64 c0, .int .i64 o] := hrange
      have HRg := Lib.hid hrg
      clear hrange hrg
      have hb1 := HR.out.tsent
      have hb2 := HR.out.tn
      have hb3 := HR.out.usent
      have hb4 := HR.out.un
      have HOne : Hid (∀ w r V, Only (fun _ => False) W w → TbAt w r ag V → V.sent ≤ V.heard + V.asked → V.heard + V.asked ≤ j → Calls Tryd.prog 22 #[.pointer (some ⟨r, 0, none⟩), .agg #[.int .i64 k, .int .i64 c0, .int .i64 o]] w fun e w' => e = .returned (.tuple #[]) ∧ TbAt w' r ag (V.step ag ⟨k, c0, o⟩) ∧ Only (· = r) w w') := fun w r V ho hv h1 h2 =>
        one_any (HT.out.only ho) hv ⟨k, c0, o⟩ (by omega) (by omega) (by omega)
      have hsz : p < wr.heap.size := HR.out.t.lt
      have hsz2 : q < wr.heap.size := HR.out.u.lt
      have HCt := Lib.hid (T.step_counts ag ⟨k, c0, o⟩ HR.out.tsent)
      have HCu := Lib.hid (U.step_counts ag ⟨k, c0, o⟩ HR.out.usent)
      obtain ⟨M, hM⟩ : ∃ M, M = wr.heap.size := ⟨_, rfl⟩
      have HM := Lib.hid hM
      clear hb1 hb2 hb3 hb4 hb
      by_cases hoo : o = opt
      focus
        have hoo' := hoo.symm
        clear hoo
        subst hoo'
        go_wp2_with (first
          | ((with_reducible show wpList _ _ _ (⟨some 46, _, _, _, _, _⟩ :: _) _ _); refine wpList_load_mid rfl 34 _ rfl b (off + j * 3) rfl [.int .i64 k, .int .i64 c0, .int .i64 opt] _ HRg.out Tryd.underlying34 rfl (by kernel_rfl) ?_)
          | ((with_reducible show Calls _ _ #[.pointer (some ⟨p, 0, none⟩), _] _ _); refine (HOne.out _ p T (HR.out.only.alloc _) (HR.out.t.same (alloc_only _)) HR.out.tsent HR.out.tn).mono ?_; rintro e w4 ⟨rfl, ht4, ho4⟩; have HB4 := Lib.hid ((Blk.new wr 34 [.int .i64 k, .int .i64 c0, .int .i64 opt]).only ho4 (by omega)); have x0 := HB4.out.cell 0; have x1 := HB4.out.cell 1; have x2 := HB4.out.cell 2; simp only [List.getElem?_cons_zero, List.getElem?_cons_succ] at x0 x1 x2; have HO4 := Lib.hid ((HR.out.only.alloc (.cells #[.int .i64 k, .int .i64 c0, .int .i64 opt] 34)).trans ho4 (fun i hi => .inr (by have := HNW.out; omega))); have HT4 := Lib.hid ht4; have HU4 := Lib.hid ((HR.out.u.same (alloc_only _)).only ho4 (fun e => hne e.symm)); clear ht4 ho4)
          | ((with_reducible show Calls _ _ #[.pointer (some ⟨q, 0, none⟩), _] _ _); refine (HOne.out _ q U HO4.out HU4.out HR.out.usent HR.out.un).mono ?_; rintro e w5 ⟨rfl, hu5, ho5⟩; have HR5 : Hid (∃ T U, Apart W w5 p q ag opt (j + 1) T U) := ⟨_, _, HT4.out.only ho5 hne, hu5, T.step_same ag U ⟨k, c0, opt⟩ HR.out.same, HCt.out.1, HCu.out.1, by have := HR.out.tn; have := HCt.out.2; omega, by have := HR.out.un; have := HCu.out.2; omega, HO4.out.trans ho5 (fun i hi => .inr (by have := HNW.out; omega))⟩; clear hu5 ho5 x0 x1 x2)
          | fail)
      rotate_left
      focus
        have e0 : (o == opt) = false := by simpa using hoo
        have e1 : decide (o = opt) = false := by simpa using hoo
        have HOO := Lib.hid hoo
        clear hoo
        go_wp2_with (first
          | ((with_reducible show wpList _ _ _ (⟨some 46, _, _, _, _, _⟩ :: _) _ _); refine wpList_load_mid rfl 34 _ rfl b (off + j * 3) rfl [.int .i64 k, .int .i64 c0, .int .i64 o] _ HRg.out Tryd.underlying34 rfl (by kernel_rfl) ?_)
          | ((with_reducible show Calls _ _ #[.pointer (some ⟨p, 0, none⟩), _] _ _); refine (HOne.out _ p T (HR.out.only.alloc _) (HR.out.t.same (alloc_only _)) HR.out.tsent HR.out.tn).mono ?_; rintro e w5 ⟨rfl, ht4, ho4⟩; have HB4 := Lib.hid ((Blk.new wr 34 [.int .i64 k, .int .i64 c0, .int .i64 o]).only ho4 (by omega)); have x0 := HB4.out.cell 0; have x1 := HB4.out.cell 1; have x2 := HB4.out.cell 2; simp only [List.getElem?_cons_zero, List.getElem?_cons_succ] at x0 x1 x2; have HR5 : Hid (∃ T U, Apart W w5 p q ag opt (j + 1) T U) := ⟨_, _, ht4, (HR.out.u.same (alloc_only _)).only ho4 (fun e => hne e.symm), fun s => (T.step_get ag ⟨k, c0, o⟩ s opt HOO.out).trans (HR.out.same s), HCt.out.1, HR.out.usent, by have := HR.out.tn; have := HCt.out.2; omega, by have := HR.out.un; omega, (HR.out.only.alloc (.cells #[.int .i64 k, .int .i64 c0, .int .i64 o] 34)).trans ho4 (fun i hi => .inr (by have := HNW.out; omega))⟩; clear ht4 ho4)
          | fail)
        clear x0 x1 x2 e0 e1
      all_goals
        obtain ⟨T', U', hR5⟩ := HR5.out
        have HCn := Lib.hid (counts_any hR5.t)
        have hle := hR5.tsent
        have htn := hR5.tn
        obtain ⟨th, hth⟩ : ∃ x, x = T'.heard := ⟨_, rfl⟩
        obtain ⟨ta, hta⟩ : ∃ x, x = T'.asked := ⟨_, rfl⟩
        obtain ⟨ts, hts⟩ : ∃ x, x = T'.sent := ⟨_, rfl⟩
        rw [← hth, ← hta] at HCn hle htn
        rw [← hts] at HCn hle
        have dd : decide ((th : Int) + (ta : Int) < (ts : Int)) = false := by simp; omega
        obtain ⟨k0, hk0⟩ : ∃ x, x = ((T'.get 0 opt).kind : Int) := ⟨_, rfl⟩
        obtain ⟨o0, ho0⟩ : ∃ x, x = (T'.get 0 opt).opp := ⟨_, rfl⟩
        obtain ⟨k1, hk1⟩ : ∃ x, x = ((T'.get 1 opt).kind : Int) := ⟨_, rfl⟩
        obtain ⟨o1, ho1⟩ : ∃ x, x = (T'.get 1 opt).opp := ⟨_, rfl⟩
        have S1 : ∀ w, Only (fun _ => False) w5 w → Calls Tryd.prog 16 #[.pointer (some ⟨p, 0, none⟩), .int .i64 0, .int .i64 opt] w fun e w' => e = .returned (.agg #[.int .i64 k0, .bool o0]) ∧ Only (fun _ => False) w w' := fun w ho => by
          rw [hk0, ho0]; exact state_any (hR5.t.same ho) 0 opt
        have S2 : ∀ w, Only (fun _ => False) w5 w → Calls Tryd.prog 16 #[.pointer (some ⟨q, 0, none⟩), .int .i64 0, .int .i64 opt] w fun e w' => e = .returned (.agg #[.int .i64 k0, .bool o0]) ∧ Only (fun _ => False) w w' := fun w ho => by
          rw [hk0, ho0, hR5.same 0]; exact state_any (hR5.u.same ho) 0 opt
        have S3 : ∀ w, Only (fun _ => False) w5 w → Calls Tryd.prog 16 #[.pointer (some ⟨p, 0, none⟩), .int .i64 1, .int .i64 opt] w fun e w' => e = .returned (.agg #[.int .i64 k1, .bool o1]) ∧ Only (fun _ => False) w w' := fun w ho => by
          rw [hk1, ho1]; exact state_any (hR5.t.same ho) 1 opt
        have S4 : ∀ w, Only (fun _ => False) w5 w → Calls Tryd.prog 16 #[.pointer (some ⟨q, 0, none⟩), .int .i64 1, .int .i64 opt] w fun e w' => e = .returned (.agg #[.int .i64 k1, .bool o1]) ∧ Only (fun _ => False) w w' := fun w ho => by
          rw [hk1, ho1, hR5.same 1]; exact state_any (hR5.u.same ho) 1 opt
        have S1 := Lib.hid S1
        have S2 := Lib.hid S2
        have S3 := Lib.hid S3
        have S4 := Lib.hid S4
        have heq0 : ∀ W, (Op.equalIn 10000 53 (.agg #[.int .i64 k0, .bool o0]) (.agg #[.int .i64 k0, .bool o0])).run Tryd.prog W = .ok true W := fun W => by
          have := eq_state W k0 k0 o0 o0
          rwa [decide_eq_true ⟨rfl, rfl⟩] at this
        have heq1 : ∀ W, (Op.equalIn 10000 53 (.agg #[.int .i64 k1, .bool o1]) (.agg #[.int .i64 k1, .bool o1])).run Tryd.prog W = .ok true W := fun W => by
          have := eq_state W k1 k1 o1 o1
          rwa [decide_eq_true ⟨rfl, rfl⟩] at this
        have hgr := guard_state
        have HRel : Hid (∀ w, Only (fun _ => False) w5 w → ∃ T U, Apart W w p q ag opt (j + 1) T U) := fun w ho => ⟨_, _, hR5.same_ ho⟩
        clear hk0 ho0 hk1 ho1 hR5 HR5 hth hta hts
        go_wp2_with (first
          | (go_at_call 13; refine HCn.out.mono ?_; rintro e w6 ⟨rfl, ho6⟩)
          | ((with_reducible show Calls _ _ #[.pointer (some ⟨p, 0, none⟩), .int .i64 0, _] _ _); refine (S1.out _ ho6).mono ?_; rintro e w7 ⟨rfl, ho⟩; have ho7 := ho6.trans ho (fun _ h => h.elim); clear ho)
          | ((with_reducible show Calls _ _ #[.pointer (some ⟨q, 0, none⟩), .int .i64 0, _] _ _); refine (S2.out _ ho7).mono ?_; rintro e w8 ⟨rfl, ho⟩; have ho8 := ho7.trans ho (fun _ h => h.elim); clear ho)
          | ((with_reducible show Calls _ _ #[.pointer (some ⟨p, 0, none⟩), .int .i64 1, _] _ _); refine (S3.out _ ho8).mono ?_; rintro e w9 ⟨rfl, ho⟩; have ho9 := ho8.trans ho (fun _ h => h.elim); clear ho)
          | ((with_reducible show Calls _ _ #[.pointer (some ⟨q, 0, none⟩), .int .i64 1, _] _ _); refine (S4.out _ ho9).mono ?_; rintro e w10 ⟨rfl, ho⟩; have ho10 := Lib.hid (ho9.trans ho (fun _ h => h.elim)); clear ho)
          | fail)
        go_roundw
        case rel => exact ⟨j + 1, by omega, by go_num, HRel.out _ ho10.out⟩
        case measure => simp [intOf]; omega
    · obtain rfl : j = n := by omega
      obtain ⟨T, U, hR⟩ := hrel.out
      have HR := Lib.hid hR
      clear hrel hR
      go_wp2
      go_ret
      exact ⟨rfl, HR.out.only⟩
end Go.Proofs.YtpobglejobgmlaaDoor
