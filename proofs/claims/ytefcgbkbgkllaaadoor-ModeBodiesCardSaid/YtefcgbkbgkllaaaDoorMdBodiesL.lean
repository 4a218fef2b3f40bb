/- ModeBodies, walked. -/
import Derived.Test.YtefcgbkbgkllaaaDoorMdAlive
import Derived.Test.YtefcgbkbgkllaaaDoorMdRef
import Derived.Test.YtefcgbkbgkllaaaDoorMdRefW
import Derived.Test.YtefcgbkbgkllaaaDoorNumIs
import Derived.Test.YtefcgbkbgkllaaaDoorOpenBytes
import Derived.Test.YtefcgbkbgkllaaaDoorMdFacts
namespace Go.Proofs.YtefcgbkbgkllaaaDoor
open Go Go.ChangeShapes Go.WideShapes Go.ChangeAt Go.RowKit
set_option maxRecDepth 100000
set_option maxHeartbeats 4000000

/-- What a body says, in every world that only grew. -/
theorem mdParse_all {w : World} {es : List Addr} (hes : ErrsOf w mdSel es) {A : Option Addr} {n : Nat} (cap : Nat) {b : List UInt8} (hs : Src w A n b) :
    ∃ E, ErrV es E (saysM b).2.2 ∧ ∀ W, Only (fun _ => False) w W → Calls Tryd.prog 7 #[.slice A n cap] W fun e w' => e = .returned (.tuple #[.int .i64 (saysM b).1, .bool (saysM b).2.1, E]) ∧ Only (fun _ => False) W w' := by
  obtain ⟨E, hE, _⟩ := mdParse_any hes cap hs
  refine ⟨E, hE, fun W ho => ?_⟩
  obtain ⟨E', hE', h⟩ := mdParse_any (hes.only ho) cap (hs.only ho (fun _ _ _ h => h))
  rw [hE.uniq hE']
  exact h

theorem mbodies_long {w : World} {es : List Addr} (hW : MdW w es) (A : Option Addr) (n cap : Nat) (m : Int) (h : 50 < n) : Calls Tryd.prog 3 #[.slice A n cap, .int .i64 m] w (Fine w) := by
  have HA := Lib.hid (mdAlive hW)
  have hd : decide ((50 : Int) < (n : Int)) = true := by simp; omega
  clear h hW
  go_enter Tryd.func3, Tryd.ntmps3
  go_wp2_with (go_at_call 6; refine HA.out.mono ?_; rintro e w1 ⟨rfl, ho1⟩)
  go_ret
  exact ⟨rfl, ho1⟩

theorem mbodies_ok {w : World} {es : List Addr} (hes : ErrsAt w es) (hB : BitsAt w) {A : Option Addr} {n : Nat} (cap : Nat) {b : List UInt8} (hs : Src w A n b) (hn : n ≤ 50) {m : Int} (h64 : In64 m) :
    Calls Tryd.prog 3 #[.slice A n cap, .int .i64 m] w (Fine w) := by
  have hW : MdW w es := ⟨hes.of _, hB⟩
  have HA := Lib.hid (mdAlive hW)
  have hd : decide ((50 : Int) < (n : Int)) = false := by simp; omega
  obtain ⟨E, hE, hP⟩ := mdParse_all hW.errs cap hs
  have HP := Lib.hid hP
  have HQ := Lib.hid (fun W => mrParse_any W b (by rw [hs.1]; omega))
  have HN := Lib.hid (num_is hes hE)
  have HT := Lib.hid (hs.texts cap)
  have HR := Lib.hid (fun W => mdRight_any W h64)
  have HRr := Lib.hid (fun W => mrRight_any W m)
  have HX : Hid (∀ W, Only (fun _ => False) w W → _) := fun W (ho : Only (fun _ => False) w W) => mdWords_any (hB.only ho) h64
  have HY : Hid (isMask m = true → ∀ W, _) := fun h W => mrWords_any W h
  unfold wordsM at HX
  generalize (saysM b).1 = x at *
  generalize (saysM b).2.1 = q at *
  generalize (saysM b).2.2 = z at *
  generalize textM m = t at *
  have hxx : (x == x) = true := by simp
  have hqq : (q == q) = true := by simp
  have hzz : ((z : Int) == (z : Int)) = true := by simp
  have htt : (t == t) = true := by simp
  clear hW hs hP hE hes hB
  cases hk : isMask m with
  | true =>
    rw [hk] at HR HRr HX
    rw [if_pos rfl] at HX
    have HZ := Lib.hid (HY.out hk)
    clear HY hk
    go_enter Tryd.func3, Tryd.ntmps3
    go_wp2_with (first
      | (go_at_call 6; refine HA.out.mono ?_; rintro e w1 ⟨rfl, ho1⟩; have HO1 := Lib.hid ho1; clear ho1)
      | (go_at_call 7; (with_reducible refine (HP.out _ HO1.out).mono ?_); rintro e w2 ⟨rfl, ho2⟩; have HO2 : Hid (Only (fun _ => False) w w2) := HO1.out.trans ho2 (fun _ h => h.elim); have hT2 := HT.out _ HO2.out; clear ho2)
      | (go_at_call 8; (with_reducible refine (HQ.out _).mono ?_); rintro e w' ⟨rfl, e1⟩; subst w'; clear hT2)
      | (go_at_call 9; (with_reducible refine (HRr.out _).mono ?_); rintro e w' ⟨rfl, e1⟩; subst w')
      | (go_at_call 12; (with_reducible refine (HR.out _).mono ?_); rintro e w' ⟨rfl, e1⟩; subst w')
      | (go_at_call 10; (with_reducible refine (HZ.out _).mono ?_); rintro e w3 ⟨rfl, ho3⟩; have HO3 : Hid (Only (fun _ => False) w w3) := HO2.out.trans ho3.out (fun _ h => h.elim); clear ho3)
      | (go_at_call 11; (with_reducible refine (HN.out _ HO3.out).mono ?_); rintro e w4 ⟨rfl, ho4⟩; have HO4 : Hid (Only (fun _ => False) w w4) := HO3.out.trans ho4 (fun _ h => h.elim); clear ho4)
      | (go_at_call 13; (with_reducible refine (HX.out _ HO4.out).mono ?_); rintro e w5 ⟨rfl, ho5⟩)
      | fail)
    go_ret
    exact ⟨rfl, HO4.out.trans ho5 (fun _ h => h.elim)⟩
  | false =>
    rw [hk] at HR HRr HX
    rw [if_neg (by decide)] at HX
    clear HY hk
    go_enter Tryd.func3, Tryd.ntmps3
    go_wp2_with (first
      | (go_at_call 6; refine HA.out.mono ?_; rintro e w1 ⟨rfl, ho1⟩; have HO1 := Lib.hid ho1; clear ho1)
      | (go_at_call 7; (with_reducible refine (HP.out _ HO1.out).mono ?_); rintro e w2 ⟨rfl, ho2⟩; have HO2 : Hid (Only (fun _ => False) w w2) := HO1.out.trans ho2 (fun _ h => h.elim); have hT2 := HT.out _ HO2.out; clear ho2)
      | (go_at_call 8; (with_reducible refine (HQ.out _).mono ?_); rintro e w' ⟨rfl, e1⟩; subst w'; clear hT2)
      | (go_at_call 9; (with_reducible refine (HRr.out _).mono ?_); rintro e w' ⟨rfl, e1⟩; subst w')
      | (go_at_call 12; (with_reducible refine (HR.out _).mono ?_); rintro e w' ⟨rfl, e1⟩; subst w')
      | (go_at_call 11; (with_reducible refine (HN.out _ HO2.out).mono ?_); rintro e w4 ⟨rfl, ho4⟩; have HO4 : Hid (Only (fun _ => False) w w4) := HO2.out.trans ho4 (fun _ h => h.elim); clear ho4)
      | (go_at_call 13; (with_reducible refine (HX.out _ HO4.out).mono ?_); rintro e w5 ⟨rfl, ho5⟩)
      | fail)
    go_ret
    exact ⟨rfl, HO4.out.trans ho5 (fun _ h => h.elim)⟩

theorem modeBodies_facts {W : World} (h : laidMetH Tryd.prog Rows.modeBodiesRow.laid W) : BitsAt W ∧ ∃ es, ErrsAt W es := by
  rw [MakeChecks.laidMetH_plain _ _ _ (by kernel_rfl)] at h
  exact ⟨bits_fact h (by simp [Rows.modeBodiesRow]), errs_front (l := Rows.modeBodiesRow.laid) h (by kernel_rfl) (by
    intro x hx
    simp only [Rows.modeBodiesRow, List.take_succ_cons, List.take_zero, List.mem_cons, List.not_mem_nil, or_false] at hx
    rcases hx with rfl | rfl | rfl | rfl | rfl | rfl | rfl | rfl | rfl | rfl | rfl | rfl | rfl | rfl | rfl | rfl <;> exact ⟨_, rfl⟩)⟩

theorem modeBodies_walk (W : World) {A : Option Addr} {n cap fuel : Nat} {H : Type} {enc : TypeId × Value → H} {x : DataW H × List MemPlace} (hf : DataW.trod enc Tryd.prog W 0 (fun _ => true) true fuel 22 [.slice A n cap] = some x) (m : Int) (h64 : In64 m)
    (hF : BitsAt W ∧ ∃ es, ErrsAt W es) : Calls Tryd.prog 3 #[.slice A n cap, .int .i64 m] W (Fine W) := by
  obtain ⟨hB, es, hes⟩ := hF
  obtain ⟨A', n', c', b, e, hs, _, _⟩ := opened_cell hf
  injection e with e1 e2 e3
  subst e1 e2 e3
  by_cases h : 50 < n
  · exact mbodies_long (es := es) ⟨hes.of _, hB⟩ A n cap m h
  · exact mbodies_ok hes hB cap hs (by omega) h64
end Go.Proofs.YtefcgbkbgkllaaaDoor
