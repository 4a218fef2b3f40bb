/- TtypeBodies, walked. -/
import Derived.Test.YtjdfdgmfkpdfbaaDoorTtAlive
import Derived.Test.YtjdfdgmfkpdfbaaDoorTtBody
import Derived.Test.YtjdfdgmfkpdfbaaDoorTtRef
import Derived.Test.YtjdfdgmfkpdfbaaDoorOpenBytes
namespace Go.Proofs.YtjdfdgmfkpdfbaaDoor
open Go Go.ChangeShapes Go.WideShapes Go.ChangeAt Go.RowKit
set_option maxRecDepth 100000
set_option maxHeartbeats 4000000

theorem ErrV.uniq {es : List Addr} {v v' : Value} {num : Nat} (h : ErrV es v num) (h' : ErrV es v' num) : v = v' := by
  rcases h with ⟨rfl, rfl⟩ | ⟨i, a, rfl, ha, rfl⟩
  · rcases h' with ⟨_, rfl⟩ | ⟨j, b, hj, _, _⟩
    · rfl
    · omega
  · rcases h' with ⟨h0, _⟩ | ⟨j, b, hj, hb, rfl⟩
    · omega
    · obtain rfl : i = j := by omega
      rw [ha] at hb
      injection hb with hb
      rw [hb]
theorem ErrsAt.sel13 {w : World} {es : List Addr} (h : ErrsAt w es) : ErrsOf w [0, 2, 3, 4, 5] es := h.of _
/-- An error, and its number. -/
@[reducible] def NumIs (w : World) (E : Value) (z : Int) : Prop := ∀ W, Only (fun _ => False) w W → Calls Tryd.prog 15 #[E] W fun e w' => e = .returned (.int .i64 z) ∧ Only (fun _ => False) W w'
theorem num_is {w : World} {es : List Addr} (h : ErrsAt w es) {E : Value} {k : Nat} (hv : ErrV es E k) : NumIs w E (k : Int) := fun _ ho => num_any (h.only ho) hv
/-- What a body says, in every world that only grew. -/
theorem parse_all {w : World} {es : List Addr} (hes : ErrsOf w [0, 2, 3, 4, 5] es) {A : Option Addr} {n : Nat} (cap : Nat) {b : List UInt8} (hs : Src w A n b) (hn : n ≤ 1048576) (hnc : n ≤ cap) (hcap : cap ≤ 9223372036854775807) :
    ∃ E, ErrV es E (saysT b).2.2 ∧ ∀ W, Only (fun _ => False) w W → Calls Tryd.prog 21 #[.slice A n cap] W fun e w' => e = .returned (.tuple #[.string ⟨(saysT b).1.toArray⟩, .bool (saysT b).2.1, E]) ∧ Only (fun _ => False) W w' := by
  obtain ⟨E, hE, _⟩ := parse_any hes cap hs hn hnc hcap
  refine ⟨E, hE, fun W ho => ?_⟩
  obtain ⟨E', hE', h⟩ := parse_any (hes.only ho) cap (hs.only ho (fun _ _ _ h => h)) hn hnc hcap
  rw [hE.uniq hE']
  exact h

theorem tbodies_long (w : World) (s : List UInt8) (A : Option Addr) (n cap : Nat) (h : 100 < s.length ∨ 100 < n) : Calls Tryd.prog 4 #[.string ⟨s.toArray⟩, .slice A n cap] w (Fine w) := by
  have HA := Lib.hid (fun W => tt_alive W)
  obtain ⟨m, hm⟩ : ∃ m, m = s.length := ⟨_, rfl⟩
  have hz : (ByteArray.mk s.toArray).size = m := by rw [hm]; rfl
  rw [← hm] at h
  clear hm
  by_cases h1 : 100 < m
  · have hd : decide ((100 : Int) < (m : Int)) = true := by simp; omega
    clear h h1
    go_enter Tryd.func4, Tryd.ntmps4
    go_wp2_with (go_at_call 6; refine (HA.out _).mono ?_; rintro e w1 ⟨rfl, ho1⟩)
    go_ret
    exact ⟨rfl, ho1⟩
  · have hd : decide ((100 : Int) < (m : Int)) = false := by simp; omega
    have hd2 : decide ((100 : Int) < (n : Int)) = true := by simp; omega
    clear h h1
    go_enter Tryd.func4, Tryd.ntmps4
    go_wp2_with (go_at_call 6; refine (HA.out _).mono ?_; rintro e w1 ⟨rfl, ho1⟩)
    go_ret
    exact ⟨rfl, ho1⟩

theorem tbodies_ok {w : World} {es : List Addr} (hes : ErrsAt w es) (s : List UInt8) {A : Option Addr} {n : Nat} (cap : Nat) {b : List UInt8} (hs : Src w A n b) (h1 : s.length ≤ 100) (h2 : n ≤ 100) (hnc : n ≤ cap) (hcap : cap ≤ 9223372036854775807) :
    Calls Tryd.prog 4 #[.string ⟨s.toArray⟩, .slice A n cap] w (Fine w) := by
  have HA := Lib.hid (fun W => tt_alive W)
  obtain ⟨m, hm⟩ : ∃ m, m = s.length := ⟨_, rfl⟩
  have hz : (ByteArray.mk s.toArray).size = m := by rw [hm]; rfl
  have hd : decide ((100 : Int) < (m : Int)) = false := by simp; omega
  have hd2 : decide ((100 : Int) < (n : Int)) = false := by simp; omega
  obtain ⟨E2, hE2, hP⟩ := parse_all hes.sel13 cap hs (by omega) hnc hcap
  have HP := Lib.hid hP
  have HQ := Lib.hid (fun W => rParse_any W b (by rw [hs.1]; omega))
  have HN2 := Lib.hid (num_is hes hE2)
  have HT := Lib.hid (hs.texts cap)
  have HR := Lib.hid (fun W => right_any W s)
  have HRr := Lib.hid (fun W => rRight_any W s)
  have HK := Lib.hid (fun W => ask_any W)
  have hsum : ∀ W, (Op.stringOp .add (ByteArray.mk #[0]) (ByteArray.mk s.toArray)).run Tryd.prog W = .ok (.string ⟨(0 :: s).toArray⟩) W := fun W => sum_texts [0] s (0 :: s) rfl (by simp; omega)
  obtain ⟨bs, hbs⟩ : ∃ bs, bs = 0 :: s := ⟨_, rfl⟩
  rw [← hbs] at hsum
  have hbb : (bs == bs) = true := by simp
  have HBs := Lib.hid hbs
  have HBb : Hid (okT s = false → ∀ W, Only (fun _ => False) w W → Calls Tryd.prog 19 #[.string ⟨s.toArray⟩] W fun e w' => ∃ a, es[5]? = some a ∧ e = .returned (.tuple #[.slice none 0 0, errV a]) ∧ Only (fun _ => False) W w') := fun ho W hw => body_bad (hes.sel13.only hw) ho
  have HBo : Hid (okT s = true → ∀ W, Calls Tryd.prog 19 #[.string ⟨s.toArray⟩] W fun e w' => ∃ A c, e = .returned (.tuple #[.slice A (s.length + 1) c, .nilIface]) ∧ Hid (Src w' A (s.length + 1) (0 :: s)) ∧ Hid (Only (fun _ => False) W w')) := fun ho W => body_ok W ho
  rw [← hm, ← hbs] at HBo
  have HN5 : Hid (∀ a, es[5]? = some a → NumIs w (errV a) 6) := fun a ha => num_is hes (ErrV.err ha 6 rfl)
  generalize (saysT b).1 = x2 at *
  generalize (saysT b).2.1 = q2 at *
  generalize (saysT b).2.2 = z2 at *
  have hxx : (x2 == x2) = true := by simp
  have hzz : (z2 == z2) = true := by simp
  clear hm hbs hes hs hP hE2 h1
  generalize okT s = ok at *
  unfold errV at *
  cases ok
  · have HB2 := Lib.hid (HBb.out rfl)
    clear HBo HBb
    go_enter Tryd.func4, Tryd.ntmps4
    go_wp2_with (first
    | (go_at_call 6; refine (HA.out _).mono ?_; rintro e w1 ⟨rfl, ho1⟩; have HO1 := Lib.hid ho1; clear ho1)
    | (go_at_call 19; (with_reducible refine (HB2.out _ HO1.out).mono ?_); rintro e w2 ⟨a, ha, rfl, ho2⟩; have HN6 := Lib.hid (HN5.out a ha); have HO2 : Hid (Only (fun _ => False) w w2) := HO1.out.trans ho2 (fun _ h => h.elim); clear ha ho2 HN5)
    | (go_at_call 14; (with_reducible refine (HRr.out _).mono ?_); rintro e w' ⟨rfl, e1⟩; subst w')
    | (go_at_call 20; (with_reducible refine (HR.out _).mono ?_); rintro e w' ⟨rfl, e1⟩; subst w')
    | (go_at_call 15; (with_reducible refine (HN6.out _ HO2.out).mono ?_); rintro e w3 ⟨rfl, ho3⟩; have HO3 : Hid (Only (fun _ => False) w w3) := HO2.out.trans ho3 (fun _ h => h.elim); clear ho3 HN6)
    | (go_at_call 21; (with_reducible refine (HP.out _ HO3.out).mono ?_); rintro e w4 ⟨rfl, ho4⟩; have HO4 : Hid (Only (fun _ => False) w w4) := HO3.out.trans ho4 (fun _ h => h.elim); have hT4 := HT.out _ HO4.out; clear ho4)
    | (go_at_call 22; (with_reducible refine (HQ.out _).mono ?_); rintro e w' ⟨rfl, e1⟩; subst w'; clear hT4)
    | (go_at_call 15; (with_reducible refine (HN2.out _ HO4.out).mono ?_); rintro e w5 ⟨rfl, ho5⟩; have HO5 : Hid (Only (fun _ => False) w w5) := HO4.out.trans ho5 (fun _ h => h.elim); clear ho5)
    | (go_at_call 23; (with_reducible refine (HK.out _).mono ?_); rintro e w6 ⟨rfl, hs6, ho6⟩; have HO6 : Hid (Only (fun _ => False) w w6) := HO5.out.trans ho6.out (fun _ h => h.elim); have hT6 := hs6.out.texts 1 _ (Only.refl _ _)))
    go_ret
    exact ⟨rfl, HO6.out⟩
  · have HB2 := Lib.hid (HBo.out rfl)
    clear HBb HBo HN5
    go_enter Tryd.func4, Tryd.ntmps4
    go_wp2_with (first
    | (go_at_call 6; refine (HA.out _).mono ?_; rintro e w1 ⟨rfl, ho1⟩; have HO1 := Lib.hid ho1; clear ho1)
    | (go_at_call 19; (with_reducible refine (HB2.out _).mono ?_); rintro e w3 ⟨A3, c3, rfl, hs3, ho3⟩; have HO3 : Hid (Only (fun _ => False) w w3) := HO1.out.trans ho3.out (fun _ h => h.elim); have hT3 := hs3.out.texts c3 _ (Only.refl _ _); clear ho3 hs3)
    | (go_at_call 14; (with_reducible refine (HRr.out _).mono ?_); rintro e w' ⟨rfl, e1⟩; subst w')
    | (go_at_call 20; (with_reducible refine (HR.out _).mono ?_); rintro e w' ⟨rfl, e1⟩; subst w')
    | (go_at_call 21; (with_reducible refine (HP.out _ HO3.out).mono ?_); rintro e w4 ⟨rfl, ho4⟩; have HO4 : Hid (Only (fun _ => False) w w4) := HO3.out.trans ho4 (fun _ h => h.elim); have hT4 := HT.out _ HO4.out; clear ho4)
    | (go_at_call 22; (with_reducible refine (HQ.out _).mono ?_); rintro e w' ⟨rfl, e1⟩; subst w'; clear hT4)
    | (go_at_call 15; (with_reducible refine (HN2.out _ HO4.out).mono ?_); rintro e w5 ⟨rfl, ho5⟩; have HO5 : Hid (Only (fun _ => False) w w5) := HO4.out.trans ho5 (fun _ h => h.elim); clear ho5)
    | (go_at_call 23; (with_reducible refine (HK.out _).mono ?_); rintro e w6 ⟨rfl, hs6, ho6⟩; have HO6 : Hid (Only (fun _ => False) w w6) := HO5.out.trans ho6.out (fun _ h => h.elim); have hT6 := hs6.out.texts 1 _ (Only.refl _ _)))
    go_ret
    exact ⟨rfl, HO6.out⟩

theorem ttypeBodies_walk (W : World) (s : List UInt8) {A : Option Addr} {n cap fuel : Nat} {H : Type} {enc : TypeId × Value → H} {x : DataW H × List MemPlace} (hf : DataW.trod enc Tryd.prog W 0 (fun _ => true) true fuel 43 [.slice A n cap] = some x) {es : List Addr} (hes : ErrsAt W es) :
    Calls Tryd.prog 4 #[.string ⟨s.toArray⟩, .slice A n cap] W (Fine W) := by
  obtain ⟨A', n', c', b, e, hs, hnc, hcap⟩ := opened_cell hf
  injection e with e1 e2 e3
  subst e1 e2 e3
  by_cases h : 100 < s.length ∨ 100 < n
  · exact tbodies_long W s A n cap h
  · exact tbodies_ok hes s cap hs (by omega) (by omega) hnc hcap
end Go.Proofs.YtjdfdgmfkpdfbaaDoor
