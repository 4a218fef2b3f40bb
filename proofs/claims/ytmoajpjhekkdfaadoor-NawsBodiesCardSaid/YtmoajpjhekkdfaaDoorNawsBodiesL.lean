/- NawsBodies, walked. -/
import Derived.Test.YtmoajpjhekkdfaaDoorNawsBackL
import Derived.Test.YtmoajpjhekkdfaaDoorNawsRef
import Derived.Test.YtmoajpjhekkdfaaDoorOpenBytes
import Derived.Deep.RegionHeldLaw
namespace Go.Proofs.YtmoajpjhekkdfaaDoor
open Go Go.ChangeShapes Go.WideShapes Go.ChangeAt Go.RowKit
set_option maxRecDepth 100000
set_option maxHeartbeats 4000000

theorem nbodies_long (w : World) (c r mc mr : Int) (A : Option Addr) (n cap : Nat) (h : 100 < n) : Calls Tryd.prog 3 #[szVal c r, szVal mc mr, .slice A n cap] w (Fine w) := by
  have hd : decide ((100 : Int) < (n : Int)) = true := by simp; omega
  have HA := Lib.hid (fun W => nws_alive W)
  clear h
  unfold szVal
  go_enter Tryd.func3, Tryd.ntmps3
  go_wp2_with (go_at_call 5; refine (HA.out _).mono ?_; rintro e w1 ⟨rfl, ho1⟩)
  go_ret
  exact ⟨rfl, (((Only.refl _ _).alloc _).alloc _).trans ho1 (fun _ h => h.elim)⟩

/-- An error, and its number. -/
@[reducible] def NumIs (w : World) (E : Value) (z : Int) : Prop := ∀ W, Only (fun _ => False) w W → Calls Tryd.prog 11 #[E] W fun e w' => e = .returned (.int .i64 z) ∧ Only (fun _ => False) W w'
theorem num_is {w : World} {es : List Addr} (h : ErrsAt w es) {E : Value} {k : Nat} (hv : ErrV es E k) : NumIs w E (k : Int) := fun _ ho => num_any (h.only ho) hv

/-- A size's body, by program and by document. -/
theorem both_bodies {w : World} {es : List Addr} (hes : ErrsAt w es) (c r : Int) : ∃ (bs : List UInt8) (n : Nat) (z : Int) (ok : Bool) (E : Value), (z == 0) = ok ∧ NumIs w E z ∧
    (∀ W, Only (fun _ => False) w W → Calls Tryd.prog 6 #[.agg #[.int .i64 c, .int .i64 r]] W fun e w' => ∃ A cp, e = .returned (.tuple #[.slice A n cp, E]) ∧ Hid (Texts w' A n cp bs) ∧ Hid (Only (fun _ => False) W w')) ∧
    (∀ W, Calls Tryd.prog 7 #[.int .i64 c, .int .i64 r] W fun e w' => e = .returned (.tuple #[.string ⟨bs.toArray⟩, .int .i64 z]) ∧ Only (fun _ => False) W w') ∧
    (∀ W, Calls Tryd.prog 12 #[.agg #[.int .i64 c, .int .i64 r]] W fun e w' => e = .returned (.bool ok) ∧ Only (fun _ => False) W w') := by
  have hR := fun W => right_any W c r
  cases h : (fitsN c && fitsN r) with
  | false =>
    rw [h] at hR
    obtain ⟨a, ha, _⟩ := (hes.of [0, 2, 3]).get 0 0 (by decide) rfl
    refine ⟨[], 0, 1, false, errV a, rfl, num_is hes (ErrV.err ha 1 rfl), fun W ho => ?_, fun W => ?_, hR⟩
    · refine (body_bad ((hes.of [0, 2, 3]).only ho) c r h).mono ?_
      rintro e w' ⟨a', ha', rfl, ho'⟩
      rw [ha] at ha'
      injection ha' with ha'
      subst ha'
      exact ⟨none, 0, rfl, (Src.nil w' none).texts 0, ho'⟩
    · refine (refBody_bad W c r h).mono ?_
      rintro e w' ⟨rfl, rfl⟩
      exact ⟨rfl, Only.refl _ _⟩
  | true =>
    rw [h] at hR
    rw [Bool.and_eq_true] at h
    refine ⟨bodyOf c r, 4, 0, true, .nilIface, rfl, num_is hes (ErrV.nil es), fun W ho => ?_, fun W => refBody_ok W c r h.1 h.2, hR⟩
    refine (body_ok W c r h.1 h.2).mono ?_
    rintro e w' ⟨N, rfl, hs, ho'⟩
    exact ⟨_, 4, rfl, hs.out.texts 4, ho'⟩

/-- What a body says, by program and by document. -/
theorem both_parses {w : World} {es : List Addr} (hes : ErrsAt w es) {A : Option Addr} {n : Nat} (cap : Nat) {xs : List UInt8} (hs : Src w A n xs) : ∃ (x y z : Int) (E : Value), NumIs w E z ∧
    (∀ W, Only (fun _ => False) w W → Calls Tryd.prog 8 #[.slice A n cap] W fun e w' => e = .returned (.tuple #[.agg #[.int .i64 x, .int .i64 y], E]) ∧ Only (fun _ => False) W w') ∧
    (∀ W, Calls Tryd.prog 9 #[.string ⟨xs.toArray⟩] W fun e w' => e = .returned (.tuple #[.agg #[.int .i64 x, .int .i64 y], .int .i64 z]) ∧ Only (fun _ => False) W w') := by
  have hl := hs.1
  rcases Nat.lt_trichotomy n 4 with h | h | h
  · obtain ⟨a, ha, _⟩ := (hes.of [0, 2, 3]).get 2 1 (by decide) rfl
    refine ⟨0, 0, 3, errV a, num_is hes (ErrV.err ha 3 rfl), fun W ho => ?_, fun W => refParse_short W xs (by omega)⟩
    refine (parse_short ((hes.of [0, 2, 3]).only ho) A n cap h).mono ?_
    rintro e w' ⟨a', ha', rfl, ho'⟩
    rw [ha] at ha'
    injection ha' with ha'
    subst ha'
    exact ⟨rfl, ho'⟩
  · subst h
    match xs, hl, hs with
    | [a, b, d, e], _, hs =>
      exact ⟨two a b, two d e, 0, .nilIface, num_is hes (ErrV.nil es), fun W ho => parse_ok (hs.only ho (fun _ _ _ h => h)) cap, fun W => refParse_ok W _ a b d e rfl⟩
  · obtain ⟨a, ha, _⟩ := (hes.of [0, 2, 3]).get 3 2 (by decide) rfl
    refine ⟨0, 0, 4, errV a, num_is hes (ErrV.err ha 4 rfl), fun W ho => ?_, fun W => refParse_long W xs (by omega)⟩
    refine (parse_long ((hes.of [0, 2, 3]).only ho) A n cap h).mono ?_
    rintro e w' ⟨a', ha', rfl, ho'⟩
    rw [ha] at ha'
    injection ha' with ha'
    subst ha'
    exact ⟨rfl, ho'⟩

theorem once {P : Prop} {C G : Nat → World → Prop} (k : (∀ p W, C p W → G p W) → P) (h : ∀ p W, C p W → G p W) : P := k h
/-- What stands in memory ahead of the last line. -/
structure Stands (w1 w2 W : World) (P Q F : Nat) (x y f1 f2 : Int) : Prop where
  only1 : Only (fun _ => False) w1 W
  only2 : Only (fun _ => False) w2 W
  p : Blk W P 23 [.int .i64 x, .int .i64 y]
  q : Blk W Q 34 [.int .i64 x, .int .i64 y]
  f : Blk W F 23 [.int .i64 f1, .int .i64 f2]
theorem Stands.same {w1 w2 W W' : World} {P Q F : Nat} {x y f1 f2 : Int} (h : Stands w1 w2 W P Q F x y f1 f2) (ho : Only (fun _ => False) W W') : Stands w1 w2 W' P Q F x y f1 f2 :=
  ⟨h.only1.trans ho (fun _ h => h.elim), h.only2.trans ho (fun _ h => h.elim), h.p.only ho (fun h => h), h.q.only ho (fun h => h), h.f.only ho (fun h => h)⟩

theorem nbodies_ok {w : World} {es : List Addr} (hes : ErrsAt w es) (c r mc mr : Int) {A : Option Addr} {n : Nat} (cap : Nat) {xs : List UInt8} (hs : Src w A n xs) (hn : n ≤ 100) :
    Calls Tryd.prog 3 #[szVal c r, szVal mc mr, .slice A n cap] w (Fine w) := by
  have hd : decide ((100 : Int) < (n : Int)) = false := by simp; omega
  have HA := Lib.hid (fun W => nws_alive W)
  obtain ⟨bs, bn, z, ok, E, hz, hN1, hB1, hB2, hR⟩ := both_bodies hes c r
  obtain ⟨x, y, z2, E2, hN2, hP1, hP2⟩ := both_parses hes cap hs
  have HT := Lib.hid (hs.texts cap)
  have HN1 := Lib.hid hN1
  have HN2 := Lib.hid hN2
  have HB1 := Lib.hid hB1
  have HB2 := Lib.hid hB2
  have HR := Lib.hid hR
  have HP1 := Lib.hid hP1
  have HP2 := Lib.hid hP2
  have HF1 := Lib.hid (fun W => refFit_any W c mc)
  have HF2 := Lib.hid (fun W => refFit_any W r mr)
  have HF := Lib.hid (fun W => fit_any W c r mc mr)
  clear hN1 hN2 hB1 hB2 hR hP1 hP2 hes hs
  unfold szVal at *
  generalize less c mc = f1 at *
  generalize less r mr = f2 at *
  have heq1 : ∀ W, _ := fun W => same_sz W f1 f2
  have heq2 : ∀ W, _ := fun W => same_sz W x y
  have hgr := guard_sz
  go_enter Tryd.func3, Tryd.ntmps3
  go_wp2_with (first
    | (go_at_call 5; refine (HA.out _).mono ?_; rintro e' w1 ⟨rfl, ho1⟩; have HW1 : Hid (Only (fun _ => False) w w1) := (((Only.refl _ _).alloc _).alloc _).trans ho1 (fun _ h => h.elim); have HK : Hid (∀ W, Only (fun _ => False) w1 W → W.cell? ⟨w.heap.size, 0, none⟩ = some (.int .i64 c) ∧ W.cell? ⟨w.heap.size, 1, none⟩ = some (.int .i64 r) ∧ W.cell? ⟨w.heap.size + 1, 0, none⟩ = some (.int .i64 mc) ∧ W.cell? ⟨w.heap.size + 1, 1, none⟩ = some (.int .i64 mr)) := (fun W ho => ⟨((((Blk.new' w 23 [.int .i64 c, .int .i64 r] rfl).alloc _).only ho1 (fun h => h)).only ho (fun h => h)).cell 0, ((((Blk.new' w 23 [.int .i64 c, .int .i64 r] rfl).alloc _).only ho1 (fun h => h)).only ho (fun h => h)).cell 1, (((Blk.new' _ 23 [.int .i64 mc, .int .i64 mr] (by simp)).only ho1 (fun h => h)).only ho (fun h => h)).cell 0, (((Blk.new' _ 23 [.int .i64 mc, .int .i64 mr] (by simp)).only ho1 (fun h => h)).only ho (fun h => h)).cell 1⟩); clear ho1; obtain ⟨k0, k1, k2, k3⟩ := HK.out w1 (Only.refl _ _))
    | (go_at_call 6; refine (HB1.out _ HW1.out).mono ?_; rintro e' w2 ⟨A2, c2, rfl, ht2, ho2⟩; have HO2 : Hid (Only (fun _ => False) w1 w2) := ho2; clear k0 k1 k2 k3; obtain ⟨k0, k1, k2, k3⟩ := HK.out w2 HO2.out)
    | (go_at_call 7; refine (HB2.out _).mono ?_; rintro e' w3 ⟨rfl, ho3⟩; have HO3 : Hid (Only (fun _ => False) w1 w3) := HO2.out.trans ho3 (fun _ h => h.elim); have HO23 := Lib.hid ho3; clear ho3 k0 k1 k2 k3)
    | (go_at_call 8; refine (HP1.out _ (HW1.out.trans HO3.out (fun _ h => h.elim))).mono ?_; rintro e' w4 ⟨rfl, ho4⟩; have HO4 : Hid (Only (fun _ => False) w1 w4) := HO3.out.trans ho4 (fun _ h => h.elim); have HO24 : Hid (Only (fun _ => False) w2 w4) := HO23.out.trans ho4 (fun _ h => h.elim); have hcx : ∀ ob, _ := (fun ob => HT.out (w4.alloc ob) ((HW1.out.trans HO4.out (fun _ h => h.elim)).alloc ob)); clear ho4)
    | (go_at_call 9; refine (HP2.out _).mono ?_; rintro e' w5 ⟨rfl, ho5⟩; have HO45 := Lib.hid ho5; clear ho5 hcx)
    | fail)
  have HO5 : Hid (Only (fun _ => False) w1 (w5.alloc (.cells #[.int .i64 x, .int .i64 y] 34))) := ((HO4.out.alloc _).trans HO45.out (fun _ h => h.elim)).alloc _
  have HO25 : Hid (Only (fun _ => False) w2 (w5.alloc (.cells #[.int .i64 x, .int .i64 y] 34))) := ((HO24.out.alloc _).trans HO45.out (fun _ h => h.elim)).alloc _
  have HP5 : Hid (Blk (w5.alloc (.cells #[.int .i64 x, .int .i64 y] 34)) w4.heap.size 23 [.int .i64 x, .int .i64 y]) := ((Blk.new w4 23 [.int .i64 x, .int .i64 y]).only HO45.out (fun h => h)).alloc _
  have HQ5 : Hid (Blk (w5.alloc (.cells #[.int .i64 x, .int .i64 y] 34)) w5.heap.size 34 [.int .i64 x, .int .i64 y]) := Blk.new _ _ _
  generalize w4.heap.size = P at *
  generalize w5.heap.size = Q at *
  generalize w5.alloc (.cells #[.int .i64 x, .int .i64 y] 34) = w6 at *
  clear HO45
  apply once (C := fun F W => Hid (Stands w1 w2 W P Q F x y f1 f2))
  case k =>
    intro key
    go_region_held3 (fun W => W.cell? ⟨w.heap.size, 0, none⟩ = some (.int .i64 c) ∧ W.cell? ⟨w.heap.size, 1, none⟩ = some (.int .i64 r) ∧ W.cell? ⟨w.heap.size + 1, 0, none⟩ = some (.int .i64 mc) ∧ W.cell? ⟨w.heap.size + 1, 1, none⟩ = some (.int .i64 mr))
      (first | exact HK.out _ HO5.out.drew | exact HK.out _ (HO5.out.drew.alloc _) | exact HK.out _ (HO5.out.alloc _).drew)
      (first
        | (go_at_call 10; (with_reducible refine (HF1.out _).mono ?_); rintro e' w' ⟨rfl, e2⟩; subst w')
        | (go_at_call 10; (with_reducible refine (HF2.out _).mono ?_); rintro e' w' ⟨rfl, e2⟩; subst w'))
    all_goals
      have H0 : Hid (Stands w1 w2 (w6.alloc (.cells #[.int .i64 f1, .int .i64 f2] 23)).drew P Q w6.heap.size x y f1 f2) := ⟨(HO5.out.alloc _).drew, (HO25.out.alloc _).drew, (HP5.out.alloc _).drew, (HQ5.out.alloc _).drew, (Blk.new w6 _ [.int .i64 f1, .int .i64 f2]).drew⟩
      obtain ⟨W0, hW0⟩ : ∃ W0, W0 = (w6.alloc (.cells #[.int .i64 f1, .int .i64 f2] 23)).drew := ⟨_, rfl⟩
      obtain ⟨F, hF⟩ : ∃ F, F = w6.heap.size := ⟨_, rfl⟩
      rw [← hW0, ← hF] at H0 ⊢
      exact key F W0 H0
  case h =>
    intro F W0 H0
    clear HO5 HO25 HP5 HQ5
    go_wp2
    have HS : Hid (∀ W, Only (fun _ => False) W0 W → ((convert 24 9 (.slice A2 bn c2)).run Tryd.prog W = .ok (.string ⟨bs.toArray⟩) W ∧ (W.cell? ⟨w.heap.size, 0, none⟩ = some (.int .i64 c) ∧ W.cell? ⟨w.heap.size, 1, none⟩ = some (.int .i64 r) ∧ W.cell? ⟨w.heap.size + 1, 0, none⟩ = some (.int .i64 mc) ∧ W.cell? ⟨w.heap.size + 1, 1, none⟩ = some (.int .i64 mr)) ∧ W.cell? ⟨P, 0, none⟩ = some (.int .i64 x) ∧ W.cell? ⟨P, 1, none⟩ = some (.int .i64 y) ∧ W.cell? ⟨Q, 0, none⟩ = some (.int .i64 x) ∧ W.cell? ⟨Q, 1, none⟩ = some (.int .i64 y) ∧ W.cell? ⟨F, 0, none⟩ = some (.int .i64 f1) ∧ W.cell? ⟨F, 1, none⟩ = some (.int .i64 f2))) := fun W ho => by
      have h := H0.out.same ho
      exact ⟨ht2.out W h.only2, HK.out W h.only1, h.p.cell 0, h.p.cell 1, h.q.cell 0, h.q.cell 1, h.f.cell 0, h.f.cell 1⟩
    have HWW : Hid (Only (fun _ => False) w W0) := HW1.out.trans H0.out.only1 (fun _ h => h.elim)
    have hz2 : (ok == ok) = true := by simp
    have hz3 : (z == z) = true := by simp
    have hz4 : (z2 == z2) = true := by simp
    clear H0
    go_region_held3 (fun W => (convert 24 9 (.slice A2 bn c2)).run Tryd.prog W = .ok (.string ⟨bs.toArray⟩) W ∧ (W.cell? ⟨w.heap.size, 0, none⟩ = some (.int .i64 c) ∧ W.cell? ⟨w.heap.size, 1, none⟩ = some (.int .i64 r) ∧ W.cell? ⟨w.heap.size + 1, 0, none⟩ = some (.int .i64 mc) ∧ W.cell? ⟨w.heap.size + 1, 1, none⟩ = some (.int .i64 mr)) ∧ W.cell? ⟨P, 0, none⟩ = some (.int .i64 x) ∧ W.cell? ⟨P, 1, none⟩ = some (.int .i64 y) ∧ W.cell? ⟨Q, 0, none⟩ = some (.int .i64 x) ∧ W.cell? ⟨Q, 1, none⟩ = some (.int .i64 y) ∧ W.cell? ⟨F, 0, none⟩ = some (.int .i64 f1) ∧ W.cell? ⟨F, 1, none⟩ = some (.int .i64 f2))
      (first | exact HS.out _ (Only.refl _ _).drew | exact HS.out _ HOA.out | exact HS.out _ HOB.out | exact HS.out _ HOC.out | exact HS.out _ HOD.out)
      (first
        | (go_at_call 11; (with_reducible refine (HN1.out _ HWW.out.drew).mono ?_); rintro e' wA ⟨rfl, hoA⟩; have HOA : Hid (Only (fun _ => False) W0 wA) := (Only.refl _ _).drew.trans hoA (fun _ h => h.elim); clear hoA)
        | (go_at_call 12; (with_reducible refine (HR.out _).mono ?_); rintro e' wB ⟨rfl, hoB⟩; have HOB : Hid (Only (fun _ => False) W0 wB) := HOA.out.trans hoB (fun _ h => h.elim); clear hoB)
        | (go_at_call 11; (with_reducible refine (HN2.out _ (HWW.out.trans HOB.out (fun _ h => h.elim))).mono ?_); rintro e' wC ⟨rfl, hoC⟩; have HOC : Hid (Only (fun _ => False) W0 wC) := HOB.out.trans hoC (fun _ h => h.elim); clear hoC)
        | (go_at_call 13; (with_reducible refine (HF.out _).mono ?_); rintro e' wD ⟨rfl, hoD⟩; have HOD : Hid (Only (fun _ => False) W0 wD) := HOC.out.trans hoD (fun _ h => h.elim); clear hoD))
    go_wp2
    go_ret
    exact ⟨rfl, HWW.out.trans HOD.out (fun _ h => h.elim)⟩

theorem nawsBodies_walk (W : World) {c r mc mr : Int} (_ : True) (_ : True) {H : Type} {enc : TypeId × Value → H} {fuel : Nat} {A : Option Addr} {n cap : Nat} {x : DataW H × List MemPlace} (hf : DataW.trod enc Tryd.prog W 0 (fun _ => true) true fuel 24 [.slice A n cap] = some x)
    {es : List Addr} (hes : ErrsAt W es) : Calls Tryd.prog 3 #[szVal c r, szVal mc mr, .slice A n cap] W (Fine W) := by
  obtain ⟨A', n', c', xs, e1, h1, h2, h3⟩ := opened_cell hf
  injection e1 with e1 e2 e3
  subst e1 e2 e3
  by_cases h : 100 < n
  · exact nbodies_long W c r mc mr A n cap h
  · exact nbodies_ok hes c r mc mr cap h1 (by omega)
end Go.Proofs.YtmoajpjhekkdfaaDoor
