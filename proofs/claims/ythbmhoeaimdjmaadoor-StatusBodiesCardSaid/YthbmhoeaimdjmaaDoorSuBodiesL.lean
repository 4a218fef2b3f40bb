/- StatusBodies, walked. -/
import Derived.Test.YthbmhoeaimdjmaaDoorSuAlive
import Derived.Test.YthbmhoeaimdjmaaDoorSuRef
import Derived.Test.YthbmhoeaimdjmaaDoorSuRefL
import Derived.Test.YthbmhoeaimdjmaaDoorOpenBytes
import Derived.Test.YthbmhoeaimdjmaaDoorLaidFront
namespace Go.Proofs.YthbmhoeaimdjmaaDoor
open Go Go.ChangeShapes Go.WideShapes Go.ChangeAt Go.RowKit
set_option maxRecDepth 100000
set_option maxHeartbeats 4000000

theorem sbodies_long {w : World} (hC : CdW w) (A B : Option Addr) (n c m d : Nat) (h : 150 < n ∨ 300 < m) : Calls Tryd.prog 3 #[.slice A n c, .slice B m d] w (Fine w) := by
  have HA := Lib.hid (suAlive_any hC)
  obtain ⟨d0, e0⟩ : ∃ d, decide ((150 : Int) < (n : Int)) = d := ⟨_, rfl⟩
  obtain ⟨d1, e1⟩ : ∃ d, decide ((300 : Int) < (m : Int)) = d := ⟨_, rfl⟩
  have hd : d0 = true ∨ (d0 = false ∧ d1 = true) := by
    rw [← e0, ← e1]
    simp only [decide_eq_true_eq, decide_eq_false_iff_not]
    omega
  clear h hC
  rcases hd with rfl | ⟨rfl, rfl⟩
  all_goals
    go_enter Tryd.func3, Tryd.ntmps3
    go_wp2_with (go_at_call 5; refine HA.out.mono ?_; rintro e w1 ⟨rfl, ho1⟩)
    go_ret
    exact ⟨rfl, ho1⟩

theorem sbodies_ok {w : World} {es : List Addr} (hE : ErrsAt w es) (hC : CdW w) {A B : Option Addr} {n c m d : Nat} {l : List En} {b : List UInt8} (hl : EnAt w A n l) (hb : Src w B m b) (hn : n ≤ 150) (hm : m ≤ 300) (hmd : m ≤ d) (hd : d ≤ 9223372036854775807) (hz0 : suNum l = 0) :
    Calls Tryd.prog 3 #[.slice A n c, .slice B m d] w (Fine w) := by
  have d0 : decide ((150 : Int) < (n : Int)) = false := by simp; omega
  have d1 : decide ((300 : Int) < (m : Int)) = false := by simp; omega
  have HA := Lib.hid (suAlive_any hC)
  have HOf := Lib.hid (fun W (ho : Only (fun _ => False) w W) => suOf_any (c := c) (hl.same ho) (by omega))
  have HBo := Lib.hid (fun W (ho : Only (fun _ => False) w W) => suBody_any (hE.only ho) (c := c) (hl.same ho) (by omega))
  have HLi := Lib.hid (fun W (ho : Only (fun _ => False) w W) => suLine_any (hC.only ho) (c := c) (hl.same ho) (by omega))
  have HPb := Lib.hid (fun W (ho : Only (fun _ => False) w W) => suParse_any (hE.only ho) (hb.only ho (fun _ _ _ h => h)) (by omega) hmd hd)
  have HRp := Lib.hid (fun W => rsuParse_any W b (by have := hb.1; omega))
  have HAsk := Lib.hid (fun W => suAsk_any W)
  have HTb := Lib.hid (hb.texts d)
  have HNum : Hid (∀ (W : World) (E : Value) (k : Nat), Only (fun _ => False) w W → ErrV es E k → Calls Tryd.prog 9 #[E] W fun e w' => e = .returned (.int .i64 (k : Int)) ∧ Only (fun _ => False) W w') := fun W E k ho hv => num_any (hE.only ho) hv
  have HBack := Lib.hid (body_back (l := l))
  have HE := Lib.hid hE
  have HOx : Hid (∀ (W : World) (A' : Option Addr) (m' c' : Nat) (l' : List En), EnAt W A' m' l' → m' ≤ 1000 → Calls Tryd.prog 6 #[.slice A' m' c'] W fun e w' => ∃ A2 c2, e = .returned (.slice A2 m' c2) ∧ EnAt w' A2 m' l' ∧ Only (fun _ => False) W w') := fun W A' m' c' l' h h1 => suOf_any h h1
  have hSl : (suBody l).length ≤ 1000 := by
    rw [suBody]
    by_cases hz : suNum l = 0
    · rw [if_pos hz, List.length_cons, enBytes_length, hl.1]
      omega
    · rw [if_neg hz]
      simp
  have hPl : (paList b).length ≤ 1000 := paList_length b (by have := hb.1; omega)
  obtain ⟨S, hS⟩ : ∃ S, S = suBody l := ⟨_, rfl⟩
  obtain ⟨z, hz⟩ : ∃ z, z = suNum l := ⟨_, rfl⟩
  obtain ⟨L, hL⟩ : ∃ L, L = lineAt 0 l := ⟨_, rfl⟩
  obtain ⟨pa, hpa⟩ : ∃ x, x = paAsks b := ⟨_, rfl⟩
  obtain ⟨pn, hpn⟩ : ∃ x, x = paNum b := ⟨_, rfl⟩
  obtain ⟨pl, hpl⟩ : ∃ x, x = paList b := ⟨_, rfl⟩
  have HRBo : Hid (∀ (W : World) (A' : Option Addr) (c' : Nat), EnAt W A' n l → Calls Tryd.prog 8 #[.slice A' n c'] W fun e w' => e = .returned (.tuple #[.string ⟨S.toArray⟩, .int .i64 (z : Int)]) ∧ Only (fun _ => False) W w') := fun W A' c' h => by
    rw [hS, hz]; exact rsuBody_any h (by omega)
  have HRLi : Hid (∀ (W : World) (A' : Option Addr) (c' : Nat), EnAt W A' n l → Calls Tryd.prog 11 #[.slice A' n c'] W fun e w' => e = .returned (.string ⟨L.toArray⟩) ∧ Only (fun _ => False) W w') := fun W A' c' h => by
    rw [hL]; exact rsuLine_any h (by omega)
  rw [← hS, ← hz] at HBo HBack
  rw [← hS] at hSl
  rw [← hpl] at hPl
  rw [← hz] at hz0
  have HZ0 := Lib.hid hz0
  have HSl := Lib.hid hSl
  have HPl := Lib.hid hPl
  rw [← hL] at HLi
  unfold Parsed at HPb
  unfold RParsed at HRp
  rw [← hpa, ← hpn, ← hpl] at HPb HRp
  have hss : (S == S) = true := by simp
  have hsn : (S != S) = false := by simp
  have hll : (L == L) = true := by simp
  have hln : (L != L) = false := by simp
  have hzn : ((z : Int) != (z : Int)) = false := by simp
  clear hE hC hl hb hS hz hL hpa hpn hpl hSl hPl hz0
  go_enter Tryd.func3, Tryd.ntmps3
  go_wp2_with (first
    | (go_at_call 5; refine HA.out.mono ?_; rintro e w1 ⟨rfl, ho1⟩; have HO1 := Lib.hid ho1; clear ho1)
    | (go_at_call 6; refine (HOf.out _ HO1.out).mono ?_; rintro e w2 ⟨A2, c2, rfl, hl2, ho2⟩; have HL2 := Lib.hid hl2; have HO2 : Hid (Only (fun _ => False) w w2) := HO1.out.trans ho2 (fun _ h => h.elim); clear hl2 ho2)
    | (go_at_call 7; refine (HBo.out _ HO2.out).mono ?_; rintro e w3 ⟨A3, k3, c3, E3, rfl, hv3, hs3, hc3, ho3⟩; obtain rfl : E3 = .nilIface := (by rcases hv3 with ⟨_, h⟩ | ⟨i, a, h, _, _⟩; exact h; exact absurd (h.symm.trans HZ0.out) (by omega)); have HV3 := Lib.hid hv3; have HS3 := Lib.hid hs3; have HC3 := Lib.hid hc3; have HL3 := Lib.hid (HL2.out.same ho3); have HO3 : Hid (Only (fun _ => False) w w3) := HO2.out.trans ho3 (fun _ h => h.elim); clear hv3 hs3 hc3 ho3)
    | (go_at_call 8; refine (HRBo.out _ _ _ HL3.out).mono ?_; rintro e w4 ⟨rfl, ho4⟩; have hcx := HS3.out.texts c3 w4 ho4; have HS4 := Lib.hid (HS3.out.only ho4 (fun _ _ _ h => h)); have HL4 := Lib.hid (HL3.out.same ho4); have HO4 : Hid (Only (fun _ => False) w w4) := HO3.out.trans ho4 (fun _ h => h.elim); clear ho4)
    | (go_at_call 9; refine (HNum.out _ _ _ HO4.out HV3.out).mono ?_; rintro e w5 ⟨rfl, ho5⟩; have HS5 := Lib.hid (HS4.out.only ho5 (fun _ _ _ h => h)); have HL5 := Lib.hid (HL4.out.same ho5); have HO5 : Hid (Only (fun _ => False) w w5) := HO4.out.trans ho5 (fun _ h => h.elim); clear ho5)
    | (go_at_call 10; refine (HLi.out _ HO5.out).mono ?_; rintro e w6 ⟨rfl, ho6⟩; have HS6 := Lib.hid (HS5.out.only ho6 (fun _ _ _ h => h)); have HL6 := Lib.hid (HL5.out.same ho6); have HO6 : Hid (Only (fun _ => False) w w6) := HO5.out.trans ho6 (fun _ h => h.elim); clear ho6)
    | (go_at_call 11; refine (HRLi.out _ _ _ HL6.out).mono ?_; rintro e w7 ⟨rfl, ho7⟩; have HS7 := Lib.hid (HS6.out.only ho7 (fun _ _ _ h => h)); have HL7 := Lib.hid (HL6.out.same ho7); have HO7 : Hid (Only (fun _ => False) w w7) := HO6.out.trans ho7 (fun _ h => h.elim); clear ho7 hcx)
    | fail)
  clear hss hsn hll hln hzn HA HOf HBo HLi HRBo HRLi HS3 HL3 HO1 HO2 HO3 HO4 HO5 HO6 HS4 HS5 HS6 HL2 HL4 HL5 HL6
  obtain ⟨b1, b2, b3⟩ := HBack.out HZ0.out
  have HPx := Lib.hid (suParse_any (HE.out.only HO7.out) HS7.out (by have := HS7.out.1; have := HSl.out; omega) HC3.out.1 HC3.out.2)
  unfold Parsed at HPx
  rw [b1, b2, b3] at HPx
  have hnn : ((n : Int) == (n : Int)) = true := by simp
  clear b1 b2 b3
  refine HPx.out.mono ?_
  rintro e w8 ⟨A8, m8, c8, E8, rfl, hv8, hl8, ho8⟩
  obtain rfl : E8 = .nilIface := by
    rcases hv8 with ⟨_, h⟩ | ⟨i, a, h, _, _⟩
    · exact h
    · omega
  obtain rfl : m8 = n := by have h1 := hl8.1; have h2 := HL7.out.1; omega
  have HL8 := Lib.hid hl8
  have HM8 := Lib.hid (HL7.out.same ho8)
  have HO8 : Hid (Only (fun _ => False) w w8) := HO7.out.trans ho8 (fun _ h => h.elim)
  clear hl8 ho8 hv8
  go_wp2_with (first
    | ((with_reducible show Calls _ _ #[.slice A8 _ _] _ _); refine (HOx.out _ _ _ _ _ HL8.out (by omega)).mono ?_; rintro e w9 ⟨A9, c9, rfl, hl9, ho9⟩; have HL9 := Lib.hid hl9; have HM9 := Lib.hid (HM8.out.same ho9); have HO9 : Hid (Only (fun _ => False) w w9) := HO8.out.trans ho9 (fun _ h => h.elim); clear hl9 ho9)
    | (go_at_call 13; refine (suSame_any HL9.out HM9.out (by omega)).mono ?_; rintro e wQ ⟨rfl, hoQ⟩; have HQ : Hid (Only (fun _ => False) w wQ) := HO9.out.trans hoQ (fun _ h => h.elim); clear hoQ)
    | fail)
  clear HPx HL8 HM8 HO8 HL9 HM9 HO9 HO7
  clear HBack HZ0 HSl HS7 HL7 HV3 HC3
  have hpz : ((pn : Int) == (pn : Int)) = true := by simp
  have hpp : (pa == pa) = true := by simp
  refine (HPb.out _ HQ.out).mono ?_
  rintro e v1 ⟨B1, m1, d1, F1, rfl, hv1, hl1, ho1⟩
  have HF1 := Lib.hid hv1
  have HG1 := Lib.hid hl1
  have HR1 : Hid (Only (fun _ => False) w v1) := HQ.out.trans ho1 (fun _ h => h.elim)
  have hcb := HTb.out v1 HR1.out
  have HM1 : Hid (m1 = pl.length) := hl1.1.symm
  clear hv1 hl1 ho1 HPb
  have htx : ∀ (W : World) (N : Nat), Src W (some ⟨N, 0, none⟩) 1 [1] → (convert 23 9 (.slice (some ⟨N, 0, none⟩) 1 1)).run Tryd.prog W = .ok (.string ⟨#[1]⟩) W := fun W N h => h.texts 1 W (Only.refl _ _)
  have HTx := Lib.hid htx
  clear htx
  go_wp2_with (first
    | (go_at_call 14; refine (HRp.out _).mono ?_; rintro e v2 ⟨B2, m2, d2, rfl, hl2, ho2⟩; obtain rfl : m2 = m1 := (by have h1 := hl2.1; have h2 := HM1.out; omega); have HG2 := Lib.hid hl2; have HH2 := Lib.hid (HG1.out.same ho2); have HR2 : Hid (Only (fun _ => False) w v2) := HR1.out.trans ho2 (fun _ h => h.elim); clear hl2 ho2 hcb)
    | (go_at_call 6; refine (HOx.out _ _ _ _ _ HH2.out (by have h1 := HM1.out; have h2 := HPl.out; omega)).mono ?_; rintro e v3 ⟨B3, d3, rfl, hl3, ho3⟩; have HG3 := Lib.hid hl3; have HH3 := Lib.hid (HG2.out.same ho3); have HR3 : Hid (Only (fun _ => False) w v3) := HR2.out.trans ho3 (fun _ h => h.elim); clear hl3 ho3)
    | (go_at_call 13; refine (suSame_any HG3.out HH3.out (by have h1 := HM1.out; have h2 := HPl.out; omega)).mono ?_; rintro e v4 ⟨rfl, ho4⟩; have HR4 : Hid (Only (fun _ => False) w v4) := HR3.out.trans ho4 (fun _ h => h.elim); clear ho4)
    | (go_at_call 9; refine (HNum.out _ _ _ HR4.out HF1.out).mono ?_; rintro e v5 ⟨rfl, ho5⟩; have HR5 : Hid (Only (fun _ => False) w v5) := HR4.out.trans ho5 (fun _ h => h.elim); clear ho5)
    | (go_at_call 15; refine (HAsk.out _).mono ?_; rintro e v6 ⟨rfl, hs6, ho6⟩; have hc6 := HTx.out _ _ hs6; have HR6 : Hid (Only (fun _ => False) w v6) := HR5.out.trans ho6 (fun _ h => h.elim); clear ho6 hs6)
    | fail)
  go_ret
  exact ⟨rfl, HR6.out⟩

theorem sbodies_bad {w : World} {es : List Addr} (hE : ErrsAt w es) (hC : CdW w) {A B : Option Addr} {n c m d : Nat} {l : List En} {b : List UInt8} (hl : EnAt w A n l) (hb : Src w B m b) (hn : n ≤ 150) (hm : m ≤ 300) (hmd : m ≤ d) (hd : d ≤ 9223372036854775807) (hz0 : suNum l ≠ 0) :
    Calls Tryd.prog 3 #[.slice A n c, .slice B m d] w (Fine w) := by
  have d0 : decide ((150 : Int) < (n : Int)) = false := by simp; omega
  have d1 : decide ((300 : Int) < (m : Int)) = false := by simp; omega
  have HA := Lib.hid (suAlive_any hC)
  have HOf := Lib.hid (fun W (ho : Only (fun _ => False) w W) => suOf_any (c := c) (hl.same ho) (by omega))
  have HBo := Lib.hid (fun W (ho : Only (fun _ => False) w W) => suBody_any (hE.only ho) (c := c) (hl.same ho) (by omega))
  have HLi := Lib.hid (fun W (ho : Only (fun _ => False) w W) => suLine_any (hC.only ho) (c := c) (hl.same ho) (by omega))
  have HPb := Lib.hid (fun W (ho : Only (fun _ => False) w W) => suParse_any (hE.only ho) (hb.only ho (fun _ _ _ h => h)) (by omega) hmd hd)
  have HRp := Lib.hid (fun W => rsuParse_any W b (by have := hb.1; omega))
  have HAsk := Lib.hid (fun W => suAsk_any W)
  have HTb := Lib.hid (hb.texts d)
  have HNum : Hid (∀ (W : World) (E : Value) (k : Nat), Only (fun _ => False) w W → ErrV es E k → Calls Tryd.prog 9 #[E] W fun e w' => e = .returned (.int .i64 (k : Int)) ∧ Only (fun _ => False) W w') := fun W E k ho hv => num_any (hE.only ho) hv
  have HBack := Lib.hid (body_back (l := l))
  have HE := Lib.hid hE
  have HOx : Hid (∀ (W : World) (A' : Option Addr) (m' c' : Nat) (l' : List En), EnAt W A' m' l' → m' ≤ 1000 → Calls Tryd.prog 6 #[.slice A' m' c'] W fun e w' => ∃ A2 c2, e = .returned (.slice A2 m' c2) ∧ EnAt w' A2 m' l' ∧ Only (fun _ => False) W w') := fun W A' m' c' l' h h1 => suOf_any h h1
  have hSl : (suBody l).length ≤ 1000 := by
    rw [suBody]
    by_cases hz : suNum l = 0
    · rw [if_pos hz, List.length_cons, enBytes_length, hl.1]
      omega
    · rw [if_neg hz]
      simp
  have hPl : (paList b).length ≤ 1000 := paList_length b (by have := hb.1; omega)
  obtain ⟨S, hS⟩ : ∃ S, S = suBody l := ⟨_, rfl⟩
  obtain ⟨z, hz⟩ : ∃ z, z = suNum l := ⟨_, rfl⟩
  obtain ⟨L, hL⟩ : ∃ L, L = lineAt 0 l := ⟨_, rfl⟩
  obtain ⟨pa, hpa⟩ : ∃ x, x = paAsks b := ⟨_, rfl⟩
  obtain ⟨pn, hpn⟩ : ∃ x, x = paNum b := ⟨_, rfl⟩
  obtain ⟨pl, hpl⟩ : ∃ x, x = paList b := ⟨_, rfl⟩
  have HRBo : Hid (∀ (W : World) (A' : Option Addr) (c' : Nat), EnAt W A' n l → Calls Tryd.prog 8 #[.slice A' n c'] W fun e w' => e = .returned (.tuple #[.string ⟨S.toArray⟩, .int .i64 (z : Int)]) ∧ Only (fun _ => False) W w') := fun W A' c' h => by
    rw [hS, hz]; exact rsuBody_any h (by omega)
  have HRLi : Hid (∀ (W : World) (A' : Option Addr) (c' : Nat), EnAt W A' n l → Calls Tryd.prog 11 #[.slice A' n c'] W fun e w' => e = .returned (.string ⟨L.toArray⟩) ∧ Only (fun _ => False) W w') := fun W A' c' h => by
    rw [hL]; exact rsuLine_any h (by omega)
  rw [← hS, ← hz] at HBo HBack
  rw [← hS] at hSl
  rw [← hpl] at hPl
  rw [← hz] at hz0
  have HZ0 := Lib.hid hz0
  have HSl := Lib.hid hSl
  have HPl := Lib.hid hPl
  rw [← hL] at HLi
  unfold Parsed at HPb
  unfold RParsed at HRp
  rw [← hpa, ← hpn, ← hpl] at HPb HRp
  have hss : (S == S) = true := by simp
  have hsn : (S != S) = false := by simp
  have hll : (L == L) = true := by simp
  have hln : (L != L) = false := by simp
  have hzn : ((z : Int) != (z : Int)) = false := by simp
  clear hE hC hl hb hS hz hL hpa hpn hpl hSl hPl hz0
  go_enter Tryd.func3, Tryd.ntmps3
  go_wp2_with (first
    | (go_at_call 5; refine HA.out.mono ?_; rintro e w1 ⟨rfl, ho1⟩; have HO1 := Lib.hid ho1; clear ho1)
    | (go_at_call 6; refine (HOf.out _ HO1.out).mono ?_; rintro e w2 ⟨A2, c2, rfl, hl2, ho2⟩; have HL2 := Lib.hid hl2; have HO2 : Hid (Only (fun _ => False) w w2) := HO1.out.trans ho2 (fun _ h => h.elim); clear hl2 ho2)
    | (go_at_call 7; refine (HBo.out _ HO2.out).mono ?_; rintro e w3 ⟨A3, k3, c3, E3, rfl, hv3, hs3, hc3, ho3⟩; obtain ⟨a3, rfl⟩ : ∃ a3, E3 = .iface 164 (.pointer (some a3)) := (by rcases hv3 with ⟨h, _⟩ | ⟨i, a, _, _, h⟩; exact absurd h HZ0.out; exact ⟨a, h⟩); have HV3 := Lib.hid hv3; have HS3 := Lib.hid hs3; have HC3 := Lib.hid hc3; have HL3 := Lib.hid (HL2.out.same ho3); have HO3 : Hid (Only (fun _ => False) w w3) := HO2.out.trans ho3 (fun _ h => h.elim); clear hv3 hs3 hc3 ho3)
    | (go_at_call 8; refine (HRBo.out _ _ _ HL3.out).mono ?_; rintro e w4 ⟨rfl, ho4⟩; have hcx := HS3.out.texts c3 w4 ho4; have HS4 := Lib.hid (HS3.out.only ho4 (fun _ _ _ h => h)); have HL4 := Lib.hid (HL3.out.same ho4); have HO4 : Hid (Only (fun _ => False) w w4) := HO3.out.trans ho4 (fun _ h => h.elim); clear ho4)
    | (go_at_call 9; refine (HNum.out _ _ _ HO4.out HV3.out).mono ?_; rintro e w5 ⟨rfl, ho5⟩; have HS5 := Lib.hid (HS4.out.only ho5 (fun _ _ _ h => h)); have HL5 := Lib.hid (HL4.out.same ho5); have HO5 : Hid (Only (fun _ => False) w w5) := HO4.out.trans ho5 (fun _ h => h.elim); clear ho5)
    | (go_at_call 10; refine (HLi.out _ HO5.out).mono ?_; rintro e w6 ⟨rfl, ho6⟩; have HS6 := Lib.hid (HS5.out.only ho6 (fun _ _ _ h => h)); have HL6 := Lib.hid (HL5.out.same ho6); have HO6 : Hid (Only (fun _ => False) w w6) := HO5.out.trans ho6 (fun _ h => h.elim); clear ho6)
    | (go_at_call 11; refine (HRLi.out _ _ _ HL6.out).mono ?_; rintro e w7 ⟨rfl, ho7⟩; have HS7 := Lib.hid (HS6.out.only ho7 (fun _ _ _ h => h)); have HL7 := Lib.hid (HL6.out.same ho7); have HO7 : Hid (Only (fun _ => False) w w7) := HO6.out.trans ho7 (fun _ h => h.elim); clear ho7 hcx)
    | fail)
  clear hss hsn hll hln hzn HA HOf HBo HLi HRBo HRLi HS3 HL3 HO1 HO2 HO3 HO4 HO5 HO6 HS4 HS5 HS6 HL2 HL4 HL5 HL6
  have HQ := HO7
  generalize w7 = wQ at *
  clear HO7
  clear HBack HZ0 HSl HS7 HL7 HV3 HC3
  have hpz : ((pn : Int) == (pn : Int)) = true := by simp
  have hpp : (pa == pa) = true := by simp
  refine (HPb.out _ HQ.out).mono ?_
  rintro e v1 ⟨B1, m1, d1, F1, rfl, hv1, hl1, ho1⟩
  have HF1 := Lib.hid hv1
  have HG1 := Lib.hid hl1
  have HR1 : Hid (Only (fun _ => False) w v1) := HQ.out.trans ho1 (fun _ h => h.elim)
  have hcb := HTb.out v1 HR1.out
  have HM1 : Hid (m1 = pl.length) := hl1.1.symm
  clear hv1 hl1 ho1 HPb
  have htx : ∀ (W : World) (N : Nat), Src W (some ⟨N, 0, none⟩) 1 [1] → (convert 23 9 (.slice (some ⟨N, 0, none⟩) 1 1)).run Tryd.prog W = .ok (.string ⟨#[1]⟩) W := fun W N h => h.texts 1 W (Only.refl _ _)
  have HTx := Lib.hid htx
  clear htx
  go_wp2_with (first
    | (go_at_call 14; refine (HRp.out _).mono ?_; rintro e v2 ⟨B2, m2, d2, rfl, hl2, ho2⟩; obtain rfl : m2 = m1 := (by have h1 := hl2.1; have h2 := HM1.out; omega); have HG2 := Lib.hid hl2; have HH2 := Lib.hid (HG1.out.same ho2); have HR2 : Hid (Only (fun _ => False) w v2) := HR1.out.trans ho2 (fun _ h => h.elim); clear hl2 ho2 hcb)
    | (go_at_call 6; refine (HOx.out _ _ _ _ _ HH2.out (by have h1 := HM1.out; have h2 := HPl.out; omega)).mono ?_; rintro e v3 ⟨B3, d3, rfl, hl3, ho3⟩; have HG3 := Lib.hid hl3; have HH3 := Lib.hid (HG2.out.same ho3); have HR3 : Hid (Only (fun _ => False) w v3) := HR2.out.trans ho3 (fun _ h => h.elim); clear hl3 ho3)
    | (go_at_call 13; refine (suSame_any HG3.out HH3.out (by have h1 := HM1.out; have h2 := HPl.out; omega)).mono ?_; rintro e v4 ⟨rfl, ho4⟩; have HR4 : Hid (Only (fun _ => False) w v4) := HR3.out.trans ho4 (fun _ h => h.elim); clear ho4)
    | (go_at_call 9; refine (HNum.out _ _ _ HR4.out HF1.out).mono ?_; rintro e v5 ⟨rfl, ho5⟩; have HR5 : Hid (Only (fun _ => False) w v5) := HR4.out.trans ho5 (fun _ h => h.elim); clear ho5)
    | (go_at_call 15; refine (HAsk.out _).mono ?_; rintro e v6 ⟨rfl, hs6, ho6⟩; have hc6 := HTx.out _ _ hs6; have HR6 : Hid (Only (fun _ => False) w v6) := HR5.out.trans ho6 (fun _ h => h.elim); clear ho6 hs6)
    | fail)
  go_ret
  exact ⟨rfl, HR6.out⟩

theorem trod_entry {H : Type} {enc : TypeId × Value → H} {W : World} {spare : Nat → Bool} {held : Bool} {n : Nat} {vs : List Value} {y : DataW H × List MemPlace} (hl : vs.length = 2) (h : DataW.trod enc Tryd.prog W 0 spare held n 70 vs = some y) : ∃ x : En, vs = x.cs := by
  obtain ⟨ys, k, _, _, _, hyl, hel⟩ := DataW.trod_struct Tryd.underlying70 h
  match vs, hl, hel with
  | [v0, v1], _, hel =>
    have hy : ∀ i, i < 2 → ∃ y, ys[i]? = some y := fun i hi => ⟨_, List.getElem?_eq_getElem (by rw [hyl]; exact hi)⟩
    have h0 := hel 0 _ rfl
    have h1 := hel 1 _ rfl
    obtain ⟨y0, e0⟩ := hy 0 (by omega)
    obtain ⟨y1, e1⟩ := hy 1 (by omega)
    rw [e0] at h0
    rw [e1] at h1
    replace h0 : DataW.trod enc Tryd.prog W 0 spare held k 3 [v0] = some y0 := h0
    replace h1 : DataW.trod enc Tryd.prog W 0 spare held k 3 [v1] = some y1 := h1
    obtain ⟨z0, q0, _, _⟩ := DataW.trod_int Tryd.underlying3 h0
    obtain ⟨z1, q1, _, _⟩ := DataW.trod_int Tryd.underlying3 h1
    obtain rfl : v0 = .int .i64 z0 := by simpa using q0
    obtain rfl : v1 = .int .i64 z1 := by simpa using q1
    exact ⟨⟨z0, z1⟩, rfl⟩
theorem open_entries {H : Type} {enc : TypeId × Value → H} {W : World} {spare : Nat → Bool} {fuel : Nat} {a0 : Option Addr} {len cap : Nat} {x : DataW H × List MemPlace} (h : DataW.trod enc Tryd.prog W 0 spare true fuel 22 [.slice a0 len cap] = some x) : len ≤ cap ∧ cap ≤ 9223372036854775807 ∧ ∃ l, EnAt W a0 len l :=
  open_ls (cs := En.cs) (m := 2) (by omega) Tryd.underlying22 (by kernel_rfl) (fun _ => rfl) (fun hl h => trod_entry hl h) h

theorem cd_facts {W : World} {l : List (String × DataW Unit)} (h : laidMet Tryd.prog l W) (h1 : ("truchman/codes.commandWords", texts cmdWords) ∈ l) (h2 : ("truchman/codes.optionWords", texts optWords) ∈ l) (h3 : ("internal/strconv.uint64pow10", Lib.tabData .u64 Lib.pow10Tab) ∈ l) : CdW W :=
  ⟨texts_of h h1 (by kernel_rfl) (by kernel_rfl) Tryd.underlying119 Tryd.underlying9 (by kernel_rfl),
   texts_of h h2 (by kernel_rfl) (by kernel_rfl) Tryd.underlying120 Tryd.underlying9 (by kernel_rfl),
   tab_of h (g := 20) h3 (by kernel_rfl) (by kernel_rfl) Tryd.underlying156 Tryd.underlying150 (by kernel_rfl) (by kernel_rfl)⟩
theorem statusBodies_facts {W : World} (h : laidMetH Tryd.prog Rows.statusBodiesRow.laid W) : CdW W ∧ ∃ es, ErrsAt W es := by
  rw [MakeChecks.laidMetH_plain _ _ _ (by kernel_rfl)] at h
  have h : laidMet Tryd.prog Rows.statusBodiesRow.laid W := h
  refine ⟨cd_facts h (by simp [Rows.statusBodiesRow, Rows.laid_truchman_codes_commandWords, texts, cmdWords]) (by simp [Rows.statusBodiesRow, Rows.laid_truchman_codes_optionWords, texts, optWords]) (by simp [Rows.statusBodiesRow, Rows.laid_internal_strconv_uint64pow10, Lib.tabData, Lib.pow10Tab]; rfl), ?_⟩
  exact errs_mid 3 h (by kernel_rfl) (by
    intro x hx
    simp only [Rows.statusBodiesRow, List.drop_succ_cons, List.drop_zero, List.take_succ_cons, List.take_zero, List.mem_cons, List.not_mem_nil, or_false] at hx
    rcases hx with rfl | rfl | rfl | rfl | rfl | rfl | rfl | rfl | rfl | rfl | rfl | rfl | rfl | rfl | rfl | rfl <;> exact ⟨_, rfl⟩)

theorem statusBodies_walk (W : World) {H : Type} {enc : TypeId × Value → H} {f0 f1 : Nat} {A B : Option Addr} {n c m d : Nat} {x y : DataW H × List MemPlace} (hf : DataW.trod enc Tryd.prog W 0 (fun _ => true) true f0 22 [.slice A n c] = some x) (hg : DataW.trod enc Tryd.prog W 0 (fun _ => true) true f1 23 [.slice B m d] = some y)
    (hF : CdW W ∧ ∃ es, ErrsAt W es) : Calls Tryd.prog 3 #[.slice A n c, .slice B m d] W (Fine W) := by
  obtain ⟨hC, es, hE⟩ := hF
  obtain ⟨_, _, l, hl⟩ := open_entries hf
  obtain ⟨A', n', c', xs, e1, h1, h2, h3⟩ := opened_cell hg
  injection e1 with e1 e2 e3
  subst e1 e2 e3
  by_cases h : 150 < n ∨ 300 < m
  · exact sbodies_long hC A B n c m d h
  · by_cases hz : suNum l = 0
    · exact sbodies_ok hE hC hl h1 (by omega) (by omega) h2 h3 hz
    · exact sbodies_bad hE hC hl h1 (by omega) (by omega) h2 h3 hz
end Go.Proofs.YthbmhoeaimdjmaaDoor
