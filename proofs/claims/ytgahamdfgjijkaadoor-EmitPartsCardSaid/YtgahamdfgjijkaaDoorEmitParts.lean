/- EmitParts, walked. -/
import Derived.Test.YtgahamdfgjijkaaDoorEmitAlive
import Derived.Test.YtgahamdfgjijkaaDoorEmitRefT
import Derived.Test.YtgahamdfgjijkaaDoorTkOpen
import Derived.Test.YtgahamdfgjijkaaDoorByt
import Derived.Deep.RegionHeldLaw
namespace Go.Proofs.YtgahamdfgjijkaaDoor
open Go Go.RowKit
set_option maxRecDepth 100000
set_option maxHeartbeats 4000000

theorem eparts_long {w : World} {es : List Addr} (hes : ErrsAt w es) (A : Option Addr) (n c : Nat) (co o : Int) (h : 400 < n) : Calls Tryd.prog 4 #[.slice A n c, .int .i64 co, .int .i64 o] w (Fine w) := by
  have hd : decide ((400 : Int) < (n : Int)) = true := by simp; omega
  have HA := Lib.hid (ealive_any (hes.of [0, 3, 8]))
  clear hes
  go_enter Tryd.func4, Tryd.ntmps4
  go_wp2_with (go_at_call 6; refine HA.out.mono ?_; rintro e w1 ⟨rfl, ho1⟩)
  go_ret
  exact ⟨rfl, ho1⟩

/-- string(b) of bytes of the call's own, in every world that only grew. -/
def Texts (w : World) (A : Option Addr) (n c : Nat) (b : List UInt8) : Prop := ∀ W : World, Only (fun _ => False) w W → (convert 24 9 (.slice A n c)).run Tryd.prog W = .ok (.string ⟨b.toArray⟩) W
theorem Src.texts {w : World} {A : Option Addr} {n : Nat} {b : List UInt8} (h : Src w A n b) (c : Nat) : Texts w A n c b := fun W ho =>
  text_of (P := Tryd.prog) (h.only ho (fun _ _ _ h => h)) c 24 9 5 Tryd.underlying24 Tryd.underlying5 Tryd.underlying9
theorem Body.texts {w : World} {B : Nat} {A : Option Addr} {n c : Nat} {b : List UInt8} (h : Body w B (.slice A n c) b) (hn : n = b.length) : Texts w A n c b := (h.src hn).texts c

theorem eparts_ok {w : World} {es : List Addr} (hes : ErrsAt w es) (A : Option Addr) (n c : Nat) (xs : List UInt8) (hs : Src w A n xs) (co o : Int) (hn : n ≤ 400) : Calls Tryd.prog 4 #[.slice A n c, .int .i64 co, .int .i64 o] w (Fine w) := by
  have hd : decide ((400 : Int) < (n : Int)) = false := by simp; omega
  have HA := Lib.hid (ealive_any (hes.of [0, 3, 8]))
  have hxl := hs.1
  have HS := Lib.hid hs
  have HTx := Lib.hid (hs.texts c)
  obtain ⟨D, hD⟩ : ∃ D, D = dbl xs := ⟨_, rfl⟩
  obtain ⟨MD, hMD⟩ : ∃ MD, MD = D.length := ⟨_, rfl⟩
  obtain ⟨P, hP⟩ : ∃ P, P = tkBytes ⟨2, co, 0, [], false⟩ := ⟨_, rfl⟩
  obtain ⟨MP, hMP⟩ : ∃ MP, MP = P.length := ⟨_, rfl⟩
  obtain ⟨np, hnp⟩ : ∃ np, np = tkNum ⟨2, co, 0, [], false⟩ := ⟨_, rfl⟩
  obtain ⟨V, hV⟩ : ∃ V, V = tkBytes ⟨3, co, o, [], false⟩ := ⟨_, rfl⟩
  obtain ⟨MV, hMV⟩ : ∃ MV, MV = V.length := ⟨_, rfl⟩
  obtain ⟨nv, hnv⟩ : ∃ nv, nv = tkNum ⟨3, co, o, [], false⟩ := ⟨_, rfl⟩
  obtain ⟨S, hS⟩ : ∃ S, S = tkBytes ⟨4, 0, o, xs, false⟩ := ⟨_, rfl⟩
  obtain ⟨MS, hMS⟩ : ∃ MS, MS = S.length := ⟨_, rfl⟩
  obtain ⟨ns, hns⟩ : ∃ ns, ns = tkNum ⟨4, 0, o, xs, false⟩ := ⟨_, rfl⟩
  have HDa : Hid (∀ (W : World) (N : Nat), Src W (some ⟨N, 0, none⟩) n xs → Calls Tryd.prog 13 #[.slice (some ⟨N, 0, none⟩) n (n + 5)] W fun e w' => ∃ A1 c1, e = .returned (.slice A1 MD c1) ∧ Hid (Texts w' A1 MD c1 D) ∧ Hid (Only (fun _ => False) W w')) := fun W N h => by
    refine (data_any (c := n + 5) h (by omega)).mono ?_
    rintro e w' ⟨A1, c1, rfl, hb, ho⟩
    rw [hMD, hD]
    exact ⟨A1, c1, rfl, hb.out.texts rfl, ho⟩
  have HRD : Hid (∀ W, Calls Tryd.prog 14 #[.string ⟨xs.toArray⟩] W fun e w' => e = .returned (.string ⟨D.toArray⟩) ∧ W = w') := fun W => by rw [hD]; exact dataRef_any W xs (by omega)
  have HPl : Hid (∀ W, Only (fun _ => False) w W → Calls Tryd.prog 15 #[.int .i64 co] W fun e w' => ∃ A1 c1 E, e = .returned (.tuple #[.slice A1 MP c1, E]) ∧ Hid (Texts w' A1 MP c1 P) ∧ Hid (ErrV es E np) ∧ Hid (Only (fun _ => False) W w')) := fun W ho => by
    refine (plain_any ((hes.of [0, 3, 8]).only ho) co 0 [] false).mono ?_
    rintro e w' ⟨A1, c1, E, rfl, hb, hE, ho1⟩
    rw [← hP] at hb ⊢
    rw [← hnp] at hE
    rw [hMP]
    exact ⟨A1, c1, E, rfl, hb.out.texts rfl, hE, ho1⟩
  have HVe : Hid (∀ W, Only (fun _ => False) w W → Calls Tryd.prog 16 #[.int .i64 co, .int .i64 o] W fun e w' => ∃ A1 c1 E, e = .returned (.tuple #[.slice A1 MV c1, E]) ∧ Hid (Texts w' A1 MV c1 V) ∧ Hid (ErrV es E nv) ∧ Hid (Only (fun _ => False) W w')) := fun W ho => by
    refine (verb3_any ((hes.of [0, 3, 8]).only ho) co o [] false).mono ?_
    rintro e w' ⟨A1, c1, E, rfl, hb, hE, ho1⟩
    rw [← hV] at hb ⊢
    rw [← hnv] at hE
    rw [hMV]
    exact ⟨A1, c1, E, rfl, hb.out.texts rfl, hE, ho1⟩
  have HSu : Hid (∀ (W : World) (N : Nat), Only (fun _ => False) w W → Src W (some ⟨N, 0, none⟩) n xs → Calls Tryd.prog 17 #[.int .i64 o, .slice (some ⟨N, 0, none⟩) n (n + 5)] W fun e w' => ∃ A1 c1 E, e = .returned (.tuple #[.slice A1 MS c1, E]) ∧ Hid (Texts w' A1 MS c1 S) ∧ Hid (ErrV es E ns) ∧ Hid (Only (fun _ => False) W w')) := fun W N ho h => by
    refine (esub_any ((hes.of [0, 3, 8]).only ho) 0 o h).mono ?_
    rintro e w' ⟨A1, c1, E, rfl, hb, hE, ho1⟩
    rw [← hS] at hb ⊢
    rw [← hns] at hE
    rw [hMS]
    exact ⟨A1, c1, E, rfl, hb.out.texts rfl, hE, ho1⟩
  have HT1 : Hid (∀ W, Calls Tryd.prog 7 #[.agg #[.int .i64 2, .int .i64 co, .int .i64 0, .string ⟨#[]⟩, .bool false]] W fun e w' => e = .returned (.tuple #[.string ⟨P.toArray⟩, .int .i64 (np : Int)]) ∧ Only (fun _ => False) W w') := fun W => by
    rw [hP, hnp]
    exact tokenRef_any W 2 co 0 [] false (by simp)
  have HT2 : Hid (∀ W, Calls Tryd.prog 7 #[.agg #[.int .i64 3, .int .i64 co, .int .i64 o, .string ⟨#[]⟩, .bool false]] W fun e w' => e = .returned (.tuple #[.string ⟨V.toArray⟩, .int .i64 (nv : Int)]) ∧ Only (fun _ => False) W w') := fun W => by
    rw [hV, hnv]
    exact tokenRef_any W 3 co o [] false (by simp)
  have HT3 : Hid (∀ W, Calls Tryd.prog 7 #[.agg #[.int .i64 4, .int .i64 0, .int .i64 o, .string ⟨xs.toArray⟩, .bool false]] W fun e w' => e = .returned (.tuple #[.string ⟨S.toArray⟩, .int .i64 (ns : Int)]) ∧ Only (fun _ => False) W w') := fun W => by
    rw [hS, hns]
    exact tokenRef_any W 4 0 o xs false (by omega)
  have HNum : Hid (∀ (W : World) (E : Value) (num : Nat), Only (fun _ => False) w W → ErrV es E num → Calls Tryd.prog 10 #[E] W fun e w' => e = .returned (.int .i64 (num : Int)) ∧ Only (fun _ => False) W w') := fun W E num ho hE => num_any (hes.only ho) hE
  clear hes hs hD hMD hP hMP hnp hV hMV hnv hS hMS hns hxl
  go_enter Tryd.func4, Tryd.ntmps4
  go_wp2_with (first
    | (go_at_call 6; refine HA.out.mono ?_; rintro e w1 ⟨rfl, ho1⟩; have HO1 := Lib.hid ho1; clear ho1)
    | (go_at_call 12; refine (bytes_any (HS.out.only HO1.out (fun _ _ _ h => h)) c (by omega)).mono ?_; rintro e w2 ⟨rfl, hB2, ho2⟩; have HB2 := Lib.hid hB2; have HO2 : Hid (Only (fun _ => False) w w2) := HO1.out.trans ho2 (fun _ h => h.elim); clear hB2 ho2))
  obtain ⟨N, hN⟩ : ∃ N, N = w1.heap.size := ⟨_, rfl⟩
  rw [← hN] at HB2 ⊢
  have HIn : Hid (∀ W, Only (fun _ => False) w2 W → Src W (some ⟨N, 0, none⟩) n xs ∧ Blk W N 5 (xs.map B8 ++ marks 5)) := fun W ho => by
    have hb := HB2.out.only ho (fun h => h)
    refine ⟨hb.src HS.out.1 (fun j x hj => ?_), hb⟩
    rw [Nat.zero_add, List.getElem?_append_left (by rw [List.length_map]; exact (List.getElem?_eq_some_iff.1 hj).1), List.getElem?_map, hj]
    rfl
  have Q0 : Hid ((convert 24 9 (.slice A n c)).run Tryd.prog w2.drew = .ok (.string ⟨xs.toArray⟩) w2.drew) := HTx.out _ HO2.out.drew
  have HD2 : Hid (Only (fun _ => False) w2 w2.drew) := (Only.refl _ w2).drew
  clear hN HA
  go_region_held_law (fun W => (convert 24 9 (.slice A n c)).run Tryd.prog W = .ok (.string ⟨xs.toArray⟩) W)
    (first | exact Q3.out | exact Q0.out)
    (first
      | (go_at_call 13; (with_reducible refine (HDa.out _ N (HIn.out _ HD2.out).1).mono ?_); rintro e w3 ⟨A3, c3, rfl, ht3, ho3⟩; have HO3 : Hid (Only (fun _ => False) w2 w3) := HD2.out.trans ho3.out (fun _ h => h.elim); have Q3 : Hid ((convert 24 9 (.slice A n c)).run Tryd.prog w3 = .ok (.string ⟨xs.toArray⟩) w3) := HTx.out _ (HO2.out.trans HO3.out (fun _ h => h.elim)); have hcv3 := ht3.out w3 (Only.refl _ _))
      | (go_at_call 14; (with_reducible refine (HRD.out _).mono ?_); rintro e w4 ⟨rfl, e4⟩; subst w4))
  all_goals
    have HO3' : Hid (Only (fun _ => False) w w3) := HO2.out.trans HO3.out (fun _ h => h.elim)
    clear Q0 Q3 HDa HRD ho3
    go_wp2_with (first
      | (go_at_call 15; (with_reducible refine (HPl.out w3 HO3'.out).mono ?_); rintro e w4 ⟨A4, c4, E4, rfl, ht4, hE4, ho4⟩; have HO4 : Hid (Only (fun _ => False) w w4) := HO3'.out.trans ho4.out (fun _ h => h.elim))
      | (go_at_call 16; (with_reducible refine (HVe.out w4 HO4.out).mono ?_); rintro e w5 ⟨A5, c5, E5, rfl, ht5, hE5, ho5⟩; have HO5 : Hid (Only (fun _ => False) w w5) := HO4.out.trans ho5.out (fun _ h => h.elim); have HO25 : Hid (Only (fun _ => False) w2 w5) := (HO3.out.trans ho4.out (fun _ h => h.elim)).trans ho5.out (fun _ h => h.elim))
      | (go_at_call 17; (with_reducible refine (HSu.out w5 N HO5.out (HIn.out w5 HO25.out).1).mono ?_); rintro e w6 ⟨A6, c6, E6, rfl, ht6, hE6, ho6⟩; have HO6 : Hid (Only (fun _ => False) w w6) := HO5.out.trans ho6.out (fun _ h => h.elim))
      | (go_at_call 7; (with_reducible refine (HT1.out w6).mono ?_); rintro e w7 ⟨rfl, ho7⟩; have HO7 : Hid (Only (fun _ => False) w6 w7) := ho7; clear ho7)
      | (go_at_call 7; (with_reducible refine (HT2.out w7).mono ?_); rintro e w8 ⟨rfl, ho8⟩; have HO8 : Hid (Only (fun _ => False) w6 w8) := HO7.out.trans ho8 (fun _ h => h.elim); clear ho8; have hcx := HTx.out w8 (HO6.out.trans HO8.out (fun _ h => h.elim)))
      | (go_at_call 7; (with_reducible refine (HT3.out w8).mono ?_); rintro e w9 ⟨rfl, ho9⟩; have HO9 : Hid (Only (fun _ => False) w6 w9) := HO8.out.trans ho9 (fun _ h => h.elim); clear ho9; have HG9 : Hid (Only (fun _ => False) w w9) := HO6.out.trans HO9.out (fun _ h => h.elim); have hc9 := ht4.out w9 ((ho5.out.trans ho6.out (fun _ h => h.elim)).trans HO9.out (fun _ h => h.elim)))
      | (go_at_call 10; (with_reducible refine (HNum.out w9 E4 np HG9.out hE4.out).mono ?_); rintro e w10 ⟨rfl, ho10⟩; have HO10 : Hid (Only (fun _ => False) w6 w10) := HO9.out.trans ho10 (fun _ h => h.elim); have HG10 : Hid (Only (fun _ => False) w w10) := HO6.out.trans HO10.out (fun _ h => h.elim); clear ho10; have hc10 := ht5.out w10 (ho6.out.trans HO10.out (fun _ h => h.elim)))
      | (go_at_call 10; (with_reducible refine (HNum.out w10 E5 nv HG10.out hE5.out).mono ?_); rintro e w11 ⟨rfl, ho11⟩; have HO11 : Hid (Only (fun _ => False) w6 w11) := HO10.out.trans ho11 (fun _ h => h.elim); have HG11 : Hid (Only (fun _ => False) w w11) := HO6.out.trans HO11.out (fun _ h => h.elim); clear ho11; have hc11 := ht6.out w11 HO11.out)
      | (go_at_call 10; (with_reducible refine (HNum.out w11 E6 ns HG11.out hE6.out).mono ?_); rintro e w12 ⟨rfl, ho12⟩; have HO12 : Hid (Only (fun _ => False) w6 w12) := HO11.out.trans ho12 (fun _ h => h.elim); have HG12 : Hid (Only (fun _ => False) w w12) := HO6.out.trans HO12.out (fun _ h => h.elim); clear ho12)
      | (go_at_call 18; refine (kept_any (HS.out.only HG12.out (fun _ _ _ h => h)) c (by omega) (HIn.out w12 ((HO25.out.trans ho6.out (fun _ h => h.elim)).trans HO12.out (fun _ h => h.elim))).2).mono ?_; rintro e w13 ⟨rfl, e13⟩; subst w13))
    go_ret
    exact ⟨rfl, HG12.out⟩

theorem emitParts_walk (W : World) {H : Type} {enc : TypeId × Value → H} {fuel : Nat} {A : Option Addr} {n c : Nat} {x : DataW H × List MemPlace} (hf : DataW.trod enc Tryd.prog W 0 (fun _ => true) true fuel 24 [.slice A n c] = some x) (co o : Int) {es : List Addr} (hes : ErrsAt W es) :
    Calls Tryd.prog 4 #[.slice A n c, .int .i64 co, .int .i64 o] W (Fine W) := by
  obtain ⟨A', n', c', xs, e, h1, h2, h3⟩ := opened_cell hf
  injection e with e1 e2 e3
  subst e1 e2 e3
  by_cases h : 400 < n
  · exact eparts_long hes A n c co o h
  · exact eparts_ok hes A n c xs h1 co o (by omega)
end Go.Proofs.YtgahamdfgjijkaaDoor
