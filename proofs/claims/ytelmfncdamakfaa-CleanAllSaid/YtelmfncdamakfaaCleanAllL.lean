/- CleanAll, walked. -/
import Derived.Test.YtelmfncdamakfaaCleanAlive
import Derived.Test.YtelmfncdamakfaaCleanRef
import Derived.Test.YtelmfncdamakfaaCleanDat
import Derived.Test.YtelmfncdamakfaaMarked
import Derived.Test.YtelmfncdamakfaaIacOf
import Derived.Test.YtelmfncdamakfaaByt
import Derived.Test.YtelmfncdamakfaaOpenInts
import Derived.Deep.RegionHeldLaw
namespace Go.Proofs.Ytelmfncdamakfaa
open Go Go.ChangeShapes Go.WideShapes Go.ChangeAt Go.RowKit
set_option maxRecDepth 100000
set_option maxHeartbeats 4000000

theorem call_long (w : World) (A B : Option Addr) (n c m d : Nat) (raw : Bool) (h : 200 < n) : Calls Try.prog 3 #[.slice A n c, .slice B m d, .bool raw] w (Fine w) := by
  have hd : decide ((200 : Int) < (n : Int)) = true := by simp; omega
  go_enter Try.func3, Try.ntmps3
  go_wp2_with (first
    | (go_at_call 6; refine (clive_any _).mono ?_; rintro e w1 ⟨rfl, ho1⟩))
  go_ret
  exact ⟨rfl, ho1⟩
theorem call_many (w : World) (A B : Option Addr) (n c m d : Nat) (raw : Bool) (h : n ≤ 200) (h2 : 40 < m) : Calls Try.prog 3 #[.slice A n c, .slice B m d, .bool raw] w (Fine w) := by
  have hd : decide ((200 : Int) < (n : Int)) = false := by simp; omega
  have hd2 : decide ((40 : Int) < (m : Int)) = true := by simp; omega
  go_enter Try.func3, Try.ntmps3
  go_wp2_with (first
    | (go_at_call 6; refine (clive_any _).mono ?_; rintro e w1 ⟨rfl, ho1⟩))
  go_ret
  exact ⟨rfl, ho1⟩

theorem bts_mark {xs : List UInt8} {ms : List Bool} {raw : Bool} (h : ms.length = xs.length) : (bts xs ms raw).map Bt.mark = ms := by
  unfold bts
  induction xs generalizing ms with
  | nil => simp at h; simp [h]
  | cons x xs ih =>
    cases ms with
    | nil => simp at h
    | cons m ms => simp [ih (ms := ms) (by simpa using h)]
theorem bts_raw {xs : List UInt8} {ms : List Bool} {raw : Bool} (h : ms.length = xs.length) : (bts xs ms raw).map Bt.raw = List.replicate xs.length raw := by
  unfold bts
  induction xs generalizing ms with
  | nil => simp
  | cons x xs ih =>
    cases ms with
    | nil => simp at h
    | cons m ms => simp [ih (ms := ms) (by simpa using h), List.replicate_succ]

theorem call_ok (w : World) (A B : Option Addr) (n c m d : Nat) (xs : List UInt8) (zs : List Int) (hs : Src w A n xs) (hz : Ints w B m zs) (raw : Bool) (hn : n ≤ 200) (hm : m ≤ 40) :
    Calls Try.prog 3 #[.slice A n c, .slice B m d, .bool raw] w (Fine w) := by
  have hd : decide ((200 : Int) < (n : Int)) = false := by simp; omega
  have hd2 : decide ((40 : Int) < (m : Int)) = false := by simp; omega
  have hxl := hs.1
  have HS := Lib.hid hs
  have HZ := Lib.hid hz
  have HTx := Lib.hid (hs.texts c)
  have hml : (mkd n zs).length = xs.length := by rw [mkd_length, hxl]
  obtain ⟨l, hl⟩ : ∃ l, l = bts xs (mkd n zs) raw := ⟨_, rfl⟩
  have hlc : xs = l.map Bt.c := by rw [hl, bts_c hml]
  obtain ⟨out, hout⟩ : ∃ out, out = clean9 l 0 false false (ends9 .zero 0 xs) := ⟨_, rfl⟩
  have hfo : (feeds9 .zero 0 l).1 = out := by rw [hout, clean_all, ← hlc]
  have hfb : ∀ t ∈ out.map Prod.fst, isData t = true → ∃ x : UInt8, t.code = (x.toNat : Int) := by
    rw [← hfo]
    exact feeds9_bytes _ _ _
  obtain ⟨T, hT⟩ : ∃ T, T = out.map Prod.fst := ⟨_, rfl⟩
  obtain ⟨K, hK⟩ : ∃ K, K = T.length := ⟨_, rfl⟩
  obtain ⟨D, hD⟩ : ∃ D, D = data9 T := ⟨_, rfl⟩
  obtain ⟨dn, hdn⟩ : ∃ dn, dn = D.length := ⟨_, rfl⟩
  have hKl : K ≤ 200 := by
    have h1 := feeds9_length l .zero 0
    rw [hfo] at h1
    have h2 : l.length = n := by rw [hl, bts_length hml, hxl]
    rw [hK, hT, List.length_map]
    omega
  have HMk : Hid (∀ W, Only (fun _ => False) w W → Calls Try.prog 9 #[.int .i64 (n : Int), .slice B m d] W fun e w' => ∃ N, e = .returned (.slice (some ⟨N, 0, none⟩) n n) ∧ Hid (Flg w' (some ⟨N, 0, none⟩) n (l.map Bt.mark)) ∧ Hid (Only (fun _ => False) W w')) := fun W ho => by
    refine (marked_any (c := d) (hz.same ho) (by omega) (n := n) (by omega)).mono ?_
    rintro e w' ⟨rfl, hb, ho⟩
    exact ⟨_, rfl, by rw [hl, bts_mark hml]; exact hb.out.flg (mkd_length _ _), ho⟩
  have HFl : Hid (∀ W : World, Calls Try.prog 10 #[.int .i64 (n : Int), .bool raw] W fun e w' => ∃ N, e = .returned (.slice (some ⟨N, 0, none⟩) n n) ∧ Hid (Flg w' (some ⟨N, 0, none⟩) n (l.map Bt.raw)) ∧ Hid (Only (fun _ => False) W w')) := fun W => by
    rw [hl, bts_raw hml, hxl]
    exact (flags_any n raw (by omega)).mono fun e w' ⟨h1, h2, h3⟩ => ⟨_, h1, h2, h3⟩
  have HCl : Hid (∀ (W : World) (N6 N7 : Nat), Flg W (some ⟨N6, 0, none⟩) n (l.map Bt.mark) → Flg W (some ⟨N7, 0, none⟩) n (l.map Bt.raw) → Calls Try.prog 8 #[.string ⟨xs.toArray⟩, .slice (some ⟨N6, 0, none⟩) n n, .slice (some ⟨N7, 0, none⟩) n n] W fun e w' => ∃ A8 c8 B8 d8, e = .returned (.tuple #[.slice A8 K c8, .slice B8 K d8]) ∧ Hid (RRow w' W.heap.size (.slice A8 K c8) T) ∧ Hid (Only (fun _ => False) W w')) := fun W N6 N7 h6 h7 => by
    refine (refClean_any (c1 := n) (c2 := n) l xs hlc h6 h7 (by omega) out hout).mono ?_
    rintro e w' ⟨A8, c8, B8, d8, k8, rfl, hk, hr, _, ho⟩
    have : k8 = K := by rw [hK, hT, List.length_map]; exact hk.out
    subst this
    rw [← hT] at hr
    exact ⟨A8, c8, B8, d8, rfl, hr, ho⟩
  have HA : Hid (∀ (W : World) (N : Nat), Src W (some ⟨N, 0, none⟩) n xs → Ints W B m zs → Calls Try.prog 12 #[.slice (some ⟨N, 0, none⟩) n (n + 5), .slice B m d, .bool raw] W fun e w' => ∃ A' c', e = .returned (.slice A' K c') ∧ Hid (∃ (B0 : Nat) (ps : List TkP), ps.length = K ∧ ps.map TkP.t = T ∧ Toks w' B0 (.slice A' K c') ps) ∧ Hid (Only (fun _ => False) W w')) := fun W N h1 h2 => by
    refine (clean_all_any (c := n + 5) (d := d) h1 h2 raw (by omega) (by omega)).mono ?_
    rintro e w' ⟨A', c', ps, rfl, hp, ht, _, _, ho⟩
    have hp' := hp.out
    rw [← hl, hfo, ← hT] at hp'
    have hpl : ps.length = K := by rw [hK, ← hp', List.length_map]
    rw [hpl] at ht ⊢
    exact ⟨A', c', rfl, ⟨_, ps, hpl, hp', ht.out⟩, ho⟩
  have HDt : Hid (∀ (W : World) (N : Nat), Src W (some ⟨N, 0, none⟩) n xs → Ints W B m zs → Calls Try.prog 13 #[.slice (some ⟨N, 0, none⟩) n (n + 5), .slice B m d, .bool raw] W fun e w' => ∃ A' c', e = .returned (.slice A' dn c') ∧ Hid (Texts w' A' dn c' D) ∧ Hid (Only (fun _ => False) W w')) := fun W N h1 h2 => by
    refine (clean_data_any (c := n + 5) (d := d) h1 h2 raw (by omega) (by omega) D (by rw [hD, hT, ← hl, hfo])).mono ?_
    rintro e w' ⟨A', c', rfl, hb, ho⟩
    rw [hdn]
    exact ⟨A', c', rfl, hb.out.texts rfl, ho⟩
  have HRD : Hid (∀ (W : World) (B0 : Nat) (A8 : Option Addr) (c8 : Nat), RRow W B0 (.slice A8 K c8) T → Calls Try.prog 14 #[.slice A8 K c8] W fun e w' => e = .returned (.string ⟨D.toArray⟩) ∧ Hid (Only (fun _ => False) W w')) := fun W B0 A8 c8 h => by
    refine (refData_any h hK (by omega) (by rw [hT]; exact hfb)).mono ?_
    rintro e w' ⟨h1, h2⟩
    exact ⟨by rw [h1, hD], h2⟩
  have HXl := Lib.hid hxl
  clear hs hz hml hl hlc hout hfo hfb hT hK hD hdn hxl hKl
  go_enter Try.func3, Try.ntmps3
  go_wp2_with (first
    | (go_at_call 6; refine (clive_any _).mono ?_; rintro e w1 ⟨rfl, ho1⟩; have HO1 := Lib.hid ho1; clear ho1)
    | (go_at_call 7; refine (bytes_any (HS.out.only HO1.out (fun _ _ _ h => h)) c (by omega)).mono ?_; rintro e w2 ⟨rfl, hB2, ho2⟩; obtain ⟨N, hN⟩ : ∃ N, N = w1.heap.size := ⟨_, rfl⟩; rw [← hN] at hB2 ⊢; have HB2 := Lib.hid hB2; have HO2 : Hid (Only (fun _ => False) w w2) := HO1.out.trans ho2 (fun _ h => h.elim); clear hB2 ho2 hN; have HIn : Hid (∀ W, Only (fun _ => False) w2 W → Src W (some ⟨N, 0, none⟩) n xs ∧ Blk W N 5 (xs.map B8 ++ marks 5) ∧ Ints W B m zs ∧ Only (fun _ => False) w W) := (fun W ho => by
        have hb := HB2.out.only ho (fun h => h)
        refine ⟨hb.src HXl.out (fun j x hj => ?_), hb, HZ.out.same (HO2.out.trans ho (fun _ h => h.elim)), HO2.out.trans ho (fun _ h => h.elim)⟩
        rw [Nat.zero_add, List.getElem?_append_left (by rw [List.length_map]; exact (List.getElem?_eq_some_iff.1 hj).1), List.getElem?_map, hj]
        rfl)))
  have HD2 : Only (fun _ => False) w2 w2.drew := (Only.refl _ w2).drew
  have HConv : Hid (∀ W, Only (fun _ => False) w2 W → (convert 22 9 (.slice A n c)).run Try.prog W = .ok (.string ⟨xs.toArray⟩) W) := fun W ho => HTx.out W (HO2.out.trans ho (fun _ h => h.elim))
  go_region_held_law (fun W => (convert 22 9 (.slice A n c)).run Try.prog W = .ok (.string ⟨xs.toArray⟩) W)
    (exact HConv.out _ (by assumption))
    (first
      | (go_at_call 9; (with_reducible refine (HMk.out _ ((HIn.out _ (by assumption)).2.2.2)).mono ?_); rintro e w5 ⟨N5, rfl, hf5, ho5⟩; have HD5 : Only (fun _ => False) w2 w5 := HD2.trans ho5.out (fun _ h => h.elim))
      | (go_at_call 10; (with_reducible refine (HFl.out _).mono ?_); rintro e w6 ⟨N6, rfl, hf6, ho6⟩; have HD6 : Only (fun _ => False) w2 w6 := HD5.trans ho6.out (fun _ h => h.elim))
      | (go_at_call 8; (with_reducible refine (HCl.out _ N5 N6 (hf5.out.same ho6.out) hf6.out).mono ?_); rintro e w8 ⟨A8, c8, B8', d8, rfl, hr8, ho8⟩; have HD8 : Only (fun _ => False) w2 w8 := HD6.trans ho8.out (fun _ h => h.elim)))
  have HKept : Hid (∀ W, Only (fun _ => False) w2 W → Calls Try.prog 15 #[.slice (some ⟨N, 0, none⟩) n (n + 5), .slice A n c] W fun e w' => e = .returned (.bool true) ∧ W = w') := fun W ho =>
    kept_any (HS.out.only (HO2.out.trans ho (fun _ h => h.elim)) (fun _ _ _ h => h)) c (by omega) (HIn.out W ho).2.1
  have HRow8 : Hid (∀ W, Only (fun _ => False) w8 W → ∃ B0, RRow W B0 (.slice A8 K c8) T) := fun W ho => ⟨_, own_same hr8.out ho⟩
  have HSm : Hid (∀ (W : World) (A9 : Option Addr) (c9 : Nat), Only (fun _ => False) w8 W → (∃ (B0 : Nat) (ps : List TkP), ps.length = K ∧ ps.map TkP.t = T ∧ Toks W B0 (.slice A9 K c9) ps) → Calls Try.prog 11 #[.slice A9 K c9, .slice A8 K c8] W fun e w' => e = .returned (.bool true) ∧ Hid (Only (fun _ => False) W w')) := fun W A9 c9 ho ⟨_, ps, h1, h2, h3⟩ => by
    obtain ⟨_, hr⟩ := HRow8.out W ho
    exact (lsame_any h3 hr h1 h2).mono fun e w' ⟨h1, h2⟩ => ⟨h1, h2⟩
  have HRD2 : Hid (∀ W, Only (fun _ => False) w8 W → Calls Try.prog 14 #[.slice A8 K c8] W fun e w' => e = .returned (.string ⟨D.toArray⟩) ∧ Hid (Only (fun _ => False) W w')) := fun W ho => by
    obtain ⟨B0, hr⟩ := HRow8.out W ho
    exact HRD.out W B0 A8 c8 hr
  have HDD8 := Lib.hid HD8
  clear hf5 hf6 ho5 ho6 ho8 HD2 HD5 HD6 HMk HFl HCl HTx HB2
  go_wp2_with fail
  have HD8' : Only (fun _ => False) w2 w8.drew := HDD8.out.drew
  have HE8 : Only (fun _ => False) w8 w8.drew := (Only.refl _ w8).drew
  clear HD8
  go_region_held_law (fun W => (convert 22 9 (.slice A n c)).run Try.prog W = .ok (.string ⟨xs.toArray⟩) W)
    (exact HConv.out _ (by assumption))
    (first
      | (go_at_call 12; (with_reducible refine (HA.out _ N (HIn.out _ (by assumption)).1 (HIn.out _ (by assumption)).2.2.1).mono ?_); rintro e w9 ⟨A9, c9, rfl, ht9, ho9⟩; have HD9 : Only (fun _ => False) w2 w9 := HD8'.trans ho9.out (fun _ h => h.elim); have HE9 : Only (fun _ => False) w8 w9 := HE8.trans ho9.out (fun _ h => h.elim))
      | (go_at_call 11; (with_reducible refine (HSm.out w9 A9 c9 HE9 ht9.out).mono ?_); rintro e w10 ⟨rfl, ho10⟩; have HD10 : Only (fun _ => False) w2 w10 := HD9.trans ho10.out (fun _ h => h.elim); have HE10 : Only (fun _ => False) w8 w10 := HE9.trans ho10.out (fun _ h => h.elim))
      | (go_at_call 13; (with_reducible refine (HDt.out _ N (HIn.out _ HD10).1 (HIn.out _ HD10).2.2.1).mono ?_); rintro e w11 ⟨A11, c11, rfl, ht11, ho11⟩; have HD11 : Only (fun _ => False) w2 w11 := HD10.trans ho11.out (fun _ h => h.elim); have HE11 : Only (fun _ => False) w8 w11 := HE10.trans ho11.out (fun _ h => h.elim); have hcv11 := ht11.out w11 (Only.refl _ _))
      | (go_at_call 14; (with_reducible refine (HRD2.out _ HE11).mono ?_); rintro e w12 ⟨rfl, ho12⟩; have HD12 : Only (fun _ => False) w2 w12 := HD11.trans ho12.out (fun _ h => h.elim); have hcv12 := ht11.out w12 ho12.out)
      | (go_at_call 15; (with_reducible refine (HKept.out _ HD12).mono ?_); rintro e w13 ⟨rfl, e13⟩; subst w13))
  all_goals
    go_wp2
    go_ret
    exact ⟨rfl, HO2.out.trans HD12 (fun _ h => h.elim)⟩

theorem cleanAll_walk (W : World) {H : Type} {enc : TypeId × Value → H} {f0 f1 : Nat} {A B : Option Addr} {n c m d : Nat} {x y : DataW H × List MemPlace} (hf : DataW.trod enc Try.prog W 0 (fun _ => true) true f0 22 [.slice A n c] = some x)
    (hg : DataW.trod enc Try.prog W 0 (fun _ => true) true f1 23 [.slice B m d] = some y) (raw : Bool) :
    Calls Try.prog 3 #[.slice A n c, .slice B m d, .bool raw] W (Fine W) := by
  obtain ⟨A', n', c', xs, e1, h1, h2, h3⟩ := opened_cell hf
  injection e1 with e1 e2 e3
  subst e1 e2 e3
  obtain ⟨B', m', d', zs, e1, h4, h5, h6⟩ := opened_ints hg
  injection e1 with e1 e2 e3
  subst e1 e2 e3
  by_cases h : 200 < n
  · exact call_long W A B n c m d raw h
  · by_cases h' : 40 < m
    · exact call_many W A B n c m d raw (by omega) h'
    · exact call_ok W A B n c m d xs zs h1 h4 raw (by omega) (by omega)
end Go.Proofs.Ytelmfncdamakfaa
