/- NvtCodes, walked. -/
import Derived.Test.YtckfbdjebbnieaaNvtAlive
import Derived.Test.YtckfbdjebbnieaaNvtRef
import Derived.Test.YtckfbdjebbnieaaByt
import Derived.Test.YtckfbdjebbnieaaOpenBytes
import Derived.Deep.RegionHeldLaw
namespace Go.Proofs.Ytckfbdjebbnieaa
open Go Go.ChangeShapes Go.WideShapes Go.ChangeAt Go.RowKit
set_option maxRecDepth 100000
set_option maxHeartbeats 4000000

theorem ncodes_long (w : World) (A : Option Addr) (n c : Nat) (raw : Bool) (h : 500 < n) : Calls Try.prog 3 #[.slice A n c, .bool raw] w (Fine w) := by
  have hd : decide ((500 : Int) < (n : Int)) = true := by simp; omega
  clear h
  go_enter Try.func3, Try.ntmps3
  go_wp2_with (go_at_call 6; refine (nalive_any _).mono ?_; rintro e w1 ⟨rfl, ho1⟩)
  go_ret
  exact ⟨rfl, ho1⟩

theorem zip_flags (s : List UInt8) (raw : Bool) : s.zip (List.replicate s.length raw) = flags8 raw s := by
  induction s with
  | nil => rfl
  | cons x l ih => simp [flags8, List.replicate_succ] at ih ⊢; exact ih

theorem ncodes_ok (w : World) (A : Option Addr) (n c : Nat) (xs : List UInt8) (hs : Src w A n xs) (raw : Bool) (hn : n ≤ 500) : Calls Try.prog 3 #[.slice A n c, .bool raw] w (Fine w) := by
  have hd : decide ((500 : Int) < (n : Int)) = false := by simp; omega
  have hxl := hs.1
  have HS := Lib.hid hs
  have HTx := Lib.hid (hs.texts c)
  obtain ⟨E, hE⟩ : ∃ E, E = out8 raw xs := ⟨_, rfl⟩
  obtain ⟨D, hD⟩ : ∃ D, D = in8 false (flags8 raw xs) := ⟨_, rfl⟩
  obtain ⟨en, hen⟩ : ∃ en, en = E.length := ⟨_, rfl⟩
  obtain ⟨dn, hdn⟩ : ∃ dn, dn = D.length := ⟨_, rfl⟩
  have HEn : Hid (∀ (W : World) (N : Nat), Src W (some ⟨N, 0, none⟩) n xs → Calls Try.prog 8 #[.slice (some ⟨N, 0, none⟩) n (n + 5), .bool raw] W fun e w' => ∃ A1 c1, e = .returned (.slice A1 en c1) ∧ Hid (Texts w' A1 en c1 E) ∧ Hid (Only (fun _ => False) W w')) := fun W N h => by
    refine (encode_any (c := n + 5) h raw (by omega) (by omega)).mono ?_
    rintro e w' ⟨A1, c1, rfl, hb, ho⟩
    rw [hen, hE]
    exact ⟨A1, c1, rfl, hb.out.texts rfl, ho⟩
  have HDe : Hid (∀ (W : World) (N : Nat), Src W (some ⟨N, 0, none⟩) n xs → Calls Try.prog 9 #[.slice (some ⟨N, 0, none⟩) n (n + 5), .bool raw] W fun e w' => ∃ A1 c1, e = .returned (.slice A1 dn c1) ∧ Hid (Texts w' A1 dn c1 D) ∧ Hid (Only (fun _ => False) W w')) := fun W N h => by
    refine (decode_any (c := n + 5) h raw (by omega)).mono ?_
    rintro e w' ⟨A1, c1, rfl, hb, ho⟩
    rw [hdn, hD]
    exact ⟨A1, c1, rfl, hb.out.texts rfl, ho⟩
  have HRE : Hid (∀ W, Calls Try.prog 10 #[.string ⟨xs.toArray⟩, .bool raw] W fun e w' => e = .returned (.string ⟨E.toArray⟩) ∧ W = w') := fun W => by rw [hE]; exact encodeRef_any W xs raw (by omega)
  have HFl : Hid (∀ W : World, Calls Try.prog 12 #[.int .i64 (xs.length : Int), .bool raw] W fun e w' => ∃ N, e = .returned (.slice (some ⟨N, 0, none⟩) n n) ∧ Hid (Flg w' (some ⟨N, 0, none⟩) n (List.replicate n raw)) ∧ Hid (Only (fun _ => False) W w')) := fun W =>
    by rw [hxl]; exact (flags_any n raw (by omega)).mono fun e w' ⟨h1, h2, h3⟩ => ⟨_, h1, h2, h3⟩
  have HRD : Hid (∀ (W : World) (N : Nat), Flg W (some ⟨N, 0, none⟩) n (List.replicate n raw) → Calls Try.prog 11 #[.string ⟨xs.toArray⟩, .slice (some ⟨N, 0, none⟩) n n] W fun e w' => e = .returned (.string ⟨D.toArray⟩) ∧ Hid (Only (fun _ => False) W w')) := fun W N h => by
    have := decodeRef_any (s := xs) (c := n) h (by omega) (by omega) (by omega)
    rw [← hxl, zip_flags, ← hD] at this
    rw [← hxl]
    exact this.mono fun e w' ⟨h1, h2⟩ => ⟨h1, h2⟩
  have HXl := Lib.hid hxl
  clear hs hE hD hen hdn hxl
  go_enter Try.func3, Try.ntmps3
  go_wp2_with (first
    | (go_at_call 6; refine (nalive_any _).mono ?_; rintro e w1 ⟨rfl, ho1⟩; have HO1 := Lib.hid ho1; clear ho1)
    | (go_at_call 7; refine (bytes_any (HS.out.only HO1.out (fun _ _ _ h => h)) c (by omega)).mono ?_; rintro e w2 ⟨rfl, hB2, ho2⟩; obtain ⟨N, hN⟩ : ∃ N, N = w1.heap.size := ⟨_, rfl⟩; rw [← hN] at hB2 ⊢; have HB2 := Lib.hid hB2; have HO2 : Hid (Only (fun _ => False) w w2) := HO1.out.trans ho2 (fun _ h => h.elim); clear hB2 ho2 hN; have HIn : Hid (∀ W, Only (fun _ => False) w2 W → Src W (some ⟨N, 0, none⟩) n xs ∧ Blk W N 5 (xs.map B8 ++ marks 5)) := (fun W ho => by
        have hb := HB2.out.only ho (fun h => h)
        refine ⟨hb.src HXl.out (fun j x hj => ?_), hb⟩
        rw [Nat.zero_add, List.getElem?_append_left (by rw [List.length_map]; exact (List.getElem?_eq_some_iff.1 hj).1), List.getElem?_map, hj]
        rfl))
    | (go_at_call 8; (with_reducible refine (HEn.out w2 N (HIn.out _ (Only.refl _ _)).1).mono ?_); rintro e w3 ⟨A3, c3, rfl, ht3, ho3⟩)
    | (go_at_call 9; (with_reducible refine (HDe.out w3 N (HIn.out _ ho3.out).1).mono ?_); rintro e w4 ⟨A4, c4, rfl, ht4, ho4⟩; have HO24 : Hid (Only (fun _ => False) w2 w4) := ho3.out.trans ho4.out (fun _ h => h.elim); have HO4 : Hid (Only (fun _ => False) w w4) := HO2.out.trans HO24.out (fun _ h => h.elim); have hcx := HTx.out w4 HO4.out))
  have HD4 : Only (fun _ => False) w4 w4.drew := (Only.refl _ w4).drew
  have HAll : Hid (∀ W, Only (fun _ => False) w4 W → ((convert 22 9 (.slice A3 en c3)).run Try.prog W = .ok (.string ⟨E.toArray⟩) W ∧ (convert 22 9 (.slice A4 dn c4)).run Try.prog W = .ok (.string ⟨D.toArray⟩) W)) := fun W ho =>
    ⟨ht3.out W (ho4.out.trans ho (fun _ h => h.elim)), ht4.out W ho⟩
  have HKept : Hid (∀ W, Only (fun _ => False) w4 W → Calls Try.prog 13 #[.slice (some ⟨N, 0, none⟩) n (n + 5), .slice A n c] W fun e w' => e = .returned (.bool true) ∧ W = w') := fun W ho =>
    kept_any (HS.out.only (HO4.out.trans ho (fun _ h => h.elim)) (fun _ _ _ h => h)) c (by omega) (HIn.out W (HO24.out.trans ho (fun _ h => h.elim))).2
  clear hcx ht3 ht4 ho3 ho4
  go_region_held_law (fun W => (convert 22 9 (.slice A3 en c3)).run Try.prog W = .ok (.string ⟨E.toArray⟩) W ∧ (convert 22 9 (.slice A4 dn c4)).run Try.prog W = .ok (.string ⟨D.toArray⟩) W)
    (exact HAll.out _ (by assumption))
    (first
      | (go_at_call 10; (with_reducible refine (HRE.out _).mono ?_); rintro e w5 ⟨rfl, e5⟩; subst w5)
      | (go_at_call 12; (with_reducible refine (HFl.out _).mono ?_); rintro e w6 ⟨N6, rfl, hf6, ho6⟩; have HD6 : Only (fun _ => False) w4 w6 := HD4.trans ho6.out (fun _ h => h.elim))
      | (go_at_call 11; (with_reducible refine (HRD.out _ N6 hf6.out).mono ?_); rintro e w7 ⟨rfl, ho7⟩; have HD7 : Only (fun _ => False) w4 w7 := HD6.trans ho7.out (fun _ h => h.elim))
      | (go_at_call 13; (with_reducible refine (HKept.out _ HD7).mono ?_); rintro e w8 ⟨rfl, e8⟩; subst w8))
  all_goals
    go_wp2
    go_ret
    exact ⟨rfl, HO4.out.trans HD7 (fun _ h => h.elim)⟩

theorem nvtCodes_walk (W : World) {H : Type} {enc : TypeId × Value → H} {fuel : Nat} {A : Option Addr} {n c : Nat} {x : DataW H × List MemPlace} (hf : DataW.trod enc Try.prog W 0 (fun _ => true) true fuel 22 [.slice A n c] = some x) (raw : Bool) :
    Calls Try.prog 3 #[.slice A n c, .bool raw] W (Fine W) := by
  obtain ⟨A', n', c', xs, e1, h1, h2, h3⟩ := opened_cell hf
  injection e1 with e1 e2 e3
  subst e1 e2 e3
  by_cases h : 500 < n
  · exact ncodes_long W A n c raw h
  · exact ncodes_ok W A n c xs h1 raw (by omega)
end Go.Proofs.Ytckfbdjebbnieaa
