/- NvtNext, walked. -/
import Derived.Test.YtckfbdjebbnieaaNvtAlive
import Derived.Test.YtckfbdjebbnieaaNvtRef
import Derived.Test.YtckfbdjebbnieaaOpenBytes
import Derived.Deep.Grids
namespace Go.Proofs.Ytckfbdjebbnieaa
open Go Go.ChangeShapes Go.WideShapes Go.ChangeAt Go.RowKit
set_option maxRecDepth 100000
set_option maxHeartbeats 4000000

theorem nnext_long (w : World) (A B : Option Addr) (n c m e : Nat) (h : 500 < n) : Calls Try.prog 4 #[.slice A n c, .slice B m e] w (Fine w) := by
  have hd : decide ((500 : Int) < (n : Int)) = true := by simp; omega
  clear h
  go_enter Try.func4, Try.ntmps4
  go_wp2_with (go_at_call 6; refine (nalive_any _).mono ?_; rintro e w1 ⟨rfl, ho1⟩)
  go_ret
  exact ⟨rfl, ho1⟩
theorem nnext_few (w : World) (A B : Option Addr) (n c m e : Nat) (h : n ≤ 500) (h2 : m < n) : Calls Try.prog 4 #[.slice A n c, .slice B m e] w (Fine w) := by
  have hd : decide ((500 : Int) < (n : Int)) = false := by simp; omega
  have hd2 : decide ((m : Int) < (n : Int)) = true := by simp; omega
  clear h
  go_enter Try.func4, Try.ntmps4
  go_wp2_with (go_at_call 6; refine (nalive_any _).mono ?_; rintro e w1 ⟨rfl, ho1⟩)
  go_ret
  exact ⟨rfl, ho1⟩

/-- Where NvtNext stands. -/
structure NextAt (w : World) (g : Nat) (s : List UInt8) (rs : List Bool) (W : World) (k : Nat) (ys : List UInt8) (b : Bool) : Prop where
  le : ys.length ≤ k
  told : ys ++ in8 b ((s.zip rs).drop k) = in8 false (s.zip rs)
  blk : Blk W g 34 [.bool b]
  only : Only (fun _ => False) w W

theorem nnext_ok (w : World) (A B : Option Addr) (n c m e : Nat) (s : List UInt8) (rs : List Bool) (hs : Src w A n s) (hr : Flg w B m rs) (h : n ≤ 500) (hnc : n ≤ c) (h2 : n ≤ m) (h63 : m ≤ 9223372036854775807) : Calls Try.prog 4 #[.slice A n c, .slice B m e] w (Fine w) := by
  have hd : decide ((500 : Int) < (n : Int)) = false := by simp; omega
  have hd2 : decide ((m : Int) < (n : Int)) = false := by simp; omega
  have hd3 : decide (m < n) = false := by simp; omega
  have HS := Lib.hid hs
  have HR := Lib.hid hr
  have HTx := Lib.hid (hs.texts c)
  have HDec := Lib.hid (fun W (ho : Only (fun _ => False) w W) => decodeRef_any (s := s) (c := e) (hr.same ho) (by rw [hs.1]; exact h2) (by rw [hs.1]; omega) h63)
  clear hs hr
  go_enter Try.func4, Try.ntmps4
  go_wp2_with (first
    | (go_at_call 6; refine (nalive_any _).mono ?_; rintro e w1 ⟨rfl, ho1⟩))
  have hb0 := Blk.new w1 34 [.bool false]
  have H0 : Hid (NextAt w w1.heap.size s rs (w1.alloc (.cells [Value.bool false].toArray 34)) 0 [] false) := ⟨Nat.le_refl _, by simp, hb0, ho1.alloc _⟩
  have HSz := Lib.hid ho1.size
  clear hb0 ho1
  obtain ⟨g, hg⟩ : ∃ g, g = w1.heap.size := ⟨_, rfl⟩
  rw [← hg] at H0 HSz ⊢
  clear hg
  go_loopw [6, 25] (fun v i W => ∃ (k : Nat) (ys : List UInt8), k ≤ n ∧ i = .int .i64 (k : Int) ∧ v = .string ⟨ys.toArray⟩ ∧ ys.length ≤ k ∧ Hid (∃ b, NextAt w g s rs W k ys b)) (fun _ i _ => n - (intOf i).toNat)
  case atStart => exact ⟨0, [], Nat.zero_le _, rfl, rfl, Nat.le_refl _, false, H0.out⟩
  case round =>
    clear H0
    obtain ⟨k, ys, hk, rfl, rfl, hyl, HD⟩ := hrel
    obtain ⟨b, hI⟩ := HD.out
    by_cases hlt : k < n
    · obtain ⟨x, hx⟩ : ∃ x, s[k]? = some x := ⟨_, List.getElem?_eq_getElem (by rw [HS.out.1]; exact hlt)⟩
      obtain ⟨r, hr⟩ : ∃ r, rs[k]? = some r := ⟨_, List.getElem?_eq_getElem (by rw [HR.out.1]; omega)⟩
      have hsW := HS.out.only hI.only (fun _ _ _ h => h)
      have hrW := HR.out.same hI.only
      obtain ⟨ad, rfl, hcell⟩ := hsW.2 (by omega)
      obtain ⟨bd, rfl, hfl⟩ := hrW.2 (by omega)
      have c0 := hcell k x hx
      unfold B8 at c0
      have c1 := hfl k r hr
      have HN := next_any hI.blk x r
      have HT := hI.told
      rw [drop_at (zip_at hx hr)] at HT
      simp only [in8] at HT
      have HI2 : Hid (∀ w2, Only (· = g) wr w2 → Only (fun _ => False) w w2) := fun w2 ho => hI.only.trans ho (fun i hi => .inr (by rw [hi]; exact HSz.out))
      obtain ⟨q, hq⟩ : ∃ q, q = (b && decide (x.toNat = 0) && !r) := ⟨_, rfl⟩
      rw [← hq] at HN
      have hiff : (b = true ∧ x.toNat = 0 ∧ r = false) ↔ q = true := by rw [hq]; simp [and_assoc]
      simp only [hiff] at HT
      obtain ⟨p1, h1⟩ : ∃ p, p = decide (x.toNat = 13) := ⟨_, rfl⟩
      obtain ⟨z, hz⟩ : ∃ z : Int, z = (x.toNat : Int) := ⟨_, rfl⟩
      have e1 : (z == 13) = p1 := by rw [h1, hz, Bool.eq_iff_iff]; simp; omega
      have e1' : decide (z = 13) = p1 := by rw [h1, hz, Bool.eq_iff_iff]; simp; omega
      rw [← h1] at HN HT
      rw [← hz] at c0 HN
      have HCx : Hid (∀ W C, Only (fun _ => False) w W → (convert 22 9 (.slice (some (ad.add k)) 1 C)).run Try.prog W = .ok (.string ⟨#[x]⟩) W) := fun W C ho => by
        have h3 := (HS.out.only ho (fun _ _ _ h => h)).piece k (k + 1) (by omega) (by omega) (some (ad.add k)) (fun h0 ad' e => by injection e with e; rw [e])
        rw [show k + 1 - k = 1 from by omega, take_snoc hx, List.drop_append_of_le_length (by rw [List.length_take, HS.out.1]; omega), List.drop_eq_nil_of_le (by rw [List.length_take]; omega)] at h3
        exact text_of (P := Try.prog) h3 C 22 9 5 Try.underlying22 Try.underlying5 Try.underlying9
      have HSum : Hid (∀ W, (Op.stringOp .add (ByteArray.mk ys.toArray) (ByteArray.mk #[x])).run Try.prog W = .ok (.string (ByteArray.mk (ys ++ [x]).toArray)) W) := fun W => sum_texts _ [x] _ rfl (by simp; omega)
      have HTold := Lib.hid HT
      have HNx := Lib.hid HN
      have HBeh := Lib.hid (fun (W : World) b' (h : Blk W g 34 [.bool b']) => behind_any h)
      have hkc : c ≠ k := by omega
      have HFl : Hid (∀ W, Only (fun _ => False) w W → W.cell? (bd.add k) = some (.bool r)) := fun W ho => by
        obtain ⟨bd', e, hc⟩ := (HR.out.same ho).2 (by omega)
        injection e with e
        subst e
        exact hc k r hr
      clear hcell hsW hrW hfl hz hx hr hq h1 hiff HD hI HT HN
      cases q with
      | true =>
        simp only [Bool.not_true] at HNx
        cases p1 <;> cases r
        all_goals
          simp only [Bool.and_true, Bool.and_false, Bool.not_true, Bool.not_false, Bool.true_and, Bool.false_and] at HNx HTold
          go_wp2_with (first
            | (go_at_call 14; refine HNx.out.mono ?_; rintro e w2 ⟨rfl, hB2, ho2⟩; have hfl2 := HFl.out w2 (HI2.out _ ho2.out))
            | (go_at_call 15; refine (HBeh.out _ _ hB2.out).mono ?_; rintro e w3 ⟨rfl, rfl⟩))
          go_roundw
          case rel =>
            refine ⟨k + 1, ys, by omega, by go_num, rfl, by omega, _, by omega, ?_, hB2.out, HI2.out _ ho2.out⟩
            simpa using HTold.out
          case measure => simp [intOf]; omega
      | false =>
        simp only [Bool.not_false] at HNx
        have hsum := HSum.out
        cases p1 <;> cases r
        all_goals
          simp only [Bool.and_true, Bool.and_false, Bool.not_true, Bool.not_false, Bool.true_and, Bool.false_and] at HNx HTold
          go_wp2_with (first
            | (go_at_call 14; refine HNx.out.mono ?_; rintro e w2 ⟨rfl, hB2, ho2⟩; have hfl2 := HFl.out w2 (HI2.out _ ho2.out); have hcx := fun C => HCx.out w2 C (HI2.out _ ho2.out))
            | (go_at_call 15; refine (HBeh.out _ _ hB2.out).mono ?_; rintro e w3 ⟨rfl, rfl⟩))
          go_roundw
          case rel =>
            refine ⟨k + 1, ys ++ [x], by omega, by go_num, rfl, by simp; omega, _, by simp; omega, ?_, hB2.out, HI2.out _ ho2.out⟩
            rw [← HTold.out]
            simp
          case measure => simp [intOf]; omega
    · obtain rfl : k = n := by omega
      have htold := hI.told
      rw [List.drop_eq_nil_of_le (by rw [List.length_zip, HS.out.1]; omega)] at htold
      simp only [in8, List.append_nil] at htold
      have hO := hI.only
      have HO := Lib.hid hO
      have hcv := HTx.out wr hO
      have HD2 := HDec.out wr hO
      rw [← htold] at HD2
      have HD3 := Lib.hid HD2
      clear HD hI hO HD2 htold
      go_wp2_with (first
        | (go_at_call 11; refine HD3.out.mono ?_; rintro e w2 ⟨rfl, ho2⟩))
      go_ret
      exact ⟨rfl, HO.out.trans ho2 (fun _ h => h.elim)⟩

theorem nvtNext_walk (W : World) {H : Type} {enc : TypeId × Value → H} {f0 f1 : Nat} {A B : Option Addr} {n c m e : Nat} {x y : DataW H × List MemPlace} (hf : DataW.trod enc Try.prog W 0 (fun _ => true) true f0 22 [.slice A n c] = some x)
    (hg : DataW.trod enc Try.prog W 0 (fun _ => true) true f1 28 [.slice B m e] = some y) :
    Calls Try.prog 4 #[.slice A n c, .slice B m e] W (Fine W) := by
  obtain ⟨A', n', c', xs, e1, h1, h2, h3⟩ := opened_cell hf
  injection e1 with e1 e2 e3
  subst e1 e2 e3
  have hb : ∃ rs, Flg W B m rs ∧ m ≤ 9223372036854775807 := by
    rcases Go.Deep.open_bools Try.underlying28 Try.underlying4 (by kernel_rfl) hg with ⟨h, _⟩ | ⟨a, len, cap, Bs, h, _, hl, hm, _, hc⟩
    · simp at h
      obtain ⟨rfl, rfl, rfl⟩ := h
      exact ⟨[], ⟨rfl, fun h => absurd h (by omega)⟩, by omega⟩
    · simp at h
      obtain ⟨rfl, rfl, rfl⟩ := h
      refine ⟨(List.range m).map Bs, ⟨by simp, fun _ => ⟨_, rfl, fun j r hj => ?_⟩⟩, by unfold maxLen at hm; omega⟩
      rw [List.getElem?_map] at hj
      obtain ⟨i, hi, rfl⟩ := Option.map_eq_some_iff.1 hj
      obtain ⟨h4, h5⟩ := List.getElem?_eq_some_iff.1 hi
      simp at h4 h5
      subst h5
      exact hc j (by omega)
  obtain ⟨rs, hr, h63⟩ := hb
  by_cases h : 500 < n
  · exact nnext_long W A B n c m e h
  · by_cases h' : m < n
    · exact nnext_few W A B n c m e (by omega) h'
    · exact nnext_ok W A B n c m e xs rs h1 hr (by omega) h2 (by omega) h63
end Go.Proofs.Ytckfbdjebbnieaa
