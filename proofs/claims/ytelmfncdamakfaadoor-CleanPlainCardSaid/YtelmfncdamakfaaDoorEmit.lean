/- Package emit: one contract for each of its calls. -/
import Derived.Test.YtelmfncdamakfaaDoorEmitSay
import Derived.Test.YtelmfncdamakfaaDoorTk
import Derived.BigQuiet
namespace Go.Proofs.YtelmfncdamakfaaDoor
open Go Go.RowKit
set_option maxRecDepth 100000
set_option maxHeartbeats 4000000

/-- Where double stands. -/
structure DAt (w : World) (B : Nat) (ys xs : List UInt8) (W : World) (k : Nat) (V : Value) (n : Nat) : Prop where
  len : n = (xs ++ dbl (ys.take k)).length
  row : Body W B V (xs ++ dbl (ys.take k))
  only : Only (fun i => B ≤ i) w W

theorem double_any {w : World} {B : Nat} (hB : B ≤ w.heap.size) {VA : Option Addr} {n vc : Nat} {xs : List UInt8} (hrow : Body w B (.slice VA n vc) xs) (hn : n = xs.length)
    {A : Option Addr} {m c : Nat} {ys : List UInt8} (hs : Src w A m ys) (hold : 0 < m → ∀ ad, A = some ad → ad.block < B) (hbd : n + 2 * m ≤ 1048576) :
    Calls Tryd.prog 17 #[.slice VA n vc, .slice A m c] w fun e w' => ∃ V, e = .returned V ∧ Body w' B V (xs ++ dbl ys) ∧ Only (fun i => B ≤ i) w w' := by
  have HS := Lib.hid hs
  have HO := Lib.hid hold
  have H0 : Hid (DAt w B ys xs w 0 (.slice VA n vc) n) := ⟨by simp [dbl, hn], by simpa [dbl] using hrow, Only.refl _ _⟩
  have HN := Lib.hid hn
  clear hs hold hrow hn
  go_enter Tryd.func17, Tryd.ntmps17
  go_wp2
  go_loopw [0, 9] (fun v i W => ∃ (k : Nat) (A' : Option Addr) (n' c' : Nat), k ≤ m ∧ i = .int .i64 (k : Int) ∧ v = .slice A' n' c' ∧ Hid (DAt w B ys xs W k (.slice A' n' c') n')) (fun _ i _ => m - (intOf i).toNat)
  case atStart => exact ⟨0, _, _, _, Nat.zero_le _, rfl, rfl, H0.out⟩
  case round =>
    clear H0
    obtain ⟨k, A', n', c', hk, rfl, rfl, HD⟩ := hrel
    by_cases hlt : k < m
    · obtain ⟨x, hx⟩ : ∃ x, ys[k]? = some x := ⟨_, List.getElem?_eq_getElem (by rw [HS.out.1]; exact hlt)⟩
      have hsW := HS.out.only HD.out.only (fun h0 ad e hb => by have := HO.out h0 ad e; omega)
      obtain ⟨ad, rfl, hcell⟩ := hsW.2 (by omega)
      have c0 := hcell k x hx
      unfold B8 at c0
      have hkk : (ys.take k).length = k := by rw [List.length_take, HS.out.1]; omega
      have hb' : n' + 2 ≤ 1048576 := by
        have h1 := HD.out.len
        have h2 := (dbl_length (ys.take k)).2
        rw [List.length_append] at h1
        have := HN.out
        omega
      have hBW : B ≤ wr.heap.size := Nat.le_trans hB HD.out.only.size
      have HT := Lib.hid (take_snoc hx)
      obtain ⟨z, hz⟩ : ∃ z : Int, z = (x.toNat : Int) := ⟨_, rfl⟩
      rw [← hz] at c0
      have HZ : Hid (#[Value.int .u8 z] = ([x].map B8).toArray) := by rw [hz]; rfl
      by_cases h5 : x.toNat = 255
      · have d1 : (z == 255) = true := by rw [hz]; simp; omega
        have d2 : decide (z = 255) = true := by rw [hz]; simp; omega
        have H5 := Lib.hid h5
        clear hcell hsW hz hx hkk h5
        go_wp2_with (first
          | (at_builtin; refine step_bytes rfl (.tmp 15) (.tmp 17) rfl B _ _ _ (xs ++ dbl (ys.take k)) rfl (own_same HD.out.row ((Only.refl _ wr).alloc _)) HD.out.len (some ⟨wr.heap.size, 0, none⟩) 1 1 [x] rfl (src_new wr [x] _ _ _ 1 HZ.out rfl) (by omega) (by simp; omega) ?_; intro A1 c1 w1 hb1 ho1; have HO1 : Hid (Only (fun i => B ≤ i) w w1) := ((HD.out.only.alloc _).trans ho1.out (fun i hi => .inl hi)); clear ho1)
          | (at_builtin; refine step_bytes rfl (.tmp 19) (.tmp 21) rfl B _ _ _ (xs ++ dbl (ys.take k) ++ [x]) rfl (own_same hb1.out ((Only.refl _ w1).alloc _)) (by rw [HD.out.len]; exact (len_snoc _ _).symm) (some ⟨w1.heap.size, 0, none⟩) 1 1 [x] rfl (src_new w1 [x] _ _ _ 1 HZ.out rfl) (by omega) (by have := HO1.out.size; simp; omega) ?_; intro A2 c2 w2 hb2 ho2))
        go_roundw
        case rel =>
          refine ⟨k + 1, _, _, _, by omega, by go_num, rfl, ?_⟩
          have e : xs ++ dbl (ys.take (k + 1)) = xs ++ dbl (ys.take k) ++ [x] ++ [x] := by rw [HT.out, dbl_two _ _ H5.out]; simp only [List.append_assoc]
          refine ⟨?_, ?_, (HO1.out.alloc _).trans ho2.out (fun i hi => .inl hi)⟩
          · rw [e]
            have := HD.out.len
            simp only [List.length_append, List.length_singleton] at this ⊢
            omega
          · rw [e]
            exact hb2.out
        case measure => simp [intOf]; omega
      · have d1 : (z == 255) = false := by rw [hz]; simp; omega
        have d2 : decide (z = 255) = false := by rw [hz]; simp; omega
        have H5 := Lib.hid h5
        clear hcell hsW hz hx hkk h5
        go_wp2_with (first
          | (at_builtin; refine step_bytes rfl (.tmp 19) (.tmp 21) rfl B _ _ _ (xs ++ dbl (ys.take k)) rfl (own_same HD.out.row ((Only.refl _ wr).alloc _)) HD.out.len (some ⟨wr.heap.size, 0, none⟩) 1 1 [x] rfl (src_new wr [x] _ _ _ 1 HZ.out rfl) (by omega) (by simp; omega) ?_; intro A2 c2 w2 hb2 ho2))
        go_roundw
        case rel =>
          refine ⟨k + 1, _, _, _, by omega, by go_num, rfl, ?_⟩
          have e : xs ++ dbl (ys.take (k + 1)) = xs ++ dbl (ys.take k) ++ [x] := by rw [HT.out, dbl_one _ _ H5.out]; simp only [List.append_assoc]
          refine ⟨?_, ?_, (HD.out.only.alloc _).trans ho2.out (fun i hi => .inl hi)⟩
          · rw [e]
            have := HD.out.len
            simp only [List.length_append, List.length_singleton] at this ⊢
            omega
          · rw [e]
            exact hb2.out
        case measure => simp [intOf]; omega
    · go_wp2
      go_ret
      obtain rfl : k = m := by omega
      have h1 := HD.out.row
      rw [List.take_of_length_le (by rw [HS.out.1]; omega)] at h1
      exact ⟨_, rfl, h1, HD.out.only⟩

/-- Data. -/
theorem data_any {w : World} {A : Option Addr} {m c : Nat} {ys : List UInt8} (hs : Src w A m ys) (hbd : 2 * m ≤ 1048576) :
    Calls Tryd.prog 8 #[.slice A m c] w fun e w' => ∃ A' c', e = .returned (.slice A' (dbl ys).length c') ∧ Hid (Body w' w.heap.size (.slice A' (dbl ys).length c') (dbl ys)) ∧ Hid (Only (fun _ => False) w w') := by
  have C := Lib.hid (double_any (w := w) (B := w.heap.size) (c := c) (Nat.le_refl _) (VA := none) (n := 0) (vc := 0) (xs := []) (own_nil w _ _ _) rfl hs (fun hm ad e => hs.lt hm ad e) (by omega))
  go_enter Tryd.func8, Tryd.ntmps8
  go_wp2_with (go_at_call 17; refine C.out.mono ?_; rintro e w' ⟨V, rfl, hb, ho⟩)
  go_ret
  rw [List.nil_append] at hb
  obtain ⟨A', c', rfl, _⟩ := hb.form
  exact ⟨A', c', rfl, hb, (ho.mono (fun i hi => .inr hi))⟩
end Go.Proofs.YtelmfncdamakfaaDoor
