/- Package gram: a body's bytes, one item. -/
import Derived.Test.YtbjabjkmagekfaaDoorGramSay
import Derived.Test.YtbjabjkmagekfaaDoorBody
import Derived.Test.YtbjabjkmagekfaaDoorVerb
namespace Go.Proofs.YtbjabjkmagekfaaDoor
open Go Go.RowKit
set_option maxRecDepth 100000
set_option maxHeartbeats 4000000

/-- Where single stands. -/
structure SgAt (w : World) (xs : List UInt8) (W : World) (k : Nat) (V : Value) (n : Nat) (ys : List UInt8) : Prop where
  len : n = ys.length
  row : Body W w.heap.size V ys
  told : ys ++ single (xs.drop k) = single xs
  only : Only (fun _ => False) w W

theorem single_any {w : World} {A : Option Addr} {n c : Nat} {xs : List UInt8} (hs : Src w A n xs) (hn : n ≤ 1048576) :
    Calls Tryd.prog 30 #[.slice A n c] w fun e w' => ∃ A' c', e = .returned (.slice A' (single xs).length c') ∧ Hid (Body w' w.heap.size (.slice A' (single xs).length c') (single xs)) ∧ Hid (Only (fun _ => False) w w') := by
  have HS := Lib.hid hs
  have H0 : Hid (SgAt w xs w 0 (.slice none 0 0) 0 []) := ⟨rfl, nil_body _ _, by simp, Only.refl _ _⟩
  have HL := Lib.hid (single_length xs)
  clear hs
  go_enter Tryd.func30, Tryd.ntmps30
  go_wp2
  go_loopw [3, 4] (fun v i W => ∃ (k : Nat) (A' : Option Addr) (n' c' : Nat) (ys : List UInt8), k ≤ n + 1 ∧ i = .int .i64 (k : Int) ∧ v = .slice A' n' c' ∧ Hid (SgAt w xs W k (.slice A' n' c') n' ys)) (fun _ i _ => n + 1 - (intOf i).toNat)
  case atStart => exact ⟨0, _, _, _, [], Nat.zero_le _, rfl, rfl, H0.out⟩
  case round =>
    clear H0
    obtain ⟨k, A', n', c', ys, hk, rfl, rfl, HD⟩ := hrel
    by_cases hlt : k < n
    · obtain ⟨x, hx⟩ : ∃ x, xs[k]? = some x := ⟨_, List.getElem?_eq_getElem (by rw [HS.out.1]; exact hlt)⟩
      have hsW := HS.out.only HD.out.only (fun _ _ _ h => h)
      obtain ⟨ad, rfl, hcell⟩ := hsW.2 (by omega)
      have c0 := hcell k x hx
      unfold B8 at c0
      have hb' : n' ≤ 1048575 := by
        have h1 := HD.out.len
        have h2 := HD.out.told
        have h3 := congrArg List.length h2
        have h4 := HL.out
        have h5 := HS.out.1
        have h6 : 0 < (single (xs.drop k)).length := by
          rw [List.drop_eq_getElem_cons (by omega)]
          cases xs.drop (k + 1) with
          | nil => simp [single]
          | cons => rw [single]; split <;> simp
        rw [List.length_append] at h3
        omega
      have hBW : w.heap.size ≤ wr.heap.size := HD.out.only.size
      have hdr : xs.drop k = x :: xs.drop (k + 1) := by rw [List.drop_eq_getElem_cons (by rw [HS.out.1]; exact hlt), (List.getElem?_eq_some_iff.1 hx).2]
      have HDr := Lib.hid hdr
      obtain ⟨z, hz⟩ : ∃ z : Int, z = (x.toNat : Int) := ⟨_, rfl⟩
      rw [← hz] at c0
      have HZ : Hid (#[Value.int .u8 z] = ([x].map B8).toArray) := by rw [hz]; rfl
      have c0' : ∀ W, Only (fun i => w.heap.size ≤ i) wr W → W.cell? (ad.add k) = some (.int .u8 z) := fun W ho => ho.cellv c0 (fun h => by
        have := HS.out.lt (by omega) ad rfl
        rw [block_add] at h
        omega)
      have HC0 := Lib.hid c0'
      clear c0'
      by_cases h5 : x.toNat = 255
      · have d1 : (z == 255) = true := by rw [hz]; simp; omega
        have d2 : decide (z = 255) = true := by rw [hz]; simp; omega
        have H5 := Lib.hid h5
        clear hcell hsW hz hx hdr h5
        go_wp2_with (first
          | (at_builtin; refine step_bytes rfl (.tmp 11) (.tmp 16) rfl w.heap.size _ _ _ ys rfl (own_same HD.out.row ((Only.refl _ wr).alloc _)) HD.out.len (some ⟨wr.heap.size, 0, none⟩) 1 1 [x] rfl (src_new wr [x] _ _ _ 1 HZ.out rfl) (by omega) (by simp; omega) ?_; intro A1 c1 w1 hb1 ho1; have c1' := HC0.out w1 (((Only.refl (fun i => w.heap.size ≤ i) wr).alloc _).trans ho1.out (fun i hi => .inl hi))))
        go_roundw
        case rel =>
          refine ⟨k + 2, _, _, _, ys ++ [x], by omega, by go_num, rfl, ?_⟩
          refine ⟨by rw [len_snoc]; have := HD.out.len; omega, hb1.out, ?_, (HD.out.only.alloc _).trans ho1.out (fun i hi => .inr hi)⟩
          have h1 := HD.out.told
          rw [HDr.out] at h1
          rw [← h1, List.append_assoc, List.singleton_append]
          congr 1
          cases hd : xs.drop (k + 1) with
          | nil =>
            rw [List.drop_eq_nil_of_le (by have := congrArg List.length hd; rw [List.length_drop] at this; simp at this; omega)]
            rfl
          | cons y l =>
            rw [single_two _ _ H5.out]
            have : xs.drop (k + 2) = l := by
              rw [← List.tail_drop, hd]
              rfl
            rw [this]
        case measure => simp [intOf]; omega
      · have d1 : (z == 255) = false := by rw [hz]; simp; omega
        have d2 : decide (z = 255) = false := by rw [hz]; simp; omega
        have H5 := Lib.hid h5
        clear hcell hsW hz hx hdr h5
        go_wp2_with (first
          | (at_builtin; refine step_bytes rfl (.tmp 11) (.tmp 16) rfl w.heap.size _ _ _ ys rfl (own_same HD.out.row ((Only.refl _ wr).alloc _)) HD.out.len (some ⟨wr.heap.size, 0, none⟩) 1 1 [x] rfl (src_new wr [x] _ _ _ 1 HZ.out rfl) (by omega) (by simp; omega) ?_; intro A1 c1 w1 hb1 ho1; have c1' := HC0.out w1 (((Only.refl (fun i => w.heap.size ≤ i) wr).alloc _).trans ho1.out (fun i hi => .inl hi))))
        go_roundw
        case rel =>
          refine ⟨k + 1, _, _, _, ys ++ [x], by omega, by go_num, rfl, ?_⟩
          refine ⟨by rw [len_snoc]; have := HD.out.len; omega, hb1.out, ?_, (HD.out.only.alloc _).trans ho1.out (fun i hi => .inr hi)⟩
          have h1 := HD.out.told
          rw [HDr.out, single_plain _ H5.out] at h1
          rw [← h1, List.append_assoc]
          rfl
        case measure => simp [intOf]; omega
    · go_wp2
      go_ret
      have h1 := HD.out.told
      rw [List.drop_eq_nil_of_le (by rw [HS.out.1]; omega), single, List.append_nil] at h1
      have h2 := HD.out.row
      have h3 := HD.out.len
      subst h1 h3
      exact ⟨_, _, rfl, h2, HD.out.only⟩
end Go.Proofs.YtbjabjkmagekfaaDoor
