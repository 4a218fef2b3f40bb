/- Package nvt: Encode. -/
import Derived.Test.YtelmfncdamakfaaDoorNvtIn
namespace Go.Proofs.YtelmfncdamakfaaDoor
open Go Go.RowKit
set_option maxRecDepth 100000
set_option maxHeartbeats 4000000

/-- endsLine. -/
theorem ends_any {w : World} {A : Option Addr} {n c : Nat} {xs : List UInt8} (hs : Src w A n xs) :
    Calls Tryd.prog 18 #[.slice A n c] w fun e w' => e = .returned (.bool (decide (xs.head?.map UInt8.toNat = some 10))) ∧ w = w' := by
  cases xs with
  | nil =>
    obtain rfl : n = 0 := hs.1.symm
    clear hs
    go_enter Tryd.func18, Tryd.ntmps18
    go_wp2
    go_ret
    exact ⟨rfl, rfl⟩
  | cons x xs =>
    obtain ⟨ad, rfl, hc⟩ := hs.2 (by have := hs.1; simp at this; omega)
    have c0 := hc 0 x rfl
    unfold B8 at c0
    rw [show ad.add 0 = ad from by simp [Addr.add]] at c0
    have hn : 0 < n := by have := hs.1; simp at this; omega
    have hd : decide ((0 : Int) < (n : Int)) = true := by simp; omega
    obtain ⟨z, hz⟩ : ∃ z : Int, z = (x.toNat : Int) := ⟨_, rfl⟩
    rw [← hz] at c0
    obtain ⟨p0, h0⟩ : ∃ p, p = decide (((x :: xs).head?.map UInt8.toNat) = some 10) := ⟨_, rfl⟩
    rw [← h0]
    have e0 : (z == 10) = p0 := by rw [h0, hz, Bool.eq_iff_iff]; simp; omega
    have e0' : decide (z = 10) = p0 := by rw [h0, hz, Bool.eq_iff_iff]; simp; omega
    clear hs hc hz h0
    go_enter Tryd.func18, Tryd.ntmps18
    go_wp2
    go_ret
    exact ⟨rfl, rfl⟩

/-- Where Encode stands. -/
structure OutAt (w : World) (raw : Bool) (xs : List UInt8) (W : World) (k : Nat) (V : Value) (n : Nat) (ys : List UInt8) : Prop where
  len : n = ys.length
  le : ys.length ≤ 2 * k
  row : Body W w.heap.size V ys
  told : ys ++ out8 raw (xs.drop k) = out8 raw xs
  only : Only (fun _ => False) w W

theorem encode_any {w : World} {A : Option Addr} {n c : Nat} {xs : List UInt8} (hs : Src w A n xs) (raw : Bool) (hn : n ≤ 100000) (hc : n ≤ c) :
    Calls Tryd.prog 9 #[.slice A n c, .bool raw] w fun e w' => ∃ A' c', e = .returned (.slice A' (out8 raw xs).length c') ∧ Hid (Body w' w.heap.size (.slice A' (out8 raw xs).length c') (out8 raw xs)) ∧ Hid (Only (fun _ => False) w w') := by
  have HS := Lib.hid hs
  have H0 : Hid (OutAt w raw xs w 0 (.slice none 0 0) 0 []) := ⟨rfl, Nat.zero_le _, nil_body _ _, by simp, Only.refl _ w⟩
  clear hs
  go_enter Tryd.func9, Tryd.ntmps9
  go_wp2
  go_loopw [5, 10] (fun v i W => ∃ (k : Nat) (A' : Option Addr) (n' c' : Nat), k ≤ n ∧ i = .int .i64 (k : Int) ∧ v = .slice A' n' c' ∧ Hid (∃ ys, OutAt w raw xs W k (.slice A' n' c') n' ys)) (fun _ i _ => n - (intOf i).toNat)
  case atStart => exact ⟨0, _, _, _, Nat.zero_le _, rfl, rfl, [], H0.out⟩
  case round =>
    clear H0
    obtain ⟨k, A', n', c', hk, rfl, rfl, HD⟩ := hrel
    obtain ⟨ys, hI⟩ := HD.out
    by_cases hlt : k < n
    · obtain ⟨x, hx⟩ : ∃ x, xs[k]? = some x := ⟨_, List.getElem?_eq_getElem (by rw [HS.out.1]; exact hlt)⟩
      have hsW := HS.out.only hI.only (fun _ _ _ h => h)
      obtain ⟨ad, rfl, hcell⟩ := hsW.2 (by omega)
      have c0 := hcell k x hx
      unfold B8 at c0
      have HT := hI.told
      have hdx := drop_at hx
      rw [hdx] at HT
      simp only [out8] at HT
      have hb' : n' + 2 ≤ 1048576 := by have h1 := hI.len; have h2 := hI.le; omega
      have hBW : w.heap.size ≤ wr.heap.size := hI.only.size
      obtain ⟨z, hz⟩ : ∃ z : Int, z = (x.toNat : Int) := ⟨_, rfl⟩
      rw [← hz] at c0
      have HZ : Hid (#[Value.int .u8 z] = ([x].map B8).toArray) := by rw [hz]; rfl
      have HI := Lib.hid hI
      obtain ⟨p1, h1⟩ : ∃ p, p = decide (x.toNat = 13) := ⟨_, rfl⟩
      have e1 : (z == 13) = p1 := by rw [h1, hz, Bool.eq_iff_iff]; simp; omega
      have e1' : decide (z = 13) = p1 := by rw [h1, hz, Bool.eq_iff_iff]; simp; omega
      obtain ⟨p2, h2⟩ : ∃ p, p = decide ((xs.drop (k + 1)).head?.map UInt8.toNat = some 10) := ⟨_, rfl⟩
      have hiff : (x.toNat = 13 ∧ raw = false ∧ (xs.drop (k + 1)).head?.map UInt8.toNat ≠ some 10) ↔ (p1 = true ∧ raw = false ∧ p2 = false) := by rw [h1, h2]; simp
      have HE : Hid (∀ W (D : Option Addr) (C : Nat), Only (fun _ => False) w W → (k + 1 < n → D = some (ad.add (k + 1))) → Calls Tryd.prog 18 #[.slice D (n - (k + 1)) C] W fun e w' => e = .returned (.bool p2) ∧ W = w') := fun W D C ho hD => by
        have h3 := (HS.out.only ho (fun _ _ _ h => h)).piece (k + 1) n (by omega) (Nat.le_refl _) D (fun h0 ad' e => by rw [hD h0]; injection e with e; rw [e])
        rw [List.take_of_length_le (by rw [HS.out.1]; omega)] at h3
        rw [h2]
        exact ends_any h3
      have HW2 : Hid (Only (fun _ => False) w wr) := hI.only
      simp only [hiff] at HT
      have HTold := Lib.hid HT
      have hk1 : k + 1 ≤ n := hlt
      have hk1c : k + 1 ≤ c := by omega
      clear hcell hsW hz hx hdx h1 h2 hiff HD hI HT
      cases p1 with
      | false =>
        go_wp2_with (first
          | (at_builtin; refine step_bytesG rfl (.tmp 15) (.tmp 17) rfl w.heap.size _ _ _ ys rfl (own_same HI.out.row ((Only.refl _ wr).alloc _)) HI.out.len (some ⟨wr.heap.size, 0, none⟩) 1 1 [x] rfl (src_new wr [x] _ _ _ 1 HZ.out rfl) (by omega) (by have := HI.out.only.size; simp; omega) ?_; intro A3 c3 w3 hb3 hg3))
        go_roundw
        case rel =>
          refine ⟨k + 1, _, _, _, by omega, by go_num, rfl, ys ++ [x], ?_, ?_, hb3.out, ?_, ?_⟩
          · have := HI.out.len
            simp
            omega
          · have := HI.out.le
            simp
            omega
          · have := HTold.out
            rw [← this]
            simp
          · exact (HI.out.only.alloc _).grown hg3.out (fun k hk => .inr (own_lt HI.out.row k hk).1)
        case measure => simp [intOf]; omega
      | true =>
        cases raw with
        | true =>
          go_wp2_with (first
            | (at_builtin; refine step_bytesG rfl (.tmp 15) (.tmp 17) rfl w.heap.size _ _ _ ys rfl (own_same HI.out.row ((Only.refl _ wr).alloc _)) HI.out.len (some ⟨wr.heap.size, 0, none⟩) 1 1 [x] rfl (src_new wr [x] _ _ _ 1 HZ.out rfl) (by omega) (by have := HI.out.only.size; simp; omega) ?_; intro A3 c3 w3 hb3 hg3))
          go_roundw
          case rel =>
            refine ⟨k + 1, _, _, _, by omega, by go_num, rfl, ys ++ [x], ?_, ?_, hb3.out, ?_, ?_⟩
            · have := HI.out.len
              simp
              omega
            · have := HI.out.le
              simp
              omega
            · have := HTold.out
              rw [← this]
              simp
            · exact (HI.out.only.alloc _).grown hg3.out (fun k hk => .inr (own_lt HI.out.row k hk).1)
          case measure => simp [intOf]; omega
        | false =>
          cases p2 with
          | true =>
            go_wp2_with (first
              | (go_at_call 18; (with_reducible refine Calls.mono (HE.out w3 _ _ HO3.out (by intro h; rw [if_neg (by omega)]; simp [Addr.add])) ?_); rintro e w' ⟨rfl, rfl⟩)
              | (at_builtin; refine step_bytesG rfl (.tmp 15) (.tmp 17) rfl w.heap.size _ _ _ ys rfl (own_same HI.out.row ((Only.refl _ wr).alloc _)) HI.out.len (some ⟨wr.heap.size, 0, none⟩) 1 1 [x] rfl (src_new wr [x] _ _ _ 1 HZ.out rfl) (by omega) (by have := HI.out.only.size; simp; omega) ?_; intro A3 c3 w3 hb3 hg3; have HO3 : Hid (Only (fun _ => False) w w3) := (HI.out.only.alloc _).grown hg3.out (fun k hk => .inr (own_lt HI.out.row k hk).1)))
            all_goals
              go_roundw
              case rel =>
                refine ⟨k + 1, _, _, _, by omega, by go_num, rfl, ys ++ [x], ?_, ?_, hb3.out, ?_, HO3.out⟩
                · have := HI.out.len
                  simp
                  omega
                · have := HI.out.le
                  simp
                  omega
                · have := HTold.out
                  rw [← this]
                  simp
              case measure => simp [intOf]; omega
          | false =>
            go_wp2_with (first
              | (go_at_call 18; (with_reducible refine Calls.mono (HE.out w3 _ _ HO3.out (by intro h; rw [if_neg (by omega)]; simp [Addr.add])) ?_); rintro e w' ⟨rfl, rfl⟩)
              | (at_builtin; refine step_bytesG rfl (.tmp 15) (.tmp 17) rfl w.heap.size _ _ _ ys rfl (own_same HI.out.row ((Only.refl _ wr).alloc _)) HI.out.len (some ⟨wr.heap.size, 0, none⟩) 1 1 [x] rfl (src_new wr [x] _ _ _ 1 HZ.out rfl) (by omega) (by have := HI.out.only.size; simp; omega) ?_; intro A3 c3 w3 hb3 hg3; have HO3 : Hid (Only (fun _ => False) w w3) := (HI.out.only.alloc _).grown hg3.out (fun k hk => .inr (own_lt HI.out.row k hk).1))
              | (at_builtin; refine step_bytesG rfl (.tmp 33) (.tmp 34) rfl w.heap.size _ _ _ (ys ++ [x]) rfl (own_same hb3.out ((Only.refl _ w3).alloc _)) (by rw [HI.out.len]; exact (len_snoc _ _).symm) (some ⟨w3.heap.size, 0, none⟩) 1 1 [0] rfl (src_new w3 [0] _ _ _ 1 rfl rfl) (by omega) (by have := HO3.out.size; simp; omega) ?_; intro A4 c4 w4 hb4 hg4))
            all_goals
              go_roundw
              case rel =>
                refine ⟨k + 1, _, _, _, by omega, by go_num, rfl, ys ++ [x] ++ [0], ?_, ?_, hb4.out, ?_, ?_⟩
                · have := HI.out.len
                  simp
                  omega
                · have := HI.out.le
                  simp
                  omega
                · have := HTold.out
                  rw [← this]
                  simp
                · exact (HO3.out.alloc _).grown hg4.out (fun k hk => .inr (own_lt hb3.out k hk).1)
              case measure => simp [intOf]; omega
    · obtain rfl : k = n := by omega
      have htold := hI.told
      rw [List.drop_eq_nil_of_le (by rw [HS.out.1]; omega)] at htold
      simp only [out8, List.append_nil] at htold
      obtain rfl : n' = ys.length := hI.len
      have HI := Lib.hid hI
      clear HD hI
      subst htold
      go_wp2
      go_ret
      exact ⟨_, _, rfl, HI.out.row, HI.out.only⟩
end Go.Proofs.YtelmfncdamakfaaDoor
