/- The document's own answers of layer 5: sub, Next. -/
import Derived.Test.YtelmfncdamakfaaStr
namespace Go.Proofs.Ytelmfncdamakfaa
open Go Go.RowKit
set_option maxRecDepth 100000
set_option maxHeartbeats 4000000

theorem sub_ref (w : World) (s : List UInt8) (c d e : UInt8) (l : List UInt8) (hs : s = c :: d :: e :: l) (hlen : s.length ≤ 100000) :
    Calls Try.prog 38 #[.string ⟨s.toArray⟩] w fun e' w' => e' = .returned (.tuple #[.agg (rkCells (tokN (subGo (e.toNat : Int) [] 3 l)).1).toArray, .int .i64 ((tokN (subGo (e.toNat : Int) [] 3 l)).2 : Int)]) ∧ Only (fun _ => False) w w' := by
  obtain ⟨R, hR⟩ : ∃ R, R = subGo (e.toNat : Int) [] 3 l := ⟨_, rfl⟩
  rw [← hR]
  have H0 := Lib.hid (show subGo (e.toNat : Int) [] 3 (s.drop 3) = R by rw [hs, hR]; rfl)
  have he : s[2]? = some e := by rw [hs]; rfl
  have h3 : 3 ≤ s.length := by rw [hs]; simp
  have hi2 := str_get he (by show 2 < s.length; omega)
  have hwe : wrap64 ((e.toNat : Nat) : Int) = (e.toNat : Int) := wrap64_nat _ (by have := e.toNat_lt; omega)
  clear hs hR he
  obtain ⟨n, hn⟩ : ∃ n, n = s.length := ⟨_, rfl⟩
  have HN := Lib.hid hn
  clear hn
  go_enter Try.func38, Try.ntmps38
  go_wp2
  go_loopw [4, 5] (fun b a W => ∃ (k : Nat) (f : List UInt8), a = .int .i64 (k : Int) ∧ b = .string ⟨f.toArray⟩ ∧ 3 ≤ k ∧ k ≤ s.length ∧ f.length ≤ k ∧ Hid (subGo (e.toNat : Int) f k (s.drop k) = R) ∧ W = w.alloc (.cells #[.int .i64 0, .int .i64 0, .int .i64 0, .string ⟨#[]⟩, .bool false] 56)) (fun _ a _ => s.length - (intOf a).toNat)
  case atStart => exact ⟨3, [], rfl, rfl, Nat.le_refl _, h3, by simp, H0.out, rfl⟩
  case round =>
    obtain ⟨k, f, rfl, rfl, hk3, hkl, hfk, hrel, rfl⟩ := hrel
    by_cases hlt : k < s.length
    · obtain ⟨x, hx⟩ : ∃ x, s[k]? = some x := ⟨_, List.getElem?_eq_getElem hlt⟩
      have hix := str_get hx (by show k < s.length; omega)
      have hdr : s.drop k = x :: s.drop (k + 1) := by rw [List.drop_eq_getElem_cons hlt, (List.getElem?_eq_some_iff.1 hx).2]
      have HD := Lib.hid hdr
      have HX := Lib.hid hx
      have HR := hrel
      clear hdr hx hrel
      by_cases h255 : x.toNat = 255
      · have hb : (((x.toNat : Nat) : Int) != 255) = false := by simp [h255]
        by_cases hend : k + 1 = s.length
        · have hd1 : (((k : Nat) : Int) == (s.length : Int) - 1) = true := by simp; omega
          go_wp2
          have eR : R = none := by
            have := HR.out
            rw [HD.out, List.drop_eq_nil_of_le (by omega), subGo, if_pos h255] at this
            exact this.symm
          rw [eR]
          refine ret_cell2 rfl _ rfl _ (rkCells Tk.none) _ (Blk.new' _ _ _ rfl) Try.underlying56 rfl size_rtok rfl ?_
          exact ⟨rfl, (Only.refl _ _).alloc _⟩
        · have hd1 : (((k : Nat) : Int) == (s.length : Int) - 1) = false := by simp; omega
          obtain ⟨y, hy⟩ : ∃ y, s[k + 1]? = some y := ⟨_, List.getElem?_eq_getElem (by omega)⟩
          have hiy := str_get hy (by show k + 1 < s.length; omega)
          have hwy : wrap64 ((y.toNat : Nat) : Int) = (y.toNat : Int) := wrap64_nat _ (by have := y.toNat_lt; omega)
          have hdy : s.drop (k + 1) = y :: s.drop (k + 2) := by rw [List.drop_eq_getElem_cons (by omega), (List.getElem?_eq_some_iff.1 hy).2]
          rw [hdy] at HD
          clear hdy hy
          by_cases hy255 : y.toNat = 255
          · have hb2 : (((y.toNat : Nat) : Int) == 255) = true := by simp [hy255]
            go_wp2
            go_roundw
            case rel =>
              refine ⟨k + 2, f ++ [255], by go_num, by rw [← str_two], by omega, by omega, by simp; omega, ?_, trivial⟩
              have := HR.out
              rw [HD.out, subGo, if_pos h255, if_pos hy255] at this
              exact this
            case measure => simp [intOf]; omega
          · have hb2 : (((y.toNat : Nat) : Int) == 255) = false := by simp; omega
            by_cases hy240 : y.toNat = 240
            · have hb3 : (((y.toNat : Nat) : Int) == 240) = true := by simp [hy240]
              have eR : R = some (⟨4, 0, (e.toNat : Int), f.take 256, decide (256 < f.length)⟩, k + 2) := by
                have := HR.out
                rw [HD.out, subGo, if_pos h255, if_neg hy255, if_pos hy240] at this
                exact this.symm
              by_cases hlong : 256 < f.length
              · have hb4 : decide ((256 : Int) < (f.length : Int)) = true := by simp; omega
                go_wp2
                rw [str_take, eR]
                refine ret_cell2 rfl _ rfl _ (rkCells ⟨4, 0, (e.toNat : Int), f.take 256, decide (256 < f.length)⟩) _ (by rw [show decide (256 < f.length) = true by simpa using hlong]; exact (Blk.new' _ _ _ rfl).alloc _) Try.underlying56 rfl size_rtok rfl ?_
                exact ⟨rfl, ((Only.refl _ _).alloc _).alloc _⟩
              · have hb4 : decide ((256 : Int) < (f.length : Int)) = false := by simp; omega
                go_wp2
                rw [eR]
                refine ret_cell2 rfl _ rfl _ (rkCells ⟨4, 0, (e.toNat : Int), f.take 256, decide (256 < f.length)⟩) _ (by rw [show decide (256 < f.length) = false by simpa using hlong, List.take_of_length_le (by omega)]; exact (Blk.new' _ _ _ rfl).alloc _) Try.underlying56 rfl size_rtok rfl ?_
                exact ⟨rfl, ((Only.refl _ _).alloc _).alloc _⟩
            · have hb3 : (((y.toNat : Nat) : Int) == 240) = false := by simp; omega
              go_wp2
              have eR : R = some (⟨5, (y.toNat : Int), (e.toNat : Int), [], false⟩, k + 2) := by
                have := HR.out
                rw [HD.out, subGo, if_pos h255, if_neg hy255, if_neg hy240] at this
                exact this.symm
              rw [eR]
              refine ret_cell2 rfl _ rfl _ (rkCells ⟨5, (y.toNat : Int), (e.toNat : Int), [], false⟩) _ (Blk.new' _ _ _ rfl) Try.underlying56 rfl size_rtok rfl ?_
              exact ⟨rfl, (Only.refl _ _).alloc _⟩
      · have hb : (((x.toNat : Nat) : Int) != 255) = true := by simp; omega
        go_wp2
        go_roundw
        case rel =>
          refine ⟨k + 1, f ++ [x], by go_num, by rw [str_snoc HX.out], by omega, by omega, by simp; omega, ?_, trivial⟩
          have := HR.out
          rw [HD.out, subGo_plain _ _ _ _ h255] at this
          exact this
        case measure => simp [intOf]; omega
    · obtain rfl : k = s.length := by omega
      go_wp2
      have eR : R = none := by
        have := hrel.out
        rw [List.drop_length, subGo] at this
        exact this.symm
      rw [eR]
      refine ret_cell2 rfl _ rfl _ (rkCells Tk.none) _ (Blk.new' _ _ _ rfl) Try.underlying56 rfl size_rtok rfl ?_
      exact ⟨rfl, (Only.refl _ _).alloc _⟩

/-- The document's Next answers so. -/
def Nexts (w : World) (s : List UInt8) (o : Option (Tk × Nat)) : Prop :=
  Calls Try.prog 30 #[.string ⟨s.toArray⟩] w fun e w' => e = .returned (.tuple #[.agg (rkCells (tokN o).1).toArray, .int .i64 ((tokN o).2 : Int)]) ∧ Only (fun _ => False) w w'
theorem get_lt {s : List UInt8} {k : Nat} {x : UInt8} (h : s[k]? = some x) : k < s.length := (List.getElem?_eq_some_iff.1 h).1

theorem nx_data (w : World) (s : List UInt8) (c : UInt8) (h0 : s[0]? = some c) (hc : c.toNat ≠ 255) : Nexts w s (some (⟨1, (c.toNat : Int), 0, [], false⟩, 1)) := by
  unfold Nexts
  have n0 := get_lt h0
  have i0 := str_get h0 n0
  have hwc : wrap64 ((c.toNat : Nat) : Int) = (c.toNat : Int) := wrap64_nat _ (by have := c.toNat_lt; omega)
  have d0 : ((s.length : Int) == 0) = false := beq_eq_false_iff_ne.2 (by omega)
  have b0 : (((c.toNat : Nat) : Int) != 255) = true := by simp; omega
  clear h0 hc
  go_enter Try.func30, Try.ntmps30
  go_wp2
  refine ret_cell2 rfl _ rfl _ (rkCells ⟨1, (c.toNat : Int), 0, [], false⟩) _ (Blk.new' _ _ _ rfl) Try.underlying56 rfl size_rtok rfl ?_
  exact ⟨rfl, (Only.refl _ _).alloc _⟩

theorem nx_one (w : World) (s : List UInt8) (c : UInt8) (h0 : s[0]? = some c) (hc : c.toNat = 255) (hl : s.length = 1) : Nexts w s none := by
  unfold Nexts
  have n0 := get_lt h0
  have i0 := str_get h0 n0
  have hwc : wrap64 ((c.toNat : Nat) : Int) = (c.toNat : Int) := wrap64_nat _ (by have := c.toNat_lt; omega)
  have d0 : ((s.length : Int) == 0) = false := beq_eq_false_iff_ne.2 (by omega)
  have b0 : (((c.toNat : Nat) : Int) != 255) = false := by simp [hc]
  have d1 : ((s.length : Int) == 1) = true := beq_iff_eq.2 (by omega)
  clear h0 hc hl
  go_enter Try.func30, Try.ntmps30
  go_wp2
  refine ret_cell2 rfl _ rfl _ (rkCells Tk.none) _ (Blk.new' _ _ _ rfl) Try.underlying56 rfl size_rtok rfl ?_
  exact ⟨rfl, (Only.refl _ _).alloc _⟩

theorem nx_ff (w : World) (s : List UInt8) (c : UInt8) (h0 : s[0]? = some c) (hc : c.toNat = 255) (d : UInt8) (h1 : s[1]? = some d) (hd : d.toNat = 255) : Nexts w s (some (⟨1, 255, 0, [], false⟩, 2)) := by
  unfold Nexts
  have n0 := get_lt h0
  have i0 := str_get h0 n0
  have hwc : wrap64 ((c.toNat : Nat) : Int) = (c.toNat : Int) := wrap64_nat _ (by have := c.toNat_lt; omega)
  have d0 : ((s.length : Int) == 0) = false := beq_eq_false_iff_ne.2 (by omega)
  have b0 : (((c.toNat : Nat) : Int) != 255) = false := by simp [hc]
  have n1 := get_lt h1
  have i1 := str_get h1 n1
  have hwd : wrap64 ((d.toNat : Nat) : Int) = (d.toNat : Int) := wrap64_nat _ (by have := d.toNat_lt; omega)
  have d1 : ((s.length : Int) == 1) = false := beq_eq_false_iff_ne.2 (by omega)
  have b1 : (((d.toNat : Nat) : Int) == 255) = true := by simp [hd]
  clear h0 h1 hc hd
  go_enter Try.func30, Try.ntmps30
  go_wp2
  refine ret_cell2 rfl _ rfl _ (rkCells ⟨1, 255, 0, [], false⟩) _ (Blk.new' _ _ _ rfl) Try.underlying56 rfl size_rtok rfl ?_
  exact ⟨rfl, (Only.refl _ _).alloc _⟩

theorem nx_plain (w : World) (s : List UInt8) (c : UInt8) (h0 : s[0]? = some c) (hc : c.toNat = 255) (d : UInt8) (h1 : s[1]? = some d) (hd : d.toNat < 250) : Nexts w s (some (⟨2, (d.toNat : Int), 0, [], false⟩, 2)) := by
  unfold Nexts
  have n0 := get_lt h0
  have i0 := str_get h0 n0
  have hwc : wrap64 ((c.toNat : Nat) : Int) = (c.toNat : Int) := wrap64_nat _ (by have := c.toNat_lt; omega)
  have d0 : ((s.length : Int) == 0) = false := beq_eq_false_iff_ne.2 (by omega)
  have b0 : (((c.toNat : Nat) : Int) != 255) = false := by simp [hc]
  have n1 := get_lt h1
  have i1 := str_get h1 n1
  have hwd : wrap64 ((d.toNat : Nat) : Int) = (d.toNat : Int) := wrap64_nat _ (by have := d.toNat_lt; omega)
  have d1 : ((s.length : Int) == 1) = false := beq_eq_false_iff_ne.2 (by omega)
  have b1 : (((d.toNat : Nat) : Int) == 255) = false := by simp; omega
  have b2 : decide (((d.toNat : Nat) : Int) < 250) = true := by simp; omega
  clear h0 h1 hc hd
  go_enter Try.func30, Try.ntmps30
  go_wp2
  refine ret_cell2 rfl _ rfl _ (rkCells ⟨2, (d.toNat : Int), 0, [], false⟩) _ (Blk.new' _ _ _ rfl) Try.underlying56 rfl size_rtok rfl ?_
  exact ⟨rfl, (Only.refl _ _).alloc _⟩

theorem nx_two (w : World) (s : List UInt8) (c : UInt8) (h0 : s[0]? = some c) (hc : c.toNat = 255) (d : UInt8) (h1 : s[1]? = some d) (hd : 250 ≤ d.toNat) (hd2 : d.toNat ≠ 255) (hl : s.length = 2) : Nexts w s none := by
  unfold Nexts
  have n0 := get_lt h0
  have i0 := str_get h0 n0
  have hwc : wrap64 ((c.toNat : Nat) : Int) = (c.toNat : Int) := wrap64_nat _ (by have := c.toNat_lt; omega)
  have d0 : ((s.length : Int) == 0) = false := beq_eq_false_iff_ne.2 (by omega)
  have b0 : (((c.toNat : Nat) : Int) != 255) = false := by simp [hc]
  have n1 := get_lt h1
  have i1 := str_get h1 n1
  have hwd : wrap64 ((d.toNat : Nat) : Int) = (d.toNat : Int) := wrap64_nat _ (by have := d.toNat_lt; omega)
  have d1 : ((s.length : Int) == 1) = false := beq_eq_false_iff_ne.2 (by omega)
  have b1 : (((d.toNat : Nat) : Int) == 255) = false := by simp; omega
  have b2 : decide (((d.toNat : Nat) : Int) < 250) = false := by simp; omega
  have d2 : ((s.length : Int) == 2) = true := beq_iff_eq.2 (by omega)
  clear h0 h1 hc hd hd2 hl
  go_enter Try.func30, Try.ntmps30
  go_wp2
  refine ret_cell2 rfl _ rfl _ (rkCells Tk.none) _ (Blk.new' _ _ _ rfl) Try.underlying56 rfl size_rtok rfl ?_
  exact ⟨rfl, (Only.refl _ _).alloc _⟩

theorem nx_verb (w : World) (s : List UInt8) (c : UInt8) (h0 : s[0]? = some c) (hc : c.toNat = 255) (d : UInt8) (h1 : s[1]? = some d) (e : UInt8) (h2 : s[2]? = some e) (hd : 250 < d.toNat) (hd2 : d.toNat ≠ 255) : Nexts w s (some (⟨3, (d.toNat : Int), (e.toNat : Int), [], false⟩, 3)) := by
  unfold Nexts
  have n0 := get_lt h0
  have i0 := str_get h0 n0
  have hwc : wrap64 ((c.toNat : Nat) : Int) = (c.toNat : Int) := wrap64_nat _ (by have := c.toNat_lt; omega)
  have d0 : ((s.length : Int) == 0) = false := beq_eq_false_iff_ne.2 (by omega)
  have b0 : (((c.toNat : Nat) : Int) != 255) = false := by simp [hc]
  have n1 := get_lt h1
  have i1 := str_get h1 n1
  have hwd : wrap64 ((d.toNat : Nat) : Int) = (d.toNat : Int) := wrap64_nat _ (by have := d.toNat_lt; omega)
  have d1 : ((s.length : Int) == 1) = false := beq_eq_false_iff_ne.2 (by omega)
  have b1 : (((d.toNat : Nat) : Int) == 255) = false := by simp; omega
  have b2 : decide (((d.toNat : Nat) : Int) < 250) = false := by simp; omega
  have n2 := get_lt h2
  have i2 := str_get h2 n2
  have hwe : wrap64 ((e.toNat : Nat) : Int) = (e.toNat : Int) := wrap64_nat _ (by have := e.toNat_lt; omega)
  have d2 : ((s.length : Int) == 2) = false := beq_eq_false_iff_ne.2 (by omega)
  have b3 : decide ((250 : Int) < ((d.toNat : Nat) : Int)) = true := by simp; omega
  clear h0 h1 h2 hc hd hd2
  go_enter Try.func30, Try.ntmps30
  go_wp2
  refine ret_cell2 rfl _ rfl _ (rkCells ⟨3, (d.toNat : Int), (e.toNat : Int), [], false⟩) _ (Blk.new' _ _ _ rfl) Try.underlying56 rfl size_rtok rfl ?_
  exact ⟨rfl, (Only.refl _ _).alloc _⟩

theorem nx_sub (w : World) (s : List UInt8) (c : UInt8) (h0 : s[0]? = some c) (hc : c.toNat = 255) (d : UInt8) (h1 : s[1]? = some d) (e : UInt8) (h2 : s[2]? = some e) (hd : d.toNat = 250) (o : Option (Tk × Nat)) (hsub : ∀ W, Calls Try.prog 38 #[.string ⟨s.toArray⟩] W fun e w' => e = .returned (.tuple #[.agg (rkCells (tokN o).1).toArray, .int .i64 ((tokN o).2 : Int)]) ∧ Only (fun _ => False) W w') : Nexts w s o := by
  unfold Nexts
  have n0 := get_lt h0
  have i0 := str_get h0 n0
  have hwc : wrap64 ((c.toNat : Nat) : Int) = (c.toNat : Int) := wrap64_nat _ (by have := c.toNat_lt; omega)
  have d0 : ((s.length : Int) == 0) = false := beq_eq_false_iff_ne.2 (by omega)
  have b0 : (((c.toNat : Nat) : Int) != 255) = false := by simp [hc]
  have n1 := get_lt h1
  have i1 := str_get h1 n1
  have hwd : wrap64 ((d.toNat : Nat) : Int) = (d.toNat : Int) := wrap64_nat _ (by have := d.toNat_lt; omega)
  have d1 : ((s.length : Int) == 1) = false := beq_eq_false_iff_ne.2 (by omega)
  have b1 : (((d.toNat : Nat) : Int) == 255) = false := by simp; omega
  have b2 : decide (((d.toNat : Nat) : Int) < 250) = false := by simp; omega
  have n2 := get_lt h2
  have i2 := str_get h2 n2
  have hwe : wrap64 ((e.toNat : Nat) : Int) = (e.toNat : Int) := wrap64_nat _ (by have := e.toNat_lt; omega)
  have d2 : ((s.length : Int) == 2) = false := beq_eq_false_iff_ne.2 (by omega)
  have b3 : decide ((250 : Int) < ((d.toNat : Nat) : Int)) = false := by simp; omega
  obtain ⟨cs, hcs⟩ : ∃ cs, cs = rkCells (tokN o).1 := ⟨_, rfl⟩
  obtain ⟨k, hk⟩ : ∃ k : Int, k = ((tokN o).2 : Int) := ⟨_, rfl⟩
  have HL : Hid (cs.length = 5) := by rw [hcs]; rfl
  have HO : Hid (∀ v ∈ cs, v.oneCell' = true) := by rw [hcs]; exact rk_one _
  rw [← hcs, ← hk]
  simp only [← hcs, ← hk] at hsub
  have HC := Lib.hid hsub
  clear h0 h1 h2 hc hd hsub hcs hk
  go_enter Try.func30, Try.ntmps30
  go_wp2_with (first
    | (go_at_call 38; refine (HC.out _).mono ?_; rintro e' w1 ⟨rfl, ho1⟩)
    | ((with_reducible show wpList _ _ _ (⟨none, .store 56 _ _, _, _, _, _⟩ :: _) _ _); refine step_store rfl 56 _ _ rfl w.heap.size rfl cs rfl _ (rkCells Tk.none) ((Blk.new w 56 (rkCells Tk.none)).only ho1 (fun h => h)) (by rw [HL.out]; exact size_rtok) HL.out.symm HO.out ?_; intro w2 hB2 hz2 ho2))
  refine ret_cell2 rfl _ rfl _ _ _ hB2.out Try.underlying56 rfl (by rw [HL.out]; exact size_rtok) rfl ?_
  exact ⟨rfl, (((Only.refl (fun _ => False) w).alloc _).trans ho1 (fun _ h => h.elim)).trans ho2 (fun i hi => .inr (by omega))⟩

theorem next_ref (w : World) (s : List UInt8) (hlen : s.length ≤ 100000) : Nexts w s (next s) := by
  match s, hlen with
  | [], _ =>
    unfold Nexts
    go_enter Try.func30, Try.ntmps30
    go_wp2
    refine ret_cell2 rfl _ rfl _ (rkCells Tk.none) _ (Blk.new' _ _ _ rfl) Try.underlying56 rfl size_rtok rfl ?_
    exact ⟨rfl, (Only.refl _ _).alloc _⟩
  | c :: l, hlen =>
    by_cases hc : c.toNat = 255
    · match l, hlen with
      | [], _ =>
        rw [show next [c] = none by simp [next, hc]]
        exact nx_one w _ c rfl hc rfl
      | d :: l, hlen =>
        have hdl := d.toNat_lt
        by_cases hd : d.toNat = 255
        · rw [show next (c :: d :: l) = some (⟨1, 255, 0, [], false⟩, 2) by simp [next, hc, hd]]
          exact nx_ff w _ c rfl hc d rfl hd
        · by_cases hd2 : d.toNat < 250
          · rw [show next (c :: d :: l) = some (⟨2, (d.toNat : Int), 0, [], false⟩, 2) by simp [next, hc, hd, hd2]]
            exact nx_plain w _ c rfl hc d rfl hd2
          · match l, hlen with
            | [], _ =>
              rw [show next [c, d] = none by simp [next, hc, hd, hd2]]
              exact nx_two w _ c rfl hc d rfl (by omega) hd rfl
            | e :: l, hlen =>
              by_cases hd3 : 250 < d.toNat
              · rw [show next (c :: d :: e :: l) = some (⟨3, (d.toNat : Int), (e.toNat : Int), [], false⟩, 3) by simp [next, hc, hd, hd2, hd3]]
                exact nx_verb w _ c rfl hc d rfl e rfl hd3 hd
              · rw [next_sub _ _ _ _ hc (by omega)]
                exact nx_sub w _ c rfl hc d rfl e rfl (by omega) _ (fun W => sub_ref W _ c d e l rfl hlen)
    · rw [show next (c :: l) = some (⟨1, (c.toNat : Int), 0, [], false⟩, 1) by simp [next, hc]]
      exact nx_data w _ c rfl hc
end Go.Proofs.Ytelmfncdamakfaa
