/- The document's own answers of layer 8: Encode, Gone, Decode, Flags. -/
import Derived.Test.YtckfbdjebbnieaaNvt
namespace Go.Proofs.Ytckfbdjebbnieaa
open Go Go.RowKit
set_option maxRecDepth 100000
set_option maxHeartbeats 4000000

/-- How a text's Encode comes of its rest's. -/
theorem encodeRef_step (w : World) (s : List UInt8) (x : UInt8) (hx : s[0]? = some x) (hlen : s.length ≤ 100000) (R T : List UInt8) (hR : R = s.drop 1) (hT : T.length ≤ 200000)
    (C : Calls Try.prog 10 #[.string ⟨R.toArray⟩, .bool false] w fun e w' => e = .returned (.string ⟨T.toArray⟩) ∧ w = w') (Z : List UInt8)
    (hZ : Z = (if x.toNat = 13 ∧ (s[1]?.map UInt8.toNat) ≠ some 10 then [x, 0] else [x]) ++ T) :
    Calls Try.prog 10 #[.string ⟨s.toArray⟩, .bool false] w fun e w' => e = .returned (.string ⟨Z.toArray⟩) ∧ w = w' := by
  have h0 : 0 < s.length := (List.getElem?_eq_some_iff.1 hx).1
  have hix := str_get hx (by show 0 < s.length; omega)
  have hcut0 : (ByteArray.mk s.toArray).extract 0 1 = ⟨#[x]⟩ := by
    rw [str_take]
    congr 1
    rw [List.take_one, List.head?_eq_getElem?, hx]
    rfl
  have hcutk : (ByteArray.mk s.toArray).extract 1 s.length = ⟨R.toArray⟩ := by rw [str_cut, List.take_length, hR]
  have hs0' : ((s.length : Int) == 0) = false := beq_eq_false_iff_ne.2 (by omega)
  have hs0'' : decide ((s.length : Int) = 0) = false := decide_eq_false (by omega)
  have HC := Lib.hid C
  have hsum3 : ∀ W, (Op.stringOp .add (ByteArray.mk #[x]) (ByteArray.mk #[0])).run Try.prog W = .ok (.string (ByteArray.mk #[x, 0])) W := fun W => sum_texts [x] [0] [x, 0] rfl (by simp)
  have HSum1 : Hid (Z = [x] ++ T → ∀ W, (Op.stringOp .add (ByteArray.mk #[x]) (ByteArray.mk T.toArray)).run Try.prog W = .ok (.string (ByteArray.mk Z.toArray)) W) := fun h W => sum_texts [x] _ _ h.symm (by simp; omega)
  have HSum2 : Hid (Z = [x, 0] ++ T → ∀ W, (Op.stringOp .add (ByteArray.mk #[x, 0]) (ByteArray.mk T.toArray)).run Try.prog W = .ok (.string (ByteArray.mk Z.toArray)) W) := fun h W => sum_texts [x, 0] _ _ h.symm (by simp; omega)
  obtain ⟨z, hz⟩ : ∃ z : Int, z = (x.toNat : Int) := ⟨_, rfl⟩
  by_cases h13 : x.toNat = 13
  · have d1 : (((x.toNat : Nat) : Int) == 13) = true := by simp [h13]
    have d1' : decide (((x.toNat : Nat) : Int) = 13) = true := by simp [h13]
    by_cases h1 : s.length = 1
    · have d2 : ((s.length : Int) == 1) = true := beq_iff_eq.2 (by omega)
      have d2' : decide ((s.length : Int) = 1) = true := decide_eq_true (by omega)
      have hsum := HSum2.out (by rw [hZ, if_pos ⟨h13, by rw [List.getElem?_eq_none (by omega)]; simp⟩])
      clear C hx hZ HSum1 HSum2 hR hz
      have H1 := Lib.hid h1
      have H13 := Lib.hid h13
      clear h1 h13
      go_enter Try.func10, Try.ntmps10
      go_wp2_with (first
        | (go_at_call 10; (with_reducible refine HC.out.mono ?_); rintro e w' ⟨rfl, rfl⟩))
      go_ret
      exact ⟨rfl, rfl⟩
    · have d2 : ((s.length : Int) == 1) = false := beq_eq_false_iff_ne.2 (by omega)
      have d2' : decide ((s.length : Int) = 1) = false := decide_eq_false (by omega)
      obtain ⟨y, hy⟩ : ∃ y, s[1]? = some y := ⟨_, List.getElem?_eq_getElem (by omega)⟩
      have hl1 : 1 < s.length := by omega
      have hiy := str_get hy hl1
      by_cases h10 : y.toNat = 10
      · have d3 : (((y.toNat : Nat) : Int) != 10) = false := by simp [h10]
        have d3' : decide (((y.toNat : Nat) : Int) = 10) = true := by simp [h10]
        have d3'' : (((y.toNat : Nat) : Int) == 10) = true := by simp [h10]
        have hsum := HSum1.out (by rw [hZ, if_neg (by rw [hy]; simp [h10])])
        clear C hx hZ HSum1 HSum2 hR hz hy h1
        have H10 := Lib.hid h10
        have H13 := Lib.hid h13
        clear h10 h13
        go_enter Try.func10, Try.ntmps10
        go_wp2_with (first
          | (go_at_call 10; (with_reducible refine HC.out.mono ?_); rintro e w' ⟨rfl, rfl⟩))
        go_ret
        exact ⟨rfl, rfl⟩
      · have d3 : (((y.toNat : Nat) : Int) != 10) = true := by simp; omega
        have d3' : decide (((y.toNat : Nat) : Int) = 10) = false := by simp; omega
        have d3'' : (((y.toNat : Nat) : Int) == 10) = false := by simp; omega
        have hsum := HSum2.out (by rw [hZ, if_pos ⟨h13, by rw [hy]; simp; omega⟩])
        clear C hx hZ HSum1 HSum2 hR hz hy h1
        have H10 := Lib.hid h10
        have H13 := Lib.hid h13
        clear h10 h13
        go_enter Try.func10, Try.ntmps10
        go_wp2_with (first
          | (go_at_call 10; (with_reducible refine HC.out.mono ?_); rintro e w' ⟨rfl, rfl⟩))
        go_ret
        exact ⟨rfl, rfl⟩
  · have d1 : (((x.toNat : Nat) : Int) == 13) = false := by simp; omega
    have d1' : decide (((x.toNat : Nat) : Int) = 13) = false := by simp; omega
    have hsum := HSum1.out (by rw [hZ, if_neg (fun h => h13 h.1)])
    clear C hx hZ HSum1 HSum2 hR hz
    go_enter Try.func10, Try.ntmps10
    go_wp2_with (first
      | (go_at_call 10; (with_reducible refine HC.out.mono ?_); rintro e w' ⟨rfl, rfl⟩))
    go_ret
    exact ⟨rfl, rfl⟩

theorem encodeRef_none (w : World) (raw : Bool) : Calls Try.prog 10 #[.string ⟨#[]⟩, .bool raw] w fun e w' => e = .returned (.string ⟨#[]⟩) ∧ w = w' := by
  go_enter Try.func10, Try.ntmps10
  go_wp2
  go_ret
  exact ⟨rfl, rfl⟩
theorem encodeRef_raw (w : World) (s : List UInt8) : Calls Try.prog 10 #[.string ⟨s.toArray⟩, .bool true] w fun e w' => e = .returned (.string ⟨s.toArray⟩) ∧ w = w' := by
  by_cases h : s.length = 0
  · obtain rfl := List.eq_nil_of_length_eq_zero h
    exact encodeRef_none w true
  · have hs0' : ((s.length : Int) == 0) = false := beq_eq_false_iff_ne.2 (by omega)
    have hs0'' : decide ((s.length : Int) = 0) = false := decide_eq_false (by omega)
    clear h
    go_enter Try.func10, Try.ntmps10
    go_wp2
    go_ret
    exact ⟨rfl, rfl⟩
theorem encodeRef_plain (w : World) : ∀ (s : List UInt8), s.length ≤ 100000 → Calls Try.prog 10 #[.string ⟨s.toArray⟩, .bool false] w fun e w' => e = .returned (.string ⟨(out8 false s).toArray⟩) ∧ w = w'
  | [], _ => encodeRef_none w false
  | x :: l, h => by
    have h1 := encodeRef_plain w l (by simp at h; omega)
    have h2 := out8_le false l
    simp only [List.length_cons] at h
    refine encodeRef_step w (x :: l) x rfl (by simpa using h) l (out8 false l) rfl (by omega) h1 _ ?_
    simp [out8, List.head?_eq_getElem?]
theorem encodeRef_any (w : World) (s : List UInt8) (raw : Bool) (h : s.length ≤ 100000) : Calls Try.prog 10 #[.string ⟨s.toArray⟩, .bool raw] w fun e w' => e = .returned (.string ⟨(out8 raw s).toArray⟩) ∧ w = w' := by
  cases raw with
  | true => rw [out8_raw]; exact encodeRef_raw w s
  | false => exact encodeRef_plain w s h

/-- A slice of bools. -/
def Flg (w : World) (A : Option Addr) (n : Nat) (rs : List Bool) : Prop :=
  rs.length = n ∧ (0 < n → ∃ ad, A = some ad ∧ ∀ (j : Nat) (r : Bool), rs[j]? = some r → w.cell? (ad.add j) = some (.bool r))
theorem Flg.only {S : Nat → Prop} {w w' : World} {A : Option Addr} {n : Nat} {rs : List Bool} (h : Flg w A n rs) (ho : Only S w w') (hS : 0 < n → ∀ ad, A = some ad → ¬ S ad.block) : Flg w' A n rs :=
  ⟨h.1, fun hn => by
    obtain ⟨ad, e, hc⟩ := h.2 hn
    exact ⟨ad, e, fun j x hx => ho.cellv (hc j x hx) (by rw [block_add]; exact hS hn ad e)⟩⟩
theorem Flg.same {w w' : World} {A : Option Addr} {n : Nat} {rs : List Bool} (h : Flg w A n rs) (ho : Only (fun _ => False) w w') : Flg w' A n rs := h.only ho (fun _ _ _ h => h)

/-- Would a 0, not raw, be left out at place k? -/
def Bh (s : List UInt8) (rs : List Bool) (k : Nat) (b : Bool) : Prop :=
  (k = 0 ∧ b = false) ∨ ∃ j y q, k = j + 1 ∧ s[j]? = some y ∧ rs[j]? = some q ∧ b = (decide (y.toNat = 13) && !q)

theorem gone_any {w : World} {s : List UInt8} {rs : List Bool} {A : Option Addr} {n c : Nat} (hr : Flg w A n rs) {k : Nat} {x : UInt8} {r b : Bool} (hx : s[k]? = some x) (hrk : rs[k]? = some r) (hb : Bh s rs k b) (hn : n ≤ 9223372036854775807) :
    Calls Try.prog 17 #[.string ⟨s.toArray⟩, .slice A n c, .int .i64 (k : Int)] w fun e w' => e = .returned (.bool (b && decide (x.toNat = 0) && !r)) ∧ w = w' := by
  have hkn : k < n := by rw [← hr.1]; exact (List.getElem?_eq_some_iff.1 hrk).1
  have hks : k < s.length := (List.getElem?_eq_some_iff.1 hx).1
  have hix := str_get hx hks
  obtain ⟨ad, rfl, hc⟩ := hr.2 (by omega)
  have c0 := hc k r hrk
  obtain ⟨p0, h0⟩ : ∃ p, p = decide (x.toNat = 0) := ⟨_, rfl⟩
  have e0 : (((x.toNat : Nat) : Int) == 0) = p0 := by rw [h0, Bool.eq_iff_iff]; simp
  have e0' : decide (((x.toNat : Nat) : Int) = 0) = p0 := by rw [h0, Bool.eq_iff_iff]; simp
  rw [← h0]
  rcases hb with ⟨rfl, rfl⟩ | ⟨j, y, q, rfl, hy, hq, rfl⟩
  · clear hr hx hrk hc h0
    go_enter Try.func17, Try.ntmps17
    go_wp2
    go_ret
    exact ⟨rfl, rfl⟩
  · have hjs : j < s.length := (List.getElem?_eq_some_iff.1 hy).1
    have hiy := str_get hy hjs
    have c1 := hc j q hq
    have c2 : w.cell? ⟨ad.block, ad.off + (j + 1), none⟩ = some (.bool r) := by simpa [Addr.add] using c0
    obtain ⟨p1, h1⟩ : ∃ p, p = decide (y.toNat = 13) := ⟨_, rfl⟩
    have e1 : (((y.toNat : Nat) : Int) == 13) = p1 := by rw [h1, Bool.eq_iff_iff]; simp; omega
    have e1' : decide (((y.toNat : Nat) : Int) = 13) = p1 := by rw [h1, Bool.eq_iff_iff]; simp; omega
    rw [← h1]
    clear hr hx hrk hc h0 hy hq h1
    cases p0 <;> cases r <;> cases p1 <;> cases q
    all_goals
      go_enter Try.func17, Try.ntmps17
      go_wp2
      go_ret
      exact ⟨rfl, rfl⟩

/-- Where the document's Decode stands. -/
structure RefAt (w : World) (s : List UInt8) (rs : List Bool) (W : World) (k : Nat) (V : Value) (n : Nat) (ys : List UInt8) : Prop where
  len : n = ys.length
  le : ys.length ≤ k
  row : Body W w.heap.size V ys
  told : ∃ b, Bh s rs k b ∧ ys ++ in8 b ((s.zip rs).drop k) = in8 false (s.zip rs)
  only : Only (fun _ => False) w W

theorem zip_at {s : List UInt8} {rs : List Bool} {k : Nat} {x : UInt8} {r : Bool} (hx : s[k]? = some x) (hr : rs[k]? = some r) : (s.zip rs)[k]? = some (x, r) := by
  rw [List.getElem?_zip_eq_some]
  exact ⟨hx, hr⟩

theorem decodeRef_any {w : World} {s : List UInt8} {rs : List Bool} {A : Option Addr} {n c : Nat} (hr : Flg w A n rs) (hn : s.length ≤ n) (hl : s.length ≤ 100000) (h63 : n ≤ 9223372036854775807) :
    Calls Try.prog 11 #[.string ⟨s.toArray⟩, .slice A n c] w fun e w' => e = .returned (.string ⟨(in8 false (s.zip rs)).toArray⟩) ∧ Only (fun _ => False) w w' := by
  have HR := Lib.hid hr
  have H0 : Hid (RefAt w s rs (w.alloc (.cells #[] 5)) 0 (.slice (some ⟨w.heap.size, 0, none⟩) 0 0) 0 []) :=
    ⟨rfl, Nat.le_refl _, own_of_blk (cur := []) (Blk.new' w 5 [] rfl) rfl rfl (Nat.le_refl _) (by omega) (Nat.le_refl _), ⟨false, .inl ⟨rfl, rfl⟩, by simp⟩, (Only.refl _ w).alloc _⟩
  clear hr
  go_enter Try.func11, Try.ntmps11
  go_wp2
  go_loopw [5, 6] (fun v i W => ∃ (k : Nat) (A' : Option Addr) (n' c' : Nat), k ≤ s.length ∧ i = .int .i64 (k : Int) ∧ v = .slice A' n' c' ∧ Hid (∃ ys, RefAt w s rs W k (.slice A' n' c') n' ys)) (fun _ i _ => s.length - (intOf i).toNat)
  case atStart => exact ⟨0, _, _, _, Nat.zero_le _, rfl, rfl, [], H0.out⟩
  case round =>
    clear H0
    obtain ⟨k, A', n', c', hk, rfl, rfl, HD⟩ := hrel
    obtain ⟨ys, hI⟩ := HD.out
    by_cases hlt : k < s.length
    · obtain ⟨x, hx⟩ : ∃ x, s[k]? = some x := ⟨_, List.getElem?_eq_getElem hlt⟩
      obtain ⟨r, hr⟩ : ∃ r, rs[k]? = some r := ⟨_, List.getElem?_eq_getElem (by rw [HR.out.1]; omega)⟩
      obtain ⟨b, hb, HT⟩ := hI.told
      have hix := str_get hx hlt
      have HG := gone_any (c := c) (HR.out.same hI.only) hx hr hb
      have hdx := drop_at (zip_at hx hr)
      rw [hdx] at HT
      simp only [in8] at HT
      have hbn : Bh s rs (k + 1) (decide (x.toNat = 13) && !r) := .inr ⟨k, x, r, rfl, hx, hr, rfl⟩
      have hb' : n' + 1 ≤ 1048576 := by have h1 := hI.len; have h2 := hI.le; omega
      have HZ : Hid (#[Value.int .u8 (x.toNat : Int)] = ([x].map B8).toArray) := rfl
      have HI := Lib.hid hI
      obtain ⟨q, hq⟩ : ∃ q, q = (b && decide (x.toNat = 0) && !r) := ⟨_, rfl⟩
      rw [← hq] at HG
      have hiff : (b = true ∧ x.toNat = 0 ∧ r = false) ↔ q = true := by rw [hq]; simp [and_assoc]
      simp only [hiff] at HT
      have HTold := Lib.hid HT
      have HGo := Lib.hid HG
      have HBn := Lib.hid hbn
      clear hx hr hdx hq hiff HD hI HT HG hbn hb
      cases q with
      | true =>
        go_wp2_with (first
          | (go_at_call 17; (with_reducible refine Calls.mono (HGo.out (by omega)) ?_); rintro e w' ⟨rfl, rfl⟩))
        go_roundw
        case rel =>
          refine ⟨k + 1, _, _, _, by omega, by go_num, rfl, ys, HI.out.len, by have := HI.out.le; omega, HI.out.row, ⟨_, HBn.out, ?_⟩, HI.out.only⟩
          simpa using HTold.out
        case measure => simp [intOf]; omega
      | false =>
        go_wp2_with (first
          | (go_at_call 17; (with_reducible refine Calls.mono (HGo.out (by omega)) ?_); rintro e w' ⟨rfl, rfl⟩)
          | (at_builtin; refine step_bytesG rfl (.tmp 19) (.tmp 23) rfl w.heap.size _ _ _ ys rfl (own_same HI.out.row ((Only.refl _ wr).alloc _)) HI.out.len (some ⟨wr.heap.size, 0, none⟩) 1 1 [x] rfl (src_new wr [x] _ _ _ 1 HZ.out rfl) (by omega) (by have := HI.out.only.size; simp; omega) ?_; intro A3 c3 w3 hb3 hg3))
        go_roundw
        case rel =>
          refine ⟨k + 1, _, _, _, by omega, by go_num, rfl, ys ++ [x], ?_, ?_, hb3.out, ⟨_, HBn.out, ?_⟩, (HI.out.only.alloc _).grown hg3.out (fun k hk => .inr (own_lt HI.out.row k hk).1)⟩
          · have := HI.out.len
            simp
            omega
          · have := HI.out.le
            simp
            omega
          · have := HTold.out
            rw [← this]
            simp
        case measure => simp [intOf]; omega
    · obtain rfl : k = s.length := by omega
      obtain ⟨b, _, htold⟩ := hI.told
      rw [List.drop_eq_nil_of_le (by rw [List.length_zip]; omega)] at htold
      simp only [in8, List.append_nil] at htold
      obtain rfl : n' = ys.length := hI.len
      have hcv := text_of (P := Try.prog) (hI.row.src rfl) c' 22 9 5 Try.underlying22 Try.underlying5 Try.underlying9
      have HI := Lib.hid hI
      clear HD hI
      subst htold
      go_wp2
      go_ret
      exact ⟨rfl, HI.out.only⟩

theorem info_bool : (Try.prog.info? 4).map (fun i => (i.zero, i.size, i.bytes)) = some (some (.bool false), 1, 1) := by kernel_rfl
theorem made_bools (m : Nat) : madeCells #[.bool false] m = (List.replicate m (.bool false)).toArray := by
  apply Array.ext
  · simp [madeCells]
  · intro i h1 h2
    simp [madeCells, Nat.mod_one]
theorem make_bools (m : Nat) (hc : m ≤ 281474976710656) (W : World) : (Instr.makeSlice 28 (.int .i64 (m : Int)) (.int .i64 (m : Int))).run Try.prog W = .ok (.slice (some ⟨W.heap.size, 0, none⟩) m m) (W.alloc (.cells (List.replicate m (.bool false)).toArray 4)) := by
  obtain ⟨i, hi, hz, h1, h2⟩ := info_parts info_bool
  have h := run_make (P := Try.prog) W 28 4 i (.bool false) Try.underlying28 hi hz .i64 .i64 m m (by omega) (by omega) (by rw [h2]; omega) (by omega)
  rw [h, h1, Nat.mul_one]
  simp only [Int.toNat_natCast]
  rw [← made_bools]
  rfl

/-- Where Flags stands. -/
structure FlagAt (w : World) (raw : Bool) (n : Nat) (g : Nat) (W : World) (k : Nat) : Prop where
  blk : Blk W g 4 (List.replicate k (.bool raw) ++ List.replicate (n - k) (.bool false))
  only : Only (fun _ => False) w W

theorem flags_any {w : World} (n : Nat) (raw : Bool) (hn : n ≤ 100000) :
    Calls Try.prog 12 #[.int .i64 (n : Int), .bool raw] w fun e w' => e = .returned (.slice (some ⟨w.heap.size, 0, none⟩) n n) ∧ Flg w' (some ⟨w.heap.size, 0, none⟩) n (List.replicate n raw) ∧ Only (fun _ => False) w w' := by
  have hmk := make_bools n (by omega)
  have H0 : Hid (FlagAt w raw n w.heap.size (w.alloc (.cells (List.replicate n (.bool false)).toArray 4)) 0) := ⟨by simpa using Blk.new w 4 (List.replicate n (.bool false)), (Only.refl _ w).alloc _⟩
  go_enter Try.func12, Try.ntmps12
  go_wp2
  clear hmk
  obtain ⟨g, hg⟩ : ∃ g, g = w.heap.size := ⟨_, rfl⟩
  rw [← hg] at H0 ⊢
  have HGe := Lib.hid hg
  clear hg
  go_loopw [11] (fun i W => ∃ (k : Nat), k ≤ n ∧ i = .int .i64 (k : Int) ∧ Hid (FlagAt w raw n g W k)) (fun i _ => n - (intOf i).toNat)
  case atStart => exact ⟨0, Nat.zero_le _, rfl, H0.out⟩
  case round =>
    clear H0
    obtain ⟨k, hk, rfl, HF⟩ := hrel
    by_cases hlt : k < n
    · have hc0 : wr.cell? ⟨g, k, none⟩ = some (.bool false) := by
        rw [HF.out.blk.cell, List.getElem?_append_right (by simp), List.length_replicate, Nat.sub_self, List.getElem?_replicate, if_pos (by omega)]
      have hfz := HF.out.blk.frozen k
      go_wp2
      go_roundw
      case rel =>
        refine ⟨k + 1, by omega, by go_num, ?_, HF.out.only.setCell (p := ⟨g, k, none⟩) (.inr (Nat.le_of_eq HGe.out.symm)) _⟩
        have := HF.out.blk.setCell k (.bool raw)
        rw [List.set_append_right _ _ (by simp), List.length_replicate, Nat.sub_self, show n - k = (n - (k + 1)) + 1 from by omega, List.replicate_succ, List.set_cons_zero, ← List.singleton_append, ← List.append_assoc, ← List.replicate_succ'] at this
        exact this
      case measure => simp [intOf]; omega
    · obtain rfl : k = n := by omega
      go_wp2
      go_ret
      obtain rfl := HGe.out
      refine ⟨rfl, ⟨by simp, fun _ => ⟨_, rfl, fun j r hj => ?_⟩⟩, HF.out.only⟩
      rw [at_add, HF.out.blk.cell]
      rw [List.getElem?_replicate] at hj
      split at hj
      · rename_i h1
        injection hj with hj
        subst hj
        rw [List.getElem?_append_left (by simpa using h1), List.getElem?_replicate, if_pos h1]
      · cases hj
end Go.Proofs.Ytckfbdjebbnieaa
