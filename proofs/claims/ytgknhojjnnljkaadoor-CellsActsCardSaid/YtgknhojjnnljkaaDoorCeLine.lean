/- A row's line; all rows' lines. -/
import Derived.Test.YtgknhojjnnljkaaDoorCeGet
namespace Go.Proofs.YtgknhojjnnljkaaDoor
open Go Go.RowKit
set_option maxRecDepth 100000
set_option maxHeartbeats 4000000

def Sc.lines (s : Sc) : List (List UInt8) := s.rows.map lineOf
theorem lines_len (s : Sc) : s.lines.length = s.rows.length := List.length_map _
theorem line_at {s : Sc} {i : Nat} {r : List UInt8} (h : s.rows[i]? = some r) : s.line (i : Int) = lineOf r := by
  unfold Sc.line
  have hi := (List.getElem?_eq_some_iff.1 h).1
  rw [if_pos ⟨by omega, by omega⟩, Int.toNat_natCast, List.getD_eq_getElem?_getD, h]
  rfl
theorem line_of_lines {s : Sc} {i : Nat} (h : i < s.rows.length) : s.lines[i]? = some (s.line (i : Int)) := by
  have h1 : s.rows[i]? = some s.rows[i] := List.getElem?_eq_getElem h
  rw [line_at h1]
  unfold Sc.lines
  rw [List.getElem?_map, h1]
  rfl
section
variable {w : World} {F : Nat → Prop} {p : Nat} {s : Sc}
theorem lineIn_any (h : ScAt w p F s) {i : Nat} (hi : i < s.rows.length) : Calls Tryd.prog 21 #[.pointer (some ⟨p, 0, none⟩), .int .i64 (i : Int)] w fun e w' => e = .returned (S8 (s.line (i : Int))) ∧ w' = w := by
  obtain ⟨rb, ads, h1, h2, h3, h4⟩ := h.ex
  have hr : s.rows[i]? = some s.rows[i] := List.getElem?_eq_getElem hi
  rw [line_at hr]
  have hrl := h.ok.hr _ (List.getElem_mem hi)
  generalize s.rows[i] = r at *
  obtain ⟨g, tl, hg, hb⟩ := h4.get hr
  have c1 : w.cell? ⟨p, 1, none⟩ = some (.slice (some ⟨rb, 0, none⟩) s.rows.length s.rows.length) := h1.cell 1
  have c3 : w.cell? ⟨rb, i, none⟩ = some (.slice (some ⟨g, 0, none⟩) s.c s.c) := by rw [h2.cell, List.getElem?_map, hg]; rfl
  have hc1 := h.ok.c1
  have hc2 := h.ok.c2
  have HT := Lib.hid (trimRight_any hb hrl hc1 (Nat.le_refl _) (show s.c ≤ 1048576 by omega))
  have hsrc : Src w (some ⟨g, 0, none⟩) (trimN r s.c) (lineOf r) := by
    have hlen : (lineOf r).length = trimN r s.c := by
      unfold lineOf
      rw [List.length_take, hrl]
      have := trimN_le r s.c
      omega
    refine hb.src hlen fun j x hx => ?_
    have hx2 : r[j]? = some x := by
      unfold lineOf at hx
      rw [List.getElem?_take] at hx
      split at hx
      · exact hx
      · cases hx
    rw [Nat.zero_add, List.getElem?_append_left (by rw [List.length_map]; exact (List.getElem?_eq_some_iff.1 hx2).1), List.getElem?_map, hx2]
    rfl
  have hcv := text_of (P := Tryd.prog) hsrc s.c 34 9 5 Tryd.underlying34 Tryd.underlying5 Tryd.underlying9
  clear h h1 h2 h3 h4 hg hb hsrc hrl hr
  generalize s.rows.length = R at *
  generalize trimN r s.c = m at *
  generalize lineOf r = l at *
  have hi1 : (i : Int) < (R : Int) := by omega
  have hi0 : ¬ (i : Int) < 0 := by omega
  go_enter Tryd.func21, Tryd.ntmps21
  go_wp2_with (go_at_call 32; refine HT.out.mono ?_; rintro e w' ⟨rfl, e2⟩; subst w')
  go_ret
  exact ⟨rfl, rfl⟩
theorem line_any (h : ScAt w p F s) (i : Int) : Calls Tryd.prog 21 #[.pointer (some ⟨p, 0, none⟩), .int .i64 i] w fun e w' => e = .returned (S8 (s.line i)) ∧ w' = w := by
  by_cases hi : 0 ≤ i ∧ i < s.rows.length
  · have := lineIn_any h (i := i.toNat) (by omega)
    rw [Int.toNat_of_nonneg hi.1] at this
    exact this
  · have e : s.line i = [] := by unfold Sc.line; rw [if_neg hi]
    rw [e]
    obtain ⟨rb, c0, c1, c2, f2, _⟩ := h.cells
    clear e h c0 c2 f2
    by_cases h0 : i < 0
    · clear hi
      go_enter Tryd.func21, Tryd.ntmps21
      go_wp2
      go_ret
      exact ⟨rfl, rfl⟩
    · have h1 : ¬ i < (s.rows.length : Int) := by omega
      clear hi
      go_enter Tryd.func21, Tryd.ntmps21
      go_wp2
      go_ret
      exact ⟨rfl, rfl⟩
end

/-- So many empty texts. -/
def emps (m : Nat) : List Value := List.replicate m (.string ⟨#[]⟩)
theorem emps_len (m : Nat) : (emps m).length = m := List.length_replicate
theorem make_texts (m : Nat) (hm : m ≤ 1048576) (W : World) : (Instr.makeSlice 43 (.int .i64 (m : Int)) (.int .i64 (m : Int))).run Tryd.prog W = .ok (.slice (some ⟨W.heap.size, 0, none⟩) m m) (W.alloc (.cells (emps m).toArray 9)) := by
  obtain ⟨i, hi, hz, h1, h2⟩ := info_parts info_str
  have h := run_make (P := Tryd.prog) W 43 9 i (.string ⟨#[]⟩) Tryd.underlying43 hi hz .i64 .i64 m m (by omega) (Int.le_refl _) (by rw [h2]; omega) (by omega)
  rw [h, h1, Nat.mul_one]
  simp only [Int.toNat_natCast]
  have e : madeCells (Value.string ⟨#[]⟩).cells m = (emps m).toArray := by
    apply Array.ext
    · simp [madeCells, emps, Value.cells]
    · intro i h1 h2
      simp [madeCells, emps, Value.cells, Nat.mod_one]
  rw [e]
theorem set_text (ls : List (List UInt8)) (k R : Nat) (l : List UInt8) (hl : ls[k]? = some l) (h : k < R) : ((ls.take k).map S8 ++ emps (R - k)).set k (S8 l) = (ls.take (k + 1)).map S8 ++ emps (R - (k + 1)) := by
  have hk := (List.getElem?_eq_some_iff.1 hl).1
  have e2 : emps (R - k) = .string ⟨#[]⟩ :: emps (R - (k + 1)) := by
    rw [show R - k = (R - (k + 1)) + 1 from by omega]
    rfl
  have e3 : ((ls.take k).map S8).length = k := by rw [List.length_map, List.length_take]; omega
  rw [List.set_append_right _ _ (by omega), e3, Nat.sub_self, e2, List.take_add_one, hl]
  simp

theorem lines_any {w : World} {F : Nat → Prop} {p : Nat} {s : Sc} (h : ScAt w p F s) :
    Calls Tryd.prog 19 #[.pointer (some ⟨p, 0, none⟩)] w fun e w' => ∃ N, e = .returned (.slice (some ⟨N, 0, none⟩) s.rows.length s.rows.length) ∧ Hid (TSrc w' (some ⟨N, 0, none⟩) s.rows.length s.lines) ∧ Hid (Only (fun _ => False) w w') := by
  obtain ⟨rb, c0, c1, c2, f2, _⟩ := h.cells
  have hr2 := h.ok.r2
  have hmk := make_texts s.rows.length (by omega)
  have HN := Lib.hid (Blk.new w 9 (emps s.rows.length))
  have HO := Lib.hid ((Only.refl (fun _ => False) w).alloc (.cells (emps s.rows.length).toArray 9))
  have HH := Lib.hid h
  have hls := lines_len s
  have HLs := Lib.hid (fun (i : Nat) (hi : i < s.rows.length) => line_of_lines (s := s) hi)
  obtain ⟨R, hR⟩ : ∃ R, R = s.rows.length := ⟨_, rfl⟩
  have HR := Lib.hid hR
  rw [← hR] at c1 hr2 hmk HN HO hls HLs ⊢
  clear h c0 c2 f2 hR
  go_enter Tryd.func19, Tryd.ntmps19
  go_wp2
  generalize w.alloc (.cells (emps R).toArray 9) = w1 at *
  obtain ⟨N, hN⟩ : ∃ N, N = w.heap.size := ⟨_, rfl⟩
  rw [← hN] at HN ⊢
  have HNe := Lib.hid hN
  clear hN hmk c1
  go_loopw [4, 13] (fun _ i W => ∃ k : Nat, k ≤ R ∧ i = .int .i64 (k : Int) ∧ Hid (Blk W N 9 ((s.lines.take k).map S8 ++ emps (R - k))) ∧ Hid (Only (fun _ => False) w W)) (fun _ i _ => R - (intOf i).toNat)
  case atStart => exact ⟨0, Nat.zero_le _, rfl, Lib.hid (by simpa using HN.out), HO⟩
  case round =>
    obtain ⟨k, hk, rfl, HB, HOr⟩ := hrel
    by_cases hlt : k < R
    · have HLn := Lib.hid (lineIn_any (HH.out.same HOr.out) (i := k) (by have := HR.out; omega))
      have hc5 : ∃ v, wr.cell? ⟨N, k, none⟩ = some v := ⟨_, by rw [HB.out.cell]; exact List.getElem?_eq_getElem (by rw [List.length_append, List.length_map, List.length_take, emps_len]; omega)⟩
      obtain ⟨v, hc5⟩ := hc5
      have hf5 := HB.out.frozen k
      have hl := HLs.out k hlt
      have HSt := Lib.hid (set_text s.lines k R _ hl hlt)
      clear hl
      generalize s.line (k : Int) = l at *
      go_wp2_with (go_at_call 21; (with_reducible refine HLn.out.mono ?_); rintro e w5 ⟨rfl, e2⟩; subst w5)
      go_roundw
      case rel =>
        refine ⟨k + 1, by omega, by go_num, ?_, HOr.out.setCell (p := ⟨N, k, none⟩) (.inr (by have := HNe.out; show w.heap.size ≤ N; omega)) _⟩
        have := HB.out.setCell k (S8 l)
        rw [HSt.out] at this
        exact this
      case measure => simp [intOf]; omega
    · obtain rfl : k = R := by omega
      go_wp2
      go_ret
      refine ⟨N, rfl, ?_, HOr.out⟩
      refine TSrc.of_blk HB.out hls fun j x hx => ?_
      have hj := (List.getElem?_eq_some_iff.1 hx).1
      rw [List.getElem?_append_left (by rw [List.length_map, List.length_take]; omega), List.getElem?_map, List.getElem?_take, if_pos (by omega), hx]
      rfl
end Go.Proofs.YtgknhojjnnljkaaDoor
