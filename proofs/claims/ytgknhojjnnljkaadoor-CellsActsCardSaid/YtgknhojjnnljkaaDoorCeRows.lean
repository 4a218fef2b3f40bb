/- A row of blanks; so many of them. -/
import Derived.Test.YtgknhojjnnljkaaDoorCeAt
namespace Go.Proofs.YtgknhojjnnljkaaDoor
open Go Go.RowKit
set_option maxRecDepth 100000
set_option maxHeartbeats 4000000

theorem blankRow_any {c : Nat} (h1 : 1 ≤ c) (h2 : c ≤ 60) (w : World) :
    Calls Tryd.prog 41 #[.int .i64 (c : Int)] w fun e w' => ∃ g, e = .returned (.slice (some ⟨g, 0, none⟩) c c) ∧ w.heap.size ≤ g ∧ Hid (∃ tl, Blk w' g 5 ((blank c).map B8 ++ tl)) ∧ Hid (Only (fun _ => False) w w') := by
  have hc : (w.alloc (.cells #[.int .u8 32] 5)).cell? ⟨w.heap.size, 0, none⟩ = some (.int .u8 32) := (Blk.new w 5 [.int .u8 32]).cell 0
  have HR := Lib.hid (repeat_any h1 (show c ≤ 200 by omega) hc)
  clear hc
  go_enter Tryd.func41, Tryd.ntmps41
  go_wp2_with (go_at_call 50; (with_reducible refine HR.out.mono ?_); rintro e w' ⟨g, rfl, hg, hb, ho⟩)
  go_ret
  have hs : (w.alloc (.cells #[.int .u8 32] 5)).heap.size = w.heap.size + 1 := by simp
  exact ⟨g, rfl, by omega, hb, ((Only.refl _ w).alloc _).trans ho.out (fun _ h => h.elim)⟩

theorem info_row : (Tryd.prog.info? 34).map (fun i => (i.zero, i.size, i.bytes)) = some (some (.slice none 0 0), 1, 24) := by kernel_rfl
/-- So many empty rows. -/
def nils (m : Nat) : List Value := List.replicate m (.slice none 0 0)
theorem nils_len (m : Nat) : (nils m).length = m := List.length_replicate
theorem make_rows (m : Nat) (hm : m ≤ 1048576) (W : World) : (Instr.makeSlice 60 (.int .i64 (m : Int)) (.int .i64 (m : Int))).run Tryd.prog W = .ok (.slice (some ⟨W.heap.size, 0, none⟩) m m) (W.alloc (.cells (nils m).toArray 34)) := by
  obtain ⟨i, hi, hz, h1, h2⟩ := info_parts info_row
  have h := run_make (P := Tryd.prog) W 60 34 i (.slice none 0 0) Tryd.underlying60 hi hz .i64 .i64 m m (by omega) (Int.le_refl _) (by rw [h2]; omega) (by omega)
  rw [h, h1, Nat.mul_one]
  simp only [Int.toNat_natCast]
  have e : madeCells (Value.slice none 0 0).cells m = (nils m).toArray := by
    apply Array.ext
    · simp [madeCells, nils, Value.cells]
    · intro i h1 h2
      simp [madeCells, nils, Value.cells, Nat.mod_one]
  rw [e]
theorem set_row (c : Nat) (ads : List Nat) (k R g : Nat) (hk : ads.length = k) (h : k < R) : (ads.map (hdr c) ++ nils (R - k)).set k (.slice (some ⟨g, 0, none⟩) c c) = (ads ++ [g]).map (hdr c) ++ nils (R - (k + 1)) := by
  subst hk
  have e2 : nils (R - ads.length) = .slice none 0 0 :: nils (R - (ads.length + 1)) := by
    rw [show R - ads.length = (R - (ads.length + 1)) + 1 from by omega]
    rfl
  rw [List.set_append_right _ _ (by rw [List.length_map]; exact Nat.le_refl _), List.length_map, Nat.sub_self, e2, List.map_append, List.append_assoc]
  rfl

theorem blankRows_any {c R : Nat} (h1 : 1 ≤ c) (h2 : c ≤ 60) (hR : R ≤ 60) (w : World) :
    Calls Tryd.prog 29 #[.int .i64 (c : Int), .int .i64 (R : Int)] w fun e w' => ∃ rb ads, e = .returned (.slice (some ⟨rb, 0, none⟩) R R) ∧ w.heap.size ≤ rb ∧
      Hid (Blk w' rb 34 (ads.map (hdr c))) ∧ Hid (RowsAt w' (fun k => w.heap.size ≤ k) ads (List.replicate R (blank c))) ∧ Hid (Only (fun _ => False) w w') := by
  have hmk := make_rows R (by omega)
  have HB := Lib.hid (fun W => blankRow_any h1 h2 W)
  have HN := Lib.hid (Blk.new w 34 (nils R))
  have HO := Lib.hid ((Only.refl (fun _ => False) w).alloc (.cells (nils R).toArray 34))
  have hz : (w.alloc (.cells (nils R).toArray 34)).heap.size = w.heap.size + 1 := by simp
  have HZ := Lib.hid hz
  clear hz
  go_enter Tryd.func29, Tryd.ntmps29
  go_wp2
  generalize w.alloc (.cells (nils R).toArray 34) = w1 at *
  obtain ⟨N, hN⟩ : ∃ N, N = w.heap.size := ⟨_, rfl⟩
  rw [← hN] at HN HZ ⊢
  have HNe := Lib.hid hN
  clear hN hmk
  go_loopw [6, 10] (fun _ i W => ∃ k : Nat, k ≤ R ∧ i = .int .i64 (k : Int) ∧ Hid (∃ ads, ads.length = k ∧ Blk W N 34 (ads.map (hdr c) ++ nils (R - k)) ∧ RowsAt W (fun k => N ≤ k) ads (List.replicate k (blank c))) ∧ Hid (Only (fun _ => False) w W)) (fun _ i _ => R - (intOf i).toNat)
  case atStart => exact ⟨0, Nat.zero_le _, rfl, ⟨[], rfl, by simpa using HN.out, RowsAt.nil _ _⟩, HO.out⟩
  case round =>
    obtain ⟨k, hk, rfl, HA, HOr⟩ := hrel
    by_cases hlt : k < R
    · obtain ⟨ads, hal, hab, har⟩ := HA.out
      have HA0 := Lib.hid (And.intro hal (And.intro hab har))
      have hlr := hab.lt
      clear HA hal hab har
      go_wp2_with (go_at_call 41; (with_reducible refine (HB.out _).mono ?_); rintro e w5 ⟨g, rfl, hg, hb5, ho5⟩; have hN5 := HA0.out.2.1.only ho5.out (fun h => h); obtain ⟨v, hc5⟩ : ∃ v, w5.cell? ⟨N, k, none⟩ = some v := (by rw [hN5.cell]; exact ⟨_, List.getElem?_eq_getElem (by rw [List.length_append, List.length_map, nils_len, HA0.out.1]; omega)⟩); have hf5 := hN5.frozen k; have HN5 := Lib.hid hN5; clear hN5)
      go_roundw
      case rel =>
        refine ⟨k + 1, by omega, by go_num, ⟨ads ++ [g], by rw [List.length_append, HA0.out.1]; rfl, ?_, ?_⟩, ?_⟩
        · have := HN5.out.setCell k (.slice (some ⟨g, 0, none⟩) c c)
          rw [set_row c ads k R g HA0.out.1 hlt] at this
          exact this
        · obtain ⟨tl, hb⟩ := hb5.out
          have hr := HA0.out.2.2
          have hgl := hr.lt
          have hng : g ≠ N := by omega
          have hr5 := hr.only ho5.out (fun _ _ h => h)
          have ho6 : Only (· = N) w5 (w5.setCell ⟨N, k, none⟩ (.slice (some ⟨g, 0, none⟩) c c)) := (Only.refl (· = N) w5).setCell (p := ⟨N, k, none⟩) (.inl rfl) _
          have hNa : ∀ a ∈ ads, a ≠ N := fun a ha e => by
            subst e
            obtain ⟨i, hi, e2⟩ := List.mem_iff_getElem.1 ha
            obtain ⟨tl2, hb2⟩ := hr5.row i a (blank c) (by rw [← e2]; exact List.getElem?_eq_getElem hi) (by rw [List.getElem?_replicate, if_pos (by have := HA0.out.1; omega)])
            exact hb2.ne HN5.out (by decide) rfl
          have hr6 := hr5.only ho6 hNa
          have hb6 := hb.only ho6 hng
          rw [List.replicate_succ']
          exact hr6.snoc hb6 (by omega) (fun hm => by have := hgl g hm; omega)
        · exact (HOr.out.trans ho5.out (fun _ h => h.elim)).setCell (p := ⟨N, k, none⟩) (.inr (by have := HNe.out; show w.heap.size ≤ N; omega)) _
      case measure => simp [intOf]; omega
    · obtain rfl : k = R := by omega
      go_wp2
      go_ret
      obtain ⟨ads, hal, hab, har⟩ := HA.out
      refine ⟨N, ads, rfl, by have := HNe.out; omega, ?_, ?_, HOr.out⟩
      · have : Blk wr N 34 (ads.map (hdr c)) := by simpa [nils] using hab
        exact this
      · have := HNe.out
        exact har.mono (fun g _ (h : N ≤ g) => by omega)
end Go.Proofs.YtgknhojjnnljkaaDoor
