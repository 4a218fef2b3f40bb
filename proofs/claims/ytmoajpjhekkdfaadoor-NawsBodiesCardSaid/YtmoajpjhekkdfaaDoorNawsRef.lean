/- The document's answers for sizes: their bodies, what bodies say, the lesser one. -/
import Derived.Test.YtmoajpjhekkdfaaDoorNawsSz
import Derived.Test.YtmoajpjhekkdfaaDoorText
namespace Go.Proofs.YtmoajpjhekkdfaaDoor
open Go Go.RowKit
set_option maxRecDepth 100000
set_option maxHeartbeats 4000000

theorem refFit_any (w : World) (a b : Int) : Calls Tryd.prog 10 #[.int .i64 a, .int .i64 b] w fun e w' => e = .returned (.int .i64 (less a b)) ∧ w = w' := by
  obtain ⟨L, hL⟩ : ∃ L, L = less a b := ⟨_, rfl⟩
  have HL := Lib.hid hL
  rw [← hL]
  clear hL
  obtain ⟨p, hp⟩ : ∃ p, decide (a ≤ 0) = p := ⟨_, rfl⟩
  obtain ⟨q, hq⟩ : ∃ q, decide (b ≤ 0) = q := ⟨_, rfl⟩
  obtain ⟨r, hr⟩ : ∃ r, decide ((0 : Int) < b) = r := ⟨_, rfl⟩
  obtain ⟨s, hs⟩ : ∃ s, decide (b < a) = s := ⟨_, rfl⟩
  have HP : Hid (p = true ↔ a ≤ 0) := by rw [← hp]; simp [Hid]
  have HQ : Hid (q = true ↔ b ≤ 0) := by rw [← hq]; simp [Hid]
  have HR : Hid (r = true ↔ 0 < b) := by rw [← hr]; simp [Hid]
  have HS : Hid (s = true ↔ b < a) := by rw [← hs]; simp [Hid]
  cases p <;> cases q <;> cases r <;> cases s
  all_goals
    go_enter Tryd.func10, Tryd.ntmps10
    go_wp2
  all_goals
    go_ret
    refine ⟨?_, rfl⟩
    rw [HL.out]
    show Ending.returned (.int .i64 _) = _
    congr 2
    have h1 := HP.out
    have h2 := HQ.out
    have h3 := HR.out
    have h4 := HS.out
    simp only [Bool.false_eq_true, false_iff, true_iff, Int.not_le, Int.not_lt] at h1 h2 h3 h4
    unfold less
    repeat' split
    all_goals omega

theorem refBody_bad (w : World) (c r : Int) (h : (fitsN c && fitsN r) = false) : Calls Tryd.prog 7 #[.int .i64 c, .int .i64 r] w fun e w' => e = .returned (.tuple #[.string ⟨#[]⟩, .int .i64 1]) ∧ w = w' := by
  obtain ⟨p, hp⟩ : ∃ p, decide (c < 0) = p := ⟨_, rfl⟩
  obtain ⟨q, hq⟩ : ∃ q, decide ((65535 : Int) < c) = q := ⟨_, rfl⟩
  obtain ⟨s, hs⟩ : ∃ s, decide (r < 0) = s := ⟨_, rfl⟩
  obtain ⟨t, ht⟩ : ∃ t, decide ((65535 : Int) < r) = t := ⟨_, rfl⟩
  have key : p = true ∨ (p = false ∧ q = true) ∨ (p = false ∧ q = false ∧ s = true) ∨ (p = false ∧ q = false ∧ s = false ∧ t = true) := by
    rw [← hp, ← hq, ← hs, ← ht]
    simp only [decide_eq_true_eq, decide_eq_false_iff_not]
    have h2 : ¬ (fitsN c = true ∧ fitsN r = true) := by
      rintro ⟨h1, h2⟩
      rw [h1, h2] at h
      cases h
    rw [fitsN_iff, fitsN_iff] at h2
    omega
  clear h
  rcases key with rfl | ⟨rfl, rfl⟩ | ⟨rfl, rfl, rfl⟩ | ⟨rfl, rfl, rfl, rfl⟩
  all_goals
    go_enter Tryd.func7, Tryd.ntmps7
    go_wp2
    go_ret2
    exact ⟨rfl, rfl⟩

theorem refBody_ok (w : World) (c r : Int) (hc : fitsN c = true) (hr : fitsN r = true) : Calls Tryd.prog 7 #[.int .i64 c, .int .i64 r] w fun e w' => e = .returned (.tuple #[.string ⟨(bodyOf c r).toArray⟩, .int .i64 0]) ∧ Only (fun _ => False) w w' := by
  have HB := Lib.hid (bodyOf_cells hc hr)
  have HT : Hid (∀ W : World, (convert 24 9 (.slice (some ⟨W.heap.size, 0, none⟩) 4 4)).run Tryd.prog (W.alloc (.cells #[.int .u8 (c / 256), .int .u8 (c % 256), .int .u8 (r / 256), .int .u8 (r % 256)] 5)) = .ok (.string ⟨(bodyOf c r).toArray⟩) (W.alloc (.cells #[.int .u8 (c / 256), .int .u8 (c % 256), .int .u8 (r / 256), .int .u8 (r % 256)] 5))) := fun W =>
    text_new W (bodyOf c r) 4 rfl _ (by rw [HB.out]) _ rfl
  obtain ⟨h1, h2⟩ := fitsN_iff.1 hc
  obtain ⟨h3, h4⟩ := fitsN_iff.1 hr
  have e1 : c.tdiv 256 = c / 256 := Int.tdiv_eq_ediv_of_nonneg h1
  have e2 : c.tmod 256 = c % 256 := Int.tmod_eq_emod_of_nonneg h1
  have e3 : r.tdiv 256 = r / 256 := Int.tdiv_eq_ediv_of_nonneg h3
  have e4 : r.tmod 256 = r % 256 := Int.tmod_eq_emod_of_nonneg h3
  have hT := HT.out w
  clear hc hr
  go_enter Tryd.func7, Tryd.ntmps7
  go_wp2
  go_ret2
  exact ⟨rfl, (Only.refl _ _).alloc _⟩

theorem size_two : (Tryd.prog.info? 34).map (·.size) = some 2 := by kernel_rfl
theorem refParse_short (w : World) (s : List UInt8) (h : s.length < 4) : Calls Tryd.prog 9 #[.string ⟨s.toArray⟩] w fun e w' => e = .returned (.tuple #[.agg #[.int .i64 0, .int .i64 0], .int .i64 3]) ∧ Only (fun _ => False) w w' := by
  obtain ⟨n, hn⟩ : ∃ n, n = s.length := ⟨_, rfl⟩
  have hl : (ByteArray.mk s.toArray).size = n := by rw [hn]; rfl
  have hd : decide ((n : Int) < 4) = true := by simp; omega
  clear hn h
  go_enter Tryd.func9, Tryd.ntmps9
  go_wp2
  refine ret_cell2 rfl w.heap.size rfl 34 [.int .i64 0, .int .i64 0] _ (Blk.new' _ _ _ rfl) Tryd.underlying34 rfl size_two rfl ?_
  exact ⟨rfl, (Only.refl _ _).alloc _⟩
theorem refParse_long (w : World) (s : List UInt8) (h : 4 < s.length) : Calls Tryd.prog 9 #[.string ⟨s.toArray⟩] w fun e w' => e = .returned (.tuple #[.agg #[.int .i64 0, .int .i64 0], .int .i64 4]) ∧ Only (fun _ => False) w w' := by
  obtain ⟨n, hn⟩ : ∃ n, n = s.length := ⟨_, rfl⟩
  have hl : (ByteArray.mk s.toArray).size = n := by rw [hn]; rfl
  have hd : decide ((n : Int) < 4) = false := by simp; omega
  have hd2 : decide ((4 : Int) < (n : Int)) = true := by simp; omega
  clear hn h
  go_enter Tryd.func9, Tryd.ntmps9
  go_wp2
  refine ret_cell2 rfl w.heap.size rfl 34 [.int .i64 0, .int .i64 0] _ (Blk.new' _ _ _ rfl) Tryd.underlying34 rfl size_two rfl ?_
  exact ⟨rfl, (Only.refl _ _).alloc _⟩
theorem refParse_ok (w : World) (s : List UInt8) (a b c d : UInt8) (h : s = [a, b, c, d]) : Calls Tryd.prog 9 #[.string ⟨s.toArray⟩] w fun e w' => e = .returned (.tuple #[.agg #[.int .i64 (two a b), .int .i64 (two c d)], .int .i64 0]) ∧ Only (fun _ => False) w w' := by
  have hl : (ByteArray.mk s.toArray).size = 4 := by rw [h]; rfl
  have g0 := str_get (s := s) (k := 0) (x := a) (by rw [h]; rfl)
  have g1 := str_get (s := s) (k := 1) (x := b) (by rw [h]; rfl)
  have g2 := str_get (s := s) (k := 2) (x := c) (by rw [h]; rfl)
  have g3 := str_get (s := s) (k := 3) (x := d) (by rw [h]; rfl)
  have la := a.toNat_lt
  have lb := b.toNat_lt
  have lc := c.toNat_lt
  have ld := d.toNat_lt
  unfold two
  clear h
  go_enter Tryd.func9, Tryd.ntmps9
  go_wp2
  go_region
  go_wp2
  refine ret_cell2 rfl w.heap.size rfl 34 [_, _] _ (Blk.new' _ _ _ rfl).drew Tryd.underlying34 rfl size_two rfl ?_
  exact ⟨rfl, ((Only.refl _ _).alloc _).drew⟩
end Go.Proofs.YtmoajpjhekkdfaaDoor
