/- A tab, a form feed; any byte; many bytes. -/
import Derived.Test.YtgknhojjnnljkaaDoorCePut
namespace Go.Proofs.YtgknhojjnnljkaaDoor
open Go Go.RowKit
set_option maxRecDepth 100000
set_option maxHeartbeats 4000000
attribute [local go_sem] run_store_complex

section
variable {w : World} {F : Nat → Prop} {p : Nat} {s : Sc}
theorem put_tab (h : ScAt w p F s) {b : UInt8} (hb : b.toNat = 9) :
    Calls Tryd.prog 23 #[.pointer (some ⟨p, 0, none⟩), .int .u8 (b.toNat : Int)] w fun e w' => e = .returned (.tuple #[]) ∧ Hid (Goes p F (s.put b) w w') := by
  obtain ⟨rb, c0, c1, c2, f2, _⟩ := h.cells
  have hr1 := h.ok.r1
  have hx := h.ok.hx
  have hy := h.ok.hy
  have hc2 := h.ok.c2
  have hr2 := h.ok.r2
  have HN := nearest_any (w := w.drew) (u := (((s.x / 8 + 1) * 8 : Nat) : Int)) (v := (s.y : Int)) (by omega) (by omega) (by omega) (by omega) (show 1 ≤ s.c by omega) (show s.c ≤ 64 by omega) hr1 (show s.rows.length ≤ 64 by omega) c0 c1
  rw [show min (max (((s.x / 8 + 1) * 8 : Nat) : Int) 0) ((s.c : Int) - 1) = ((min ((s.x / 8 + 1) * 8) (s.c - 1) : Nat) : Int) from by omega, show min (max (s.y : Int) 0) ((s.rows.length : Int) - 1) = (s.y : Int) from by omega] at HN
  have HNN := Lib.hid HN
  have HT := Lib.hid (fun W => behindTab_any (show s.x < 64 by omega) W)
  have hG : Hid (Goes p F (s.put b) w ((w.setCell ⟨p, 2, none⟩ (.complex .f64 (fl ((min ((s.x / 8 + 1) * 8) (s.c - 1) : Nat) : Int)) (fl (s.y : Int)))).drew)) := by
    have e : s.put b = ⟨s.c, min ((s.x / 8 + 1) * 8) (s.c - 1), s.y, s.rows⟩ := by unfold Sc.put; rw [if_neg (by omega), if_neg (by omega), if_pos hb]
    rw [e]
    have h1 := Goes.cursor (w := w.drew) (h.same ((Only.refl _ w).drew)) (min ((s.x / 8 + 1) * 8) (s.c - 1)) s.y (by omega) hy
    exact Goes.drew h1
  clear h HN hx hy hc2 hr2
  generalize s.put b = st at *
  generalize s.rows.length = R at *
  generalize fl ((min ((s.x / 8 + 1) * 8) (s.c - 1) : Nat) : Int) = z1 at *
  generalize fl (((s.x / 8 + 1) * 8 : Nat) : Int) = z2 at *
  generalize fl (s.x : Int) = fx at *
  generalize fl (s.y : Int) = fy at *
  have hR : ¬ R = 0 := by omega
  rw [hb]
  clear hb
  go_enter Tryd.func23, Tryd.ntmps23
  go_wp2_with fail
  refine region_tail 17 (by kernel_rfl) (by kernel_rfl) ?_
  simp only [List.take_succ_cons, List.take_zero, List.drop_succ_cons, List.drop_zero]
  repeat (first | still_step | still_call (HT.out _) | still_call HNN.out)
  refine wpStill_nil ?_
  go_wp2
  refine bodyPost_end (results_none rfl _ _ _) rfl ?_
  exact ⟨rfl, hG⟩

theorem put_clear (h : ScAt w p F s) {b : UInt8} (hb : b.toNat = 12) :
    Calls Tryd.prog 23 #[.pointer (some ⟨p, 0, none⟩), .int .u8 (b.toNat : Int)] w fun e w' => e = .returned (.tuple #[]) ∧ Hid (Goes p F (s.put b) w w') := by
  have e : s.put b = ⟨s.c, 0, 0, List.replicate s.rows.length (blank s.c)⟩ := by unfold Sc.put; rw [if_neg (by omega), if_neg (by omega), if_neg (by omega), if_neg (by omega), if_neg (by omega), if_pos hb]
  rw [e]
  obtain ⟨rb, ads, h1, h2, h3, h4⟩ := h.ex
  have hr1 := h.ok.r1
  have hr2 := h.ok.r2
  have hc1 := h.ok.c1
  have hc2 := h.ok.c2
  have hok := h.ok.clear
  have hp := h.fp
  have hpl := h1.lt
  have HBl := Lib.hid (fun W => blankRows_any hc1 hc2 hr2 W)
  have c0 : w.cell? ⟨p, 0, none⟩ = some (.int .i64 (s.c : Int)) := h1.cell 0
  have c1 : w.cell? ⟨p, 1, none⟩ = some (.slice (some ⟨rb, 0, none⟩) s.rows.length s.rows.length) := h1.cell 1
  have HA := Lib.hid (And.intro hok (And.intro hp (And.intro h1 hpl)))
  clear h h1 h2 h3 h4 hok hp hpl e hc1 hc2
  generalize fl (s.x : Int) = fx at *
  generalize fl (s.y : Int) = fy at *
  obtain ⟨c, x, y, rows⟩ := s
  dsimp only at *
  generalize rows.length = R at *
  have hR : ¬ R = 0 := by omega
  rw [hb]
  clear hb hr1 hr2
  go_enter Tryd.func23, Tryd.ntmps23
  go_wp2_with fail
  go_region_with (first
      | (go_at_call 29; (with_reducible refine (HBl.out _).mono ?_); rintro e w5 ⟨rb5, ads5, rfl, hrb5, hb5, hr5, ho5⟩; have HO5 : Hid (Only (fun _ => False) w w5) := (((Only.refl _ w).drew).trans ho5.out (fun _ h => h.elim)); have HP5 := Lib.hid (HA.out.2.2.1.only HO5.out (fun h => h)); have k1 := HP5.out.cell 1; have g1 := HP5.out.frozen 1; have k2 := (HP5.out.setCell 1 (.slice (some ⟨rb5, 0, none⟩) R R)).cell 2; have g2 := (HP5.out.setCell 1 (.slice (some ⟨rb5, 0, none⟩) R R)).frozen 2))
  go_wp2
  all_goals
    refine bodyPost_end (results_none rfl _ _ _) rfl ?_
    obtain ⟨hok, hp, h1, hpl⟩ := HA.out
    have hP6 := (HP5.out.setCell 1 (.slice (some ⟨rb5, 0, none⟩) R R)).setCell 2 (.complex .f64 0 0)
    have ho6 : Only (· = p) w5 ((w5.setCell ⟨p, 1, none⟩ (.slice (some ⟨rb5, 0, none⟩) R R)).setCell ⟨p, 2, none⟩ (.complex .f64 0 0)) :=
      ((Only.refl (· = p) w5).setCell (p := ⟨p, 1, none⟩) (.inl rfl) _).setCell (p := ⟨p, 2, none⟩) (.inl rfl) _
    have hrb : w.heap.size ≤ rb5 := hrb5
    refine ⟨rfl, Goes.mk hok (((HO5.out.mono (fun _ h => h.elim)).trans (T := (· = p)) ho6 (fun i hi => .inl (hi ▸ hp)))) hp (rb := rb5) (ads := ads5) ?_ (hb5.out.only ho6 (by show rb5 ≠ p; omega)) (.inr hrb) ((hr5.out.only ho6 (fun g hg => by have := hr5.out.inF g hg; have h9 : w.heap.size ≤ g := this; show g ≠ p; omega)).mono (fun g _ h => .inr h))⟩
    dsimp only
    rw [List.length_replicate, show ((0 : Nat) : Int) = 0 from rfl, fl_zero]
    exact hP6
theorem put_any (h : ScAt w p F s) (b : UInt8) :
    Calls Tryd.prog 23 #[.pointer (some ⟨p, 0, none⟩), .int .u8 (b.toNat : Int)] w fun e w' => e = .returned (.tuple #[]) ∧ Hid (Goes p F (s.put b) w w') := by
  by_cases h0 : 32 ≤ b.toNat ∧ b.toNat ≤ 126
  · exact put_shown h h0.1 h0.2
  by_cases h1 : b.toNat = 8
  · exact put_left h h1
  by_cases h2 : b.toNat = 9
  · exact put_tab h h2
  by_cases h3 : b.toNat = 10
  · exact put_next h h3
  by_cases h4 : b.toNat = 13
  · exact put_front h h4
  by_cases h5 : b.toNat = 12
  · exact put_clear h h5
  exact put_else h h0 h1 h2 h3 h4 h5
end
/-- All bytes, in order. -/
def Sc.puts (s : Sc) (l : List UInt8) : Sc := l.foldl Sc.put s
theorem Sc.Ok.puts {s : Sc} (h : s.Ok) : ∀ l : List UInt8, (s.puts l).Ok := by
  intro l
  induction l generalizing s with
  | nil => exact h
  | cons b l ih => exact ih (h.put b)
theorem puts_snoc (s : Sc) (l : List UInt8) (b : UInt8) : s.puts (l ++ [b]) = (s.puts l).put b := by unfold Sc.puts; rw [List.foldl_append]; rfl
theorem puts_append (s : Sc) (l m : List UInt8) : s.puts (l ++ m) = (s.puts l).puts m := by unfold Sc.puts; rw [List.foldl_append]

theorem write_any {w : World} {F : Nat → Prop} {p : Nat} {s : Sc} (h : ScAt w p F s) {A : Option Addr} {n : Nat} (c : Nat) {xs : List UInt8} (hs : Src w A n xs) (hn : n ≤ 1048576) (hF : 0 < n → ∀ ad, A = some ad → ¬ F ad.block) :
    Calls Tryd.prog 11 #[.pointer (some ⟨p, 0, none⟩), .slice A n c] w fun e w' => e = .returned (.tuple #[]) ∧ Hid (Goes p F (s.puts xs) w w') := by
  have hxl := Lib.hid hs.1
  have HS := Lib.hid hs
  have HF := Lib.hid hF
  have HH := Lib.hid h
  clear hs hF h
  go_enter Tryd.func11, Tryd.ntmps11
  go_wp2_with fail
  go_loopw [5, 8] (fun _ i W => ∃ k : Nat, k ≤ n ∧ i = .int .i64 (k : Int) ∧ Hid (Goes p F (s.puts (xs.take k)) w W)) (fun _ i _ => n - (intOf i).toNat)
  case atStart => exact ⟨0, Nat.zero_le _, rfl, Goes.refl HH.out⟩
  case round =>
    obtain ⟨k, hk, rfl, HG⟩ := hrel
    by_cases hlt : k < n
    · obtain ⟨x, hx⟩ : ∃ x, xs[k]? = some x := ⟨_, List.getElem?_eq_getElem (by rw [hxl.out]; exact hlt)⟩
      obtain ⟨ad, rfl, hc⟩ := HS.out.2 (by omega)
      obtain ⟨F', g1, g2, g3⟩ := HG.out
      have hadl := HS.out.lt (by omega) ad rfl
      have hnF := HF.out (by omega) ad rfl
      have c1 : wr.cell? (ad.add k) = some (.int .u8 (x.toNat : Int)) := g2.cellv (hc k x hx) (by rw [block_add]; exact hnF)
      have HP := Lib.hid (put_any g1 x)
      have HT : Hid (xs.take (k + 1) = xs.take k ++ [x]) := by show _ = _; rw [List.take_add_one, hx]; rfl
      have HGG : Hid (∀ W, Goes p F' ((s.puts (xs.take k)).put x) wr W → Goes p F (s.puts (xs.take (k + 1))) w W) := fun W hW => by
        rw [HT.out, puts_snoc]
        obtain ⟨F2, a1, a2, a3⟩ := hW
        refine ⟨F2, a1, g2.trans a2 g3, fun i hi => ?_⟩
        rcases a3 i hi with h4 | h4
        · exact g3 i h4
        · exact .inr (Nat.le_trans g2.size h4)
      clear hc hx g1 g2 g3 hnF HG HT hadl
      generalize x.toNat = xn at *
      go_wp2_with (go_at_call 23; (with_reducible refine HP.out.mono ?_); rintro e w' ⟨rfl, hgo⟩)
      go_roundw
      case rel => exact ⟨k + 1, by omega, by go_num, HGG.out _ hgo.out⟩
      case measure => simp [intOf]; omega
    · obtain rfl : k = n := by omega
      go_wp2
      refine bodyPost_end (results_none rfl _ _ _) rfl ?_
      have := HG.out
      rw [List.take_of_length_le (by rw [hxl.out]; exact Nat.le_refl _)] at this
      exact ⟨rfl, this⟩
end Go.Proofs.YtgknhojjnnljkaaDoor
