/- The document's screen in memory: its four cells, its rows as texts; so many blanks; all rows are blank; a new one. -/
import Derived.Test.YtgknhojjnnljkaaDoorCeSize
import Derived.Test.YtgknhojjnnljkaaDoorCeLine
import Derived.Test.YtgknhojjnnljkaaDoorRow1
import Derived.Test.YtgknhojjnnljkaaDoorSum
import Derived.Deep.RegionHeldLaw
namespace Go.Proofs.YtgknhojjnnljkaaDoor
open Go Go.RowKit
set_option maxRecDepth 100000
set_option maxHeartbeats 4000000

theorem blanks_any {c : Nat} (hc : c ≤ 200) (w : World) : Calls Tryd.prog 31 #[.int .i64 (c : Int)] w fun e w' => e = .returned (S8 (blank c)) ∧ w' = w := by
  go_enter Tryd.func31, Tryd.ntmps31
  go_wp2
  go_loop [3, 4] (fun v i => ∃ k : Nat, k ≤ c ∧ i = .int .i64 (k : Int) ∧ v = S8 (blank k)) (fun _ i => c - (intOf i).toNat)
  case atStart => exact ⟨0, Nat.zero_le _, rfl, rfl⟩
  case round =>
    obtain ⟨k, hk, rfl, rfl⟩ := hrel
    by_cases hlt : k < c
    · have hsum := fun W => sum_texts (P := Tryd.prog) (w := W) (blank k) [32] (blank (k + 1)) (by unfold blank; exact List.replicate_succ'.symm) (by rw [blank_len]; simp; omega)
      generalize hb1 : blank (k + 1) = b1 at *
      have HB1 := Lib.hid hb1
      generalize blank k = b0 at *
      clear hb1
      go_wp2
      go_round
      case rel => exact ⟨k + 1, by omega, by go_num, by rw [← HB1.out]⟩
      case measure => simp [intOf]; omega
    · obtain rfl : k = c := by omega
      go_wp2
      go_ret
      exact ⟨rfl, rfl⟩

/-- The document's screen. -/
structure DAt (w : World) (p : Nat) (G : Nat → Prop) (s : Sc) : Prop where
  ok : s.Ok
  lt : ∀ k, G k → k < w.heap.size
  gp : G p
  ex : ∃ (ad : Addr) (cap : Nat), Blk w p 45 [.int .i64 (s.c : Int), .int .i64 (s.x : Int), .int .i64 (s.y : Int), .slice (some ad) s.rows.length cap] ∧ s.rows.length ≤ cap ∧ cap ≤ 9223372036854775807 ∧ TSrc w (some ad) s.rows.length s.rows ∧ G ad.block ∧ ad.block ≠ p
def DGoes (p : Nat) (G : Nat → Prop) (s' : Sc) (w w' : World) : Prop := ∃ G', DAt w' p G' s' ∧ Only (· = p) w w' ∧ ∀ k, G' k → G k ∨ w.heap.size ≤ k
section
variable {w w' w'' : World} {G S : Nat → Prop} {p : Nat} {s s' s'' : Sc}
theorem DAt.only (h : DAt w p G s) (ho : Only S w w') (hS : ∀ k, G k → ¬ S k) : DAt w' p G s := by
  obtain ⟨ad, cap, h1, h2, h3, h4, h5, h6⟩ := h.ex
  exact ⟨h.ok, fun k hk => Nat.lt_of_lt_of_le (h.lt k hk) ho.size, h.gp, ad, cap, h1.only ho (hS p h.gp), h2, h3, h4.only ho (fun _ a e => by injection e with e; subst e; exact hS _ h5), h5, h6⟩
theorem DAt.same (h : DAt w p G s) (ho : Only (fun _ => False) w w') : DAt w' p G s := h.only ho (fun _ _ h => h)
theorem DGoes.refl (h : DAt w p G s) : DGoes p G s w w := ⟨G, h, Only.refl _ _, fun _ h => .inl h⟩
theorem DGoes.pre (ho : Only (· = p) w w') (h : DGoes p G s' w' w'') : DGoes p G s' w w'' := by
  obtain ⟨F', h1, h2, h3⟩ := h
  refine ⟨F', h1, ho.trans h2 (fun _ h => .inl h), fun i hi => ?_⟩
  rcases h3 i hi with h4 | h4
  · exact .inl h4
  · exact .inr (Nat.le_trans ho.size h4)
theorem DGoes.mk (hok : s'.Ok) (ho : Only (· = p) w w') (hp : G p) {ad : Addr} {cap : Nat}
    (h1 : Blk w' p 45 [.int .i64 (s'.c : Int), .int .i64 (s'.x : Int), .int .i64 (s'.y : Int), .slice (some ad) s'.rows.length cap]) (h2 : s'.rows.length ≤ cap) (h3 : cap ≤ 9223372036854775807)
    (h4 : TSrc w' (some ad) s'.rows.length s'.rows) (h5 : G ad.block ∨ w.heap.size ≤ ad.block) (h6 : ad.block ≠ p) : DGoes p G s' w w' :=
  ⟨fun k => (G k ∨ w.heap.size ≤ k) ∧ k < w'.heap.size, ⟨hok, fun _ hk => hk.2, ⟨.inl hp, h1.lt⟩, ad, cap, h1, h2, h3, h4, ⟨h5, h4.lt (by have := hok.r1; omega) ad rfl⟩, h6⟩, ho, fun _ hk => hk.1⟩
end

/-- So many blank texts. -/
def bvs (c R : Nat) : List Value := (List.replicate R (blank c)).map S8
theorem bvs_succ (c k : Nat) : bvs c k ++ [S8 (blank c)] = bvs c (k + 1) := by
  unfold bvs
  rw [List.replicate_succ', List.map_append]
  rfl
theorem info_ref : (Tryd.prog.info? 45).map (·.size) = some 4 := by kernel_rfl
/-- All rows are blank: so many texts in a row of the call's own. -/
theorem rblank_any {w : World} {p c x y R : Nat} {v : Value} (h : Blk w p 45 [.int .i64 (c : Int), .int .i64 (x : Int), .int .i64 (y : Int), v]) (hv : v.oneCell' = true) (hc : c ≤ 60) (hR1 : 1 ≤ R) (hR : R ≤ 60) :
    Calls Tryd.prog 24 #[.pointer (some ⟨p, 0, none⟩), .int .i64 (R : Int)] w fun e w' => e = .returned (.tuple #[]) ∧ ∃ g cap, Hid (Blk w' p 45 [.int .i64 (c : Int), .int .i64 (x : Int), .int .i64 (y : Int), .slice (some ⟨g, 0, none⟩) R cap]) ∧
      Hid (w'.ownsRow w.heap.size 9 1 (.slice (some ⟨g, 0, none⟩) R cap) R (bvs c R)) ∧ Hid (Only (· = p) w w') := by
  have hpl := h.lt
  have HBl := Lib.hid (fun W => blanks_any (show c ≤ 200 by omega) W)
  have f3 := h.frozen 3
  have c3 : w.cell? ⟨p, 3, none⟩ = some v := h.cell 3
  have H := Lib.hid h
  have hHw : Hid (p < w.heap.size) := hpl
  clear h
  go_enter Tryd.func24, Tryd.ntmps24
  go_wp2
  obtain ⟨w1, hw1⟩ : ∃ w1, w1 = (w.setCell ⟨p, 3, none⟩ (.slice (some ⟨w.heap.size, 0, none⟩) 0 0)).alloc (.cells #[] 9) := ⟨_, rfl⟩
  rw [← hw1]
  have hB1 := (H.out.setCell 3 (.slice (some ⟨w.heap.size, 0, none⟩) 0 0)).alloc (.cells #[] 9)
  have hO1 : Only (· = p) w ((w.setCell ⟨p, 3, none⟩ (.slice (some ⟨w.heap.size, 0, none⟩) 0 0)).alloc (.cells #[] 9)) := ((Only.refl (· = p) w).setCell (p := ⟨p, 3, none⟩) (.inl rfl) _).alloc _
  have hN1 : ((w.setCell ⟨p, 3, none⟩ (.slice (some ⟨w.heap.size, 0, none⟩) 0 0)).alloc (.cells #[] 9)).ownsRow w.heap.size 9 1 (.slice (some ⟨w.heap.size, 0, none⟩) 0 0) 0 [] :=
    own_of_blk (cur := []) (Blk.new' (w.setCell ⟨p, 3, none⟩ (.slice (some ⟨w.heap.size, 0, none⟩) 0 0)) 9 [] (setCell_size _ _ _)) rfl rfl (by omega) (by omega) (Nat.le_refl _)
  rw [← hw1] at hB1 hO1 hN1
  have HB1 : Hid (Blk w1 p 45 [.int .i64 (c : Int), .int .i64 (x : Int), .int .i64 (y : Int), .slice (some ⟨w.heap.size, 0, none⟩) 0 0]) := hB1
  have HO1 := Lib.hid hO1
  have HN1 := Lib.hid hN1
  clear hB1 hO1 hN1 hw1 f3 c3 H
  go_loopg [] R (fun gg W => ∃ (k : Nat) (A : Option Addr) (cap : Nat), k ≤ R ∧ R - k ≤ gg ∧ Hid (Blk W p 45 [.int .i64 (c : Int), .int .i64 (x : Int), .int .i64 (y : Int), .slice A k cap]) ∧ Hid (W.ownsRow w.heap.size 9 1 (.slice A k cap) k (bvs c k)) ∧ Hid (Only (· = p) w W))
  case atStart => exact ⟨0, some ⟨w.heap.size, 0, none⟩, 0, Nat.zero_le _, Nat.le_refl _, HB1, HN1, HO1⟩
  case round =>
    clear HB1 HN1 HO1
    obtain ⟨k, A, cap, hk, hgg, HB, HN, HO⟩ := hrel
    have c3 : wr.cell? ⟨p, 3, none⟩ = some (.slice A k cap) := HB.out.cell 3
    have c0 : wr.cell? ⟨p, 0, none⟩ = some (.int .i64 (c : Int)) := HB.out.cell 0
    by_cases hlt : k < R
    · have hi : (k : Int) < (R : Int) := by omega
      have HVS := Lib.hid (bvs_succ c k)
      generalize bvs c k = vs at *
      generalize hbl : blank c = bl at *
      have c3a : ∀ o, (wr.alloc o).cell? ⟨p, 3, none⟩ = some (.slice A k cap) := fun o => (HB.out.alloc o).cell 3
      have c0a : ∀ o, (wr.alloc o).cell? ⟨p, 0, none⟩ = some (.int .i64 (c : Int)) := fun o => (HB.out.alloc o).cell 0
      go_wp2
      go_region_law (first
        | (go_simp; go_at_call 31; (with_reducible refine (HBl.out _).mono ?_); rintro e w' ⟨rfl, e2⟩; subst w')
        | ((with_reducible show (if Region.wanted ⟨some 26, _, _, _, _, _⟩ _ = true then _ else _)); refine step_oneR rfl (.tmp 19) (.tmp 25) 43 rfl 9 _ 16 Tryd.underlying43 info_str rfl (by omega) w.heap.size A k cap vs rfl (own_same HN.out (((Only.refl _ wr).alloc _).drew)) wr.heap.size (.string ⟨bl.toArray⟩) rfl ((Blk.new wr 9 [.string ⟨bl.toArray⟩]).drew.cell 0) rfl (by omega) (by have := HO.out.size; simp; omega) ?_; intro A' cap' w5 hq1 hq2; have HG := Lib.hid (Only.grown (S := fun i => (Value.slice A k cap).ownBlock = some i) ((((Only.refl _ wr).alloc (.cells #[.string ⟨bl.toArray⟩] 9)).drew)) hq2.out (fun i hi => .inl hi)); have hP5 := HB.out.only HG.out (fun e => own_ne HN.out HB.out (by decide) _ e rfl); have d3 : w5.cell? ⟨p, 3, none⟩ = some (.slice A k cap) := hP5.cell 3; have f3 := hP5.frozen 3; have HP5 := Lib.hid hP5; clear hP5))
      all_goals go_wp2
      all_goals
        go_roundg (R - (k + 1))
        case measure => omega
        case rel =>
          have ho6 : Only (· = p) w5 (w5.setCell ⟨p, 3, none⟩ (.slice A' (k + 1) cap')) := (Only.refl (· = p) w5).setCell (p := ⟨p, 3, none⟩) (.inl rfl) _
          refine ⟨k + 1, A', cap', by omega, by omega, HP5.out.setCell 3 _, ?_, (HO.out.trans HG.out (fun i hi => .inr (own_lt HN.out i hi).1)).trans ho6 (fun i hi => .inl hi)⟩
          rw [← HVS.out]
          exact own_only hq1.out ho6 (fun q hq e => own_ne hq1.out HP5.out (by decide) q hq e)
    · obtain rfl : k = R := by omega
      have hi : ¬ (k : Int) < (k : Int) := by omega
      obtain ⟨g, rfl, hg, _⟩ := own_at HN.out (by omega)
      go_wp2
      refine bodyPost_end (results_none rfl _ _ _) rfl ?_
      exact ⟨rfl, g, cap, HB, HN, HO⟩

/-- A new one. -/
theorem rnew_ok {w : World} {c R : Nat} (hc1 : 1 ≤ c) (hc2 : c ≤ 60) (hR1 : 1 ≤ R) (hR2 : R ≤ 60) :
    Calls Tryd.prog 8 #[.int .i64 (c : Int), .int .i64 (R : Int)] w fun e w' => ∃ p g cap, e = .returned (.tuple #[.pointer (some ⟨p, 0, none⟩), .int .i64 0]) ∧ w.heap.size ≤ p ∧
      Hid (Blk w' p 45 [.int .i64 (c : Int), .int .i64 0, .int .i64 0, .slice (some ⟨g, 0, none⟩) R cap]) ∧ Hid (w'.ownsRow w.heap.size 9 1 (.slice (some ⟨g, 0, none⟩) R cap) R (bvs c R)) ∧ Hid (Only (fun _ => False) w w') := by
  have HB := Lib.hid (rblank_any (v := .slice none 0 0) (x := 0) (y := 0) (R := R) (Blk.new w 45 [.int .i64 (c : Int), .int .i64 0, .int .i64 0, .slice none 0 0]) rfl hc2 hR1 hR2)
  have i1 : ¬ (c : Int) < 1 := by omega
  have i2 : ¬ (200 : Int) < (c : Int) := by omega
  have i3 : ¬ (R : Int) < 1 := by omega
  have i4 : ¬ (200 : Int) < (R : Int) := by omega
  have HO := Lib.hid ((Only.refl (fun _ => False) w).alloc (.cells #[.int .i64 (c : Int), .int .i64 0, .int .i64 0, .slice none 0 0] 45))
  go_enter Tryd.func8, Tryd.ntmps8
  go_wp2_with (go_at_call 24; (with_reducible refine HB.out.mono ?_); rintro e w1 ⟨rfl, g, cap, hb1, hn1, ho1⟩)
  go_ret2
  exact ⟨_, g, cap, rfl, Nat.le_refl _, hb1, own_mono hn1.out (by simp), HO.out.trans ho1.out (fun i hi => .inr (by omega))⟩
theorem rnew_bad {w : World} (c r : Int) (h : fitsS c r = false) : Calls Tryd.prog 8 #[.int .i64 c, .int .i64 r] w fun e w' => e = .returned (.tuple #[.pointer none, .int .i64 1]) ∧ w' = w := by
  unfold fitsS at h
  by_cases h1 : c < 1
  · clear h
    go_enter Tryd.func8, Tryd.ntmps8
    go_wp2
    go_ret2
    exact ⟨rfl, rfl⟩
  by_cases h2 : 200 < c
  · clear h
    go_enter Tryd.func8, Tryd.ntmps8
    go_wp2
    go_ret2
    exact ⟨rfl, rfl⟩
  by_cases h3 : r < 1
  · clear h
    go_enter Tryd.func8, Tryd.ntmps8
    go_wp2
    go_ret2
    exact ⟨rfl, rfl⟩
  have h4 : 200 < r := by
    rcases Int.lt_or_le 200 r with h4 | h4
    · exact h4
    · rw [decide_eq_true (show 1 ≤ c by omega), decide_eq_true (show c ≤ 200 by omega), decide_eq_true (show 1 ≤ r by omega), decide_eq_true h4] at h
      cases h
  clear h
  go_enter Tryd.func8, Tryd.ntmps8
  go_wp2
  go_ret2
  exact ⟨rfl, rfl⟩
theorem dat_of {w : World} {p g cap c x y : Nat} {rows : List (List UInt8)} {B R : Nat} {vs : List Value} (hok : (⟨c, x, y, rows⟩ : Sc).Ok) (hR : rows.length = R) (hvs : vs = rows.map S8)
    (hb : Blk w p 45 [.int .i64 (c : Int), .int .i64 (x : Int), .int .i64 (y : Int), .slice (some ⟨g, 0, none⟩) R cap]) (hn : w.ownsRow B 9 1 (.slice (some ⟨g, 0, none⟩) R cap) R vs) (hp : B ≤ p) :
    ∃ G, DAt w p G ⟨c, x, y, rows⟩ ∧ ∀ k, G k → B ≤ k := by
  subst hR hvs
  have hr1 : 1 ≤ rows.length := hok.r1
  have hle := own_le hn
  obtain ⟨g', e, hB, hg, _⟩ := own_at hn (by omega)
  have hgg : g = g' := by injection e with e; injection e
  have hne : g ≠ p := own_ne hn hb (by decide) g rfl
  refine ⟨fun k => k = p ∨ k = g, ⟨hok, fun k hk => ?_, .inl rfl, ⟨g, 0, none⟩, cap, hb, hle.1, hle.2, TSrc.of_own hn, .inr rfl, hne⟩, fun k hk => ?_⟩
  · rcases hk with rfl | rfl
    · exact hb.lt
    · omega
  · rcases hk with rfl | rfl
    · exact hp
    · omega
end Go.Proofs.YtgknhojjnnljkaaDoor
