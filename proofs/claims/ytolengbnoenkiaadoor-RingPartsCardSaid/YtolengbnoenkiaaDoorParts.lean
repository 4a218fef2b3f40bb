/- RingParts, walked: it answers true, whatever it is called with. -/
import Derived.Test.YtolengbnoenkiaaDoorAlive
import Derived.Test.YtolengbnoenkiaaDoorFinish
import Derived.Deep.RegionHeld3
namespace Go.Proofs.YtolengbnoenkiaaDoor
open Go Go.RowKit

theorem two_cells {w w1 : World} {u v : Value} {t : TypeId} (ho : Only (fun _ => False) (w.alloc (.cells #[u, v] t)) w1) : w1.cell? ⟨w.heap.size, 0, none⟩ = some u ∧ w1.cell? ⟨w.heap.size, 1, none⟩ = some v := by
  have h : Blk (w.alloc (.cells #[u, v] t)) w.heap.size t [u, v] := Blk.new w t [u, v]
  have h1 := h.only ho (fun h => h)
  exact ⟨by rw [h1.cell]; rfl, by rw [h1.cell]; rfl⟩

set_option maxHeartbeats 1000000 in
theorem parts_long (w : World) (A : Option Addr) (n c : Nat) (skip n0 n1 : Int) (hn : n ≤ maxLen) (h : 60 < n) :
    Calls Tryd.prog 5 #[.slice A n c, .int .i64 skip, .agg #[.int .i64 n0, .int .i64 n1]] w (Fine w) := by
  unfold maxLen at hn
  go_enter Tryd.func5, Tryd.ntmps5
  go_wp2_with (go_at_call 6; refine (alive_any _).mono ?_; rintro e w1 ⟨rfl, ho1⟩)
  go_ret
  exact ⟨rfl, ((Only.refl _ _).alloc _).trans ho1 (fun i hi => hi.elim)⟩

set_option maxHeartbeats 1000000 in
theorem parts_bad (w : World) (A : Option Addr) (n c : Nat) (skip n0 n1 : Int) (hn : n ≤ 60) (h : n0 < 0 ∨ 100 < n0 ∨ n1 < 0 ∨ 100 < n1) :
    Calls Tryd.prog 5 #[.slice A n c, .int .i64 skip, .agg #[.int .i64 n0, .int .i64 n1]] w (Fine w) := by
  have h' : n0 < 0 ∨ (0 ≤ n0 ∧ 100 < n0) ∨ (0 ≤ n0 ∧ n0 ≤ 100 ∧ n1 < 0) ∨ (0 ≤ n0 ∧ n0 ≤ 100 ∧ 0 ≤ n1 ∧ 100 < n1) := by omega
  clear h
  rcases h' with h0 | ⟨h0, h1⟩ | ⟨h0, h1, h2⟩ | ⟨h0, h1, h2, h3⟩
  all_goals
    go_enter Tryd.func5, Tryd.ntmps5
    go_wp2_with (go_at_call 6; refine (alive_any _).mono ?_; rintro e w1 ⟨rfl, ho1⟩; obtain ⟨c0, c1⟩ := two_cells ho1)
    go_ret
    exact ⟨rfl, ((Only.refl _ _).alloc _).trans ho1 (fun i hi => hi.elim)⟩

/-- Where RingParts stands: its two rings, and what it was called with. -/
structure St (w : World) (A : Option Addr) (n : Nat) (xs : List UInt8) (n0 n1 : Nat) (B0 p g p' g' : Nat) (all : List UInt8) (went : Nat) (bll : List UInt8) (bent : Nat) (W : World) : Prop where
  left : IsRing W p g 64 all went
  right : IsRing W p' g' 64 bll bent
  only : Only (fun _ => False) w W
  c0 : W.cell? ⟨B0, 0, none⟩ = some (.int .i64 (n0 : Int))
  c1 : W.cell? ⟨B0, 1, none⟩ = some (.int .i64 (n1 : Int))
  src : Src W A n xs
  sep : B0 < p ∧ B0 < g ∧ p < p' ∧ p < g' ∧ g < p' ∧ g < g' ∧ w.heap.size ≤ B0
  old : 0 < n → ∀ ad, A = some ad → ad.block < B0

section
variable {w : World} {A : Option Addr} {n : Nat} {xs : List UInt8} {n0 n1 B0 p g p' g' : Nat} {all : List UInt8} {went : Nat} {bll : List UInt8} {bent : Nat} {W W' : World}
theorem St.toLeft (h : St w A n xs n0 n1 B0 p g p' g' all went bll bent W) {all' : List UInt8} {went' : Nat} {S : Nat → Prop} (hr : IsRing W' p g 64 all' went') (ho : Only S W W') (hS : ∀ i, S i → i = p ∨ i = g) : St w A n xs n0 n1 B0 p g p' g' all' went' bll bent W' := by
  obtain ⟨h1, h2, h3, h4, h5, h6, h7, h8⟩ := h
  have no : ∀ i, i ≠ p → i ≠ g → ¬ S i := fun i a b c => by rcases hS i c with d | d; exact a d; exact b d
  refine ⟨hr, h2.only ho (no _ (by omega) (by omega)) (no _ (by omega) (by omega)), h3.trans ho (fun i hi => .inr ?_), ho.cellv h4 (no _ (by show B0 ≠ p; omega) (by show B0 ≠ g; omega)), ho.cellv h5 (no _ (by show B0 ≠ p; omega) (by show B0 ≠ g; omega)), h6.only ho (fun hn ad e => ?_), h7, h8⟩
  · rcases hS i hi with rfl | rfl <;> omega
  · have := h8 hn ad e
    exact no _ (by omega) (by omega)
theorem St.toRight (h : St w A n xs n0 n1 B0 p g p' g' all went bll bent W) {bll' : List UInt8} {bent' : Nat} {S : Nat → Prop} (hr : IsRing W' p' g' 64 bll' bent') (ho : Only S W W') (hS : ∀ i, S i → i = p' ∨ i = g') : St w A n xs n0 n1 B0 p g p' g' all went bll' bent' W' := by
  obtain ⟨h1, h2, h3, h4, h5, h6, h7, h8⟩ := h
  have no : ∀ i, i ≠ p' → i ≠ g' → ¬ S i := fun i a b c => by rcases hS i c with d | d; exact a d; exact b d
  refine ⟨h1.only ho (no _ (by omega) (by omega)) (no _ (by omega) (by omega)), hr, h3.trans ho (fun i hi => .inr ?_), ho.cellv h4 (no _ (by show B0 ≠ p'; omega) (by show B0 ≠ g'; omega)), ho.cellv h5 (no _ (by show B0 ≠ p'; omega) (by show B0 ≠ g'; omega)), h6.only ho (fun hn ad e => ?_), h7, h8⟩
  · rcases hS i hi with rfl | rfl <;> omega
  · have := h8 hn ad e
    exact no _ (by omega) (by omega)
theorem St.same (h : St w A n xs n0 n1 B0 p g p' g' all went bll bent W) (ho : Only (fun _ => False) W W') : St w A n xs n0 n1 B0 p g p' g' all went bll bent W' :=
  h.toLeft (h.left.only ho (fun h => h) (fun h => h)) ho (fun _ h => h.elim)
end

/-- Where it stands behind k rounds. -/
def PartsRel (w : World) (A : Option Addr) (n : Nat) (xs : List UInt8) (n0 n1 B0 p g p' g' k : Nat) (W : World) : Prop :=
  ∃ all : List UInt8, all.length = k ∧ St w A n xs n0 n1 B0 p g p' g' all k [] 0 W

theorem part_one (all xs : List UInt8) (k a b : Nat) (hk : all.length = k) : first (all ++ xs) k a = xs.take a ∧ first (all ++ xs) (k + a) b = (xs.drop a).take b := by
  subst hk
  unfold first
  constructor
  · rw [List.drop_append_of_le_length (Nat.le_refl _), List.drop_length, List.nil_append]
  · rw [← List.drop_drop, List.drop_append_of_le_length (Nat.le_refl _), List.drop_length, List.nil_append]

set_option maxHeartbeats 2000000 in
theorem parts_ok (w : World) (A : Option Addr) (n c : Nat) (xs : List UInt8) (skip : Int) (n0 n1 : Nat) (hs : Src w A n xs) (hnc : n ≤ c) (hc : c ≤ 9223372036854775807) (hn : n ≤ 60) (h0 : n0 ≤ 100) (h1 : n1 ≤ 100) :
    Calls Tryd.prog 5 #[.slice A n c, .int .i64 skip, .agg #[.int .i64 (n0 : Int), .int .i64 (n1 : Int)]] w (Fine w) := by
  have b0 : decide ((60 : Int) < (n : Int)) = false := by simp; omega
  have b1 : decide ((n0 : Int) < 0) = false := by simp
  have b2 : decide ((100 : Int) < (n0 : Int)) = false := by simp; omega
  have b3 : decide ((n1 : Int) < 0) = false := by simp
  have b4 : decide ((100 : Int) < (n1 : Int)) = false := by simp; omega
  go_enter Tryd.func5, Tryd.ntmps5
  go_wp2_with (go_at_call 6; refine (alive_any _).mono ?_; rintro e w1 ⟨rfl, ho1⟩; obtain ⟨c0, c1⟩ := two_cells ho1)
  have ho1 : Only (fun _ => False) w w1 := ((Only.refl _ _).alloc _).trans ho1 (fun i hi => hi.elim)
  have hA := fun hn => hs.lt hn
  have hs1 := hs.only ho1 (fun _ _ _ h => h)
  have hB : w.heap.size < w1.heap.size := World.block_lt_of_cell? w1 _ c0
  have hB' : w.heap.size ≤ w.heap.size := Nat.le_refl _
  generalize hb0 : w.heap.size = B0 at hs1 hB hA c0 c1 ⊢
  rw [hb0] at hB'
  have HBB := Lib.hid (show w.heap.size ≤ B0 by omega)
  clear hb0 hs hB'
  refine (new_ok _ 64 (by omega) (by omega)).mono ?_
  rintro e w2 ⟨p, g, rfl, hr, hp, hg, ho2⟩
  have ho2' : Only (fun _ => False) w w2 := ho1.trans ho2 (fun i hi => hi.elim)
  have c0' := ho2.cellv c0 (fun h => h)
  have c1' := ho2.cellv c1 (fun h => h)
  have hs2 := hs1.only ho2 (fun _ _ _ h => h)
  clear ho1 ho2 hs1 c0 c1
  go_wp2_with fail
  refine (new_ok _ 64 (by omega) (by omega)).mono ?_
  rintro e w3 ⟨p', g', rfl, hr', hp', hg', ho3⟩
  have hrel0 : PartsRel w A n xs n0 n1 B0 p g p' g' 0 w3 := ⟨[], rfl, hr.only ho3 (fun h => h) (fun h => h), hr', ho2'.trans ho3 (fun i hi => hi.elim), ho3.cellv c0' (fun h => h), ho3.cellv c1' (fun h => h), hs2.only ho3 (fun _ _ _ h => h),
    by have := hr.head.lt; obtain ⟨_, hb, _⟩ := hr.body; have := hb.lt; have := HBB.out; omega, hA⟩
  clear ho2' ho3 hs2 c0' c1' hr hr' hp hg hp' hg' hA hB
  go_wp2_with fail
  obtain ⟨K, hK, hKe⟩ := u64_rem skip 64 (by omega)
  have hKe' : (IntKind.u64.wrap skip).tmod 64 = (K : Int) := hKe
  rw [hKe', wrap64_nat K (by omega)]
  clear hKe hKe'
  generalize IntKind.u64.wrap skip = U
  go_loopw [63] (fun i W => ∃ k : Nat, k ≤ K ∧ i = .int .i64 (k : Int) ∧ PartsRel w A n xs n0 n1 B0 p g p' g' k W) (fun i _ => K - (intOf i).toNat)
  case atStart => exact ⟨0, Nat.zero_le _, rfl, hrel0⟩
  case round =>
    obtain ⟨k, hk, rfl, all, hal, hst⟩ := hrel
    have HAL := Lib.hid hal
    clear hal
    by_cases hlt : k < K
    · go_wp2_with fail
      refine (put_any (A := some ⟨wr.heap.size, 0, none⟩) (hst.left.keep fun _ _ _ _ hb => hb.alloc _) 1 1 [1] (src_new wr _ _ _ _ _ rfl rfl) (by omega) (by omega) (by rintro _ ad ⟨⟩; show wr.heap.size ≠ g; obtain ⟨_, hb, _⟩ := hst.left.body; have := hb.lt; omega) (by have := HAL.out; omega)).mono ?_
      rintro e w4 ⟨m, rfl, hm, hr4, ho4⟩
      obtain rfl : m = 1 := by rw [hm, HAL.out]; unfold fitting; omega
      clear hm
      have hst4 := (hst.same ((Only.refl _ wr).alloc (.cells #[.int .u8 1] 5))).toLeft hr4 ho4 (fun i h => h)
      clear hst hr4 ho4
      go_wp2_with fail
      refine (drop_any hst4.left 1).mono ?_
      rintro e w5 ⟨rfl, hr5, ho5⟩
      have hst5 := hst4.toLeft hr5 ho5 (fun i h => .inl h)
      have he : asked 1 ((all ++ List.take 1 [1]).length - k) = 1 := by rw [List.length_append, HAL.out]; unfold asked; simp; omega
      rw [he] at hst5 ⊢
      clear hst4 hr5 ho5 he
      go_wp2
      go_roundw
      case rel => exact ⟨k + 1, by omega, by go_num, _, by rw [List.length_append, HAL.out]; rfl, hst5⟩
      case measure => simp [intOf]; omega
    · go_wp2_with fail
      refine (put_any hst.left A n c xs hst.src hnc hc (fun hn ad e => by have := hst.old hn ad e; have := hst.sep; omega) (by have := HAL.out; omega)).mono ?_
      rintro e w4 ⟨m, rfl, hm, hr4, ho4⟩
      have hl := hst.src.1
      obtain rfl : m = n := by rw [hm, HAL.out]; unfold fitting; omega
      clear hm
      have hst4 := hst.toLeft hr4 ho4 (fun i h => h)
      rw [List.take_of_length_le (by omega)] at hst4
      clear hst hr4 ho4
      have e1 : ((m : Int) != (m : Int)) = false := by simp
      go_wp2_with fail
      refine (put_any hst4.right A m c xs hst4.src hnc hc (fun hn ad e => by have := hst4.old hn ad e; have := hst4.sep; omega) (by show 0 + m ≤ _; omega)).mono ?_
      rintro e w5 ⟨q, rfl, hq, hr5, ho5⟩
      obtain rfl : q = m := by rw [hq]; unfold fitting; simp; omega
      clear hq
      have hst5 := hst4.toRight hr5 ho5 (fun i h => h)
      rw [List.take_of_length_le (by omega), List.nil_append] at hst5
      clear hst4 hr5 ho5
      have c0 := hst5.c0
      go_wp2_with fail
      clear c0
      have hlen : (all ++ xs).length = k + q := by rw [List.length_append, HAL.out, hl]
      refine (take_any hst5.left (n0 : Int)).mono ?_
      rintro e w6 ⟨A6, m0, rfl, hm0, hmade6, hr6, ho6⟩
      rw [hlen] at hm0
      have hm0' : m0 = min n0 q := by rw [hm0]; unfold asked; omega
      have hst6 := hst5.toLeft hr6 ho6 (fun i h => .inl h)
      have HM0 := Lib.hid hm0'
      have ht6 := text_of hmade6.src m0 34 9 5 Tryd.underlying34 Tryd.underlying5 Tryd.underlying9
      rw [(part_one all xs k m0 0 HAL.out).1] at ht6
      have HLen := Lib.hid hlen
      have hm0q : m0 ≤ q := by omega
      clear hst5 hmade6 hr6 ho6 hm0 hm0' hlen
      obtain ⟨x0, hx0⟩ : ∃ x0, x0 = xs.take m0 := ⟨_, rfl⟩
      rw [← hx0] at ht6
      have HX0 := Lib.hid hx0
      clear hx0
      have c1 := hst6.c1
      go_wp2_with fail
      clear c1 ht6
      refine (take_any hst6.left (n1 : Int)).mono ?_
      rintro e w7 ⟨A7, m1, rfl, hm1, hmade7, hr7, ho7⟩
      rw [HLen.out] at hm1
      have hm1' : m1 = min n1 (q - m0) := by rw [hm1]; unfold asked; omega
      have hst7 := hst6.toLeft hr7 ho7 (fun i h => .inl h)
      have HM1 := Lib.hid hm1'
      have ht7 := text_of hmade7.src m1 34 9 5 Tryd.underlying34 Tryd.underlying5 Tryd.underlying9
      rw [(part_one all xs k m0 m1 HAL.out).2] at ht7
      have hm1q : m0 + m1 ≤ q := by omega
      clear hst6 hmade7 hr7 ho7 hm1 hm1'
      obtain ⟨x1, hx1⟩ : ∃ x1, x1 = (xs.drop m0).take m1 := ⟨_, rfl⟩
      rw [← hx1] at ht7
      have HX1 := Lib.hid hx1
      have hl0 : x0.length ≤ 60 := by rw [HX0.out, List.length_take]; omega
      have hl1 : x1.length ≤ 60 := by rw [hx1, List.length_take]; omega
      clear hx1
      go_wp2_with fail
      obtain ⟨y, hy⟩ : ∃ y, y = xs.take (m0 + m1) := ⟨_, rfl⟩
      obtain ⟨z, hz⟩ : ∃ z, z = xs.drop (m0 + m1) := ⟨_, rfl⟩
      have hxy : x0 ++ x1 = y := by rw [hy, HX0.out, HX1.out, List.take_add]
      have hl' : xs.length = q := hl
      rw [ByteArray.mk_append_mk, hxy]
      have C1 := Lib.hid (take_eq (w := w7.drew) (hst7.right.keep fun _ _ _ _ hb => hb.drew) ((n0 : Int) + (n1 : Int)) (m0 + m1)
        (by rw [hl', HM1.out, HM0.out]; unfold asked; omega) y (by rw [hy]; simp [first]))
      obtain ⟨L, hL⟩ : ∃ L, L = q - (m0 + m1) := ⟨_, rfl⟩
      have C2 := fun W (h : IsRing W p g 64 (all ++ xs) (k + m0 + m1)) => len_eq h L (by rw [HLen.out, hL]; omega)
      have C3 := fun W (h : IsRing W p' g' 64 xs (0 + (m0 + m1))) => len_eq h L (by rw [hl', hL]; omega)
      have C4 := fun W (h : IsRing W p g 64 (all ++ xs) (k + m0 + m1)) => peek_eq h 64 L (by rw [HLen.out, hL]; unfold asked; omega) z (by
        rw [hz, hL]
        have := HAL.out
        unfold first
        rw [show k + m0 + m1 = all.length + (m0 + m1) from by omega, ← List.drop_drop, List.drop_append_of_le_length (Nat.le_refl _), List.drop_length, List.nil_append]
        exact List.take_of_length_le (by rw [List.length_drop]; omega))
      have C5 := fun W (h : IsRing W p' g' 64 xs (0 + (m0 + m1))) => peek_eq h 64 L (by rw [hl', hL]; unfold asked; omega) z (by
        rw [hz, hL]
        unfold first
        rw [Nat.zero_add]
        exact List.take_of_length_le (by rw [List.length_drop]; omega))
      have D2 := Lib.hid C2
      have D3 := Lib.hid C3
      have D4 := Lib.hid C4
      have D5 := Lib.hid C5
      have hst := hst7.same ((Only.refl _ _).drew)
      have c0 := hst.c0
      have c1 := hst.c1
      clear C2 C3 C4 C5 hl hl' hxy hy hz hL hst7
      have ew : IntKind.i64.wrap ((n0 : Int) + (n1 : Int)) = (n0 : Int) + (n1 : Int) := IntWalk.i64_in _ (by omega)
      go_region_law
        (first
          | (go_simp; go_at_call 14; (with_reducible refine C1.out.mono ?_); rintro e w8 ⟨A8, rfl, hmade8, hr8, ho8⟩; have hst8 := hst.toRight hr8 ho8 (fun i h => .inl h); have c08 := hst8.c0; have c18 := hst8.c1; have ht8 := text_of hmade8.src (m0 + m1) 34 9 5 Tryd.underlying34 Tryd.underlying5 Tryd.underlying9; clear hmade8 hr8 ho8)
          | (go_simp; go_at_call 20; (with_reducible refine (D2.out _ hst8.left).mono ?_); rintro e w9 ⟨rfl, hr9, ho9⟩; have hst9 := hst8.same ho9; have c09 := hst9.c0; have c19 := hst9.c1; clear hr9 ho9)
          | (go_simp; go_at_call 20; (with_reducible refine (D3.out _ hst9.right).mono ?_); rintro e w10 ⟨rfl, hr10, ho10⟩; have hst10 := hst9.same ho10; have c010 := hst10.c0; have c110 := hst10.c1; clear hr10 ho10)
          | (go_simp; go_at_call 17; (with_reducible refine (D4.out _ hst10.left).mono ?_); rintro e w11 ⟨A11, rfl, hmade11, hr11, ho11⟩; have hst11 := hst10.same ho11; have c011 := hst11.c0; have c111 := hst11.c1; have ht11 := text_of hmade11.src L 34 9 5 Tryd.underlying34 Tryd.underlying5 Tryd.underlying9; clear hr11 ho11)
          | (go_simp; go_at_call 17; (with_reducible refine (D5.out _ hst11.right).mono ?_); rintro e w12 ⟨A12, rfl, hmade12, hr12, ho12⟩; have hst12 := hst11.same ho12; have c012 := hst12.c0; have c112 := hst12.c1; have ht12 := text_of hmade12.src L 34 9 5 Tryd.underlying34 Tryd.underlying5 Tryd.underlying9; have ht13 := text_of (hmade11.only ho12 (fun _ _ _ h => h)).src L 34 9 5 Tryd.underlying34 Tryd.underlying5 Tryd.underlying9; clear hr12 ho12))
      all_goals
        go_wp2
        go_ret
        refine ⟨?_, hst12.only⟩
        go_simp
end Go.Proofs.YtolengbnoenkiaaDoor
