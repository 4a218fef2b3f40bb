/- RingActs, the round of its loop. -/
import Derived.Test.YtolengbnoenkiaaDoorRingActs
namespace Go.Proofs.YtolengbnoenkiaaDoor
open Go Go.RowKit
set_option maxRecDepth 100000

/-- What holds behind k acts: the two rings agree. -/
def RActsRel (w : World) (p g m room k : Nat) (W : World) : Prop :=
  ∃ (all : List UInt8) (went : Nat), all.length ≤ 100 * k ∧ IsRing W p g room all went ∧ IsRef W m room all went ∧ Only (fun _ => False) w W

/-- The contracts, with what comes back as the law spells it. -/
theorem len_int {w : World} {p g room went : Nat} {all : List UInt8} (h : IsRing w p g room all went) :
    Calls Tryd.prog 20 #[.pointer (some ⟨p, 0, none⟩)] w fun e w' => e = .returned (.int .i64 ((all.length : Int) - (went : Int))) ∧ ∃ n, w' = w.drewN n := by
  have e : ((all.length - went : Nat) : Int) = (all.length : Int) - (went : Int) := by have := h.back; omega
  rw [← e]
  exact len_any h
theorem room_int {w : World} {p g room went : Nat} {all : List UInt8} (h : IsRing w p g room all went) :
    Calls Tryd.prog 21 #[.pointer (some ⟨p, 0, none⟩)] w fun e w' => e = .returned (.int .i64 ((room : Int) - ((all.length : Int) - (went : Int)))) ∧ ∃ n, w' = w.drewN n := by
  have e : ((room - (all.length - went) : Nat) : Int) = (room : Int) - ((all.length : Int) - (went : Int)) := by have := h.back; have := h.fits; omega
  rw [← e]
  exact room_any h

set_option maxHeartbeats 40000000 in
theorem racts_ok (w : World) (room : Nat) (a : Option Addr) (len cap : Nat) (l : List ActV) (ha : Acts w a len l) (hn : len ≤ 60) (h : (l.any fun x => decide (100 < x.len)) = false) (hr1 : 1 ≤ room) (hr2 : room ≤ 4096) :
    Calls Tryd.prog 3 #[.int .i64 (room : Int), .slice a len cap] w (Fine w) := by
  have h100 : ∀ x ∈ l, x.len ≤ 100 := fun x hx => by
    have := List.any_eq_false.1 h x hx
    simpa using this
  have b1 : decide ((room : Int) < 1) = false := by simp; omega
  have b2 : decide ((4096 : Int) < (room : Int)) = false := by simp; omega
  have H100 := Lib.hid h100
  have HL := Lib.hid h
  have HA := Lib.hid ha
  clear h100 h ha
  go_enter Tryd.func3, Tryd.ntmps3
  go_wp2_with fail
  refine (alive_any _).mono ?_
  rintro e w1 ⟨rfl, ho1⟩
  have HO1 := Lib.hid ho1
  clear ho1
  go_wp2_with fail
  refine (long_few _ a len cap l (HA.out.only HO1.out) hn).mono ?_
  rw [HL.out]
  rintro e w2 ⟨rfl, ho2⟩
  have HO2 := Lib.hid (HO1.out.trans ho2 (fun i hi => hi.elim))
  clear ho2 HO1
  go_wp2_with fail
  refine (new_ok _ room hr1 hr2).mono ?_
  rintro e w3 ⟨p, g, rfl, hr, hp, hg, ho3⟩
  have hsz := HO2.out.size
  have hwp : w.heap.size ≤ p := by omega
  have hwg : w.heap.size ≤ g := by omega
  have hpl := hr.head.lt
  have hgl : g < w3.heap.size := by obtain ⟨_, hb, _⟩ := hr.body; exact hb.lt
  have hO3 := HO2.out.trans ho3 (fun i hi => hi.elim)
  have hsz3 := hO3.size
  have hrel0 : RActsRel w p g w3.heap.size room 0 (w3.alloc (.cells #[.int .i64 (room : Int), .string ⟨([] : List UInt8).toArray⟩, .int .i64 0] 33)) :=
    ⟨[], 0, Nat.le_refl _, hr.only ((Only.refl (fun _ => False) w3).alloc _) (fun h => h) (fun h => h), ⟨Blk.new w3 _ [.int .i64 (room : Int), .string ⟨([] : List UInt8).toArray⟩, .int .i64 0], Nat.le_refl _, Nat.zero_le _, hr2, Nat.zero_le _⟩, hO3.alloc _⟩
  have HR0 := Lib.hid hrel0
  have hpm : p < w3.heap.size := hpl
  have hgm : g < w3.heap.size := hgl
  have hwm : w.heap.size ≤ w3.heap.size := hsz3
  clear HO2 hr hp hg ho3 hO3 hsz hsz3 hpl hgl hrel0
  go_wp2_with fail
  obtain ⟨W3, hW3⟩ : ∃ W3, W3 = w3.alloc (.cells #[.int .i64 (room : Int), .string ⟨#[]⟩, .int .i64 0] 33) := ⟨_, rfl⟩
  rw [← hW3]
  have HR1 := Lib.hid (show RActsRel w p g w3.heap.size room 0 W3 by rw [hW3]; exact HR0.out)
  clear hW3 HR0
  generalize w3.heap.size = m at *
  go_loopw [50] (fun i W => ∃ k : Nat, k ≤ len ∧ i = .int .i64 (k : Int) ∧ RActsRel w p g m room k W) (fun i _ => len - (intOf i).toNat)
  case atStart => exact ⟨0, Nat.zero_le _, rfl, HR1.out⟩
  case round =>
    obtain ⟨k, hk, rfl, all, went, hall, hr, hf, ho⟩ := hrel
    by_cases hlt : k < len
    · obtain ⟨x, hx⟩ : ∃ x, l[k]? = some x := ⟨_, List.getElem?_eq_getElem (by rw [HA.out.1]; exact hlt)⟩
      obtain ⟨b, off, rfl, hcell, hok⟩ := (HA.out.only ho).2 k x hx
      have Hold := Lib.hid (fun hn => (by obtain ⟨_, _, _, _, h0⟩ := HA.out.2 k x hx; exact h0.src.lt hn : ∀ ad, x.ad = some ad → ad.block < w.heap.size))
      have hx100 := H100.out x (List.mem_of_getElem? hx)
      have c0 := hcell 0 _ rfl
      have c1 := hcell 1 _ rfl
      have c2 := hcell 2 _ rfl
      simp only [Nat.add_zero] at c0
      have hal0 := hf.far
      have HR := Lib.hid hr
      have HF := Lib.hid hf
      have HO := Lib.hid ho
      have HOk := Lib.hid hok
      have hl1 := hok.le
      have hl2 := hok.top
      have hN : Blk (wr.alloc (.cells #[.int .i64 x.kind, .int .i64 x.n, .slice x.ad x.len x.cap] 36)) wr.heap.size 36 x.vals := Blk.new wr _ x.vals
      have hpN : p < wr.heap.size := HR.out.head.lt
      have hgN : g < wr.heap.size := by obtain ⟨_, hb, _⟩ := HR.out.body; exact hb.lt
      have hmN : m < wr.heap.size := HF.out.head.lt
      have Hal := Lib.hid ((Only.refl (fun _ => False) wr).alloc (.cells #[.int .i64 x.kind, .int .i64 x.n, .slice x.ad x.len x.cap] 36))
      have HHN := Lib.hid hN
      clear hcell hx hr hf ho hok hN
      have hcases : x.kind = 0 ∨ x.kind = 1 ∨ x.kind = 2 ∨ x.kind = 3 ∨ (x.kind ≠ 0 ∧ x.kind ≠ 1 ∧ x.kind ≠ 2 ∧ x.kind ≠ 3) := by omega
      rcases hcases with hk0 | hk0 | hk0 | hk0 | ⟨hk0, hk1, hk2, hk3⟩
      focus
        have k0 : (x.kind == 0) = true := by rw [hk0]; rfl
        have k1 : (x.kind == 1) = false := by rw [hk0]; rfl
        clear hk0
        go_wp2_with fail
        have c2' : (wr.alloc (.cells #[.int .i64 x.kind, .int .i64 x.n, .slice x.ad x.len x.cap] 36)).cell? ⟨wr.heap.size, 2, none⟩ = some (.slice x.ad x.len x.cap) := by rw [HHN.out.cell]; rfl
        have hz0 : (wr.alloc (.cells #[.int .i64 x.kind, .int .i64 x.n, .slice x.ad x.len x.cap] 36)).heap.size = wr.heap.size + 1 := by simp
        have HR0 := Lib.hid (HR.out.only Hal.out (fun h => h) (fun h => h))
        have HF0 := Lib.hid (HF.out.only Hal.out (fun h => h))
        have HO0 := Lib.hid (HO.out.trans Hal.out (fun i hi => hi.elim))
        have HS0 := Lib.hid (HOk.out.src.only Hal.out (fun _ _ _ h => h))
        clear c0 c1 c2 HHN Hal HR HF HO HOk
        generalize wr.alloc (.cells #[.int .i64 x.kind, .int .i64 x.n, .slice x.ad x.len x.cap] 36) = W0 at *
        generalize wr.heap.size = N at *
        have hz1 : N < W0.heap.size := by omega
        clear hz0
        refine (bytes_any HS0.out x.cap (by omega)).mono ?_
        rintro e w4 ⟨rfl, hb4, ho4⟩
        have Hb4 := Lib.hid hb4
        have Ho4 := Lib.hid ho4
        have c24 := ho4.cellv c2' (fun h => h)
        have HS4 := Lib.hid (HS0.out.only Ho4.out (fun _ _ _ h => h))
        clear hb4 ho4 c2'
        obtain ⟨q, hq⟩ : ∃ q, fitting x.len room (all.length - went) = q := ⟨_, rfl⟩
        have hxl : x.xs.length = x.len := HS0.out.1
        have hblk : ∀ ad, x.ad = some ad → 0 < x.len → ad.block < w.heap.size := fun ad e h0 => Hold.out h0 ad e
        have HBl := Lib.hid hblk
        have hbs : Src w4.drew (some ⟨W0.heap.size, 0, none⟩) x.len x.xs := Hb4.out.drew.src hxl (fun j y hy => by
          rw [Nat.zero_add, List.getElem?_append_left (by rw [List.length_map]; exact (List.getElem?_eq_some_iff.1 hy).1), List.getElem?_map, hy]
          rfl)
        have hgW : g < W0.heap.size := by omega
        have C1 := put_any ((HR0.out.only Ho4.out (fun h => h) (fun h => h)).keep (w' := w4.drew) fun _ _ _ _ hb => hb.drew) (some ⟨W0.heap.size, 0, none⟩) x.len (x.len + 5) x.xs hbs (by omega) (by omega) (by rintro _ ad ⟨⟩; show W0.heap.size ≠ g; omega) (by omega)
        have HC1 := Lib.hid C1
        have Hq := Lib.hid hq
        have ht4 := text_of (show Src w4.drew x.ad x.len x.xs from HS4.out) x.cap 34 9 5 Tryd.underlying34 Tryd.underlying5 Tryd.underlying9
        have Hxl := Lib.hid hxl
        clear C1 hq hbs hxl hblk
        go_wp2_with fail
        go_region_law
          (first
            | (go_simp; go_at_call 11; (with_reducible refine HC1.out.mono ?_); rintro e w5 ⟨k5, rfl, hk5, hr5, ho5⟩; (obtain rfl : k5 = q := hk5.trans Hq.out); have Hr5 := Lib.hid hr5; have Ho5 := Lib.hid ho5; have c25 := Ho5.out.cellv (show w4.drew.cell? _ = _ from c24) (by show ¬ (N = p ∨ N = g); omega); have HS5 := Lib.hid ((show Src w4.drew x.ad x.len x.xs from HS4.out).only Ho5.out (fun h0 ad e => by have := HBl.out ad e h0; show ¬ (ad.block = p ∨ ad.block = g); omega)); have ht5 := text_of HS5.out x.cap 34 9 5 Tryd.underlying34 Tryd.underlying5 Tryd.underlying9; have HC2 := Lib.hid (refPut (((HF0.out.only Ho4.out (fun h => h)).only ((Only.refl (fun _ => False) w4).drew) (fun h => h)).only Ho5.out (by show ¬ (m = p ∨ m = g); omega)) x.xs (by rw [Hxl.out]; omega) (by rw [Hxl.out]; omega)); clear hk5 hr5 ho5)
            | (go_simp; go_at_call 12; (with_reducible refine HC2.out.mono ?_); rw [Hxl.out, Hq.out]; rintro e w6 ⟨rfl, hf6, ho6⟩; have Hf6 := Lib.hid hf6; have Ho6 := Lib.hid ho6; have c26 := Ho6.out.cellv c25 (by show ¬ N = m; omega); have HC3 := Lib.hid (kept_any (HS5.out.only Ho6.out (fun h0 ad e => by have := HBl.out ad e h0; show ¬ ad.block = m; omega)) x.cap (by omega) ((Hb4.out.drew.only Ho5.out (by show ¬ (W0.heap.size = p ∨ W0.heap.size = g); omega)).only Ho6.out (by show ¬ W0.heap.size = m; omega))); clear hf6 ho6)
            | (go_simp; go_at_call 13; (with_reducible refine HC3.out.mono ?_); rintro e w7 ⟨rfl, rfl⟩))
        all_goals
          have HT := Lib.hid (show ∃ (allt : List UInt8) (wt : Nat), allt.length ≤ 100 * (k + 1) ∧ IsRing w6 p g room allt wt ∧ IsRef w6 m room allt wt ∧ Only (fun _ => False) w w6 from
            ⟨_, went, by have := Hxl.out; rw [List.length_append, List.length_take]; omega, Hr5.out.only Ho6.out (by show ¬ p = m; omega) (by show ¬ g = m; omega), Hf6.out, (((HO0.out.trans Ho4.out (fun i hi => hi.elim)).drew).trans Ho5.out (fun i hi => .inr (by omega))).trans Ho6.out (fun i hi => .inr (by omega))⟩)
          go_wp2_with fail
      rotate_left 3
      focus
        have k0 : (x.kind == 0) = false := by rw [hk0]; rfl
        have k1 : (x.kind == 1) = true := by rw [hk0]; rfl
        clear hk0
        go_wp2_with fail
        have C := Lib.hid (take_any (HR.out.only Hal.out (fun h => h) (fun h => h)) x.n)
        refine C.out.mono ?_
        rintro e w4 ⟨A4, q, rfl, hq, hmade, hr4, ho4⟩
        have Hq := Lib.hid hq
        have Hmade := Lib.hid hmade
        have Hr4 := Lib.hid hr4
        have HN4 := Lib.hid (HHN.out.only ho4 (by show ¬ wr.heap.size = p; omega))
        have c14 : w4.cell? ⟨wr.heap.size, 1, none⟩ = some (.int .i64 x.n) := by rw [HN4.out.cell]; rfl
        have HF4 := Lib.hid ((HF.out.only Hal.out (fun h => h)).only ho4 (by show ¬ m = p; omega))
        have HO4 := Lib.hid ((HO.out.trans Hal.out (fun i hi => hi.elim)).trans ho4 (fun i hi => .inr (by omega)))
        clear C c0 c1 c2 hq hmade hr4 ho4
        go_wp2_with fail
        have C := refPeek HF4.out x.n
        rw [← Hq.out] at C
        refine C.mono ?_
        rintro e w5 ⟨rfl, q5, hw5⟩
        have ho5 : Only (fun _ => False) w4 w5 := by rw [hw5]; exact (Only.refl _ _).drewN q5
        have c15 := ho5.cellv c14 (fun h => h)
        have HF5 := Lib.hid (HF4.out.only ho5 (fun h => h))
        have HO5 := Lib.hid ho5
        clear hw5 C c14 ho5
        go_wp2_with fail
        have C := refDrop HF5.out x.n
        rw [← Hq.out] at C
        refine C.mono ?_
        rintro e w6 ⟨rfl, hf6, ho6⟩
        have ht6 := text_of ((Hmade.out.only HO5.out (fun _ _ _ h => h)).only ho6 (fun i h1 h2 h3 => by
          have h4 : (wr.alloc (.cells #[.int .i64 x.kind, .int .i64 x.n, .slice x.ad x.len x.cap] 36)).heap.size = wr.heap.size + 1 := by simp
          omega)).src q 34 9 5 Tryd.underlying34 Tryd.underlying5 Tryd.underlying9
        obtain ⟨ys, hys⟩ : ∃ ys, ys = first all went q := ⟨_, rfl⟩
        rw [← hys] at ht6 ⊢
        have HT := Lib.hid (show ∃ (allt : List UInt8) (wt : Nat), allt.length ≤ 100 * (k + 1) ∧ IsRing w6 p g room allt wt ∧ IsRef w6 m room allt wt ∧ Only (fun _ => False) w w6 from
          ⟨all, went + q, by omega, (Hr4.out.only HO5.out (fun h => h) (fun h => h)).only ho6 (by show ¬ p = m; omega) (by show ¬ g = m; omega), hf6, (HO4.out.trans HO5.out (fun i hi => hi.elim)).trans ho6 (fun i hi => .inr (by omega))⟩)
        clear hys hf6 ho6 C c15
        go_wp2_with fail
        clear ht6
      rotate_left
      focus
        have k0 : (x.kind == 0) = false := by rw [hk0]; rfl
        have k1 : (x.kind == 1) = false := by rw [hk0]; rfl
        have k2 : (x.kind == 2) = true := by rw [hk0]; rfl
        clear hk0
        go_wp2_with fail
        have c1' : (wr.alloc (.cells #[.int .i64 x.kind, .int .i64 x.n, .slice x.ad x.len x.cap] 36)).cell? ⟨wr.heap.size, 1, none⟩ = some (.int .i64 x.n) := by rw [HHN.out.cell]; rfl
        have hz0 : (wr.alloc (.cells #[.int .i64 x.kind, .int .i64 x.n, .slice x.ad x.len x.cap] 36)).heap.size = wr.heap.size + 1 := by simp
        have HR0 := Lib.hid (HR.out.only Hal.out (fun h => h) (fun h => h))
        have HF0 := Lib.hid (HF.out.only Hal.out (fun h => h))
        have HO0 := Lib.hid (HO.out.trans Hal.out (fun i hi => hi.elim))
        clear c0 c1 c2 HHN Hal HR HF HO
        generalize wr.alloc (.cells #[.int .i64 x.kind, .int .i64 x.n, .slice x.ad x.len x.cap] 36) = W0 at *
        generalize wr.heap.size = N at *
        have hz1 : N < W0.heap.size := by omega
        clear hz0
        refine (peek_any HR0.out x.n).mono ?_
        rintro e w4 ⟨A4, q, rfl, hq, hmade, ho4⟩
        have Hq := Lib.hid hq
        have Hmade := Lib.hid hmade
        have Ho4 := Lib.hid ho4
        have c14 := ho4.cellv c1' (fun h => h)
        obtain ⟨ys, hys⟩ : ∃ ys, ys = first all went q := ⟨_, rfl⟩
        have CP := Lib.hid (show ∀ n, Calls Tryd.prog 15 #[.pointer (some ⟨m, 0, none⟩), .int .i64 x.n] (w4.drewN n) fun e w' => e = .returned (.string ⟨ys.toArray⟩) ∧ ∃ q, w' = (w4.drewN n).drewN q from fun n => by
          have := refPeek ((HF0.out.only Ho4.out (fun h => h)).only ((Only.refl (fun _ => False) w4).drewN n) (fun h => h)) x.n
          rw [← Hq.out, ← hys] at this
          exact this)
        have ht : ∀ n, (convert 34 9 (.slice A4 q q)).run Tryd.prog (w4.drewN n) = .ok (.string ⟨ys.toArray⟩) (w4.drewN n) := fun n => by
          rw [hys]
          exact text_of (hmade.src.only ((Only.refl (fun _ => False) w4).drewN n) (fun _ _ _ h => h)) q 34 9 5 Tryd.underlying34 Tryd.underlying5 Tryd.underlying9
        have hq40 : (q : Int) ≤ 1048576 := by have := asked_le x.n (all.length - went); omega
        clear hq hmade ho4 c1' hys
        go_wp2_with fail
        go_quiet ((go_at_call 15; exact Calls.quiet_of (CP.out _)))
        go_wp2_with fail
        clear ht c14 CP
        have hrel0 : Only (fun i => W0.heap.size ≤ i) w4 (w4.drewN nq) ∧ (0 < q → ∃ (NB : Nat) (vs : List Int), A4 = some ⟨NB, 0, none⟩ ∧ W0.heap.size ≤ NB ∧ vs.length = q ∧ Blk (w4.drewN nq) NB 5 (vs.map (Value.int .u8))) := by
          refine ⟨(Only.refl _ _).drewN _, fun h0 => ?_⟩
          obtain ⟨hl, ⟨hz, _⟩ | ⟨NB, e, hB, hb⟩⟩ := Hmade.out
          · omega
          · refine ⟨NB, (first all went q).map (fun x => (x.toNat : Int)), e, hB, by simpa using hl, ?_⟩
            rw [List.map_map]
            exact hb.drewN nq
        have HR00 := Lib.hid hrel0
        clear hrel0 Hmade
        generalize w4.drewN nq = w5 at *
        go_loopw [110] (fun i W => ∃ j : Nat, j ≤ q ∧ i = .int .i64 (j : Int) ∧ Hid (Only (fun i => W0.heap.size ≤ i) w4 W ∧ (0 < q → ∃ (NB : Nat) (vs : List Int), A4 = some ⟨NB, 0, none⟩ ∧ W0.heap.size ≤ NB ∧ vs.length = q ∧ Blk W NB 5 (vs.map (Value.int .u8))))) (fun i _ => q - (intOf i).toNat)
        case atStart => exact ⟨0, Nat.zero_le _, rfl, HR00.out⟩
        obtain ⟨j, hj, rfl, hin⟩ := hrel
        clear HR00
        by_cases hjq : j < q
        focus
          obtain ⟨NB, vs, rfl, hB, hvl, hb⟩ := hin.out.2 (by omega)
          have hc : wr.cell? ⟨NB, j, none⟩ = some (.int .u8 (vs[j]'(by omega))) := by
            rw [hb.cell, List.getElem?_map, List.getElem?_eq_getElem (by omega)]
            rfl
          generalize vs[j]'(by omega) = v at hc
          have hfz := hb.frozen j
          have Hb := Lib.hid hb
          have Hvl := Lib.hid hvl
          have Hin := Lib.hid hin.out.1
          clear hin hb hvl
          go_wp2_with fail
          go_roundw
          case rel =>
            refine ⟨j + 1, by omega, by go_num, Hin.out.setCell (p := ⟨NB, j, none⟩) (.inl hB) _, fun _ => ⟨NB, vs.set j (bits .xor .u8 v 255), rfl, hB, by rw [List.length_set, Hvl.out], ?_⟩⟩
            have := Hb.out.setCell j (.int .u8 (bits .xor .u8 v 255))
            rw [← List.map_set] at this
            exact this
          case measure => simp [intOf]; omega
        have HT := Lib.hid (show ∃ (allt : List UInt8) (wt : Nat), allt.length ≤ 100 * (k + 1) ∧ IsRing wr p g room allt wt ∧ IsRef wr m room allt wt ∧ Only (fun _ => False) w wr from
          ⟨all, went, by omega, (HR0.out.only Ho4.out (fun h => h) (fun h => h)).only hin.out.1 (by show ¬ W0.heap.size ≤ p; omega) (by show ¬ W0.heap.size ≤ g; omega), (HF0.out.only Ho4.out (fun h => h)).only hin.out.1 (by show ¬ W0.heap.size ≤ m; omega),
            (HO0.out.trans Ho4.out (fun i hi => hi.elim)).trans hin.out.1 (fun i hi => .inr (by have := HO0.out.size; omega))⟩)
        clear hin
        go_wp2_with fail
      rotate_left
      focus
        have k0 : (x.kind == 0) = false := by rw [hk0]; rfl
        have k1 : (x.kind == 1) = false := by rw [hk0]; rfl
        have k2 : (x.kind == 2) = false := by rw [hk0]; rfl
        have k3 : (x.kind == 3) = true := by rw [hk0]; rfl
        clear hk0
        go_wp2_with fail
        have c1' : (wr.alloc (.cells #[.int .i64 x.kind, .int .i64 x.n, .slice x.ad x.len x.cap] 36)).cell? ⟨wr.heap.size, 1, none⟩ = some (.int .i64 x.n) := by rw [HHN.out.cell]; rfl
        have HR0 := Lib.hid (HR.out.only Hal.out (fun h => h) (fun h => h))
        have HF0 := Lib.hid (HF.out.only Hal.out (fun h => h))
        have HO0 := Lib.hid (HO.out.trans Hal.out (fun i hi => hi.elim))
        clear c0 c1 c2 HHN Hal HR HF HO
        generalize wr.alloc (.cells #[.int .i64 x.kind, .int .i64 x.n, .slice x.ad x.len x.cap] 36) = W0 at *
        generalize wr.heap.size = N at *
        obtain ⟨q, hq⟩ : ∃ q, asked x.n (all.length - went) = q := ⟨_, rfl⟩
        have C1 := drop_any (HR0.out.keep (w' := W0.drew) fun _ _ _ _ hb => hb.drew) x.n
        rw [hq] at C1
        have HC1 := Lib.hid C1
        have Hq := Lib.hid hq
        clear C1 hq
        go_region_law
          (first
            | (go_simp; go_at_call 18; (with_reducible refine HC1.out.mono ?_); rintro e w4 ⟨rfl, hr4, ho4⟩; have Hr4 := Lib.hid hr4; have Ho4 := Lib.hid ho4; have c14 := Ho4.out.cellv (show W0.drew.cell? _ = _ from c1') (by show ¬ N = p; omega); have C2 := refDrop ((HF0.out.only ((Only.refl (fun _ => False) W0).drew) (fun h => h)).only Ho4.out (by show ¬ m = p; omega)) x.n; rw [Hq.out] at C2; have HC2 := Lib.hid C2; clear C2 hr4 ho4)
            | (go_simp; go_at_call 16; (with_reducible refine HC2.out.mono ?_); rintro e w5 ⟨rfl, hf5, ho5⟩; have Hf5 := Lib.hid hf5; have Ho5 := Lib.hid ho5; clear hf5 ho5))
        all_goals
          have HT := Lib.hid (show ∃ (allt : List UInt8) (wt : Nat), allt.length ≤ 100 * (k + 1) ∧ IsRing w5 p g room allt wt ∧ IsRef w5 m room allt wt ∧ Only (fun _ => False) w w5 from
            ⟨all, went + q, by omega, Hr4.out.only Ho5.out (by show ¬ p = m; omega) (by show ¬ g = m; omega), Hf5.out, (HO0.out.drew.trans Ho4.out (fun i hi => .inr (by omega))).trans Ho5.out (fun i hi => .inr (by omega))⟩)
          go_wp2_with fail
      rotate_left 3
      focus
        have k0 : (x.kind == 0) = false := by simpa using hk0
        have k1 : (x.kind == 1) = false := by simpa using hk1
        have k2 : (x.kind == 2) = false := by simpa using hk2
        have k3 : (x.kind == 3) = false := by simpa using hk3
        clear hk0 hk1 hk2 hk3
        have HT := Lib.hid (show ∃ (allt : List UInt8) (wt : Nat), allt.length ≤ 100 * (k + 1) ∧ IsRing _ p g room allt wt ∧ IsRef _ m room allt wt ∧ Only (fun _ => False) w _ from
          ⟨all, went, by omega, HR.out.only Hal.out (fun h => h) (fun h => h), HF.out.only Hal.out (fun h => h), HO.out.trans Hal.out (fun i hi => hi.elim)⟩)
        go_wp2_with fail
        clear c0 c1 c2
      all_goals
        obtain ⟨allt, wt, hal, hr, hf, ho⟩ := HT.out
        clear HT
        refine (counts_any hr).mono ?_
        rintro e w7 ⟨rfl, q7, hw7⟩
        have ho7 : Only (fun _ => False) w w7 := by rw [hw7]; exact ho.drewN q7
        have hr7 : IsRing w7 p g room allt wt := by rw [hw7]; exact hr.keep fun _ _ _ _ hb => hb.drewN q7
        have hf7 : IsRef w7 m room allt wt := by rw [hw7]; exact hf.only ((Only.refl (fun _ => False) _).drewN q7) (fun h => h)
        clear hw7 hr hf ho
        have m1 := hf7.c1
        have m2 := hf7.c2
        have hb7 := hf7.back
        have hf7' := hf7.far
        have hx7 := hr7.fits
        have CL := Lib.hid (fun n => len_int (hr7.keep (w' := w7.drewN n) fun _ _ _ _ hb => hb.drewN n))
        have CR := Lib.hid (fun n => room_int (hr7.keep (w' := w7.drewN n) fun _ _ _ _ hb => hb.drewN n))
        have Hr7 := Lib.hid hr7
        have Hf7 := Lib.hid hf7
        have Ho7 := Lib.hid ho7
        clear hr7 hf7 ho7
        go_wp2_with fail
        go_quiet ((first | (go_at_call 20; exact Calls.quiet_of (CL.out _)) | (go_at_call 21; exact Calls.quiet_of (CR.out _))))
        go_wp2_with fail
        go_roundw
        case rel =>
          refine ⟨k + 1, by omega, by go_num, allt, wt, hal, ?_, ?_, Ho7.out.drewN _⟩
          · exact Hr7.out.keep fun _ _ _ _ hb => hb.drewN _
          · exact Hf7.out.only ((Only.refl (fun _ => False) _).drewN _) (fun h => h)
        case measure => simp [intOf]; omega
    · go_wp2
      go_ret
      exact ⟨rfl, ho⟩
end Go.Proofs.YtolengbnoenkiaaDoor
