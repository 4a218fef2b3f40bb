/- RingKeeps, walked: it answers true, whatever it is called with. -/
import Derived.Test.YtolengbnoenkiaaDoorActs
namespace Go.Proofs.YtolengbnoenkiaaDoor
open Go Go.RowKit

theorem keeps_many (w : World) (room : Int) (a : Option Addr) (len cap : Nat) (hc : len ≤ 9223372036854775807) (h : 60 < len) :
    Calls Tryd.prog 4 #[.int .i64 room, .slice a len cap] w (Fine w) := by
  go_enter Tryd.func4, Tryd.ntmps4
  go_wp2_with fail
  refine (alive_any _).mono ?_
  rintro e w1 ⟨rfl, ho1⟩
  go_wp2_with fail
  refine (long_many _ a len cap hc h).mono ?_
  rintro e w2 ⟨rfl, ho2⟩
  go_wp2
  go_ret
  exact ⟨rfl, ho1.trans ho2 (fun i hi => hi.elim)⟩

theorem keeps_long (w : World) (room : Int) (a : Option Addr) (len cap : Nat) (l : List ActV) (ha : Acts w a len l) (hn : len ≤ 60) (h : (l.any fun x => decide (100 < x.len)) = true) :
    Calls Tryd.prog 4 #[.int .i64 room, .slice a len cap] w (Fine w) := by
  go_enter Tryd.func4, Tryd.ntmps4
  go_wp2_with fail
  refine (alive_any _).mono ?_
  rintro e w1 ⟨rfl, ho1⟩
  go_wp2_with fail
  refine (long_few _ a len cap l (ha.only ho1) hn).mono ?_
  rw [h]
  rintro e w2 ⟨rfl, ho2⟩
  clear h ha
  go_wp2
  go_ret
  exact ⟨rfl, ho1.trans ho2 (fun i hi => hi.elim)⟩

/-- What holds behind k rounds: what came, and what went. -/
def KeepsRel (w : World) (p g room k : Nat) (cs gs : Value) (W : World) : Prop :=
  ∃ (all : List UInt8) (went : Nat), cs = .string ⟨all.toArray⟩ ∧ gs = .string ⟨(all.take went).toArray⟩ ∧ all.length ≤ 100 * k ∧ IsRing W p g room all went ∧ Only (fun _ => False) w W

set_option maxHeartbeats 2000000 in
theorem keeps_ok (w : World) (room : Int) (a : Option Addr) (len cap : Nat) (l : List ActV) (ha : Acts w a len l) (hn : len ≤ 60) (h : (l.any fun x => decide (100 < x.len)) = false) :
    Calls Tryd.prog 4 #[.int .i64 room, .slice a len cap] w (Fine w) := by
  have h100 : ∀ x ∈ l, x.len ≤ 100 := fun x hx => by
    have := List.any_eq_false.1 h x hx
    simpa using this
  have H100 := Lib.hid h100
  have HL := Lib.hid h
  have HA := Lib.hid ha
  clear h100 h ha
  go_enter Tryd.func4, Tryd.ntmps4
  go_wp2_with fail
  refine (alive_any _).mono ?_
  rintro e w1 ⟨rfl, ho1⟩
  have HO1 := Lib.hid ho1
  clear ho1
  go_wp2_with fail
  refine (long_few _ a len cap l (HA.out.only HO1.out) hn).mono ?_
  rw [HL.out]
  rintro e w2 ⟨rfl, ho2⟩
  have HO2 := Lib.hid (HO1.out.trans ho2 (fun i hi => hi.elim))
  clear ho2 HO1
  go_wp2_with fail
  obtain ⟨K, hK, hKe⟩ := u64_rem room 64 (by omega)
  have hKe' : (IntKind.u64.wrap room).tmod 64 = (K : Int) := hKe
  rw [hKe', wrap64_nat K (by omega), show (1 : Int) + (K : Int) = ((K + 1 : Nat) : Int) from by omega, wrap64_nat (K + 1) (by omega)]
  clear hKe hKe'
  generalize IntKind.u64.wrap room = U
  generalize hR : K + 1 = R
  have hR1 : 1 ≤ R := by omega
  have hR2 : R ≤ 64 := by omega
  clear hR hK
  refine (new_ok _ R hR1 (by omega)).mono ?_
  rintro e w3 ⟨p, g, rfl, hr, hp, hg, ho3⟩
  have hO3 := HO2.out.trans ho3 (fun i hi => hi.elim)
  have hsz := HO2.out.size
  have hrel0 : KeepsRel w p g R 0 (.string ⟨([] : List UInt8).toArray⟩) (.string ⟨([] : List UInt8).toArray⟩) w3 := ⟨[], 0, rfl, rfl, Nat.le_refl _, hr, hO3⟩
  have hwp : w.heap.size ≤ p := by omega
  have hwg : w.heap.size ≤ g := by omega
  clear HO2 hr hp hg ho3 hO3 hsz
  go_wp2_with fail
  go_loopw [7, 8, 33] (fun cs gs i W => ∃ k : Nat, k ≤ len ∧ i = .int .i64 (k : Int) ∧ KeepsRel w p g R k cs gs W) (fun _ _ i _ => len - (intOf i).toNat)
  case atStart => exact ⟨0, Nat.zero_le _, rfl, hrel0⟩
  case round =>
    obtain ⟨k, hk, rfl, all, went, rfl, rfl, hall, hr, ho⟩ := hrel
    by_cases hlt : k < len
    · obtain ⟨x, hx⟩ : ∃ x, l[k]? = some x := ⟨_, List.getElem?_eq_getElem (by rw [HA.out.1]; exact hlt)⟩
      obtain ⟨b, off, rfl, hcell, hok⟩ := (HA.out.only ho).2 k x hx
      have Hold := Lib.hid (fun hn => (by obtain ⟨_, _, _, _, h0⟩ := HA.out.2 k x hx; exact h0.src.lt hn : ∀ ad, x.ad = some ad → ad.block < w.heap.size))
      have hx100 := H100.out x (List.mem_of_getElem? hx)
      have c0 := hcell 0 _ rfl
      have c1 := hcell 1 _ rfl
      have c2 := hcell 2 _ rfl
      simp only [Nat.add_zero] at c0
      have HR := Lib.hid hr
      have HOk := Lib.hid hok
      have hl1 := hok.le
      have hl2 := hok.top
      clear hcell hx hrel0 hr hok
      have hN : Blk (wr.alloc (.cells #[.int .i64 x.kind, .int .i64 x.n, .slice x.ad x.len x.cap] 36)) wr.heap.size 36 x.vals := Blk.new wr _ x.vals
      have hpN : p < wr.heap.size := HR.out.head.lt
      have hgN : g < wr.heap.size := by obtain ⟨_, hb, _⟩ := HR.out.body; exact hb.lt
      have Hal := Lib.hid ((Only.refl (fun _ => False) wr).alloc (.cells #[.int .i64 x.kind, .int .i64 x.n, .slice x.ad x.len x.cap] 36))
      have hcases : x.kind = 0 ∨ x.kind = 1 ∨ (x.kind ≠ 0 ∧ x.kind ≠ 1) := by omega
      rcases hcases with hk0 | hk0 | ⟨hk0, hk1⟩
      focus
        have k0 : (x.kind == 0) = true := by simpa using hk0
        have k1 : (x.kind == 1) = false := by rw [hk0]; rfl
        clear hk0
        go_wp2_with fail
        have hr1 := HR.out.only Hal.out (fun h => h) (fun h => h)
        have hs1 := HOk.out.src.only Hal.out (fun _ _ _ h => h)
        refine (put_any hr1 x.ad x.len x.cap x.xs hs1 hl1 hl2 (fun hn ad e => by have := Hold.out hn ad e; omega) (by omega)).mono ?_
        rintro e w4 ⟨m, rfl, hm, hr4, ho4⟩
        have hN4 := hN.only ho4 (by rintro (h | h) <;> omega)
        have c2' := hN4.cell 2
        have c2'' : w4.cell? ⟨wr.heap.size, 2, none⟩ = some (.slice x.ad x.len x.cap) := c2'
        have hs4 := hs1.only ho4 (fun hn ad e h => by have := Hold.out hn ad e; rcases h with h | h <;> omega)
        have HR4 := Lib.hid hr4
        have HO4 := Lib.hid ((ho.trans Hal.out (fun i hi => hi.elim)).trans ho4 (fun i hi => .inr (by rcases hi with h | h <;> omega)))
        have hml : m ≤ x.len := by rw [hm]; unfold fitting; omega
        have hmc : (m : Int) ≤ (x.cap : Int) := by omega
        have Hm := Lib.hid hm
        have hsm : Src w4 x.ad m (x.xs.take m) := ⟨by rw [List.length_take, hs4.1]; omega, fun h0 => by
          obtain ⟨ad, e, h1⟩ := hs4.2 (by omega)
          refine ⟨ad, e, fun j y hy => h1 j y ?_⟩
          rw [List.getElem?_take] at hy
          split at hy
          · exact hy
          · cases hy⟩
        obtain ⟨ys, hys⟩ : ∃ ys, ys = x.xs.take m := ⟨_, rfl⟩
        rw [← hys] at hsm
        have hyl : ys.length = m := hsm.1
        have Hys := Lib.hid hys
        clear c2' hr1 hs1 hr4 ho4 hm hs4 hN4 c0 c1 c2 hN hys
        have n0 : decide ((m : Int) < 0) = false := by simp
        have n1 : decide ((x.len : Int) < (m : Int)) = false := by simp; omega
        obtain ⟨gonet, hgone⟩ : ∃ gone, gone = all.take went := ⟨_, rfl⟩
        obtain ⟨allt, hallt⟩ : ∃ allt, allt = all ++ ys := ⟨_, rfl⟩
        rw [← hgone]
        have hgl : gonet.length ≤ 6000 := by rw [hgone, List.length_take]; omega
        have hyl' : ys.length ≤ 100 := by omega
        have hal1 : all.length ≤ 6000 := by omega
        have hwb := HR.out.back
        have Hgone := Lib.hid (show gonet = allt.take went by rw [hgone, hallt, List.take_append_of_le_length hwb])
        have hHR4 := HR4.out
        rw [← Hys.out, ← hallt] at hHR4
        have Hallt := Lib.hid hallt
        have Hal2 := Lib.hid (show allt.length ≤ 100 * (k + 1) by rw [hallt, List.length_append]; omega)
        have HRm := Lib.hid (show m < x.len → R - (allt.length - went) = 0 by
          intro hf
          have := Hm.out
          have h1 := HR.out.fits
          rw [hallt, List.length_append, hyl]
          unfold fitting at this
          omega)
        have HRt := Lib.hid hHR4
        clear hHR4 HR4 hgone hallt hyl
        rcases Nat.lt_or_ge m x.len with hf | hf
        focus
          have n2 : decide ((m : Int) < (x.len : Int)) = true := by simp; omega
          have HC := Lib.hid (room_eq HRt.out 0 (HRm.out hf))
          go_wp2_with fail
          refine HC.out.mono ?_
          rintro e w5 ⟨rfl, hr5, ho5⟩
          have c25 := ho5.cellv c2'' (fun h => h)
          have hsm5 := hsm.only ho5 (fun _ _ _ h => h)
          have HT := Lib.hid (show ∃ wt, gonet = allt.take wt ∧ IsRing w5 p g R allt wt ∧ Only (fun _ => False) w w5 ∧ allt.length ≤ 100 * (k + 1) from ⟨went, Hgone.out, hr5, HO4.out.trans ho5 (fun i hi => hi.elim), Hal2.out⟩)
          have ht := text_of hsm5 x.cap 34 9 5 Tryd.underlying34 Tryd.underlying5 Tryd.underlying9
          clear c2'' ho5 hsm hsm5 hr5 HO4 HRt n0 n1 n2 HC
          go_wp2_with fail
          rw [ByteArray.mk_append_mk, ← Hallt.out]
          clear c25 ht
        rotate_left
        focus
          have n2 : decide ((m : Int) < (x.len : Int)) = false := by simp; omega
          have HT := Lib.hid (show ∃ wt, gonet = allt.take wt ∧ IsRing w4 p g R allt wt ∧ Only (fun _ => False) w w4 ∧ allt.length ≤ 100 * (k + 1) from ⟨went, Hgone.out, HRt.out, HO4.out, Hal2.out⟩)
          have ht := text_of hsm x.cap 34 9 5 Tryd.underlying34 Tryd.underlying5 Tryd.underlying9
          clear hsm HO4 HRt
          go_wp2_with fail
          rw [ByteArray.mk_append_mk, ← Hallt.out]
          clear c2'' ht n0 n1 n2
      rotate_left 2
      focus
        have k0 : (x.kind == 0) = false := by rw [hk0]; rfl
        have k1 : (x.kind == 1) = true := by simpa using hk0
        clear hk0
        go_wp2_with fail
        refine (take_any (HR.out.only Hal.out (fun h => h) (fun h => h)) x.n).mono ?_
        rintro e w4 ⟨A4, m, rfl, hm, hmade, hr4, ho4⟩
        obtain ⟨ys, hys⟩ : ∃ ys, ys = first all went m := ⟨_, rfl⟩
        rw [← hys] at hmade
        have ht := text_of hmade.src m 34 9 5 Tryd.underlying34 Tryd.underlying5 Tryd.underlying9
        obtain ⟨gone, hgone⟩ : ∃ gone, gone = all.take went := ⟨_, rfl⟩
        obtain ⟨gonet, hgonet⟩ : ∃ gonet, gonet = gone ++ ys := ⟨_, rfl⟩
        obtain ⟨allt, hallt⟩ : ∃ allt, allt = all := ⟨_, rfl⟩
        rw [← hgone]
        have hgl : gone.length ≤ 6000 := by rw [hgone, List.length_take]; omega
        have hyl' : ys.length ≤ 6000 := by rw [hys]; unfold first; rw [List.length_take, List.length_drop]; omega
        have Hgonet := Lib.hid hgonet
        have Hallt := Lib.hid hallt
        have HT := Lib.hid (show ∃ wt, gonet = allt.take wt ∧ IsRing w4 p g R allt wt ∧ Only (fun _ => False) w w4 ∧ allt.length ≤ 100 * (k + 1) from
          ⟨went + m, by rw [hgonet, hgone, hys, hallt, List.take_add]; rfl, by rw [hallt]; exact hr4, (ho.trans Hal.out (fun i hi => hi.elim)).trans ho4 (fun i hi => .inr (by omega)), by rw [hallt]; omega⟩)
        clear hm hys hmade hr4 ho4 hgone hgonet hallt c0 c1 c2
        go_wp2_with fail
        rw [ByteArray.mk_append_mk, ← Hgonet.out, ← Hallt.out]
        clear ht
      rotate_left
      focus
        have k0 : (x.kind == 0) = false := by simpa using hk0
        have k1 : (x.kind == 1) = false := by simpa using hk1
        clear hk0 hk1
        obtain ⟨gonet, hgone⟩ : ∃ gone, gone = all.take went := ⟨_, rfl⟩
        obtain ⟨allt, hallt⟩ : ∃ allt, allt = all := ⟨_, rfl⟩
        have HT := Lib.hid (show ∃ wt, gonet = allt.take wt ∧ IsRing _ p g R allt wt ∧ Only (fun _ => False) w _ ∧ allt.length ≤ 100 * (k + 1) from
          ⟨went, by rw [hgone, hallt], by rw [hallt]; exact HR.out.only Hal.out (fun h => h) (fun h => h), ho.trans Hal.out (fun i hi => hi.elim), by rw [hallt]; omega⟩)
        rw [← hgone, ← hallt]
        clear hgone hallt
        go_wp2_with fail
        clear c0 c1 c2
      all_goals
        obtain ⟨wt, hg, hr, ho5, hal⟩ := HT.out
        clear HT
        obtain ⟨rest, hrest⟩ : ∃ rest, rest = allt.drop wt := ⟨_, rfl⟩
        refine (peek_eq hr 100 (allt.length - wt) (by have := hr.fits; unfold asked; omega) rest (by rw [hrest]; unfold first; exact List.take_of_length_le (by rw [List.length_drop]; omega))).mono ?_
        rintro e w6 ⟨A6, rfl, hmade6, hr6, ho6⟩
        have ht6 := text_of hmade6.src (allt.length - wt) 34 9 5 Tryd.underlying34 Tryd.underlying5 Tryd.underlying9
        have hrel6 : KeepsRel w p g R (k + 1) (.string ⟨allt.toArray⟩) (.string ⟨gonet.toArray⟩) w6 := ⟨allt, wt, rfl, by rw [hg], hal, hr6, ho5.trans ho6 (fun i hi => hi.elim)⟩
        have hb1 : gonet.length ≤ 6000 := by rw [hg, List.length_take]; omega
        have hb2 : rest.length ≤ 6000 := by rw [hrest, List.length_drop]; omega
        have HE := Lib.hid (show gonet ++ rest = allt by rw [hg, hrest, List.take_append_drop])
        have hsum : (Op.stringOp .add (ByteArray.mk gonet.toArray) (ByteArray.mk rest.toArray)).run Tryd.prog w6 = .ok (.string (ByteArray.mk allt.toArray)) w6 := add_texts _ _ _ HE.out (by omega)
        clear hg hrest hr ho5 hmade6 hr6 ho6
        go_wp2_with fail
        go_roundw
        case rel => exact ⟨k + 1, by omega, by go_num, hrel6⟩
        case measure => simp [intOf]; omega
    · go_wp2
      go_ret
      exact ⟨rfl, ho⟩
end Go.Proofs.YtolengbnoenkiaaDoor
