/- StreamActs, walked: it answers true, whatever it is called with. -/
import Derived.Test.YtpabhgkamekcnaaDoorSDo
import Derived.Test.YtpabhgkamekcnaaDoorFinish
import Derived.Deep.RegionHeldLaw
namespace Go.Proofs.YtpabhgkamekcnaaDoor
open Go Go.ChangeShapes Go.WideShapes Go.ChangeAt Go.RowKit
set_option maxRecDepth 100000

theorem sacts_many (w : World) (room : Int) (a : Option Addr) (len cap : Nat) (hc : len ≤ 9223372036854775807) (h : 60 < len) {es : List Addr} (hes : ErrsAt w es) :
    Calls Tryd.prog 3 #[.int .i64 room, .slice a len cap] w (Fine w) := by
  go_enter Tryd.func3, Tryd.ntmps3
  go_wp2_with fail
  refine (salive_any w (hes.of _)).mono ?_
  rintro e w1 ⟨rfl, ho1⟩
  go_wp2_with fail
  refine (slong_many w1 a len cap hc h).mono ?_
  rintro e w2 ⟨rfl, ho2⟩
  go_wp2
  go_ret
  exact ⟨rfl, ho1.trans ho2 (fun _ h => h.elim)⟩

theorem sacts_over (w : World) (room : Int) (a : Option Addr) (len cap : Nat) (l : List SAct) (ha : SActs w a len l) (hn : len ≤ 60) (h : l.any SAct.over = true) {es : List Addr} (hes : ErrsAt w es) :
    Calls Tryd.prog 3 #[.int .i64 room, .slice a len cap] w (Fine w) := by
  have H := Lib.hid h
  clear h
  go_enter Tryd.func3, Tryd.ntmps3
  go_wp2_with fail
  refine (salive_any w (hes.of _)).mono ?_
  rintro e w1 ⟨rfl, ho1⟩
  go_wp2_with fail
  refine (slong_few w1 a len cap l (ha.only ho1) hn).mono ?_
  rw [H.out]
  rintro e w2 ⟨rfl, ho2⟩
  go_wp2
  go_ret
  exact ⟨rfl, ho1.trans ho2 (fun _ h => h.elim)⟩

theorem sacts_bad (w : World) (room : Int) (a : Option Addr) (len cap : Nat) (l : List SAct) (ha : SActs w a len l) (hn : len ≤ 60) (h : l.any SAct.over = false) {es : List Addr} (hes : ErrsAt w es) (hr : room < 1 ∨ 4096 < room) :
    Calls Tryd.prog 3 #[.int .i64 room, .slice a len cap] w (Fine w) := by
  have hr' : room < 1 ∨ (1 ≤ room ∧ 4096 < room) := by omega
  have H := Lib.hid h
  have HA := Lib.hid ha
  have HE := Lib.hid hes
  have HR := Lib.hid hr
  clear h ha hes hr
  rcases hr' with h1 | ⟨h1, h2⟩
  all_goals
    go_enter Tryd.func3, Tryd.ntmps3
    go_wp2_with fail
    refine (salive_any w (HE.out.of _)).mono ?_
    rintro e w1 ⟨rfl, ho1⟩
    have HO1 := Lib.hid ho1
    clear ho1
    go_wp2_with fail
    refine (slong_few w1 a len cap l (HA.out.only HO1.out) hn).mono ?_
    rw [H.out]
    rintro e w2 ⟨rfl, ho2⟩
    have HO2 := Lib.hid (HO1.out.trans ho2 (fun _ h => h.elim))
    clear ho2 HO1
    go_wp2_with fail
    refine (strNew_bad ((HE.out.only HO2.out).of [0, 1, 13]) room HR.out).mono ?_
    rintro e w3 ⟨v, rfl, hv, ho3⟩
    have HO3 := Lib.hid (HO2.out.trans ho3 (fun _ h => h.elim))
    have HC := Lib.hid (num_any (HE.out.only HO3.out) hv)
    clear hv ho3 HO2
    go_wp2_with fail
    refine HC.out.mono ?_
    rintro e w4 ⟨rfl, ho4⟩
    have HO4 := Lib.hid (HO3.out.trans ho4 (fun _ h => h.elim))
    clear ho4 HC
    go_wp2
    go_ret
    exact ⟨rfl, HO4.out⟩

def SActRel (w : World) (p r room k : Nat) (W : World) : Prop := ∃ u : St, u.came.length ≤ 300 * k ∧ u.sent.length ≤ 300 * k ∧ u.room = room ∧ ActAt w W p r u u

section
variable {w W : World} {p r : Nat} {u t : St}
/-- The contracts, with what comes back as the law spells it. -/
theorem act_waits (h : ActAt w W p r u t) : Calls Tryd.prog 11 #[.pointer (some ⟨p, 0, none⟩)] W fun e w' => e = .returned (.int .i64 ((u.came.length : Int) - (u.read : Int))) ∧ Only (fun _ => False) W w' := by
  obtain ⟨m, V, mk, rfl, h2, _⟩ := h
  have hb := h2.inn.back
  refine (strWaits h2).mono ?_
  rintro e w' ⟨rfl, q, rfl⟩
  exact ⟨by rw [show ((u.came.length - u.read : Nat) : Int) = (u.came.length : Int) - (u.read : Int) from by omega], (Only.refl _ _).drewN q⟩
theorem act_read (h : ActAt w W p r u t) : Calls Tryd.prog 12 #[.pointer (some ⟨p, 0, none⟩)] W fun e w' => e = .returned (.int .i64 (u.read : Int)) ∧ Only (fun _ => False) W w' := by
  obtain ⟨m, V, mk, rfl, h2, _⟩ := h
  refine (strRead h2).mono ?_
  rintro e w' ⟨rfl, q, rfl⟩
  exact ⟨rfl, (Only.refl _ _).drewN q⟩
theorem act_closed (h : ActAt w W p r u t) : Calls Tryd.prog 13 #[.pointer (some ⟨p, 0, none⟩)] W fun e w' => e = .returned (.bool u.closed) ∧ Only (fun _ => False) W w' := by
  obtain ⟨m, V, mk, rfl, h2, _⟩ := h
  refine (strClosed h2).mono ?_
  rintro e w' ⟨rfl, q, rfl⟩
  exact ⟨rfl, (Only.refl _ _).drewN q⟩
theorem act_ended (h : ActAt w W p r u t) (e0 : Bool) (he : e0 = (u.closed && ((u.came.length : Int) - (u.read : Int) == 0))) : Calls Tryd.prog 14 #[.pointer (some ⟨p, 0, none⟩)] W fun e w' => e = .returned (.bool e0) ∧ Only (fun _ => False) W w' := by
  obtain ⟨m, V, mk, rfl, h2, _⟩ := h
  have hb := h2.inn.back
  refine (strEnded h2).mono ?_
  rintro e w' ⟨rfl, q, rfl⟩
  refine ⟨?_, (Only.refl _ _).drewN q⟩
  rw [he]
  unfold ended
  congr 3
  rw [Bool.eq_iff_iff]
  simp
  omega
theorem act_room (h : ActAt w W p r u t) : Calls Tryd.prog 15 #[.pointer (some ⟨p, 0, none⟩)] W fun e w' => e = .returned (.int .i64 ((u.room : Int) - ((u.sent.length : Int) - (u.out : Int)))) ∧ Only (fun _ => False) W w' := by
  obtain ⟨m, V, mk, rfl, h2, _⟩ := h
  have hb := h2.ou.back
  have hf := h2.ou.fits
  refine (strRoom h2).mono ?_
  rintro e w' ⟨rfl, q, rfl⟩
  exact ⟨by rw [show ((u.room - (u.sent.length - u.out) : Nat) : Int) = (u.room : Int) - ((u.sent.length : Int) - (u.out : Int)) from by omega], (Only.refl _ _).drewN q⟩
theorem act_wire (h : ActAt w W p r u t) (hfar : u.sent.length ≤ 1099511627776) : Calls Tryd.prog 16 #[.pointer (some ⟨p, 0, none⟩)] W fun e w' => ∃ A c, e = .returned (.slice A u.out c) ∧ Src w' A u.out (u.sent.take u.out) ∧ Only (fun _ => False) W w' := by
  obtain ⟨m, V, mk, rfl, h2, _⟩ := h
  exact strWire h2 hfar
end

theorem cells5 {W W' : World} (ho : Only (fun _ => False) W W') {a1 a2 a3 a4 a5 : Addr} {v1 v2 v3 v4 v5 : Value} (h : W.cell? a1 = some v1 ∧ W.cell? a2 = some v2 ∧ W.cell? a3 = some v3 ∧ W.cell? a4 = some v4 ∧ W.cell? a5 = some v5) :
    W'.cell? a1 = some v1 ∧ W'.cell? a2 = some v2 ∧ W'.cell? a3 = some v3 ∧ W'.cell? a4 = some v4 ∧ W'.cell? a5 = some v5 :=
  ⟨ho.cellv h.1 (fun h => h), ho.cellv h.2.1 (fun h => h), ho.cellv h.2.2.1 (fun h => h), ho.cellv h.2.2.2.1 (fun h => h), ho.cellv h.2.2.2.2 (fun h => h)⟩

set_option maxHeartbeats 40000000 in
theorem sacts_ok (w : World) (room : Nat) (a : Option Addr) (len cap : Nat) (l : List SAct) (ha : SActs w a len l) (hn : len ≤ 60) (h : l.any SAct.over = false) {es : List Addr} (hes : ErrsAt w es) (hr1 : 1 ≤ room) (hr2 : room ≤ 4096) :
    Calls Tryd.prog 3 #[.int .i64 (room : Int), .slice a len cap] w (Fine w) := by
  have b1 : decide ((room : Int) < 1) = false := by simp; omega
  have b2 : decide ((4096 : Int) < (room : Int)) = false := by simp; omega
  have hall : ∀ x ∈ l, x.len ≤ 300 ∧ x.mlen ≤ 40 := fun x hx => by
    have := List.any_eq_false.1 h x hx
    simpa [SAct.over] using this
  have H := Lib.hid h
  have HAll := Lib.hid hall
  have HA := Lib.hid ha
  have HE := Lib.hid hes
  clear h ha hes hall
  go_enter Tryd.func3, Tryd.ntmps3
  go_wp2_with fail
  refine (salive_any w (HE.out.of _)).mono ?_
  rintro e w1 ⟨rfl, ho1⟩
  have HO1 := Lib.hid ho1
  clear ho1
  go_wp2_with fail
  refine (slong_few w1 a len cap l (HA.out.only HO1.out) hn).mono ?_
  rw [H.out]
  rintro e w2 ⟨rfl, ho2⟩
  have HO2 := Lib.hid (HO1.out.trans ho2 (fun _ h => h.elim))
  clear ho2 HO1
  go_wp2_with fail
  refine (strNew w2 room hr1 hr2).mono ?_
  rintro e w3 ⟨m, rfl, s3, ho3⟩
  obtain ⟨w4, hw4⟩ : ∃ w4, w4 = w3.alloc (.cells #[.int .i64 (room : Int), .string ⟨#[]⟩, .slice none 0 0, .int .i64 0, .bool false, .string ⟨#[]⟩, .int .i64 0] 34) := ⟨_, rfl⟩
  have hal : Only (fun _ => False) w3 w4 := by rw [hw4]; exact (Only.refl _ w3).alloc _
  have hz := HO2.out.size
  have hz3 := (HO2.out.trans ho3 (fun _ h => h.elim)).size
  have HR0 := Lib.hid (show SActRel w m.p w3.heap.size room 0 w4 from ⟨fresh room, Nat.zero_le _, Nat.zero_le _, rfl, m, .slice none 0 0, [], rfl, (s3.same hal).lower hz,
    ⟨by rw [hw4]; exact Blk.new w3 _ _, own_nil _ _ _ _, hz3, Nat.le_refl _, Nat.le_refl _, (by intro i _ h2; cases h2), (by intro x hx; cases hx), List.Pairwise.nil, Nat.zero_le _⟩,
    fun hh => absurd (s3.has_lt _ hh).2 (by omega), (by rintro i ⟨⟩), (HO2.out.trans ho3 (fun _ h => h.elim)).trans hal (fun _ h => h.elim)⟩)
  generalize m.p = p at *
  clear s3 ho3 hal hz hz3 HO2
  clear m
  go_wp2_with fail
  rw [← hw4]
  clear hw4 b1 b2
  generalize w3.heap.size = r at *
  go_loopw [44] (fun i W => ∃ k : Nat, k ≤ len ∧ i = .int .i64 (k : Int) ∧ Hid (SActRel w p r room k W)) (fun i _ => len - (intOf i).toNat)
  case atStart => exact ⟨0, Nat.zero_le _, rfl, HR0.out⟩
  case round =>
    clear HR0
    obtain ⟨k, hk, rfl, hr⟩ := hrel
    obtain ⟨u, hu1, hu2, hu3, hAct⟩ := hr.out
    have HAct := Lib.hid hAct
    have HU := Lib.hid (And.intro hu1 (And.intro hu2 hu3))
    clear hr hAct hu1 hu2 hu3
    by_cases hlt : k < len
    · obtain ⟨x, hx⟩ : ∃ x, l[k]? = some x := ⟨_, List.getElem?_eq_getElem (by rw [HA.out.1]; exact hlt)⟩
      have HOk := Lib.hid (by obtain ⟨_, _, _, _, h0⟩ := HA.out.2 k x hx; exact h0 : x.Ok w)
      obtain ⟨b, off, rfl, hcell, _⟩ := (HA.out.only HAct.out.only).2 k x hx
      have HX := Lib.hid (HAll.out x (List.mem_of_getElem? hx))
      have c0 := hcell 0 _ rfl
      have c1 := hcell 1 _ rfl
      have c2 := hcell 2 _ rfl
      have c3 := hcell 3 _ rfl
      simp only [Nat.add_zero] at c0
      have Hal := Lib.hid ((Only.refl (fun _ => False) wr).alloc (.cells (boxed x) 38))
      have HC := Lib.hid (sdo_any (HAct.out.same Hal.out) HOk.out HX.out.1 HX.out.2 HE.out (by have := HU.out.1; omega) (by have := HU.out.2.1; omega) (by have := HU.out.2.2; omega))
      clear hx hcell
      go_wp2_with fail
      refine HC.out.mono ?_
      rintro e w5 ⟨rfl, u5, hu1, hu2, hu3, hA5⟩
      have q5 : w5.cell? ⟨r, 1, none⟩ = some (.string ⟨u5.came.toArray⟩) ∧ w5.cell? ⟨r, 3, none⟩ = some (.int .i64 (u5.read : Int)) ∧ w5.cell? ⟨r, 4, none⟩ = some (.bool u5.closed) ∧ w5.cell? ⟨r, 5, none⟩ = some (.string ⟨u5.sent.toArray⟩) ∧ w5.cell? ⟨r, 6, none⟩ = some (.int .i64 (u5.out : Int)) := by
        obtain ⟨m, V, mk, _, _, h3, _⟩ := hA5
        exact ⟨h3.c 1 _ rfl, h3.c 3 _ rfl, h3.c 4 _ rfl, h3.c 5 _ rfl, h3.c 6 _ rfl⟩
      have hbk : u5.read ≤ u5.came.length ∧ u5.out ≤ u5.sent.length := by
        obtain ⟨m, V, mk, _, _, h3, _⟩ := hA5
        exact ⟨h3.back, h3.backs⟩
      obtain ⟨hbk1, hbk2⟩ := hbk
      have HA5 := Lib.hid hA5
      have HU5 := Lib.hid (show u5.came.length ≤ 300 * (k + 1) ∧ u5.sent.length ≤ 300 * (k + 1) ∧ u5.room = room by have := HU.out; omega)
      have hca : u5.came.length ≤ 1099511627776 := by have := HU5.out.1; omega
      have hse : u5.sent.length ≤ 1099511627776 := by have := HU5.out.2.1; omega
      obtain ⟨e0, he0⟩ : ∃ e0, e0 = (u5.closed && ((u5.came.length : Int) - (u5.read : Int) == 0)) := ⟨_, rfl⟩
      have HE0 := Lib.hid he0
      obtain ⟨y, hy⟩ : ∃ y, y = u5.sent.take u5.out := ⟨_, rfl⟩
      have HY := Lib.hid hy
      have hex : (ByteArray.mk u5.sent.toArray).extract 0 u5.out = ByteArray.mk y.toArray := by
        rw [hy, ← text_upto _ _ hbk2, List.length_take, Nat.min_eq_left hbk2]
      have ew1 : IntKind.i64.wrap ((u5.came.length : Int) - (u5.read : Int)) = (u5.came.length : Int) - (u5.read : Int) := IntWalk.i64_in _ (by omega)
      have ew2 : IntKind.i64.wrap ((u5.sent.length : Int) - (u5.out : Int)) = (u5.sent.length : Int) - (u5.out : Int) := IntWalk.i64_in _ (by omega)
      have ew3 : IntKind.i64.wrap ((room : Int) - ((u5.sent.length : Int) - (u5.out : Int))) = (room : Int) - ((u5.sent.length : Int) - (u5.out : Int)) := IntWalk.i64_in _ (by omega)
      clear hA5 hy he0 hu1 hu2 hu3 HC HAct Hal c0 c1 c2 c3
      obtain ⟨d1, d3, _⟩ := q5
      go_wp2_with fail
      go_quiet (fail)
      have HA55 := Lib.hid (HA5.out.same ((Only.refl _ w5).drewN nq))
      clear d1 d3 HA5
      generalize w5.drewN nq = w55 at *
      have HC1 := Lib.hid (act_waits (HA55.out.same (Only.refl _ w55).drew))
      have HA5d := Lib.hid (HA55.out.same (Only.refl _ w55).drew)
      have q5d : w55.drew.cell? ⟨r, 1, none⟩ = some (.string ⟨u5.came.toArray⟩) ∧ w55.drew.cell? ⟨r, 3, none⟩ = some (.int .i64 (u5.read : Int)) ∧ w55.drew.cell? ⟨r, 4, none⟩ = some (.bool u5.closed) ∧ w55.drew.cell? ⟨r, 5, none⟩ = some (.string ⟨u5.sent.toArray⟩) ∧ w55.drew.cell? ⟨r, 6, none⟩ = some (.int .i64 (u5.out : Int)) := by
        obtain ⟨m, V, mk, _, _, h3, _⟩ := HA5d.out
        exact ⟨h3.c 1 _ rfl, h3.c 3 _ rfl, h3.c 4 _ rfl, h3.c 5 _ rfl, h3.c 6 _ rfl⟩
      go_wp2_with fail
      have hbc : u5.closed = true ∨ u5.closed = false := by cases u5.closed <;> simp
      dsimp only [List.append]
      obtain ⟨bc, hbce⟩ : ∃ bc, bc = u5.closed := ⟨_, rfl⟩
      rw [← hbce] at hbc q5d
      have HBc := Lib.hid hbce
      have HEe := Lib.hid (fun W (h : ActAt w W p r u5 u5) => act_ended h e0 HE0.out)
      have HCl := Lib.hid (fun W (h : ActAt w W p r u5 u5) => by have := act_closed h; rw [← hbce] at this; exact this)
      have HRo := Lib.hid (fun W (h : ActAt w W p r u5 u5) => by have := act_room h; rw [HU5.out.2.2] at this; exact this)
      have he1 : e0 = (bc && ((u5.came.length : Int) - (u5.read : Int) == 0)) := by rw [hbce]; exact HE0.out
      clear hbce HE0
      rcases hbc with rfl | rfl
      focus
        obtain rfl : e0 = ((u5.came.length : Int) - (u5.read : Int) == 0) := by rw [he1]; rfl
        clear he1
        first
          | (go_region_held_law (fun W => W.cell? ⟨r, 1, none⟩ = some (.string ⟨u5.came.toArray⟩) ∧ W.cell? ⟨r, 3, none⟩ = some (.int .i64 (u5.read : Int)) ∧ W.cell? ⟨r, 4, none⟩ = some (.bool true) ∧ W.cell? ⟨r, 5, none⟩ = some (.string ⟨u5.sent.toArray⟩) ∧ W.cell? ⟨r, 6, none⟩ = some (.int .i64 (u5.out : Int)))
              (first | exact q5d | exact q11 | exact q10 | exact q9 | exact q8 | exact q7 | exact q6)
              (first
                | (go_at_call 11; (with_reducible refine HC1.out.mono ?_); rintro e w6 ⟨rfl, ho6⟩; have q6 := cells5 ho6 q5d; have HA6 := Lib.hid (HA5d.out.same ho6); have HC2 := Lib.hid (act_read HA6.out); clear ho6)
                | (go_at_call 12; (with_reducible refine HC2.out.mono ?_); rintro e w7 ⟨rfl, ho7⟩; have q7 := cells5 ho7 q6; have HA7 := Lib.hid (HA6.out.same ho7); have HC3 := Lib.hid (HCl.out _ HA7.out); clear ho7)
                | (go_at_call 13; (with_reducible refine HC3.out.mono ?_); rintro e w8 ⟨rfl, ho8⟩; have q8 := cells5 ho8 q7; have HA8 := Lib.hid (HA7.out.same ho8); have HC4 := Lib.hid (HEe.out _ HA8.out); clear ho8)
                | (go_at_call 14; (with_reducible refine HC4.out.mono ?_); rintro e w9 ⟨rfl, ho9⟩; have q9 := cells5 ho9 q8; have HA9 := Lib.hid (HA8.out.same ho9); have HC5 := Lib.hid (HRo.out _ HA9.out); clear ho9)
                | (go_at_call 15; (with_reducible refine HC5.out.mono ?_); rintro e w10 ⟨rfl, ho10⟩; have q10 := cells5 ho10 q9; have HA10 := Lib.hid (HA9.out.same ho10); have HC6 := Lib.hid (act_wire HA10.out hse); clear ho10)
                | (go_at_call 16; (with_reducible refine HC6.out.mono ?_); rintro e w11 ⟨A11, c11, rfl, hs11, ho11⟩; have q11 := cells5 ho11 q10; have HA11 := Lib.hid (HA10.out.same ho11); have ht11 := text_of (show Src w11 A11 u5.out y by rw [HY.out]; exact hs11) c11 35 9 5 Tryd.underlying35 Tryd.underlying5 Tryd.underlying9; clear ho11 hs11)))
          | fail
      rotate_left
      focus
        obtain rfl : e0 = false := by rw [he1]; rfl
        clear he1
        first
          | (go_region_held_law (fun W => W.cell? ⟨r, 1, none⟩ = some (.string ⟨u5.came.toArray⟩) ∧ W.cell? ⟨r, 3, none⟩ = some (.int .i64 (u5.read : Int)) ∧ W.cell? ⟨r, 4, none⟩ = some (.bool false) ∧ W.cell? ⟨r, 5, none⟩ = some (.string ⟨u5.sent.toArray⟩) ∧ W.cell? ⟨r, 6, none⟩ = some (.int .i64 (u5.out : Int)))
              (first | exact q5d | exact q11 | exact q10 | exact q9 | exact q8 | exact q7 | exact q6)
              (first
                | (go_at_call 11; (with_reducible refine HC1.out.mono ?_); rintro e w6 ⟨rfl, ho6⟩; have q6 := cells5 ho6 q5d; have HA6 := Lib.hid (HA5d.out.same ho6); have HC2 := Lib.hid (act_read HA6.out); clear ho6)
                | (go_at_call 12; (with_reducible refine HC2.out.mono ?_); rintro e w7 ⟨rfl, ho7⟩; have q7 := cells5 ho7 q6; have HA7 := Lib.hid (HA6.out.same ho7); have HC3 := Lib.hid (HCl.out _ HA7.out); clear ho7)
                | (go_at_call 13; (with_reducible refine HC3.out.mono ?_); rintro e w8 ⟨rfl, ho8⟩; have q8 := cells5 ho8 q7; have HA8 := Lib.hid (HA7.out.same ho8); have HC4 := Lib.hid (HEe.out _ HA8.out); clear ho8)
                | (go_at_call 14; (with_reducible refine HC4.out.mono ?_); rintro e w9 ⟨rfl, ho9⟩; have q9 := cells5 ho9 q8; have HA9 := Lib.hid (HA8.out.same ho9); have HC5 := Lib.hid (HRo.out _ HA9.out); clear ho9)
                | (go_at_call 15; (with_reducible refine HC5.out.mono ?_); rintro e w10 ⟨rfl, ho10⟩; have q10 := cells5 ho10 q9; have HA10 := Lib.hid (HA9.out.same ho10); have HC6 := Lib.hid (act_wire HA10.out hse); clear ho10)
                | (go_at_call 16; (with_reducible refine HC6.out.mono ?_); rintro e w11 ⟨A11, c11, rfl, hs11, ho11⟩; have q11 := cells5 ho11 q10; have HA11 := Lib.hid (HA10.out.same ho11); have ht11 := text_of (show Src w11 A11 u5.out y by rw [HY.out]; exact hs11) c11 35 9 5 Tryd.underlying35 Tryd.underlying5 Tryd.underlying9; clear ho11 hs11)))
          | fail
      all_goals
        go_wp2
        go_roundw
        case rel => exact ⟨k + 1, by omega, by go_num, u5, HU5.out.1, HU5.out.2.1, HU5.out.2.2, HA11.out⟩
        case measure => simp [intOf]; omega
    · go_wp2
      go_ret
      exact ⟨rfl, HAct.out.only⟩

theorem streamActs_walk (w : World) {H : Type} {enc : TypeId × Value → H} {fuel1 : Nat} (room : Int) {a : Option Addr} {len cap : Nat} {x : DataW H × List MemPlace} (hf1 : DataW.trod enc Tryd.prog w 0 (fun _ => true) true fuel1 22 [.slice a len cap] = some x) {es : List Addr} (hes : ErrsAt w es) :
    Calls Tryd.prog 3 #[.int .i64 room, .slice a len cap] w (Fine w) := by
  obtain ⟨h1, h2, l, hl⟩ := open_sacts (fun _ => rfl) hf1
  by_cases h60 : 60 < len
  · exact sacts_many w room a len cap (by omega) h60 hes
  · cases ho : l.any SAct.over
    · by_cases hr : room < 1 ∨ 4096 < room
      · exact sacts_bad w room a len cap l hl (by omega) ho hes hr
      · obtain ⟨n, rfl⟩ : ∃ n : Nat, room = (n : Int) := ⟨room.toNat, by omega⟩
        exact sacts_ok w n a len cap l hl (by omega) ho hes (by omega) (by omega)
    · exact sacts_over w room a len cap l hl (by omega) ho hes
end Go.Proofs.YtpabhgkamekcnaaDoor
