/- StreamGrants, walked: it answers true, whatever it is called with. -/
import Derived.Test.YtpabhgkamekcnaaDoorSAlive
import Derived.Test.YtpabhgkamekcnaaDoorSArgs
import Derived.Deep.RegionHeld3
import Derived.BigQuiet
namespace Go.Proofs.YtpabhgkamekcnaaDoor
open Go Go.RowKit
set_option maxRecDepth 100000

theorem sgrants_many (w : World) (a : Option Addr) (len cap : Nat) (b : Option Addr) (n c : Nat) (hc : len ≤ 9223372036854775807) (hc2 : n ≤ 9223372036854775807) (h : 10 < len ∨ 20 < n) {es : List Addr} (hes : ErrsOf w [0, 1, 13] es) :
    Calls Tryd.prog 5 #[.slice a len cap, .slice b n c] w (Fine w) := by
  have h' : 10 < len ∨ (len ≤ 10 ∧ 20 < n) := by omega
  have HC := Lib.hid (salive_any w hes)
  clear hes h
  rcases h' with h1 | ⟨h1, h2⟩
  · go_enter Tryd.func5, Tryd.ntmps5
    go_wp2_with fail
    refine HC.out.mono ?_
    rintro e w1 ⟨rfl, ho1⟩
    go_wp2
    go_ret
    exact ⟨rfl, ho1⟩
  · have b1 : decide ((10 : Int) < (len : Int)) = false := by simp; omega
    have b2 : decide ((20 : Int) < (n : Int)) = true := by simp; omega
    go_enter Tryd.func5, Tryd.ntmps5
    go_wp2_with fail
    refine HC.out.mono ?_
    rintro e w1 ⟨rfl, ho1⟩
    go_wp2
    go_ret
    exact ⟨rfl, ho1⟩

def gs (l : List UInt8) (o : Nat) : St := ⟨1000, [], 0, [], false, l, o⟩
theorem gs_send (l xs : List UInt8) (n : Nat) (hn : xs.length = n) (h : l.length + n ≤ 1000) : sendNum (gs l 0) n = 0 ∧ sendSt (gs l 0) xs = gs (l ++ xs) 0 := by
  subst hn
  have e : sendNum (gs l 0) xs.length = 0 := by
    unfold sendNum gs
    rw [if_neg (by simp), if_neg (by show ¬ 1000 - (l.length - 0) < xs.length; omega)]
  exact ⟨e, by unfold sendSt; rw [if_pos e]; rfl⟩
theorem gs_grant (l : List UInt8) (o n : Nat) (h : o ≤ l.length) : grantSt (gs l o) (n : Int) = gs l (min (o + n) l.length) := by
  have e : grantNum (gs l o) (n : Int) = min n (l.length - o) := by
    unfold grantNum gs asked
    show (max 0 (min (n : Int) ((l.length - o : Nat) : Int))).toNat = _
    omega
  unfold grantSt
  rw [e]
  show gs l (o + min n (l.length - o)) = _
  congr 1
  omega
theorem ErrV.zero {es : List Addr} {v : Value} (h : ErrV es v 0) : v = .nilIface := by
  rcases h with ⟨_, h⟩ | ⟨i, a, h, _⟩
  · exact h
  · omega

def SG1 (w : World) (p q k : Nat) (W : World) : Prop := ∃ l, l.length ≤ 90 * k ∧ TwoAt w W p q (gs l 0) (gs l 0)
def SG2 (w : World) (p q S : Nat) (W : World) : Prop := ∃ l, l.length ≤ 900 ∧ TwoAt w W p q (gs l (min S l.length)) (gs l 0)

set_option maxHeartbeats 4000000 in
theorem sgrants_ok (w : World) (a : Option Addr) (len cap : Nat) (bl : List BytesV) (b : Option Addr) (n c : Nat) (gl : List Int) (ha : SlicesAt w a len bl) (hb : IntsAt w b n gl) (h1 : len ≤ 10) (h2 : n ≤ 20) {es : List Addr} (hes : ErrsOf w [0, 1, 13] es) :
    Calls Tryd.prog 5 #[.slice a len cap, .slice b n c] w (Fine w) := by
  have b1 : decide ((10 : Int) < (len : Int)) = false := by simp; omega
  have b2 : decide ((20 : Int) < (n : Int)) = false := by simp; omega
  have HA := Lib.hid ha
  have HB := Lib.hid hb
  have HE := Lib.hid hes
  clear ha hb hes
  go_enter Tryd.func5, Tryd.ntmps5
  go_wp2_with fail
  refine (salive_any w HE.out).mono ?_
  rintro e w1 ⟨rfl, ho1⟩
  have HO1 := Lib.hid ho1
  clear ho1
  go_wp2_with fail
  refine (strNew w1 1000 (by omega) (by omega)).mono ?_
  rintro e w2 ⟨ms, rfl, s2, ho2⟩
  have HS2 := Lib.hid s2
  have HO2 := Lib.hid (HO1.out.trans ho2 (fun i hi => hi.elim))
  have hz1 := HO1.out.size
  clear s2 ho2
  go_wp2_with fail
  refine (strNew w2 1000 (by omega) (by omega)).mono ?_
  rintro e w3 ⟨mt, rfl, t3, ho3⟩
  have HR0 := Lib.hid (show SG1 w ms.p mt.p 0 w3 from ⟨[], Nat.zero_le _, ms, mt, rfl, rfl, by
    have := HS2.out.same ho3
    exact { this with marks := this.marks.mono hz1, wire := own_mono this.wire hz1, lo := ⟨Nat.le_trans hz1 this.lo.1, Nat.le_trans hz1 this.lo.2.1, Nat.le_trans hz1 this.lo.2.2⟩ }, by
    have h2 := HO2.out.size
    exact { t3 with marks := t3.marks.mono h2, wire := own_mono t3.wire h2, lo := ⟨Nat.le_trans h2 t3.lo.1, Nat.le_trans h2 t3.lo.2.1, Nat.le_trans h2 t3.lo.2.2⟩ }, fun i hi hn => by
    have h3 := (HS2.out.has_lt i hi).2
    have h4 := (t3.has_lt i hn).1
    omega, HO2.out.trans ho3 (fun i hi => hi.elim)⟩)
  generalize ms.p = p at *
  generalize mt.p = q at *
  clear t3 ho3 HS2 HO1 HO2 hz1
  clear ms mt
  go_wp2_with fail
  go_loopw [49] (fun i W => ∃ k : Nat, k ≤ len ∧ i = .int .i64 (k : Int) ∧ Hid (SG1 w p q k W)) (fun i _ => len - (intOf i).toNat)
  case atStart => exact ⟨0, Nat.zero_le _, rfl, HR0.out⟩
  case round =>
    clear HR0 b1 b2
    obtain ⟨k, hk, rfl, hr⟩ := hrel
    by_cases hlt : k < len
    · obtain ⟨x, hx⟩ : ∃ x, bl[k]? = some x := ⟨_, List.getElem?_eq_getElem (by rw [HA.out.1]; exact hlt)⟩
      obtain ⟨⟨g, off, rfl, hc⟩, hok⟩ := HA.out.2 k x hx
      have c := (hr.out.choose_spec.2.only).cellv hc (fun h => h)
      have hxc := hok.top
      have hxl := hok.le
      have HOk := Lib.hid hok
      clear hc hok hx
      by_cases h90 : 90 < x.len
      · go_wp2
        go_ret
        exact ⟨rfl, hr.out.choose_spec.2.only⟩
      · have b90 : decide ((90 : Int) < (x.len : Int)) = false := by simp; omega
        obtain ⟨l, hl, hT⟩ := hr.out
        have HT := Lib.hid hT
        have hx1 := HOk.out.src.1
        have HG := Lib.hid (gs_send l x.xs x.len hx1 (by omega))
        clear hr hT hx1
        go_wp2_with fail
        refine (two_send HT.out HE.out x.ad x.len x.cap x.xs HOk.out.src hxl hxc (by show l.length + x.len ≤ _; omega)).mono ?_
        rintro e w4 ⟨v4, rfl, hv4, hT4⟩
        rw [HG.out.1] at hv4
        rw [HG.out.2] at hT4
        obtain rfl := hv4.zero
        have HT4 := Lib.hid hT4.swap
        clear hv4 hT4 HT
        go_wp2_with fail
        refine (two_send HT4.out HE.out x.ad x.len x.cap x.xs HOk.out.src hxl hxc (by show l.length + x.len ≤ _; omega)).mono ?_
        rintro e w5 ⟨v5, rfl, hv5, hT5⟩
        rw [HG.out.1] at hv5
        rw [HG.out.2] at hT5
        obtain rfl := hv5.zero
        have HT5 := Lib.hid hT5.swap
        clear hv5 hT5 HT4
        go_wp2
        go_roundw
        case rel => exact ⟨k + 1, by omega, by go_num, l ++ x.xs, by rw [List.length_append, HOk.out.src.1]; omega, HT5.out⟩
        case measure => simp [intOf]; omega
    · have HR2 := Lib.hid (show SG2 w p q 0 wr by
        obtain ⟨l, hl, hT⟩ := hr.out
        exact ⟨l, by omega, by rw [Nat.zero_min]; exact hT⟩)
      clear hr
      go_wp2_with fail
      go_loopw [11, 69] (fun sm i W => ∃ (k S : Nat), k ≤ n ∧ i = .int .i64 (k : Int) ∧ sm = .int .i64 (S : Int) ∧ S ≤ 100 * k ∧ Hid (SG2 w p q S W)) (fun _ i _ => n - (intOf i).toNat)
      case atStart => exact ⟨0, 0, Nat.zero_le _, rfl, rfl, Nat.le_refl _, HR2.out⟩
      case round =>
        clear HR2
        obtain ⟨k, S, hk, rfl, rfl, hS, hr⟩ := hrel
        by_cases hlt : k < n
        · obtain ⟨x, hx⟩ : ∃ x, gl[k]? = some x := ⟨_, List.getElem?_eq_getElem (by rw [HB.out.1]; exact hlt)⟩
          obtain ⟨g, off, rfl, hc, hx0, hx1⟩ := HB.out.2 k x hx
          obtain ⟨l, hl, hT⟩ := hr.out
          have c := hT.only.cellv hc (fun h => h)
          have HT := Lib.hid hT
          obtain ⟨K, hK, hKe⟩ := u64_rem x 100 (by omega)
          have hKe' : (IntKind.u64.wrap x).tmod 100 = (K : Int) := hKe
          have hKw := wrap64_nat K (by omega)
          have HKe := Lib.hid hKe'
          have HKw := Lib.hid hKw
          clear hKe hKe' hKw hx hc hr hT
          go_wp2_with fail
          rw [HKe.out, HKw.out]
          generalize IntKind.u64.wrap x = U
          refine (two_grant HT.out (K : Int) (by show l.length ≤ _; omega)).mono ?_
          rintro e w4 ⟨rfl, hT4⟩
          rw [gs_grant l _ K (Nat.min_le_right _ _)] at hT4
          have HT4 := Lib.hid (show TwoAt w w4 p q (gs l (min (S + K) l.length)) (gs l 0) by
            rw [show min (S + K) l.length = min (min S l.length + K) l.length from by omega]
            exact hT4)
          clear hT4 HT HKe HKw
          generalize grantNum _ _ = gn at *
          go_wp2
          go_roundw
          case rel => exact ⟨k + 1, S + K, by omega, by go_num, by go_num, by omega, l, hl, HT4.out⟩
          case measure => simp [intOf]; omega
        · obtain ⟨l, hl, hT⟩ := hr.out
          have HT := Lib.hid hT.swap
          clear hr hT
          go_wp2_with fail
          refine (two_grant HT.out (S : Int) (by show l.length ≤ _; omega)).mono ?_
          rintro e w4 ⟨rfl, hT4⟩
          rw [gs_grant l 0 S (Nat.zero_le _), Nat.zero_add] at hT4
          have HT4 := Lib.hid hT4.swap
          clear hT4 HT
          generalize grantNum _ _ = gn at *
          obtain ⟨O, hO⟩ : ∃ O, O = min S l.length := ⟨_, rfl⟩
          rw [← hO] at HT4
          obtain ⟨y, hy⟩ : ∃ y, y = l.take O := ⟨_, rfl⟩
          have hyl : y.length ≤ 1000 := by rw [hy, List.length_take]; omega
          have HY := Lib.hid hy
          clear hy hO
          go_wp2_with fail
          have hst := HT4.out.same ((Only.refl (fun _ => False) w4).drew)
          have HST := Lib.hid hst
          have C1 := Lib.hid (two_wire hst (by show l.length ≤ _; omega))
          clear hst
          go_region_law
            (first
              | (go_simp; go_at_call 16; (with_reducible refine C1.out.mono ?_); rintro e w5 ⟨A5, c5, rfl, hs5, hT5, ho5⟩; have HS5 := Lib.hid hs5; have ht5 := text_of (show Src w5 A5 (gs l O).out y by rw [HY.out]; exact hs5) c5 35 9 5 Tryd.underlying35 Tryd.underlying5 Tryd.underlying9; have C2 := Lib.hid (two_wire hT5.swap (by show l.length ≤ _; omega)); clear hs5 hT5 ho5)
              | (go_simp; go_at_call 16; (with_reducible refine C2.out.mono ?_); rintro e w6 ⟨A6, c6, rfl, hs6, hT6, ho6⟩; have ht6 := text_of (show Src w6 A6 (gs l O).out y by rw [HY.out]; exact hs6) c6 35 9 5 Tryd.underlying35 Tryd.underlying5 Tryd.underlying9; have ht56 := text_of (show Src w6 A5 (gs l O).out y by rw [HY.out]; exact HS5.out.only ho6 (fun _ _ _ h => h)) c5 35 9 5 Tryd.underlying35 Tryd.underlying5 Tryd.underlying9; have C3 := Lib.hid (two_room hT6.swap); clear hs6 hT6 ho6)
              | (go_simp; go_at_call 15; (with_reducible refine C3.out.mono ?_); rintro e w7 ⟨rfl, hT7, ho7⟩; have C4 := Lib.hid (two_room hT7.swap); clear hT7 ho7)
              | (go_simp; go_at_call 15; (with_reducible refine C4.out.mono ?_); rintro e w8 ⟨rfl, hT8, ho8⟩; have HO8 := Lib.hid hT8.only; clear hT8 ho8))
          all_goals
            go_wp2
            go_ret
            refine ⟨?_, HO8.out⟩
            go_simp

theorem streamGrants_walk (w : World) {H : Type} {enc : TypeId × Value → H} {fuel0 fuel1 : Nat} {a b : Option Addr} {len cap n c : Nat} {x y : DataW H × List MemPlace} (hf0 : DataW.trod enc Tryd.prog w 0 (fun _ => true) true fuel0 50 [.slice a len cap] = some x)
    (hf1 : DataW.trod enc Tryd.prog w 0 (fun _ => true) true fuel1 36 [.slice b n c] = some y) {es : List Addr} (hes : ErrsOf w [0, 1, 13] es) :
    Calls Tryd.prog 5 #[.slice a len cap, .slice b n c] w (Fine w) := by
  obtain ⟨h1, h2, bl, hbl⟩ := opened_slices hf0
  obtain ⟨h3, h4, gl, hgl⟩ := opened_ints hf1
  by_cases h : 10 < len ∨ 20 < n
  · exact sgrants_many w a len cap b n c (by omega) (by omega) h hes
  · exact sgrants_ok w a len cap bl b n c gl hbl hgl (by omega) (by omega) hes
end Go.Proofs.YtpabhgkamekcnaaDoor
