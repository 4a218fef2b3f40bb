
/- EndSends, walked. -/
import Derived.Test.YtbnfhklpobephaaGreatDoorJGramRest
import Derived.Deep.CutBlock
namespace Go.Proofs.YtbnfhklpobephaaGreatDoor
open Go Go.RowKit
set_option maxRecDepth 100000
set_option maxHeartbeats 4000000

theorem wip_pc {w W : World} {es : List Addr} {p : Nat} {ag : Nat → Nat → Bool} {E : Ee} {A A2 : Option Addr} {n c : Nat} {bs : List UInt8} {xs : List Pc} {o : List (Int × List UInt8)} (h : EnWiP w W es p ag E A n c bs A2 xs) (hx : xs.map (fun x => (x.k, x.b)) = o) {t : Nat} {y : Int × List UInt8} (hy : o[t]? = some y) :
    ∃ g B m d, A2 = some ⟨g, 0, none⟩ ∧ W.rangeAt g (t * 2) [.int .i64 y.1, .slice B m d] ∧ Src W B m y.2 ∧ m ≤ d := by
  obtain ⟨M, R, K, _, hp⟩ := h
  rw [← hx, List.getElem?_map] at hy
  cases hz : xs[t]? with
  | none => rw [hz] at hy; cases hy
  | some x =>
    rw [hz] at hy
    injection hy with hy
    subst hy
    obtain ⟨⟨g, e, _, hr⟩, B, m, d, e2, hs, hmd, _⟩ := hp t x hz
    refine ⟨g, B, m, d, e, ?_, hs, hmd⟩
    rw [Pc.cs, e2] at hr
    exact hr
theorem own_le' {w : World} {B : Nat} {A : Option Addr} {n c : Nat} {b : List UInt8} (h : Body w B (.slice A n c) b) : n ≤ c := by
  obtain ⟨A', c', e, h1, _⟩ := h.form
  injection e with e1 e2 e3
  omega
section
variable {w : World} {es : List Addr} {A1 A2 A B A0 : Option Addr} {n1 c1 n2 c2 n cA m cB len cap : Nat} {cc cr can : Int} {ts : List (List UInt8)} {l : List Ac} {sl : List Se} {us hims : List Int}
theorem sends_bad (hes : ErrsAt w es) (hT : TbW w) (h18 : 18 ≤ w.heap.size) (hts : TSrc w A n ts) (hn : n ≤ 9223372036854775807) (ha : AcAt w A0 len l) (hb : cfGood cc cr ts = false) :
    Calls Tryz.prog 4 #[.agg (ecC A1 n1 c1 A2 n2 c2 cc cr A n cA B m cB can).toArray, .slice A0 len cap] w (Fine w) := by
  have HAl : Hid (∀ W, Only (fun _ => False) w W → Calls Tryz.prog 7 #[] W fun e w' => e = .returned (.bool true) ∧ Only (fun _ => False) W w') := fun W ho => enAlive (hes.only ho) (hT.only ho) (Nat.le_trans h18 ho.size)
  have HLo : Hid (∀ W, Only (fun _ => False) w W → Calls Tryz.prog 8 #[.agg (ecC A1 n1 c1 A2 n2 c2 cc cr A n cA B m cB can).toArray, .slice A0 len cap] W fun e w' => ∃ b, e = .returned (.bool b) ∧ (b = false → Few20 n1 n2 l) ∧ Only (fun _ => False) W w') := fun W ho => enLong (hts.same ho) hn (ha.same ho)
  have HNw : Hid (∀ W, Only (fun _ => False) w W → Calls Tryz.prog 9 #[.agg (ecC A1 n1 c1 A2 n2 c2 cc cr A n cA B m cB can).toArray] W fun e w' => ∃ a, e = .returned (.tuple #[.pointer none, .iface 409 (.pointer (some a))]) ∧ Hid (Only (fun _ => False) W w')) := fun W ho => enNew_bad (hes.only ho) (hts.same ho) hb
  have HBx : Hid (∀ W, Only (fun _ => False) (w.alloc (.cells (ecC A1 n1 c1 A2 n2 c2 cc cr A n cA B m cB can).toArray 32)) W → W.rangeAt w.heap.size 0 (ecC A1 n1 c1 A2 n2 c2 cc cr A n cA B m cB can)) := fun W ho => range_of ((Blk.new w 32 (ecC A1 n1 c1 A2 n2 c2 cc cr A n cA B m cB can)).only ho (fun h => h))
  have HO0 : Hid (Only (fun _ => False) w (w.alloc (.cells (ecC A1 n1 c1 A2 n2 c2 cc cr A n cA B m cB can).toArray 32))) := (Only.refl _ _).alloc _
  clear hes hT h18 hts hn ha hb
  go_enter Tryz.func4, Tryz.ntmps4
  go_wp2_with (first
    | (go_at_call 7; (with_reducible refine (HAl.out _ HO0.out).mono ?_); rintro e w1 ⟨rfl, ho1⟩; have HC1 := Lib.hid ho1; have HO1 := Lib.hid (HO0.out.trans ho1 (fun _ h => h.elim)); clear ho1)
    | ((with_reducible show wpList _ _ _ (⟨some 23, .load _ _, _, _, _, _⟩ :: _) _ _); refine wpList_load_mid rfl 32 _ rfl w.heap.size 0 rfl (ecC A1 n1 c1 A2 n2 c2 cc cr A n cA B m cB can) _ (HBx.out _ HC1.out) Tryz.underlying32 rfl size_ec ?_)
    | (go_at_call 8; (with_reducible refine (HLo.out _ HO1.out).mono ?_); rintro e w2 ⟨b, rfl, _, ho2⟩; have HC2 := Lib.hid (HC1.out.trans ho2 (fun _ h => h.elim)); have HO2 := Lib.hid (HO1.out.trans ho2 (fun _ h => h.elim)); clear ho2)
    | ((with_reducible show wpList _ _ _ (⟨some 27, .load _ _, _, _, _, _⟩ :: _) _ _); refine wpList_load_mid rfl 32 _ rfl w.heap.size 0 rfl (ecC A1 n1 c1 A2 n2 c2 cc cr A n cA B m cB can) _ (HBx.out _ HC2.out) Tryz.underlying32 rfl size_ec ?_)
    | (go_at_call 9; (with_reducible refine (HNw.out _ HO2.out).mono ?_); rintro e w3 ⟨a3, rfl, ho3⟩; have HO3 := Lib.hid (HO2.out.trans ho3.out (fun _ h => h.elim)); clear ho3))
  all_goals
    go_ret
    first
      | exact ⟨rfl, HO3.out⟩
      | exact ⟨rfl, HO2.out⟩
theorem sends_ok (hes : ErrsIs w errSel es) (hT : TbW w) (h18 : 18 ≤ w.heap.size) (hu : Ints w A1 n1 us) (hh : Ints w A2 n2 hims) (hts : TSrc w A n ts) (hn : n ≤ 9223372036854775807) (hst : StAt w B m sl) (hm : m ≤ cB) (hcB : cB ≤ 9223372036854775807) (ha : AcAt w A0 len l) (hb : cfGood cc cr ts = true) :
    Calls Tryz.prog 4 #[.agg (ecC A1 n1 c1 A2 n2 c2 cc cr A n cA B m cB can).toArray, .slice A0 len cap] w (Fine w) := by
  have hes9 : ErrsAt w es := hes.of.all
  obtain ⟨ag, hag⟩ : ∃ ag, ag = agOf us hims := ⟨_, rfl⟩
  obtain ⟨E0, hE0⟩ : ∃ E0, E0 = Ee.zero (Hs.new cc cr ts sl can) := ⟨_, rfl⟩
  have HS0 : Hid (SendsS l 0 E0 false [] []) := by
    rw [hE0]
    exact ⟨(sz0 _).more (Nat.zero_le _), VOk.zero, rfl, Nat.le_refl _, Wire.nil _, Nat.zero_le _, Nat.zero_le _⟩
  have hsent0 : E0.sent = 0 := by rw [hE0]; rfl
  have HAl : Hid (∀ W, Only (fun _ => False) w W → Calls Tryz.prog 7 #[] W fun e w' => e = .returned (.bool true) ∧ Only (fun _ => False) W w') := fun W ho => enAlive (hes9.only ho) (hT.only ho) (Nat.le_trans h18 ho.size)
  have HLo : Hid (∀ W, Only (fun _ => False) w W → Calls Tryz.prog 8 #[.agg (ecC A1 n1 c1 A2 n2 c2 cc cr A n cA B m cB can).toArray, .slice A0 len cap] W fun e w' => ∃ b, e = .returned (.bool b) ∧ (b = false → Few20 n1 n2 l) ∧ Only (fun _ => False) W w') := fun W ho => enLong (hts.same ho) hn (ha.same ho)
  have HNw : Hid (∀ W, Only (fun _ => False) w W → Few20 n1 n2 l → Calls Tryz.prog 9 #[.agg (ecC A1 n1 c1 A2 n2 c2 cc cr A n cA B m cB can).toArray] W fun e w' => ∃ p, e = .returned (.tuple #[.pointer (some ⟨p, 0, none⟩), .nilIface]) ∧ Hid (NewE W w' p ag E0)) := fun W ho hf => (enNew_ok (can := can) (cA := cA) (c1 := c1) (c2 := c2) (hu.same ho) (hh.same ho) (by have := hf.us; omega) (by have := hf.hims; omega) (hts.same ho) (hst.same ho) hm hcB hb (Nat.le_trans h18 ho.size)).mono (by
    rintro e w' ⟨p, q, rfl, h1, h2⟩
    rw [hag, hE0]
    exact ⟨p, rfl, ⟨q, h1.out⟩, h2.out⟩)
  have HBx : Hid (∀ W, Only (fun _ => False) (w.alloc (.cells (ecC A1 n1 c1 A2 n2 c2 cc cr A n cA B m cB can).toArray 32)) W → W.rangeAt w.heap.size 0 (ecC A1 n1 c1 A2 n2 c2 cc cr A n cA B m cB can)) := fun W ho => range_of ((Blk.new w 32 (ecC A1 n1 c1 A2 n2 c2 cc cr A n cA B m cB can)).only ho (fun h => h))
  have HO0 : Hid (Only (fun _ => False) w (w.alloc (.cells (ecC A1 n1 c1 A2 n2 c2 cc cr A n cA B m cB can).toArray 32))) := (Only.refl _ _).alloc _
  have HES := Lib.hid hes
  have HE9 := Lib.hid hes9
  have HTW := Lib.hid hT
  have H18 := Lib.hid h18
  have HA := Lib.hid ha
  have hlen := ha.1
  clear hes hes9 hT h18 hu hh hts hn hst hm hcB ha hb hag hE0
  go_enter Tryz.func4, Tryz.ntmps4
  go_wp2_with (first
    | (go_at_call 7; (with_reducible refine (HAl.out _ HO0.out).mono ?_); rintro e w1 ⟨rfl, ho1⟩; have HC1 := Lib.hid ho1; have HO1 := Lib.hid (HO0.out.trans ho1 (fun _ h => h.elim)); clear ho1)
    | ((with_reducible show wpList _ _ _ (⟨some 23, .load _ _, _, _, _, _⟩ :: _) _ _); refine wpList_load_mid rfl 32 _ rfl w.heap.size 0 rfl (ecC A1 n1 c1 A2 n2 c2 cc cr A n cA B m cB can) _ (HBx.out _ HC1.out) Tryz.underlying32 rfl size_ec ?_)
    | (go_at_call 8; (with_reducible refine (HLo.out _ HO1.out).mono ?_); rintro e w2 ⟨b, rfl, hf2, ho2⟩; have HC2 := Lib.hid (HC1.out.trans ho2 (fun _ h => h.elim)); have HO2 := Lib.hid (HO1.out.trans ho2 (fun _ h => h.elim)); clear ho2; have hf3 : (b = false ∧ Few20 n1 n2 l) ∨ b = true := (by cases b; exact .inl ⟨rfl, hf2 rfl⟩; exact .inr rfl); clear hf2; rcases hf3 with ⟨rfl, hf3⟩ | rfl)
    | ((with_reducible show wpList _ _ _ (⟨some 27, .load _ _, _, _, _, _⟩ :: _) _ _); refine wpList_load_mid rfl 32 _ rfl w.heap.size 0 rfl (ecC A1 n1 c1 A2 n2 c2 cc cr A n cA B m cB can) _ (HBx.out _ HC2.out) Tryz.underlying32 rfl size_ec ?_)
    | (go_at_call 9; (with_reducible refine (HNw.out _ HO2.out hf3).mono ?_); rintro e w3 ⟨p, rfl, hk3⟩; have HN3 := hk3; clear hk3))
  rotate_left
  · go_ret
    exact ⟨rfl, HO2.out⟩
  have HF := Lib.hid hf3
  have HAll : Hid (EnWi w (w3.alloc (.cells #[] 5)) es p ag E0 (some ⟨w3.heap.size, 0, none⟩) 0 0 [] (fun _ => False)) := wi_make HN3.out HO2.out HE9.out HTW.out
  clear HAl HLo HNw HBx HO0 hf3 HN3 HC1 HC2 HO1 HO2
  go_loopw [7, 8, 9, 10, 42] (fun sv v bv vv i W => ∃ (k : Nat) (E : Ee) (bin : Bool) (bs sd : List UInt8) (An : Option Addr) (nn cn vb : Nat), k ≤ len ∧ sv = .string ⟨sd.toArray⟩ ∧ v = .slice An nn cn ∧ bv = .bool bin ∧ vv = .int .i64 (vb : Int) ∧ i = .int .i64 (k : Int) ∧ Hid (SendsS l k E bin bs sd ∧ vb = E.sent ∧ EnWi w W es p ag E An nn cn bs (fun _ => False))) (fun _ _ _ _ i _ => len - (intOf i).toNat)
  case atStart => exact ⟨0, E0, false, [], [], _, 0, 0, 0, Nat.zero_le _, rfl, rfl, rfl, rfl, rfl, HS0.out, hsent0.symm, HAll.out⟩
  case round =>
    clear HAll HS0 hsent0
    obtain ⟨k, E, bin, bs, sd, An, nn, cn, vb, hk, rfl, rfl, rfl, rfl, rfl, hrel⟩ := hrel
    obtain ⟨hS, hvb, hall⟩ := hrel.out
    have hO : Only (fun _ => False) w wr := hall.old
    have hk24 : k ≤ 24 := by have := HF.out.acts; omega
    have HM : Hid (k + lenA (l.take k) ≤ 264) := by
      have h1 := lenA_le (l := l) k
      have h2 := HF.out.all
      show _ ≤ _
      omega
    have HS := Lib.hid hS
    have HAll := Lib.hid hall
    have HVb := Lib.hid hvb
    obtain ⟨W0, hW0⟩ : ∃ W0, W0 = wr := ⟨_, rfl⟩
    subst hW0
    by_cases hlt : k < len
    · have hlt2 : (k : Int) < (len : Int) := by omega
      obtain ⟨x, hx⟩ : ∃ x, l[k]? = some x := ⟨_, List.getElem?_eq_getElem (by omega)⟩
      obtain ⟨⟨b, off, rfl, _, hr⟩, hok⟩ := (HA.out.same hO).2 k x hx
      have hxl := hok.src.1
      have h120 := HF.out.each x (List.mem_of_getElem? hx)
      have HNx : Hid (∀ bin' : Bool, (bin' = false → bin = false ∧ E.on 0 0 = false) → Says2 bin' (actE ag x E).out (saidA x) ∧ (actE ag x E).sent = E.sent + cnt3 (actE ag x E).out ∧ (actE ag x E).out.length ≤ 2 * (1 + x.len) ∧ SendsS l (k + 1) (actE ag x E).take bin' (bs ++ flatO (actE ag x E).out) (sd ++ saidA x)) := fun bin' hb => sends_next hx hxl h120 HS.out hb
      have HSx : Hid (∀ W, Only (fun _ => False) w W → Src W x.ad x.len x.xs) := fun W ho => (((HA.out).2 k x hx).2.src).only ho (fun _ _ _ h => h)
      have HOk := Lib.hid hok
      have HR : Hid (W0.rangeAt b (off + k * 5) x.cs) := hr
      clear hS hvb hall hrel hx hr hok hO
      obtain ⟨xk, xn, xo, xm, xa, xl, xc, xx⟩ := x
      simp only at hxl h120
      have HRg : Hid (W0.rangeAt b (off + k * 5) [.int .i64 xk, .int .i64 xn, .int .i64 xo, .bool xm, .slice xa xl xc]) := HR.out
      have HSx' : Hid (∀ W, Only (fun _ => False) w W → Src W xa xl xx) := HSx.out
      have HIn : Hid (In64 xn) := HOk.out.in64
      have hcap : xl ≤ xc := HOk.out.cap.1
      have HXl := Lib.hid hxl
      clear HR HSx HOk hxl
      go_upto_region 13 with (first
        | ((with_reducible show wpList _ _ _ (⟨some 45, .load _ _, _, _, _, _⟩ :: _) _ _); refine wpList_load_mid rfl 47 _ rfl b (off + k * 5) rfl [.int .i64 xk, .int .i64 xn, .int .i64 xo, .bool xm, .slice xa xl xc] _ HRg.out Tryz.underlying47 rfl size_act ?_)
        | fail)
      obtain ⟨W2, hW2⟩ : ∃ W2, W2 = W0.alloc (.cells #[.int .i64 xk, .int .i64 xn, .int .i64 xo, .bool xm, .slice xa xl xc] 47) := ⟨_, rfl⟩
      rw [← hW2]
      obtain ⟨N, hN⟩ : ∃ N, N = W0.heap.size := ⟨_, rfl⟩
      rw [← hN]
      have hoW : Only (fun _ => False) W0 W2 := by rw [hW2]; exact (Only.refl _ _).alloc _
      have HB1 : Hid (Blk W2 N 47 [.int .i64 xk, .int .i64 xn, .int .i64 xo, .bool xm, .slice xa xl xc]) := by
        rw [hW2, hN]
        exact Blk.new W0 47 [.int .i64 xk, .int .i64 xn, .int .i64 xo, .bool xm, .slice xa xl xc]
      have HK2 : Hid (EnWi w W2 es p ag E An nn cn bs (fun i => i = N)) := HAll.out.keep hoW (fun i hi => by
        have : W2.heap.size = W0.heap.size + 1 := by rw [hW2]; simp
        omega)
      obtain ⟨x, hx⟩ : ∃ x : Ac, x = ⟨xk, xn, xo, xm, xa, xl, xc, xx⟩ := ⟨_, rfl⟩
      rw [← hx] at HNx
      have HX := Lib.hid hx
      clear hW2 hN hoW hx HAll
      obtain ⟨b1, hb1⟩ : ∃ b1, b1 = (bin || E.on 0 0) := ⟨_, rfl⟩
      obtain ⟨on0, hon⟩ : ∃ on0, on0 = E.on 0 0 := ⟨_, rfl⟩
      have HB0 := Lib.hid hb1
      have HOn0 := Lib.hid hon
      have HOn : Hid (Calls Tryz.prog 19 #[.pointer (some ⟨p, 0, none⟩), .int .i64 0, .int .i64 0] W2 fun e w' => e = .returned (.bool on0) ∧ Only (fun _ => False) W2 w') := by rw [hon]; exact HK2.out.on 0 0
      clear hb1 hon
      go_cut [9] from 46 to 50 (fun v W => v = .bool b1 ∧ Hid (EnWi w W es p ag E An nn cn bs (fun i => i = N) ∧ Only (fun i => ¬ i = N) W2 W))
      case first =>
        cases bin with
        | true =>
          obtain rfl : b1 = true := by rw [HB0.out]; rfl
          go_wp2_with fail
          go_meet
          case rel => exact ⟨rfl, HK2.out, Only.refl _ _⟩
        | false =>
          obtain rfl : b1 = on0 := by rw [HB0.out, HOn0.out]; rfl
          go_wp2_with (first
            | (go_at_call 19; (with_reducible refine HOn.out.mono ?_); rintro e w5 ⟨rfl, ho5⟩; have HO5 := Lib.hid ho5; clear ho5)
            | fail)
          go_meet
          case rel => exact ⟨rfl, HK2.out.same HO5.out, HO5.out.mono (fun _ h => h.elim)⟩
      case rest =>
        obtain ⟨rfl, hk3⟩ := hcut
        obtain ⟨Wc, hWc⟩ : ∃ Wc, Wc = wc := ⟨_, rfl⟩
        subst hWc
        have HK3 := hk3
        clear HK2 HOn
        have HB0b : Hid (b1 = false → bin = false ∧ E.on 0 0 = false) := fun h => by
          have := HB0.out
          rw [h] at this
          simpa using this.symm
        have HB3 := Lib.hid (HB1.out.only hk3.out.2 (fun h => h rfl))
        have b0 : Wc.cell? ⟨N, 0, none⟩ = some (.int .i64 xk) := HB3.out.cell 0
        have b1' : Wc.cell? ⟨N, 1, none⟩ = some (.int .i64 xn) := HB3.out.cell 1
        have b2' : Wc.cell? ⟨N, 2, none⟩ = some (.int .i64 xo) := HB3.out.cell 2
        have b4 : Wc.cell? ⟨N, 4, none⟩ = some (.slice xa xl xc) := HB3.out.cell 4
        clear HB0 HOn0 HB1 hk3
        go_upto_block 2 with fail
        go_cut [7, 9, 14] from 53 to 111 (fun sv bv _ W => ∃ (sd1 : List UInt8) (b2 : Bool), sv = .string ⟨sd1.toArray⟩ ∧ bv = .bool b2 ∧ Hid (sd1 = sd ++ saidA x ∧ (b2 = false → bin = false ∧ E.on 0 0 = false) ∧ EnWi w W es p ag (actE ag x E) An nn cn bs (fun i => i = N)))
        case first =>
          rcases (by omega : xk = 0 ∨ xk = 1 ∨ xk = 2 ∨ xk = 3 ∨ xk = 4 ∨ xk = 5 ∨ (xk ≠ 0 ∧ xk ≠ 1 ∧ xk ≠ 2 ∧ xk ≠ 3 ∧ xk ≠ 4 ∧ xk ≠ 5)) with rfl | rfl | rfl | rfl | rfl | rfl | hk6
          · have hA : actE ag x E = feedsE ag E xx := by rw [HX.out]; exact actE_0 rfl
            have hSd : sd = sd ++ saidA x := by rw [HX.out]; simp [saidA]
            have HA0 := Lib.hid hA
            have HSd := Lib.hid hSd
            clear hA hSd
            go_wp2_with fail
            go_loopw [9, 58] (fun bv i W => ∃ (t : Nat) (b2 : Bool), t ≤ xl ∧ bv = .bool b2 ∧ i = .int .i64 (t : Int) ∧ Hid ((b2 = false → b1 = false) ∧ EnWi w W es p ag (feedsE ag E (xx.take t)) An nn cn bs (fun i => i = N))) (fun _ i _ => xl - (intOf i).toNat)
            case atStart => exact ⟨0, b1, Nat.zero_le _, rfl, rfl, fun h => h, HK3.out.1⟩
            case round =>
              obtain ⟨t, b2, ht, rfl, rfl, hrel⟩ := hrel
              by_cases ht2 : t < xl
              · have ht2' : (t : Int) < (xl : Int) := by omega
                obtain ⟨y, hy⟩ : ∃ y, xx[t]? = some y := ⟨_, List.getElem?_eq_getElem (by have := HXl.out; omega)⟩
                obtain ⟨ad, rfl, hcell⟩ := (HSx'.out wr hrel.out.2.old).2 (by omega)
                have c0 := hcell t y hy
                unfold B8 at c0
                have HFd : Hid (Calls Tryz.prog 23 #[.pointer (some ⟨p, 0, none⟩), .int .u8 (y.toNat : Int), .bool false] wr fun e w' => (∃ v1 v2, e = .returned (.tuple #[v1, v2])) ∧ Hid (EnWi w w' es p ag (feedsE ag E (xx.take (t + 1))) An nn cn bs (fun i => i = N))) := by
                  have hs := feedsE_sz ag (xx.take t) HS.out.sz
                  have hm := HM.out
                  refine (hrel.out.2.feed (feedsE_vk ag (xx.take t) HS.out.vk) (hs.lo (by rw [List.length_take]; omega)) y).mono ?_
                  rintro e w' ⟨h1, h2⟩
                  refine ⟨h1, ?_⟩
                  rw [List.take_add_one, hy, Option.toList_some, feedsE_snoc]
                  exact h2.out.1
                obtain ⟨on1, hon1⟩ : ∃ on1, on1 = (feedsE ag E (xx.take (t + 1))).on 0 0 := ⟨_, rfl⟩
                have HOn1 : Hid (∀ W, EnWi w W es p ag (feedsE ag E (xx.take (t + 1))) An nn cn bs (fun i => i = N) → Calls Tryz.prog 19 #[.pointer (some ⟨p, 0, none⟩), .int .i64 0, .int .i64 0] W fun e w' => e = .returned (.bool on1) ∧ Only (fun _ => False) W w') := fun W h => by rw [hon1]; exact h.on 0 0
                have HBb : Hid (b2 = false → b1 = false) := hrel.out.1
                clear hcell hy hrel hon1
                cases b2 with
                | true =>
                  go_wp2_with (first
                    | (go_at_call 23; (with_reducible refine HFd.out.mono ?_); rintro e w4 ⟨⟨v1, v2, rfl⟩, hk4⟩; have HK4 := hk4; clear hk4)
                    | fail)
                  go_roundw
                  case rel => exact ⟨t + 1, true, by omega, rfl, by go_num, (fun h => by cases h), HK4.out⟩
                  case measure => simp [intOf]; omega
                | false =>
                  have HB1f : Hid (b1 = false) := HBb.out rfl
                  go_wp2_with (first
                    | (go_at_call 23; (with_reducible refine HFd.out.mono ?_); rintro e w4 ⟨⟨v1, v2, rfl⟩, hk4⟩; have HK4 := hk4; clear hk4)
                    | (go_at_call 19; (with_reducible refine (HOn1.out _ HK4.out).mono ?_); rintro e w5 ⟨rfl, ho5⟩; have HO5 := Lib.hid ho5; clear ho5)
                    | fail)
                  go_roundw
                  case rel => exact ⟨t + 1, on1, by omega, rfl, by go_num, fun _ => HB1f.out, HK4.out.same HO5.out⟩
                  case measure => simp [intOf]; omega
              · obtain rfl : t = xl := by omega
                have HK4 : Hid (EnWi w wr es p ag (actE ag x E) An nn cn bs (fun i => i = N)) := by
                  have h := hrel.out.2
                  rw [List.take_of_length_le (by have := HXl.out; omega)] at h
                  show EnWi _ _ _ _ _ _ _ _ _ _ _
                  rw [HA0.out]
                  exact h
                have HBb : Hid (b2 = false → b1 = false) := hrel.out.1
                clear hrel
                go_wp2_with fail
                go_meet
                case rel => exact ⟨sd, b2, rfl, rfl, HSd.out, fun h => HB0b.out (HBb.out h), HK4.out⟩
          · have hA : actE ag x E = (E.ask xn xo true).2.1 := by rw [HX.out]; exact actE_1 (.inl rfl)
            have hSd : sd = sd ++ saidA x := by rw [HX.out]; simp [saidA]
            have HSd := Lib.hid hSd
            have HC : Hid (Calls Tryz.prog 24 #[.pointer (some ⟨p, 0, none⟩), .int .i64 xn, .int .i64 xo, .bool true] Wc fun e w' => (∃ v1 v2, e = .returned (.tuple #[v1, v2])) ∧ Hid (EnWi w w' es p ag (actE ag x E) An nn cn bs (fun i => i = N))) := (HK3.out.1.ask (HS.out.sz.lo (by have := HM.out; omega)) xn xo true).mono (fun e w' ⟨h1, h2⟩ => ⟨h1, by rw [hA]; exact h2.out.1⟩)
            clear hA hSd
            go_wp2_with (first
              | (go_at_call 24; (with_reducible refine HC.out.mono ?_); rintro e w4 ⟨⟨v1, v2, rfl⟩, hk4⟩; have HK4 := hk4; clear hk4)
              | fail)
            go_meet
            case rel => exact ⟨sd, b1, rfl, rfl, HSd.out, HB0b.out, HK4.out⟩
          · have hA : actE ag x E = (E.ask xn xo false).2.1 := by rw [HX.out]; exact actE_1 (.inr rfl)
            have hSd : sd = sd ++ saidA x := by rw [HX.out]; simp [saidA]
            have HSd := Lib.hid hSd
            have HC : Hid (Calls Tryz.prog 24 #[.pointer (some ⟨p, 0, none⟩), .int .i64 xn, .int .i64 xo, .bool false] Wc fun e w' => (∃ v1 v2, e = .returned (.tuple #[v1, v2])) ∧ Hid (EnWi w w' es p ag (actE ag x E) An nn cn bs (fun i => i = N))) := (HK3.out.1.ask (HS.out.sz.lo (by have := HM.out; omega)) xn xo false).mono (fun e w' ⟨h1, h2⟩ => ⟨h1, by rw [hA]; exact h2.out.1⟩)
            clear hA hSd
            go_wp2_with (first
              | (go_at_call 24; (with_reducible refine HC.out.mono ?_); rintro e w4 ⟨⟨v1, v2, rfl⟩, hk4⟩; have HK4 := hk4; clear hk4)
              | fail)
            go_meet
            case rel => exact ⟨sd, b1, rfl, rfl, HSd.out, HB0b.out, HK4.out⟩
          · have hA : actE ag x E = (E.set xn).2 := by rw [HX.out]; exact actE_3 rfl
            have hSd : sd = sd ++ saidA x := by rw [HX.out]; simp [saidA]
            have HSd := Lib.hid hSd
            have HC : Hid (Calls Tryz.prog 25 #[.pointer (some ⟨p, 0, none⟩), .int .i64 xn] Wc fun e w' => (∃ v, e = .returned v) ∧ Hid (EnWi w w' es p ag (actE ag x E) An nn cn bs (fun i => i = N))) := (HK3.out.1.set (HS.out.sz.lo (by have := HM.out; omega)) HIn.out).mono (fun e w' ⟨h1, h2⟩ => ⟨h1, by rw [hA]; exact h2.out.1⟩)
            clear hA hSd
            go_wp2_with (first
              | (go_at_call 25; (with_reducible refine HC.out.mono ?_); rintro e w4 ⟨⟨v, rfl⟩, hk4⟩; have HK4 := hk4; clear hk4)
              | fail)
            go_meet
            case rel => exact ⟨sd, b1, rfl, rfl, HSd.out, HB0b.out, HK4.out⟩
          · have hA : actE ag x E = E.say xx := by rw [HX.out]; exact actE_4 rfl
            obtain ⟨z, hz⟩ : ∃ z, z = sd ++ xx := ⟨_, rfl⟩
            have hSd : z = sd ++ saidA x := by rw [HX.out, hz]; simp [saidA]
            have HSd := Lib.hid hSd
            have HC : Hid (Calls Tryz.prog 26 #[.pointer (some ⟨p, 0, none⟩), .slice xa xl xc] Wc fun e w' => e = .returned (.tuple #[]) ∧ Hid (EnWi w w' es p ag (actE ag x E) An nn cn bs (fun i => i = N) ∧ Only (fun i => ¬ i = N) Wc w')) := (HK3.out.1.say (HS.out.sz.lo (by have := HM.out; omega)) (HSx'.out Wc HK3.out.1.old) (by omega) hcap).mono (fun e w' ⟨h1, h2⟩ => ⟨h1, by rw [hA]; exact h2.out.1, h2.out.2⟩)
            have HSum : Hid (∀ W, (Op.stringOp .add (ByteArray.mk sd.toArray) (ByteArray.mk xx.toArray)).run Tryz.prog W = .ok (.string (ByteArray.mk z.toArray)) W) := fun W => sum_texts sd xx z hz.symm (by
              have h1 := HS.out.said
              have h2 := lenA_le (l := l) k
              have h3 := HF.out.all
              have h4 := HXl.out
              omega)
            clear hA hSd hz
            go_wp2_with (first
              | (go_at_call 26; (with_reducible refine HC.out.mono ?_); rintro e w4 ⟨rfl, hk4⟩; have HK4 := hk4; clear hk4; have b4w : w4.cell? ⟨N, 4, none⟩ = some (.slice xa xl xc) := ((HB3.out.only HK4.out.2 (fun h => h rfl)).cell 4); have hcv := (HSx'.out w4 HK4.out.1.old).texts xc w4 (Only.refl _ _); have hsum := HSum.out w4)
              | fail)
            go_meet
            case rel => exact ⟨z, b1, rfl, rfl, HSd.out, HB0b.out, HK4.out.1⟩
          · have hA : actE ag x E = (E.cmd xn).2 := by rw [HX.out]; exact actE_5 rfl
            have hSd : sd = sd ++ saidA x := by rw [HX.out]; simp [saidA]
            have HSd := Lib.hid hSd
            have HC : Hid (Calls Tryz.prog 27 #[.pointer (some ⟨p, 0, none⟩), .int .i64 xn] Wc fun e w' => (∃ v, e = .returned v) ∧ Hid (EnWi w w' es p ag (actE ag x E) An nn cn bs (fun i => i = N))) := (HK3.out.1.cmd (HS.out.sz.lo (by have := HM.out; omega)) xn).mono (fun e w' ⟨h1, h2⟩ => ⟨h1, by rw [hA]; exact h2.out.1⟩)
            clear hA hSd
            go_wp2_with (first
              | (go_at_call 27; (with_reducible refine HC.out.mono ?_); rintro e w4 ⟨⟨v, rfl⟩, hk4⟩; have HK4 := hk4; clear hk4)
              | fail)
            go_meet
            case rel => exact ⟨sd, b1, rfl, rfl, HSd.out, HB0b.out, HK4.out⟩
          · have hA : actE ag x E = E := by rw [HX.out]; exact actE_6 hk6
            have hSd : sd = sd ++ saidA x := by rw [HX.out]; simp [saidA, hk6.2.2.2.2.1]
            have HSd := Lib.hid hSd
            have HK4 : Hid (EnWi w Wc es p ag (actE ag x E) An nn cn bs (fun i => i = N)) := by rw [hA]; exact HK3.out.1
            obtain ⟨k0, k1, k2, k3, k4, k5⟩ := hk6
            have e0 : (xk == 0) = false := beq_eq_false_iff_ne.2 k0
            have e1 : (xk == 1) = false := beq_eq_false_iff_ne.2 k1
            have e2 : (xk == 2) = false := beq_eq_false_iff_ne.2 k2
            have e3 : (xk == 3) = false := beq_eq_false_iff_ne.2 k3
            have e4 : (xk == 4) = false := beq_eq_false_iff_ne.2 k4
            have e5 : (xk == 5) = false := beq_eq_false_iff_ne.2 k5
            have d0 : decide (xk = 0) = false := decide_eq_false k0
            have d1 : decide (xk = 1) = false := decide_eq_false k1
            have d2 : decide (xk = 2) = false := decide_eq_false k2
            have d3 : decide (xk = 3) = false := decide_eq_false k3
            have d4 : decide (xk = 4) = false := decide_eq_false k4
            have d5 : decide (xk = 5) = false := decide_eq_false k5
            clear hA hSd k0 k1 k2 k3 k4 k5
            go_wp2_with fail
            go_meet
            case rel => exact ⟨sd, b1, rfl, rfl, HSd.out, HB0b.out, HK4.out⟩
        case rest =>
          obtain ⟨sd1, b2, rfl, rfl, hk4⟩ := hcut
          obtain ⟨hsd1, hb2, hk5⟩ := hk4.out
          obtain ⟨hq1, hq2, hq3, hq4⟩ := HNx.out b2 hb2
          obtain ⟨E2, hE2⟩ : ∃ E2, E2 = actE ag x E := ⟨_, rfl⟩
          rw [← hE2] at hk5 hq1 hq2 hq3 hq4
          rw [← hsd1] at hq4
          obtain ⟨o, ho⟩ : ∃ o, o = E2.out := ⟨_, rfl⟩
          rw [← ho] at hq1 hq2 hq3 hq4
          have HQ1 := Lib.hid hq1
          have HQ4 := Lib.hid hq4
          have HQ2 := Lib.hid hq2
          have HWr : Hid (∀ t, restOf b2 (bs ++ flatO (o.take t)) = 0) := fun t => (HS.out.wire.more (fun e => (hb2 e).1)).rest hq1 t
          have hxl2 : x.len ≤ 120 := by rw [HX.out]; exact h120
          have hol : o.length ≤ 242 := by omega
          have HLen : Hid (∀ t, bs.length + (flatO (o.take t)).length ≤ 600000) := fun t => by
            have h1 := flatO_len (o.take t) (fun q hq => hq1.each q (List.mem_of_mem_take hq))
            have h2 : (o.take t).length ≤ o.length := by rw [List.length_take]; omega
            have h3 := HS.out.len
            have h4 := HM.out
            omega
          have HTk : Hid (Calls Tryz.prog 28 #[.pointer (some ⟨p, 0, none⟩)] wc fun e w' => ∃ A2 n2 c2, e = .returned (.slice A2 n2 c2) ∧ n2 = o.length ∧ Hid (∃ xs, EnWiP w w' es p ag E2.take An nn cn bs A2 xs ∧ xs.map (fun x => (x.k, x.b)) = o)) := by rw [ho]; exact hk5.take
          have HOl : Hid (E2.take.sent = E2.sent ∧ E2.take.heard = E2.heard ∧ E2.take.asked = E2.asked) := ⟨rfl, rfl, rfl⟩
          clear hk4 hsd1 hb2 hk5 hq1 hq2 hq3 hq4 hE2 ho HNx HK3 HB3 b0 b1' b2' b4 HB0b hxl2
          go_wp2_with (first
            | (go_at_call 28; (with_reducible refine HTk.out.mono ?_); rintro e w5 ⟨A5, n5, c5, rfl, hn5, hf5⟩; obtain ⟨xs, hx5, hxo⟩ := hf5.out; have HX5 := Lib.hid hx5; have HXo := Lib.hid hxo; have HN5 := Lib.hid hn5; have hn52 : n5 ≤ 242 := (by omega); clear hf5 hx5 hxo hn5)
            | fail)
          go_loopw [8, 10, 115] (fun wv vv i W => ∃ (t : Nat) (Aw : Option Addr) (nw cw v2 : Nat), t ≤ n5 ∧ wv = .slice Aw nw cw ∧ vv = .int .i64 (v2 : Int) ∧ i = .int .i64 (t : Int) ∧ Hid (EnWiP w W es p ag E2.take Aw nw cw (bs ++ flatO (o.take t)) A5 xs ∧ v2 = vb + cnt3 (o.take t))) (fun _ _ i _ => n5 - (intOf i).toNat)
          case atStart => exact ⟨0, An, nn, cn, vb, Nat.zero_le _, rfl, rfl, rfl, (by rw [List.take_zero]; show EnWiP _ _ _ _ _ _ _ _ _ (bs ++ []) _ _; rw [List.append_nil]; exact HX5.out), (by rw [List.take_zero]; rfl)⟩
          case round =>
            clear HX5
            obtain ⟨t, Aw, nw, cw, v2, ht, rfl, rfl, rfl, hrel⟩ := hrel
            have hv2 := hrel.out.2
            by_cases ht2 : t < n5
            · have ht2' : (t : Int) < (n5 : Int) := by omega
              obtain ⟨y, hy⟩ : ∃ y, o[t]? = some y := ⟨_, List.getElem?_eq_getElem (by have := HN5.out; omega)⟩
              obtain ⟨g, By, my, dy, rfl, hry, hsy, hmd⟩ := wip_pc hrel.out.1 HXo.out hy
              obtain ⟨hy0, hy6⟩ := HQ1.out.each y (List.mem_of_getElem? hy)
              have HFl : Hid (bs ++ flatO (o.take (t + 1)) = (bs ++ flatO (o.take t)) ++ y.2) := by
                show _ = _
                rw [flatO_take hy, List.append_assoc]
              have hcn := cnt3_take hy
              have hwr := HWr.out (t + 1)
              have hln := HLen.out (t + 1)
              have hnw := hrel.out.1.len
              obtain ⟨bw, hbw⟩ : ∃ bw, bw = bs ++ flatO (o.take t) := ⟨_, rfl⟩
              have hbl : bw.length ≤ 600000 := by rw [hbw, List.length_append]; exact HLen.out t
              rw [← hbw] at HFl hnw
              rw [HFl.out] at hwr
              have hP : EnWiP w wr es p ag E2.take Aw nw cw bw (some ⟨g, 0, none⟩) xs := by rw [hbw]; exact hrel.out.1
              obtain ⟨yk, yb⟩ := y
              simp only at hry hsy hy0 hy6 HFl hwr hcn
              have hmy := hsy.1
              have HRy : Hid (wr.rangeAt g (t * 2) [.int .i64 yk, .slice By my dy]) := hry
              have HMy : Hid (yb.length = my) := hmy
              have HRst : Hid (restOf b2 (bw ++ yb) = 0) := hwr
              have hox : Only (fun _ => False) wr (wr.alloc (.cells #[.int .i64 yk, .slice By my dy] 81)) := (Only.refl _ _).alloc _
              have HPb : Hid (EnWiP w (wr.alloc (.cells #[.int .i64 yk, .slice By my dy] 81)) es p ag E2.take Aw nw cw bw (some ⟨g, 0, none⟩) xs) := hP.same hox
              have HSb : Hid (Src (wr.alloc (.cells #[.int .i64 yk, .slice By my dy] 81)) By my yb) := hsy.only hox (fun _ _ _ h => h)
              have HBx : Hid (Blk (wr.alloc (.cells #[.int .i64 yk, .slice By my dy] 81)) wr.heap.size 81 [.int .i64 yk, .slice By my dy]) := Blk.new wr 81 [.int .i64 yk, .slice By my dy]
              have HNe : Hid ((Value.slice Aw nw cw).ownBlock ≠ some wr.heap.size) := fun e => own_ne HPb.out.row HBx.out (by decide) _ e rfl
              have HSz : Hid (w.heap.size ≤ (wr.alloc (.cells #[.int .i64 yk, .slice By my dy] 81)).heap.size) := HPb.out.old.size
              have hm0 : my ≠ 0 := fun e => hy0 (List.eq_nil_of_length_eq_zero (by omega))
              have hnw2 : nw ≤ 600000 := by omega
              have hmy2 : my ≤ 600 := by omega
              have hv3 : v2 ≤ 1000000 := by
                have h1 : cnt3 (o.take t) ≤ o.length := by
                  have : ∀ q : List (Int × List UInt8), cnt3 q ≤ q.length := fun q => by
                    induction q with
                    | nil => exact Nat.le_refl _
                    | cons z q ih =>
                      simp only [cnt3, List.length_cons]
                      split <;> omega
                  have h2 := this (o.take t)
                  rw [List.length_take] at h2
                  omega
                have h3 := HVb.out
                have h4 := HS.out.sz.sent
                have h5 := HM.out
                omega
              have m0 : (my == 0) = false := beq_eq_false_iff_ne.2 hm0
              have m1 : decide (my = 0) = false := decide_eq_false hm0
              have m2 : ((my : Int) == 0) = false := beq_eq_false_iff_ne.2 (by omega)
              have m3 : decide ((my : Int) = 0) = false := decide_eq_false (by omega)
              have HCn := Lib.hid hcn
              have HV2 := Lib.hid hv2
              clear hy hrel hP hry hsy hy0 hy6 hcn hwr hln hnw hbw hbl hox hmy hv2 hmd
              by_cases h3 : yk = 3
              · subst h3
                go_wp2_with (first
                  | ((with_reducible show wpList _ _ _ (⟨some 118, .load _ _, _, _, _, _⟩ :: _) _ _); refine wpList_load_mid rfl 81 _ rfl g (t * 2) rfl [.int .i64 3, .slice By my dy] _ HRy.out Tryz.underlying81 rfl info_pcs2 ?_)
                  | ((with_reducible show wpList _ _ _ (⟨some 122, _, _, _, _, _⟩ :: _) _ _); refine step_bytesS rfl (.tmp 119) (.tmp 121) rfl w.heap.size Aw nw cw bw rfl (HPb.out.row) HPb.out.len By my dy yb rfl (HSb.out) (by omega) HSz.out ?_; intro A7 c7 w7 hb7 hg7 hk7; have HP7 : Hid (EnWiP w w7 es p ag E2.take A7 (nw + my) c7 (bw ++ yb) (some ⟨g, 0, none⟩) xs) := HPb.out.append H18.out (by rw [HMy.out]) hb7.out (Only.grown (Only.refl _ _) hg7.out (fun k hk => .inl hk)) hk7.out; have HBx7 : Hid (Blk w7 wr.heap.size 81 [.int .i64 3, .slice By my dy]) := HBx.out.grown hg7.out HNe.out; have p0 : w7.cell? ⟨wr.heap.size, 0, none⟩ = some (.int .i64 3) := HBx7.out.cell 0; have p1 : w7.cell? ⟨wr.heap.size, 1, none⟩ = some (.slice By my dy) := HBx7.out.cell 1; have HRs := Lib.hid (rest_any (c := c7) ((HES.out.only HP7.out.old).le (sel' := [2, 4]) (by decide)) (HP7.out.row.src (by rw [HP7.out.len])) b2 (by omega) (own_le' HP7.out.row)); clear hb7 hg7 hk7)
                  | (go_at_call 29; (with_reducible refine HRs.out.mono ?_); rintro e w8 ⟨e8, ho8⟩; obtain rfl : e = .returned (.int .i64 0) := (by rw [e8, HRst.out]; rfl); have HO8 := Lib.hid ho8; clear e8 ho8)
                  | fail)
                go_roundw
                case rel => exact ⟨t + 1, A7, nw + my, c7, v2 + 1, by omega, rfl, by go_num, by go_num, (by rw [HFl.out]; exact HP7.out.same HO8.out), (by rw [HCn.out]; have := HV2.out; simp; omega)⟩
                case measure => simp [intOf]; omega
              · have y0 : (yk == 3) = false := beq_eq_false_iff_ne.2 h3
                have y1 : decide (yk = 3) = false := decide_eq_false h3
                have HY3 := Lib.hid h3
                clear h3
                go_wp2_with (first
                  | ((with_reducible show wpList _ _ _ (⟨some 118, .load _ _, _, _, _, _⟩ :: _) _ _); refine wpList_load_mid rfl 81 _ rfl g (t * 2) rfl [.int .i64 yk, .slice By my dy] _ HRy.out Tryz.underlying81 rfl info_pcs2 ?_)
                  | ((with_reducible show wpList _ _ _ (⟨some 122, _, _, _, _, _⟩ :: _) _ _); refine step_bytesS rfl (.tmp 119) (.tmp 121) rfl w.heap.size Aw nw cw bw rfl (HPb.out.row) HPb.out.len By my dy yb rfl (HSb.out) (by omega) HSz.out ?_; intro A7 c7 w7 hb7 hg7 hk7; have HP7 : Hid (EnWiP w w7 es p ag E2.take A7 (nw + my) c7 (bw ++ yb) (some ⟨g, 0, none⟩) xs) := HPb.out.append H18.out (by rw [HMy.out]) hb7.out (Only.grown (Only.refl _ _) hg7.out (fun k hk => .inl hk)) hk7.out; have HBx7 : Hid (Blk w7 wr.heap.size 81 [.int .i64 yk, .slice By my dy]) := HBx.out.grown hg7.out HNe.out; have p0 : w7.cell? ⟨wr.heap.size, 0, none⟩ = some (.int .i64 yk) := HBx7.out.cell 0; have p1 : w7.cell? ⟨wr.heap.size, 1, none⟩ = some (.slice By my dy) := HBx7.out.cell 1; have HRs := Lib.hid (rest_any (c := c7) ((HES.out.only HP7.out.old).le (sel' := [2, 4]) (by decide)) (HP7.out.row.src (by rw [HP7.out.len])) b2 (by omega) (own_le' HP7.out.row)); clear hb7 hg7 hk7)
                  | (go_at_call 29; (with_reducible refine HRs.out.mono ?_); rintro e w8 ⟨e8, ho8⟩; obtain rfl : e = .returned (.int .i64 0) := (by rw [e8, HRst.out]; rfl); have HO8 := Lib.hid ho8; clear e8 ho8)
                  | fail)
                go_roundw
                case rel => exact ⟨t + 1, A7, nw + my, c7, v2, by omega, rfl, by go_num, by go_num, (by rw [HFl.out]; exact HP7.out.same HO8.out), (by rw [HCn.out]; have := HV2.out; simp [HY3.out]; omega)⟩
                case measure => simp [intOf]; omega
            · obtain rfl : t = n5 := by omega
              obtain ⟨h1, h2⟩ := hrel.out
              have htk : o.take t = o := List.take_of_length_le (by have := HN5.out; omega)
              rw [htk] at h1 h2
              have hvs : v2 = E2.sent := by rw [h2, HQ2.out, HVb.out]
              have hfw := HQ4.out.few
              have hsz := HQ4.out.sz
              have hm1 : k + 1 + lenA (l.take (k + 1)) ≤ 1000 := by
                have h3 := lenA_le (l := l) (k + 1)
                have h4 := HF.out.all
                omega
              have HEn : Hid (EnWi w wr es p ag E2.take Aw nw cw (bs ++ flatO o) (fun _ => False)) := h1.wi
              obtain ⟨hh, hhh⟩ : ∃ hh, hh = E2.take.heard := ⟨_, rfl⟩
              obtain ⟨ha, hha⟩ : ∃ ha, ha = E2.take.asked := ⟨_, rfl⟩
              have hvs2 : v2 = E2.take.sent := hvs
              have b1 : v2 ≤ 1000 := by have := hsz.sent; omega
              have b2 : hh ≤ 1000 := by have := hsz.heard; omega
              have b3 : ha ≤ 1000 := by have := hsz.asked; omega
              have b4 : decide (((hh : Int) + (ha : Int)) < (v2 : Int)) = false := decide_eq_false (by omega)
              have b5 : ((v2 : Int) != (v2 : Int)) = false := by simp
              have b6 : decide (hh + ha < v2) = false := decide_eq_false (by omega)
              have HCo : Hid (Calls Tryz.prog 13 #[.pointer (some ⟨p, 0, none⟩)] wr fun e w' => e = .returned (.tuple #[.int .i64 (hh : Int), .int .i64 (ha : Int), .int .i64 (v2 : Int)]) ∧ Only (fun _ => False) wr w') := by rw [hhh, hha, hvs2]; exact HEn.out.counts
              have HVs := Lib.hid hvs2
              clear hrel h1 h2 htk hvs hfw hsz hhh hha hvs2 hv2
              go_wp2_with (first
                | (go_at_call 13; (with_reducible refine HCo.out.mono ?_); rintro e w8 ⟨rfl, ho8⟩; have HO8 := Lib.hid ho8; clear ho8)
                | fail)
              go_roundw
              case rel => exact ⟨k + 1, E2.take, _, bs ++ flatO o, sd1, Aw, nw, cw, v2, by omega, rfl, rfl, rfl, rfl, by go_num, HQ4.out, HVs.out, HEn.out.same HO8.out⟩
              case measure => simp [intOf]; omega
    · obtain rfl : k = len := by omega
      have hWt := hS.wire.text
      have hnl := hall.len
      have hbl : nn ≤ 400000 := by
        have h1 := hS.len
        have h2 := HM.out
        omega
      have hTx := Lib.hid (text_any (c := cn) ((HES.out.only hO).le (sel' := [2, 4]) (by decide)) (hall.row.src (by rw [hall.len])) bin hbl (own_le' hall.row))
      obtain ⟨tx, htx⟩ : ∃ tx, tx = textOf bin bs := ⟨_, rfl⟩
      obtain ⟨tn, htn⟩ : ∃ tn, tn = tx.length := ⟨_, rfl⟩
      have HTx : Hid (Calls Tryz.prog 30 #[.slice An nn cn, .bool bin] W0 fun e w' => ∃ A' c', e = .returned (.tuple #[.slice A' tn c', .nilIface]) ∧ Hid (Body w' W0.heap.size (.slice A' tn c') tx) ∧ Hid (Only (fun _ => False) W0 w')) := hTx.out.mono (by
        rintro e w' ⟨A', c', E', rfl, h1, h2, h3⟩
        unfold ErrOf at h1
        rw [if_pos hWt.1] at h1
        rw [htn, htx]
        exact ⟨A', c', by rw [h1], h2, h3⟩)
      have HEq : Hid (bin = false → tx = sd) := by rw [htx]; exact hWt.2
      have HTn := Lib.hid htn
      have HO := Lib.hid hO
      clear hrel hS hvb hall hO HS HAll hWt hnl hbl hTx htx htn
      cases bin with
      | true =>
        go_wp2_with (first
          | (go_at_call 30; (with_reducible refine HTx.out.mono ?_); rintro e w5 ⟨A5, c5, rfl, hb5, ho5⟩; have HO5 : Hid (Only (fun _ => False) w w5) := HO.out.trans ho5.out (fun _ h => h.elim); clear hb5 ho5)
          | fail)
        go_ret
        exact ⟨rfl, HO5.out⟩
      | false =>
        obtain rfl : sd = tx := (HEq.out rfl).symm
        go_wp2_with (first
          | (go_at_call 30; (with_reducible refine HTx.out.mono ?_); rintro e w5 ⟨A5, c5, rfl, hb5, ho5⟩; have HO5 : Hid (Only (fun _ => False) w w5) := HO.out.trans ho5.out (fun _ h => h.elim); have hcv := (hb5.out.texts HTn.out) w5 (Only.refl _ _); clear hb5 ho5)
          | fail)
        go_ret
        exact ⟨rfl, HO5.out⟩
end
end Go.Proofs.YtbnfhklpobephaaGreatDoor
