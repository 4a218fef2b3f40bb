
/- EndTakes, walked: a config that makes an end. -/
import Derived.Test.YtbnfhklpobephaaGreatDoorJEnDo
namespace Go.Proofs.YtbnfhklpobephaaGreatDoor
open Go Go.RowKit
set_option maxRecDepth 100000
set_option maxHeartbeats 4000000

section
variable {ag : Nat → Nat → Bool} {a : Ac} {E : Ee}
theorem actE_0 (h : a.k = 0) : actE ag a E = feedsE ag E a.xs := by unfold actE; rw [if_pos h]
theorem actE_1 (h : a.k = 1 ∨ a.k = 2) : actE ag a E = (E.ask a.n a.o (decide (a.k = 1))).2.1 := by unfold actE; rw [if_neg (by omega), if_pos h]
theorem actE_3 (h : a.k = 3) : actE ag a E = (E.set a.n).2 := by unfold actE; rw [if_neg (by omega), if_neg (by omega), if_pos h]
theorem actE_4 (h : a.k = 4) : actE ag a E = E.say a.xs := by unfold actE; rw [if_neg (by omega), if_neg (by omega), if_neg (by omega), if_pos h]
theorem actE_5 (h : a.k = 5) : actE ag a E = (E.cmd a.n).2 := by unfold actE; rw [if_neg (by omega), if_neg (by omega), if_neg (by omega), if_neg (by omega), if_pos h]
theorem actE_6 (h : a.k ≠ 0 ∧ a.k ≠ 1 ∧ a.k ≠ 2 ∧ a.k ≠ 3 ∧ a.k ≠ 4 ∧ a.k ≠ 5) : actE ag a E = E := by unfold actE; rw [if_neg (by omega), if_neg (by omega), if_neg (by omega), if_neg (by omega), if_neg (by omega)]
end
/-- A new end. -/
def NewE (W w' : World) (p : Nat) (ag : Nat → Nat → Bool) (E : Ee) : Prop :=
  (∃ q, IsEe w' p 0 132 [] [] (· = p) (fun i => W.heap.size + 1 ≤ i ∧ i < q) ag E ∧ W.heap.size ≤ p ∧ q ≤ p) ∧ Only (fun _ => False) W w'
theorem all_two {w W0 w1 w2 : World} {es : List Addr} {p q : Nat} {ag : Nat → Nat → Bool} {E F : Ee} (h1 : NewE W0 w1 p ag E) (ho : Only (fun _ => False) w W0) (h2 : NewE w1 w2 q ag F) (he : ErrsAt w es) (ht : TbW w) :
    EnAll w (w2.alloc (.cells #[] 81)) es p q ag E F (some ⟨w2.heap.size, 0, none⟩) 0 0 [] := by
  obtain ⟨⟨q1, k1, k2, k3⟩, o1⟩ := h1
  obtain ⟨⟨q2, l1, l2, l3⟩, o2⟩ := h2
  have hz := ho.size
  exact all_make k1 (by omega) k3 (ho.trans o1 (fun _ h => h.elim)) l1 l2 (by omega) o2 he ht ((Only.refl _ _).alloc _) (Blk.new w2 81 []) (Nat.le_refl _)
/-- Behind so many acts. -/
def TakesR (w W : World) (es : List Addr) (p q : Nat) (ag : Nat → Nat → Bool) (l : List Ac) (k : Nat) (A : Option Addr) (n c : Nat) : Prop :=
  ∃ E out, E.Sz (k + lenA (l.take k)) ∧ (E.pre out).Sz (k + lenA (l.take k)) ∧ VOk E.k.m ∧ E.out = [] ∧ EnAll w W es p q ag E (E.pre out) A n c out
theorem takesR_next {w W : World} {es : List Addr} {p q : Nat} {ag : Nat → Nat → Bool} {l : List Ac} {k : Nat} {A : Option Addr} {n c : Nat} {E : Ee} {out : List (Int × List UInt8)} {x : Ac} (hx : l[k]? = some x) (hl : x.xs.length = x.len)
    (h1 : E.Sz (k + lenA (l.take k))) (h2 : (E.pre out).Sz (k + lenA (l.take k))) (h3 : VOk E.k.m) (h : EnAll w W es p q ag (actE ag x E).take (actE ag x (E.pre out)) A n c (out ++ (actE ag x E).out)) : TakesR w W es p q ag l (k + 1) A n c := by
  have e : k + lenA (l.take k) + 1 + x.xs.length = k + 1 + lenA (l.take (k + 1)) := by rw [lenA_take hx, hl]; omega
  have st := takes_step ag x (E := E) (F := E.pre out) (all := out) rfl
  refine ⟨(actE ag x E).take, out ++ (actE ag x E).out, ?_, ?_, ?_, rfl, ?_⟩
  · rw [← e]; exact Ee.take_sz (actE_sz ag x h1)
  · rw [← e, ← st]; exact actE_sz ag x h2
  · exact actE_vk ag x h3
  · rw [← st]; exact h
theorem lenA_le {l : List Ac} (k : Nat) : lenA (l.take k) ≤ lenA l := by
  conv => rhs; rw [← List.take_append_drop k l, lenA_append]
  omega
theorem info_pcs2 : (Tryz.prog.info? 81).map (·.size) = some 2 := by kernel_rfl

theorem pcs_len (xs : List Pc) : (xs.flatMap Pc.cs).length = xs.length * 2 := by
  induction xs with
  | nil => rfl
  | cons x xs ih => simp only [List.flatMap_cons, List.length_append, ih, List.length_cons, List.length_nil]; omega
theorem pcs_news {W : World} {A : Option Addr} {n : Nat} {R : Nat → Prop} {xs : List Pc} {out : List (Int × List UInt8)} (h : PcsAt W A n R xs out) : 0 < n → ∃ ad, A = some ad ∧ ∀ (j : Nat) (u : Value), (xs.flatMap Pc.cs)[j]? = some u → W.cell? (ad.add j) = some u := fun hn => by
  obtain ⟨x0, hx0⟩ : ∃ x, xs[0]? = some x := ⟨_, List.getElem?_eq_getElem (by have := h.len; omega)⟩
  obtain ⟨g, rfl, _, _⟩ := h.at_ 0 x0 hx0
  refine ⟨_, rfl, fun j u hu => ?_⟩
  have hj := (List.getElem?_eq_some_iff.1 hu).1
  rw [pcs_len] at hj
  obtain ⟨x, hx⟩ : ∃ x, xs[j / 2]? = some x := ⟨_, List.getElem?_eq_getElem (by omega)⟩
  obtain ⟨g', e1, _, hr⟩ := h.at_ _ x hx
  injection e1 with e1
  injection e1 with e1
  subst e1
  have h2 : j % 2 < x.cs.length := by show _ < 2; omega
  have hv := flat_at (cs := Pc.cs) (m := 2) (fun _ => rfl) (List.getElem?_eq_getElem h2) hx
  rw [show j / 2 * 2 + j % 2 = j from by omega, hu] at hv
  have := hr (j % 2) _ (List.getElem?_eq_getElem h2)
  rw [show j / 2 * 2 + j % 2 = j from by omega] at this
  rw [at_add, this, hv]
theorem pcs_one {W : World} {A : Option Addr} {n : Nat} {R : Nat → Prop} {xs : List Pc} {out : List (Int × List UInt8)} (h : PcsAt W A n R xs out) : ∀ u ∈ xs.flatMap Pc.cs, u.oneCell' = true := fun u hu => by
  obtain ⟨x, hx, hu⟩ := List.mem_flatMap.1 hu
  obtain ⟨A', n', c', e, _⟩ := h.ok x hx
  simp only [List.mem_cons, List.not_mem_nil, or_false] at hu
  rcases hu with rfl | rfl
  · rfl
  · rw [e]; rfl
/-- A piece of a row that the law has. -/
theorem all_pc {w W : World} {M R M' R' K : Nat → Prop} {A : Option Addr} {n c : Nat} {xs : List Pc} {out : List (Int × List UInt8)} (a : AllAt w W M R M' R' K A n c xs out) {t : Nat} {y : Int × List UInt8} (hy : out[t]? = some y) :
    ∃ g B m d, A = some ⟨g, 0, none⟩ ∧ W.rangeAt g (t * 2) [.int .i64 y.1, .slice B m d] ∧ Src W B m y.2 := by
  rw [← a.out, List.getElem?_map] at hy
  cases hx : xs[t]? with
  | none => rw [hx] at hy; cases hy
  | some x =>
    rw [hx] at hy
    injection hy with hy
    have hl := (List.getElem?_eq_some_iff.1 hx).1
    obtain ⟨g, e, _, hg, hc⟩ := own_at a.row (by have := a.len; omega)
    obtain ⟨B, m, d, e2, hs, _⟩ := a.ok x (List.mem_of_getElem? hx)
    subst hy
    refine ⟨g, B, m, d, e, fun j v hj => hc _ v ?_, hs⟩
    exact flat_at (cs := Pc.cs) (m := 2) (fun _ => rfl) (x := x) (i := j) (v := v) (by rw [Pc.cs, e2]; exact hj) hx
theorem pcs_pc {W : World} {A : Option Addr} {n : Nat} {R : Nat → Prop} {xs : List Pc} {out : List (Int × List UInt8)} (h : PcsAt W A n R xs out) {t : Nat} {y : Int × List UInt8} (hy : out[t]? = some y) :
    ∃ g B m d, A = some ⟨g, 0, none⟩ ∧ W.rangeAt g (t * 2) [.int .i64 y.1, .slice B m d] ∧ Src W B m y.2 := by
  rw [← h.out, List.getElem?_map] at hy
  cases hx : xs[t]? with
  | none => rw [hx] at hy; cases hy
  | some x =>
    rw [hx] at hy
    injection hy with hy
    obtain ⟨g, e, _, hr⟩ := h.at_ t x hx
    obtain ⟨B, m, d, e2, hs, _⟩ := h.ok x (List.mem_of_getElem? hx)
    subst hy
    refine ⟨g, B, m, d, e, ?_, hs⟩
    rw [Pc.cs, e2] at hr
    exact hr

section
variable {w : World} {es : List Addr} {A1 A2 A B A0 : Option Addr} {n1 c1 n2 c2 n cA m cB len cap : Nat} {cc cr can : Int} {ts : List (List UInt8)} {l : List Ac} {sl : List Se} {us hims : List Int}
theorem takes_ok (hes : ErrsAt w es) (hT : TbW w) (h18 : 18 ≤ w.heap.size) (hu : Ints w A1 n1 us) (hh : Ints w A2 n2 hims) (hts : TSrc w A n ts) (hn : n ≤ 9223372036854775807) (hst : StAt w B m sl) (hm : m ≤ cB) (hcB : cB ≤ 9223372036854775807) (ha : AcAt w A0 len l) (hb : cfGood cc cr ts = true) :
    Calls Tryz.prog 6 #[.agg (ecC A1 n1 c1 A2 n2 c2 cc cr A n cA B m cB can).toArray, .slice A0 len cap] w (Fine w) := by
  obtain ⟨ag, hag⟩ : ∃ ag, ag = agOf us hims := ⟨_, rfl⟩
  obtain ⟨E0, hE0⟩ : ∃ E0, E0 = Ee.zero (Hs.new cc cr ts sl can) := ⟨_, rfl⟩
  have HE0 : Hid (E0.Sz 0 ∧ VOk E0.k.m ∧ E0.out = []) := by rw [hE0]; exact ⟨sz0 _, VOk.zero, rfl⟩
  have HAl : Hid (∀ W, Only (fun _ => False) w W → Calls Tryz.prog 7 #[] W fun e w' => e = .returned (.bool true) ∧ Only (fun _ => False) W w') := fun W ho => enAlive (hes.only ho) (hT.only ho) (Nat.le_trans h18 ho.size)
  have HLo : Hid (∀ W, Only (fun _ => False) w W → Calls Tryz.prog 8 #[.agg (ecC A1 n1 c1 A2 n2 c2 cc cr A n cA B m cB can).toArray, .slice A0 len cap] W fun e w' => ∃ b, e = .returned (.bool b) ∧ (b = false → Few20 n1 n2 l) ∧ Only (fun _ => False) W w') := fun W ho => enLong (hts.same ho) hn (ha.same ho)
  have HNw : Hid (∀ W, Only (fun _ => False) w W → Few20 n1 n2 l → Calls Tryz.prog 9 #[.agg (ecC A1 n1 c1 A2 n2 c2 cc cr A n cA B m cB can).toArray] W fun e w' => ∃ p, e = .returned (.tuple #[.pointer (some ⟨p, 0, none⟩), .nilIface]) ∧ Hid (NewE W w' p ag E0)) := fun W ho hf => (enNew_ok (can := can) (cA := cA) (c1 := c1) (c2 := c2) (hu.same ho) (hh.same ho) (by have := hf.us; omega) (by have := hf.hims; omega) (hts.same ho) (hst.same ho) hm hcB hb (Nat.le_trans h18 ho.size)).mono (by
    rintro e w' ⟨p, q, rfl, h1, h2⟩
    rw [hag, hE0]
    exact ⟨p, rfl, ⟨q, h1.out⟩, h2.out⟩)
  have HBx : Hid (∀ W, Only (fun _ => False) (w.alloc (.cells (ecC A1 n1 c1 A2 n2 c2 cc cr A n cA B m cB can).toArray 32)) W → W.rangeAt w.heap.size 0 (ecC A1 n1 c1 A2 n2 c2 cc cr A n cA B m cB can)) := fun W ho => range_of ((Blk.new w 32 (ecC A1 n1 c1 A2 n2 c2 cc cr A n cA B m cB can)).only ho (fun h => h))
  have HO0 : Hid (Only (fun _ => False) w (w.alloc (.cells (ecC A1 n1 c1 A2 n2 c2 cc cr A n cA B m cB can).toArray 32))) := (Only.refl _ _).alloc _
  have HES := Lib.hid hes
  have HTW := Lib.hid hT
  have H18 := Lib.hid h18
  have HA := Lib.hid ha
  have hlen := ha.1
  clear hes hT h18 hu hh hts hn hst hm hcB ha hb hag hE0
  go_enter Tryz.func6, Tryz.ntmps6
  go_wp2_with (first
    | (go_at_call 7; (with_reducible refine (HAl.out _ HO0.out).mono ?_); rintro e w1 ⟨rfl, ho1⟩; have HC1 := Lib.hid ho1; have HO1 := Lib.hid (HO0.out.trans ho1 (fun _ h => h.elim)); clear ho1)
    | ((with_reducible show wpList _ _ _ (⟨some 21, .load _ _, _, _, _, _⟩ :: _) _ _); refine wpList_load_mid rfl 32 _ rfl w.heap.size 0 rfl (ecC A1 n1 c1 A2 n2 c2 cc cr A n cA B m cB can) _ (HBx.out _ HC1.out) Tryz.underlying32 rfl size_ec ?_)
    | (go_at_call 8; (with_reducible refine (HLo.out _ HO1.out).mono ?_); rintro e w2 ⟨b, rfl, hf2, ho2⟩; have HC2 := Lib.hid (HC1.out.trans ho2 (fun _ h => h.elim)); have HO2 := Lib.hid (HO1.out.trans ho2 (fun _ h => h.elim)); clear ho2; have hf3 : (b = false ∧ Few20 n1 n2 l) ∨ b = true := (by cases b; exact .inl ⟨rfl, hf2 rfl⟩; exact .inr rfl); clear hf2; rcases hf3 with ⟨rfl, hf3⟩ | rfl)
    | ((with_reducible show wpList _ _ _ (⟨some 25, .load _ _, _, _, _, _⟩ :: _) _ _); refine wpList_load_mid rfl 32 _ rfl w.heap.size 0 rfl (ecC A1 n1 c1 A2 n2 c2 cc cr A n cA B m cB can) _ (HBx.out _ HC2.out) Tryz.underlying32 rfl size_ec ?_)
    | ((with_reducible show wpList _ _ _ (⟨some 30, .load _ _, _, _, _, _⟩ :: _) _ _); refine wpList_load_mid rfl 32 _ rfl w.heap.size 0 rfl (ecC A1 n1 c1 A2 n2 c2 cc cr A n cA B m cB can) _ (HBx.out _ HC3.out) Tryz.underlying32 rfl size_ec ?_)
    | (go_at_call 9; (with_reducible refine (HNw.out _ HO3.out hf3).mono ?_); rintro e w4 ⟨q, rfl, hk4⟩; have HN4 := hk4; clear hk4)
    | (go_at_call 9; (with_reducible refine (HNw.out _ HO2.out hf3).mono ?_); rintro e w3 ⟨p, rfl, hk3⟩; have HN3 := hk3; have HC3 := Lib.hid (HC2.out.trans hk3.out.2 (fun _ h => h.elim)); have HO3 := Lib.hid (HO2.out.trans hk3.out.2 (fun _ h => h.elim)); clear hk3))
  rotate_left
  · go_ret
    exact ⟨rfl, HO2.out⟩
  have HF := Lib.hid hf3
  have HAll : Hid (EnAll w (w4.alloc (.cells #[] 81)) es p q ag E0 E0 (some ⟨w4.heap.size, 0, none⟩) 0 0 []) := all_two HN3.out HO2.out HN4.out HES.out HTW.out
  clear HAl HLo HNw HBx HO0 hf3 HN3 HN4 HC1 HC2 HC3 HO1 HO2 HO3
  go_loopw [9, 57] (fun v i W => ∃ (k : Nat) (An : Option Addr) (nn cn : Nat), k ≤ len ∧ v = .slice An nn cn ∧ i = .int .i64 (k : Int) ∧ Hid (TakesR w W es p q ag l k An nn cn)) (fun _ i _ => len - (intOf i).toNat)
  case atStart => exact ⟨0, _, 0, 0, Nat.zero_le _, rfl, rfl, E0, [], HE0.out.1, HE0.out.1, HE0.out.2.1, HE0.out.2.2, HAll.out⟩
  case round =>
    clear HAll
    obtain ⟨k, An, nn, cn, hk, rfl, rfl, hrel⟩ := hrel
    obtain ⟨E, out, hz1, hz2, hv, hout, hall⟩ := hrel.out
    have hO : Only (fun _ => False) w wr := hall.old
    have hk24 : k ≤ 24 := by have := HF.out.acts; omega
    have hla := lenA_le (l := l) k
    have hla2 := HF.out.all
    have HZ1 := Lib.hid hz1
    have HZ2 := Lib.hid hz2
    have HV := Lib.hid hv
    have HOut := Lib.hid hout
    have HAll := Lib.hid hall
    have HM : Hid (k + lenA (l.take k) ≤ 264) := by show _ ≤ _; omega
    by_cases hlt : k < len
    · have hlt2 : (k : Int) < (len : Int) := by omega
      obtain ⟨x, hx⟩ : ∃ x, l[k]? = some x := ⟨_, List.getElem?_eq_getElem (by omega)⟩
      obtain ⟨⟨b, off, rfl, _, hr⟩, hok⟩ := (HA.out.same hO).2 k x hx
      have hxl := hok.src.1
      have HNx : Hid (∀ (W : World) (An : Option Addr) (nn cn : Nat), EnAll w W es p q ag (actE ag x E).take (actE ag x (E.pre out)) An nn cn (out ++ (actE ag x E).out) → TakesR w W es p q ag l (k + 1) An nn cn) := fun W An nn cn h => takesR_next hx hxl HZ1.out HZ2.out HV.out h
      have h120 := HF.out.each x (List.mem_of_getElem? hx)
      have HSx : Hid (∀ W, Only (fun _ => False) w W → Src W x.ad x.len x.xs) := fun W ho => (((HA.out).2 k x hx).2.src).only ho (fun _ _ _ h => h)
      have HOk := Lib.hid hok
      have HR : Hid (wr.rangeAt b (off + k * 5) x.cs) := hr
      obtain ⟨W0, hW0⟩ : ∃ W0, W0 = wr := ⟨_, rfl⟩
      subst hW0
      clear hz1 hz2 hv hout hall hrel hx hr hok hla hla2 hO
      obtain ⟨xk, xn, xo, xm, xa, xl, xc, xx⟩ := x
      simp only at hxl h120
      have HRg : Hid (W0.rangeAt b (off + k * 5) [.int .i64 xk, .int .i64 xn, .int .i64 xo, .bool xm, .slice xa xl xc]) := HR.out
      have HSx' : Hid (∀ W, Only (fun _ => False) w W → Src W xa xl xx) := HSx.out
      have HIn : Hid (In64 xn) := HOk.out.in64
      have hcap : xl ≤ xc := HOk.out.cap.1
      have HXl := Lib.hid hxl
      clear HR HSx HOk hxl
      go_wp2_with (first
        | ((with_reducible show wpList _ _ _ (⟨some 60, .load _ _, _, _, _, _⟩ :: _) _ _); refine wpList_load_mid rfl 47 _ rfl b (off + k * 5) rfl [.int .i64 xk, .int .i64 xn, .int .i64 xo, .bool xm, .slice xa xl xc] _ HRg.out Tryz.underlying47 rfl size_act ?_))
      obtain ⟨W2, hW2⟩ : ∃ W2, W2 = (W0.alloc (.cells #[.int .i64 xk, .int .i64 xn, .int .i64 xo, .bool xm, .slice xa xl xc] 47)).alloc (.cells #[.pointer (some ⟨p, 0, none⟩), .pointer (some ⟨q, 0, none⟩)] 36) := ⟨_, rfl⟩
      rw [← hW2]
      obtain ⟨N, hN⟩ : ∃ N, N = W0.heap.size := ⟨_, rfl⟩
      rw [← hN]
      have hoW : Only (fun _ => False) W0 W2 := by rw [hW2]; exact ((Only.refl _ _).alloc _).alloc _
      have HB1 : Hid (Blk W2 N 47 [.int .i64 xk, .int .i64 xn, .int .i64 xo, .bool xm, .slice xa xl xc]) := by
        rw [hW2, hN]
        exact (Blk.new W0 47 [.int .i64 xk, .int .i64 xn, .int .i64 xo, .bool xm, .slice xa xl xc]).alloc _
      have HB2 : Hid (Blk W2 (N + 1) 36 [.pointer (some ⟨p, 0, none⟩), .pointer (some ⟨q, 0, none⟩)]) := by
        rw [hW2, hN]
        exact Blk.new' (n := W0.heap.size + 1) (W0.alloc (.cells #[.int .i64 xk, .int .i64 xn, .int .i64 xo, .bool xm, .slice xa xl xc] 47)) 36 [.pointer (some ⟨p, 0, none⟩), .pointer (some ⟨q, 0, none⟩)] (by simp)
      have HK2 : Hid (EnAllK w W2 es p q ag E (E.pre out) An nn cn out (fun i => i = N ∨ i = N + 1)) := HAll.out.keep hoW (fun i hi => by
        have : W2.heap.size = W0.heap.size + 2 := by rw [hW2]; simp
        omega)
      obtain ⟨x, hx⟩ : ∃ x : Ac, x = ⟨xk, xn, xo, xm, xa, xl, xc, xx⟩ := ⟨_, rfl⟩
      rw [← hx] at HNx
      have HX := Lib.hid hx
      clear hW2 hN hoW hx HAll
      go_loopw [65] (fun i W => ∃ j : Nat, j ≤ 2 ∧ i = .int .i64 (j : Int) ∧ Hid (EnAllK w W es p q ag (if 1 ≤ j then actE ag x E else E) (if 2 ≤ j then actE ag x (E.pre out) else E.pre out) An nn cn out (fun i => i = N ∨ i = N + 1) ∧ Only (fun i => ¬ (i = N ∨ i = N + 1)) W2 W)) (fun i _ => 2 - (intOf i).toNat)
      case atStart => exact ⟨0, by omega, rfl, HK2.out, Only.refl _ _⟩
      case round =>
        clear HK2
        obtain ⟨j, hj, rfl, hrel⟩ := hrel
        have HQ : Hid (Only (fun i => ¬ (i = N ∨ i = N + 1)) W2 wr) := hrel.out.2
        by_cases hj2 : j < 2
        · have hj2' : (j : Int) < 2 := by omega
          obtain ⟨P, P', X, Y, hld, hEn, hSz, hV, hback⟩ : ∃ P P' X Y, wr.cell? ⟨N + 1, j, none⟩ = some (.pointer (some ⟨P, 0, none⟩)) ∧ EnAllK w wr es P P' ag X Y An nn cn out (fun i => i = N ∨ i = N + 1) ∧ X.Sz 264 ∧ VOk X.k.m ∧ (∀ W', EnAllK w W' es P P' ag (actE ag x X) Y An nn cn out (fun i => i = N ∨ i = N + 1) → EnAllK w W' es p q ag (if 1 ≤ j + 1 then actE ag x E else E) (if 2 ≤ j + 1 then actE ag x (E.pre out) else E.pre out) An nn cn out (fun i => i = N ∨ i = N + 1)) := by
            have hb := HB2.out.only HQ.out (fun h => h (.inr rfl))
            have hm := HM.out
            rcases (by omega : j = 0 ∨ j = 1) with rfl | rfl
            · exact ⟨p, q, E, E.pre out, hb.cell 0, hrel.out.1, HZ1.out.more hm, HV.out, fun W' h => h⟩
            · exact ⟨q, p, E.pre out, actE ag x E, hb.cell 1, hrel.out.1.swap, HZ2.out.more hm, HV.out, fun W' h => h.swap⟩
          have hb1 := HB1.out.only HQ.out (fun h => h (.inl rfl))
          have b0 : wr.cell? ⟨N, 0, none⟩ = some (.int .i64 xk) := hb1.cell 0
          have b1 : wr.cell? ⟨N, 1, none⟩ = some (.int .i64 xn) := hb1.cell 1
          have b2 : wr.cell? ⟨N, 2, none⟩ = some (.int .i64 xo) := hb1.cell 2
          have b4 : wr.cell? ⟨N, 4, none⟩ = some (.slice xa xl xc) := hb1.cell 4
          have HEn := Lib.hid hEn
          have HSz := Lib.hid hSz
          have HVx := Lib.hid hV
          have HBack := Lib.hid hback
          clear hrel hEn hSz hV hback hb1
          obtain ⟨W1, hW1⟩ : ∃ W1, W1 = wr := ⟨_, rfl⟩
          subst hW1
          rcases (by omega : xk = 0 ∨ xk = 1 ∨ xk = 2 ∨ xk = 3 ∨ xk = 4 ∨ xk = 5 ∨ (xk ≠ 0 ∧ xk ≠ 1 ∧ xk ≠ 2 ∧ xk ≠ 3 ∧ xk ≠ 4 ∧ xk ≠ 5)) with rfl | rfl | rfl | rfl | rfl | rfl | hk6
          · have hA : actE ag x X = feedsE ag X xx := by rw [HX.out]; exact actE_0 rfl
            have HA0 := Lib.hid hA
            clear hA
            go_wp2
            go_loopw [76] (fun i W => ∃ t : Nat, t ≤ xl ∧ i = .int .i64 (t : Int) ∧ Hid (EnAllK w W es P P' ag (feedsE ag X (xx.take t)) Y An nn cn out (fun i => i = N ∨ i = N + 1) ∧ Only (fun i => ¬ (i = N ∨ i = N + 1)) W2 W)) (fun i _ => xl - (intOf i).toNat)
            case atStart => exact ⟨0, Nat.zero_le _, rfl, HEn.out, HQ.out⟩
            case round =>
              obtain ⟨t, ht, rfl, hrel⟩ := hrel
              by_cases ht2 : t < xl
              · have ht2' : (t : Int) < (xl : Int) := by omega
                obtain ⟨y, hy⟩ : ∃ y, xx[t]? = some y := ⟨_, List.getElem?_eq_getElem (by have := HXl.out; omega)⟩
                obtain ⟨ad, rfl, hcell⟩ := (HSx'.out wr hrel.out.1.old).2 (by omega)
                have c0 := hcell t y hy
                unfold B8 at c0
                have HFd : Hid (Calls Tryz.prog 23 #[.pointer (some ⟨P, 0, none⟩), .int .u8 (y.toNat : Int), .bool false] wr fun e w' => (∃ v1 v2, e = .returned (.tuple #[v1, v2])) ∧ Hid (EnAllK w w' es P P' ag (feedsE ag X (xx.take (t + 1))) Y An nn cn out (fun i => i = N ∨ i = N + 1) ∧ Only (fun i => ¬ (i = N ∨ i = N + 1)) W2 w')) := by
                  have hs := feedsE_sz ag (xx.take t) HSz.out
                  refine (hrel.out.1.feed (feedsE_vk ag (xx.take t) HVx.out) (hs.lo (by rw [List.length_take]; omega)) y).mono ?_
                  rintro e w' ⟨h1, h2⟩
                  refine ⟨h1, ?_, hrel.out.2.trans h2.out.2 (fun _ h => .inl h)⟩
                  rw [List.take_add_one, hy, Option.toList_some, feedsE_snoc]
                  exact h2.out.1
                clear hcell hy hrel
                go_wp2_with (go_at_call 23; (with_reducible refine HFd.out.mono ?_); rintro e w4 ⟨⟨v1, v2, rfl⟩, hk4⟩; have HK4 := hk4; clear hk4)
                go_roundw
                case rel => exact ⟨t + 1, by omega, by go_num, HK4.out⟩
                case measure => simp [intOf]; omega
              · obtain rfl : t = xl := by omega
                have HK4 : Hid (EnAllK w wr es P P' ag (actE ag x X) Y An nn cn out (fun i => i = N ∨ i = N + 1)) := by
                  have h := hrel.out.1
                  rw [List.take_of_length_le (by have := HXl.out; omega)] at h
                  show EnAllK _ _ _ _ _ _ _ _ _ _ _ _ _
                  rw [HA0.out]
                  exact h
                have HQ4 : Hid (Only (fun i => ¬ (i = N ∨ i = N + 1)) W2 wr) := hrel.out.2
                clear hrel
                go_wp2
                go_roundw
                case rel => exact ⟨j + 1, by omega, by go_num, HBack.out _ HK4.out, HQ4.out⟩
                case measure => simp [intOf]; omega
          · have hA : actE ag x X = (X.ask xn xo true).2.1 := by rw [HX.out]; exact actE_1 (.inl rfl)
            have HC : Hid (Calls Tryz.prog 24 #[.pointer (some ⟨P, 0, none⟩), .int .i64 xn, .int .i64 xo, .bool true] W1 fun e w' => (∃ v1 v2, e = .returned (.tuple #[v1, v2])) ∧ Hid (EnAllK w w' es p q ag (if 1 ≤ j + 1 then actE ag x E else E) (if 2 ≤ j + 1 then actE ag x (E.pre out) else E.pre out) An nn cn out (fun i => i = N ∨ i = N + 1) ∧ Only (fun i => ¬ (i = N ∨ i = N + 1)) W2 w')) := (HEn.out.ask (HSz.out.lo (by omega)) xn xo true).mono (fun e w' ⟨h1, h2⟩ => ⟨h1, HBack.out _ (by rw [hA]; exact h2.out.1), HQ.out.trans h2.out.2 (fun _ h => .inl h)⟩)
            clear hA
            go_wp2_with (go_at_call 24; (with_reducible refine HC.out.mono ?_); rintro e w4 ⟨⟨v1, v2, rfl⟩, hk4⟩; have HK4 := hk4; clear hk4)
            go_roundw
            case rel => exact ⟨j + 1, by omega, by go_num, HK4.out⟩
            case measure => simp [intOf]; omega
          · have hA : actE ag x X = (X.ask xn xo false).2.1 := by rw [HX.out]; exact actE_1 (.inr rfl)
            have HC : Hid (Calls Tryz.prog 24 #[.pointer (some ⟨P, 0, none⟩), .int .i64 xn, .int .i64 xo, .bool false] W1 fun e w' => (∃ v1 v2, e = .returned (.tuple #[v1, v2])) ∧ Hid (EnAllK w w' es p q ag (if 1 ≤ j + 1 then actE ag x E else E) (if 2 ≤ j + 1 then actE ag x (E.pre out) else E.pre out) An nn cn out (fun i => i = N ∨ i = N + 1) ∧ Only (fun i => ¬ (i = N ∨ i = N + 1)) W2 w')) := (HEn.out.ask (HSz.out.lo (by omega)) xn xo false).mono (fun e w' ⟨h1, h2⟩ => ⟨h1, HBack.out _ (by rw [hA]; exact h2.out.1), HQ.out.trans h2.out.2 (fun _ h => .inl h)⟩)
            clear hA
            go_wp2_with (go_at_call 24; (with_reducible refine HC.out.mono ?_); rintro e w4 ⟨⟨v1, v2, rfl⟩, hk4⟩; have HK4 := hk4; clear hk4)
            go_roundw
            case rel => exact ⟨j + 1, by omega, by go_num, HK4.out⟩
            case measure => simp [intOf]; omega
          · have hA : actE ag x X = (X.set xn).2 := by rw [HX.out]; exact actE_3 rfl
            have HC : Hid (Calls Tryz.prog 25 #[.pointer (some ⟨P, 0, none⟩), .int .i64 xn] W1 fun e w' => (∃ v, e = .returned v) ∧ Hid (EnAllK w w' es p q ag (if 1 ≤ j + 1 then actE ag x E else E) (if 2 ≤ j + 1 then actE ag x (E.pre out) else E.pre out) An nn cn out (fun i => i = N ∨ i = N + 1) ∧ Only (fun i => ¬ (i = N ∨ i = N + 1)) W2 w')) := (HEn.out.set (HSz.out.lo (by omega)) HIn.out).mono (fun e w' ⟨h1, h2⟩ => ⟨h1, HBack.out _ (by rw [hA]; exact h2.out.1), HQ.out.trans h2.out.2 (fun _ h => .inl h)⟩)
            clear hA
            go_wp2_with (go_at_call 25; (with_reducible refine HC.out.mono ?_); rintro e w4 ⟨⟨v, rfl⟩, hk4⟩; have HK4 := hk4; clear hk4)
            go_roundw
            case rel => exact ⟨j + 1, by omega, by go_num, HK4.out⟩
            case measure => simp [intOf]; omega
          · have hA : actE ag x X = X.say xx := by rw [HX.out]; exact actE_4 rfl
            have HC : Hid (Calls Tryz.prog 26 #[.pointer (some ⟨P, 0, none⟩), .slice xa xl xc] W1 fun e w' => e = .returned (.tuple #[]) ∧ Hid (EnAllK w w' es p q ag (if 1 ≤ j + 1 then actE ag x E else E) (if 2 ≤ j + 1 then actE ag x (E.pre out) else E.pre out) An nn cn out (fun i => i = N ∨ i = N + 1) ∧ Only (fun i => ¬ (i = N ∨ i = N + 1)) W2 w')) := (HEn.out.say (HSz.out.lo (by omega)) (HSx'.out W1 HEn.out.old) (by omega) hcap).mono (fun e w' ⟨h1, h2⟩ => ⟨h1, HBack.out _ (by rw [hA]; exact h2.out.1), HQ.out.trans h2.out.2 (fun _ h => .inl h)⟩)
            clear hA
            go_wp2_with (go_at_call 26; (with_reducible refine HC.out.mono ?_); rintro e w4 ⟨rfl, hk4⟩; have HK4 := hk4; clear hk4)
            go_roundw
            case rel => exact ⟨j + 1, by omega, by go_num, HK4.out⟩
            case measure => simp [intOf]; omega
          · have hA : actE ag x X = (X.cmd xn).2 := by rw [HX.out]; exact actE_5 rfl
            have HC : Hid (Calls Tryz.prog 27 #[.pointer (some ⟨P, 0, none⟩), .int .i64 xn] W1 fun e w' => (∃ v, e = .returned v) ∧ Hid (EnAllK w w' es p q ag (if 1 ≤ j + 1 then actE ag x E else E) (if 2 ≤ j + 1 then actE ag x (E.pre out) else E.pre out) An nn cn out (fun i => i = N ∨ i = N + 1) ∧ Only (fun i => ¬ (i = N ∨ i = N + 1)) W2 w')) := (HEn.out.cmd (HSz.out.lo (by omega)) xn).mono (fun e w' ⟨h1, h2⟩ => ⟨h1, HBack.out _ (by rw [hA]; exact h2.out.1), HQ.out.trans h2.out.2 (fun _ h => .inl h)⟩)
            clear hA
            go_wp2_with (go_at_call 27; (with_reducible refine HC.out.mono ?_); rintro e w4 ⟨⟨v, rfl⟩, hk4⟩; have HK4 := hk4; clear hk4)
            go_roundw
            case rel => exact ⟨j + 1, by omega, by go_num, HK4.out⟩
            case measure => simp [intOf]; omega
          · have hA : actE ag x X = X := by rw [HX.out]; exact actE_6 hk6
            have HK4 : Hid (EnAllK w W1 es p q ag (if 1 ≤ j + 1 then actE ag x E else E) (if 2 ≤ j + 1 then actE ag x (E.pre out) else E.pre out) An nn cn out (fun i => i = N ∨ i = N + 1) ∧ Only (fun i => ¬ (i = N ∨ i = N + 1)) W2 W1) := ⟨HBack.out _ (by rw [hA]; exact HEn.out), HQ.out⟩
            obtain ⟨k0, k1, k2, k3, k4, k5⟩ := hk6
            have e0 : (xk == 0) = false := beq_eq_false_iff_ne.2 k0
            have e1 : (xk == 1) = false := beq_eq_false_iff_ne.2 k1
            have e2 : (xk == 2) = false := beq_eq_false_iff_ne.2 k2
            have e3 : (xk == 3) = false := beq_eq_false_iff_ne.2 k3
            have e4 : (xk == 4) = false := beq_eq_false_iff_ne.2 k4
            have e5 : (xk == 5) = false := beq_eq_false_iff_ne.2 k5
            have d0 : decide (xk = 0) = false := decide_eq_false k0
            have d1 : decide (xk = 1) = false := decide_eq_false k1
            have d2 : decide (xk = 2) = false := decide_eq_false k2
            have d3 : decide (xk = 3) = false := decide_eq_false k3
            have d4 : decide (xk = 4) = false := decide_eq_false k4
            have d5 : decide (xk = 5) = false := decide_eq_false k5
            clear hA k0 k1 k2 k3 k4 k5
            go_wp2
            go_roundw
            case rel => exact ⟨j + 1, by omega, by go_num, HK4.out⟩
            case measure => simp [intOf]; omega
        · obtain rfl : j = 2 := by omega
          obtain ⟨E1, hE1⟩ : ∃ E1, E1 = actE ag x E := ⟨_, rfl⟩
          obtain ⟨F1, hF1⟩ : ∃ F1, F1 = actE ag x (E.pre out) := ⟨_, rfl⟩
          have hEn : EnAll w wr es p q ag E1 F1 An nn cn out := by rw [hE1, hF1]; exact hrel.out.1.all
          have HTk := Lib.hid hEn.take
          have hl1 : E1.out.length ≤ 1000 := by
            have h := (actE_sz ag x HZ1.out).out
            rw [← hE1] at h
            have h1 := HM.out
            have h2 : x.xs.length ≤ 120 := by rw [HX.out]; show xx.length ≤ 120; have := HXl.out; omega
            omega
          have hl2 : out.length ≤ 1000 := by
            have h := HZ2.out.out
            have h1 := HM.out
            have h2 : (E.pre out).out.length = out.length + E.out.length := List.length_append
            omega
          rw [← hE1, ← hF1] at HNx
          obtain ⟨i, hi, hz, hi1, hi2⟩ := infoK info_pc
          have HI := Lib.hid hi
          have HZ := Lib.hid hz
          have HI1 := Lib.hid hi1
          have HI2 := Lib.hid hi2
          clear hrel hEn hi hz hi1 hi2 hE1 hF1
          go_wp2_with (first
            | (go_at_call 28; (with_reducible refine HTk.out.mono ?_); rintro e w4 ⟨A5, n5, c5, rfl, hn5, hf5⟩; obtain ⟨M5, R5, M5', R5', K5, xs, xs2, t1, t2, t3, t4, t5⟩ := hf5.out; have HT1 := Lib.hid t1; have HT2 := Lib.hid t2; have HT3 := Lib.hid t3; have hnn : nn ≤ 1000 := (by rw [t2.len, ← List.length_map (f := fun x : Pc => (x.k, x.b)), t2.out]; exact hl2); have hn51 : n5 ≤ 1000 := (by omega); have HL5 : Hid (n5 = xs2.length) := t3.len; have HB4 : Hid (w.heap.size ≤ w4.heap.size) := t1.old.size; clear hn5 hf5 t1 t2 t3)
            | ((with_reducible show wpList _ _ _ (⟨some 124, _, _, _, _, _⟩ :: _) _ _); refine step_append_own rfl (.tmp 121) (.tmp 123) 78 rfl w.heap.size 81 i _ 2 32 Tryz.underlying78 HI.out HZ.out HI1.out HI2.out rfl (by omega) (.slice An nn cn) nn (xs.flatMap Pc.cs) rfl HT2.out.row A5 n5 c5 (xs2.flatMap Pc.cs) rfl (by rw [pcs_len, HL5.out]) (pcs_news HT3.out) (pcs_one HT3.out) (by omega) (by omega) HB4.out ?_; intro A6 c6 w6 hq1 hq2 hq3; have HK6 : Hid (EnAll w w6 es p q ag E1.take F1 A6 (nn + n5) c6 (out ++ E1.out)) := all_append H18.out HT1.out HT2.out HT3.out rfl hq3.out.1 (Only.grown (Only.refl _ _) hq3.out.2.1 (fun k hk => .inl hk)) hq3.out.2.2; clear hq1 hq2 hq3))
          go_roundw
          case rel => exact ⟨k + 1, A6, nn + n5, c6, by omega, rfl, by go_num, HNx.out _ _ _ _ HK6.out⟩
          case measure => simp [intOf]; omega
    · obtain rfl : k = len := by omega
      obtain ⟨W0, hW0⟩ : ∃ W0, W0 = wr := ⟨_, rfl⟩
      subst hW0
      obtain ⟨F1, hF1⟩ : ∃ F1, F1 = E.pre out := ⟨_, rfl⟩
      have hfo : F1.out = out := by rw [hF1]; show out ++ E.out = out; rw [hout, List.append_nil]
      have hft : F1.take.out = [] := rfl
      rw [← hF1] at hall
      have HTk := Lib.hid hall.swap.take
      have hnn : nn = out.length := by
        obtain ⟨_, _, _, _, _, _, _, a⟩ := hall
        rw [a.len, ← a.out, List.length_map]
      have hl2 : out.length ≤ 1000 := by
        have h := HZ2.out.out
        have h1 := HM.out
        have h2 : (E.pre out).out.length = out.length + E.out.length := List.length_append
        omega
      have HFo := Lib.hid hfo
      have HNn := Lib.hid hnn
      have hnn2 : nn ≤ 1000 := by omega
      clear hrel hz1 hz2 hv hall HAll hout hO hF1 hfo hla hla2 hnn hl2 hft
      go_wp2_with (first
        | (go_at_call 28; (with_reducible refine HTk.out.mono ?_); rintro e w5 ⟨A5, n5, c5, rfl, hn5, hf5⟩; obtain rfl : nn = n5 := (by rw [hn5, HNn.out, HFo.out]); obtain ⟨M5, R5, M5', R5', K5, xs, xs2, t1, t2, t3, t4, t5⟩ := hf5.out; have HT1 := Lib.hid t1; have HT2 := Lib.hid t2; have HT3 := Lib.hid t3; clear hn5 hf5 t1 t2 t3))
      go_loopw [135] (fun i W => ∃ t : Nat, t ≤ nn ∧ i = .int .i64 (t : Int) ∧ Hid (Only (fun _ => False) w5 W)) (fun i _ => nn - (intOf i).toNat)
      case atStart => exact ⟨0, Nat.zero_le _, rfl, Only.refl _ _⟩
      case round =>
        obtain ⟨t, ht, rfl, hrel⟩ := hrel
        by_cases ht2 : t < nn
        · have ht2' : (t : Int) < (nn : Int) := by omega
          obtain ⟨y, hy⟩ : ∃ y, out[t]? = some y := ⟨_, List.getElem?_eq_getElem (by have := HNn.out; omega)⟩
          obtain ⟨g1, B1, m1, d1, rfl, hr1, hs1⟩ := all_pc (HT2.out.same hrel.out) hy
          obtain ⟨g2, B2, m2, d2, rfl, hr2, hs2⟩ := pcs_pc (HT3.out.same hrel.out) (y := y) (by rw [HFo.out]; exact hy)
          obtain ⟨yk, yb⟩ := y
          have HR2 : Hid (wr.rangeAt g2 (t * 2) [.int .i64 yk, .slice B2 m2 d2]) := hr2
          have HS1 : Hid (Src wr B1 m1 yb) := hs1
          have HS2 : Hid (Src wr B2 m2 yb) := hs2
          have HR1 : Hid (wr.rangeAt g1 (t * 2) [.int .i64 yk, .slice B1 m1 d1]) := hr1
          have hne : (yk != yk) = false := by simp
          clear hy hr1 hr2 hs1 hs2
          go_wp2_with (first
            | ((with_reducible show wpList _ _ _ (⟨some 139, .load _ _, _, _, _, _⟩ :: _) _ _); refine wpList_load_mid rfl 81 _ rfl g2 (t * 2) rfl [.int .i64 yk, .slice B2 m2 d2] _ HR2.out Tryz.underlying81 rfl info_pcs2 ?_))
          obtain ⟨W6, hW6⟩ : ∃ W6, W6 = wr.alloc (.cells #[.int .i64 yk, .slice B2 m2 d2] 81) := ⟨_, rfl⟩
          rw [← hW6]
          have hB : Blk W6 wr.heap.size 81 [.int .i64 yk, .slice B2 m2 d2] := by rw [hW6]; exact Blk.new wr 81 [.int .i64 yk, .slice B2 m2 d2]
          have hO6 : Only (fun _ => False) wr W6 := by rw [hW6]; exact (Only.refl _ _).alloc _
          have p0 : W6.cell? ⟨wr.heap.size, 0, none⟩ = some (.int .i64 yk) := hB.cell 0
          have p1 : W6.cell? ⟨wr.heap.size, 1, none⟩ = some (.slice B2 m2 d2) := hB.cell 1
          have s0 : W6.cell? ⟨g1, t * 2, none⟩ = some (.int .i64 yk) := hO6.cellv (HR1.out 0 _ rfl) (fun h => h)
          have s1 : W6.cell? ⟨g1, t * 2 + 1, none⟩ = some (.slice B1 m1 d1) := hO6.cellv (HR1.out 1 _ rfl) (fun h => h)
          have hcx : ∀ N, (convert 45 9 (.slice B2 m2 d2)).run Tryz.prog (W6.drewN N) = .ok (.string ⟨yb.toArray⟩) (W6.drewN N) := fun N => HS2.out.texts d2 _ (hO6.drewN N)
          have hcz : ∀ N, (convert 45 9 (.slice B1 m1 d1)).run Tryz.prog (W6.drewN N) = .ok (.string ⟨yb.toArray⟩) (W6.drewN N) := fun N => HS1.out.texts d1 _ (hO6.drewN N)
          have HO6 : Hid (Only (fun _ => False) w5 W6) := hrel.out.trans hO6 (fun _ h => h.elim)
          clear hB hO6 HR1 HR2 HS1 HS2 hW6
          go_quiet (fail)
          go_wp2
          go_roundw
          case rel => exact ⟨t + 1, by omega, by go_num, HO6.out.drewN _⟩
          case measure => simp [intOf]; omega
        · obtain rfl : t = nn := by omega
          have hT := HT1.out.same hrel.out
          have hE0 : E.out.length = 0 := by rw [HOut.out]; rfl
          have hF0 : F1.take.out.length = 0 := rfl
          have hAl : EnAll w wr es p q ag E F1.take An t cn out := ⟨_, _, _, _, _, _, hT.swap, (HT2.out.same hrel.out).swap⟩
          have HT5 : Hid (Calls Tryz.prog 28 #[.pointer (some ⟨p, 0, none⟩)] wr fun e w' => ∃ A2 c2, e = .returned (.slice A2 0 c2) ∧ Hid (EnAll w w' es p q ag E.take F1.take An t cn out)) := hAl.take.mono (by
            rintro e w' ⟨A2, n2, c2, h1, h2, h3⟩
            obtain ⟨M5, R5, M5', R5', K5, xs, xs2, t1, t2, _⟩ := h3.out
            obtain rfl : n2 = 0 := h2.trans hE0
            exact ⟨A2, c2, h1, ⟨_, _, _, _, _, _, t1, t2⟩⟩)
          have HT6 : Hid (∀ W, EnAll w W es p q ag E.take F1.take An t cn out → Calls Tryz.prog 28 #[.pointer (some ⟨q, 0, none⟩)] W fun e w' => ∃ A2 c2, e = .returned (.slice A2 0 c2) ∧ Hid (Only (fun _ => False) w w')) := fun W h => h.swap.take.mono (by
            rintro e w' ⟨A2, n2, c2, h1, h2, h3⟩
            obtain ⟨M5, R5, M5', R5', K5, xs, xs2, t1, t2, _⟩ := h3.out
            obtain rfl : n2 = 0 := h2.trans hF0
            exact ⟨A2, c2, h1, t1.old⟩)
          clear hT hE0 hF0 hAl hrel
          go_wp2_with (first
            | (go_at_call 28; (with_reducible refine HT5.out.mono ?_); rintro e w7 ⟨A7, c7, rfl, hk7⟩; have HK7 := hk7; clear hk7)
            | (go_at_call 28; (with_reducible refine (HT6.out _ HK7.out).mono ?_); rintro e w8 ⟨A8, c8, rfl, hk8⟩; have HK8 := hk8; clear hk8))
          go_ret
          exact ⟨rfl, HK8.out⟩
end
end Go.Proofs.YtbnfhklpobephaaGreatDoor
