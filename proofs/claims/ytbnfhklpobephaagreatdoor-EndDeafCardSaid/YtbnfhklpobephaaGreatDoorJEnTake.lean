/- Several texts in one. -/
import Derived.Test.YtbnfhklpobephaaGreatDoorJEmitVerb
import Derived.Test.YtbnfhklpobephaaGreatDoorJScNew
import Derived.Test.YtbnfhklpobephaaGreatDoorJEnSub
import Derived.Test.YtbnfhklpobephaaGreatDoorEnFed
/- What is to be sent is taken; all pieces' bytes. -/
namespace Go.Proofs.YtbnfhklpobephaaGreatDoor
open Go Go.RowKit
set_option maxRecDepth 100000
set_option maxHeartbeats 4000000

/-- Pieces that are handed out. -/
structure PcsAt (w : World) (A : Option Addr) (n : Nat) (R : Nat → Prop) (xs : List Pc) (out : List (Int × List UInt8)) : Prop where
  len : n = xs.length
  out : xs.map (fun x => (x.k, x.b)) = out
  at_ : ∀ k x, xs[k]? = some x → ∃ g, A = some ⟨g, 0, none⟩ ∧ g < w.heap.size ∧ w.rangeAt g (k * 2) x.cs
  ok : ∀ x ∈ xs, x.Ok w R
theorem PcsAt.same {w w' : World} {A : Option Addr} {n : Nat} {R : Nat → Prop} {xs : List Pc} {out : List (Int × List UInt8)} (h : PcsAt w A n R xs out) (ho : Only (fun _ => False) w w') : PcsAt w' A n R xs out :=
  ⟨h.len, h.out, fun k x hx => by
    obtain ⟨g, h1, h2, h3⟩ := h.at_ k x hx
    exact ⟨g, h1, Nat.lt_of_lt_of_le h2 ho.size, fun j v hj => ho.cellv (h3 j v hj) (fun h => h)⟩, fun x hx => (h.ok x hx).far ho (fun _ _ h => h)⟩
theorem PcsAt.nil (w : World) (A : Option Addr) (R : Nat → Prop) : PcsAt w A 0 R [] [] := ⟨rfl, rfl, fun k x hx => by simp at hx, fun x hx => (List.not_mem_nil hx).elim⟩
section
variable {w : World} {p mo : Nat} {tp : TypeId} {pre post : List Value} {M R : Nat → Prop} {ag : Nat → Nat → Bool} {E : Ee}
theorem enTake (k : IsEe w p mo tp pre post M R ag E) :
    Calls Tryz.prog 28 #[.pointer (some ⟨p, mo, none⟩)] w fun e w' => ∃ A n c, e = .returned (.slice A n c) ∧ Hid (IsEe w' p mo tp pre post M R ag E.take ∧ Only (· = p) w w' ∧ ∃ xs, PcsAt w' A n R xs E.out ∧ n ≤ c ∧ c ≤ 9223372036854775807) := by
  obtain ⟨ccs, tcs, h, A, n, c, xs, k⟩ := k
  have c47 : w.cell? ⟨p, mo + 1947, none⟩ = some (.slice A n c) := k.tlIn.val (i := 0) rfl
  have f47 := k.frozen (mo + 1947)
  have HK := Lib.hid k
  clear k
  go_enter Tryz.func28, Tryz.ntmps28
  go_wp2
  go_ret
  have k := HK.out
  have ho : Only (· = p) w (w.setCell ⟨p, mo + 1947, none⟩ (.slice none 0 0)) := (Only.refl (· = p) w).setCell (p := ⟨p, mo + 1947, none⟩) (.inl rfl) _
  obtain ⟨b1, b2, b3, b4, b5⟩ := k.body ho
  refine ⟨A, n, c, rfl, ⟨ccs, tcs, h, none, 0, 0, [], ?_⟩, ho, xs, ⟨k.len, k.out, fun i x hx => ?_, b3⟩, (own_le k.row).1, (own_le k.row).2⟩
  · have hI := (k.tlIn).setCell (i := 0) (by simp) (.slice none 0 0)
    refine { blk := ⟨?_, k.blk.len⟩, cl := k.cl, tb := k.tb, ok := k.ok, is := b1, row := own_nil _ _ _ _, len := rfl, out := rfl, pcs := fun x hx => (List.not_mem_nil hx).elim, own := fun g hg => (by simp [Value.ownBlock] at hg), m18 := k.m18, mp := k.mp, mlt := b4, rlt := b5, dis := k.dis, tpu := k.tpu, tpt := k.tpt }
    have := hI.blk
    rw [show (enTail (.slice A n c) E).set 0 (.slice none 0 0) = enTail (.slice none 0 0) E.take from rfl, Nat.add_zero] at this
    simpa only [enCs, List.append_assoc] using this
  · have hl := (List.getElem?_eq_some_iff.1 hx).1
    obtain ⟨g, rfl, _, hg, hc⟩ := own_at b2 (by have := k.len; omega)
    refine ⟨g, rfl, hg, fun j v hj => hc _ v ?_⟩
    exact flat_at (cs := Pc.cs) (m := 2) (fun _ => rfl) hj hx
theorem flatB_take {xs : List Pc} {k : Nat} {x : Pc} (h : xs[k]? = some x) : (xs.take (k + 1)).flatMap Pc.b = (xs.take k).flatMap Pc.b ++ x.b := by
  rw [List.take_add_one, h]
  simp
theorem flatB_len {xs : List Pc} (k : Nat) : ((xs.take k).flatMap Pc.b).length ≤ (xs.flatMap Pc.b).length := by
  conv => rhs; rw [← List.take_append_drop k xs, List.flatMap_append, List.length_append]
  omega
theorem info_pcs : (Tryz.prog.info? 81).map (·.size) = some 2 := by kernel_rfl
theorem pcBytes {A : Option Addr} {n c : Nat} {xs : List Pc} {out : List (Int × List UInt8)} (h : PcsAt w A n R xs out) (hn : n ≤ 100000) (hnc : n ≤ c) (hcap : c ≤ 9223372036854775807) (hb : (xs.flatMap Pc.b).length ≤ 1000000) :
    Calls Tryz.prog 33 #[.slice A n c] w fun e w' => ∃ A' c', e = .returned (.slice A' (xs.flatMap Pc.b).length c') ∧ Hid (Body w' w.heap.size (.slice A' (xs.flatMap Pc.b).length c') (xs.flatMap Pc.b)) ∧ Hid (Only (fun _ => False) w w') := by
  have H := Lib.hid h
  have HL : Hid (n = xs.length) := h.len
  have HBd := Lib.hid hb
  clear h hb
  go_enter Tryz.func33, Tryz.ntmps33
  go_wp2
  go_loopw [3, 8] (fun a i W => ∃ (k : Nat) (B : Option Addr) (m cb : Nat), k ≤ n ∧ a = .slice B m cb ∧ i = .int .i64 (k : Int) ∧ Hid (m = ((xs.take k).flatMap Pc.b).length ∧ Body W w.heap.size (.slice B m cb) ((xs.take k).flatMap Pc.b) ∧ Only (fun _ => False) w W)) (fun _ i _ => n - (intOf i).toNat)
  case atStart => exact ⟨0, _, 0, 0, Nat.zero_le _, rfl, rfl, rfl, own_nil _ _ _ _, Only.refl _ _⟩
  case round =>
    obtain ⟨k, B, m, cb, hk, rfl, rfl, hrel⟩ := hrel
    by_cases hlt : k < n
    · have hlt2 : (k : Int) < (n : Int) := by omega
      obtain ⟨x, hx⟩ : ∃ x, xs[k]? = some x := ⟨_, List.getElem?_eq_getElem (by have := HL.out; omega)⟩
      obtain ⟨g, rfl, hg, hr⟩ := (H.out.same hrel.out.2.2).at_ k x hx
      obtain ⟨Ax, nx, cx, e1, e2, e3, e4, _⟩ := (H.out.same hrel.out.2.2).ok x (List.mem_of_getElem? hx)
      have HTk := Lib.hid (flatB_take hx)
      have hbx : ((xs.take k).flatMap Pc.b).length + nx ≤ 1000000 := by
        have h1 := flatB_len (xs := xs) (k + 1)
        rw [HTk.out, List.length_append, e2.1] at h1
        have := HBd.out
        omega
      obtain ⟨kx, vx, bx⟩ := x
      simp only at e1 e2 HTk
      subst e1
      have HRg : Hid (wr.rangeAt g (k * 2) [.int .i64 kx, .slice Ax nx cx]) := hr
      have HSx : Hid (∀ W, Only (fun _ => False) wr W → Src W Ax nx bx) := fun W ho => e2.only ho (fun _ _ _ h => h)
      have hm := hrel.out.1
      obtain ⟨bs, hbs⟩ : ∃ bs, bs = (xs.take k).flatMap Pc.b := ⟨_, rfl⟩
      rw [← hbs] at HTk hbx hm
      have HBy : Hid (∀ W, Only (fun _ => False) wr W → Body W w.heap.size (.slice B m cb) bs) := fun W ho => by rw [hbs]; exact Body.same hrel.out.2.1 ho
      have HO : Hid (Only (fun _ => False) w wr) := hrel.out.2.2
      have HM := Lib.hid hm
      have HNx : Hid (nx = bx.length) := e2.1.symm
      clear hx hr e2 hrel hm hbs
      go_wp2_with (first
        | ((with_reducible show wpList _ _ _ (⟨some 11, .load _ _, _, _, _, _⟩ :: _) _ _); refine wpList_load_mid rfl 81 _ rfl g (k * 2) rfl [.int .i64 kx, .slice Ax nx cx] _ HRg.out Tryz.underlying81 rfl info_pcs ?_)
        | ((with_reducible show wpList _ _ _ (⟨some 15, _, _, _, _, _⟩ :: _) _ _); refine step_bytes rfl (.tmp 12) (.tmp 14) rfl w.heap.size B m cb bs rfl (HBy.out _ ((Only.refl _ _).alloc _)) HM.out Ax nx cx bx rfl (HSx.out _ ((Only.refl _ _).alloc _)) (by have := HM.out; omega) (by have := HO.out.size; simp; omega) ?_; intro A7 c7 w7 hb7 ho7; have HB7 := hb7; have HO7 : Hid (Only (fun _ => False) w w7) := (HO.out.alloc _).trans ho7.out (fun i hi => .inr hi); clear hb7 ho7))
      go_roundw
      case rel => exact ⟨k + 1, A7, m + nx, c7, by omega, rfl, by go_num, by rw [HTk.out, List.length_append, HM.out, HNx.out], by rw [HTk.out]; exact HB7.out, HO7.out⟩
      case measure => simp [intOf]; omega
    · obtain rfl : k = n := by omega
      have hF : Hid ((xs.take k).flatMap Pc.b = xs.flatMap Pc.b) := by
        show _ = _
        rw [List.take_of_length_le (by have := HL.out; omega)]
      go_wp2
      go_ret
      obtain ⟨h1, h2, h3⟩ := hrel.out
      rw [hF.out] at h1 h2
      subst h1
      exact ⟨B, cb, rfl, h2, h3⟩
end
end Go.Proofs.YtbnfhklpobephaaGreatDoor
/- The law's config, and the chapter's example. -/
namespace Go.Proofs.YtbnfhklpobephaaGreatDoor
open Go Go.RowKit
set_option maxRecDepth 100000
set_option maxHeartbeats 4000000

theorem StAt.nil (w : World) (A : Option Addr) : StAt w A 0 [] := ⟨rfl, fun i x h => by simp at h⟩
def vt : List UInt8 := [118, 116, 49, 48, 48]
theorem vt_src {w : World} {N : Nat} (h : Blk w N 9 [.string ⟨#[118, 116, 49, 48, 48]⟩]) : TSrc w (some ⟨N, 0, none⟩) 1 [vt] := TSrc.of_blk h rfl (fun j x hj => by
    match j, hj with
    | 0, hj =>
      simp only [List.getElem?_cons_zero, Option.some.injEq] at hj
      subst hj
      rfl
    | j + 1, hj => simp at hj)
theorem enSmall (w : World) (A : Option Addr) (n c : Nat) :
    Calls Tryz.prog 31 #[.slice A n c] w fun e w' => ∃ N, e = .returned (.agg (ecC A n c A n c 80 24 (some ⟨N, 0, none⟩) 1 1 none 0 0 27).toArray) ∧ Hid (TSrc w' (some ⟨N, 0, none⟩) 1 [vt]) ∧ Hid (Only (fun _ => False) w w') := by
  go_enter Tryz.func31, Tryz.ntmps31
  go_wp2
  have hB := (Blk.new w 32 (ecC A n c A n c 80 24 (some ⟨w.heap.size + 1, 0, none⟩) 1 1 none 0 0 27)).alloc (.cells #[.string ⟨#[118, 116, 49, 48, 48]⟩] 9)
  refine ret_cell1 rfl w.heap.size rfl _ (ecC A n c A n c 80 24 (some ⟨w.heap.size + 1, 0, none⟩) 1 1 none 0 0 27) _ hB Tryz.underlying32 rfl size_ec rfl ?_
  exact ⟨w.heap.size + 1, rfl, vt_src (Blk.new' _ 9 [.string ⟨#[118, 116, 49, 48, 48]⟩] (by simp)), ((Only.refl _ _).alloc _).alloc _⟩
/-- An end that a law made itself, whatever was done to it since. -/
def EnL (w W : World) (es : List Addr) (p : Nat) (ag : Nat → Nat → Bool) (E : Ee) : Prop := ∃ M R, IsEe W p 0 132 [] [] M R ag E ∧ Only (fun _ => False) w W ∧ (∀ i, M i → w.heap.size ≤ i) ∧ ErrsAt W es ∧ TbW W
section
variable {w W W' : World} {es : List Addr} {p : Nat} {ag : Nat → Nat → Bool} {E E' : Ee}
theorem EnL.same (h : EnL w W es p ag E) (ho : Only (fun _ => False) W W') : EnL w W' es p ag E := by
  obtain ⟨M, R, h1, h2, h3, h4, h5⟩ := h
  exact ⟨M, R, h1.same ho, h2.trans ho (fun _ h => h.elim), h3, h4.only ho, h5.only ho⟩
theorem EnL.old (h : EnL w W es p ag E) : Only (fun _ => False) w W := by
  obtain ⟨M, R, h1, h2, h3, h4, h5⟩ := h
  exact h2
theorem EnL.goes {M R : Nat → Prop} (h1 : IsEe W p 0 132 [] [] M R ag E) (h2 : Only (fun _ => False) w W) (h3 : ∀ i, M i → w.heap.size ≤ i) (h4 : ErrsAt W es) (h5 : TbW W) (g : EnGoes W.heap.size W p 0 132 [] [] M R ag E' W') : EnL w W' es p ag E' := by
  have he := g.errs h1 h4
  have ht := g.tbw h1 h5
  obtain ⟨M', R', k', g'⟩ := g
  have hz := h2.size
  exact ⟨M', R', k', h2.trans g'.only (fun i hi => .inr (h3 i hi)), fun i hi => (g'.gm i hi).elim (h3 i) (fun h => Nat.le_trans hz h), he, ht⟩
theorem EnL.feed (h : EnL w W es p ag E) (hv : VOk E.k.m) (hl : E.Lo) (c : UInt8) (mark : Bool) :
    Calls Tryz.prog 23 #[.pointer (some ⟨p, 0, none⟩), .int .u8 (c.toNat : Int), .bool mark] W fun e w' => ∃ A1 n1 c1 A2 n2 c2, e = .returned (.tuple #[.slice A1 n1 c1, .slice A2 n2 c2]) ∧ Hid (EnL w w' es p ag (E.feed ag c mark).1 ∧ Src w' A1 n1 (E.feed ag c mark).2.1 ∧ NtAt w' A2 n2 (E.feed ag c mark).2.2) := by
  obtain ⟨M, R, h1, h2, h3, h4, h5⟩ := h
  refine (enFeed h1 h4 h5 hv hl c mark).mono ?_
  rintro e w' ⟨v1, v2, rfl, hf⟩
  obtain ⟨A1, n1, c1, rfl, hs, _⟩ := hf.out.dat
  obtain ⟨A2, n2, c2, rfl, hn, _⟩ := hf.out.nts
  exact ⟨A1, n1, c1, A2, n2, c2, rfl, EnL.goes h1 h2 h3 h4 h5 hf.out.en, hs, hn⟩
theorem EnL.take (h : EnL w W es p ag E) :
    Calls Tryz.prog 28 #[.pointer (some ⟨p, 0, none⟩)] W fun e w' => ∃ A n c, e = .returned (.slice A n c) ∧ Hid (EnL w w' es p ag E.take ∧ ∃ R xs, PcsAt w' A n R xs E.out ∧ n ≤ c ∧ c ≤ 9223372036854775807) := by
  obtain ⟨M, R, h1, h2, h3, h4, h5⟩ := h
  refine (enTake h1).mono ?_
  rintro e w' ⟨A, n, c, rfl, hf⟩
  obtain ⟨k', ho, xs, hx⟩ := hf.out
  exact ⟨A, n, c, rfl, EnL.goes h1 h2 h3 h4 h5 (EnGoes.own h1 k' ho), R, xs, hx⟩
theorem EnL.deaf (h : EnL w W es p ag E) : Calls Tryz.prog 32 #[.pointer (some ⟨p, 0, none⟩)] W fun e w' => e = .returned (.bool E.k.deaf) ∧ w' = W := by
  obtain ⟨M, R, h1, h2, h3, h4, h5⟩ := h
  exact enDeaf h1
end
/-- The law's end. -/
def H20 : Hs := Hs.new 80 24 [vt] [] 27
theorem enMake {w : World} {es : List Addr} (hes : ErrsAt w es) (hT : TbW w) (h18 : 18 ≤ w.heap.size) {A : Option Addr} {n c N : Nat} {zs : List Int} (hz : Ints w A n zs) (hn : n ≤ 1000) (hN : TSrc w (some ⟨N, 0, none⟩) 1 [vt]) :
    Calls Tryz.prog 9 #[.agg (ecC A n c A n c 80 24 (some ⟨N, 0, none⟩) 1 1 none 0 0 27).toArray] w fun e w' => ∃ p, e = .returned (.tuple #[.pointer (some ⟨p, 0, none⟩), .nilIface]) ∧ Hid (EnL w w' es p (agOf zs zs) (Ee.zero H20)) := by
  refine (enNew_ok (cc := 80) (cr := 24) (can := 27) (cA := 1) (c1 := c) (c2 := c) hz hz hn hn hN (StAt.nil w none) (Nat.le_refl 0) (by omega) (by decide) h18).mono ?_
  rintro e w' ⟨p, q, rfl, h1, h2⟩
  obtain ⟨k1, k2, _⟩ := h1.out
  exact ⟨p, rfl, _, _, k1, h2.out, fun i hi => (by omega), hes.only h2.out, hT.only h2.out⟩
@[reducible] def ag0 : Nat → Nat → Bool := agOf [0] [0]
def E00 : Ee := Ee.zero H20
def E01 : Ee := (E00.feed ag0 255 false).1
def E02 : Ee := (E01.feed ag0 251 false).1
def E03 : Ee := (E02.feed ag0 0 false).1
theorem lo_of {E : Ee} (h : (Nat.ble E.out.length 99990 && (Nat.ble E.sent 1000000 && (Nat.ble E.heard 1000000 && (Nat.ble E.asked 1000000 && (Nat.ble E.T.sent 1000000 && (Nat.ble E.T.heard 1000000 && Nat.ble E.T.asked 1000000)))))) = true) : E.Lo := by
  simp only [Bool.and_eq_true, Nat.ble_eq] at h
  exact ⟨h.1, h.2.1, h.2.2.1, h.2.2.2.1, h.2.2.2.2.1, h.2.2.2.2.2.1, h.2.2.2.2.2.2⟩
theorem lo0 : E00.Lo := lo_of (by kernel_rfl)
theorem lo1 : E01.Lo := lo_of (by kernel_rfl)
theorem lo2 : E02.Lo := lo_of (by kernel_rfl)
theorem notes3 : (E02.feed ag0 0 false).2.2 = [⟨3, 0, 1, 0, true⟩] := by kernel_rfl
theorem out3 : E03.out = [(3, [255, 253, 0])] := by kernel_rfl
theorem vok0 : VOk E00.k.m := VOk.zero
theorem Ee.turn_k (E : Ee) (s o : Int) : (E.turn s o).k = E.k := Ee.sendS_k _ _
theorem Ee.heardT_k (ag : Nat → Nat → Bool) (E : Ee) (v o : Nat) : (E.heardT ag v o).k = E.k := Ee.sendV_k _ _
theorem Ee.mark_k (E : Ee) (v : Int) : (E.hearMark v).k = E.k := by
  unfold Ee.hearMark
  split
  · exact Ee.sendV_k _ _
  · rfl
theorem Ee.verb_k (ag : Nat → Nat → Bool) (E : Ee) (v o : Nat) : (E.hearVerb ag v o).1.k = E.k := by
  unfold Ee.hearVerb
  split
  · exact Ee.mark_k _ _
  · show (if E.verbTurns ag v o then (E.heardT ag v o).turn (sideV v) o else E.heardT ag v o).k = E.k
    split
    · rw [Ee.turn_k, Ee.heardT_k]
    · rw [Ee.heardT_k]
theorem Ee.sub_k (E : Ee) (o : Int) (cut : Bool) (b : List UInt8) : (E.hearSub o cut b).1.k = E.k := by
  unfold Ee.hearSub
  split
  · exact Ee.sendS_k _ _
  · rfl
theorem Ee.tok_k (ag : Nat → Nat → Bool) (E : Ee) (t : Tk) : (Ee.tok ag E t).1.k = E.k := by
  unfold Ee.tok
  split
  · rfl
  split
  · show (if t.code = 246 then E.send 2 (tkBytes (tk2 241)) else E).k = E.k
    split
    · exact Ee.send_k _ _
    · rfl
  split
  · exact Ee.verb_k _ _ _ _
  split
  · exact Ee.sub_k _ _ _ _
  · rfl
theorem feed_k (ag : Nat → Nat → Bool) (E : Ee) (c : UInt8) (mark : Bool) : (E.feed ag c mark).1.k = (feed9 E.k ⟨c, mark, E.on 1 0⟩).1 := by
  unfold Ee.feed
  cases h : feed9 E.k ⟨c, mark, E.on 1 0⟩ with
  | mk k o =>
    cases o with
    | none => rfl
    | some t => exact Ee.tok_k _ _ _
theorem feed_vk {ag : Nat → Nat → Bool} {E : Ee} (h : VOk E.k.m) (c : UInt8) (mark : Bool) : VOk (E.feed ag c mark).1.k.m := by
  rw [feed_k]
  exact (feed9_vok h _).1
theorem vok1 : VOk E01.k.m := feed_vk vok0 _ _
theorem vok2 : VOk E02.k.m := feed_vk vok1 _ _
theorem note_at {w : World} {A : Option Addr} {n : Nat} {x : Nt} (h : NtAt w A n [x]) : n = 1 ∧ ∃ b off, A = some ⟨b, off, none⟩ ∧ w.rangeAt b off x.cs := by
  refine ⟨h.1.symm, ?_⟩
  obtain ⟨b, off, e, _, hr⟩ := h.2 0 x rfl
  exact ⟨b, off, e, by simpa using hr⟩
theorem flat_of {xs : List Pc} {out : List (Int × List UInt8)} (h : xs.map (fun x => (x.k, x.b)) = out) : xs.flatMap Pc.b = out.flatMap Prod.snd := by
  subst h
  induction xs with
  | nil => rfl
  | cons x xs ih => simp only [List.flatMap_cons, List.map_cons, ih]
theorem enAlive {w : World} {es : List Addr} (hes : ErrsAt w es) (hT : TbW w) (h18 : 18 ≤ w.heap.size) : Calls Tryz.prog 7 #[] w fun e w' => e = .returned (.bool true) ∧ Only (fun _ => False) w w' := by
  have HSm := Lib.hid enSmall
  have HO1 : Hid (Only (fun _ => False) w (w.alloc (.cells #[.int .i64 0] 3))) := (Only.refl _ _).alloc _
  have hI : Ints (w.alloc (.cells #[.int .i64 0] 3)) (some ⟨w.heap.size, 0, none⟩) 1 [0] := by
    refine ⟨rfl, fun _ => ⟨_, rfl, fun j z hz => ?_⟩⟩
    match j, hz with
    | 0, hz =>
      simp only [List.getElem?_cons_zero, Option.some.injEq] at hz
      subst hz
      exact (Blk.new w 3 [.int .i64 0]).cell 0
    | j + 1, hz => simp at hz
  have HMk : Hid (∀ W N, Only (fun _ => False) (w.alloc (.cells #[.int .i64 0] 3)) W → TSrc W (some ⟨N, 0, none⟩) 1 [vt] → Calls Tryz.prog 9 #[.agg (ecC (some ⟨w.heap.size, 0, none⟩) 1 1 (some ⟨w.heap.size, 0, none⟩) 1 1 80 24 (some ⟨N, 0, none⟩) 1 1 none 0 0 27).toArray] W fun e w' => ∃ p, e = .returned (.tuple #[.pointer (some ⟨p, 0, none⟩), .nilIface]) ∧ Hid (EnL W w' es p ag0 E00)) := fun W N ho hN => by
    have ho' := HO1.out.trans ho (fun _ h => h.elim)
    exact enMake (hes.only ho') (hT.only ho') (Nat.le_trans h18 ho'.size) (hI.same ho) (by omega) hN
  have HF1 : Hid (∀ W W0 p, EnL W0 W es p ag0 E00 → Calls Tryz.prog 23 #[.pointer (some ⟨p, 0, none⟩), .int .u8 255, .bool false] W fun e w' => ∃ A1 n1 c1 A2 n2 c2, e = .returned (.tuple #[.slice A1 n1 c1, .slice A2 n2 c2]) ∧ Hid (EnL W0 w' es p ag0 E01)) := fun W W0 p h => (h.feed vok0 lo0 255 false).mono (fun e w' ⟨A1, n1, c1, A2, n2, c2, h1, h2⟩ => ⟨A1, n1, c1, A2, n2, c2, h1, h2.out.1⟩)
  have HF2 : Hid (∀ W W0 p, EnL W0 W es p ag0 E01 → Calls Tryz.prog 23 #[.pointer (some ⟨p, 0, none⟩), .int .u8 251, .bool false] W fun e w' => ∃ A1 n1 c1 A2 n2 c2, e = .returned (.tuple #[.slice A1 n1 c1, .slice A2 n2 c2]) ∧ Hid (EnL W0 w' es p ag0 E02)) := fun W W0 p h => (h.feed vok1 lo1 251 false).mono (fun e w' ⟨A1, n1, c1, A2, n2, c2, h1, h2⟩ => ⟨A1, n1, c1, A2, n2, c2, h1, h2.out.1⟩)
  have HF3 : Hid (∀ W W0 p, EnL W0 W es p ag0 E02 → Calls Tryz.prog 23 #[.pointer (some ⟨p, 0, none⟩), .int .u8 0, .bool false] W fun e w' => ∃ A1 n1 c1 b off c2, e = .returned (.tuple #[.slice A1 n1 c1, .slice (some ⟨b, off, none⟩) 1 c2]) ∧ Hid (EnL W0 w' es p ag0 E03 ∧ w'.rangeAt b off (Nt.cs ⟨3, 0, 1, 0, true⟩))) := fun W W0 p h => (h.feed vok2 lo2 0 false).mono (fun e w' ⟨A1, n1, c1, A2, n2, c2, h1, h2⟩ => by
    have hn := h2.out.2.2
    rw [notes3] at hn
    obtain ⟨rfl, b, off, rfl, hr⟩ := note_at hn
    exact ⟨A1, n1, c1, b, off, c2, h1, h2.out.1, hr⟩)
  have HTk : Hid (∀ W W0 p, EnL W0 W es p ag0 E03 → Calls Tryz.prog 28 #[.pointer (some ⟨p, 0, none⟩)] W fun e w' => ∃ A n c, e = .returned (.slice A n c) ∧ Hid (Only (fun _ => False) W0 w' ∧ ∃ R xs, PcsAt w' A n R xs [(3, [255, 253, 0])] ∧ n ≤ c ∧ c ≤ 9223372036854775807)) := fun W W0 p h => h.take.mono (fun e w' ⟨A, n, c, h1, h2⟩ => by
    obtain ⟨k, R, xs, hx⟩ := h2.out
    rw [out3] at hx
    exact ⟨A, n, c, h1, k.old, R, xs, hx⟩)
  have HBy : Hid (∀ W (A : Option Addr) n c, (∃ R xs, PcsAt W A n R xs [(3, [255, 253, 0])] ∧ n ≤ c ∧ c ≤ 9223372036854775807) → Calls Tryz.prog 33 #[.slice A n c] W fun e w' => ∃ A' c', e = .returned (.slice A' 3 c') ∧ Hid (Body w' W.heap.size (.slice A' 3 c') [255, 253, 0]) ∧ Hid (Only (fun _ => False) W w')) := fun W A n c ⟨R, xs, hx, h1, h2⟩ => by
    have hf : xs.flatMap Pc.b = [255, 253, 0] := flat_of hx.out
    have hl : xs.length = 1 := by have := congrArg List.length hx.out; simpa using this
    have := pcBytes hx (by have := hx.len; omega) h1 h2 (by rw [hf]; decide)
    rw [hf] at this
    exact this
  clear hes hT h18 hI
  go_enter Tryz.func7, Tryz.ntmps7
  go_wp2_with (first
    | (go_at_call 31; (with_reducible refine (HSm.out _ _ _ _).mono ?_); rintro e w1 ⟨N1, rfl, hn1, ho1⟩; have HN1 := hn1; have HO2 := ho1; clear hn1 ho1)
    | (go_at_call 9; (with_reducible refine (HMk.out _ _ HO2.out HN1.out).mono ?_); rintro e w2 ⟨p, rfl, hk2⟩; have HK2 := hk2; clear hk2)
    | (go_at_call 23; (with_reducible refine (HF1.out _ _ _ HK2.out).mono ?_); rintro e w3 ⟨A1, n1, c1, A2, n2, c2, rfl, hk3⟩; have HK3 := hk3; clear hk3 HK2)
    | (go_at_call 23; (with_reducible refine (HF2.out _ _ _ HK3.out).mono ?_); rintro e w4 ⟨A3, n3, c3, A4, n4, c4, rfl, hk4⟩; have HK4 := hk4; clear hk4 HK3)
    | (go_at_call 23; (with_reducible refine (HF3.out _ _ _ HK4.out).mono ?_); rintro e w5 ⟨A5, n5, c5, b, off, c6, rfl, hk5⟩; have HK5 := hk5; clear hk5 HK4; have d0 : w5.cell? ⟨b, off, none⟩ = some (.int .i64 3) := HK5.out.2 0 _ rfl; have d4 : w5.cell? ⟨b, off + 4, none⟩ = some (.bool true) := HK5.out.2 4 _ rfl)
    | (go_at_call 28; (with_reducible refine (HTk.out _ _ _ HK5.out.1).mono ?_); rintro e w6 ⟨A7, n7, c7, rfl, hk6⟩; have HK6 := hk6; clear hk6)
    | (go_at_call 33; (with_reducible refine (HBy.out _ _ _ _ HK6.out.2).mono ?_); rintro e w7 ⟨A8, c8, rfl, hb8, ho8⟩; have hT := (Body.src hb8.out rfl).texts c8 w7 (Only.refl _ _); rw [show ([255, 253, 0] : List UInt8).toArray = #[255, 253, 0] from rfl] at hT; have HO8 := ho8; clear hb8 ho8))
  go_ret
  exact ⟨rfl, HO1.out.trans ((HO2.out.trans HK6.out.1 (fun _ h => h.elim)).trans HO8.out (fun _ h => h.elim)) (fun _ h => h.elim)⟩
end Go.Proofs.YtbnfhklpobephaaGreatDoor
/- EndDeaf, walked. -/
namespace Go.Proofs.YtbnfhklpobephaaGreatDoor
open Go Go.RowKit
set_option maxRecDepth 100000
set_option maxHeartbeats 4000000

/-- An end to which only bytes came that its cleaner took. -/
def EK (k : Cl) : Ee := { E00 with k := k }
theorem EK.lo (k : Cl) : (EK k).Lo := ⟨lo0.out, lo0.sent, lo0.heard, lo0.asked, lo0.tsent, lo0.theard, lo0.tasked⟩
theorem feed_data (c : UInt8) (h : c.toNat ≠ 255) : feed Ms.zero c = (.zero, some ⟨1, (c.toNat : Int), 0, [], false⟩) := if_neg h
theorem vok_of {k : Cl} (h : k.m = Ms.zero) : VOk k.m := by rw [h]; exact VOk.zero
theorem ek_deaf (ag : Nat → Nat → Bool) {k : Cl} (hm : k.m = Ms.zero) (c : UInt8) (hc : c.toNat ≠ 255) (mark : Bool) (hd : (k.deaf || mark) = true) : ∃ k', (EK k).feed ag c mark = (EK k', [], []) ∧ k'.m = Ms.zero ∧ k'.deaf = true := by
  have h9 : feed9 k ⟨c, mark, (EK k).on 1 0⟩ = (⟨.zero, true, k.bh⟩, none) := by
    unfold feed9
    rw [hm, feed_data c hc]
    simp [hd, isDM, stays9, behind9, isData]
  refine ⟨⟨.zero, true, k.bh⟩, ?_, rfl, rfl⟩
  unfold Ee.feed
  have h9' : feed9 (EK k).k ⟨c, mark, (EK k).on 1 0⟩ = (⟨.zero, true, k.bh⟩, none) := h9
  rw [h9']
  rfl
theorem ek_cmd (ag : Nat → Nat → Bool) {k : Cl} (hm : k.m = Ms.zero) : (EK k).feed ag 255 false = (EK ⟨Ms.zero.to 1, k.deaf, k.bh⟩, [], []) := by
  have h9 : feed9 (EK k).k ⟨255, false, (EK k).on 1 0⟩ = (⟨Ms.zero.to 1, k.deaf, k.bh⟩, none) := by
    show feed9 k _ = _
    unfold feed9
    rw [hm, show feed Ms.zero 255 = (Ms.zero.to 1, none) from rfl]
    simp
  unfold Ee.feed
  rw [h9]
  rfl
theorem ek_dm (ag : Nat → Nat → Bool) (d bh : Bool) : (EK ⟨Ms.zero.to 1, d, bh⟩).feed ag 242 false = (EK ⟨Ms.zero, false, bh⟩, [], [⟨1, 242, 0, 0, false⟩]) := by
  have h9 : feed9 (EK ⟨Ms.zero.to 1, d, bh⟩).k ⟨242, false, (EK ⟨Ms.zero.to 1, d, bh⟩).on 1 0⟩ = (⟨Ms.zero, false, bh⟩, some ⟨2, 242, 0, [], false⟩) := by
    show feed9 ⟨Ms.zero.to 1, d, bh⟩ _ = _
    unfold feed9
    rw [show feed (⟨Ms.zero.to 1, d, bh⟩ : Cl).m 242 = (Ms.zero, some ⟨2, 242, 0, [], false⟩) from rfl]
    simp [isDM, stays9, behind9, isData]
  unfold Ee.feed
  rw [h9]
  rfl
theorem ek_data (ag : Nat → Nat → Bool) {k : Cl} (hm : k.m = Ms.zero) (hd : k.deaf = false) (c : UInt8) (hc : c.toNat ≠ 255) (h0 : c.toNat ≠ 0) : ∃ k', (EK k).feed ag c false = (EK k', [c], []) ∧ k'.m = Ms.zero ∧ k'.deaf = false := by
  obtain ⟨b, h9⟩ : ∃ b, feed9 (EK k).k ⟨c, false, (EK k).on 1 0⟩ = (⟨.zero, false, b⟩, some ⟨1, (c.toNat : Int), 0, [], false⟩) := by
    show ∃ b, feed9 k _ = _
    unfold feed9
    rw [hm, feed_data c hc]
    simp [hd, isDM, stays9, isData]
    exact fun _ h => absurd h h0
  refine ⟨⟨.zero, false, b⟩, ?_, rfl, rfl⟩
  unfold Ee.feed
  rw [h9]
  show (EK ⟨.zero, false, b⟩, [b8 (c.toNat : Int)], []) = _
  rw [show b8 (c.toNat : Int) = c from by unfold b8; simp]

theorem endDeaf_any {w : World} {es : List Addr} (hes : ErrsAt w es) (hT : TbW w) (h18 : 18 ≤ w.heap.size) {A A1 A2 : Option Addr} {n c n1 c1 n2 c2 : Nat} {zs : List Int} {xs ys : List UInt8} (hz : Ints w A n zs) (hx : Src w A1 n1 xs) (hy : Src w A2 n2 ys) :
    Calls Tryz.prog 5 #[.slice A n c, .slice A1 n1 c1, .slice A2 n2 c2] w (Fine w) := by
  have HAl := Lib.hid (enAlive hes hT h18)
  by_cases hlen : n ≤ 40 ∧ n1 ≤ 100 ∧ n2 ≤ 100
  · obtain ⟨l1, l2, l3⟩ := hlen
    have d1 : decide ((40 : Int) < (n : Int)) = false := by simp; omega
    have d2 : decide ((100 : Int) < (n1 : Int)) = false := by simp; omega
    have d3 : decide ((100 : Int) < (n2 : Int)) = false := by simp; omega
    have HSm := Lib.hid enSmall
    have HMk : Hid (∀ W N, Only (fun _ => False) w W → TSrc W (some ⟨N, 0, none⟩) 1 [vt] → Calls Tryz.prog 9 #[.agg (ecC A n c A n c 80 24 (some ⟨N, 0, none⟩) 1 1 none 0 0 27).toArray] W fun e w' => ∃ p, e = .returned (.tuple #[.pointer (some ⟨p, 0, none⟩), .nilIface]) ∧ Hid (EnL W w' es p (agOf zs zs) E00)) := fun W N ho hN =>
      enMake (hes.only ho) (hT.only ho) (Nat.le_trans h18 ho.size) (hz.same ho) (by omega) hN
    have HX := Lib.hid hx
    have HY := Lib.hid hy
    obtain ⟨ag, hag⟩ : ∃ ag, ag = agOf zs zs := ⟨_, rfl⟩
    rw [← hag] at HMk
    have HFd : Hid (∀ W w0 p (k k' : Cl) (b : UInt8) (mark : Bool) (ds : List UInt8) (ns : List Nt), EnL w0 W es p ag (EK k) → VOk k.m → (EK k).feed ag b mark = (EK k', ds, ns) → Calls Tryz.prog 23 #[.pointer (some ⟨p, 0, none⟩), .int .u8 (b.toNat : Int), .bool mark] W fun e w' => ∃ B1 m1 e1 B2 m2 e2, e = .returned (.tuple #[.slice B1 m1 e1, .slice B2 m2 e2]) ∧ Hid (EnL w0 w' es p ag (EK k') ∧ Src w' B1 m1 ds ∧ NtAt w' B2 m2 ns)) := fun W w0 p k k' b mark ds ns h hv he => by
      have := h.feed hv (EK.lo k) b mark
      rw [he] at this
      exact this
    have hxl := hx.1
    have hyl := hy.1
    clear hes hT h18 hz hx hy hag l1
    go_enter Tryz.func5, Tryz.ntmps5
    go_wp2_with (first
      | (go_at_call 7; (with_reducible refine HAl.out.mono ?_); rintro e w1 ⟨rfl, ho1⟩; have HO1 := Lib.hid ho1; clear ho1)
      | (go_at_call 31; (with_reducible refine (HSm.out _ _ _ _).mono ?_); rintro e w2 ⟨N1, rfl, hn1, ho2⟩; have HN1 := hn1; have HO2 : Hid (Only (fun _ => False) w w2) := HO1.out.trans ho2.out (fun _ h => h.elim); clear hn1 ho2)
      | (go_at_call 9; (with_reducible refine (HMk.out _ _ HO2.out HN1.out).mono ?_); rintro e w3 ⟨p, rfl, hk3⟩; have HK3 := hk3; clear hk3))
    go_loopw [9, 49] (fun hd i W => ∃ (k : Nat) (kk : Cl), k ≤ n1 ∧ hd = .int .i64 0 ∧ i = .int .i64 (k : Int) ∧ Hid (EnL w2 W es p ag (EK kk) ∧ kk.m = Ms.zero ∧ kk.deaf = decide (0 < k))) (fun _ i _ => n1 - (intOf i).toNat)
    case atStart => exact ⟨0, Cl.zero, Nat.zero_le _, rfl, rfl, HK3.out, rfl, rfl⟩
    case round =>
      obtain ⟨k, kk, hk, rfl, rfl, hrel⟩ := hrel
      have hO : Only (fun _ => False) w wr := HO2.out.trans hrel.out.1.old (fun _ h => h.elim)
      by_cases hlt : k < n1
      · have hlt2 : (k : Int) < (n1 : Int) := by omega
        obtain ⟨x, hx⟩ : ∃ x, xs[k]? = some x := ⟨_, List.getElem?_eq_getElem (by rw [hxl]; omega)⟩
        obtain ⟨ad, rfl, hcell⟩ := (HX.out.only hO (fun _ _ _ h => h)).2 (by omega)
        have c0 := hcell k x hx
        unfold B8 at c0
        by_cases h255 : x.toNat = 255
        · have hc : ((x.toNat : Int) == 255) = true := by simp; omega
          have HO := Lib.hid hO
          clear hcell hO hx h255
          go_wp2
          go_ret
          exact ⟨rfl, HO.out⟩
        · have hc : ((x.toNat : Int) == 255) = false := by simp; omega
          obtain ⟨mk, hmk⟩ : ∃ mk, mk = ((k : Int) == 0) := ⟨_, rfl⟩
          have hmk' : mk = decide (k = 0) := by rw [hmk, Bool.eq_iff_iff]; simp
          obtain ⟨k', hf, hm', hd'⟩ := ek_deaf ag hrel.out.2.1 x h255 mk (by rw [hrel.out.2.2, hmk']; simp; omega)
          have HF : Hid (Calls Tryz.prog 23 #[.pointer (some ⟨p, 0, none⟩), .int .u8 (x.toNat : Int), .bool mk] wr fun e w' => ∃ B1 e1 B2 m2 e2, e = .returned (.tuple #[.slice B1 0 e1, .slice B2 m2 e2]) ∧ Hid (EnL w2 w' es p ag (EK k'))) := (HFd.out wr w2 p kk k' x mk [] [] hrel.out.1 (vok_of hrel.out.2.1) hf).mono (fun e w' ⟨B1, m1, e1, B2, m2, e2, h1, h2⟩ => by
            obtain rfl : m1 = 0 := h2.out.2.1.1.symm
            exact ⟨B1, e1, B2, m2, e2, h1, h2.out.1⟩)
          have hmk2 : ((k : Int) == 0) = mk := hmk.symm
          have HM' := Lib.hid (And.intro hm' hd')
          clear hcell hO hx h255 hmk hmk' hf hm' hd' hrel
          go_wp2_with (first
            | (go_at_call 23; (with_reducible refine HF.out.mono ?_); rintro e w4 ⟨B1, e1, B2, m2, e2, rfl, hk4⟩; have HK4 := hk4; clear hk4))
          go_roundw
          case rel => exact ⟨k + 1, k', by omega, rfl, by go_num, HK4.out, HM'.out.1, by rw [HM'.out.2]; simp⟩
          case measure => simp [intOf]; omega
      · obtain rfl : k = n1 := by omega
        have HD : Hid (∀ W w' p, EnL w' W es p ag (EK kk) → Calls Tryz.prog 32 #[.pointer (some ⟨p, 0, none⟩)] W fun e w2 => e = .returned (.bool kk.deaf) ∧ w2 = W) := fun W w' p h => h.deaf
        have HF1 : Hid (∀ W, EnL w2 W es p ag (EK kk) → Calls Tryz.prog 23 #[.pointer (some ⟨p, 0, none⟩), .int .u8 255, .bool false] W fun e w' => ∃ B1 m1 e1 B2 m2 e2, e = .returned (.tuple #[.slice B1 m1 e1, .slice B2 m2 e2]) ∧ Hid (EnL w2 w' es p ag (EK ⟨Ms.zero.to 1, kk.deaf, kk.bh⟩))) := fun W h => (HFd.out W w2 p kk _ 255 false [] [] h (vok_of hrel.out.2.1) (ek_cmd ag hrel.out.2.1)).mono (fun e w' ⟨B1, m1, e1, B2, m2, e2, h1, h2⟩ => ⟨B1, m1, e1, B2, m2, e2, h1, h2.out.1⟩)
        have HF2 : Hid (∀ W, EnL w2 W es p ag (EK ⟨Ms.zero.to 1, kk.deaf, kk.bh⟩) → Calls Tryz.prog 23 #[.pointer (some ⟨p, 0, none⟩), .int .u8 242, .bool false] W fun e w' => ∃ B1 m1 e1 b off e2, e = .returned (.tuple #[.slice B1 m1 e1, .slice (some ⟨b, off, none⟩) 1 e2]) ∧ Hid (EnL w2 w' es p ag (EK ⟨Ms.zero, false, kk.bh⟩) ∧ w'.rangeAt b off (Nt.cs ⟨1, 242, 0, 0, false⟩))) := fun W h => (HFd.out W w2 p _ _ 242 false [] _ h (fun h => by cases h) (ek_dm ag _ _)).mono (fun e w' ⟨B1, m1, e1, B2, m2, e2, h1, h2⟩ => by
          obtain ⟨rfl, b, off, rfl, hr⟩ := note_at h2.out.2.2
          exact ⟨B1, m1, e1, b, off, e2, h1, h2.out.1, hr⟩)
        have HD2 : Hid (∀ W, EnL w2 W es p ag (EK ⟨Ms.zero, false, kk.bh⟩) → Calls Tryz.prog 32 #[.pointer (some ⟨p, 0, none⟩)] W fun e w2 => e = .returned (.bool false) ∧ w2 = W) := fun W h => h.deaf
        have HKr : Hid (EnL w2 wr es p ag (EK kk)) := hrel.out.1
        have hdf : kk.deaf = decide (0 < k) := hrel.out.2.2
        obtain ⟨df, hdf2⟩ : ∃ df, df = kk.deaf := ⟨_, rfl⟩
        rw [← hdf2] at hdf HD
        have key : decide ((0 : Int) < (k : Int)) = false ∨ (decide ((0 : Int) < (k : Int)) = true ∧ df = true) := by
          rw [hdf]
          by_cases h : 0 < k
          · exact .inr ⟨by simp; omega, by simp; omega⟩
          · exact .inl (by simp; omega)
        clear hdf hdf2 hrel hO hlt HK3
        obtain ⟨kb, hkb⟩ : ∃ kb, kb = (⟨Ms.zero, false, kk.bh⟩ : Cl) := ⟨_, rfl⟩
        have HKb : Hid (kb.m = Ms.zero ∧ kb.deaf = false) := by rw [hkb]; exact ⟨rfl, rfl⟩
        rw [← hkb] at HF2 HD2
        clear hkb
        rcases key with hpos | ⟨hpos, rfl⟩
        · have hpos2 : decide (0 < k) = false := by simpa using hpos
          clear HD
          go_wp2_with (first
            | (go_at_call 23; (with_reducible refine (HF1.out _ HKr.out).mono ?_); rintro e w5 ⟨B1, m1, e1, B2, m2, e2, rfl, hk5⟩; have HK5 := hk5; clear hk5)
            | (go_at_call 23; (with_reducible refine (HF2.out _ HK5.out).mono ?_); rintro e w6 ⟨B3, m3, e3, b, off, e4, rfl, hk6⟩; have HK6 := hk6; clear hk6; have q0 : w6.cell? ⟨b, off, none⟩ = some (.int .i64 1) := HK6.out.2 0 _ rfl; have q1 : w6.cell? ⟨b, off + 1, none⟩ = some (.int .i64 242) := HK6.out.2 1 _ rfl)
            | (go_at_call 32; (with_reducible refine (HD2.out _ HK6.out.1).mono ?_); rintro e w7 ⟨rfl, ew7⟩; subst w7))
          have HK7 : Hid (EnL w2 w6 es p ag (EK kb)) := HK6.out.1
          clear HK6 HF1 HF2 HD2
          try clear q0 q1
          go_loopw [114] (fun i W => ∃ (j : Nat) (kk : Cl), j ≤ n2 ∧ i = .int .i64 (j : Int) ∧ Hid (EnL w2 W es p ag (EK kk) ∧ kk.m = Ms.zero ∧ kk.deaf = false)) (fun i _ => n2 - (intOf i).toNat)
          case atStart => exact ⟨0, kb, Nat.zero_le _, rfl, HK7.out, HKb.out.1, HKb.out.2⟩
          case round =>
            clear HK7
            obtain ⟨j, kj, hj, rfl, hrel⟩ := hrel
            have hO : Only (fun _ => False) w wr := HO2.out.trans hrel.out.1.old (fun _ h => h.elim)
            by_cases hlt : j < n2
            · have hlt2 : (j : Int) < (n2 : Int) := by omega
              obtain ⟨x, hx⟩ : ∃ x, ys[j]? = some x := ⟨_, List.getElem?_eq_getElem (by rw [hyl]; omega)⟩
              obtain ⟨ad, rfl, hcell⟩ := (HY.out.only hO (fun _ _ _ h => h)).2 (by omega)
              have c0 := hcell j x hx
              unfold B8 at c0
              by_cases h255 : x.toNat = 255 ∨ x.toNat = 0
              · have HO := Lib.hid hO
                rcases h255 with h255 | h255
                · have hc : ((x.toNat : Int) == 255) = true := by simp; omega
                  clear hcell hO hx h255
                  go_wp2
                  go_ret
                  exact ⟨rfl, HO.out⟩
                · have hc : ((x.toNat : Int) == 255) = false := by simp; omega
                  have hc0 : ((x.toNat : Int) == 0) = true := by simp; omega
                  clear hcell hO hx h255
                  go_wp2
                  go_ret
                  exact ⟨rfl, HO.out⟩
              · have hc : ((x.toNat : Int) == 255) = false := by simp; omega
                have hc0 : ((x.toNat : Int) == 0) = false := by simp; omega
                obtain ⟨k', hf, hm', hd'⟩ := ek_data ag hrel.out.2.1 hrel.out.2.2 x (by omega) (by omega)
                have HF : Hid (Calls Tryz.prog 23 #[.pointer (some ⟨p, 0, none⟩), .int .u8 (x.toNat : Int), .bool false] wr fun e w' => ∃ g e1 B2 m2 e2, e = .returned (.tuple #[.slice (some g) 1 e1, .slice B2 m2 e2]) ∧ Hid (EnL w2 w' es p ag (EK k') ∧ w'.cell? g = some (.int .u8 (x.toNat : Int)))) := (HFd.out wr w2 p kj k' x false [x] [] hrel.out.1 (vok_of hrel.out.2.1) hf).mono (fun e w' ⟨B1, m1, e1, B2, m2, e2, h1, h2⟩ => by
                  obtain ⟨hl1, hl2⟩ := h2.out.2.1
                  obtain rfl : m1 = 1 := hl1.symm
                  obtain ⟨g, rfl, hg⟩ := hl2 (by omega)
                  have := hg 0 x rfl
                  rw [show g.add 0 = g from by simp [Addr.add]] at this
                  exact ⟨g, e1, B2, m2, e2, h1, h2.out.1, this⟩)
                have HM' := Lib.hid (And.intro hm' hd')
                clear hcell hO hx h255 hf hm' hd' hrel
                go_wp2_with (first
                  | (go_at_call 23; (with_reducible refine HF.out.mono ?_); rintro e w4 ⟨g4, e1, B2, m2, e2, rfl, hk4⟩; have HK4 := hk4.out.1; have cg := hk4.out.2; clear hk4))
                go_roundw
                case rel => exact ⟨j + 1, k', by omega, by go_num, HK4, HM'.out.1, HM'.out.2⟩
                case measure => simp [intOf]; omega
            · obtain rfl : j = n2 := by omega
              have HO := Lib.hid hO
              clear hO hrel
              go_wp2
              go_ret
              exact ⟨rfl, HO.out⟩
        · have hpos2 : decide (0 < k) = true := by simpa using hpos
          go_wp2_with (first
            | (go_at_call 32; (with_reducible refine (HD.out _ _ _ HKr.out).mono ?_); rintro e w7 ⟨rfl, ew7⟩; subst w7)
            | (go_at_call 23; (with_reducible refine (HF1.out _ HKr.out).mono ?_); rintro e w5 ⟨B1, m1, e1, B2, m2, e2, rfl, hk5⟩; have HK5 := hk5; clear hk5)
            | (go_at_call 23; (with_reducible refine (HF2.out _ HK5.out).mono ?_); rintro e w6 ⟨B3, m3, e3, b, off, e4, rfl, hk6⟩; have HK6 := hk6; clear hk6; have q0 : w6.cell? ⟨b, off, none⟩ = some (.int .i64 1) := HK6.out.2 0 _ rfl; have q1 : w6.cell? ⟨b, off + 1, none⟩ = some (.int .i64 242) := HK6.out.2 1 _ rfl)
            | (go_at_call 32; (with_reducible refine (HD2.out _ HK6.out.1).mono ?_); rintro e w7 ⟨rfl, ew7⟩; subst w7))
          have HK7 : Hid (EnL w2 w6 es p ag (EK kb)) := HK6.out.1
          clear HK6 HF1 HF2 HD HD2
          try clear q0 q1
          go_loopw [114] (fun i W => ∃ (j : Nat) (kk : Cl), j ≤ n2 ∧ i = .int .i64 (j : Int) ∧ Hid (EnL w2 W es p ag (EK kk) ∧ kk.m = Ms.zero ∧ kk.deaf = false)) (fun i _ => n2 - (intOf i).toNat)
          case atStart => exact ⟨0, kb, Nat.zero_le _, rfl, HK7.out, HKb.out.1, HKb.out.2⟩
          case round =>
            clear HK7
            obtain ⟨j, kj, hj, rfl, hrel⟩ := hrel
            have hO : Only (fun _ => False) w wr := HO2.out.trans hrel.out.1.old (fun _ h => h.elim)
            by_cases hlt : j < n2
            · have hlt2 : (j : Int) < (n2 : Int) := by omega
              obtain ⟨x, hx⟩ : ∃ x, ys[j]? = some x := ⟨_, List.getElem?_eq_getElem (by rw [hyl]; omega)⟩
              obtain ⟨ad, rfl, hcell⟩ := (HY.out.only hO (fun _ _ _ h => h)).2 (by omega)
              have c0 := hcell j x hx
              unfold B8 at c0
              by_cases h255 : x.toNat = 255 ∨ x.toNat = 0
              · have HO := Lib.hid hO
                rcases h255 with h255 | h255
                · have hc : ((x.toNat : Int) == 255) = true := by simp; omega
                  clear hcell hO hx h255
                  go_wp2
                  go_ret
                  exact ⟨rfl, HO.out⟩
                · have hc : ((x.toNat : Int) == 255) = false := by simp; omega
                  have hc0 : ((x.toNat : Int) == 0) = true := by simp; omega
                  clear hcell hO hx h255
                  go_wp2
                  go_ret
                  exact ⟨rfl, HO.out⟩
              · have hc : ((x.toNat : Int) == 255) = false := by simp; omega
                have hc0 : ((x.toNat : Int) == 0) = false := by simp; omega
                obtain ⟨k', hf, hm', hd'⟩ := ek_data ag hrel.out.2.1 hrel.out.2.2 x (by omega) (by omega)
                have HF : Hid (Calls Tryz.prog 23 #[.pointer (some ⟨p, 0, none⟩), .int .u8 (x.toNat : Int), .bool false] wr fun e w' => ∃ g e1 B2 m2 e2, e = .returned (.tuple #[.slice (some g) 1 e1, .slice B2 m2 e2]) ∧ Hid (EnL w2 w' es p ag (EK k') ∧ w'.cell? g = some (.int .u8 (x.toNat : Int)))) := (HFd.out wr w2 p kj k' x false [x] [] hrel.out.1 (vok_of hrel.out.2.1) hf).mono (fun e w' ⟨B1, m1, e1, B2, m2, e2, h1, h2⟩ => by
                  obtain ⟨hl1, hl2⟩ := h2.out.2.1
                  obtain rfl : m1 = 1 := hl1.symm
                  obtain ⟨g, rfl, hg⟩ := hl2 (by omega)
                  have := hg 0 x rfl
                  rw [show g.add 0 = g from by simp [Addr.add]] at this
                  exact ⟨g, e1, B2, m2, e2, h1, h2.out.1, this⟩)
                have HM' := Lib.hid (And.intro hm' hd')
                clear hcell hO hx h255 hf hm' hd' hrel
                go_wp2_with (first
                  | (go_at_call 23; (with_reducible refine HF.out.mono ?_); rintro e w4 ⟨g4, e1, B2, m2, e2, rfl, hk4⟩; have HK4 := hk4.out.1; have cg := hk4.out.2; clear hk4))
                go_roundw
                case rel => exact ⟨j + 1, k', by omega, by go_num, HK4, HM'.out.1, HM'.out.2⟩
                case measure => simp [intOf]; omega
            · obtain rfl : j = n2 := by omega
              have HO := Lib.hid hO
              clear hO hrel
              go_wp2
              go_ret
              exact ⟨rfl, HO.out⟩
  · by_cases l1 : n ≤ 40
    · have d1 : decide ((40 : Int) < (n : Int)) = false := by simp; omega
      by_cases l2 : n1 ≤ 100
      · have d2 : decide ((100 : Int) < (n1 : Int)) = false := by simp; omega
        have d3 : decide ((100 : Int) < (n2 : Int)) = true := by simp; omega
        clear hes hT h18 hz hx hy l1 l2 hlen
        go_enter Tryz.func5, Tryz.ntmps5
        go_wp2_with (first
          | (go_at_call 7; (with_reducible refine HAl.out.mono ?_); rintro e w1 ⟨rfl, ho1⟩; have HO1 := Lib.hid ho1; clear ho1))
        go_ret
        exact ⟨rfl, HO1.out⟩
      · have d2 : decide ((100 : Int) < (n1 : Int)) = true := by simp; omega
        clear hes hT h18 hz hx hy l1 l2 hlen
        go_enter Tryz.func5, Tryz.ntmps5
        go_wp2_with (first
          | (go_at_call 7; (with_reducible refine HAl.out.mono ?_); rintro e w1 ⟨rfl, ho1⟩; have HO1 := Lib.hid ho1; clear ho1))
        go_ret
        exact ⟨rfl, HO1.out⟩
    · have d1 : decide ((40 : Int) < (n : Int)) = true := by simp; omega
      clear hes hT h18 hz hx hy l1 hlen
      go_enter Tryz.func5, Tryz.ntmps5
      go_wp2_with (first
        | (go_at_call 7; (with_reducible refine HAl.out.mono ?_); rintro e w1 ⟨rfl, ho1⟩; have HO1 := Lib.hid ho1; clear ho1))
      go_ret
      exact ⟨rfl, HO1.out⟩
end Go.Proofs.YtbnfhklpobephaaGreatDoor
