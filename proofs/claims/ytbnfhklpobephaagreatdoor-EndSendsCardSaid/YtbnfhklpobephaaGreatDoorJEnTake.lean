/- Several texts in one. -/
import Derived.Test.YtbnfhklpobephaaGreatDoorJEmit
import Derived.Test.YtbnfhklpobephaaGreatDoorLs
import Derived.Test.YtbnfhklpobephaaGreatDoorJEnSub
import Derived.Test.YtbnfhklpobephaaGreatDoorEnFed
/- What is to be sent is taken; all pieces' bytes. -/
namespace Go.Proofs.YtbnfhklpobephaaGreatDoor
open Go Go.RowKit
set_option maxRecDepth 100000
set_option maxHeartbeats 4000000

/-- Pieces that are handed out. -/
structure PcsAt (w : World) (A : Option Addr) (n : Nat) (R : Nat → Prop) (xs : List Pc) (out : List (Int × List UInt8)) : Prop where
  len : n = xs.length
  out : xs.map (fun x => (x.k, x.b)) = out
  at_ : ∀ k x, xs[k]? = some x → ∃ g, A = some ⟨g, 0, none⟩ ∧ g < w.heap.size ∧ w.rangeAt g (k * 2) x.cs
  ok : ∀ x ∈ xs, x.Ok w R
theorem PcsAt.same {w w' : World} {A : Option Addr} {n : Nat} {R : Nat → Prop} {xs : List Pc} {out : List (Int × List UInt8)} (h : PcsAt w A n R xs out) (ho : Only (fun _ => False) w w') : PcsAt w' A n R xs out :=
  ⟨h.len, h.out, fun k x hx => by
    obtain ⟨g, h1, h2, h3⟩ := h.at_ k x hx
    exact ⟨g, h1, Nat.lt_of_lt_of_le h2 ho.size, fun j v hj => ho.cellv (h3 j v hj) (fun h => h)⟩, fun x hx => (h.ok x hx).far ho (fun _ _ h => h)⟩
theorem PcsAt.nil (w : World) (A : Option Addr) (R : Nat → Prop) : PcsAt w A 0 R [] [] := ⟨rfl, rfl, fun k x hx => by simp at hx, fun x hx => (List.not_mem_nil hx).elim⟩
section
variable {w : World} {p mo : Nat} {tp : TypeId} {pre post : List Value} {M R : Nat → Prop} {ag : Nat → Nat → Bool} {E : Ee}
theorem enTake (k : IsEe w p mo tp pre post M R ag E) :
    Calls Tryz.prog 28 #[.pointer (some ⟨p, mo, none⟩)] w fun e w' => ∃ A n c, e = .returned (.slice A n c) ∧ Hid (IsEe w' p mo tp pre post M R ag E.take ∧ Only (· = p) w w' ∧ ∃ xs, PcsAt w' A n R xs E.out ∧ n ≤ c ∧ c ≤ 9223372036854775807) := by
  obtain ⟨ccs, tcs, h, A, n, c, xs, k⟩ := k
  have c47 : w.cell? ⟨p, mo + 1947, none⟩ = some (.slice A n c) := k.tlIn.val (i := 0) rfl
  have f47 := k.frozen (mo + 1947)
  have HK := Lib.hid k
  clear k
  go_enter Tryz.func28, Tryz.ntmps28
  go_wp2
  go_ret
  have k := HK.out
  have ho : Only (· = p) w (w.setCell ⟨p, mo + 1947, none⟩ (.slice none 0 0)) := (Only.refl (· = p) w).setCell (p := ⟨p, mo + 1947, none⟩) (.inl rfl) _
  obtain ⟨b1, b2, b3, b4, b5⟩ := k.body ho
  refine ⟨A, n, c, rfl, ⟨ccs, tcs, h, none, 0, 0, [], ?_⟩, ho, xs, ⟨k.len, k.out, fun i x hx => ?_, b3⟩, (own_le k.row).1, (own_le k.row).2⟩
  · have hI := (k.tlIn).setCell (i := 0) (by simp) (.slice none 0 0)
    refine { blk := ⟨?_, k.blk.len⟩, cl := k.cl, tb := k.tb, ok := k.ok, is := b1, row := own_nil _ _ _ _, len := rfl, out := rfl, pcs := fun x hx => (List.not_mem_nil hx).elim, own := fun g hg => (by simp [Value.ownBlock] at hg), m18 := k.m18, mp := k.mp, mlt := b4, rlt := b5, dis := k.dis, tpu := k.tpu, tpt := k.tpt }
    have := hI.blk
    rw [show (enTail (.slice A n c) E).set 0 (.slice none 0 0) = enTail (.slice none 0 0) E.take from rfl, Nat.add_zero] at this
    simpa only [enCs, List.append_assoc] using this
  · have hl := (List.getElem?_eq_some_iff.1 hx).1
    obtain ⟨g, rfl, _, hg, hc⟩ := own_at b2 (by have := k.len; omega)
    refine ⟨g, rfl, hg, fun j v hj => hc _ v ?_⟩
    exact flat_at (cs := Pc.cs) (m := 2) (fun _ => rfl) hj hx
theorem flatB_take {xs : List Pc} {k : Nat} {x : Pc} (h : xs[k]? = some x) : (xs.take (k + 1)).flatMap Pc.b = (xs.take k).flatMap Pc.b ++ x.b := by
  rw [List.take_add_one, h]
  simp
theorem flatB_len {xs : List Pc} (k : Nat) : ((xs.take k).flatMap Pc.b).length ≤ (xs.flatMap Pc.b).length := by
  conv => rhs; rw [← List.take_append_drop k xs, List.flatMap_append, List.length_append]
  omega
theorem info_pcs : (Tryz.prog.info? 81).map (·.size) = some 2 := by kernel_rfl
theorem pcBytes {A : Option Addr} {n c : Nat} {xs : List Pc} {out : List (Int × List UInt8)} (h : PcsAt w A n R xs out) (hn : n ≤ 100000) (hnc : n ≤ c) (hcap : c ≤ 9223372036854775807) (hb : (xs.flatMap Pc.b).length ≤ 1000000) :
    Calls Tryz.prog 33 #[.slice A n c] w fun e w' => ∃ A' c', e = .returned (.slice A' (xs.flatMap Pc.b).length c') ∧ Hid (Body w' w.heap.size (.slice A' (xs.flatMap Pc.b).length c') (xs.flatMap Pc.b)) ∧ Hid (Only (fun _ => False) w w') := by
  have H := Lib.hid h
  have HL : Hid (n = xs.length) := h.len
  have HBd := Lib.hid hb
  clear h hb
  go_enter Tryz.func33, Tryz.ntmps33
  go_wp2
  go_loopw [3, 8] (fun a i W => ∃ (k : Nat) (B : Option Addr) (m cb : Nat), k ≤ n ∧ a = .slice B m cb ∧ i = .int .i64 (k : Int) ∧ Hid (m = ((xs.take k).flatMap Pc.b).length ∧ Body W w.heap.size (.slice B m cb) ((xs.take k).flatMap Pc.b) ∧ Only (fun _ => False) w W)) (fun _ i _ => n - (intOf i).toNat)
  case atStart => exact ⟨0, _, 0, 0, Nat.zero_le _, rfl, rfl, rfl, own_nil _ _ _ _, Only.refl _ _⟩
  case round =>
    obtain ⟨k, B, m, cb, hk, rfl, rfl, hrel⟩ := hrel
    by_cases hlt : k < n
    · have hlt2 : (k : Int) < (n : Int) := by omega
      obtain ⟨x, hx⟩ : ∃ x, xs[k]? = some x := ⟨_, List.getElem?_eq_getElem (by have := HL.out; omega)⟩
      obtain ⟨g, rfl, hg, hr⟩ := (H.out.same hrel.out.2.2).at_ k x hx
      obtain ⟨Ax, nx, cx, e1, e2, e3, e4, _⟩ := (H.out.same hrel.out.2.2).ok x (List.mem_of_getElem? hx)
      have HTk := Lib.hid (flatB_take hx)
      have hbx : ((xs.take k).flatMap Pc.b).length + nx ≤ 1000000 := by
        have h1 := flatB_len (xs := xs) (k + 1)
        rw [HTk.out, List.length_append, e2.1] at h1
        have := HBd.out
        omega
      obtain ⟨kx, vx, bx⟩ := x
      simp only at e1 e2 HTk
      subst e1
      have HRg : Hid (wr.rangeAt g (k * 2) [.int .i64 kx, .slice Ax nx cx]) := hr
      have HSx : Hid (∀ W, Only (fun _ => False) wr W → Src W Ax nx bx) := fun W ho => e2.only ho (fun _ _ _ h => h)
      have hm := hrel.out.1
      obtain ⟨bs, hbs⟩ : ∃ bs, bs = (xs.take k).flatMap Pc.b := ⟨_, rfl⟩
      rw [← hbs] at HTk hbx hm
      have HBy : Hid (∀ W, Only (fun _ => False) wr W → Body W w.heap.size (.slice B m cb) bs) := fun W ho => by rw [hbs]; exact Body.same hrel.out.2.1 ho
      have HO : Hid (Only (fun _ => False) w wr) := hrel.out.2.2
      have HM := Lib.hid hm
      have HNx : Hid (nx = bx.length) := e2.1.symm
      clear hx hr e2 hrel hm hbs
      go_wp2_with (first
        | ((with_reducible show wpList _ _ _ (⟨some 11, .load _ _, _, _, _, _⟩ :: _) _ _); refine wpList_load_mid rfl 81 _ rfl g (k * 2) rfl [.int .i64 kx, .slice Ax nx cx] _ HRg.out Tryz.underlying81 rfl info_pcs ?_)
        | ((with_reducible show wpList _ _ _ (⟨some 15, _, _, _, _, _⟩ :: _) _ _); refine step_bytes rfl (.tmp 12) (.tmp 14) rfl w.heap.size B m cb bs rfl (HBy.out _ ((Only.refl _ _).alloc _)) HM.out Ax nx cx bx rfl (HSx.out _ ((Only.refl _ _).alloc _)) (by have := HM.out; omega) (by have := HO.out.size; simp; omega) ?_; intro A7 c7 w7 hb7 ho7; have HB7 := hb7; have HO7 : Hid (Only (fun _ => False) w w7) := (HO.out.alloc _).trans ho7.out (fun i hi => .inr hi); clear hb7 ho7))
      go_roundw
      case rel => exact ⟨k + 1, A7, m + nx, c7, by omega, rfl, by go_num, by rw [HTk.out, List.length_append, HM.out, HNx.out], by rw [HTk.out]; exact HB7.out, HO7.out⟩
      case measure => simp [intOf]; omega
    · obtain rfl : k = n := by omega
      have hF : Hid ((xs.take k).flatMap Pc.b = xs.flatMap Pc.b) := by
        show _ = _
        rw [List.take_of_length_le (by have := HL.out; omega)]
      go_wp2
      go_ret
      obtain ⟨h1, h2, h3⟩ := hrel.out
      rw [hF.out] at h1 h2
      subst h1
      exact ⟨B, cb, rfl, h2, h3⟩
end
end Go.Proofs.YtbnfhklpobephaaGreatDoor
/- The law's config, and the chapter's example. -/
namespace Go.Proofs.YtbnfhklpobephaaGreatDoor
open Go Go.RowKit
set_option maxRecDepth 100000
set_option maxHeartbeats 4000000

theorem StAt.nil (w : World) (A : Option Addr) : StAt w A 0 [] := ⟨rfl, fun i x h => by simp at h⟩
def vt : List UInt8 := [118, 116, 49, 48, 48]
theorem vt_src {w : World} {N : Nat} (h : Blk w N 9 [.string ⟨#[118, 116, 49, 48, 48]⟩]) : TSrc w (some ⟨N, 0, none⟩) 1 [vt] := TSrc.of_blk h rfl (fun j x hj => by
    match j, hj with
    | 0, hj =>
      simp only [List.getElem?_cons_zero, Option.some.injEq] at hj
      subst hj
      rfl
    | j + 1, hj => simp at hj)
theorem enSmall (w : World) (A : Option Addr) (n c : Nat) :
    Calls Tryz.prog 31 #[.slice A n c] w fun e w' => ∃ N, e = .returned (.agg (ecC A n c A n c 80 24 (some ⟨N, 0, none⟩) 1 1 none 0 0 27).toArray) ∧ Hid (TSrc w' (some ⟨N, 0, none⟩) 1 [vt]) ∧ Hid (Only (fun _ => False) w w') := by
  go_enter Tryz.func31, Tryz.ntmps31
  go_wp2
  have hB := (Blk.new w 32 (ecC A n c A n c 80 24 (some ⟨w.heap.size + 1, 0, none⟩) 1 1 none 0 0 27)).alloc (.cells #[.string ⟨#[118, 116, 49, 48, 48]⟩] 9)
  refine ret_cell1 rfl w.heap.size rfl _ (ecC A n c A n c 80 24 (some ⟨w.heap.size + 1, 0, none⟩) 1 1 none 0 0 27) _ hB Tryz.underlying32 rfl size_ec rfl ?_
  exact ⟨w.heap.size + 1, rfl, vt_src (Blk.new' _ 9 [.string ⟨#[118, 116, 49, 48, 48]⟩] (by simp)), ((Only.refl _ _).alloc _).alloc _⟩
/-- An end that a law made itself, whatever was done to it since. -/
def EnL (w W : World) (es : List Addr) (p : Nat) (ag : Nat → Nat → Bool) (E : Ee) : Prop := ∃ M R, IsEe W p 0 132 [] [] M R ag E ∧ Only (fun _ => False) w W ∧ (∀ i, M i → w.heap.size ≤ i) ∧ ErrsAt W es ∧ TbW W
section
variable {w W W' : World} {es : List Addr} {p : Nat} {ag : Nat → Nat → Bool} {E E' : Ee}
theorem EnL.same (h : EnL w W es p ag E) (ho : Only (fun _ => False) W W') : EnL w W' es p ag E := by
  obtain ⟨M, R, h1, h2, h3, h4, h5⟩ := h
  exact ⟨M, R, h1.same ho, h2.trans ho (fun _ h => h.elim), h3, h4.only ho, h5.only ho⟩
theorem EnL.old (h : EnL w W es p ag E) : Only (fun _ => False) w W := by
  obtain ⟨M, R, h1, h2, h3, h4, h5⟩ := h
  exact h2
theorem EnL.goes {M R : Nat → Prop} (h1 : IsEe W p 0 132 [] [] M R ag E) (h2 : Only (fun _ => False) w W) (h3 : ∀ i, M i → w.heap.size ≤ i) (h4 : ErrsAt W es) (h5 : TbW W) (g : EnGoes W.heap.size W p 0 132 [] [] M R ag E' W') : EnL w W' es p ag E' := by
  have he := g.errs h1 h4
  have ht := g.tbw h1 h5
  obtain ⟨M', R', k', g'⟩ := g
  have hz := h2.size
  exact ⟨M', R', k', h2.trans g'.only (fun i hi => .inr (h3 i hi)), fun i hi => (g'.gm i hi).elim (h3 i) (fun h => Nat.le_trans hz h), he, ht⟩
theorem EnL.feed (h : EnL w W es p ag E) (hv : VOk E.k.m) (hl : E.Lo) (c : UInt8) (mark : Bool) :
    Calls Tryz.prog 23 #[.pointer (some ⟨p, 0, none⟩), .int .u8 (c.toNat : Int), .bool mark] W fun e w' => ∃ A1 n1 c1 A2 n2 c2, e = .returned (.tuple #[.slice A1 n1 c1, .slice A2 n2 c2]) ∧ Hid (EnL w w' es p ag (E.feed ag c mark).1 ∧ Src w' A1 n1 (E.feed ag c mark).2.1 ∧ NtAt w' A2 n2 (E.feed ag c mark).2.2) := by
  obtain ⟨M, R, h1, h2, h3, h4, h5⟩ := h
  refine (enFeed h1 h4 h5 hv hl c mark).mono ?_
  rintro e w' ⟨v1, v2, rfl, hf⟩
  obtain ⟨A1, n1, c1, rfl, hs, _⟩ := hf.out.dat
  obtain ⟨A2, n2, c2, rfl, hn, _⟩ := hf.out.nts
  exact ⟨A1, n1, c1, A2, n2, c2, rfl, EnL.goes h1 h2 h3 h4 h5 hf.out.en, hs, hn⟩
theorem EnL.take (h : EnL w W es p ag E) :
    Calls Tryz.prog 28 #[.pointer (some ⟨p, 0, none⟩)] W fun e w' => ∃ A n c, e = .returned (.slice A n c) ∧ Hid (EnL w w' es p ag E.take ∧ ∃ R xs, PcsAt w' A n R xs E.out ∧ n ≤ c ∧ c ≤ 9223372036854775807) := by
  obtain ⟨M, R, h1, h2, h3, h4, h5⟩ := h
  refine (enTake h1).mono ?_
  rintro e w' ⟨A, n, c, rfl, hf⟩
  obtain ⟨k', ho, xs, hx⟩ := hf.out
  exact ⟨A, n, c, rfl, EnL.goes h1 h2 h3 h4 h5 (EnGoes.own h1 k' ho), R, xs, hx⟩
theorem EnL.deaf (h : EnL w W es p ag E) : Calls Tryz.prog 32 #[.pointer (some ⟨p, 0, none⟩)] W fun e w' => e = .returned (.bool E.k.deaf) ∧ w' = W := by
  obtain ⟨M, R, h1, h2, h3, h4, h5⟩ := h
  exact enDeaf h1
end
/-- The law's end. -/
def H20 : Hs := Hs.new 80 24 [vt] [] 27
theorem enMake {w : World} {es : List Addr} (hes : ErrsAt w es) (hT : TbW w) (h18 : 18 ≤ w.heap.size) {A : Option Addr} {n c N : Nat} {zs : List Int} (hz : Ints w A n zs) (hn : n ≤ 1000) (hN : TSrc w (some ⟨N, 0, none⟩) 1 [vt]) :
    Calls Tryz.prog 9 #[.agg (ecC A n c A n c 80 24 (some ⟨N, 0, none⟩) 1 1 none 0 0 27).toArray] w fun e w' => ∃ p, e = .returned (.tuple #[.pointer (some ⟨p, 0, none⟩), .nilIface]) ∧ Hid (EnL w w' es p (agOf zs zs) (Ee.zero H20)) := by
  refine (enNew_ok (cc := 80) (cr := 24) (can := 27) (cA := 1) (c1 := c) (c2 := c) hz hz hn hn hN (StAt.nil w none) (Nat.le_refl 0) (by omega) (by decide) h18).mono ?_
  rintro e w' ⟨p, q, rfl, h1, h2⟩
  obtain ⟨k1, k2, _⟩ := h1.out
  exact ⟨p, rfl, _, _, k1, h2.out, fun i hi => (by omega), hes.only h2.out, hT.only h2.out⟩
@[reducible] def ag0 : Nat → Nat → Bool := agOf [0] [0]
def E00 : Ee := Ee.zero H20
def E01 : Ee := (E00.feed ag0 255 false).1
def E02 : Ee := (E01.feed ag0 251 false).1
def E03 : Ee := (E02.feed ag0 0 false).1
theorem lo_of {E : Ee} (h : (Nat.ble E.out.length 99990 && (Nat.ble E.sent 1000000 && (Nat.ble E.heard 1000000 && (Nat.ble E.asked 1000000 && (Nat.ble E.T.sent 1000000 && (Nat.ble E.T.heard 1000000 && Nat.ble E.T.asked 1000000)))))) = true) : E.Lo := by
  simp only [Bool.and_eq_true, Nat.ble_eq] at h
  exact ⟨h.1, h.2.1, h.2.2.1, h.2.2.2.1, h.2.2.2.2.1, h.2.2.2.2.2.1, h.2.2.2.2.2.2⟩
theorem lo0 : E00.Lo := lo_of (by kernel_rfl)
theorem lo1 : E01.Lo := lo_of (by kernel_rfl)
theorem lo2 : E02.Lo := lo_of (by kernel_rfl)
theorem notes3 : (E02.feed ag0 0 false).2.2 = [⟨3, 0, 1, 0, true⟩] := by kernel_rfl
theorem out3 : E03.out = [(3, [255, 253, 0])] := by kernel_rfl
theorem vok0 : VOk E00.k.m := VOk.zero
theorem Ee.turn_k (E : Ee) (s o : Int) : (E.turn s o).k = E.k := Ee.sendS_k _ _
theorem Ee.heardT_k (ag : Nat → Nat → Bool) (E : Ee) (v o : Nat) : (E.heardT ag v o).k = E.k := Ee.sendV_k _ _
theorem Ee.mark_k (E : Ee) (v : Int) : (E.hearMark v).k = E.k := by
  unfold Ee.hearMark
  split
  · exact Ee.sendV_k _ _
  · rfl
theorem Ee.verb_k (ag : Nat → Nat → Bool) (E : Ee) (v o : Nat) : (E.hearVerb ag v o).1.k = E.k := by
  unfold Ee.hearVerb
  split
  · exact Ee.mark_k _ _
  · show (if E.verbTurns ag v o then (E.heardT ag v o).turn (sideV v) o else E.heardT ag v o).k = E.k
    split
    · rw [Ee.turn_k, Ee.heardT_k]
    · rw [Ee.heardT_k]
theorem Ee.sub_k (E : Ee) (o : Int) (cut : Bool) (b : List UInt8) : (E.hearSub o cut b).1.k = E.k := by
  unfold Ee.hearSub
  split
  · exact Ee.sendS_k _ _
  · rfl
theorem Ee.tok_k (ag : Nat → Nat → Bool) (E : Ee) (t : Tk) : (Ee.tok ag E t).1.k = E.k := by
  unfold Ee.tok
  split
  · rfl
  split
  · show (if t.code = 246 then E.send 2 (tkBytes (tk2 241)) else E).k = E.k
    split
    · exact Ee.send_k _ _
    · rfl
  split
  · exact Ee.verb_k _ _ _ _
  split
  · exact Ee.sub_k _ _ _ _
  · rfl
theorem feed_k (ag : Nat → Nat → Bool) (E : Ee) (c : UInt8) (mark : Bool) : (E.feed ag c mark).1.k = (feed9 E.k ⟨c, mark, E.on 1 0⟩).1 := by
  unfold Ee.feed
  cases h : feed9 E.k ⟨c, mark, E.on 1 0⟩ with
  | mk k o =>
    cases o with
    | none => rfl
    | some t => exact Ee.tok_k _ _ _
theorem feed_vk {ag : Nat → Nat → Bool} {E : Ee} (h : VOk E.k.m) (c : UInt8) (mark : Bool) : VOk (E.feed ag c mark).1.k.m := by
  rw [feed_k]
  exact (feed9_vok h _).1
theorem vok1 : VOk E01.k.m := feed_vk vok0 _ _
theorem vok2 : VOk E02.k.m := feed_vk vok1 _ _
theorem note_at {w : World} {A : Option Addr} {n : Nat} {x : Nt} (h : NtAt w A n [x]) : n = 1 ∧ ∃ b off, A = some ⟨b, off, none⟩ ∧ w.rangeAt b off x.cs := by
  refine ⟨h.1.symm, ?_⟩
  obtain ⟨b, off, e, _, hr⟩ := h.2 0 x rfl
  exact ⟨b, off, e, by simpa using hr⟩
theorem flat_of {xs : List Pc} {out : List (Int × List UInt8)} (h : xs.map (fun x => (x.k, x.b)) = out) : xs.flatMap Pc.b = out.flatMap Prod.snd := by
  subst h
  induction xs with
  | nil => rfl
  | cons x xs ih => simp only [List.flatMap_cons, List.map_cons, ih]
theorem enAlive {w : World} {es : List Addr} (hes : ErrsAt w es) (hT : TbW w) (h18 : 18 ≤ w.heap.size) : Calls Tryz.prog 7 #[] w fun e w' => e = .returned (.bool true) ∧ Only (fun _ => False) w w' := by
  have HSm := Lib.hid enSmall
  have HO1 : Hid (Only (fun _ => False) w (w.alloc (.cells #[.int .i64 0] 3))) := (Only.refl _ _).alloc _
  have hI : Ints (w.alloc (.cells #[.int .i64 0] 3)) (some ⟨w.heap.size, 0, none⟩) 1 [0] := by
    refine ⟨rfl, fun _ => ⟨_, rfl, fun j z hz => ?_⟩⟩
    match j, hz with
    | 0, hz =>
      simp only [List.getElem?_cons_zero, Option.some.injEq] at hz
      subst hz
      exact (Blk.new w 3 [.int .i64 0]).cell 0
    | j + 1, hz => simp at hz
  have HMk : Hid (∀ W N, Only (fun _ => False) (w.alloc (.cells #[.int .i64 0] 3)) W → TSrc W (some ⟨N, 0, none⟩) 1 [vt] → Calls Tryz.prog 9 #[.agg (ecC (some ⟨w.heap.size, 0, none⟩) 1 1 (some ⟨w.heap.size, 0, none⟩) 1 1 80 24 (some ⟨N, 0, none⟩) 1 1 none 0 0 27).toArray] W fun e w' => ∃ p, e = .returned (.tuple #[.pointer (some ⟨p, 0, none⟩), .nilIface]) ∧ Hid (EnL W w' es p ag0 E00)) := fun W N ho hN => by
    have ho' := HO1.out.trans ho (fun _ h => h.elim)
    exact enMake (hes.only ho') (hT.only ho') (Nat.le_trans h18 ho'.size) (hI.same ho) (by omega) hN
  have HF1 : Hid (∀ W W0 p, EnL W0 W es p ag0 E00 → Calls Tryz.prog 23 #[.pointer (some ⟨p, 0, none⟩), .int .u8 255, .bool false] W fun e w' => ∃ A1 n1 c1 A2 n2 c2, e = .returned (.tuple #[.slice A1 n1 c1, .slice A2 n2 c2]) ∧ Hid (EnL W0 w' es p ag0 E01)) := fun W W0 p h => (h.feed vok0 lo0 255 false).mono (fun e w' ⟨A1, n1, c1, A2, n2, c2, h1, h2⟩ => ⟨A1, n1, c1, A2, n2, c2, h1, h2.out.1⟩)
  have HF2 : Hid (∀ W W0 p, EnL W0 W es p ag0 E01 → Calls Tryz.prog 23 #[.pointer (some ⟨p, 0, none⟩), .int .u8 251, .bool false] W fun e w' => ∃ A1 n1 c1 A2 n2 c2, e = .returned (.tuple #[.slice A1 n1 c1, .slice A2 n2 c2]) ∧ Hid (EnL W0 w' es p ag0 E02)) := fun W W0 p h => (h.feed vok1 lo1 251 false).mono (fun e w' ⟨A1, n1, c1, A2, n2, c2, h1, h2⟩ => ⟨A1, n1, c1, A2, n2, c2, h1, h2.out.1⟩)
  have HF3 : Hid (∀ W W0 p, EnL W0 W es p ag0 E02 → Calls Tryz.prog 23 #[.pointer (some ⟨p, 0, none⟩), .int .u8 0, .bool false] W fun e w' => ∃ A1 n1 c1 b off c2, e = .returned (.tuple #[.slice A1 n1 c1, .slice (some ⟨b, off, none⟩) 1 c2]) ∧ Hid (EnL W0 w' es p ag0 E03 ∧ w'.rangeAt b off (Nt.cs ⟨3, 0, 1, 0, true⟩))) := fun W W0 p h => (h.feed vok2 lo2 0 false).mono (fun e w' ⟨A1, n1, c1, A2, n2, c2, h1, h2⟩ => by
    have hn := h2.out.2.2
    rw [notes3] at hn
    obtain ⟨rfl, b, off, rfl, hr⟩ := note_at hn
    exact ⟨A1, n1, c1, b, off, c2, h1, h2.out.1, hr⟩)
  have HTk : Hid (∀ W W0 p, EnL W0 W es p ag0 E03 → Calls Tryz.prog 28 #[.pointer (some ⟨p, 0, none⟩)] W fun e w' => ∃ A n c, e = .returned (.slice A n c) ∧ Hid (Only (fun _ => False) W0 w' ∧ ∃ R xs, PcsAt w' A n R xs [(3, [255, 253, 0])] ∧ n ≤ c ∧ c ≤ 9223372036854775807)) := fun W W0 p h => h.take.mono (fun e w' ⟨A, n, c, h1, h2⟩ => by
    obtain ⟨k, R, xs, hx⟩ := h2.out
    rw [out3] at hx
    exact ⟨A, n, c, h1, k.old, R, xs, hx⟩)
  have HBy : Hid (∀ W (A : Option Addr) n c, (∃ R xs, PcsAt W A n R xs [(3, [255, 253, 0])] ∧ n ≤ c ∧ c ≤ 9223372036854775807) → Calls Tryz.prog 33 #[.slice A n c] W fun e w' => ∃ A' c', e = .returned (.slice A' 3 c') ∧ Hid (Body w' W.heap.size (.slice A' 3 c') [255, 253, 0]) ∧ Hid (Only (fun _ => False) W w')) := fun W A n c ⟨R, xs, hx, h1, h2⟩ => by
    have hf : xs.flatMap Pc.b = [255, 253, 0] := flat_of hx.out
    have hl : xs.length = 1 := by have := congrArg List.length hx.out; simpa using this
    have := pcBytes hx (by have := hx.len; omega) h1 h2 (by rw [hf]; decide)
    rw [hf] at this
    exact this
  clear hes hT h18 hI
  go_enter Tryz.func7, Tryz.ntmps7
  go_wp2_with (first
    | (go_at_call 31; (with_reducible refine (HSm.out _ _ _ _).mono ?_); rintro e w1 ⟨N1, rfl, hn1, ho1⟩; have HN1 := hn1; have HO2 := ho1; clear hn1 ho1)
    | (go_at_call 9; (with_reducible refine (HMk.out _ _ HO2.out HN1.out).mono ?_); rintro e w2 ⟨p, rfl, hk2⟩; have HK2 := hk2; clear hk2)
    | (go_at_call 23; (with_reducible refine (HF1.out _ _ _ HK2.out).mono ?_); rintro e w3 ⟨A1, n1, c1, A2, n2, c2, rfl, hk3⟩; have HK3 := hk3; clear hk3 HK2)
    | (go_at_call 23; (with_reducible refine (HF2.out _ _ _ HK3.out).mono ?_); rintro e w4 ⟨A3, n3, c3, A4, n4, c4, rfl, hk4⟩; have HK4 := hk4; clear hk4 HK3)
    | (go_at_call 23; (with_reducible refine (HF3.out _ _ _ HK4.out).mono ?_); rintro e w5 ⟨A5, n5, c5, b, off, c6, rfl, hk5⟩; have HK5 := hk5; clear hk5 HK4; have d0 : w5.cell? ⟨b, off, none⟩ = some (.int .i64 3) := HK5.out.2 0 _ rfl; have d4 : w5.cell? ⟨b, off + 4, none⟩ = some (.bool true) := HK5.out.2 4 _ rfl)
    | (go_at_call 28; (with_reducible refine (HTk.out _ _ _ HK5.out.1).mono ?_); rintro e w6 ⟨A7, n7, c7, rfl, hk6⟩; have HK6 := hk6; clear hk6)
    | (go_at_call 33; (with_reducible refine (HBy.out _ _ _ _ HK6.out.2).mono ?_); rintro e w7 ⟨A8, c8, rfl, hb8, ho8⟩; have hT := (Body.src hb8.out rfl).texts c8 w7 (Only.refl _ _); rw [show ([255, 253, 0] : List UInt8).toArray = #[255, 253, 0] from rfl] at hT; have HO8 := ho8; clear hb8 ho8))
  go_ret
  exact ⟨rfl, HO1.out.trans ((HO2.out.trans HK6.out.1 (fun _ h => h.elim)).trans HO8.out (fun _ h => h.elim)) (fun _ h => h.elim)⟩
end Go.Proofs.YtbnfhklpobephaaGreatDoor
/- An option is asked for. -/
namespace Go.Proofs.YtbnfhklpobephaaGreatDoor
open Go Go.RowKit
set_option maxRecDepth 100000
set_option maxHeartbeats 4000000

section
variable {w : World} {es : List Addr} {p mo : Nat} {tp : TypeId} {pre post : List Value} {M R : Nat → Prop} {ag : Nat → Nat → Bool} {E : Ee}
theorem enAskMark (k : IsEe w p mo tp pre post M R ag E) (hes : ErrsAt w es) (hl : E.Lo) (s : Int) (on : Bool) :
    Calls Tryz.prog 64 #[.pointer (some ⟨p, mo, none⟩), .int .i64 s, .bool on] w fun e w' => ∃ E', e = .returned E' ∧ Hid (ErrV es E' (E.ask s 6 on).1 ∧ EnGoes w.heap.size w p mo tp pre post M R ag (E.ask s 6 on).2.1 w') := by
  have HK := Lib.hid k
  by_cases hb : s ≠ 1 ∨ on = false
  · have hX : E.ask s 6 on = (9, E, []) := by unfold Ee.ask; rw [if_pos rfl, if_pos hb]
    have HX := Lib.hid hX
    obtain ⟨a, ha, hst⟩ := (hes.of [8]).get 8 8 (by decide) rfl
    have HA : Hid (ErrV es (errV a) 9) := ErrV.err ha 9 rfl
    unfold errV at hst HA
    by_cases h1 : s = 1
    · obtain rfl : on = false := hb.resolve_left (fun h => h h1)
      subst h1
      clear k hes hl hX ha hb
      go_enter Tryz.func64, Tryz.ntmps64
      go_wp2
      go_ret
      rw [HX.out]
      exact ⟨_, rfl, HA.out, EnGoes.still HK.out (Only.refl _ _)⟩
    · have hne : (s == 1) = false := by simpa using h1
      have hne2 : decide (s = 1) = false := by simpa using h1
      clear k hes hl hX ha hb
      go_enter Tryz.func64, Tryz.ntmps64
      go_wp2
      go_ret
      rw [HX.out]
      exact ⟨_, rfl, HA.out, EnGoes.still HK.out (Only.refl _ _)⟩
  · obtain ⟨h1, h2⟩ : s = 1 ∧ on = true := by
      refine ⟨Classical.byContradiction fun h => hb (.inl h), ?_⟩
      cases on with
      | true => rfl
      | false => exact absurd (.inr rfl) hb
    subst h1 h2
    have hX : E.ask 1 6 true = (0, ({ E with asked := E.asked + 1 } : Ee).sendV 253 6, []) := by unfold Ee.ask; rw [if_pos rfl, if_neg hb]
    have HX := Lib.hid hX
    have HSV : Hid (∀ W, IsEe W p mo tp pre post M R ag { E with asked := E.asked + 1 } → ErrsAt W es → Calls Tryz.prog 66 #[.pointer (some ⟨p, mo, none⟩), .int .i64 253, .int .i64 6] W fun e w' => e = .returned (.tuple #[]) ∧ Hid (EnGoes W.heap.size W p mo tp pre post M R ag (({ E with asked := E.asked + 1 } : Ee).sendV 253 6) w')) := fun W hk he => enSendV hk he (by have := hl.out; show E.out.length ≤ _; omega) hl.sent 253 6
    have c49 := k.cells.1.2.1
    have f49 := k.cells.2 (mo + 1949)
    have ho1 : Only (· = p) w (w.setCell ⟨p, mo + 1949, none⟩ (.int .i64 ((E.asked : Int) + 1))) := (Only.refl (· = p) _).setCell (p := ⟨p, mo + 1949, none⟩) (.inl rfl) _
    have HO1 := Lib.hid ho1
    have HE1 := Lib.hid (hes.far ho1 (fun i hi e => by have := k.p18; omega))
    have hla := hl.asked
    clear k hes hl hX hb ho1
    go_enter Tryz.func64, Tryz.ntmps64
    go_wp2_with (go_at_call 66; (with_reducible refine (HSV.out _ HK.out.incAsked HE1.out).mono ?_); rintro e w3 ⟨rfl, h3⟩)
    go_ret
    rw [HX.out]
    refine ⟨_, rfl, ErrV.nil es, ?_⟩
    have g1 : Goes w.heap.size w M R (w.setCell ⟨p, mo + 1949, none⟩ (.int .i64 ((E.asked : Int) + 1))) M R := ⟨HO1.out.mono (fun i hi => .inl (hi ▸ HK.out.mp)), fun _ h => .inl h, fun _ h => .inl h⟩
    exact EnGoes.seq g1 (Nat.le_refl _) h3.out HO1.out.size
/-- What an asking leaves. -/
structure AskR (w : World) (es : List Addr) (p mo : Nat) (tp : TypeId) (pre post : List Value) (M R : Nat → Prop) (ag : Nat → Nat → Bool) (r : Nat × Ee × List Nt) (v Er : Value) (w' : World) : Prop where
  err : ErrV es Er r.1
  en : EnGoes w.heap.size w p mo tp pre post M R ag r.2.1 w'
  nts : ∃ A n c, v = .slice A n c ∧ NtAt w' A n r.2.2 ∧ n ≤ 3 ∧ (0 < n → ∀ ad, A = some ad → w.heap.size ≤ ad.block)
theorem errv_of {W : World} {u : TypeId} {x : Value} {nm : String} {g i : Nat} (hes : ErrsAt W es) (hi : i < 16) (hg : errIds[i]? = some g) (hl : g < 1000) (hn : Tryz.prog.globalNamed nm = some g) (hv : W.var? Tryz.prog nm = some #[.iface u x]) : ErrV es (.iface u x) (i + 1) := by
  have hc : W.cell? ⟨g, 0, none⟩ = some (.iface u x) := World.var?_cell hn hv 0
  obtain ⟨a, ha⟩ : ∃ a, es[i]? = some a := ⟨_, List.getElem?_eq_getElem (by rw [hes.len]; exact hi)⟩
  have := hes.at_ i g a hg ha hl
  rw [hc] at this
  injection this with this
  rw [this]
  exact ErrV.err ha _ rfl
/-- The table within an end is asked. -/
theorem enTbAsk (k : IsEe w p mo tp pre post M R ag E) (hes : ErrsAt w es) (hT : TbW w) (hl : E.Lo) (s o : Int) (on : Bool) :
    Calls Tryz.prog 65 #[.pointer (some ⟨p, mo + 263, none⟩), .int .i64 s, .int .i64 o, .bool on] w fun e w' =>
      (E.T.askZ s o on ≠ 0 ∧ ∃ E', e = .returned (.tuple #[.int .i64 0, E']) ∧ ErrV es E' (E.T.askZ s o on) ∧ Only (fun _ => False) w w') ∨
      (E.T.askZ s o on = 0 ∧ ∃ (r : Tb × Qs × Nat) (sn on' : Nat), s = (sn : Int) ∧ o = (on' : Int) ∧ sn < 2 ∧ on' < 256 ∧ E.T.ask sn on' on = some r ∧ e = .returned (.tuple #[.int .i64 (toldV sn r.2.2 : Int), .nilIface]) ∧ IsEe w' p mo tp pre post M R ag { E with T := r.1 } ∧ Only (· = p) w w') := by
  obtain ⟨a1, a2, a3, a4, a5, a6, a7, kk⟩ := k
  unfold Tb.askZ
  by_cases h1 : s = 0 ∨ s = 1
  · by_cases h2 : 0 ≤ o ∧ o ≤ 255
    · rw [if_neg (fun h => h h1), if_neg (fun h => h h2)]
      obtain ⟨sn, rfl⟩ : ∃ sn : Nat, s = (sn : Int) := ⟨s.toNat, by omega⟩
      obtain ⟨o', rfl⟩ : ∃ o' : Nat, o = (o' : Int) := ⟨o.toNat, by omega⟩
      rw [Int.toNat_natCast, Int.toNat_natCast]
      have hs : sn < 2 := by omega
      have ho : o' < 256 := by omega
      cases hq : askQ (E.T.st sn o') on with
      | none =>
        rw [if_pos rfl]
        refine (task_none hT kk.tbAt hs ho hq).mono ?_
        rintro e w' ⟨⟨u, x, hv, rfl⟩, ho'⟩
        exact .inl ⟨by decide, _, rfl, errv_of (i := 9) (g := 9) hes (by decide) (by kernel_rfl) (by decide) (by kernel_rfl) hv, ho'⟩
      | some m =>
        rw [if_neg (fun h => by cases h)]
        refine (task_some hT kk.tbAt hs ho hq hl.tsent hl.tasked (by have := kk.p18; omega)).mono ?_
        rintro e w' ⟨rfl, h2, h3⟩
        obtain ⟨x2, kx⟩ := kk.ofTb h3 h2
        refine .inr ⟨rfl, (⟨setQ E.T.st sn o' m.1, E.T.heard, E.T.asked + 1, E.T.sent + sentN m.2⟩, m), sn, o', rfl, rfl, hs, ho, ?_, rfl, ⟨a1, x2, a3, a4, a5, a6, a7, kx⟩, h3⟩
        unfold Tb.ask
        rw [hq]
        rfl
    · rw [if_neg (fun h => h h1), if_pos h2]
      refine (task_range hT p (mo + 263) on h1 h2).mono ?_
      rintro e w' ⟨⟨u, x, hv, rfl⟩, ho'⟩
      exact .inl ⟨by decide, _, rfl, errv_of (i := 0) (g := 0) hes (by decide) (by kernel_rfl) (by decide) (by kernel_rfl) hv, ho'⟩
  · rw [if_pos h1]
    refine (task_kind hT p (mo + 263) o on h1).mono ?_
    rintro e w' ⟨⟨u, x, hv, rfl⟩, ho'⟩
    exact .inl ⟨by decide, _, rfl, errv_of (i := 8) (g := 8) hes (by decide) (by kernel_rfl) (by decide) (by kernel_rfl) hv, ho'⟩
theorem enAsk (k : IsEe w p mo tp pre post M R ag E) (hes : ErrsAt w es) (hT : TbW w) (hl : E.Lo) (s o : Int) (on : Bool) :
    Calls Tryz.prog 24 #[.pointer (some ⟨p, mo, none⟩), .int .i64 s, .int .i64 o, .bool on] w fun e w' => ∃ v Er, e = .returned (.tuple #[v, Er]) ∧ Hid (AskR w es p mo tp pre post M R ag (E.ask s o on) v Er w') := by
  have HK := Lib.hid k
  by_cases h6 : o = 6
  · subst h6
    have HM : Hid (Calls Tryz.prog 64 #[.pointer (some ⟨p, mo, none⟩), .int .i64 s, .bool on] w fun e w' => ∃ E', e = .returned E' ∧ Hid (ErrV es E' (E.ask s 6 on).1 ∧ EnGoes w.heap.size w p mo tp pre post M R ag (E.ask s 6 on).2.1 w')) := enAskMark k hes hl s on
    have hn : (E.ask s 6 on).2.2 = [] := by
      unfold Ee.ask
      rw [if_pos rfl]
      split <;> rfl
    obtain ⟨X, hX⟩ : ∃ X, X = E.ask s 6 on := ⟨_, rfl⟩
    rw [← hX] at HM hn ⊢
    have HN := Lib.hid hn
    clear k hes hT hl hX hn
    go_enter Tryz.func24, Tryz.ntmps24
    go_wp2_with (go_at_call 64; (with_reducible refine HM.out.mono ?_); rintro e w1 ⟨E1, rfl, h1⟩)
    go_ret2
    refine ⟨_, _, rfl, h1.out.1, h1.out.2, ?_⟩
    rw [HN.out]
    exact noNts _ _
  · have h6i : (o == 6) = false := by simpa using h6
    have HOn : Hid (∀ W, Only (fun _ => False) w W → Calls Tryz.prog 19 #[.pointer (some ⟨p, mo, none⟩), .int .i64 s, .int .i64 o] W fun e w' => e = .returned (.bool (E.on s o)) ∧ Only (fun _ => False) W w') := fun W ho => enOn (k.same ho) s o
    have HTb : Hid (∀ W, Only (fun _ => False) w W → _) := fun W ho => enTbAsk (k.same ho) (hes.only ho) (hT.only ho) hl s o on
    have HEs : Hid (∀ W, Only M w W → ErrsAt W es) := fun W ho => hes.far ho (fun i hi hm => by have := HK.out.m18 i hm; omega)
    have hlo := hl.out
    have hls := hl.sent
    obtain ⟨a0, ha0⟩ : ∃ a0, a0 = E.asked := ⟨_, rfl⟩
    have hla : a0 ≤ 1000000 := by rw [ha0]; exact hl.asked
    by_cases hz : E.T.askZ s o on = 0
    · -- it is asked for
      have HA : Hid (∀ W, Only (fun _ => False) w W → Calls Tryz.prog 65 #[.pointer (some ⟨p, mo + 263, none⟩), .int .i64 s, .int .i64 o, .bool on] W fun e w' => ∃ tv : Int, e = .returned (.tuple #[.int .i64 tv, .nilIface]) ∧ Hid (∃ (T' : Tb) (sn on' : Nat), s = (sn : Int) ∧ o = (on' : Int) ∧ E.askedT sn on' on = ({ E with T := T', asked := a0 + 1 } : Ee).sendV tv o ∧ IsEe w' p mo tp pre post M R ag { E with T := T' } ∧ Only (· = p) W w')) := fun W ho => by
        refine (HTb.out W ho).mono ?_
        rintro e w' (⟨h1, _⟩ | ⟨_, r, sn, on', rfl, rfl, h3, h4, h5, rfl, h7, h8⟩)
        · exact absurd hz h1
        · refine ⟨_, rfl, r.1, sn, on', rfl, rfl, ?_, h7, h8⟩
          unfold Ee.askedT
          rw [h5, ha0]
      obtain ⟨was, hwas⟩ : ∃ was, was = E.on s o := ⟨_, rfl⟩
      rw [← hwas] at HOn
      have hX : ∀ sn on' : Nat, s = (sn : Int) → o = (on' : Int) → E.ask s o on = (if was = true ∧ (E.askedT sn on' on).on s o = false then (0, (E.askedT sn on' on).turn s o, [(E.askedT sn on' on).turnN s o]) else (0, E.askedT sn on' on, [])) := fun sn on' e1 e2 => by
        unfold Ee.ask
        rw [if_neg h6, if_neg (fun h => h hz), hwas, e1, e2, Int.toNat_natCast, Int.toNat_natCast]
      have HX := Lib.hid hX
      obtain ⟨X, hXX⟩ : ∃ X, X = E.ask s o on := ⟨_, rfl⟩
      rw [← hXX] at HX ⊢
      have HA0 := Lib.hid ha0
      clear k hes hT hl hX hXX HTb hwas ha0 hz h6
      go_enter Tryz.func24, Tryz.ntmps24
      go_upto_region 5 with (first
        | (go_at_call 19; (with_reducible refine (HOn.out _ (Only.refl _ _)).mono ?_); rintro e w1 ⟨rfl, ho1⟩; have HO1 := Lib.hid ho1; clear ho1)
        | (go_at_call 65; (with_reducible refine (HA.out _ HO1.out).mono ?_); rintro e w2 ⟨tv, rfl, h2⟩))
      obtain ⟨T', sn, on', e1, e2, e3, k2, ho2⟩ := h2.out
      have HX2 := Lib.hid (HX.out sn on' e1 e2)
      obtain ⟨E3, hE3⟩ : ∃ E3, E3 = E.askedT sn on' on := ⟨_, rfl⟩
      rw [← hE3] at HX2 e3
      obtain ⟨E2, hE2⟩ : ∃ E2, E2 = ({ E with T := T', asked := a0 + 1 } : Ee) := ⟨_, rfl⟩
      rw [← hE2] at e3
      have c49 : w2.cell? ⟨p, mo + 1949, none⟩ = some (.int .i64 (a0 : Int)) := by rw [HA0.out]; exact k2.cells.1.2.1
      have f49 := k2.cells.2 (mo + 1949)
      have k3 : IsEe (w2.setCell ⟨p, mo + 1949, none⟩ (.int .i64 ((a0 : Int) + 1))) p mo tp pre post M R ag E2 := by rw [hE2, HA0.out]; exact k2.incAsked
      have ho3 : Only (· = p) w (w2.setCell ⟨p, mo + 1949, none⟩ (.int .i64 ((a0 : Int) + 1))) := ((HO1.out.mono (T := (· = p)) (fun _ h => h.elim)).trans ho2 (fun _ h => .inl h)).setCell (p := ⟨p, mo + 1949, none⟩) (.inl rfl) _
      have HO3 : Hid (Only M w (w2.setCell ⟨p, mo + 1949, none⟩ (.int .i64 ((a0 : Int) + 1)))) := ho3.mono (fun i hi => .inl (hi ▸ HK.out.mp))
      have HK3 := Lib.hid k3
      have hl2 : E2.out.length ≤ 99990 := by rw [hE2]; exact hlo
      have hs2 : E2.sent ≤ 1000000 := by rw [hE2]; exact hls
      have hl3 : E3.out.length ≤ 99991 := by
        rw [e3]
        have := Ee.sendV_len E2 tv o
        omega
      have HSV : Hid (∀ W, IsEe W p mo tp pre post M R ag E2 → ErrsAt W es → Calls Tryz.prog 66 #[.pointer (some ⟨p, mo, none⟩), .int .i64 tv, .int .i64 o] W fun e w' => e = .returned (.tuple #[]) ∧ Hid (EnGoes W.heap.size W p mo tp pre post M R ag E3 w')) := fun W hk he => by
        rw [e3]
        exact enSendV hk he (by omega) hs2 tv o
      obtain ⟨on3, hon3⟩ : ∃ b, b = E3.on s o := ⟨_, rfl⟩
      have HOn3 : Hid (∀ W M R, IsEe W p mo tp pre post M R ag E3 → Calls Tryz.prog 19 #[.pointer (some ⟨p, mo, none⟩), .int .i64 s, .int .i64 o] W fun e w' => e = .returned (.bool on3) ∧ Only (fun _ => False) W w') := fun W M R hk => by
        rw [hon3]
        exact enOn hk s o
      have HTu : Hid (∀ W M R, IsEe W p mo tp pre post M R ag E3 → ErrsAt W es → Calls Tryz.prog 67 #[.pointer (some ⟨p, mo, none⟩), .int .i64 s, .int .i64 o] W fun e w' => e = .returned (.agg #[.int .i64 3, .int .i64 0, .int .i64 s, .int .i64 o, .bool on3]) ∧ Hid (EnGoes W.heap.size W p mo tp pre post M R ag (E3.turn s o) w')) := fun W M R hk he => by
        rw [hon3]
        exact enTurn hk he (by omega) s o
      have hX4 : X = (if was = true ∧ on3 = false then (0, E3.turn s o, [⟨3, 0, s, o, on3⟩]) else (0, E3, [])) := by
        rw [HX2.out, hon3]
        rfl
      have HX4 := Lib.hid hX4
      clear HX HX2 hE3 hE2 e3 hon3 k2 ho2 k3 ho3 hl2 hs2 hl3 hX4 h2 HA HOn e1 e2 hlo hls
      have SVg : Hid (∀ w3 M3 R3, Goes (w2.setCell ⟨p, mo + 1949, none⟩ (.int .i64 ((a0 : Int) + 1))).heap.size (w2.setCell ⟨p, mo + 1949, none⟩ (.int .i64 ((a0 : Int) + 1))) M R w3 M3 R3 → Goes w.heap.size w M R w3 M3 R3) := fun w3 M3 R3 g => Goes.trans ⟨HO3.out, fun _ h => .inl h, fun _ h => .inl h⟩ (g.low HO3.out.size) rfl
      cases was with
      | false =>
        go_wp2_with (first
          | (go_at_call 66; (with_reducible refine (HSV.out _ HK3.out (HEs.out _ HO3.out)).mono ?_); rintro e w3 ⟨rfl, h3⟩))
        go_ret2
        obtain ⟨M3, R3, k3, g3⟩ := h3.out
        refine ⟨_, _, rfl, ?_⟩
        rw [show X = (0, E3, []) from HX4.out]
        exact ⟨ErrV.nil es, ⟨M3, R3, k3, SVg.out _ _ _ g3⟩, noNts _ _⟩
      | true =>
        cases on3 with
        | true =>
          go_wp2_with (first
            | (go_at_call 66; (with_reducible refine (HSV.out _ HK3.out (HEs.out _ HO3.out)).mono ?_); rintro e w3 ⟨rfl, h3⟩; obtain ⟨M3, R3, k3, g3⟩ := h3.out; have HKx := Lib.hid k3; have HGx := Lib.hid g3; clear h3 k3 g3)
            | (go_at_call 19; (with_reducible refine (HOn3.out _ _ _ HKx.out).mono ?_); rintro e w4 ⟨rfl, ho4⟩; have HO4 := Lib.hid ho4; clear ho4))
          go_ret2
          refine ⟨_, _, rfl, ?_⟩
          rw [show X = (0, E3, []) from HX4.out]
          exact ⟨ErrV.nil es, EnGoes.then_ ⟨M3, R3, HKx.out, SVg.out _ _ _ HGx.out⟩ HO4.out, noNts _ _⟩
        | false =>
          go_wp2_with (first
            | (go_at_call 66; (with_reducible refine (HSV.out _ HK3.out (HEs.out _ HO3.out)).mono ?_); rintro e w3 ⟨rfl, h3⟩; obtain ⟨M3, R3, k3, g3⟩ := h3.out; have HKx := Lib.hid k3; have HGx := Lib.hid g3; have HOx : Hid (Only M w w3) := HO3.out.trans g3.only (fun _ h => .inl h); clear h3 k3 g3)
            | (go_at_call 19; (with_reducible refine (HOn3.out _ _ _ HKx.out).mono ?_); rintro e w4 ⟨rfl, ho4⟩; have HO4 := Lib.hid ho4; have HK4 := Lib.hid (HKx.out.same ho4); have HE4 := Lib.hid (HEs.out _ (HOx.out.trans ho4 (fun _ h => h.elim))); clear ho4)
            | (go_at_call 67; (with_reducible refine (HTu.out _ _ _ HK4.out HE4.out).mono ?_); rintro e w5 ⟨rfl, h5⟩))
          go_ret2
          refine ⟨_, _, rfl, ?_⟩
          rw [show X = (0, E3.turn s o, [⟨3, 0, s, o, false⟩]) from HX4.out]
          obtain ⟨M5, R5, k5, g5⟩ := h5.out
          have g4 : Goes w.heap.size w M R w4 M3 R3 := (SVg.out _ _ _ HGx.out).trans (Goes.of HO4.out) rfl
          have hz4 : w.heap.size ≤ w4.heap.size := g4.only.size
          have g45 : EnGoes w.heap.size w p mo tp pre post M R ag (E3.turn s o) w5 := EnGoes.seq g4 (Nat.le_refl _) ⟨M5, R5, k5, g5⟩ hz4
          have hz5 : w4.heap.size ≤ w5.heap.size := g5.only.size
          exact ⟨ErrV.nil es, EnGoes.then_ g45 ((Only.refl _ _).alloc _), oneNts (N := w5.heap.size) (x := ⟨3, 0, s, o, false⟩) (Blk.new' _ _ _ rfl) (by omega)⟩
    · obtain ⟨z, hzz⟩ : ∃ z, z = E.T.askZ s o on := ⟨_, rfl⟩
      have hX : E.ask s o on = (z, E, []) := by
        unfold Ee.ask
        rw [if_neg h6, if_pos hz, hzz]
      have HA : Hid (∀ W, Only (fun _ => False) w W → Calls Tryz.prog 65 #[.pointer (some ⟨p, mo + 263, none⟩), .int .i64 s, .int .i64 o, .bool on] W fun e w' => ∃ a, e = .returned (.tuple #[.int .i64 0, .iface 409 (.pointer (some a))]) ∧ Hid (ErrV es (.iface 409 (.pointer (some a))) z ∧ Only (fun _ => False) W w')) := fun W ho => by
        refine (HTb.out W ho).mono ?_
        rintro e w' (⟨h1, E', rfl, h2, h3⟩ | ⟨h1, _⟩)
        · rw [← hzz] at h2 h1
          obtain ⟨a, rfl⟩ := h2.is_err h1
          exact ⟨a, rfl, h2, h3⟩
        · exact absurd h1 hz
      rw [hX]
      obtain ⟨was, hwas⟩ : ∃ was, was = E.on s o := ⟨_, rfl⟩
      rw [← hwas] at HOn
      clear k hes hT hl hX HTb hwas ha0 hz h6 hzz
      go_enter Tryz.func24, Tryz.ntmps24
      go_wp2_with (first
        | (go_at_call 19; (with_reducible refine (HOn.out _ (Only.refl _ _)).mono ?_); rintro e w1 ⟨rfl, ho1⟩; have HO1 := Lib.hid ho1; clear ho1)
        | (go_at_call 65; (with_reducible refine (HA.out _ HO1.out).mono ?_); rintro e w2 ⟨a2, rfl, h2⟩))
      go_ret2
      exact ⟨_, _, rfl, h2.out.1, EnGoes.still HK.out (HO1.out.trans h2.out.2 (fun _ h => h.elim)), noNts _ _⟩
end
end Go.Proofs.YtbnfhklpobephaaGreatDoor
