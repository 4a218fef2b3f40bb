
/- A byte comes to an end: Feed. -/
import Derived.Test.YtbnfhklpobephaaGreatDoorJEnSub
namespace Go.Proofs.YtbnfhklpobephaaGreatDoor
open Go Go.RowKit
set_option maxRecDepth 100000
set_option maxHeartbeats 4000000

theorem idxH (W : World) {k : Nat} (hk : k < 6) {v : Value} (hv : hearCs[k]? = some v) : (Instr.index 183 (.agg hearCs.toArray) (.int .i64 (k : Int))).run Tryz.prog W = .ok v W := by
  have hu := Tryz.underlying183
  have hs : ∀ W, (sizeOf 182).run Tryz.prog W = .ok 1 W := fun W => by kernel_rfl
  have hg : ∀ W, (isAgg 182).run Tryz.prog W = .ok false W := fun W => by kernel_rfl
  obtain ⟨cs, hcs⟩ : ∃ cs, cs = hearCs := ⟨_, rfl⟩
  rw [← hcs] at hv ⊢
  simp [Instr.index, run_underlying hu, asIntOf, go_sem, part, hs, hg]
  rw [if_pos hk]
  simp only [hv]
  rfl
section
variable {w w1 w5 : World} {es : List Addr} {p mo : Nat} {tp : TypeId} {pre post : List Value} {M R : Nat → Prop} {ag : Nat → Nat → Bool} {E : Ee} {A : Option Addr} {n c N : Nat} {cut : Bool} {t : Tk}
/-- The calls' bounds. -/
structure Ee.Lo (E : Ee) : Prop where
  out : E.out.length ≤ 99990
  sent : E.sent ≤ 1000000
  heard : E.heard ≤ 1000000
  asked : E.asked ≤ 1000000
  tsent : E.T.sent ≤ 1000000
  theard : E.T.heard ≤ 1000000
  tasked : E.T.asked ≤ 1000000
theorem enFeed (k : IsEe w p mo tp pre post M R ag E) (hes : ErrsAt w es) (hT : TbW w) (hvk : VOk E.k.m) (hl : E.Lo) (c : UInt8) (mark : Bool) :
    Calls Tryz.prog 23 #[.pointer (some ⟨p, mo, none⟩), .int .u8 (c.toNat : Int), .bool mark] w fun e w' => ∃ v1 v2, e = .returned (.tuple #[v1, v2]) ∧ Hid (FedR w.heap.size w p mo tp pre post M R ag (E.feed ag c mark) v1 v2 w') := by
  have HK := Lib.hid k
  have HOn := Lib.hid (fun W (ho : Only (fun _ => False) w W) => enOn (k.same ho) 1 0)
  have hx : E.feed ag c mark = (match feed9 E.k ⟨c, mark, E.on 1 0⟩ with
    | (k, none) => ({ E with k := k }, [], [])
    | (k, some t) => ({ E with k := k } : Ee).tok ag t) := rfl
  obtain ⟨X, hX⟩ : ∃ X, X = E.feed ag c mark := ⟨_, rfl⟩
  rw [← hX] at hx ⊢
  clear hX
  obtain ⟨raw, hraw⟩ : ∃ raw, raw = E.on 1 0 := ⟨_, rfl⟩
  rw [← hraw] at hx HOn
  have h9 := feed9_vok hvk ⟨c, mark, raw⟩
  have h9b : E.k.m.Ok := by
    obtain ⟨_, _, _, _, _, _, _, kk⟩ := k
    exact kk.cl.1
  have h9c := feed9_ok h9b ⟨c, mark, raw⟩
  obtain ⟨k', o, hfe⟩ : ∃ k' o, feed9 E.k ⟨c, mark, raw⟩ = (k', o) := ⟨_, _, rfl⟩
  rw [hfe] at hx h9 h9c
  simp only at hx h9 h9c
  obtain ⟨t, ht⟩ : ∃ t, t = tokOf o := ⟨_, rfl⟩
  obtain ⟨si, hsi⟩ : ∃ si, si = o.isSome := ⟨_, rfl⟩
  obtain ⟨E1, hE1⟩ : ∃ E1, E1 = ({ E with k := k' } : Ee) := ⟨_, rfl⟩
  have HFd : Hid (∀ W, Only (fun _ => False) w W → Calls Tryz.prog 62 #[.pointer (some ⟨p, mo, none⟩), .int .u8 (c.toNat : Int), .bool mark, .bool raw] W fun e w' => ∃ A cp, e = .returned (.tuple #[.agg #[.int .i64 t.kind, .int .i64 t.code, .int .i64 t.opt, .slice A t.body.length cp, .bool t.cut], .bool si]) ∧ Hid (FdR w w' A cp t p mo tp pre post M R ag E1) ∧ Hid (Only (· = p) W w')) := fun W ho => by
    obtain ⟨a1, a2, a3, a4, a5, a6, a7, kk⟩ := HK.out.same ho
    have := cfeed_in kk.tpu kk.tpt kk.clAt ⟨c, mark, raw⟩ w.heap.size ho.size
    rw [hfe] at this
    refine this.mono ?_
    rintro e w' ⟨cs, rfl, _, _, h3, h4, h5⟩
    obtain ⟨x, rfl, hxt, hxb⟩ := h3.out
    obtain ⟨xt, xa, xc⟩ := x
    simp only at hxt
    subst hxt
    obtain ⟨y1, ky⟩ := kk.ofCl h5.out h4.out
    rw [hsi, hE1, ht]
    exact ⟨xa, xc, rfl, ⟨⟨y1, a2, a3, a4, a5, a6, a7, ky⟩, (ho.mono (fun _ h => h.elim)).trans h5.out (fun _ h => .inl h), hxb⟩, h5.out⟩
  have hrel : (si = false ∧ X = (E1, [], [])) ∨ (si = true ∧ X = E1.tok ag t ∧ TkIn t) := by
    cases o with
    | none => exact .inl ⟨hsi, by rw [hx, hE1]⟩
    | some y => exact .inr ⟨hsi, by rw [hx, hE1, ht]; rfl, by rw [ht]; exact h9.2 y rfl⟩
  have hbl : t.body.length ≤ 256 := by
    rw [ht]
    cases o with
    | none => exact Nat.zero_le _
    | some y => exact h9c y rfl
  have hl1 : E1.Lo := by rw [hE1]; exact ⟨hl.out, hl.sent, hl.heard, hl.asked, hl.tsent, hl.theard, hl.tasked⟩
  have HRel := Lib.hid hrel
  have HL1 := Lib.hid hl1
  have HBl : Hid (t.body.length ≤ 256) := hbl
  have HEs := Lib.hid hes
  have HTw := Lib.hid hT
  have HHs := Lib.hid enHearings
  have hkp := k.lt
  have hk18 := k.m18
  have HM18 := Lib.hid hk18
  have HZw : Hid (∀ W : World, Blk (W.alloc (.cells tkZ.toArray 178)) W.heap.size 178 tkZ) := fun W => Blk.new W _ tkZ
  obtain ⟨ci, hci⟩ : ∃ ci, ci = (c.toNat : Int) := ⟨_, rfl⟩
  rw [← hci] at HFd ⊢
  clear k hes hT hvk hl hx hraw h9 h9b h9c hfe ht hsi hE1 hrel hbl hl1 hk18 hci
  go_enter Tryz.func23, Tryz.ntmps23
  go_upto_region 1 with fail
  obtain ⟨kz, hkz⟩ : ∃ x, x = t.kind := ⟨_, rfl⟩
  obtain ⟨cz, hcz⟩ : ∃ x, x = t.code := ⟨_, rfl⟩
  obtain ⟨oz, hoz⟩ : ∃ x, x = t.opt := ⟨_, rfl⟩
  obtain ⟨nn, hnn⟩ : ∃ x, x = t.body.length := ⟨_, rfl⟩
  obtain ⟨cutz, hcut⟩ : ∃ x, x = t.cut := ⟨_, rfl⟩
  have HF1 : Hid (∀ w5 A2 c2, FdR w w5 A2 c2 t p mo tp pre post M R ag E1 → FdAt w (w5.alloc (.cells #[.int .i64 kz, .int .i64 cz, .int .i64 oz, .slice A2 nn c2, .bool cutz] 178)) w5.heap.size A2 c2 t p mo tp pre post M R ag E1) := fun w5 A2 c2 h => by rw [hkz, hcz, hoz, hnn, hcut]; exact FdAt.first h
  have HF2 : Hid (∀ w5 N A2 c2, FdR w w5 A2 c2 t p mo tp pre post M R ag E1 → Blk w5 N 178 tkZ → w.heap.size ≤ N → FdAt w (((((w5.setCell ⟨N, 0, none⟩ (.int .i64 kz)).setCell ⟨N, 1, none⟩ (.int .i64 cz)).setCell ⟨N, 2, none⟩ (.int .i64 oz)).setCell ⟨N, 3, none⟩ (.slice A2 nn c2)).setCell ⟨N, 4, none⟩ (.bool cutz)) N A2 c2 t p mo tp pre post M R ag E1) := fun w5 N A2 c2 h hz hN => by rw [hkz, hcz, hoz, hnn, hcut]; exact FdAt.second h hz hN HK.out
  rw [← hkz, ← hcz, ← hoz, ← hnn, ← hcut] at HFd
  have HEq : Hid (((kz = t.kind ∧ cz = t.code) ∧ oz = t.opt) ∧ nn = t.body.length ∧ cutz = t.cut) := ⟨⟨⟨hkz, hcz⟩, hoz⟩, hnn, hcut⟩
  clear hkz hcz hoz hnn hcut
  apply twiceT (C := fun N A2 c2 W7 => Hid (FdAt w W7 N A2 c2 t p mo tp pre post M R ag E1))
  case k =>
    intro key
    go_region_held3 (fun _ => True)
      (trivial)
      (first
        | ((with_reducible show Calls _ 19 _ (World.drew w) _); (with_reducible refine (HOn.out _ (Only.refl _ _).drew).mono ?_); rintro e w1 ⟨rfl, ho1⟩; have HA1 : Hid (Only (fun _ => False) w w1) := ((Only.refl _ _).drew).trans ho1 (fun _ h => h.elim); clear ho1)
        | ((with_reducible show Calls _ 19 _ (World.drew (World.alloc _ _)) _); (with_reducible refine (HOn.out _ ((Only.refl _ _).alloc _).drew).mono ?_); rintro e w1 ⟨rfl, ho1⟩; have HB1 : Hid (Only (fun _ => False) w w1) := (((Only.refl _ _).alloc _).drew).trans ho1 (fun _ h => h.elim); have HZ1 : Hid (Blk w1 w.heap.size 178 tkZ) := ((HZw.out w).drew).only ho1 (fun h => h); clear ho1)
        | ((with_reducible show Calls _ 62 _ (World.alloc _ _) _); (with_reducible refine (HFd.out _ (HA1.out.alloc _)).mono ?_); rintro e w5 ⟨A2, c2, rfl, h5, h6⟩; have hz := (HZw.out w1).only h6.out (fun e => by have := HA1.out.size; omega); have z0 : w5.cell? ⟨w1.heap.size, 0, none⟩ = some (.int .i64 0) := hz.cell 0; have z1 : w5.cell? ⟨w1.heap.size, 1, none⟩ = some (.int .i64 0) := hz.cell 1; have z2 : w5.cell? ⟨w1.heap.size, 2, none⟩ = some (.int .i64 0) := hz.cell 2; have z3 : w5.cell? ⟨w1.heap.size, 3, none⟩ = some (.slice none 0 0) := hz.cell 3; have z4 : w5.cell? ⟨w1.heap.size, 4, none⟩ = some (.bool false) := hz.cell 4; have f0 := hz.frozen 0; have f1 := hz.frozen 1; have f2 := hz.frozen 2; have f3 := hz.frozen 3; have f4 := hz.frozen 4; have HE := Lib.hid (HF2.out w5 w1.heap.size A2 c2 h5.out hz HA1.out.size); clear h5 h6 hz)
        | ((with_reducible show Calls _ 62 _ _ _); (with_reducible refine (HFd.out _ HB1.out).mono ?_); rintro e w5 ⟨A2, c2, rfl, h5, h6⟩; have hz := HZ1.out.only h6.out (fun e => by omega); have z0 : w5.cell? ⟨w.heap.size, 0, none⟩ = some (.int .i64 0) := hz.cell 0; have z1 : w5.cell? ⟨w.heap.size, 1, none⟩ = some (.int .i64 0) := hz.cell 1; have z2 : w5.cell? ⟨w.heap.size, 2, none⟩ = some (.int .i64 0) := hz.cell 2; have z3 : w5.cell? ⟨w.heap.size, 3, none⟩ = some (.slice none 0 0) := hz.cell 3; have z4 : w5.cell? ⟨w.heap.size, 4, none⟩ = some (.bool false) := hz.cell 4; have f0 := hz.frozen 0; have f1 := hz.frozen 1; have f2 := hz.frozen 2; have f3 := hz.frozen 3; have f4 := hz.frozen 4; have HE := Lib.hid (HF2.out w5 w.heap.size A2 c2 h5.out hz (Nat.le_refl _)); clear h5 h6 hz)
        | ((with_reducible show Calls _ 62 _ _ _); (with_reducible refine (HFd.out _ HA1.out).mono ?_); rintro e w5 ⟨A2, c2, rfl, h5, h6⟩; have HE := Lib.hid (HF1.out w5 A2 c2 h5.out); clear h5 h6))
    all_goals (first
      | (obtain ⟨W7, hW7⟩ : ∃ W7, W7 = w5.alloc (.cells #[.int .i64 kz, .int .i64 cz, .int .i64 oz, .slice A2 nn c2, .bool cutz] 178) := ⟨_, rfl⟩
         rw [← hW7] at HE ⊢
         obtain ⟨N, hN⟩ : ∃ N, N = w5.heap.size := ⟨_, rfl⟩
         rw [← hN] at HE ⊢
         exact key N A2 c2 W7 HE)
      | (obtain ⟨W7, hW7⟩ : ∃ W7, W7 = (((((w5.setCell ⟨w.heap.size, 0, none⟩ (.int .i64 kz)).setCell ⟨w.heap.size, 1, none⟩ (.int .i64 cz)).setCell ⟨w.heap.size, 2, none⟩ (.int .i64 oz)).setCell ⟨w.heap.size, 3, none⟩ (.slice A2 nn c2)).setCell ⟨w.heap.size, 4, none⟩ (.bool cutz)) := ⟨_, rfl⟩
         rw [← hW7] at HE ⊢
         obtain ⟨N, hN⟩ : ∃ N, N = w.heap.size := ⟨_, rfl⟩
         rw [← hN] at HE ⊢
         exact key N A2 c2 W7 HE)
      | (obtain ⟨W7, hW7⟩ : ∃ W7, W7 = (((((w5.setCell ⟨w1.heap.size, 0, none⟩ (.int .i64 kz)).setCell ⟨w1.heap.size, 1, none⟩ (.int .i64 cz)).setCell ⟨w1.heap.size, 2, none⟩ (.int .i64 oz)).setCell ⟨w1.heap.size, 3, none⟩ (.slice A2 nn c2)).setCell ⟨w1.heap.size, 4, none⟩ (.bool cutz)) := ⟨_, rfl⟩
         rw [← hW7] at HE ⊢
         obtain ⟨N, hN⟩ : ∃ N, N = w1.heap.size := ⟨_, rfl⟩
         rw [← hN] at HE ⊢
         exact key N A2 c2 W7 HE))
  case h =>
    intro N A2 c2 W7 H0
    have h0 := H0.out
    obtain ⟨⟨⟨e1, e2⟩, e3⟩, e4, e5⟩ := HEq.out
    have hbx : Blk W7 N 178 (tkL kz cz oz A2 nn c2 cutz) := by rw [e1, e2, e3, e4, e5]; exact h0.box
    have HBx : Hid (∀ W, Only (fun _ => False) W7 W → Blk W N 178 (tkL kz cz oz A2 nn c2 cutz)) := fun W ho => hbx.only ho (fun h => h)
    have HG7 : Hid (Goes w.heap.size w M R W7 M R) := ⟨h0.only.mono (fun i hi => .inl (hi ▸ HK.out.mp)), fun _ h => .inl h, fun _ h => .inl h⟩
    have HGf : Hid (∀ W, Only (fun _ => False) W7 W → ∀ r v1 v2 w', FedR W.heap.size W p mo tp pre post M R ag r v1 v2 w' → FedR w.heap.size w p mo tp pre post M R ag r v1 v2 w') := fun W ho r v1 v2 w' h => FedR.from_ ⟨HG7.out.only.trans ho (fun _ h => h.elim), fun _ h => .inl h, fun _ h => .inl h⟩ h
    have HK7 : Hid (∀ W, Only (fun _ => False) W7 W → IsEe W p mo tp pre post M R ag E1) := fun W ho => h0.is.same ho
    have HE7 : Hid (∀ W, Only (fun _ => False) W7 W → ErrsAt W es ∧ TbW W) := fun W ho =>
      ⟨HEs.out.far (HG7.out.only.trans ho (fun _ h => h.elim)) (fun i hi hm => by have := HM18.out i hm; omega), HTw.out.far (HG7.out.only.trans ho (fun _ h => h.elim)) (fun i hi hm => by have := HM18.out i hm; omega)⟩
    have hnn : nn ≤ 256 := by rw [e4]; exact HBl.out
    have hcp := h0.body.caps rfl
    rw [← e4] at hcp
    have HS7 : Hid (∀ W, Only (fun _ => False) W7 W → Src W A2 nn t.body) := fun W ho => by rw [e4]; exact Body.src (own_same h0.body ho) rfl
    have HCp := Lib.hid hcp
    rcases HRel.out with ⟨hs, hX⟩ | ⟨hs, hX, hin⟩
    · subst hs
      have HX := Lib.hid hX
      clear hX h0 hbx e1 e2 e3 e4 e5 hnn hcp
      go_wp2
      go_ret2
      refine ⟨_, _, rfl, ?_⟩
      rw [HX.out]
      exact ⟨⟨M, R, HK7.out _ (Only.refl _ _), HG7.out⟩, noDat _ _, noNts _ _⟩
    · subst hs
      have hl := HL1.out
      have hlo : E1.out.length ≤ 100000 := by have := hl.out; omega
      rcases hin with ⟨h, x, hx⟩ | h | ⟨h, v, o3, hv, hvr, ho3, hor⟩ | h | h
      · have hX1 : X = (E1, [b8 (x.toNat : Int)], []) := by rw [hX, ← hx]; unfold Ee.tok; rw [if_pos h]
        obtain rfl : kz = 1 := e1.trans h
        obtain rfl : cz = (x.toNat : Int) := e2.trans hx
        have HX : Hid (∀ W, Only (fun _ => False) W7 W → HearsE 114 W p mo tp pre post M R ag (tkV 1 (x.toNat : Int) oz A2 nn c2 cutz) X) := fun W ho => by
          rw [hX1]
          exact enData (HK7.out W ho) x
        clear hX hX1 h0 hbx e1 e2 e3 e4 e5 hnn hcp hl hlo
        have hix : ∀ W, (Instr.index 183 (.agg hearCs.toArray) (.int .i64 1)).run Tryz.prog W = .ok (.func (.func 114) #[] #[]) W := fun W => idxH W (k := 1) (by decide) rfl
        go_wp2
        go_region_held3 (fun W => W.cell? ⟨N, 0, none⟩ = some (.int .i64 1))
          (first | exact (HBx.out _ (Only.refl _ _).drew).cell 0 | exact (HBx.out _ HO8.out).cell 0)
          (first | (go_at_call 63; (with_reducible refine (HHs.out _).mono ?_); rintro e w8 ⟨rfl, h8⟩; have HO8 : Hid (Only (fun _ => False) W7 w8) := ((Only.refl _ _).drew).trans h8.out (fun _ h => h.elim); clear h8))
        go_wp2_with (first
          | ((with_reducible show wpList _ _ _ (⟨some 30, .load _ _, _, _, _, _⟩ :: _) _ _); refine wpList_load_mid rfl 178 _ rfl N 0 rfl (tkL 1 (x.toNat : Int) oz A2 nn c2 cutz) _ (range_of (HBx.out _ HO8.out)) Tryz.underlying178 rfl size_tok ?_)
          | (go_at_call 114; (with_reducible refine (HX.out _ HO8.out).mono ?_); rintro e w9 ⟨v1, v2, rfl, h9⟩))
        go_ret2
        exact ⟨v1, v2, rfl, HGf.out _ HO8.out _ _ _ _ h9.out⟩
      · have hX1 : X = (if cz = 246 then E1.send 2 (tkBytes (tk2 241)) else E1, [], [⟨1, cz, 0, 0, false⟩]) := by rw [hX, e2]; unfold Ee.tok; rw [if_neg (by rw [h]; decide), if_pos h]
        obtain rfl : kz = 2 := e1.trans h
        skip
        have HX : Hid (∀ W, Only (fun _ => False) W7 W → HearsE 115 W p mo tp pre post M R ag (tkV 2 cz oz A2 nn c2 cutz) X) := fun W ho => by
          rw [hX1]
          exact enPlain (HK7.out W ho) (HE7.out W ho).1 hlo
        clear hX hX1 h0 hbx e1 e2 e3 e4 e5 hnn hcp hl hlo
        have hix : ∀ W, (Instr.index 183 (.agg hearCs.toArray) (.int .i64 2)).run Tryz.prog W = .ok (.func (.func 115) #[] #[]) W := fun W => idxH W (k := 2) (by decide) rfl
        go_wp2
        go_region_held3 (fun W => W.cell? ⟨N, 0, none⟩ = some (.int .i64 2))
          (first | exact (HBx.out _ (Only.refl _ _).drew).cell 0 | exact (HBx.out _ HO8.out).cell 0)
          (first | (go_at_call 63; (with_reducible refine (HHs.out _).mono ?_); rintro e w8 ⟨rfl, h8⟩; have HO8 : Hid (Only (fun _ => False) W7 w8) := ((Only.refl _ _).drew).trans h8.out (fun _ h => h.elim); clear h8))
        go_wp2_with (first
          | ((with_reducible show wpList _ _ _ (⟨some 30, .load _ _, _, _, _, _⟩ :: _) _ _); refine wpList_load_mid rfl 178 _ rfl N 0 rfl (tkL 2 cz oz A2 nn c2 cutz) _ (range_of (HBx.out _ HO8.out)) Tryz.underlying178 rfl size_tok ?_)
          | (go_at_call 115; (with_reducible refine (HX.out _ HO8.out).mono ?_); rintro e w9 ⟨v1, v2, rfl, h9⟩))
        go_ret2
        exact ⟨v1, v2, rfl, HGf.out _ HO8.out _ _ _ _ h9.out⟩
      · have hX1 : X = ((E1.hearVerb ag v o3).1, [], (E1.hearVerb ag v o3).2) := by rw [hX]; unfold Ee.tok; rw [if_neg (by rw [h]; decide), if_neg (by rw [h]; decide), if_pos h, hv, ho3, Int.toNat_natCast, Int.toNat_natCast]
        obtain rfl : kz = 3 := e1.trans h
        obtain rfl : cz = (v : Int) := e2.trans hv
        obtain rfl : oz = (o3 : Int) := e3.trans ho3
        have HX : Hid (∀ W, Only (fun _ => False) W7 W → HearsE 116 W p mo tp pre post M R ag (tkV 3 (v : Int) (o3 : Int) A2 nn c2 cutz) X) := fun W ho => by
          rw [hX1]
          exact enVerb (HK7.out W ho) (HE7.out W ho).1 (HE7.out W ho).2 hl.out hl.sent hl.heard hl.tsent hl.theard hvr hor
        clear hX hX1 h0 hbx e1 e2 e3 e4 e5 hnn hcp hl hlo
        have hix : ∀ W, (Instr.index 183 (.agg hearCs.toArray) (.int .i64 3)).run Tryz.prog W = .ok (.func (.func 116) #[] #[]) W := fun W => idxH W (k := 3) (by decide) rfl
        go_wp2
        go_region_held3 (fun W => W.cell? ⟨N, 0, none⟩ = some (.int .i64 3))
          (first | exact (HBx.out _ (Only.refl _ _).drew).cell 0 | exact (HBx.out _ HO8.out).cell 0)
          (first | (go_at_call 63; (with_reducible refine (HHs.out _).mono ?_); rintro e w8 ⟨rfl, h8⟩; have HO8 : Hid (Only (fun _ => False) W7 w8) := ((Only.refl _ _).drew).trans h8.out (fun _ h => h.elim); clear h8))
        go_wp2_with (first
          | ((with_reducible show wpList _ _ _ (⟨some 30, .load _ _, _, _, _, _⟩ :: _) _ _); refine wpList_load_mid rfl 178 _ rfl N 0 rfl (tkL 3 (v : Int) (o3 : Int) A2 nn c2 cutz) _ (range_of (HBx.out _ HO8.out)) Tryz.underlying178 rfl size_tok ?_)
          | (go_at_call 116; (with_reducible refine (HX.out _ HO8.out).mono ?_); rintro e w9 ⟨v1, v2, rfl, h9⟩))
        go_ret2
        exact ⟨v1, v2, rfl, HGf.out _ HO8.out _ _ _ _ h9.out⟩
      · have hX1 : X = ((E1.hearSub oz cutz t.body).1, [], (E1.hearSub oz cutz t.body).2) := by rw [hX, e3, e5]; unfold Ee.tok; rw [if_neg (by rw [h]; decide), if_neg (by rw [h]; decide), if_neg (by rw [h]; decide), if_pos h]
        obtain rfl : kz = 4 := e1.trans h
        skip
        have HX : Hid (∀ W, Only (fun _ => False) W7 W → HearsE 117 W p mo tp pre post M R ag (tkV 4 cz oz A2 nn c2 cutz) X) := fun W ho => by
          rw [hX1]
          exact enSub (HK7.out W ho) (HE7.out W ho).1 hlo (HS7.out W ho) hnn HCp.out.1 HCp.out.2
        clear hX hX1 h0 hbx e1 e2 e3 e4 e5 hnn hcp hl hlo
        have hix : ∀ W, (Instr.index 183 (.agg hearCs.toArray) (.int .i64 4)).run Tryz.prog W = .ok (.func (.func 117) #[] #[]) W := fun W => idxH W (k := 4) (by decide) rfl
        go_wp2
        go_region_held3 (fun W => W.cell? ⟨N, 0, none⟩ = some (.int .i64 4))
          (first | exact (HBx.out _ (Only.refl _ _).drew).cell 0 | exact (HBx.out _ HO8.out).cell 0)
          (first | (go_at_call 63; (with_reducible refine (HHs.out _).mono ?_); rintro e w8 ⟨rfl, h8⟩; have HO8 : Hid (Only (fun _ => False) W7 w8) := ((Only.refl _ _).drew).trans h8.out (fun _ h => h.elim); clear h8))
        go_wp2_with (first
          | ((with_reducible show wpList _ _ _ (⟨some 30, .load _ _, _, _, _, _⟩ :: _) _ _); refine wpList_load_mid rfl 178 _ rfl N 0 rfl (tkL 4 cz oz A2 nn c2 cutz) _ (range_of (HBx.out _ HO8.out)) Tryz.underlying178 rfl size_tok ?_)
          | (go_at_call 117; (with_reducible refine (HX.out _ HO8.out).mono ?_); rintro e w9 ⟨v1, v2, rfl, h9⟩))
        go_ret2
        exact ⟨v1, v2, rfl, HGf.out _ HO8.out _ _ _ _ h9.out⟩
      · have hX1 : X = (E1, [], [⟨5, 0, 0, oz, false⟩]) := by rw [hX, e3]; unfold Ee.tok; rw [if_neg (by rw [h]; decide), if_neg (by rw [h]; decide), if_neg (by rw [h]; decide), if_neg (by rw [h]; decide)]
        obtain rfl : kz = 5 := e1.trans h
        skip
        have HX : Hid (∀ W, Only (fun _ => False) W7 W → HearsE 118 W p mo tp pre post M R ag (tkV 5 cz oz A2 nn c2 cutz) X) := fun W ho => by
          rw [hX1]
          exact enBadT (HK7.out W ho)
        clear hX hX1 h0 hbx e1 e2 e3 e4 e5 hnn hcp hl hlo
        have hix : ∀ W, (Instr.index 183 (.agg hearCs.toArray) (.int .i64 5)).run Tryz.prog W = .ok (.func (.func 118) #[] #[]) W := fun W => idxH W (k := 5) (by decide) rfl
        go_wp2
        go_region_held3 (fun W => W.cell? ⟨N, 0, none⟩ = some (.int .i64 5))
          (first | exact (HBx.out _ (Only.refl _ _).drew).cell 0 | exact (HBx.out _ HO8.out).cell 0)
          (first | (go_at_call 63; (with_reducible refine (HHs.out _).mono ?_); rintro e w8 ⟨rfl, h8⟩; have HO8 : Hid (Only (fun _ => False) W7 w8) := ((Only.refl _ _).drew).trans h8.out (fun _ h => h.elim); clear h8))
        go_wp2_with (first
          | ((with_reducible show wpList _ _ _ (⟨some 30, .load _ _, _, _, _, _⟩ :: _) _ _); refine wpList_load_mid rfl 178 _ rfl N 0 rfl (tkL 5 cz oz A2 nn c2 cutz) _ (range_of (HBx.out _ HO8.out)) Tryz.underlying178 rfl size_tok ?_)
          | (go_at_call 118; (with_reducible refine (HX.out _ HO8.out).mono ?_); rintro e w9 ⟨v1, v2, rfl, h9⟩))
        go_ret2
        exact ⟨v1, v2, rfl, HGf.out _ HO8.out _ _ _ _ h9.out⟩
end
end Go.Proofs.YtbnfhklpobephaaGreatDoor
