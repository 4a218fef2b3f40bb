/- Several texts in one. -/
import Derived.Test.YtbnfhklpobephaaGreatDoorJIacSay
import Derived.Test.YtbnfhklpobephaaGreatDoorJIacFeed
import Derived.Deep.RegionHeld3
import Derived.Test.YtbnfhklpobephaaGreatDoorJHsGather
import Derived.Test.YtbnfhklpobephaaGreatDoorJRowK
import Derived.Test.YtbnfhklpobephaaGreatDoorJQsCalls
/- Package clean: one contract for each of a Cleaner's calls, wherever it lies in a block. -/
namespace Go.Proofs.YtbnfhklpobephaaGreatDoor
open Go Go.RowKit
set_option maxRecDepth 100000
set_option maxHeartbeats 4000000

section
variable {w w' : World} {p mo : Nat} {tp : TypeId} {pre post : List Value} {m : Ms}
theorem get_post {xs : List Value} (h : pre.length = mo) (hx : xs.length = 261) (i : Nat) : (pre ++ (xs ++ post))[mo + 261 + i]? = post[i]? := by
  rw [← List.append_assoc, List.getElem?_append_right (by simp; omega), List.length_append, h, hx, Nat.add_sub_cancel_left]
theorem set_post {xs : List Value} (h : pre.length = mo) (hx : xs.length = 261) (i : Nat) (v : Value) : (pre ++ (xs ++ post)).set (mo + 261 + i) v = pre ++ (xs ++ post.set i v) := by
  rw [← List.append_assoc, List.set_append_right _ _ (by simp; omega), List.length_append, h, hx, Nat.add_sub_cancel_left, List.append_assoc]
/-- What stands behind the machine. -/
theorem MsAt.behind (h : MsAt w p mo tp pre m post) (i : Nat) : w.cell? ⟨p, mo + 261 + i, none⟩ = post[i]? := by
  obtain ⟨_, h0, _, hb, h3, _⟩ := h
  rw [hb.cell, get_post h0 (msCells_length _ _ h3)]
theorem MsAt.setPost (h : MsAt w p mo tp pre m post) (i : Nat) (v : Value) : MsAt (w.setCell ⟨p, mo + 261 + i, none⟩ v) p mo tp pre m (post.set i v) := by
  obtain ⟨h1, h0, junk, h2, h3, h4⟩ := h
  refine ⟨h1, h0, junk, ?_, h3, h4⟩
  have := h2.setCell (mo + 261 + i) v
  rwa [set_post h0 (msCells_length _ _ h3)] at this
end

/-- A cleaner that lies in block p from cell mo on. -/
def ClAt (w : World) (p mo : Nat) (tp : TypeId) (pre : List Value) (k : Cl) (post : List Value) : Prop := MsAt w p mo tp pre k.m (.bool k.bh :: .bool k.deaf :: post)
section
variable {w w' : World} {p mo : Nat} {tp : TypeId} {pre post : List Value} {k : Cl}
theorem ClAt.only {S : Nat → Prop} (h : ClAt w p mo tp pre k post) (ho : Only S w w') (hS : ¬ S p) : ClAt w' p mo tp pre k post := MsAt.only h ho hS
theorem ClAt.lt (h : ClAt w p mo tp pre k post) : p < w.heap.size := MsAt.lt h
theorem ClAt.cDeaf (h : ClAt w p mo tp pre k post) : w.cell? ⟨p, mo + 262, none⟩ = some (.bool k.deaf) := MsAt.behind h 1
theorem ClAt.setDeaf (h : ClAt w p mo tp pre k post) (d : Bool) : ClAt (w.setCell ⟨p, mo + 262, none⟩ (.bool d)) p mo tp pre { k with deaf := d } post := MsAt.setPost h 1 _
theorem ClAt.drew (h : ClAt w p mo tp pre k post) : ClAt w.drew p mo tp pre k post := h
theorem ClAt.alloc (h : ClAt w p mo tp pre k post) (o : Obj) : ClAt (w.alloc o) p mo tp pre k post := MsAt.alloc h o
end

/-- Data's code is a byte. -/
def Tk.Byte (t : Tk) : Prop := t.kind = 1 → ∃ x : UInt8, t.code = (x.toNat : Int)
theorem feed_byte (m : Ms) (c : UInt8) : ∀ t, (feed m c).2 = some t → t.Byte := by
  intro t ht
  unfold feed at ht
  unfold Tk.Byte
  split at ht
  all_goals
    repeat' split at ht
    all_goals first
      | (cases ht; done)
      | (injection ht with ht; subst ht; intro h; first | exact ⟨255, rfl⟩ | exact ⟨c, rfl⟩ | (simp at h; done))

theorem next_cl {w : World} {p mo : Nat} {tp : TypeId} {pre post : List Value} {k : Cl} (h : ClAt w p mo tp pre k post) (x : UInt8) (r : Bool) :
    Calls Tryz.prog 161 #[.pointer (some ⟨p, mo + 261, none⟩), .int .u8 (x.toNat : Int), .bool r] w fun e w' => e = .returned (.bool (!(k.bh && decide (x.toNat = 0) && !r))) ∧ Hid (ClAt w' p mo tp pre { k with bh := decide (x.toNat = 13) && !r } post) ∧ Hid (Only (· = p) w w') := by
  obtain ⟨h1, h0, junk, h2, h3, h4⟩ := h
  have hl := msCells_length _ _ h3
  refine (next_in h2 (mo := mo + 261) (b := k.bh) (get_post (i := 0) h0 hl) x r).mono ?_
  rintro e w' ⟨rfl, hb, ho⟩
  refine ⟨rfl, ⟨h1, h0, junk, ?_, h3, h4⟩, ho.out⟩
  have := hb.out
  have e := set_post (post := .bool k.bh :: .bool k.deaf :: post) h0 hl 0 (.bool (decide (x.toNat = 13) && !r))
  rw [Nat.add_zero] at e
  rw [e] at this
  exact this

theorem stays_heard {w : World} {p mo : Nat} {tp : TypeId} {pre post : List Value} {km : Ms} {kb : Bool} (h : ClAt w p mo tp pre ⟨km, false, kb⟩ post) (x : UInt8) (to_ : Int) (tcut : Bool) (A : Option Addr) (n c : Nat) (raw : Bool) :
    Calls Tryz.prog 113 #[.pointer (some ⟨p, mo, none⟩), .agg #[.int .i64 1, .int .i64 (x.toNat : Int), .int .i64 to_, .slice A n c, .bool tcut], .bool raw] w fun e w' =>
      e = .returned (.bool (!(kb && decide (x.toNat = 0) && !raw))) ∧ Hid (ClAt w' p mo tp pre ⟨km, false, decide (x.toNat = 13) && !raw⟩ post) ∧ Hid (Only (· = p) w w') := by
  have hlt := h.lt
  have hne : p ≠ w.heap.size := by omega
  have cd := h.cDeaf
  have fd := MsAt.frozen h (mo + 262)
  have HH := Lib.hid h
  have HO := Lib.hid (Only.refl (· = p) w)
  have hw : IntKind.u8.wrap ((x.toNat : Nat) : Int) = (x.toNat : Int) := by rw [IntKind.wrap_u8]; have := x.toNat_lt; omega
  have hb := x.toNat_lt
  obtain ⟨q, hq⟩ : ∃ q, q = !(kb && decide (x.toNat = 0) && !raw) := ⟨_, rfl⟩
  rw [← hq]
  have HN : Hid (∀ W, ClAt W p mo tp pre ⟨km, false, kb⟩ post → Calls Tryz.prog 161 #[.pointer (some ⟨p, mo + 261, none⟩), .int .u8 (x.toNat : Int), .bool raw] W fun e w' => e = .returned (.bool q) ∧ Hid (ClAt w' p mo tp pre ⟨km, false, decide (x.toNat = 13) && !raw⟩ post) ∧ Hid (Only (· = p) W w')) := fun W hW => by
    rw [hq]
    exact next_cl hW x raw
  clear h hq
  go_enter Tryz.func113, Tryz.ntmps113
  go_wp2_with fail
  refine region_tail 13 (by kernel_rfl) (by kernel_rfl) ?_
  simp only [List.take_succ_cons, List.take_zero, List.drop_succ_cons, List.drop_zero]
  repeat still_step
  refine wpStill_nil ?_
  go_wp2_with (first
    | (go_at_call 161; refine (HN.out _ (HH.out.alloc _).drew).mono ?_; rintro e w2 ⟨rfl, hB2, ho2⟩))
  go_ret
  exact ⟨rfl, hB2.out, ((HO.out.alloc _).drew).trans ho2.out (fun i hi => .inl hi)⟩

theorem stays_in {w : World} {p mo : Nat} {tp : TypeId} {pre post : List Value} {k : Cl} (h : ClAt w p mo tp pre k post) (t : Tk) (ht : t.Byte) (A : Option Addr) (n c : Nat) (raw : Bool) :
    Calls Tryz.prog 113 #[.pointer (some ⟨p, mo, none⟩), .agg (tkCells t (.slice A n c)).toArray, .bool raw] w fun e w' =>
      e = .returned (.bool (stays9 (k.deaf && !isDM t) k.bh raw t)) ∧ Hid (ClAt w' p mo tp pre ⟨k.m, k.deaf && !isDM t, behind9 (k.deaf && !isDM t) k.bh raw t⟩ post) ∧ Hid (Only (· = p) w w') := by
  have hlt := h.lt
  have hne : p ≠ w.heap.size := by omega
  obtain ⟨tk, tc, to_, tb, tcut⟩ := t
  obtain ⟨km, kd, kb⟩ := k
  have cd := h.cDeaf
  have fd := MsAt.frozen h (mo + 262)
  have HH := Lib.hid h
  have HO := Lib.hid (Only.refl (· = p) w)
  by_cases h1 : tk = 1
  · obtain ⟨x, hx⟩ := ht h1
    simp only at hx
    subst h1 hx
    have hw : IntKind.u8.wrap ((x.toNat : Nat) : Int) = (x.toNat : Int) := by rw [IntKind.wrap_u8]; have := x.toNat_lt; omega
    have hb := x.toNat_lt
    cases kd with
    | true =>
      simp only [isDM, isData, stays9, behind9, tkCells]
      clear h
      go_enter Tryz.func113, Tryz.ntmps113
      go_wp2_with fail
      go_quiet (fail)
      go_wp2
      go_ret
      exact ⟨by simp, HH.out.alloc _, (HO.out.alloc _).drewN _⟩
    | false =>
      refine (stays_heard h x to_ tcut A n c raw).mono ?_
      rintro e w' ⟨rfl, hB2, ho2⟩
      have e13 : decide (((x.toNat : Nat) : Int) = 13) = decide (x.toNat = 13) := by rw [Bool.eq_iff_iff]; simp; omega
      refine ⟨congrArg (fun b => Ending.returned (Value.bool b)) ?_, Lib.hid ?_, ho2⟩
      · simp [isDM, isData, stays9]
      · have := hB2.out
        simpa [isDM, isData, behind9, e13] using this
  · have e1 : (tk == 1) = false := by simpa using h1
    have e1' : decide (tk = 1) = false := by simpa using h1
    by_cases h2 : tk = 2
    · subst h2
      obtain ⟨q, hq⟩ : ∃ q, q = decide (tc = 242) := ⟨_, rfl⟩
      have e2 : (tc != 242) = !q := by rw [hq, Bool.eq_iff_iff]; simp
      have e3 : decide (tc = 242) = q := hq.symm
      have HD : Hid (ClAt ((w.setCell ⟨p, mo + 262, none⟩ (.bool (kd && !q))).alloc (.cells (tkCells ⟨2, tc, to_, tb, tcut⟩ (.slice A n c)).toArray 178)) p mo tp pre ⟨km, kd && !q, kb⟩ post) := (HH.out.setDeaf _).alloc _
      simp only [isDM, isData, stays9, behind9, tkCells]
      simp only [tkCells] at HD
      rw [e3]
      clear h hq e3
      cases kd <;> cases q
      all_goals
        go_enter Tryz.func113, Tryz.ntmps113
        go_wp2
        go_ret
        exact ⟨rfl, HD.out, (HO.out.setCell (p := ⟨p, mo + 262, none⟩) (.inl rfl) _).alloc _⟩
    · have e2 : (tk == 2) = false := by simpa using h2
      have e2' : decide (tk = 2) = false := by simpa using h2
      simp only [isDM, isData, stays9, behind9, tkCells, e1', e2', Bool.false_and, Bool.not_false, Bool.and_true, Bool.true_or]
      clear h h1 h2
      go_enter Tryz.func113, Tryz.ntmps113
      go_wp2
      go_ret
      exact ⟨rfl, HH.out.alloc _, HO.out.alloc _⟩

/-- What a token that ended, or none, leaves. -/
def told9 (m : Ms) (d kb raw : Bool) : Option Tk → Cl × Option Tk
  | none => (⟨m, d, kb⟩, none)
  | some t => (⟨m, d && !isDM t, behind9 (d && !isDM t) kb raw t⟩, if stays9 (d && !isDM t) kb raw t then some t else none)
theorem feed9_told (k : Cl) (x : Bt) : feed9 k x = told9 (feed k.m x.c).1 (k.deaf || x.mark) k.bh x.raw (feed k.m x.c).2 := by
  unfold feed9
  cases h : feed k.m x.c with
  | mk m o => cases o <;> rfl
/-- What a byte leaves. -/
def FedCl (w : World) (p mo : Nat) (tp : TypeId) (pre post : List Value) (B : Nat) (r : Cl × Option Tk) (e : Ending) (w' : World) : Prop :=
  ∃ cs : List Value, e = .returned (.tuple #[.agg cs.toArray, .bool r.2.isSome]) ∧ Hid (cs.length = 5) ∧ Hid (∀ v ∈ cs, v.oneCell' = true) ∧
      Hid (∃ x : TkP, cs = x.cells ∧ x.t = tokOf r.2 ∧ Body w' B x.val x.t.body) ∧ Hid (ClAt w' p mo tp pre r.1 post) ∧ Hid (Only (· = p) w w')

theorem cfeed_in {w : World} {p mo : Nat} {tp : TypeId} {pre post : List Value} {k : Cl} (htp : tp ≠ 5) (_htt : tp ≠ 178) (h : ClAt w p mo tp pre k post) (x : Bt) (B : Nat) (hB : B ≤ w.heap.size) :
    Calls Tryz.prog 62 #[.pointer (some ⟨p, mo, none⟩), .int .u8 (x.c.toNat : Int), .bool x.mark, .bool x.raw] w (FedCl w p mo tp pre post B (feed9 k x)) := by
  have hlt := h.lt
  have hpg : p ≠ w.heap.size := by omega
  obtain ⟨km, kd, kb⟩ := k
  obtain ⟨c, mark, raw⟩ := x
  have cd : w.cell? ⟨p, mo + 262, none⟩ = some (.bool kd) := h.cDeaf
  have fd := MsAt.frozen h (mo + 262)
  obtain ⟨m', o, hfe⟩ : ∃ m' o, feed km c = (m', o) := ⟨_, _, rfl⟩
  have hby := feed_byte km c
  obtain ⟨d, hd⟩ : ∃ d, d = (kd || mark) := ⟨_, rfl⟩
  obtain ⟨w0, hw0⟩ : ∃ w0, w0 = (w.setCell ⟨p, mo + 262, none⟩ (.bool d)).alloc (.cells (tkCells Tk.none (.slice none 0 0)).toArray 178) := ⟨_, rfl⟩
  have HC0 : Hid (ClAt w0 p mo tp pre ⟨km, d, kb⟩ post) := by rw [hw0]; exact (h.setDeaf d).alloc _
  have HR0 : Hid (Blk w0 w.heap.size 178 (tkCells Tk.none (.slice none 0 0))) := by rw [hw0]; exact Blk.new' _ _ _ (setCell_size _ _ _)
  have HO0 : Hid (Only (· = p) w w0) := by rw [hw0]; exact ((Only.refl (· = p) w).setCell (p := ⟨p, mo + 262, none⟩) (.inl rfl) _).alloc _
  have hz0 : w0.heap.size = w.heap.size + 1 := by rw [hw0]; simp
  have HFd : Hid (Calls Tryz.prog 112 #[.pointer (some ⟨p, mo, none⟩), .int .u8 (c.toNat : Int)] w0 fun e w' => ∃ v0 v1 v2 v3 v4 : Value, e = .returned (.tuple #[.agg #[v0, v1, v2, v3, v4], .bool o.isSome]) ∧ Hid (∀ v ∈ [v0, v1, v2, v3, v4], v.oneCell' = true) ∧
      Hid (∃ x : TkP, [v0, v1, v2, v3, v4] = x.cells ∧ x.t = tokOf o ∧ Body w' B x.val x.t.body) ∧ Hid (ClAt w' p mo tp pre ⟨m', d, kb⟩ post) ∧ Hid (Only (· = p) w0 w')) := by
    have := fin_any (m := km) htp HC0.out c B (by omega)
    rw [hfe] at this
    refine this.mono ?_
    rintro e w' ⟨A, n, cc, he, hn, hb, hm, ho⟩
    subst hn
    exact ⟨_, _, _, _, _, he, Lib.hid (TkP.cells_one ⟨tokOf o, A, cc⟩), Lib.hid ⟨⟨tokOf o, A, cc⟩, rfl, rfl, hb⟩, Lib.hid hm, Lib.hid ho⟩
  have hww : (w.setCell ⟨p, mo + 262, none⟩ (.bool d)).alloc (.cells #[.int .i64 0, .int .i64 0, .int .i64 0, .slice none 0 0, .bool false] 178) = w0 := hw0.symm
  have hF9 := feed9_told ⟨km, kd, kb⟩ ⟨c, mark, raw⟩
  simp only [hfe] at hF9
  rw [← hd] at hF9
  unfold FedCl
  rw [hF9]
  clear h hw0 hF9 hB
  cases o with
  | none =>
    cases kd
    all_goals
      simp only [Bool.true_or, Bool.false_or] at hd
      subst hd
      go_enter Tryz.func62, Tryz.ntmps62
      go_wp2_with (first
        | (go_at_call 112; (with_reducible refine HFd.out.mono ?_); rintro e w1 ⟨v0, v1, v2, v3, v4, rfl, hco, hcx, hm1, ho1⟩)
        | ((with_reducible show wpList _ _ _ (⟨none, .store 178 (.tmp 10) _, _, _, _, _⟩ :: _) _ _); refine step_store rfl 178 _ _ rfl w1.heap.size rfl [v0, v1, v2, v3, v4] rfl _ (tkCells Tk.none (.slice none 0 0)) (Blk.new _ _ _) size_tok rfl hco.out ?_; intro w2 hB2 hz2 ho2; have q0 := hB2.out.cell 0; have q1 := hB2.out.cell 1; have q2 := hB2.out.cell 2; have q3 := hB2.out.cell 3; have q4 := hB2.out.cell 4; simp only [List.getElem?_cons_succ, List.getElem?_cons_zero] at q0 q1 q2 q3 q4; have hO2 : Hid (Only (fun i => w1.heap.size ≤ i) w1 w2) := ((Only.refl (fun i => w1.heap.size ≤ i) w1).alloc _).trans ho2 (fun i hi => .inl (by omega)))
        | ((with_reducible show wpList _ _ _ (⟨none, .store 178 (.tmp 8) _, _, _, _, _⟩ :: _) _ _); refine step_store rfl 178 _ _ rfl w.heap.size rfl (tkCells Tk.none (.slice none 0 0)) rfl _ _ ((HR0.out.only ho1.out (fun h => hpg h.symm)).only hO2.out (by have := ho1.out.size; omega)) (by exact size_tok) rfl (tk_one _ _ _ _) ?_; intro w4 hB4 hz4 ho4))
      refine ret_cell2 rfl _ rfl _ _ _ hB4.out Tryz.underlying178 rfl (by exact size_tok) rfl ?_
      have hz1 := ho1.out.size
      refine ⟨tkCells Tk.none (.slice none 0 0), rfl, Lib.hid rfl, Lib.hid (tk_one _ _ _ _), Lib.hid ⟨⟨Tk.none, none, 0⟩, rfl, rfl, nil_body _ _⟩, Lib.hid ((hm1.out.only hO2.out (by have := hm1.out.lt; omega)).only ho4 hpg), Lib.hid ?_⟩
      exact ((HO0.out.trans ho1.out (fun i hi => .inl hi)).trans hO2.out (fun i hi => .inr (by omega))).trans ho4 (fun i hi => .inr (by omega))
  | some t =>
    have hbt := hby t (by rw [hfe])
    obtain ⟨S, hS⟩ : ∃ S, S = stays9 (d && !isDM t) kb raw t := ⟨_, rfl⟩
    obtain ⟨b', hb'⟩ : ∃ b', b' = behind9 (d && !isDM t) kb raw t := ⟨_, rfl⟩
    obtain ⟨d', hd'⟩ : ∃ d', d' = (d && !isDM t) := ⟨_, rfl⟩
    have HSt : Hid (∀ (W : World) (v0 v1 v2 v3 v4 : Value), ClAt W p mo tp pre ⟨m', d, kb⟩ post → (∃ x : TkP, [v0, v1, v2, v3, v4] = x.cells ∧ x.t = tokOf (some t) ∧ Body W B x.val x.t.body) → Calls Tryz.prog 113 #[.pointer (some ⟨p, mo, none⟩), .agg #[v0, v1, v2, v3, v4], .bool raw] W fun e w' => e = .returned (.bool S) ∧ Hid (ClAt w' p mo tp pre ⟨m', d', b'⟩ post) ∧ Hid (Only (· = p) W w')) := fun W v0 v1 v2 v3 v4 hW hx => by
      obtain ⟨x, e1, e2, _⟩ := hx
      have := stays_in hW t hbt x.ad x.t.body.length x.cap raw
      rw [hS, hb', hd']
      have e3 : (#[v0, v1, v2, v3, v4] : Array Value) = (tkCells t (.slice x.ad x.t.body.length x.cap)).toArray := by
        rw [show tkCells t (.slice x.ad x.t.body.length x.cap) = x.cells from by unfold TkP.cells TkP.val; rw [e2]; rfl, ← e1]
      rw [e3]
      exact this
    have hT9 : told9 m' d kb raw (some t) = (⟨m', d', b'⟩, if S then some t else none) := by rw [hS, hb', hd']; rfl
    rw [hT9]
    clear hS hb' hd' hT9 hbt hby
    cases kd <;> cases S
    all_goals
      simp only [Bool.true_or, Bool.false_or] at hd
      subst hd
      go_enter Tryz.func62, Tryz.ntmps62
      go_wp2_with (first
        | (go_at_call 112; (with_reducible refine HFd.out.mono ?_); rintro e w1 ⟨v0, v1, v2, v3, v4, rfl, hco, hcx, hm1, ho1⟩)
        | ((with_reducible show wpList _ _ _ (⟨none, .store 178 (.tmp 10) _, _, _, _, _⟩ :: _) _ _); refine step_store rfl 178 _ _ rfl w1.heap.size rfl [v0, v1, v2, v3, v4] rfl _ (tkCells Tk.none (.slice none 0 0)) (Blk.new _ _ _) size_tok rfl hco.out ?_; intro w2 hB2 hz2 ho2; have q0 := hB2.out.cell 0; have q1 := hB2.out.cell 1; have q2 := hB2.out.cell 2; have q3 := hB2.out.cell 3; have q4 := hB2.out.cell 4; simp only [List.getElem?_cons_succ, List.getElem?_cons_zero] at q0 q1 q2 q3 q4; have hO2 : Hid (Only (fun i => w1.heap.size ≤ i) w1 w2) := ((Only.refl (fun i => w1.heap.size ≤ i) w1).alloc _).trans ho2 (fun i hi => .inl (by omega)))
        | (go_at_call 113; (refine (HSt.out w2 v0 v1 v2 v3 v4 (hm1.out.only hO2.out (by have := hm1.out.lt; omega)) (by obtain ⟨x, e1, e2, e3⟩ := hcx.out; exact ⟨x, e1, e2, own_only e3 hO2.out (fun q hq => by have := (own_lt e3 q hq).2; omega)⟩)).mono ?_); rintro e w3 ⟨rfl, hm3, ho3⟩; have hz1 := ho1.out.size; have hz2' := hO2.out.size; have hz3 := ho3.out.size; have HB3 : Hid (Blk w3 w1.heap.size 178 [v0, v1, v2, v3, v4]) := hB2.out.only ho3.out (by have := hm1.out.lt; omega); have HR3 : Hid (Blk w3 w.heap.size 178 (tkCells Tk.none (.slice none 0 0))) := ((HR0.out.only ho1.out (fun h => hpg h.symm)).only hO2.out (by omega)).only ho3.out (fun h => hpg h.symm); have HBd3 : Hid (∃ x : TkP, [v0, v1, v2, v3, v4] = x.cells ∧ x.t = t ∧ Body w3 B x.val x.t.body) := (by obtain ⟨x, e1, e2, e3⟩ := hcx.out; have e4 := own_only e3 hO2.out (fun q hq => by have := (own_lt e3 q hq).2; omega); exact ⟨x, e1, e2, own_only e4 ho3.out (msAt_far htp e4 (hm1.out.only hO2.out (by have := hm1.out.lt; omega)))⟩); have HO3 : Hid (Only (· = p) w w3) := ((HO0.out.trans ho1.out (fun i hi => .inl hi)).trans hO2.out (fun i hi => .inr (by omega))).trans ho3.out (fun i hi => .inl hi))
        | ((with_reducible show wpList _ _ _ (⟨some 40, _, _, _, _, _⟩ :: _) _ _); refine wpList_load_mid rfl 178 (.tmp 10) rfl w1.heap.size 0 rfl [v0, v1, v2, v3, v4] _ (range_of HB3.out) Tryz.underlying178 rfl size_tok ?_)
        | ((with_reducible show wpList _ _ _ (⟨none, .store 178 (.tmp 8) (.tmp 40), _, _, _, _⟩ :: _) _ _); refine step_store rfl 178 _ _ rfl w.heap.size rfl [v0, v1, v2, v3, v4] rfl _ _ HR3.out (by exact size_tok) rfl hco.out ?_; intro w4 hB4 hz4 ho4)
        | ((with_reducible show wpList _ _ _ (⟨none, .store 178 (.tmp 8) (.tmp 39), _, _, _, _⟩ :: _) _ _); refine step_store rfl 178 _ _ rfl w.heap.size rfl (tkCells Tk.none (.slice none 0 0)) rfl _ _ HR3.out (by exact size_tok) rfl (tk_one _ _ _ _) ?_; intro w4 hB4 hz4 ho4))
      refine ret_cell2 rfl _ rfl _ _ _ hB4.out Tryz.underlying178 rfl (by exact size_tok) rfl ?_
      first
        | exact ⟨tkCells Tk.none (.slice none 0 0), rfl, Lib.hid rfl, Lib.hid (tk_one _ _ _ _), Lib.hid ⟨⟨Tk.none, none, 0⟩, rfl, rfl, nil_body _ _⟩, Lib.hid (hm3.out.only ho4 hpg), Lib.hid (HO3.out.trans ho4 (fun i hi => .inr (by omega)))⟩
        | (refine ⟨[v0, v1, v2, v3, v4], rfl, Lib.hid rfl, hco, Lib.hid ?_, Lib.hid (hm3.out.only ho4 hpg), Lib.hid (HO3.out.trans ho4 (fun i hi => .inr (by omega)))⟩
           obtain ⟨x, e1, e2, e3⟩ := HBd3.out
           exact ⟨x, e1, e2, own_only e3 ho4 (own_ne e3 HR3.out (by decide))⟩)
end Go.Proofs.YtbnfhklpobephaaGreatDoor
/- An end in memory. -/
namespace Go.Proofs.YtbnfhklpobephaaGreatDoor
open Go Go.RowKit
set_option maxRecDepth 100000
set_option maxHeartbeats 4000000

/-- A cleaner's cells. -/
def ClC (cs : List Value) (k : Cl) : Prop := k.m.Ok ∧ ∃ junk, cs = msCells k.m junk ++ [.bool k.bh, .bool k.deaf] ∧ k.m.body.length + junk.length = 256 ∧ ∀ v ∈ junk, v.oneCell' = true
theorem ClC.len {cs : List Value} {k : Cl} (h : ClC cs k) : cs.length = 263 := by
  obtain ⟨_, junk, rfl, h2, _⟩ := h
  rw [List.length_append, msCells_length _ _ h2]
  rfl
theorem ClC.at_ {w : World} {p mo : Nat} {tp : TypeId} {pre post cs : List Value} {k : Cl} (h : ClC cs k) (hb : InB w p tp pre post mo cs) : ClAt w p mo tp pre k post := by
  obtain ⟨h1, junk, rfl, h2, h3⟩ := h
  refine ⟨h1, hb.len, junk, ?_, h2, h3⟩
  have := hb.blk
  simpa [List.append_assoc] using this
theorem ClAt.to {w : World} {p mo : Nat} {tp : TypeId} {pre post : List Value} {k : Cl} (h : ClAt w p mo tp pre k post) : ∃ cs, ClC cs k ∧ InB w p tp pre post mo cs := by
  obtain ⟨h1, h0, junk, hb, h2, h3⟩ := h
  refine ⟨_, ⟨h1, junk, rfl, h2, h3⟩, ⟨?_, h0⟩⟩
  simpa [List.append_assoc] using hb
/-- A table's cells alone, and within a block. -/
theorem TbC.of {mo : Nat} {pre post cs : List Value} {ag : Nat → Nat → Bool} {T : Tb} (h : TbC 0 [] [] cs ag T) (hp : pre.length = mo) : TbC mo pre post (pre ++ (cs ++ post)) ag T := by
  have hl := h.len
  simp only [List.length_nil] at hl
  have key : ∀ i, i < 1539 → (pre ++ (cs ++ post))[mo + i]? = cs[i]? := fun i hi => get_mid hp i (by omega)
  have key2 : ∀ i j, j < 1539 → i = mo + j → (pre ++ (cs ++ post))[i]? = cs[j]? := fun i j hj hi => by rw [hi]; exact key j hj
  refine ⟨by simp only [List.length_append]; omega, by rw [← hp]; exact List.take_left' rfl, ?_, fun i s o hs ho hi => ?_, fun i s o hs ho hi => ?_, fun i s o hs ho hi => ?_, ?_, ?_, ?_⟩
  · rw [← List.append_assoc]
    exact List.drop_left' (by rw [List.length_append, hp, hl])
  · rw [key2 i (s * 512 + o * 2) (by omega) (by omega)]
    exact h.kind _ s o hs ho (by omega)
  · rw [key2 i (s * 512 + o * 2 + 1) (by omega) (by omega)]
    exact h.opp _ s o hs ho (by omega)
  · rw [key2 i (1024 + s * 256 + o) (by omega) (by omega)]
    exact h.agr _ s o hs ho (by omega)
  · rw [key _ (by omega)]; have := h.heard; rwa [Nat.zero_add] at this
  · rw [key _ (by omega)]; have := h.asked; rwa [Nat.zero_add] at this
  · rw [key _ (by omega)]; have := h.sent; rwa [Nat.zero_add] at this
theorem TbC.to {mo : Nat} {pre post cs : List Value} {ag : Nat → Nat → Bool} {T : Tb} (h : TbC mo pre post cs ag T) : ∃ c, TbC 0 [] [] c ag T ∧ cs = pre ++ (c ++ post) := by
  have hl := h.len
  have key : ∀ i, i < 1539 → ((cs.drop mo).take 1539)[i]? = cs[mo + i]? := fun i hi => by rw [List.getElem?_take_of_lt hi, List.getElem?_drop]
  refine ⟨(cs.drop mo).take 1539, ⟨by rw [List.length_take, List.length_drop]; simp; omega, rfl, List.drop_of_length_le (by rw [List.length_take]; omega), fun i s o hs ho hi => ?_, fun i s o hs ho hi => ?_, fun i s o hs ho hi => ?_, ?_, ?_, ?_⟩, ?_⟩
  · rw [key _ (by omega)]; exact h.kind _ s o hs ho (by omega)
  · rw [key _ (by omega)]; exact h.opp _ s o hs ho (by omega)
  · rw [key _ (by omega)]; exact h.agr _ s o hs ho (by omega)
  · rw [Nat.zero_add, key _ (by omega)]; exact h.heard
  · rw [Nat.zero_add, key _ (by omega)]; exact h.asked
  · rw [Nat.zero_add, key _ (by omega)]; exact h.sent
  · rw [← h.front, ← h.back, ← List.drop_drop, List.take_append_drop, List.take_append_drop]

/-- A piece in memory: its kind, its bytes. -/
structure Pc where
  k : Int
  v : Value
  b : List UInt8
@[reducible] def Pc.cs (x : Pc) : List Value := [.int .i64 x.k, x.v]
/-- Its bytes lie in a block of R. -/
def Pc.Ok (w : World) (R : Nat → Prop) (x : Pc) : Prop := ∃ A n c, x.v = .slice A n c ∧ Src w A n x.b ∧ n ≤ c ∧ c ≤ 9223372036854775807 ∧ (0 < n → ∀ ad, A = some ad → R ad.block)
theorem Pc.Ok.far {w w' : World} {R : Nat → Prop} {S : Nat → Prop} {x : Pc} (h : x.Ok w R) (ho : Only S w w') (hS : ∀ i, R i → ¬ S i) : x.Ok w' R := by
  obtain ⟨A, n, c, h1, h2, h3, h4, h5⟩ := h
  exact ⟨A, n, c, h1, h2.only ho (fun h0 ad e => hS _ (h5 h0 ad e)), h3, h4, h5⟩
theorem Pc.Ok.grow {w : World} {R R' : Nat → Prop} {x : Pc} (h : x.Ok w R) (hR : ∀ i, R i → R' i) : x.Ok w R' := by
  obtain ⟨A, n, c, h1, h2, h3, h4, h5⟩ := h
  exact ⟨A, n, c, h1, h2, h3, h4, fun h0 ad e => hR _ (h5 h0 ad e)⟩
/-- An end's cells. -/
@[reducible] def enTail (pv : Value) (E : Ee) : List Value := [pv, .int .i64 (E.heard : Int), .int .i64 (E.asked : Int), .int .i64 (E.sent : Int)]
def enCs (ccs tcs : List Value) (h : Hb) (pv : Value) (E : Ee) : List Value := ccs ++ (tcs ++ (h.cs ++ enTail pv E))
/-- An end in memory, from place mo on of block p: what it writes to lies in blocks of M, what it reads beside in blocks of R. -/
structure EeAt (w : World) (p mo : Nat) (tp : TypeId) (pre post : List Value) (M R : Nat → Prop) (ag : Nat → Nat → Bool) (E : Ee) (ccs tcs : List Value) (h : Hb) (A : Option Addr) (n c : Nat) (xs : List Pc) : Prop where
  blk : InB w p tp pre post mo (enCs ccs tcs h (.slice A n c) E)
  cl : ClC ccs E.k
  tb : TbC 0 [] [] tcs ag E.T
  ok : h.Ok
  is : HsIs w p R h E.H
  row : w.ownsRow 0 81 2 (.slice A n c) n (xs.flatMap Pc.cs)
  len : n = xs.length
  out : xs.map (fun x => (x.k, x.b)) = E.out
  pcs : ∀ x ∈ xs, x.Ok w R
  own : ∀ g, (Value.slice A n c).ownBlock = some g → M g ∧ g ≠ p
  m18 : ∀ i, M i → 18 ≤ i
  mp : M p
  mlt : ∀ i, M i → i < w.heap.size
  rlt : ∀ i, R i → i < w.heap.size
  dis : ∀ i, R i → ¬ M i
  tpu : tp ≠ 5
  tpt : tp ≠ 178
/-- An end. -/
def IsEe (w : World) (p mo : Nat) (tp : TypeId) (pre post : List Value) (M R : Nat → Prop) (ag : Nat → Nat → Bool) (E : Ee) : Prop := ∃ ccs tcs h A n c xs, EeAt w p mo tp pre post M R ag E ccs tcs h A n c xs
section
variable {w w' : World} {p mo : Nat} {tp : TypeId} {pre post : List Value} {M R : Nat → Prop} {ag : Nat → Nat → Bool} {E : Ee} {ccs tcs : List Value} {h : Hb} {A : Option Addr} {n c : Nat} {xs : List Pc}
/-- Where nothing of it has turned. -/
theorem EeAt.far {S : Nat → Prop} (k : EeAt w p mo tp pre post M R ag E ccs tcs h A n c xs) (ho : Only S w w') (hM : ∀ i, M i → ¬ S i) (hR : ∀ i, R i → ¬ S i) : EeAt w' p mo tp pre post M R ag E ccs tcs h A n c xs :=
  ⟨k.blk.only ho (hM _ k.mp), k.cl, k.tb, k.ok, k.is.far ho (fun i _ h1 h2 => (hR i h1 h2).elim), own_only k.row ho (fun j hj => hM j (k.own j hj).1), k.len, k.out, fun x hx => (k.pcs x hx).far ho hR, k.own, k.m18, k.mp, fun i hi => Nat.lt_of_lt_of_le (k.mlt i hi) ho.size, fun i hi => Nat.lt_of_lt_of_le (k.rlt i hi) ho.size, k.dis, k.tpu, k.tpt⟩
theorem EeAt.same (k : EeAt w p mo tp pre post M R ag E ccs tcs h A n c xs) (ho : Only (fun _ => False) w w') : EeAt w' p mo tp pre post M R ag E ccs tcs h A n c xs := k.far ho (fun _ _ h => h) (fun _ _ h => h)
theorem EeAt.p18 (k : EeAt w p mo tp pre post M R ag E ccs tcs h A n c xs) : 18 ≤ p := k.m18 p k.mp
theorem EeAt.lt (k : EeAt w p mo tp pre post M R ag E ccs tcs h A n c xs) : p < w.heap.size := k.blk.lt
theorem IsEe.far {S : Nat → Prop} (k : IsEe w p mo tp pre post M R ag E) (ho : Only S w w') (hM : ∀ i, M i → ¬ S i) (hR : ∀ i, R i → ¬ S i) : IsEe w' p mo tp pre post M R ag E := by
  obtain ⟨a1, a2, a3, a4, a5, a6, a7, k⟩ := k
  exact ⟨a1, a2, a3, a4, a5, a6, a7, k.far ho hM hR⟩
theorem IsEe.same (k : IsEe w p mo tp pre post M R ag E) (ho : Only (fun _ => False) w w') : IsEe w' p mo tp pre post M R ag E := k.far ho (fun _ _ h => h) (fun _ _ h => h)
/-! Its parts. -/
theorem EeAt.lens (k : EeAt w p mo tp pre post M R ag E ccs tcs h A n c xs) : ccs.length = 263 ∧ tcs.length = 1539 ∧ h.cs.length = 145 := ⟨k.cl.len, k.tb.len, k.ok.len⟩
theorem EeAt.clAt (k : EeAt w p mo tp pre post M R ag E ccs tcs h A n c xs) : ClAt w p mo tp pre E.k (tcs ++ (h.cs ++ (enTail (.slice A n c) E ++ post))) :=
  k.cl.at_ ⟨by have := k.blk.blk; simpa only [enCs, List.append_assoc] using this, k.blk.len⟩
theorem EeAt.tbIn (k : EeAt w p mo tp pre post M R ag E ccs tcs h A n c xs) : InB w p tp (pre ++ ccs) (h.cs ++ (enTail (.slice A n c) E ++ post)) (mo + 263) tcs :=
  ⟨by have := k.blk.blk; simpa only [enCs, List.append_assoc] using this, by rw [List.length_append, k.lens.1, k.blk.len]⟩
theorem EeAt.tbAt (k : EeAt w p mo tp pre post M R ag E ccs tcs h A n c xs) : TbAt w p (mo + 263) tp (pre ++ ccs) (h.cs ++ (enTail (.slice A n c) E ++ post)) ag E.T := ⟨_, k.tbIn.blk, k.tb.of k.tbIn.len⟩
theorem EeAt.huAt (k : EeAt w p mo tp pre post M R ag E ccs tcs h A n c xs) : HuAt w p (mo + 1802) tp (pre ++ (ccs ++ tcs)) (enTail (.slice A n c) E ++ post) h :=
  ⟨k.ok, ⟨by have := k.blk.blk; simpa only [enCs, List.append_assoc] using this, by rw [List.length_append, List.length_append, k.lens.1, k.lens.2.1, k.blk.len]⟩⟩
theorem EeAt.hsAt (k : EeAt w p mo tp pre post M R ag E ccs tcs h A n c xs) : HsAt w p (mo + 1802) tp (pre ++ (ccs ++ tcs)) (enTail (.slice A n c) E ++ post) R h E.H := ⟨k.huAt, k.is⟩
theorem EeAt.tlIn (k : EeAt w p mo tp pre post M R ag E ccs tcs h A n c xs) : InB w p tp (pre ++ (ccs ++ (tcs ++ h.cs))) post (mo + 1947) (enTail (.slice A n c) E) :=
  ⟨by have := k.blk.blk; simpa only [enCs, List.append_assoc] using this, by rw [List.length_append, List.length_append, List.length_append, k.lens.1, k.lens.2.1, k.lens.2.2, k.blk.len]⟩
theorem EeAt.frozen (k : EeAt w p mo tp pre post M R ag E ccs tcs h A n c xs) (i : Nat) : w.frozen? ⟨p, i, none⟩ = false := k.blk.frozen i
/-! Back: one part has turned. -/
theorem EeAt.body (k : EeAt w p mo tp pre post M R ag E ccs tcs h A n c xs) (ho : Only (· = p) w w') : HsIs w' p R h E.H ∧ w'.ownsRow 0 81 2 (.slice A n c) n (xs.flatMap Pc.cs) ∧ (∀ x ∈ xs, x.Ok w' R) ∧ (∀ i, M i → i < w'.heap.size) ∧ ∀ i, R i → i < w'.heap.size :=
  ⟨k.is.own ho, own_only k.row ho (fun j hj => (k.own j hj).2), fun x hx => (k.pcs x hx).far ho (fun i hi e => by subst e; exact k.dis _ hi k.mp), fun i hi => Nat.lt_of_lt_of_le (k.mlt i hi) ho.size, fun i hi => Nat.lt_of_lt_of_le (k.rlt i hi) ho.size⟩
theorem EeAt.ofCl (k : EeAt w p mo tp pre post M R ag E ccs tcs h A n c xs) (ho : Only (· = p) w w') {k' : Cl} (hc : ClAt w' p mo tp pre k' (tcs ++ (h.cs ++ (enTail (.slice A n c) E ++ post)))) : ∃ ccs', EeAt w' p mo tp pre post M R ag { E with k := k' } ccs' tcs h A n c xs := by
  obtain ⟨cs, h1, h2⟩ := hc.to
  obtain ⟨b1, b2, b3, b4, b5⟩ := k.body ho
  exact ⟨cs, ⟨by have := h2.blk; simpa only [enCs, List.append_assoc] using this, h2.len⟩, h1, k.tb, k.ok, b1, b2, k.len, k.out, b3, k.own, k.m18, k.mp, b4, b5, k.dis, k.tpu, k.tpt⟩
theorem EeAt.ofTb (k : EeAt w p mo tp pre post M R ag E ccs tcs h A n c xs) (ho : Only (· = p) w w') {T' : Tb} (ht : TbAt w' p (mo + 263) tp (pre ++ ccs) (h.cs ++ (enTail (.slice A n c) E ++ post)) ag T') : ∃ tcs', EeAt w' p mo tp pre post M R ag { E with T := T' } ccs tcs' h A n c xs := by
  obtain ⟨full, hb, hc⟩ := ht
  obtain ⟨cs, h1, rfl⟩ := hc.to
  obtain ⟨b1, b2, b3, b4, b5⟩ := k.body ho
  exact ⟨cs, ⟨by have := hb; simpa only [enCs, List.append_assoc] using this, k.blk.len⟩, k.cl, h1, k.ok, b1, b2, k.len, k.out, b3, k.own, k.m18, k.mp, b4, b5, k.dis, k.tpu, k.tpt⟩
theorem EeAt.ofHs (k : EeAt w p mo tp pre post M R ag E ccs tcs h A n c xs) (ho : Only (· = p) w w') {h' : Hb} {H' : Hs} {R' : Nat → Prop} (hh : HsAt w' p (mo + 1802) tp (pre ++ (ccs ++ tcs)) (enTail (.slice A n c) E ++ post) R' h' H') (hR : ∀ i, R' i → R i ∨ w.heap.size ≤ i) (hlt : ∀ i, R' i → i < w'.heap.size) : EeAt w' p mo tp pre post M (fun i => R i ∨ R' i) ag { E with H := H' } ccs tcs h' A n c xs := by
  obtain ⟨_, b2, b3, b4, b5⟩ := k.body ho
  exact ⟨⟨by have := hh.hub.blk.blk; simpa only [enCs, List.append_assoc] using this, k.blk.len⟩, k.cl, k.tb, hh.hub.ok, hh.is.grow (fun _ h => .inr h), b2, k.len, k.out, fun x hx => (b3 x hx).grow (fun _ h => .inl h), k.own, k.m18, k.mp, b4, fun i hi => hi.elim (b5 i) (hlt i), fun i hi hm => by
    rcases hi with hi | hi
    · exact k.dis i hi hm
    · rcases hR i hi with h1 | h1
      · exact k.dis i h1 hm
      · have := k.mlt i hm; omega, k.tpu, k.tpt⟩
end
/-- What a call leaves: only blocks of M turned; M and R have grown by new blocks alone. -/
structure Goes (B : Nat) (w : World) (M R : Nat → Prop) (w' : World) (M' R' : Nat → Prop) : Prop where
  only : Only M w w'
  gm : ∀ i, M' i → M i ∨ B ≤ i
  gr : ∀ i, R' i → R i ∨ B ≤ i
theorem Goes.refl (B : Nat) (w : World) (M R : Nat → Prop) : Goes B w M R w M R := ⟨Only.refl _ _, fun _ h => .inl h, fun _ h => .inl h⟩
theorem Goes.trans {B : Nat} {w w1 w2 : World} {M R M1 R1 M2 R2 : Nat → Prop} (h : Goes B w M R w1 M1 R1) (k : Goes B w1 M1 R1 w2 M2 R2) (hB : B = w.heap.size) : Goes B w M R w2 M2 R2 :=
  ⟨h.only.trans k.only (fun i hi => by rw [← hB]; exact h.gm i hi), fun i hi => (k.gm i hi).elim (h.gm i) .inr, fun i hi => (k.gr i hi).elim (h.gr i) .inr⟩
theorem Goes.of {B : Nat} {w w' : World} {M R : Nat → Prop} (h : Only (fun _ => False) w w') : Goes B w M R w' M R := ⟨h.mono (fun _ h => h.elim), fun _ h => .inl h, fun _ h => .inl h⟩
theorem Goes.low {B B' : Nat} {w w' : World} {M R M' R' : Nat → Prop} (h : Goes B w M R w' M' R') (hB : B' ≤ B) : Goes B' w M R w' M' R' := ⟨h.only, fun i hi => (h.gm i hi).imp id (Nat.le_trans hB), fun i hi => (h.gr i hi).imp id (Nat.le_trans hB)⟩
end Go.Proofs.YtbnfhklpobephaaGreatDoor
/- An end lets a piece be sent. -/
namespace Go.Proofs.YtbnfhklpobephaaGreatDoor
open Go Go.RowKit
set_option maxRecDepth 100000
set_option maxHeartbeats 4000000

/-- What a call on an end leaves. -/
def EnGoes (B : Nat) (w : World) (p mo : Nat) (tp : TypeId) (pre post : List Value) (M R : Nat → Prop) (ag : Nat → Nat → Bool) (E' : Ee) (w' : World) : Prop :=
  ∃ M' R', IsEe w' p mo tp pre post M' R' ag E' ∧ Goes B w M R w' M' R'
section
variable {B : Nat} {w w' w1 : World} {p mo : Nat} {tp : TypeId} {pre post : List Value} {M R : Nat → Prop} {ag : Nat → Nat → Bool} {E E' : Ee}
theorem EnGoes.still (k : IsEe w p mo tp pre post M R ag E) (ho : Only (fun _ => False) w w') : EnGoes B w p mo tp pre post M R ag E w' := ⟨M, R, k.same ho, Goes.of ho⟩
theorem EnGoes.low {B' : Nat} (h : EnGoes B w p mo tp pre post M R ag E' w') (hB : B' ≤ B) : EnGoes B' w p mo tp pre post M R ag E' w' := by
  obtain ⟨M', R', h1, h2⟩ := h
  exact ⟨M', R', h1, h2.low hB⟩
theorem EnGoes.from_ (h : EnGoes B w1 p mo tp pre post M R ag E' w') (ho : Only (fun _ => False) w w1) : EnGoes B w p mo tp pre post M R ag E' w' := by
  obtain ⟨M', R', h1, h2⟩ := h
  exact ⟨M', R', h1, ⟨(Only.mono (T := M) ho (fun _ h => h.elim)).trans h2.only (fun _ h => .inl h), h2.gm, h2.gr⟩⟩
theorem EnGoes.then_ (h : EnGoes B w p mo tp pre post M R ag E' w') (ho : Only (fun _ => False) w' w1) : EnGoes B w p mo tp pre post M R ag E' w1 := by
  obtain ⟨M', R', h1, h2⟩ := h
  exact ⟨M', R', h1.same ho, ⟨h2.only.trans ho (fun _ h => h.elim), h2.gm, h2.gr⟩⟩
end
theorem EnGoes.seq {B B1 : Nat} {w w1 w2 : World} {p mo : Nat} {tp : TypeId} {pre post : List Value} {M R M1 R1 : Nat → Prop} {ag : Nat → Nat → Bool} {E2 : Ee} (g : Goes B w M R w1 M1 R1) (hw : w.heap.size ≤ B) (h : EnGoes B1 w1 p mo tp pre post M1 R1 ag E2 w2) (hB : B ≤ B1) : EnGoes B w p mo tp pre post M R ag E2 w2 := by
  obtain ⟨M2, R2, h1, h2⟩ := h
  exact ⟨M2, R2, h1, ⟨g.only.trans h2.only (fun i hi => (g.gm i hi).imp id (Nat.le_trans hw)), fun i hi => (h2.gm i hi).elim (g.gm i) (fun h => .inr (Nat.le_trans hB h)), fun i hi => (h2.gr i hi).elim (g.gr i) (fun h => .inr (Nat.le_trans hB h))⟩⟩
theorem Body.newer {w : World} {B : Nat} {A : Option Addr} {n c : Nat} {b : List UInt8} (h : Body w B (.slice A n c) b) (hn : n = b.length) : 0 < n → ∀ ad, A = some ad → B ≤ ad.block := fun h0 ad e => by
  subst hn
  obtain ⟨g, e', hg, _⟩ := own_at (xs := b.map B8) h h0
  rw [e] at e'
  injection e' with e'
  subst e'
  exact hg
theorem Body.caps {w : World} {B : Nat} {A : Option Addr} {n c : Nat} {b : List UInt8} (h : Body w B (.slice A n c) b) (hn : n = b.length) : n ≤ c ∧ c ≤ 9223372036854775807 := by
  obtain ⟨A', c', e, h1, h2⟩ := h.form
  injection e with _ _ e3
  omega
theorem Body.far {S : Nat → Prop} {w w' : World} {B : Nat} {v : Value} {b : List UInt8} (h : Body w B v b) (ho : Only S w w') (hS : ∀ i, B ≤ i → ¬ S i) : Body w' B v b := own_only h ho (fun g hg => hS g (own_lt h g hg).1)
theorem info_pc : (Tryz.prog.info? 81).map (fun i => (i.zero, i.size, i.bytes)) = some (some (.agg (#[.int .i64 0, .slice none 0 0] : Array Value)), 2, 32) := by kernel_rfl
theorem flatMap_pc (xs : List Pc) (x : Pc) : (xs ++ [x]).flatMap Pc.cs = xs.flatMap Pc.cs ++ [.int .i64 x.k, x.v] := by simp
section
variable {B : Nat} {w : World} {p mo : Nat} {tp : TypeId} {pre post : List Value} {M R : Nat → Prop} {ag : Nat → Nat → Bool} {E : Ee}
theorem enSend (k : IsEe w p mo tp pre post M R ag E) (hB : B ≤ w.heap.size) {A : Option Addr} {n c : Nat} {b : List UInt8} (hs : Src w A n b) (hnc : n ≤ c) (hcap : c ≤ 9223372036854775807)
    (hnew : 0 < n → ∀ ad, A = some ad → B ≤ ad.block ∧ ¬ M ad.block) (hbd : E.out.length ≤ 100000) (kd : Int) :
    Calls Tryz.prog 70 #[.pointer (some ⟨p, mo, none⟩), .int .i64 kd, .slice A n c] w fun e w' => e = .returned (.tuple #[]) ∧ Hid (EnGoes B w p mo tp pre post M R ag (E.send kd b) w') := by
  by_cases h0 : n = 0
  · subst h0
    have hb0 : b = [] := List.eq_nil_of_length_eq_zero hs.1
    have HK := Lib.hid k
    have HE : Hid (E.send kd b = E) := by show E.send kd b = E; unfold Ee.send; rw [if_pos hb0]
    clear k hs hnew hb0
    go_enter Tryz.func70, Tryz.ntmps70
    go_wp2
    refine bodyPost_end (results_none rfl _ _ _) rfl ?_
    rw [HE.out]
    exact ⟨rfl, EnGoes.still HK.out (Only.refl _ _)⟩
  · obtain ⟨ccs, tcs, h, A0, n0, c0, xs, k⟩ := k
    obtain ⟨i, hi, hz, h1, h2⟩ := infoK info_pc
    have HI := Lib.hid hi
    have HZ := Lib.hid hz
    have HI1 := Lib.hid h1
    have HI2 := Lib.hid h2
    have hpos : (0 : Int) < (n : Int) := by omega
    have hlen : xs.length = E.out.length := by have := congrArg List.length k.out; simpa using this
    have hn0 : n0 ≤ 100000 := by have := k.len; omega
    have hp := k.lt
    have HC0 : Hid (∀ W, Only (fun i => (Value.slice A0 n0 c0).ownBlock = some i) w W → W.cell? ⟨p, mo + 1947, none⟩ = some (.slice A0 n0 c0) ∧ W.frozen? ⟨p, mo + 1947, none⟩ = false) := fun W ho => by
      have hI := k.tlIn.only ho (fun e => (k.own p e).2 rfl)
      exact ⟨hI.val (i := 0) rfl, hI.frozen _⟩
    have c0' := (HC0.out w (Only.refl _ _)).1
    have HRow := Lib.hid k.row
    have HK := Lib.hid k
    have HS := Lib.hid hs
    have HNew := Lib.hid hnew
    obtain ⟨cs0, hcs0⟩ : ∃ cs0, cs0 = xs.flatMap Pc.cs := ⟨_, rfl⟩
    have HCs := Lib.hid hcs0
    rw [← hcs0] at HRow
    have HE : Hid (E.send kd b = { E with out := E.out ++ [(kd, b)] }) := by
      show E.send kd b = _
      unfold Ee.send
      rw [if_neg (fun e => by rw [e] at hs; have := hs.1; simp at this; omega)]
    have hn1 := hs.1
    clear k hs hnew hi hz h1 h2 hlen hbd hcs0
    go_enter Tryz.func70, Tryz.ntmps70
    go_wp2_with ((with_reducible show wpList _ _ _ (⟨some 18, _, _, _, _, _⟩ :: _) _ _); refine step_append_own rfl (.tmp 13) (.tmp 17) 78 rfl 0 81 i _ 2 32 Tryz.underlying78 HI.out HZ.out HI1.out HI2.out rfl (by omega) (.slice A0 n0 c0) n0 cs0 rfl (own_same HRow.out ((Only.refl _ _).alloc _)) _ 1 1 [.int .i64 kd, .slice A n c] rfl rfl (fun _ => ⟨_, rfl, fun j u hj => by rw [at_add]; exact ((Blk.new' (n := w.heap.size) w 81 [.int .i64 kd, .slice A n c] rfl).cell j).trans hj⟩) (fun v hv => by simp at hv; rcases hv with rfl | rfl <;> rfl) (by omega) (by omega) (by omega) ?_; intro A7 c7 w7 hq1 hq2 hq3; have HOw7 := Lib.hid hq3.out.1; have HN7 := Lib.hid hq3.out.2.2; have HO7 : Hid (Only (fun i => (Value.slice A0 n0 c0).ownBlock = some i) w w7) := Only.grown ((Only.refl _ _).alloc _) hq3.out.2.1 (fun k hk => .inl hk); have hc7 := (HC0.out w7 HO7.out).1; have hf7 := (HC0.out w7 HO7.out).2; clear hq1 hq2 hq3)
    refine bodyPost_end (results_none rfl _ _ _) rfl ?_
    refine ⟨rfl, ?_⟩
    rw [HE.out]
    have hk := HK.out
    have hb := HS.out
    obtain ⟨w8, hw8⟩ : ∃ w8, w8 = w7.setCell ⟨p, mo + 1947, none⟩ (.slice A7 (n0 + 1) c7) := ⟨_, rfl⟩
    have ho8 : Only (· = p) w7 w8 := by rw [hw8]; exact (Only.refl (· = p) w7).setCell (p := ⟨p, mo + 1947, none⟩) (.inl rfl) _
    have hz8 : w8.heap.size = w7.heap.size := by rw [hw8, setCell_size]
    have ho : Only (fun i => i = p ∨ (Value.slice A0 n0 c0).ownBlock = some i) w w8 := (HO7.out.mono (fun i hi => .inl (.inr hi))).trans ho8 (fun i hi => .inl (.inl hi))
    have hz : w.heap.size ≤ w8.heap.size := ho.size
    have hI8 : InB w8 p tp (pre ++ (ccs ++ (tcs ++ h.cs))) post (mo + 1947) (enTail (.slice A7 (n0 + 1) c7) { E with out := E.out ++ [(kd, b)] }) := by
      rw [hw8]
      exact (hk.tlIn.only HO7.out (fun e => (hk.own p e).2 rfl)).setCell (i := 0) (by simp) _
    have hM7 : ∀ g, (Value.slice A7 (n0 + 1) c7).ownBlock = some g → (M g ∧ g ≠ p) ∨ w.heap.size < g := fun g hg => by
      rcases HN7.out g hg with h1 | h1
      · exact .inl (hk.own g h1)
      · exact .inr (by simp at h1; omega)
    have hpp : p < w.heap.size := hp
    have hbl : ∀ ad, A = some ad → 0 < n → ad.block < w.heap.size := fun ad e h0 => hb.lt h0 ad e
    have hR8 : ∀ i, R i → ¬ (i = p ∨ (Value.slice A0 n0 c0).ownBlock = some i) := fun i hi hs => by
      rcases hs with rfl | hs
      · exact hk.dis _ hi hk.mp
      · exact hk.dis _ hi (hk.own _ hs).1
    rw [← hw8]
    refine ⟨fun i => M i ∨ (Value.slice A7 (n0 + 1) c7).ownBlock = some i, fun i => R i ∨ ∃ ad, A = some ad ∧ 0 < n ∧ i = ad.block, ⟨ccs, tcs, h, A7, n0 + 1, c7, xs ++ [⟨kd, .slice A n c, b⟩], ⟨?_, hk.cl, hk.tb, hk.ok, ?_, ?_, ?_, ?_, ?_, ?_, ?_, .inl hk.mp, ?_, ?_, ?_, hk.tpu, hk.tpt⟩⟩, ⟨?_, ?_, ?_⟩⟩
    · exact ⟨by have := hI8.blk; simpa only [enCs, List.append_assoc] using this, hk.blk.len⟩
    · exact (hk.is.far ho (fun i _ hr hs => (hR8 i hr hs).elim)).grow (fun _ h => .inl h)
    · rw [flatMap_pc, ← HCs.out]
      refine own_only HOw7.out ho8 (fun g hg e => ?_)
      rcases hM7 g hg with h1 | h1
      · exact h1.2 e
      · omega
    · rw [List.length_append, ← hk.len]; rfl
    · rw [List.map_append, hk.out]; rfl
    · intro x hx
      rcases List.mem_append.1 hx with hx | hx
      · exact ((hk.pcs x hx).far ho hR8).grow (fun _ h => .inl h)
      · simp only [List.mem_cons, List.not_mem_nil, or_false] at hx
        subst hx
        refine ⟨A, n, c, rfl, hb.only ho (fun h0 ad e hs => ?_), hnc, hcap, fun h0 ad e => .inr ⟨ad, e, h0, rfl⟩⟩
        have hm := (HNew.out h0 ad e).2
        rcases hs with hs | hs
        · exact hm (hs ▸ hk.mp)
        · exact hm (hk.own _ hs).1
    · intro g hg
      refine ⟨.inr hg, fun e => ?_⟩
      rcases hM7 g hg with h1 | h1
      · exact h1.2 e
      · omega
    · intro i hi
      rcases hi with hi | hi
      · exact hk.m18 i hi
      · rcases hM7 i hi with h1 | h1
        · exact hk.m18 i h1.1
        · have := hk.p18; omega
    · intro i hi
      rcases hi with hi | hi
      · exact Nat.lt_of_lt_of_le (hk.mlt i hi) hz
      · rw [hz8]; exact (own_lt HOw7.out i hi).2
    · intro i hi
      rcases hi with hi | ⟨ad, e, h0, rfl⟩
      · exact Nat.lt_of_lt_of_le (hk.rlt i hi) hz
      · exact Nat.lt_of_lt_of_le (hbl ad e h0) hz
    · intro i hi hm
      rcases hm with hm | hm
      · rcases hi with hi | ⟨ad, e, h0, rfl⟩
        · exact hk.dis i hi hm
        · exact (HNew.out h0 ad e).2 hm
      · rcases hM7 i hm with h1 | h1
        · rcases hi with hi | ⟨ad, e, h0, rfl⟩
          · exact hk.dis i hi h1.1
          · exact (HNew.out h0 ad e).2 h1.1
        · rcases hi with hi | ⟨ad, e, h0, rfl⟩
          · have := hk.rlt i hi; omega
          · have := hbl ad e h0; omega
    · exact ho.mono (fun i hi => .inl (hi.elim (fun e => e ▸ hk.mp) (fun e => (hk.own i e).1)))
    · intro i hi
      rcases hi with hi | hi
      · exact .inl hi
      · rcases hM7 i hi with h1 | h1
        · exact .inl h1.1
        · exact .inr (by omega)
    · intro i hi
      rcases hi with hi | ⟨ad, e, h0, rfl⟩
      · exact .inl hi
      · exact .inr (HNew.out h0 ad e).1
end
end Go.Proofs.YtbnfhklpobephaaGreatDoor
/- Package qstate: Calm. -/
namespace Go.Proofs.YtbnfhklpobephaaGreatDoor
open Go Go.RowKit
set_option maxRecDepth 100000
set_option maxHeartbeats 4000000

end Go.Proofs.YtbnfhklpobephaaGreatDoor
