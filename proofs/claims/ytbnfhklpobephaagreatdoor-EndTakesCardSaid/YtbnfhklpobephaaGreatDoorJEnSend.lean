/- Several texts in one. -/
import Derived.Test.YtbnfhklpobephaaGreatDoorJClean
import Derived.Test.YtbnfhklpobephaaGreatDoorRowK
import Derived.Test.YtbnfhklpobephaaGreatDoorJQsAsk
import Derived.Test.YtbnfhklpobephaaGreatDoorJTbList
/- An end lets a piece be sent. -/
namespace Go.Proofs.YtbnfhklpobephaaGreatDoor
open Go Go.RowKit
set_option maxRecDepth 100000
set_option maxHeartbeats 4000000

/-- What a call on an end leaves. -/
def EnGoes (B : Nat) (w : World) (p mo : Nat) (tp : TypeId) (pre post : List Value) (M R : Nat → Prop) (ag : Nat → Nat → Bool) (E' : Ee) (w' : World) : Prop :=
  ∃ M' R', IsEe w' p mo tp pre post M' R' ag E' ∧ Goes B w M R w' M' R'
section
variable {B : Nat} {w w' w1 : World} {p mo : Nat} {tp : TypeId} {pre post : List Value} {M R : Nat → Prop} {ag : Nat → Nat → Bool} {E E' : Ee}
theorem EnGoes.still (k : IsEe w p mo tp pre post M R ag E) (ho : Only (fun _ => False) w w') : EnGoes B w p mo tp pre post M R ag E w' := ⟨M, R, k.same ho, Goes.of ho⟩
theorem EnGoes.low {B' : Nat} (h : EnGoes B w p mo tp pre post M R ag E' w') (hB : B' ≤ B) : EnGoes B' w p mo tp pre post M R ag E' w' := by
  obtain ⟨M', R', h1, h2⟩ := h
  exact ⟨M', R', h1, h2.low hB⟩
theorem EnGoes.from_ (h : EnGoes B w1 p mo tp pre post M R ag E' w') (ho : Only (fun _ => False) w w1) : EnGoes B w p mo tp pre post M R ag E' w' := by
  obtain ⟨M', R', h1, h2⟩ := h
  exact ⟨M', R', h1, ⟨(Only.mono (T := M) ho (fun _ h => h.elim)).trans h2.only (fun _ h => .inl h), h2.gm, h2.gr⟩⟩
theorem EnGoes.then_ (h : EnGoes B w p mo tp pre post M R ag E' w') (ho : Only (fun _ => False) w' w1) : EnGoes B w p mo tp pre post M R ag E' w1 := by
  obtain ⟨M', R', h1, h2⟩ := h
  exact ⟨M', R', h1.same ho, ⟨h2.only.trans ho (fun _ h => h.elim), h2.gm, h2.gr⟩⟩
end
theorem EnGoes.seq {B B1 : Nat} {w w1 w2 : World} {p mo : Nat} {tp : TypeId} {pre post : List Value} {M R M1 R1 : Nat → Prop} {ag : Nat → Nat → Bool} {E2 : Ee} (g : Goes B w M R w1 M1 R1) (hw : w.heap.size ≤ B) (h : EnGoes B1 w1 p mo tp pre post M1 R1 ag E2 w2) (hB : B ≤ B1) : EnGoes B w p mo tp pre post M R ag E2 w2 := by
  obtain ⟨M2, R2, h1, h2⟩ := h
  exact ⟨M2, R2, h1, ⟨g.only.trans h2.only (fun i hi => (g.gm i hi).imp id (Nat.le_trans hw)), fun i hi => (h2.gm i hi).elim (g.gm i) (fun h => .inr (Nat.le_trans hB h)), fun i hi => (h2.gr i hi).elim (g.gr i) (fun h => .inr (Nat.le_trans hB h))⟩⟩
theorem Body.newer {w : World} {B : Nat} {A : Option Addr} {n c : Nat} {b : List UInt8} (h : Body w B (.slice A n c) b) (hn : n = b.length) : 0 < n → ∀ ad, A = some ad → B ≤ ad.block := fun h0 ad e => by
  subst hn
  obtain ⟨g, e', hg, _⟩ := own_at (xs := b.map B8) h h0
  rw [e] at e'
  injection e' with e'
  subst e'
  exact hg
theorem Body.caps {w : World} {B : Nat} {A : Option Addr} {n c : Nat} {b : List UInt8} (h : Body w B (.slice A n c) b) (hn : n = b.length) : n ≤ c ∧ c ≤ 9223372036854775807 := by
  obtain ⟨A', c', e, h1, h2⟩ := h.form
  injection e with _ _ e3
  omega
theorem Body.far {S : Nat → Prop} {w w' : World} {B : Nat} {v : Value} {b : List UInt8} (h : Body w B v b) (ho : Only S w w') (hS : ∀ i, B ≤ i → ¬ S i) : Body w' B v b := own_only h ho (fun g hg => hS g (own_lt h g hg).1)
theorem info_pc : (Tryz.prog.info? 81).map (fun i => (i.zero, i.size, i.bytes)) = some (some (.agg (#[.int .i64 0, .slice none 0 0] : Array Value)), 2, 32) := by kernel_rfl
theorem flatMap_pc (xs : List Pc) (x : Pc) : (xs ++ [x]).flatMap Pc.cs = xs.flatMap Pc.cs ++ [.int .i64 x.k, x.v] := by simp
section
variable {B : Nat} {w : World} {p mo : Nat} {tp : TypeId} {pre post : List Value} {M R : Nat → Prop} {ag : Nat → Nat → Bool} {E : Ee}
theorem enSend (k : IsEe w p mo tp pre post M R ag E) (hB : B ≤ w.heap.size) {A : Option Addr} {n c : Nat} {b : List UInt8} (hs : Src w A n b) (hnc : n ≤ c) (hcap : c ≤ 9223372036854775807)
    (hnew : 0 < n → ∀ ad, A = some ad → B ≤ ad.block ∧ ¬ M ad.block) (hbd : E.out.length ≤ 100000) (kd : Int) :
    Calls Tryz.prog 70 #[.pointer (some ⟨p, mo, none⟩), .int .i64 kd, .slice A n c] w fun e w' => e = .returned (.tuple #[]) ∧ Hid (EnGoes B w p mo tp pre post M R ag (E.send kd b) w') := by
  by_cases h0 : n = 0
  · subst h0
    have hb0 : b = [] := List.eq_nil_of_length_eq_zero hs.1
    have HK := Lib.hid k
    have HE : Hid (E.send kd b = E) := by show E.send kd b = E; unfold Ee.send; rw [if_pos hb0]
    clear k hs hnew hb0
    go_enter Tryz.func70, Tryz.ntmps70
    go_wp2
    refine bodyPost_end (results_none rfl _ _ _) rfl ?_
    rw [HE.out]
    exact ⟨rfl, EnGoes.still HK.out (Only.refl _ _)⟩
  · obtain ⟨ccs, tcs, h, A0, n0, c0, xs, k⟩ := k
    obtain ⟨i, hi, hz, h1, h2⟩ := infoK info_pc
    have HI := Lib.hid hi
    have HZ := Lib.hid hz
    have HI1 := Lib.hid h1
    have HI2 := Lib.hid h2
    have hpos : (0 : Int) < (n : Int) := by omega
    have hlen : xs.length = E.out.length := by have := congrArg List.length k.out; simpa using this
    have hn0 : n0 ≤ 100000 := by have := k.len; omega
    have hp := k.lt
    have HC0 : Hid (∀ W, Only (fun i => (Value.slice A0 n0 c0).ownBlock = some i) w W → W.cell? ⟨p, mo + 1947, none⟩ = some (.slice A0 n0 c0) ∧ W.frozen? ⟨p, mo + 1947, none⟩ = false) := fun W ho => by
      have hI := k.tlIn.only ho (fun e => (k.own p e).2 rfl)
      exact ⟨hI.val (i := 0) rfl, hI.frozen _⟩
    have c0' := (HC0.out w (Only.refl _ _)).1
    have HRow := Lib.hid k.row
    have HK := Lib.hid k
    have HS := Lib.hid hs
    have HNew := Lib.hid hnew
    obtain ⟨cs0, hcs0⟩ : ∃ cs0, cs0 = xs.flatMap Pc.cs := ⟨_, rfl⟩
    have HCs := Lib.hid hcs0
    rw [← hcs0] at HRow
    have HE : Hid (E.send kd b = { E with out := E.out ++ [(kd, b)] }) := by
      show E.send kd b = _
      unfold Ee.send
      rw [if_neg (fun e => by rw [e] at hs; have := hs.1; simp at this; omega)]
    have hn1 := hs.1
    clear k hs hnew hi hz h1 h2 hlen hbd hcs0
    go_enter Tryz.func70, Tryz.ntmps70
    go_wp2_with ((with_reducible show wpList _ _ _ (⟨some 18, _, _, _, _, _⟩ :: _) _ _); refine step_append_own rfl (.tmp 13) (.tmp 17) 78 rfl 0 81 i _ 2 32 Tryz.underlying78 HI.out HZ.out HI1.out HI2.out rfl (by omega) (.slice A0 n0 c0) n0 cs0 rfl (own_same HRow.out ((Only.refl _ _).alloc _)) _ 1 1 [.int .i64 kd, .slice A n c] rfl rfl (fun _ => ⟨_, rfl, fun j u hj => by rw [at_add]; exact ((Blk.new' (n := w.heap.size) w 81 [.int .i64 kd, .slice A n c] rfl).cell j).trans hj⟩) (fun v hv => by simp at hv; rcases hv with rfl | rfl <;> rfl) (by omega) (by omega) (by omega) ?_; intro A7 c7 w7 hq1 hq2 hq3; have HOw7 := Lib.hid hq3.out.1; have HN7 := Lib.hid hq3.out.2.2; have HO7 : Hid (Only (fun i => (Value.slice A0 n0 c0).ownBlock = some i) w w7) := Only.grown ((Only.refl _ _).alloc _) hq3.out.2.1 (fun k hk => .inl hk); have hc7 := (HC0.out w7 HO7.out).1; have hf7 := (HC0.out w7 HO7.out).2; clear hq1 hq2 hq3)
    refine bodyPost_end (results_none rfl _ _ _) rfl ?_
    refine ⟨rfl, ?_⟩
    rw [HE.out]
    have hk := HK.out
    have hb := HS.out
    obtain ⟨w8, hw8⟩ : ∃ w8, w8 = w7.setCell ⟨p, mo + 1947, none⟩ (.slice A7 (n0 + 1) c7) := ⟨_, rfl⟩
    have ho8 : Only (· = p) w7 w8 := by rw [hw8]; exact (Only.refl (· = p) w7).setCell (p := ⟨p, mo + 1947, none⟩) (.inl rfl) _
    have hz8 : w8.heap.size = w7.heap.size := by rw [hw8, setCell_size]
    have ho : Only (fun i => i = p ∨ (Value.slice A0 n0 c0).ownBlock = some i) w w8 := (HO7.out.mono (fun i hi => .inl (.inr hi))).trans ho8 (fun i hi => .inl (.inl hi))
    have hz : w.heap.size ≤ w8.heap.size := ho.size
    have hI8 : InB w8 p tp (pre ++ (ccs ++ (tcs ++ h.cs))) post (mo + 1947) (enTail (.slice A7 (n0 + 1) c7) { E with out := E.out ++ [(kd, b)] }) := by
      rw [hw8]
      exact (hk.tlIn.only HO7.out (fun e => (hk.own p e).2 rfl)).setCell (i := 0) (by simp) _
    have hM7 : ∀ g, (Value.slice A7 (n0 + 1) c7).ownBlock = some g → (M g ∧ g ≠ p) ∨ w.heap.size < g := fun g hg => by
      rcases HN7.out g hg with h1 | h1
      · exact .inl (hk.own g h1)
      · exact .inr (by simp at h1; omega)
    have hpp : p < w.heap.size := hp
    have hbl : ∀ ad, A = some ad → 0 < n → ad.block < w.heap.size := fun ad e h0 => hb.lt h0 ad e
    have hR8 : ∀ i, R i → ¬ (i = p ∨ (Value.slice A0 n0 c0).ownBlock = some i) := fun i hi hs => by
      rcases hs with rfl | hs
      · exact hk.dis _ hi hk.mp
      · exact hk.dis _ hi (hk.own _ hs).1
    rw [← hw8]
    refine ⟨fun i => M i ∨ (Value.slice A7 (n0 + 1) c7).ownBlock = some i, fun i => R i ∨ ∃ ad, A = some ad ∧ 0 < n ∧ i = ad.block, ⟨ccs, tcs, h, A7, n0 + 1, c7, xs ++ [⟨kd, .slice A n c, b⟩], ⟨?_, hk.cl, hk.tb, hk.ok, ?_, ?_, ?_, ?_, ?_, ?_, ?_, .inl hk.mp, ?_, ?_, ?_, hk.tpu, hk.tpt⟩⟩, ⟨?_, ?_, ?_⟩⟩
    · exact ⟨by have := hI8.blk; simpa only [enCs, List.append_assoc] using this, hk.blk.len⟩
    · exact (hk.is.far ho (fun i _ hr hs => (hR8 i hr hs).elim)).grow (fun _ h => .inl h)
    · rw [flatMap_pc, ← HCs.out]
      refine own_only HOw7.out ho8 (fun g hg e => ?_)
      rcases hM7 g hg with h1 | h1
      · exact h1.2 e
      · omega
    · rw [List.length_append, ← hk.len]; rfl
    · rw [List.map_append, hk.out]; rfl
    · intro x hx
      rcases List.mem_append.1 hx with hx | hx
      · exact ((hk.pcs x hx).far ho hR8).grow (fun _ h => .inl h)
      · simp only [List.mem_cons, List.not_mem_nil, or_false] at hx
        subst hx
        refine ⟨A, n, c, rfl, hb.only ho (fun h0 ad e hs => ?_), hnc, hcap, fun h0 ad e => .inr ⟨ad, e, h0, rfl⟩⟩
        have hm := (HNew.out h0 ad e).2
        rcases hs with hs | hs
        · exact hm (hs ▸ hk.mp)
        · exact hm (hk.own _ hs).1
    · intro g hg
      refine ⟨.inr hg, fun e => ?_⟩
      rcases hM7 g hg with h1 | h1
      · exact h1.2 e
      · omega
    · intro i hi
      rcases hi with hi | hi
      · exact hk.m18 i hi
      · rcases hM7 i hi with h1 | h1
        · exact hk.m18 i h1.1
        · have := hk.p18; omega
    · intro i hi
      rcases hi with hi | hi
      · exact Nat.lt_of_lt_of_le (hk.mlt i hi) hz
      · rw [hz8]; exact (own_lt HOw7.out i hi).2
    · intro i hi
      rcases hi with hi | ⟨ad, e, h0, rfl⟩
      · exact Nat.lt_of_lt_of_le (hk.rlt i hi) hz
      · exact Nat.lt_of_lt_of_le (hbl ad e h0) hz
    · intro i hi hm
      rcases hm with hm | hm
      · rcases hi with hi | ⟨ad, e, h0, rfl⟩
        · exact hk.dis i hi hm
        · exact (HNew.out h0 ad e).2 hm
      · rcases hM7 i hm with h1 | h1
        · rcases hi with hi | ⟨ad, e, h0, rfl⟩
          · exact hk.dis i hi h1.1
          · exact (HNew.out h0 ad e).2 h1.1
        · rcases hi with hi | ⟨ad, e, h0, rfl⟩
          · have := hk.rlt i hi; omega
          · have := hbl ad e h0; omega
    · exact ho.mono (fun i hi => .inl (hi.elim (fun e => e ▸ hk.mp) (fun e => (hk.own i e).1)))
    · intro i hi
      rcases hi with hi | hi
      · exact .inl hi
      · rcases hM7 i hi with h1 | h1
        · exact .inl h1.1
        · exact .inr (by omega)
    · intro i hi
      rcases hi with hi | ⟨ad, e, h0, rfl⟩
      · exact .inl hi
      · exact .inr (HNew.out h0 ad e).1
end
end Go.Proofs.YtbnfhklpobephaaGreatDoor
/- Package qstate: Calm. -/
namespace Go.Proofs.YtbnfhklpobephaaGreatDoor
open Go Go.RowKit
set_option maxRecDepth 100000
set_option maxHeartbeats 4000000

theorem calm_any (W : World) (k : Int) (o : Bool) : Calls Tryz.prog 99 #[.agg #[.int .i64 k, .bool o]] W fun e w' => e = .returned (.bool (decide (k = 0 ∧ o = false) || decide (k = 1 ∧ o = false))) ∧ Only (fun _ => False) W w' := by
  have h0 : ∀ W, (Op.equalIn 10000 65 (.agg #[.int .i64 k, .bool o]) (.agg #[.int .i64 0, .bool false])).run Tryz.prog W = .ok (decide (k = 0 ∧ o = false)) W := fun W => eq_state W _ _ _ _
  have h1 : ∀ W, (Op.equalIn 10000 65 (.agg #[.int .i64 k, .bool o]) (.agg #[.int .i64 1, .bool false])).run Tryz.prog W = .ok (decide (k = 1 ∧ o = false)) W := fun W => eq_state W _ _ _ _
  obtain ⟨b0, hb0⟩ : ∃ b, b = decide (k = 0 ∧ o = false) := ⟨_, rfl⟩
  obtain ⟨b1, hb1⟩ : ∃ b, b = decide (k = 1 ∧ o = false) := ⟨_, rfl⟩
  rw [← hb0] at h0 ⊢
  rw [← hb1] at h1 ⊢
  have hgr := guard_state
  clear hb0 hb1
  cases b0
  all_goals
    go_enter Tryz.func99, Tryz.ntmps99
    go_wp2
    go_ret
    exact ⟨rfl, alloc_only _⟩
end Go.Proofs.YtbnfhklpobephaaGreatDoor
/- Layer 11's document as plain functions: rows of options that were ever spoken of. -/
namespace Go.Proofs.YtbnfhklpobephaaGreatDoor

/-- A row: a side, an option, its state. -/
structure Rq where
  s : Nat
  o : Nat
  q : Qs
def keyR (r : Rq) (s o : Int) : Bool := decide ((r.s : Int) = s) && decide ((r.o : Int) = o)
def lookR : List Rq → Int → Int → Qs
  | [], _, _ => .no
  | r :: l, s, o => if keyR r s o then r.q else lookR l s o
def dropR (l : List Rq) (s o : Int) : List Rq := l.filter fun r => !keyR r s o
def calmR (l : List Rq) : Bool := l.all fun r => decide (r.q.kind ≤ 1)
/-- What the rows say. -/
structure RowsAre (l : List Rq) (f : Nat → Nat → Qs) : Prop where
  look : ∀ (s o : Nat), s < 2 → o < 256 → lookR l s o = f s o
  valid : ∀ r ∈ l, r.s < 2 ∧ r.o < 256 ∧ lookR l r.s r.o = r.q
theorem rowsAre_nil : RowsAre [] (fun _ _ => .no) := ⟨fun _ _ _ _ => rfl, fun _ h => by cases h⟩
theorem keyR_iff {r : Rq} {s o : Nat} : keyR r s o = true ↔ r.s = s ∧ r.o = o := by simp [keyR]; omega
theorem lookR_append (l m : List Rq) (s o : Int) (h : ∀ r ∈ l, keyR r s o = false) : lookR (l ++ m) s o = lookR m s o := by
  induction l with
  | nil => rfl
  | cons r l ih => rw [List.cons_append, lookR, h r (List.mem_cons_self ..)]; exact ih fun r hr => h r (List.mem_cons_of_mem _ hr)
theorem lookR_drop (l : List Rq) {s o s' o' : Int} (m : List Rq) (h : ¬ (s' = s ∧ o' = o)) : lookR (dropR l s o ++ m) s' o' = lookR (l ++ m) s' o' := by
  induction l with
  | nil => rfl
  | cons r l ih =>
    unfold dropR at ih ⊢
    rw [List.filter_cons]
    by_cases hk : keyR r s o = true
    · have hk' : keyR r s' o' = false := by
        simp only [keyR, Bool.and_eq_true, decide_eq_true_eq] at hk
        simp only [keyR, Bool.and_eq_false_iff, decide_eq_false_iff_not]
        by_cases h1 : (r.s : Int) = s'
        · exact .inr fun h2 => h ⟨by omega, by omega⟩
        · exact .inl h1
      simp only [hk, Bool.not_true, Bool.false_eq_true, if_false, List.cons_append, lookR, hk']
      exact ih
    · have hk := Bool.eq_false_iff.2 hk
      simp only [hk, Bool.not_false, if_true, List.cons_append, lookR]
      rw [ih]
theorem lookR_snoc (l : List Rq) (s o : Int) (r : Rq) : lookR (l ++ [r]) s o = (if l.any (fun x => keyR x s o) then lookR l s o else if keyR r s o then r.q else .no) := by
  induction l with
  | nil => rfl
  | cons x l ih =>
    rw [List.cons_append, lookR, List.any_cons, lookR]
    by_cases h : keyR x s o = true
    · simp [h]
    · simp only [Bool.eq_false_iff.2 h, Bool.false_eq_true, if_false, Bool.false_or]; exact ih
theorem RowsAre.none {l : List Rq} {f : Nat → Nat → Qs} (h : RowsAre l f) {s o : Int} (hso : ¬ ((s = 0 ∨ s = 1) ∧ 0 ≤ o ∧ o ≤ 255)) : lookR l s o = .no := by
  have : ∀ r ∈ l, keyR r s o = false := fun r hr => by
    obtain ⟨h1, h2, _⟩ := h.valid r hr
    simp only [keyR, Bool.and_eq_false_iff, decide_eq_false_iff_not]
    by_cases e : (r.s : Int) = s
    · exact .inr fun e2 => hso ⟨by omega, by omega, by omega⟩
    · exact .inl e
  have e := lookR_append l [] s o this
  rw [List.append_nil] at e
  exact e
theorem RowsAre.get {l : List Rq} {t : Tb} (h : RowsAre l t.st) (s o : Int) : lookR l s o = t.get s o := by
  unfold Tb.get
  split
  · next hso =>
    have := h.look s.toNat o.toNat (by omega) (by omega)
    rwa [Int.toNat_of_nonneg (by omega), Int.toNat_of_nonneg (by omega)] at this
  · next hso => exact h.none hso
theorem RowsAre.set {l : List Rq} {f : Nat → Nat → Qs} (h : RowsAre l f) {s o : Nat} (hs : s < 2) (ho : o < 256) (q : Qs) : RowsAre (dropR l s o ++ [⟨s, o, q⟩]) (setQ f s o q) := by
  have hnew : lookR (dropR l s o ++ [⟨s, o, q⟩]) s o = q := by
    rw [lookR_append _ _ _ _ (fun r hr => by
      have := (List.mem_filter.1 hr).2
      simpa using this)]
    simp [lookR, keyR]
  have hold : ∀ s' o' : Nat, ¬ (s' = s ∧ o' = o) → lookR (dropR l s o ++ [⟨s, o, q⟩]) s' o' = lookR l s' o' := fun s' o' e => by
    rw [lookR_drop l _ (by omega), lookR_snoc]
    by_cases ha : (l.any fun x => keyR x s' o') = true
    · rw [if_pos ha]
    · rw [if_neg ha, if_neg (by rw [keyR_iff]; exact fun h => e ⟨h.1.symm, h.2.symm⟩)]
      have e2 := lookR_append l [] s' o' (fun r hr => Bool.eq_false_iff.2 fun hk => ha (List.any_eq_true.2 ⟨r, hr, hk⟩))
      rw [List.append_nil] at e2
      exact e2.symm
  refine ⟨fun s' o' hs' ho' => ?_, fun r hr => ?_⟩
  · unfold setQ
    by_cases e : s' = s ∧ o' = o
    · rw [if_pos e, e.1, e.2]; exact hnew
    · rw [if_neg e, hold s' o' e]; exact h.look s' o' hs' ho'
  · rcases List.mem_append.1 hr with hr | hr
    · obtain ⟨h1, h2⟩ := List.mem_filter.1 hr
      obtain ⟨h3, h4, h5⟩ := h.valid r h1
      refine ⟨h3, h4, ?_⟩
      rw [hold r.s r.o (fun e => by
        have : keyR r s o = true := keyR_iff.2 e
        rw [this] at h2
        cases h2)]
      exact h5
    · simp only [List.mem_cons, List.not_mem_nil, or_false] at hr
      subst hr
      exact ⟨hs, ho, hnew⟩
theorem RowsAre.calm {l : List Rq} {f : Nat → Nat → Qs} (h : RowsAre l f) : calmR l = true ↔ ∀ s o, s < 2 → o < 256 → (f s o).kind ≤ 1 := by
  unfold calmR
  rw [List.all_eq_true]
  constructor
  · intro ha s o hs ho
    rw [← h.look s o hs ho]
    by_cases hx : ∃ r ∈ l, keyR r s o = true
    · obtain ⟨r, hr, hk⟩ := hx
      obtain ⟨e1, e2⟩ := keyR_iff.1 hk
      rw [← e1, ← e2, (h.valid r hr).2.2]
      exact of_decide_eq_true (ha r hr)
    · have := lookR_append l [] s o (fun r hr => Bool.eq_false_iff.2 fun hk => hx ⟨r, hr, hk⟩)
      rw [List.append_nil] at this
      rw [this]
      exact Nat.zero_le _
  · intro hf r hr
    obtain ⟨h1, h2, h3⟩ := h.valid r hr
    have := hf r.s r.o h1 h2
    rw [← h.look _ _ h1 h2, h3] at this
    exact decide_eq_true this
/-- The options that are on. -/
def onR (f : Nat → Nat → Qs) (s : Nat) : List Int := ((List.range 256).filter fun o => decide (f s o = .yes)).map fun (o : Nat) => (o : Int)
end Go.Proofs.YtbnfhklpobephaaGreatDoor
/- Package table: Calm. -/
namespace Go.Proofs.YtbnfhklpobephaaGreatDoor
open Go Go.RowKit
set_option maxRecDepth 100000
set_option maxHeartbeats 4000000

/-- Whether all is calm. -/
def CalmT (f : Nat → Nat → Qs) : Prop := ∀ s, s < 2 → ∀ o, o < 256 → calmQ (f s o) = true
def calmT (f : Nat → Nat → Qs) : Bool := (List.range 2).all fun s => (List.range 256).all fun o => calmQ (f s o)
theorem calmT_iff {f : Nat → Nat → Qs} : calmT f = true ↔ CalmT f := by simp [calmT, CalmT]
theorem calm_kind (q : Qs) : (decide ((q.kind : Int) = 0 ∧ q.opp = false) || decide ((q.kind : Int) = 1 ∧ q.opp = false)) = calmQ q := by cases q <;> rfl

theorem tcalm_any {W : World} {p mo : Nat} {tp : TypeId} {pre post : List Value} {ag : Nat → Nat → Bool} {t : Tb} (h : TbAt W p mo tp pre post ag t) : Calls Tryz.prog 47 #[.pointer (some ⟨p, mo, none⟩)] W fun e w' =>
    e = .returned (.bool (calmT t.st)) ∧ Only (fun _ => False) W w' := by
  have HT := Lib.hid h
  clear h
  obtain ⟨b, hb⟩ : ∃ b, b = calmT t.st := ⟨_, rfl⟩
  have Hb := Lib.hid hb
  rw [← hb]
  clear hb
  go_enter Tryz.func47, Tryz.ntmps47
  go_wp2
  go_loopw [5] (fun i w => ∃ k : Nat, k ≤ 2 ∧ i = .int .i64 (k : Int) ∧ Hid (Only (fun _ => False) W w ∧ ∀ s, s < k → ∀ o, o < 256 → calmQ (t.st s o) = true)) (fun i _ => 2 - (intOf i).toNat)
  case atStart => exact ⟨0, by omega, rfl, Only.refl _ _, fun s hs => absurd hs (by omega)⟩
  case round =>
    obtain ⟨k, hk, rfl, hrel⟩ := hrel
    by_cases hlt : k < 2
    · have hk2 : (k : Int) < 2 := by omega
      go_wp2
      obtain ⟨W1, hW1⟩ : ∃ W1, W1 = wr := ⟨_, rfl⟩
      subst hW1
      have HR := hrel
      clear hrel
      go_loopw [8] (fun i w => ∃ j : Nat, j ≤ 256 ∧ i = .int .i64 (j : Int) ∧ Hid (Only (fun _ => False) W w ∧ (∀ s, s < k → ∀ o, o < 256 → calmQ (t.st s o) = true) ∧ ∀ o, o < j → calmQ (t.st k o) = true)) (fun i _ => 256 - (intOf i).toNat)
      case atStart => exact ⟨0, by omega, rfl, HR.out.1, HR.out.2, fun o ho => absurd ho (by omega)⟩
      case round =>
        clear HR
        obtain ⟨j, hj, rfl, hrel⟩ := hrel
        by_cases hjn : j < 256
        · have hj2 : (j : Int) < 256 := by omega
          obtain ⟨cs, hB, hC⟩ := HT.out.same hrel.out.1
          have hr := st_range hB hC hlt hjn rfl
          obtain ⟨q, hq⟩ : ∃ q, q = t.st k j := ⟨_, rfl⟩
          rw [← hq] at hr
          have HRg := Lib.hid hr
          have HQ := Lib.hid hq
          have HCm : Hid (∀ w, Calls Tryz.prog 99 #[.agg #[.int .i64 (q.kind : Int), .bool q.opp]] w fun e w' => e = .returned (.bool (calmQ q)) ∧ Only (fun _ => False) w w') := fun w => by
            have := calm_any w (q.kind : Int) q.opp
            rwa [calm_kind] at this
          clear hB hC hr hq
          cases hcq : calmQ q
          · have HF := Lib.hid (Hb.out.trans (Bool.eq_false_iff.2 (fun hA => by have := calmT_iff.1 hA k hlt j hjn; rw [← HQ.out, hcq] at this; cases this)))
            rw [hcq] at HCm
            clear hcq
            go_wp2_with (first
              | ((with_reducible show wpList _ _ _ (⟨some 18, _, _, _, _, _⟩ :: _) _ _); refine wpList_load_mid rfl 65 _ rfl p (mo + k * 512 + j * 2) rfl (qsC q) _ HRg.out Tryz.underlying65 rfl size_state ?_)
              | (go_at_call 99; refine (HCm.out _).mono ?_; rintro e w5 ⟨rfl, ho⟩; have ho5 := Lib.hid (hrel.out.1.trans ho (fun _ h => h.elim)); clear ho)
              | fail)
            go_ret
            exact ⟨by rw [HF.out]; rfl, ho5.out⟩
          · have HCQ := Lib.hid hcq
            rw [hcq] at HCm
            clear hcq
            go_wp2_with (first
              | ((with_reducible show wpList _ _ _ (⟨some 18, _, _, _, _, _⟩ :: _) _ _); refine wpList_load_mid rfl 65 _ rfl p (mo + k * 512 + j * 2) rfl (qsC q) _ HRg.out Tryz.underlying65 rfl size_state ?_)
              | (go_at_call 99; refine (HCm.out _).mono ?_; rintro e w5 ⟨rfl, ho⟩; have ho5 := Lib.hid (hrel.out.1.trans ho (fun _ h => h.elim)); clear ho)
              | fail)
            go_roundw
            case rel =>
              refine ⟨j + 1, by omega, by go_num, ho5.out, hrel.out.2.1, fun o ho => ?_⟩
              rcases Nat.lt_or_ge o j with h1 | h1
              · exact hrel.out.2.2 o h1
              · obtain rfl : o = j := by omega
                rw [← HQ.out]; exact HCQ.out
            case measure => simp [intOf]; omega
        · obtain rfl : j = 256 := by omega
          go_wp2
          go_roundw
          case rel =>
            refine ⟨k + 1, by omega, by go_num, hrel.out.1, fun s hs => ?_⟩
            rcases Nat.lt_or_ge s k with h1 | h1
            · exact hrel.out.2.1 s h1
            · obtain rfl : s = k := by omega
              exact hrel.out.2.2
          case measure => simp [intOf]; omega
    · obtain rfl : k = 2 := by omega
      have HF := Lib.hid (Hb.out.trans (calmT_iff.2 hrel.out.2))
      go_wp2
      go_ret
      exact ⟨by rw [HF.out]; rfl, hrel.out.1⟩
end Go.Proofs.YtbnfhklpobephaaGreatDoor
