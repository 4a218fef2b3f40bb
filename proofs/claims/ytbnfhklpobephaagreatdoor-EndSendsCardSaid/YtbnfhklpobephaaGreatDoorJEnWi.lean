/- Several texts in one. -/
import Derived.Test.YtbnfhklpobephaaGreatDoorJOpenBytes
import Derived.Test.YtbnfhklpobephaaGreatDoorJIacSay
/- An end that a law made itself, a row of bytes of the law's own, and blocks of the law's own that stay as they are. -/
namespace Go.Proofs.YtbnfhklpobephaaGreatDoor
open Go Go.RowKit
set_option maxRecDepth 100000
set_option maxHeartbeats 4000000

structure WiAt (w W : World) (es : List Addr) (p : Nat) (ag : Nat → Nat → Bool) (E : Ee) (M R K : Nat → Prop) (A : Option Addr) (n c : Nat) (bs : List UInt8) : Prop where
  e : IsEe W p 0 132 [] [] M R ag E
  old : Only (fun _ => False) w W
  me : ∀ i, M i → w.heap.size ≤ i
  errs : ErrsAt W es
  tbw : TbW W
  row : Body W w.heap.size (.slice A n c) bs
  len : n = bs.length
  far : ∀ g, (Value.slice A n c).ownBlock = some g → ¬ M g ∧ ¬ R g ∧ ¬ K g
  kd : ∀ i, K i → i < W.heap.size ∧ ¬ M i
def EnWi (w W : World) (es : List Addr) (p : Nat) (ag : Nat → Nat → Bool) (E : Ee) (A : Option Addr) (n c : Nat) (bs : List UInt8) (Q : Nat → Prop) : Prop := ∃ M R K, WiAt w W es p ag E M R K A n c bs ∧ ∀ i, Q i → K i
/-- .. with pieces that were taken. -/
def EnWiP (w W : World) (es : List Addr) (p : Nat) (ag : Nat → Nat → Bool) (E : Ee) (A : Option Addr) (n c : Nat) (bs : List UInt8) (A2 : Option Addr) (xs : List Pc) : Prop :=
  ∃ M R K, WiAt w W es p ag E M R K A n c bs ∧ ∀ k x, xs[k]? = some x → (∃ g, A2 = some ⟨g, 0, none⟩ ∧ K g ∧ W.rangeAt g (k * 2) x.cs) ∧ x.Ok W K
section
variable {w W W' : World} {es : List Addr} {p : Nat} {ag : Nat → Nat → Bool} {E E' : Ee} {M R K Q : Nat → Prop} {A A2 : Option Addr} {n c : Nat} {bs : List UInt8} {xs : List Pc}
theorem WiAt.same (h : WiAt w W es p ag E M R K A n c bs) (ho : Only (fun _ => False) W W') : WiAt w W' es p ag E M R K A n c bs :=
  ⟨h.e.same ho, h.old.trans ho (fun _ h => h.elim), h.me, h.errs.only ho, h.tbw.only ho, Body.same h.row ho, h.len, h.far, fun i hi => ⟨Nat.lt_of_lt_of_le (h.kd i hi).1 ho.size, (h.kd i hi).2⟩⟩
theorem EnWi.old (h : EnWi w W es p ag E A n c bs Q) : Only (fun _ => False) w W := by
  obtain ⟨_, _, _, h, _⟩ := h
  exact h.old
theorem EnWi.len (h : EnWi w W es p ag E A n c bs Q) : n = bs.length := by
  obtain ⟨_, _, _, h, _⟩ := h
  exact h.len
theorem EnWi.row (h : EnWi w W es p ag E A n c bs Q) : Body W w.heap.size (.slice A n c) bs := by
  obtain ⟨_, _, _, h, _⟩ := h
  exact h.row
theorem EnWi.same (h : EnWi w W es p ag E A n c bs Q) (ho : Only (fun _ => False) W W') : EnWi w W' es p ag E A n c bs Q := by
  obtain ⟨M, R, K, h, hQ⟩ := h
  exact ⟨M, R, K, h.same ho, hQ⟩
theorem EnWiP.old (h : EnWiP w W es p ag E A n c bs A2 xs) : Only (fun _ => False) w W := by
  obtain ⟨_, _, _, h, _⟩ := h
  exact h.old
theorem EnWiP.len (h : EnWiP w W es p ag E A n c bs A2 xs) : n = bs.length := by
  obtain ⟨_, _, _, h, _⟩ := h
  exact h.len
theorem EnWiP.row (h : EnWiP w W es p ag E A n c bs A2 xs) : Body W w.heap.size (.slice A n c) bs := by
  obtain ⟨_, _, _, h, _⟩ := h
  exact h.row
theorem EnWiP.same (h : EnWiP w W es p ag E A n c bs A2 xs) (ho : Only (fun _ => False) W W') : EnWiP w W' es p ag E A n c bs A2 xs := by
  obtain ⟨M, R, K, h, hx⟩ := h
  refine ⟨M, R, K, h.same ho, fun k x hk => ?_⟩
  obtain ⟨⟨g, h1, h2, h3⟩, h4⟩ := hx k x hk
  exact ⟨⟨g, h1, h2, fun j v hj => ho.cellv (h3 j v hj) (fun h => h)⟩, h4.far ho (fun _ _ h => h)⟩
/-- The pieces are no longer wanted. -/
theorem EnWiP.wi (h : EnWiP w W es p ag E A n c bs A2 xs) : EnWi w W es p ag E A n c bs (fun _ => False) := by
  obtain ⟨M, R, K, h, _⟩ := h
  exact ⟨M, R, K, h, fun _ h => h.elim⟩
/-- New blocks are kept. -/
theorem EnWi.keep {Q' : Nat → Prop} (h : EnWi w W es p ag E A n c bs Q) (ho : Only (fun _ => False) W W') (hQ : ∀ i, Q' i → W.heap.size ≤ i ∧ i < W'.heap.size) : EnWi w W' es p ag E A n c bs Q' := by
  obtain ⟨M, R, K, h, _⟩ := h
  have hz := ho.size
  have h' := h.same ho
  refine ⟨M, R, fun i => K i ∨ Q' i, ⟨h'.e, h'.old, h'.me, h'.errs, h'.tbw, h'.row, h'.len, fun g hg => ⟨(h.far g hg).1, (h.far g hg).2.1, fun hk => hk.elim (h.far g hg).2.2 (fun hq => ?_)⟩, fun i hi => ?_⟩, fun i hi => .inr hi⟩
  · have h1 := (own_lt h.row g hg).2
    have h2 := (hQ g hq).1
    omega
  · rcases hi with hi | hi
    · exact h'.kd i hi
    · refine ⟨(hQ i hi).2, fun hm => ?_⟩
      have h1 := h.e.mlt i hm
      have h2 := (hQ i hi).1
      omega
/-- The end goes on. -/
theorem wi_goes (h : WiAt w W es p ag E M R K A n c bs) (g : EnGoes W.heap.size W p 0 132 [] [] M R ag E' W') : (∃ M1 R1, WiAt w W' es p ag E' M1 R1 K A n c bs) ∧ Only M W W' := by
  have he := g.errs h.e h.errs
  have ht := g.tbw h.e h.tbw
  obtain ⟨M1, R1, k, g⟩ := g
  have hz := h.old.size
  refine ⟨⟨M1, R1, k, h.old.trans g.only (fun i hi => .inr (h.me i hi)), fun i hi => (g.gm i hi).elim (h.me i) (fun h => Nat.le_trans hz h), he, ht, own_only h.row g.only (fun j hj => (h.far j hj).1), h.len, fun j hj => ?_, fun i hi => ⟨Nat.lt_of_lt_of_le (h.kd i hi).1 g.only.size, fun hm => ?_⟩⟩, g.only⟩
  · have hj2 := (own_lt h.row j hj).2
    obtain ⟨f1, f2, f3⟩ := h.far j hj
    exact ⟨fun hm => (g.gm j hm).elim f1 (fun h => by omega), fun hr => (g.gr j hr).elim f2 (fun h => by omega), f3⟩
  · have hi2 := (h.kd i hi).1
    exact (g.gm i hm).elim (h.kd i hi).2 (fun h => by omega)
theorem EnWi.call {f : FuncId} {args : Array Value} {P : Ending → Prop} (h : EnWi w W es p ag E A n c bs Q)
    (hc : ∀ M R, IsEe W p 0 132 [] [] M R ag E → ErrsAt W es → TbW W → Calls Tryz.prog f args W fun e w' => P e ∧ Hid (EnGoes W.heap.size W p 0 132 [] [] M R ag E' w')) :
    Calls Tryz.prog f args W fun e w' => P e ∧ Hid (EnWi w w' es p ag E' A n c bs Q ∧ Only (fun i => ¬ Q i) W w') := by
  obtain ⟨M, R, K, h, hQ⟩ := h
  refine (hc M R h.e h.errs h.tbw).mono ?_
  rintro e w' ⟨h1, h2⟩
  obtain ⟨⟨M1, R1, g1⟩, g3⟩ := wi_goes h h2.out
  exact ⟨h1, ⟨M1, R1, K, g1, hQ⟩, g3.mono (fun i hi => .inl (fun hq => (h.kd i (hQ i hq)).2 hi))⟩
theorem EnWi.feed (h : EnWi w W es p ag E A n c bs Q) (hv : VOk E.k.m) (hl : E.Lo) (b : UInt8) :
    Calls Tryz.prog 23 #[.pointer (some ⟨p, 0, none⟩), .int .u8 (b.toNat : Int), .bool false] W fun e w' => (∃ v1 v2, e = .returned (.tuple #[v1, v2])) ∧ Hid (EnWi w w' es p ag (E.feed ag b false).1 A n c bs Q ∧ Only (fun i => ¬ Q i) W w') :=
  h.call (fun _ _ k he ht => (enFeed k he ht hv hl b false).mono (fun _ _ ⟨v1, v2, h1, h2⟩ => ⟨⟨v1, v2, h1⟩, h2.out.en⟩))
theorem EnWi.ask (h : EnWi w W es p ag E A n c bs Q) (hl : E.Lo) (s o : Int) (on : Bool) :
    Calls Tryz.prog 24 #[.pointer (some ⟨p, 0, none⟩), .int .i64 s, .int .i64 o, .bool on] W fun e w' => (∃ v1 v2, e = .returned (.tuple #[v1, v2])) ∧ Hid (EnWi w w' es p ag (E.ask s o on).2.1 A n c bs Q ∧ Only (fun i => ¬ Q i) W w') :=
  h.call (fun _ _ k he ht => (enAsk k he ht hl s o on).mono (fun _ _ ⟨v1, v2, h1, h2⟩ => ⟨⟨v1, v2, h1⟩, h2.out.en⟩))
theorem EnWi.set (h : EnWi w W es p ag E A n c bs Q) (hl : E.Lo) {z : Int} (h64 : In64 z) :
    Calls Tryz.prog 25 #[.pointer (some ⟨p, 0, none⟩), .int .i64 z] W fun e w' => (∃ v, e = .returned v) ∧ Hid (EnWi w w' es p ag (E.set z).2 A n c bs Q ∧ Only (fun i => ¬ Q i) W w') :=
  h.call (fun _ _ k he _ => (enSet k he hl h64).mono (fun _ _ ⟨v, h1, h2⟩ => ⟨⟨v, h1⟩, h2.out.en⟩))
theorem EnWi.say (h : EnWi w W es p ag E A n c bs Q) (hl : E.Lo) {B : Option Addr} {m d : Nat} {ys : List UInt8} (hs : Src W B m ys) (hn : m ≤ 1000) (hnc : m ≤ d) :
    Calls Tryz.prog 26 #[.pointer (some ⟨p, 0, none⟩), .slice B m d] W fun e w' => e = .returned (.tuple #[]) ∧ Hid (EnWi w w' es p ag (E.say ys) A n c bs Q ∧ Only (fun i => ¬ Q i) W w') :=
  h.call (fun _ _ k _ _ => enSay k hl hs hn hnc)
theorem EnWi.cmd (h : EnWi w W es p ag E A n c bs Q) (hl : E.Lo) (z : Int) :
    Calls Tryz.prog 27 #[.pointer (some ⟨p, 0, none⟩), .int .i64 z] W fun e w' => (∃ v, e = .returned v) ∧ Hid (EnWi w w' es p ag (E.cmd z).2 A n c bs Q ∧ Only (fun i => ¬ Q i) W w') :=
  h.call (fun _ _ k he _ => (enCmd k he (by have := hl.out; omega) z).mono (fun _ _ ⟨v, h1, h2⟩ => ⟨⟨v, h1⟩, h2.out.2.2⟩))
theorem EnWi.on (h : EnWi w W es p ag E A n c bs Q) (s o : Int) :
    Calls Tryz.prog 19 #[.pointer (some ⟨p, 0, none⟩), .int .i64 s, .int .i64 o] W fun e w' => e = .returned (.bool (E.on s o)) ∧ Only (fun _ => False) W w' := by
  obtain ⟨M, R, K, h, _⟩ := h
  exact enOn h.e s o
theorem EnWi.counts (h : EnWi w W es p ag E A n c bs Q) :
    Calls Tryz.prog 13 #[.pointer (some ⟨p, 0, none⟩)] W fun e w' => e = .returned (.tuple #[.int .i64 (E.heard : Int), .int .i64 (E.asked : Int), .int .i64 (E.sent : Int)]) ∧ Only (fun _ => False) W w' := by
  obtain ⟨M, R, K, h, _⟩ := h
  exact enCounts h.e
/-- What is to be sent is taken: its row lies in a block that was the end's own. -/
theorem takeM (k : IsEe W p 0 132 [] [] M R ag E) :
    Calls Tryz.prog 28 #[.pointer (some ⟨p, 0, none⟩)] W fun e w' => ∃ A n c, e = .returned (.slice A n c) ∧ Hid (∃ M', IsEe w' p 0 132 [] [] M' R ag E.take ∧ (∀ i, M' i → M i) ∧ Only (· = p) W w' ∧ ∃ xs, PcsAt w' A n R xs E.out ∧ ∀ g, A = some ⟨g, 0, none⟩ → 0 < n → M g ∧ ¬ M' g) := by
  obtain ⟨ccs, tcs, h, A, n, c, xs, k⟩ := k
  have c47 : W.cell? ⟨p, 0 + 1947, none⟩ = some (.slice A n c) := k.tlIn.val (i := 0) rfl
  have f47 := k.frozen (0 + 1947)
  have HK := Lib.hid k
  clear k
  go_enter Tryz.func28, Tryz.ntmps28
  go_wp2
  go_ret
  have k := HK.out
  have ho : Only (· = p) W (W.setCell ⟨p, 0 + 1947, none⟩ (.slice none 0 0)) := (Only.refl (· = p) W).setCell (p := ⟨p, 0 + 1947, none⟩) (.inl rfl) _
  obtain ⟨b1, b2, b3, b4, b5⟩ := k.body ho
  refine ⟨A, n, c, rfl, fun i => M i ∧ (Value.slice A n c).ownBlock ≠ some i, ⟨ccs, tcs, h, none, 0, 0, [], ?_⟩, fun i hi => hi.1, ho, xs, ⟨k.len, k.out, fun i x hx => ?_, b3⟩, fun g hg hn => ?_⟩
  · have hI := (k.tlIn).setCell (i := 0) (by simp) (.slice none 0 0)
    refine { blk := ⟨?_, k.blk.len⟩, cl := k.cl, tb := k.tb, ok := k.ok, is := b1, row := own_nil _ _ _ _, len := rfl, out := rfl, pcs := fun x hx => (List.not_mem_nil hx).elim, own := fun g hg => (by simp [Value.ownBlock] at hg), m18 := fun i hi => k.m18 i hi.1, mp := ⟨k.mp, fun e => (k.own p e).2 rfl⟩, mlt := fun i hi => b4 i hi.1, rlt := b5, dis := fun i hr hm => k.dis i hr hm.1, tpu := k.tpu, tpt := k.tpt }
    have := hI.blk
    rw [show (enTail (.slice A n c) E).set 0 (.slice none 0 0) = enTail (.slice none 0 0) E.take from rfl, Nat.add_zero] at this
    simpa only [enCs, List.append_assoc] using this
  · have hl := (List.getElem?_eq_some_iff.1 hx).1
    obtain ⟨g, rfl, _, hg, hc⟩ := own_at b2 (by have := k.len; omega)
    refine ⟨g, rfl, hg, fun j v hj => hc _ v ?_⟩
    exact flat_at (cs := Pc.cs) (m := 2) (fun _ => rfl) hj hx
  · subst hg
    have e1 : (Value.slice (some ⟨g, 0, none⟩) n c).ownBlock = some g := by simp [Value.ownBlock]
    exact ⟨(k.own g e1).1, fun hm => hm.2 e1⟩
theorem EnWi.take (h : EnWi w W es p ag E A n c bs Q) :
    Calls Tryz.prog 28 #[.pointer (some ⟨p, 0, none⟩)] W fun e w' => ∃ A2 n2 c2, e = .returned (.slice A2 n2 c2) ∧ n2 = E.out.length ∧ Hid (∃ xs, EnWiP w w' es p ag E.take A n c bs A2 xs ∧ xs.map (fun x => (x.k, x.b)) = E.out) := by
  obtain ⟨M, R, K, h, _⟩ := h
  refine (takeM h.e).mono ?_
  rintro e w' ⟨A2, n2, c2, rfl, hf⟩
  obtain ⟨M', k', hM, ho, xs, hx, hg⟩ := hf.out
  have hp := h.e.mp
  have hp18 := h.e.p18
  have hz := ho.size
  have hdis : ∀ i, R i → ¬ M i := by
    obtain ⟨_, _, _, _, _, _, _, ke⟩ := h.e
    exact ke.dis
  have hl2 : n2 = E.out.length := by rw [hx.len, ← hx.out, List.length_map]
  refine ⟨A2, n2, c2, rfl, hl2, xs, ⟨M', R, fun i => (K i ∨ R i) ∨ (0 < n2 ∧ A2 = some ⟨i, 0, none⟩ ∧ i < w'.heap.size ∧ ¬ M' i ∧ (Value.slice A n c).ownBlock ≠ some i), ⟨k', h.old.trans ho (fun i hi => .inr (hi ▸ h.me p hp)), fun i hi => h.me i (hM i hi), h.errs.far ho (fun i hi e => by omega), h.tbw.far ho (fun i hi e => by omega), own_only h.row ho (fun g hg e => (h.far g hg).1 (e ▸ hp)), h.len, fun g hg' => ⟨fun hm => (h.far g hg').1 (hM g hm), (h.far g hg').2.1, fun hk => ?_⟩, fun i hi => ?_⟩, fun k x hk => ?_⟩, hx.out⟩
  · rcases hk with (hk | hk) | hk
    · exact (h.far g hg').2.2 hk
    · exact (h.far g hg').2.1 hk
    · exact hk.2.2.2.2 hg'
  · rcases hi with (hi | hi) | hi
    · exact ⟨Nat.lt_of_lt_of_le (h.kd i hi).1 hz, fun hm => (h.kd i hi).2 (hM i hm)⟩
    · exact ⟨Nat.lt_of_lt_of_le (h.e.rlt i hi) hz, fun hm => hdis i hi (hM i hm)⟩
    · exact ⟨hi.2.2.1, hi.2.2.2.1⟩
  · obtain ⟨g, h1, h2, h3⟩ := hx.at_ k x hk
    have hn2 : 0 < n2 := by have := (List.getElem?_eq_some_iff.1 hk).1; have := hx.len; omega
    obtain ⟨g1, g2⟩ := hg g h1 hn2
    exact ⟨⟨g, h1, .inr ⟨hn2, h1, h2, g2, fun e => (h.far g e).1 g1⟩, h3⟩, (hx.ok x (List.mem_of_getElem? hk)).grow (fun _ h => .inl (.inr h))⟩
/-- .. and a piece's bytes are appended to the row. -/
theorem EnWiP.append (hw : 18 ≤ w.heap.size) (h : EnWiP w W es p ag E A n c bs A2 xs) {A3 : Option Addr} {n3 c3 : Nat} {ys : List UInt8} (hn : n3 = n + ys.length) (hrow : Body W' w.heap.size (.slice A3 n3 c3) (bs ++ ys)) (ho : Only (fun i => (Value.slice A n c).ownBlock = some i) W W')
    (hk : ∀ g, (Value.slice A3 n3 c3).ownBlock = some g → (Value.slice A n c).ownBlock = some g ∨ W.heap.size ≤ g) : EnWiP w W' es p ag E A3 n3 c3 (bs ++ ys) A2 xs := by
  obtain ⟨M, R, K, h, hx⟩ := h
  have fe := fun i (hm : M i) (hs : (Value.slice A n c).ownBlock = some i) => (h.far i hs).1 hm
  have fr := fun i (hm : R i) (hs : (Value.slice A n c).ownBlock = some i) => (h.far i hs).2.1 hm
  have fk := fun i (hm : K i) (hs : (Value.slice A n c).ownBlock = some i) => (h.far i hs).2.2 hm
  have h18 : ∀ i, i < 18 → ¬ (Value.slice A n c).ownBlock = some i := fun i hi hs => by
    have h1 := (own_lt h.row i hs).1
    omega
  refine ⟨M, R, K, ⟨h.e.far ho fe fr, h.old.trans ho (fun i hi => .inr (own_lt h.row i hi).1), h.me, h.errs.far ho h18, h.tbw.far ho h18, hrow, by rw [hn, h.len, List.length_append], fun g hg => ?_, fun i hi => ⟨Nat.lt_of_lt_of_le (h.kd i hi).1 ho.size, (h.kd i hi).2⟩⟩, fun k x hk' => ?_⟩
  · rcases hk g hg with h1 | h1
    · exact h.far g h1
    · exact ⟨fun hm => by have := h.e.mlt g hm; omega, fun hm => by have := h.e.rlt g hm; omega, fun hm => by have := (h.kd g hm).1; omega⟩
  · obtain ⟨⟨g, h1, h2, h3⟩, h4⟩ := hx k x hk'
    exact ⟨⟨g, h1, h2, fun j v hj => ho.cellv (h3 j v hj) (fk g h2)⟩, h4.far ho fk⟩
end
end Go.Proofs.YtbnfhklpobephaaGreatDoor
/- The items of what is sent, as plain functions: what bytes begin with, the items of all bytes, what is left of them and what they say; the beginning of bytes of the grammar is of it. -/
namespace Go.Proofs.YtbnfhklpobephaaGreatDoor

/-- An item, without its places. -/
structure It where
  kind : Int
  code : Int
  opt : Int
  body : List UInt8
deriving DecidableEq
def It.none : It := ⟨0, 0, 0, []⟩
/-- What bytes begin with: more of them could make it an item; none could; an item of so many. -/
inductive Cut
  | few
  | bad
  | got (x : It) (n : Nat)

def subCut (o : Int) : List UInt8 → Nat → List UInt8 → Cut
  | _, _, [] => .few
  | full, at_, [x] => if x.toNat = 255 then .few else subCut o (full ++ [x]) (at_ + 1) []
  | full, at_, x :: c :: l =>
    if x.toNat = 255 then
      if c.toNat = 255 then subCut o (full ++ [255]) (at_ + 2) l
      else if c.toNat = 240 then .got ⟨5, 0, o, full⟩ (at_ + 2)
      else .bad
    else subCut o (full ++ [x]) (at_ + 1) (c :: l)
/-- Behind a byte 255. -/
def iacCut : List UInt8 → Cut
  | [] => .few
  | d :: l =>
    if d.toNat = 255 then .got ⟨1, 255, 0, []⟩ 2
    else if d.toNat = 250 then
      match l with
      | [] => .few
      | e :: l => subCut (e.toNat : Int) [] 3 l
    else if 251 ≤ d.toNat then
      match l with
      | [] => .few
      | e :: _ => .got ⟨4, (d.toNat : Int), (e.toNat : Int), []⟩ 3
    else if 241 ≤ d.toNat then .got ⟨3, (d.toNat : Int), 0, []⟩ 2
    else .bad
/-- Behind a byte 13 that isn't raw. -/
def retCut : List UInt8 → Cut
  | [] => .few
  | d :: _ => if d.toNat = 0 ∨ d.toNat = 10 then .got ⟨2, (d.toNat : Int), 0, []⟩ 2 else .got ⟨1, 13, 0, []⟩ 1
def cut (raw : Bool) : List UInt8 → Cut
  | [] => .few
  | c :: l =>
    if c.toNat = 255 then iacCut l
    else if c.toNat = 13 ∧ raw = false then retCut l
    else .got ⟨1, (c.toNat : Int), 0, []⟩ 1

theorem cut_cons (raw : Bool) (c : UInt8) (l : List UInt8) : cut raw (c :: l) = if c.toNat = 255 then iacCut l else if c.toNat = 13 ∧ raw = false then retCut l else .got ⟨1, (c.toNat : Int), 0, []⟩ 1 := rfl
theorem iacCut_cons (d : UInt8) (l : List UInt8) : iacCut (d :: l) = if d.toNat = 255 then .got ⟨1, 255, 0, []⟩ 2 else if d.toNat = 250 then (match l with
      | [] => .few
      | e :: l => subCut (e.toNat : Int) [] 3 l) else if 251 ≤ d.toNat then (match l with
      | [] => .few
      | e :: _ => .got ⟨4, (d.toNat : Int), (e.toNat : Int), []⟩ 3) else if 241 ≤ d.toNat then .got ⟨3, (d.toNat : Int), 0, []⟩ 2 else .bad := rfl
theorem retCut_cons (d : UInt8) (l : List UInt8) : retCut (d :: l) = if d.toNat = 0 ∨ d.toNat = 10 then .got ⟨2, (d.toNat : Int), 0, []⟩ 2 else .got ⟨1, 13, 0, []⟩ 1 := rfl
theorem subCut_plain (o : Int) (full : List UInt8) (n : Nat) (x : UInt8) (hx : x.toNat ≠ 255) (l : List UInt8) : subCut o full n (x :: l) = subCut o (full ++ [x]) (n + 1) l := by
  cases l with
  | nil => simp [subCut, hx]
  | cons c l => rw [subCut, if_neg hx]
theorem subCut_two (o : Int) (full : List UInt8) (n : Nat) (x c : UInt8) (hx : x.toNat = 255) (hc : c.toNat = 255) (l : List UInt8) : subCut o full n (x :: c :: l) = subCut o (full ++ [c]) (n + 2) l := by
  rw [subCut, if_pos hx, if_pos hc]
  obtain rfl : c = 255 := UInt8.toNat_inj.1 hc
  rfl
theorem subCut_end (o : Int) (full : List UInt8) (n : Nat) (x c : UInt8) (hx : x.toNat = 255) (hc : c.toNat = 240) (l : List UInt8) : subCut o full n (x :: c :: l) = .got ⟨5, 0, o, full⟩ (n + 2) := by
  rw [subCut, if_pos hx, if_neg (by omega), if_pos hc]
theorem subCut_bad (o : Int) (full : List UInt8) (n : Nat) (x c : UInt8) (hx : x.toNat = 255) (hc : c.toNat ≠ 240) (hc2 : c.toNat ≠ 255) (l : List UInt8) : subCut o full n (x :: c :: l) = .bad := by
  rw [subCut, if_pos hx, if_neg hc2, if_neg hc]
theorem subCut_one (o : Int) (full : List UInt8) (n : Nat) (x : UInt8) (hx : x.toNat = 255) : subCut o full n [x] = .few := by
  rw [subCut, if_pos hx]

/-- A body's bytes, one 255 for each two. -/
def single : List UInt8 → List UInt8
  | [] => []
  | [c] => [c]
  | c :: d :: l => if c.toNat = 255 then c :: single l else c :: single (d :: l)
theorem single_plain (c : UInt8) (hc : c.toNat ≠ 255) (l : List UInt8) : single (c :: l) = c :: single l := by
  cases l with
  | nil => rfl
  | cons d l => rw [single, if_neg hc]
theorem single_two (c d : UInt8) (hc : c.toNat = 255) (l : List UInt8) : single (c :: d :: l) = c :: single l := by rw [single, if_pos hc]
/-- What a Sub's text is. -/
theorem subCut_got (o : Int) : ∀ (full : List UInt8) (n : Nat) (l : List UInt8) (x : It) (m : Nat), subCut o full n l = .got x m →
    ∃ k, m = n + k + 2 ∧ k + 2 ≤ l.length ∧ x = ⟨5, 0, o, full ++ single (l.take k)⟩ ∧ ∀ q, subCut o full n (l.take (k + 2) ++ q) = .got x m
  | full, n, [], x, m, h => by simp [subCut] at h
  | full, n, [a], x, m, h => by
    by_cases ha : a.toNat = 255
    · rw [subCut_one _ _ _ _ ha] at h; cases h
    · rw [subCut_plain _ _ _ _ ha] at h; simp [subCut] at h
  | full, n, a :: c :: l, x, m, h => by
    by_cases ha : a.toNat = 255
    · by_cases hc : c.toNat = 255
      · rw [subCut_two _ _ _ _ _ ha hc] at h
        obtain ⟨k, h1, h2, h3, h4⟩ := subCut_got o _ _ _ _ _ h
        refine ⟨k + 2, by omega, by simp only [List.length_cons]; omega, ?_, fun q => ?_⟩
        · rw [h3, List.append_assoc]
          congr 2
          rw [List.take_succ_cons, List.take_succ_cons, single_two _ _ ha]
          have : a = c := UInt8.toNat_inj.1 (by omega)
          subst this
          rfl
        · rw [List.take_succ_cons, List.take_succ_cons, List.cons_append, List.cons_append, subCut_two _ _ _ _ _ ha hc]
          exact h4 q
      · by_cases hc2 : c.toNat = 240
        · rw [subCut_end _ _ _ _ _ ha hc2] at h
          injection h with h5 h6
          subst h5 h6
          refine ⟨0, by omega, by simp only [List.length_cons]; omega, by simp [single], fun q => ?_⟩
          rw [List.take_succ_cons, List.take_succ_cons, List.cons_append, List.cons_append, subCut_end _ _ _ _ _ ha hc2]
        · rw [subCut_bad _ _ _ _ _ ha hc2 hc] at h; cases h
    · rw [subCut_plain _ _ _ _ ha] at h
      obtain ⟨k, h1, h2, h3, h4⟩ := subCut_got o _ _ _ _ _ h
      refine ⟨k + 1, by omega, by simp only [List.length_cons] at *; omega, ?_, fun q => ?_⟩
      · rw [h3, List.append_assoc, List.take_succ_cons, single_plain _ ha]
        rfl
      · rw [List.take_succ_cons, List.cons_append, subCut_plain _ _ _ _ ha]
        exact h4 q
/-- What an item's bytes are. -/
inductive Form (s : List UInt8) : It → Nat → Prop
  | one (c : UInt8) (n : Nat) (h0 : s[0]? = some c) (hn : n = 1 ∨ (n = 2 ∧ c.toNat = 255)) : Form s ⟨1, (c.toNat : Int), 0, []⟩ n
  | pair (d : UInt8) (h1 : s[1]? = some d) (hd : d.toNat = 0 ∨ d.toNat = 10) : Form s ⟨2, (d.toNat : Int), 0, []⟩ 2
  | plain (d : UInt8) (h1 : s[1]? = some d) : Form s ⟨3, (d.toNat : Int), 0, []⟩ 2
  | verb (d e : UInt8) (h1 : s[1]? = some d) (h2 : s[2]? = some e) : Form s ⟨4, (d.toNat : Int), (e.toNat : Int), []⟩ 3
  | sub (e : UInt8) (k : Nat) (h2 : s[2]? = some e) (hk : k + 5 ≤ s.length) : Form s ⟨5, 0, (e.toNat : Int), single ((s.drop 3).take k)⟩ (k + 5)

theorem cut_form {raw : Bool} {s : List UInt8} {x : It} {n : Nat} (h : cut raw s = .got x n) : Form s x n := by
  match s, h with
  | [], h => simp [cut] at h
  | c :: l, h =>
    rw [cut_cons] at h
    by_cases hc : c.toNat = 255
    · rw [if_pos hc] at h
      match l, h with
      | [], h => simp [iacCut] at h
      | d :: l, h =>
        rw [iacCut_cons] at h
        by_cases hd : d.toNat = 255
        · rw [if_pos hd] at h
          injection h with h1 h2
          subst h1 h2
          have := Form.one (s := c :: d :: l) c 2 rfl (.inr ⟨rfl, hc⟩)
          rw [hc] at this
          exact this
        · rw [if_neg hd] at h
          by_cases hd2 : d.toNat = 250
          · rw [if_pos hd2] at h
            match l, h with
            | [], h => cases h
            | e :: l, h =>
              obtain ⟨k, h1, h2, h3, _⟩ := subCut_got _ _ _ _ _ _ h
              subst h3
              obtain rfl : n = k + 5 := by omega
              exact Form.sub (s := c :: d :: e :: l) e k rfl (by simp only [List.length_cons]; omega)
          · rw [if_neg hd2] at h
            by_cases hd3 : 251 ≤ d.toNat
            · rw [if_pos hd3] at h
              match l, h with
              | [], h => cases h
              | e :: l, h =>
                injection h with h1 h2
                subst h1 h2
                exact .verb d e rfl rfl
            · rw [if_neg hd3] at h
              split at h
              · injection h with h1 h2
                subst h1 h2
                exact .plain d rfl
              · cases h
    · rw [if_neg hc] at h
      split at h
      · rename_i h13
        match l, h with
        | [], h => simp [retCut] at h
        | d :: l, h =>
          rw [retCut_cons] at h
          split at h
          · rename_i hd
            injection h with h1 h2
            subst h1 h2
            exact .pair d rfl hd
          · injection h with h1 h2
            subst h1 h2
            have := Form.one (s := c :: d :: l) c 1 rfl (.inl rfl)
            rw [h13.1] at this
            exact this
      · injection h with h1 h2
        subst h1 h2
        exact .one c 1 rfl (.inl rfl)

theorem Form.pos {s : List UInt8} {x : It} {n : Nat} (h : Form s x n) : 0 < n := by
  cases h with
  | one c n h0 hn => omega
  | _ => omega
theorem cut_bounds {raw : Bool} {s : List UInt8} {x : It} {n : Nat} (h : cut raw s = .got x n) : 0 < n ∧ n ≤ s.length := by
  refine ⟨(cut_form h).pos, ?_⟩
  match s, h with
  | [], h => simp [cut] at h
  | c :: l, h =>
    rw [cut_cons] at h
    split at h
    · match l, h with
      | [], h => simp [iacCut] at h
      | d :: l, h =>
        rw [iacCut_cons] at h
        split at h
        · injection h with h1 h2
          simp only [List.length_cons]
          omega
        · split at h
          · match l, h with
            | [], h => cases h
            | e :: l, h =>
              obtain ⟨k, h1, h2, _⟩ := subCut_got _ _ _ _ _ _ h
              simp only [List.length_cons]
              omega
          · split at h
            · match l, h with
              | [], h => cases h
              | e :: l, h =>
                injection h with h1 h2
                simp only [List.length_cons]
                omega
            · split at h
              · injection h with h1 h2
                simp only [List.length_cons]
                omega
              · cases h
    · split at h
      · match l, h with
        | [], h => simp [retCut] at h
        | d :: l, h =>
          rw [retCut_cons] at h
          split at h <;> (injection h with h1 h2; simp only [List.length_cons]; omega)
      · injection h with h1 h2
        simp only [List.length_cons]
        omega
/-- More bytes make it no other item. -/
theorem cut_more {raw : Bool} {s q : List UInt8} {x : It} {n : Nat} (h : cut raw s = .got x n) : cut raw (s ++ q) = .got x n := by
  match s, h with
  | [], h => simp [cut] at h
  | c :: l, h =>
    rw [cut_cons] at h
    rw [List.cons_append, cut_cons]
    split at h
    · rename_i hc
      rw [if_pos hc]
      match l, h with
      | [], h => simp [iacCut] at h
      | d :: l, h =>
        rw [iacCut_cons] at h
        rw [List.cons_append, iacCut_cons]
        split at h
        · rename_i hd
          rw [if_pos hd]
          exact h
        · rename_i hd
          rw [if_neg hd]
          split at h
          · rename_i hd2
            rw [if_pos hd2]
            match l, h with
            | [], h => cases h
            | e :: l, h =>
              simp only [List.cons_append] at h ⊢
              obtain ⟨k, h1, h2, h3, h4⟩ := subCut_got _ _ _ _ _ _ h
              have := h4 (l.drop (k + 2) ++ q)
              rwa [← List.append_assoc, List.take_append_drop] at this
          · rename_i hd2
            rw [if_neg hd2]
            split at h
            · rename_i hd3
              rw [if_pos hd3]
              match l, h with
              | [], h => cases h
              | e :: l, h => exact h
            · rename_i hd3
              rw [if_neg hd3]
              exact h
    · rename_i hc
      rw [if_neg hc]
      split at h
      · rename_i h13
        rw [if_pos h13]
        match l, h with
        | [], h => simp [retCut] at h
        | d :: l, h => exact h
      · rename_i h13
        rw [if_neg h13]
        exact h
/-- An item with its places. -/
structure Pl where
  it : It
  from_ : Nat
  to_ : Nat
/-- The items of bytes that begin at a place, and how many are left; none: they aren't of the grammar. -/
def parseAt (raw : Bool) : Nat → Nat → List UInt8 → Option (List Pl × Nat)
  | 0, _, s => some ([], s.length)
  | fuel + 1, k, s => match cut raw s with
    | .few => some ([], s.length)
    | .bad => .none
    | .got x n => (parseAt raw fuel (k + n) (s.drop n)).map fun r => (⟨x, k, k + n⟩ :: r.1, r.2)
/-- .. from place k on. -/
def parseFrom (raw : Bool) (k : Nat) (s : List UInt8) : Option (List Pl × Nat) := parseAt raw s.length k s
theorem parseAt_fuel (raw : Bool) : ∀ (f g k : Nat) (s : List UInt8), s.length ≤ f → s.length ≤ g → parseAt raw f k s = parseAt raw g k s
  | 0, 0, _, _, _, _ => rfl
  | 0, g + 1, k, s, h, _ => by
    obtain rfl : s = [] := List.eq_nil_of_length_eq_zero (by omega)
    rfl
  | f + 1, 0, k, s, _, h => by
    obtain rfl : s = [] := List.eq_nil_of_length_eq_zero (by omega)
    rfl
  | f + 1, g + 1, k, s, hf, hg => by
    unfold parseAt
    cases hc : cut raw s with
    | few => rfl
    | bad => rfl
    | got x n =>
      obtain ⟨h1, h2⟩ := cut_bounds hc
      simp only
      rw [parseAt_fuel raw f g (k + n) (s.drop n) (by rw [List.length_drop]; omega) (by rw [List.length_drop]; omega)]
theorem parseFrom_few {raw : Bool} {s : List UInt8} (h : cut raw s = .few) (k : Nat) : parseFrom raw k s = some ([], s.length) := by
  unfold parseFrom
  match s, h with
  | [], _ => rfl
  | c :: l, h => rw [List.length_cons, parseAt, h]; rfl
theorem parseFrom_bad {raw : Bool} {s : List UInt8} (h : cut raw s = .bad) (k : Nat) : parseFrom raw k s = .none := by
  unfold parseFrom
  match s, h with
  | [], h => simp [cut] at h
  | c :: l, h => rw [List.length_cons, parseAt, h]
theorem parseFrom_got {raw : Bool} {s : List UInt8} {x : It} {n : Nat} (h : cut raw s = .got x n) (k : Nat) : parseFrom raw k s = (parseFrom raw (k + n) (s.drop n)).map fun r => (⟨x, k, k + n⟩ :: r.1, r.2) := by
  obtain ⟨h1, h2⟩ := cut_bounds h
  unfold parseFrom
  have e : s.length = (s.length - 1) + 1 := by omega
  rw [e, parseAt, h]
  simp only
  rw [parseAt_fuel raw (s.length - 1) (s.drop n).length (k + n) (s.drop n) (by rw [List.length_drop]; omega) (Nat.le_refl _)]

/-- A rule of induction over the items of bytes. -/
theorem parse_ind {raw : Bool} {M : Nat → List UInt8 → List Pl → Nat → Prop} (few : ∀ k s, cut raw s = .few → M k s [] s.length)
    (got : ∀ k s x n l r, cut raw s = .got x n → 0 < n → n ≤ s.length → parseFrom raw (k + n) (s.drop n) = some (l, r) → M (k + n) (s.drop n) l r → M k s (⟨x, k, k + n⟩ :: l) r) :
    ∀ (m k : Nat) (s : List UInt8) (l : List Pl) (r : Nat), s.length ≤ m → parseFrom raw k s = some (l, r) → M k s l r := by
  intro m
  induction m with
  | zero =>
    intro k s l r hm h
    obtain rfl : s = [] := List.eq_nil_of_length_eq_zero (by omega)
    rw [parseFrom_few rfl] at h
    cases h
    exact few k [] rfl
  | succ m ih =>
    intro k s l r hm h
    cases hc : cut raw s with
    | few =>
      rw [parseFrom_few hc] at h
      cases h
      exact few k s hc
    | bad =>
      rw [parseFrom_bad hc] at h
      cases h
    | got x n =>
      obtain ⟨h1, h2⟩ := cut_bounds hc
      rw [parseFrom_got hc] at h
      cases hq : parseFrom raw (k + n) (s.drop n) with
      | none => rw [hq] at h; cases h
      | some q =>
        obtain ⟨l', r'⟩ := q
        rw [hq] at h
        cases h
        exact got k s x n l' r' hc h1 h2 hq (ih (k + n) (s.drop n) l' r' (by rw [List.length_drop]; omega) hq)
theorem parse_rest {raw : Bool} {k : Nat} {s : List UInt8} {l : List Pl} {r : Nat} (h : parseFrom raw k s = some (l, r)) : r ≤ s.length ∧ l.length + r ≤ s.length :=
  parse_ind (M := fun _ s l r => r ≤ s.length ∧ l.length + r ≤ s.length) (fun _ s _ => by simp) (fun k s x n l r _ h1 h2 _ h3 => by
    rw [List.length_drop] at h3
    simp only [List.length_cons]
    omega) s.length k s l r (Nat.le_refl _) h
/-- Items stand one behind the other. -/
inductive Chain : Nat → List Pl → Nat → Prop
  | nil (k : Nat) : Chain k [] k
  | cons (k n e : Nat) (x : It) (l : List Pl) (hn : 0 < n) (h : Chain (k + n) l e) : Chain k (⟨x, k, k + n⟩ :: l) e
theorem Chain.le {k e : Nat} {l : List Pl} (h : Chain k l e) : k ≤ e ∧ ∀ x ∈ l, k ≤ x.from_ ∧ x.from_ < x.to_ ∧ x.to_ ≤ e := by
  induction h with
  | nil k => exact ⟨Nat.le_refl _, fun x h => by cases h⟩
  | cons k n e x l hn h ih =>
    refine ⟨by omega, fun y hy => ?_⟩
    rcases List.mem_cons.1 hy with rfl | hy
    · exact ⟨Nat.le_refl _, by simp only; omega, by simp only; omega⟩
    · have := ih.2 y hy
      omega
/-- What items say. -/
def itSays (x : It) : List UInt8 := if x.kind = 1 then [UInt8.ofNat x.code.toNat] else if x.kind = 2 then (if x.code = 10 then [13, 10] else [13]) else []
def says : List Pl → List UInt8
  | [] => []
  | x :: l => itSays x.it ++ says l
theorem says_append (a b : List Pl) : says (a ++ b) = says a ++ says b := by
  induction a with
  | nil => rfl
  | cons x a ih => simp [says, ih]
theorem itSays_length (x : It) : (itSays x).length ≤ 2 := by
  unfold itSays
  split
  · simp
  · split
    · split <;> simp
    · simp
theorem says_length (l : List Pl) : (says l).length ≤ 2 * l.length := by
  induction l with
  | nil => simp [says]
  | cons x l ih =>
    have := itSays_length x.it
    simp only [says, List.length_append, List.length_cons]
    omega

end Go.Proofs.YtbnfhklpobephaaGreatDoor
/- What layer 6 tells is of the grammar: an item for each token. -/
namespace Go.Proofs.YtbnfhklpobephaaGreatDoor

theorem subCut_dbl (o : Int) (q : List UInt8) : ∀ (b f : List UInt8) (n : Nat), subCut o f n (dbl b ++ 255 :: 240 :: q) = .got ⟨5, 0, o, f ++ b⟩ (n + (dbl b).length + 2)
  | [], f, n => by
    rw [dbl, List.nil_append, subCut_end o f n 255 240 rfl rfl, List.append_nil]
    rfl
  | c :: b, f, n => by
    unfold dbl
    split
    · rename_i hc
      rw [List.cons_append, List.cons_append, subCut_two _ _ _ _ _ hc hc, subCut_dbl o q b (f ++ [c]) (n + 2), List.append_assoc]
      simp only [List.length_cons, List.singleton_append]
      congr 1
      omega
    · rename_i hc
      rw [List.cons_append, subCut_plain _ _ _ _ hc, subCut_dbl o q b (f ++ [c]) (n + 1), List.append_assoc]
      simp only [List.length_cons, List.singleton_append]
      congr 1
      omega
/-- The kind of a token's item. -/
def kindOf (t : Tk) : Int := if t.kind = 1 then 1 else t.kind + 1
theorem cut_tk (t : Tk) (h : tkNum t = 0) (q : List UInt8) : ∃ x : It, x.kind = kindOf t ∧ cut true (tkRaw t ++ q) = .got x (tkRaw t).length := by
  obtain ⟨k, c, o, b, cut_⟩ := t
  unfold tkNum at h
  simp only at h
  unfold tkRaw kindOf
  simp only
  by_cases h1 : k = 1
  · subst h1
    simp only [if_true] at h ⊢
    simp only [dbl]
    split
    · rename_i h5
      refine ⟨⟨1, 255, 0, []⟩, rfl, ?_⟩
      simp [cut_cons, iacCut_cons, h5]
    · rename_i h5
      refine ⟨⟨1, ((b8 c).toNat : Int), 0, []⟩, rfl, ?_⟩
      simp [cut_cons, h5]
  · by_cases h2 : k = 2
    · subst h2
      simp only [if_true, if_neg h1] at h ⊢
      have hc : 241 ≤ c ∧ c ≤ 249 := by
        split at h
        · assumption
        · omega
      have hb := b8_nat (z := c) (by omega) (by omega)
      have a1 : ¬ (b8 c).toNat = 255 := by omega
      have a2 : ¬ (b8 c).toNat = 250 := by omega
      have a3 : ¬ 251 ≤ (b8 c).toNat := by omega
      have a4 : 241 ≤ (b8 c).toNat := by omega
      refine ⟨⟨3, ((b8 c).toNat : Int), 0, []⟩, rfl, ?_⟩
      simp [cut_cons, iacCut_cons, a1, a2, a3, a4]
    · by_cases h3 : k = 3
      · subst h3
        simp only [if_true, if_neg h1, if_neg h2] at h ⊢
        have hc : 251 ≤ c ∧ c ≤ 254 := by
          split at h
          · assumption
          · omega
        have hb := b8_nat (z := c) (by omega) (by omega)
        have a1 : ¬ (b8 c).toNat = 255 := by omega
        have a2 : ¬ (b8 c).toNat = 250 := by omega
        have a3 : 251 ≤ (b8 c).toNat := by omega
        refine ⟨⟨4, ((b8 c).toNat : Int), ((b8 o).toNat : Int), []⟩, rfl, ?_⟩
        simp [cut_cons, iacCut_cons, a1, a2, a3]
      · by_cases h4 : k = 4
        · subst h4
          simp only [if_neg h1, if_neg h2, if_neg h3]
          refine ⟨⟨5, 0, ((b8 o).toNat : Int), [] ++ b⟩, rfl, ?_⟩
          have e : [255, 250, b8 o] ++ dbl b ++ [255, 240] ++ q = 255 :: 250 :: b8 o :: (dbl b ++ 255 :: 240 :: q) := by simp
          rw [e, cut_cons, if_pos (by decide), iacCut_cons, if_neg (by decide), if_pos (by decide)]
          simp only
          rw [subCut_dbl]
          congr 1
          simp only [List.length_append, List.length_cons, List.length_nil]
        · rw [if_neg h1, if_neg h2, if_neg h3, if_neg h4] at h
          omega
end Go.Proofs.YtbnfhklpobephaaGreatDoor
