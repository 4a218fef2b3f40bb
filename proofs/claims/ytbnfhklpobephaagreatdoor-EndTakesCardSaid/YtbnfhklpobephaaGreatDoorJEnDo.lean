/- Several texts in one. -/
import Derived.Test.YtbnfhklpobephaaGreatDoorJEnTwo
import Derived.Test.YtbnfhklpobephaaGreatDoorJSnLong
/- Acts on an end, as plain functions. -/
namespace Go.Proofs.YtbnfhklpobephaaGreatDoor
open Go Go.RowKit
set_option maxRecDepth 100000

def feedsE (ag : Nat → Nat → Bool) : Ee → List UInt8 → Ee
  | E, [] => E
  | E, c :: l => feedsE ag (E.feed ag c false).1 l
theorem feedsE_snoc (ag : Nat → Nat → Bool) (c : UInt8) : ∀ (l : List UInt8) (E : Ee), feedsE ag E (l ++ [c]) = ((feedsE ag E l).feed ag c false).1
  | [], _ => rfl
  | _ :: l, _ => feedsE_snoc ag c l _
theorem feedsE_sz (ag : Nat → Nat → Bool) : ∀ (l : List UInt8) {E : Ee} {k : Nat}, E.Sz k → (feedsE ag E l).Sz (k + l.length)
  | [], _, _, h => h
  | c :: l, E, k, h => by
    have := feedsE_sz ag l (Ee.feed_sz ag h c false)
    rw [show k + (c :: l).length = k + 1 + l.length from by simp only [List.length_cons]; omega]
    exact this
theorem feedsE_vk (ag : Nat → Nat → Bool) : ∀ (l : List UInt8) {E : Ee}, VOk E.k.m → VOk (feedsE ag E l).k.m
  | [], _, h => h
  | c :: l, _, h => feedsE_vk ag l (feed_vk h c false)
theorem feedsE_pre (ag : Nat → Nat → Bool) (o : List (Int × List UInt8)) : ∀ (l : List UInt8) (E : Ee), feedsE ag (E.pre o) l = (feedsE ag E l).pre o
  | [], _ => rfl
  | c :: l, E => by
    show feedsE ag ((E.pre o).feed ag c false).1 l = _
    rw [pre_feed]
    exact feedsE_pre ag o l _
/-- One act, as the law does it: no marks. -/
def actE (ag : Nat → Nat → Bool) (a : Ac) (E : Ee) : Ee :=
  if a.k = 0 then feedsE ag E a.xs
  else if a.k = 1 ∨ a.k = 2 then (E.ask a.n a.o (decide (a.k = 1))).2.1
  else if a.k = 3 then (E.set a.n).2
  else if a.k = 4 then E.say a.xs
  else if a.k = 5 then (E.cmd a.n).2
  else E
theorem Ee.askedT_k (E : Ee) (s o : Nat) (on : Bool) : (E.askedT s o on).k = E.k := by
  unfold Ee.askedT
  cases E.T.ask s o on with
  | none => rfl
  | some r => exact Ee.sendV_k (e := { E with T := r.1, asked := E.asked + 1 }) _ _
theorem Ee.ask_k (E : Ee) (s o : Int) (on : Bool) : (E.ask s o on).2.1.k = E.k := by
  unfold Ee.ask
  split
  · split
    · rfl
    · exact Ee.sendV_k (e := { E with asked := E.asked + 1 }) _ _
  · split
    · rfl
    · split
      · show (Ee.turn _ _ _).k = _
        rw [Ee.turn_k, Ee.askedT_k]
      · exact Ee.askedT_k _ _ _ _
theorem Ee.set_k (E : Ee) (n : Int) : (E.set n).2.k = E.k := by
  unfold Ee.set
  split
  · exact Ee.sendS_k (e := { E with H := (E.H.set E.T n).2.2 }) _ _
  · rfl
theorem Ee.cmd_k (E : Ee) (c : Int) : (E.cmd c).2.k = E.k := by
  show (if tkNum (tk2 c) = 0 then E.send 2 (tkBytes (tk2 c)) else E).k = _
  split
  · exact Ee.send_k _ _
  · rfl
theorem actE_vk (ag : Nat → Nat → Bool) (a : Ac) {E : Ee} (h : VOk E.k.m) : VOk (actE ag a E).k.m := by
  unfold actE
  split
  · exact feedsE_vk ag _ h
  split
  · rw [Ee.ask_k]; exact h
  split
  · rw [Ee.set_k]; exact h
  split
  · unfold Ee.say; rw [Ee.send_k]; exact h
  split
  · rw [Ee.cmd_k]; exact h
  · exact h
theorem actE_sz (ag : Nat → Nat → Bool) (a : Ac) {E : Ee} {k : Nat} (h : E.Sz k) : (actE ag a E).Sz (k + 1 + a.xs.length) := by
  unfold actE
  split
  · exact (feedsE_sz ag _ h).more (by omega)
  split
  · exact (Ee.ask_sz h _ _ _).more (by omega)
  split
  · exact (Ee.set_sz h _).more (by omega)
  split
  · exact (Ee.say_sz h _).more (by omega)
  split
  · exact (Ee.cmd_sz h _).more (by omega)
  · exact h.more (by omega)
theorem actE_pre (ag : Nat → Nat → Bool) (o : List (Int × List UInt8)) (a : Ac) (E : Ee) : actE ag a (E.pre o) = (actE ag a E).pre o := by
  unfold actE
  split
  · exact feedsE_pre ag o _ _
  split
  · exact pre_ask o E _ _ _
  split
  · exact pre_set o E _
  split
  · exact pre_say o E _
  split
  · exact pre_cmd o E _
  · rfl
/-- Both ends behind some acts: one is taken from behind each, what was taken of it is 'all'. -/
theorem takes_step (ag : Nat → Nat → Bool) (a : Ac) {E F : Ee} {all : List (Int × List UInt8)} (h : F = E.pre all) : actE ag a F = (actE ag a E).take.pre (all ++ (actE ag a E).out) := by
  rw [h, actE_pre, pre_take]
end Go.Proofs.YtbnfhklpobephaaGreatDoor
/- Two ends side by side, and a row of pieces that were taken of the first. -/
namespace Go.Proofs.YtbnfhklpobephaaGreatDoor
open Go Go.RowKit
set_option maxRecDepth 100000
set_option maxHeartbeats 4000000

/-- The row: the law's own, in a block that is neither end's; its bytes lie in blocks of K, which no end writes to. -/
structure AllAt (w W : World) (M R M' R' K : Nat → Prop) (A : Option Addr) (n c : Nat) (xs : List Pc) (out : List (Int × List UInt8)) : Prop where
  row : W.ownsRow w.heap.size 81 2 (.slice A n c) n (xs.flatMap Pc.cs)
  len : n = xs.length
  out : xs.map (fun x => (x.k, x.b)) = out
  far : ∀ g, (Value.slice A n c).ownBlock = some g → ((¬ M g ∧ ¬ M' g) ∧ ¬ R g ∧ ¬ R' g) ∧ ¬ K g
  ok : ∀ x ∈ xs, x.Ok W K
  kd : ∀ i, K i → i < W.heap.size ∧ ¬ M i ∧ ¬ M' i
def EnAll (w W : World) (es : List Addr) (p q : Nat) (ag : Nat → Nat → Bool) (E F : Ee) (A : Option Addr) (n c : Nat) (out : List (Int × List UInt8)) : Prop := ∃ M R M' R' K xs, TwoAt w W es p q ag E F M R M' R' ∧ AllAt w W M R M' R' K A n c xs out
section
variable {w W W' : World} {es : List Addr} {p q : Nat} {ag : Nat → Nat → Bool} {E F E' F' : Ee} {M R M' R' K : Nat → Prop} {A : Option Addr} {n c : Nat} {xs : List Pc} {out : List (Int × List UInt8)}
theorem EnAll.same (h : EnAll w W es p q ag E F A n c out) (ho : Only (fun _ => False) W W') : EnAll w W' es p q ag E F A n c out := by
  obtain ⟨M, R, M', R', K, xs, h, a⟩ := h
  exact ⟨M, R, M', R', K, xs, ⟨h.e.same ho, h.f.same ho, h.old.trans ho (fun _ h => h.elim), h.me, h.mf, h.mm, h.er, h.fr, h.errs.only ho, h.tbw.only ho⟩, own_same a.row ho, a.len, a.out, a.far, fun x hx => (a.ok x hx).far ho (fun _ _ h => h), fun i hi => ⟨Nat.lt_of_lt_of_le (a.kd i hi).1 ho.size, (a.kd i hi).2⟩⟩
theorem EnAll.old (h : EnAll w W es p q ag E F A n c out) : Only (fun _ => False) w W := by
  obtain ⟨_, _, _, _, _, _, h, _⟩ := h
  exact h.old
/-- One of them goes on. -/
theorem all_goesE (h : TwoAt w W es p q ag E F M R M' R') (a : AllAt w W M R M' R' K A n c xs out) (g : EnGoes W.heap.size W p 0 132 [] [] M R ag E' W') : EnAll w W' es p q ag E' F A n c out := by
  have he := g.errs h.e h.errs
  have ht := g.tbw h.e h.tbw
  obtain ⟨M1, R1, k, g⟩ := g
  have hz := h.old.size
  have hlm := h.f.mlt
  have hlr := h.f.rlt
  refine ⟨M1, R1, M', R', K, xs, ⟨k, h.f.far g.only (fun i a b => h.mm i b a) (fun i a b => h.er i b a), h.old.trans g.only (fun i hi => .inr (h.me i hi)), fun i hi => (g.gm i hi).elim (h.me i) (fun h => Nat.le_trans hz h), h.mf, fun i a b => ?_, fun i a b => ?_, fun i a b => ?_, he, ht⟩, ⟨own_only a.row g.only (fun j hj => (a.far j hj).1.1.1), a.len, a.out, fun j hj => ?_, fun x hx => (a.ok x hx).far g.only (fun i hi => (a.kd i hi).2.1), fun i hi => ⟨Nat.lt_of_lt_of_le (a.kd i hi).1 g.only.size, fun hm => ?_, (a.kd i hi).2.2⟩⟩⟩
  · rcases g.gm i a with h1 | h1
    · exact h.mm i h1 b
    · have := hlm i b; omega
  · rcases g.gm i a with h1 | h1
    · exact h.er i h1 b
    · have := hlr i b; omega
  · rcases g.gr i b with h1 | h1
    · exact h.fr i a h1
    · have := hlm i a; omega
  · have hj2 := (own_lt a.row j hj).2
    obtain ⟨⟨⟨f1, f2⟩, f3, f4⟩, f5⟩ := a.far j hj
    exact ⟨⟨⟨fun hm => (g.gm j hm).elim f1 (fun h => by omega), f2⟩, fun hr => (g.gr j hr).elim f3 (fun h => by omega), f4⟩, f5⟩
  · have hi2 := (a.kd i hi).1
    exact (g.gm i hm).elim (a.kd i hi).2.1 (fun h => by omega)
theorem AllAt.swap (a : AllAt w W M R M' R' K A n c xs out) : AllAt w W M' R' M R K A n c xs out :=
  ⟨a.row, a.len, a.out, fun g hg => by
    obtain ⟨⟨⟨f1, f2⟩, f3, f4⟩, f5⟩ := a.far g hg
    exact ⟨⟨⟨f2, f1⟩, f4, f3⟩, f5⟩, a.ok, fun i hi => ⟨(a.kd i hi).1, (a.kd i hi).2.2, (a.kd i hi).2.1⟩⟩
theorem EnAll.swap (h : EnAll w W es p q ag E F A n c out) : EnAll w W es q p ag F E A n c out := by
  obtain ⟨M, R, M', R', K, xs, h, a⟩ := h
  exact ⟨M', R', M, R, K, xs, h.swap, a.swap⟩
/-- A call on the first. -/
theorem EnAll.call {f : FuncId} {args : Array Value} {P : Ending → Prop} (h : EnAll w W es p q ag E F A n c out)
    (hc : ∀ M R, IsEe W p 0 132 [] [] M R ag E → ErrsAt W es → TbW W → Calls Tryz.prog f args W fun e w' => P e ∧ Hid (EnGoes W.heap.size W p 0 132 [] [] M R ag E' w')) :
    Calls Tryz.prog f args W fun e w' => P e ∧ Hid (EnAll w w' es p q ag E' F A n c out) := by
  obtain ⟨M, R, M', R', K, xs, h, a⟩ := h
  refine (hc M R h.e h.errs h.tbw).mono ?_
  rintro e w' ⟨h1, h2⟩
  exact ⟨h1, all_goesE h a h2.out⟩
theorem EnAll.feed (h : EnAll w W es p q ag E F A n c out) (hv : VOk E.k.m) (hl : E.Lo) (b : UInt8) :
    Calls Tryz.prog 23 #[.pointer (some ⟨p, 0, none⟩), .int .u8 (b.toNat : Int), .bool false] W fun e w' => (∃ v1 v2, e = .returned (.tuple #[v1, v2])) ∧ Hid (EnAll w w' es p q ag (E.feed ag b false).1 F A n c out) :=
  h.call (fun _ _ k he ht => (enFeed k he ht hv hl b false).mono (fun _ _ ⟨v1, v2, h1, h2⟩ => ⟨⟨v1, v2, h1⟩, h2.out.en⟩))
theorem EnAll.ask (h : EnAll w W es p q ag E F A n c out) (hl : E.Lo) (s o : Int) (on : Bool) :
    Calls Tryz.prog 24 #[.pointer (some ⟨p, 0, none⟩), .int .i64 s, .int .i64 o, .bool on] W fun e w' => (∃ v1 v2, e = .returned (.tuple #[v1, v2])) ∧ Hid (EnAll w w' es p q ag (E.ask s o on).2.1 F A n c out) :=
  h.call (fun _ _ k he ht => (enAsk k he ht hl s o on).mono (fun _ _ ⟨v1, v2, h1, h2⟩ => ⟨⟨v1, v2, h1⟩, h2.out.en⟩))
theorem EnAll.set (h : EnAll w W es p q ag E F A n c out) (hl : E.Lo) {z : Int} (h64 : In64 z) :
    Calls Tryz.prog 25 #[.pointer (some ⟨p, 0, none⟩), .int .i64 z] W fun e w' => (∃ v, e = .returned v) ∧ Hid (EnAll w w' es p q ag (E.set z).2 F A n c out) :=
  h.call (fun _ _ k he _ => (enSet k he hl h64).mono (fun _ _ ⟨v, h1, h2⟩ => ⟨⟨v, h1⟩, h2.out.en⟩))
theorem EnAll.say (h : EnAll w W es p q ag E F A n c out) (hl : E.Lo) {B : Option Addr} {m d : Nat} {bs : List UInt8} (hs : Src W B m bs) (hn : m ≤ 1000) (hnc : m ≤ d) :
    Calls Tryz.prog 26 #[.pointer (some ⟨p, 0, none⟩), .slice B m d] W fun e w' => e = .returned (.tuple #[]) ∧ Hid (EnAll w w' es p q ag (E.say bs) F A n c out) :=
  h.call (fun _ _ k _ _ => enSay k hl hs hn hnc)
theorem EnAll.cmd (h : EnAll w W es p q ag E F A n c out) (hl : E.Lo) (z : Int) :
    Calls Tryz.prog 27 #[.pointer (some ⟨p, 0, none⟩), .int .i64 z] W fun e w' => (∃ v, e = .returned v) ∧ Hid (EnAll w w' es p q ag (E.cmd z).2 F A n c out) :=
  h.call (fun _ _ k he _ => (enCmd k he (by have := hl.out; omega) z).mono (fun _ _ ⟨v, h1, h2⟩ => ⟨⟨v, h1⟩, h2.out.2.2⟩))
/-- What is to be sent is taken of the first. -/
theorem EnAll.take (h : EnAll w W es p q ag E F A n c out) :
    Calls Tryz.prog 28 #[.pointer (some ⟨p, 0, none⟩)] W fun e w' => ∃ A2 n2 c2, e = .returned (.slice A2 n2 c2) ∧ n2 = E.out.length ∧ Hid (∃ M R M' R' K xs xs2, TwoAt w w' es p q ag E.take F M R M' R' ∧ AllAt w w' M R M' R' K A n c xs out ∧ PcsAt w' A2 n2 K xs2 E.out ∧ n2 ≤ c2 ∧ c2 ≤ 9223372036854775807) := by
  obtain ⟨M, R, M', R', K, xs, h, a⟩ := h
  refine (enTake h.e).mono ?_
  rintro e w' ⟨A2, n2, c2, rfl, hf⟩
  obtain ⟨k', ho, xs2, hx, hc1, hc2⟩ := hf.out
  have hp := h.e.mp
  have hz := ho.size
  have hdis : ∀ i, R i → ¬ M i := by
    obtain ⟨_, _, _, _, _, _, _, ke⟩ := h.e
    exact ke.dis
  have hp18 := h.e.p18
  refine ⟨A2, n2, c2, rfl, by rw [hx.len, ← hx.out, List.length_map], M, R, M', R', fun i => K i ∨ R i, xs, xs2, ⟨k', h.f.far ho (fun i a b => h.mm i (b ▸ hp) a) (fun i a b => h.er i (b ▸ hp) a), h.old.trans ho (fun i hi => .inr (hi ▸ h.me p hp)), h.me, h.mf, h.mm, h.er, h.fr, h.errs.far ho (fun i hi e => by omega), h.tbw.far ho (fun i hi e => by omega)⟩, ⟨own_only a.row ho (fun g hg e => (a.far g hg).1.1.1 (e ▸ hp)), a.len, a.out, fun g hg => ⟨(a.far g hg).1, fun hk => hk.elim (a.far g hg).2 (a.far g hg).1.2.1⟩, fun x hx => ((a.ok x hx).far ho (fun i hi e => (a.kd i hi).2.1 (e ▸ hp))).grow (fun _ h => .inl h), fun i hi => ?_⟩, ⟨hx.len, hx.out, hx.at_, fun x hx2 => (hx.ok x hx2).grow (fun _ h => .inr h)⟩, hc1, hc2⟩
  rcases hi with hi | hi
  · exact ⟨Nat.lt_of_lt_of_le (a.kd i hi).1 hz, (a.kd i hi).2⟩
  · exact ⟨Nat.lt_of_lt_of_le (h.e.rlt i hi) hz, hdis i hi, fun hm => h.fr i hm hi⟩
/-- .. and appended to the row. -/
theorem all_append (hw : 18 ≤ w.heap.size) {A2 A3 : Option Addr} {n2 n3 c3 : Nat} {xs2 : List Pc} {out2 : List (Int × List UInt8)} (h : TwoAt w W es p q ag E F M R M' R') (a : AllAt w W M R M' R' K A n c xs out) (x2 : PcsAt W A2 n2 K xs2 out2)
    (hn : n3 = n + n2) (hrow : W'.ownsRow w.heap.size 81 2 (.slice A3 n3 c3) n3 (xs.flatMap Pc.cs ++ xs2.flatMap Pc.cs)) (ho : Only (fun i => (Value.slice A n c).ownBlock = some i) W W')
    (hk : ∀ g, (Value.slice A3 n3 c3).ownBlock = some g → (Value.slice A n c).ownBlock = some g ∨ W.heap.size ≤ g) : EnAll w W' es p q ag E F A3 n3 c3 (out ++ out2) := by
  have fe := fun i (hm : M i) (hs : (Value.slice A n c).ownBlock = some i) => (a.far i hs).1.1.1 hm
  have ff := fun i (hm : M' i) (hs : (Value.slice A n c).ownBlock = some i) => (a.far i hs).1.1.2 hm
  have fr := fun i (hm : R i) (hs : (Value.slice A n c).ownBlock = some i) => (a.far i hs).1.2.1 hm
  have fr' := fun i (hm : R' i) (hs : (Value.slice A n c).ownBlock = some i) => (a.far i hs).1.2.2 hm
  have fk := fun i (hm : K i) (hs : (Value.slice A n c).ownBlock = some i) => (a.far i hs).2 hm
  have h18 : ∀ i, i < 18 → ¬ (Value.slice A n c).ownBlock = some i := fun i hi hs => by
    have h1 := (own_lt a.row i hs).1
    omega
  refine ⟨M, R, M', R', K, xs ++ xs2, ⟨h.e.far ho fe fr, h.f.far ho ff fr', h.old.trans ho (fun i hi => .inr (own_lt a.row i hi).1), h.me, h.mf, h.mm, h.er, h.fr, h.errs.far ho h18, h.tbw.far ho h18⟩, ⟨by rw [List.flatMap_append]; exact hrow, by rw [hn, a.len, x2.len, List.length_append], by rw [List.map_append, a.out, x2.out], fun g hg => ?_, fun x hx => ?_, fun i hi => ⟨Nat.lt_of_lt_of_le (a.kd i hi).1 ho.size, (a.kd i hi).2⟩⟩⟩
  · rcases hk g hg with h1 | h1
    · exact a.far g h1
    · exact ⟨⟨⟨fun hm => by have := h.e.mlt g hm; omega, fun hm => by have := h.f.mlt g hm; omega⟩, fun hm => by have := h.e.rlt g hm; omega, fun hm => by have := h.f.rlt g hm; omega⟩, fun hm => by have := (a.kd g hm).1; omega⟩
  · rcases List.mem_append.1 hx with hx | hx
    · exact (a.ok x hx).far ho fk
    · exact (x2.ok x hx).far ho fk
/-- Two new ones, and an empty row. -/
theorem all_make {w1 w2 : World} {B1 q1 B2 q2 N : Nat} (k1 : IsEe w1 p 0 132 [] [] (· = p) (fun i => B1 ≤ i ∧ i < q1) ag E) (hp : w.heap.size ≤ p) (hq1 : q1 ≤ p) (ho1 : Only (fun _ => False) w w1)
    (k2 : IsEe w2 q 0 132 [] [] (· = q) (fun i => B2 ≤ i ∧ i < q2) ag F) (hq : w1.heap.size ≤ q) (hB2 : w1.heap.size ≤ B2) (ho2 : Only (fun _ => False) w1 w2) (he : ErrsAt w es) (ht : TbW w)
    (ho3 : Only (fun _ => False) w2 W) (hN : Blk W N 81 []) (hNl : w2.heap.size ≤ N) : EnAll w W es p q ag E F (some ⟨N, 0, none⟩) 0 0 [] := by
  have hp1 := k1.lt
  have hq2 := k2.lt
  have ho : Only (fun _ => False) w W := (ho1.trans ho2 (fun _ h => h.elim)).trans ho3 (fun _ h => h.elim)
  have hz1 := ho1.size
  have hz2 := ho2.size
  refine ⟨_, _, _, _, fun _ => False, [], ⟨(k1.same ho2).same ho3, k2.same ho3, ho, fun i hi => (by subst hi; exact hp), fun i hi => (by subst hi; omega), fun i a b => (by omega), fun i a b => (by omega), fun i a b => (by omega), he.only ho, ht.only ho⟩, ⟨own_of_blk (cur := []) hN rfl rfl (Nat.le_refl _) (by omega) (by omega), rfl, rfl, fun g hg => ?_, fun x hx => (List.not_mem_nil hx).elim, fun i hi => hi.elim⟩⟩
  have : g = N := by simpa [Value.ownBlock] using hg.symm
  subst this
  have hr2 := k2.rlt
  exact ⟨⟨⟨by omega, by omega⟩, fun h => by omega, fun h => by have := hr2 g h; omega⟩, fun h => h⟩
end
end Go.Proofs.YtbnfhklpobephaaGreatDoor
/- Two ends and the law's row, beside blocks of the law's own that stay as they are. -/
namespace Go.Proofs.YtbnfhklpobephaaGreatDoor
open Go Go.RowKit
set_option maxRecDepth 100000
set_option maxHeartbeats 4000000

def EnAllK (w W : World) (es : List Addr) (p q : Nat) (ag : Nat → Nat → Bool) (E F : Ee) (A : Option Addr) (n c : Nat) (out : List (Int × List UInt8)) (Q : Nat → Prop) : Prop :=
  ∃ M R M' R' K xs, TwoAt w W es p q ag E F M R M' R' ∧ AllAt w W M R M' R' K A n c xs out ∧ ∀ i, Q i → K i
section
variable {w W W' : World} {es : List Addr} {p q : Nat} {ag : Nat → Nat → Bool} {E F E' F' : Ee} {M R M' R' K Q : Nat → Prop} {A : Option Addr} {n c : Nat} {xs : List Pc} {out : List (Int × List UInt8)}
theorem EnAllK.all (h : EnAllK w W es p q ag E F A n c out Q) : EnAll w W es p q ag E F A n c out := by
  obtain ⟨M, R, M', R', K, xs, h, a, _⟩ := h
  exact ⟨M, R, M', R', K, xs, h, a⟩
theorem EnAllK.old (h : EnAllK w W es p q ag E F A n c out Q) : Only (fun _ => False) w W := h.all.old
theorem AllAt.same (a : AllAt w W M R M' R' K A n c xs out) (ho : Only (fun _ => False) W W') : AllAt w W' M R M' R' K A n c xs out :=
  ⟨own_same a.row ho, a.len, a.out, a.far, fun x hx => (a.ok x hx).far ho (fun _ _ h => h), fun i hi => ⟨Nat.lt_of_lt_of_le (a.kd i hi).1 ho.size, (a.kd i hi).2⟩⟩
theorem TwoAt.same (h : TwoAt w W es p q ag E F M R M' R') (ho : Only (fun _ => False) W W') : TwoAt w W' es p q ag E F M R M' R' :=
  ⟨h.e.same ho, h.f.same ho, h.old.trans ho (fun _ h => h.elim), h.me, h.mf, h.mm, h.er, h.fr, h.errs.only ho, h.tbw.only ho⟩
theorem EnAllK.same (h : EnAllK w W es p q ag E F A n c out Q) (ho : Only (fun _ => False) W W') : EnAllK w W' es p q ag E F A n c out Q := by
  obtain ⟨M, R, M', R', K, xs, h, a, hQ⟩ := h
  exact ⟨M, R, M', R', K, xs, h.same ho, a.same ho, hQ⟩
theorem EnAllK.swap (h : EnAllK w W es p q ag E F A n c out Q) : EnAllK w W es q p ag F E A n c out Q := by
  obtain ⟨M, R, M', R', K, xs, h, a, hQ⟩ := h
  exact ⟨M', R', M, R, K, xs, h.swap, a.swap, hQ⟩
/-- New blocks are kept. -/
theorem EnAll.keep (h : EnAll w W es p q ag E F A n c out) (ho : Only (fun _ => False) W W') (hQ : ∀ i, Q i → W.heap.size ≤ i ∧ i < W'.heap.size) : EnAllK w W' es p q ag E F A n c out Q := by
  obtain ⟨M, R, M', R', K, xs, h, a⟩ := h
  have hz := ho.size
  refine ⟨M, R, M', R', fun i => K i ∨ Q i, xs, h.same ho, ⟨own_same a.row ho, a.len, a.out, fun g hg => ⟨(a.far g hg).1, fun hk => hk.elim (a.far g hg).2 (fun hq => ?_)⟩, fun x hx => ((a.ok x hx).far ho (fun _ _ h => h)).grow (fun _ h => .inl h), fun i hi => ?_⟩, fun i hi => .inr hi⟩
  · have h1 := (own_lt a.row g hg).2
    have h2 := (hQ g hq).1
    omega
  · rcases hi with hi | hi
    · exact ⟨Nat.lt_of_lt_of_le (a.kd i hi).1 hz, (a.kd i hi).2⟩
    · refine ⟨(hQ i hi).2, fun hm => ?_, fun hm => ?_⟩
      · have h1 := h.e.mlt i hm
        have h2 := (hQ i hi).1
        omega
      · have h1 := h.f.mlt i hm
        have h2 := (hQ i hi).1
        omega
theorem all_goesK (h : TwoAt w W es p q ag E F M R M' R') (a : AllAt w W M R M' R' K A n c xs out) (g : EnGoes W.heap.size W p 0 132 [] [] M R ag E' W') : (∃ M1 R1, TwoAt w W' es p q ag E' F M1 R1 M' R' ∧ AllAt w W' M1 R1 M' R' K A n c xs out) ∧ Only M W W' := by
  have he := g.errs h.e h.errs
  have ht := g.tbw h.e h.tbw
  obtain ⟨M1, R1, k, g⟩ := g
  have hz := h.old.size
  have hlm := h.f.mlt
  have hlr := h.f.rlt
  refine ⟨⟨M1, R1, ⟨k, h.f.far g.only (fun i a b => h.mm i b a) (fun i a b => h.er i b a), h.old.trans g.only (fun i hi => .inr (h.me i hi)), fun i hi => (g.gm i hi).elim (h.me i) (fun h => Nat.le_trans hz h), h.mf, fun i a b => ?_, fun i a b => ?_, fun i a b => ?_, he, ht⟩, ⟨own_only a.row g.only (fun j hj => (a.far j hj).1.1.1), a.len, a.out, fun j hj => ?_, fun x hx => (a.ok x hx).far g.only (fun i hi => (a.kd i hi).2.1), fun i hi => ⟨Nat.lt_of_lt_of_le (a.kd i hi).1 g.only.size, fun hm => ?_, (a.kd i hi).2.2⟩⟩⟩, g.only⟩
  · rcases g.gm i a with h1 | h1
    · exact h.mm i h1 b
    · have := hlm i b; omega
  · rcases g.gm i a with h1 | h1
    · exact h.er i h1 b
    · have := hlr i b; omega
  · rcases g.gr i b with h1 | h1
    · exact h.fr i a h1
    · have := hlm i a; omega
  · have hj2 := (own_lt a.row j hj).2
    obtain ⟨⟨⟨f1, f2⟩, f3, f4⟩, f5⟩ := a.far j hj
    exact ⟨⟨⟨fun hm => (g.gm j hm).elim f1 (fun h => by omega), f2⟩, fun hr => (g.gr j hr).elim f3 (fun h => by omega), f4⟩, f5⟩
  · have hi2 := (a.kd i hi).1
    exact (g.gm i hm).elim (a.kd i hi).2.1 (fun h => by omega)
/-- A call on the first. -/
theorem EnAllK.call {f : FuncId} {args : Array Value} {P : Ending → Prop} (h : EnAllK w W es p q ag E F A n c out Q)
    (hc : ∀ M R, IsEe W p 0 132 [] [] M R ag E → ErrsAt W es → TbW W → Calls Tryz.prog f args W fun e w' => P e ∧ Hid (EnGoes W.heap.size W p 0 132 [] [] M R ag E' w')) :
    Calls Tryz.prog f args W fun e w' => P e ∧ Hid (EnAllK w w' es p q ag E' F A n c out Q ∧ Only (fun i => ¬ Q i) W w') := by
  obtain ⟨M, R, M', R', K, xs, h, a, hQ⟩ := h
  refine (hc M R h.e h.errs h.tbw).mono ?_
  rintro e w' ⟨h1, h2⟩
  obtain ⟨⟨M1, R1, g1, g2⟩, g3⟩ := all_goesK h a h2.out
  exact ⟨h1, ⟨M1, R1, M', R', K, xs, g1, g2, hQ⟩, g3.mono (fun i hi => .inl (fun hq => (a.kd i (hQ i hq)).2.1 hi))⟩
theorem EnAllK.feed (h : EnAllK w W es p q ag E F A n c out Q) (hv : VOk E.k.m) (hl : E.Lo) (b : UInt8) :
    Calls Tryz.prog 23 #[.pointer (some ⟨p, 0, none⟩), .int .u8 (b.toNat : Int), .bool false] W fun e w' => (∃ v1 v2, e = .returned (.tuple #[v1, v2])) ∧ Hid (EnAllK w w' es p q ag (E.feed ag b false).1 F A n c out Q ∧ Only (fun i => ¬ Q i) W w') :=
  h.call (fun _ _ k he ht => (enFeed k he ht hv hl b false).mono (fun _ _ ⟨v1, v2, h1, h2⟩ => ⟨⟨v1, v2, h1⟩, h2.out.en⟩))
theorem EnAllK.ask (h : EnAllK w W es p q ag E F A n c out Q) (hl : E.Lo) (s o : Int) (on : Bool) :
    Calls Tryz.prog 24 #[.pointer (some ⟨p, 0, none⟩), .int .i64 s, .int .i64 o, .bool on] W fun e w' => (∃ v1 v2, e = .returned (.tuple #[v1, v2])) ∧ Hid (EnAllK w w' es p q ag (E.ask s o on).2.1 F A n c out Q ∧ Only (fun i => ¬ Q i) W w') :=
  h.call (fun _ _ k he ht => (enAsk k he ht hl s o on).mono (fun _ _ ⟨v1, v2, h1, h2⟩ => ⟨⟨v1, v2, h1⟩, h2.out.en⟩))
theorem EnAllK.set (h : EnAllK w W es p q ag E F A n c out Q) (hl : E.Lo) {z : Int} (h64 : In64 z) :
    Calls Tryz.prog 25 #[.pointer (some ⟨p, 0, none⟩), .int .i64 z] W fun e w' => (∃ v, e = .returned v) ∧ Hid (EnAllK w w' es p q ag (E.set z).2 F A n c out Q ∧ Only (fun i => ¬ Q i) W w') :=
  h.call (fun _ _ k he _ => (enSet k he hl h64).mono (fun _ _ ⟨v, h1, h2⟩ => ⟨⟨v, h1⟩, h2.out.en⟩))
theorem EnAllK.say (h : EnAllK w W es p q ag E F A n c out Q) (hl : E.Lo) {B : Option Addr} {m d : Nat} {bs : List UInt8} (hs : Src W B m bs) (hn : m ≤ 1000) (hnc : m ≤ d) :
    Calls Tryz.prog 26 #[.pointer (some ⟨p, 0, none⟩), .slice B m d] W fun e w' => e = .returned (.tuple #[]) ∧ Hid (EnAllK w w' es p q ag (E.say bs) F A n c out Q ∧ Only (fun i => ¬ Q i) W w') :=
  h.call (fun _ _ k _ _ => enSay k hl hs hn hnc)
theorem EnAllK.cmd (h : EnAllK w W es p q ag E F A n c out Q) (hl : E.Lo) (z : Int) :
    Calls Tryz.prog 27 #[.pointer (some ⟨p, 0, none⟩), .int .i64 z] W fun e w' => (∃ v, e = .returned v) ∧ Hid (EnAllK w w' es p q ag (E.cmd z).2 F A n c out Q ∧ Only (fun i => ¬ Q i) W w') :=
  h.call (fun _ _ k he _ => (enCmd k he (by have := hl.out; omega) z).mono (fun _ _ ⟨v, h1, h2⟩ => ⟨⟨v, h1⟩, h2.out.2.2⟩))
end
end Go.Proofs.YtbnfhklpobephaaGreatDoor
