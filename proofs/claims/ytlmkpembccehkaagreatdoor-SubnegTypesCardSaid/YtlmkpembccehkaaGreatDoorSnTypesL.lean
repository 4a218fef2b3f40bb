/- SubnegTypes: of two hubs the one gathers the other one's types, and has its size. -/
import Derived.Test.YtlmkpembccehkaaGreatDoorSnTy
import Derived.Test.YtlmkpembccehkaaGreatDoorSnAlive
import Derived.Test.YtlmkpembccehkaaGreatDoorTbNew
import Derived.Test.YtlmkpembccehkaaGreatDoorTbHear
import Derived.Test.YtlmkpembccehkaaGreatDoorTextsFew
import Derived.Test.YtlmkpembccehkaaGreatDoorTtAll
namespace Go.Proofs.YtlmkpembccehkaaGreatDoor
open Go Go.RowKit
set_option maxRecDepth 100000
set_option maxHeartbeats 4000000

theorem tyWalk_long {w : World} {A : Option Addr} {n c : Nat} {ts : List (List UInt8)} (hts : TSrc w A n ts) (hn : n ≤ 9223372036854775807) (cc cr : Int) (hf : fewT ts 10 40 = false) :
    Calls Tryz.prog 4 #[.slice A n c, .agg #[.int .i64 cc, .int .i64 cr]] w (Fine w) := by
  have HA := Lib.hid snAlive_any
  have HF : Hid (∀ W, Only (fun _ => False) w W → Calls Tryz.prog 17 #[.slice A n c, .int .i64 10, .int .i64 40] W fun e w' => e = .returned (.bool (fewT ts 10 40)) ∧ w' = W) := fun W ho => few_any (hts.same ho) hn 10 40
  rw [hf] at HF
  clear hts hf hn
  go_enter Tryz.func4, Tryz.ntmps4
  go_wp2_with (first
    | (go_at_call 5; (with_reducible refine (HA.out _).mono ?_); rintro e w1 ⟨rfl, ho1⟩; have HO1 : Hid (Only (fun _ => False) w w1) := ((Only.refl _ _).alloc _).trans ho1 (fun _ h => h.elim); clear ho1)
    | (go_at_call 17; (with_reducible refine (HF.out _ HO1.out).mono ?_); rintro e w2 ⟨rfl, e2⟩; subst w2))
  go_ret
  exact ⟨rfl, HO1.out⟩
def tx : List UInt8 := [120]
/-- The second hub's config. -/
theorem tx_src (w : World) : TSrc (w.alloc (.cells #[.string ⟨#[120]⟩] 9)) (some ⟨w.heap.size, 0, none⟩) 1 [tx] := TSrc.of_blk (Blk.new w 9 [.string ⟨#[120]⟩]) rfl (fun j x hj => by
    match j, hj with
    | 0, hj =>
      simp only [List.getElem?_cons_zero, Option.some.injEq] at hj
      subst hj
      rfl
    | j + 1, hj => simp at hj)
theorem newX_any (w : World) (can : Int) (cB : Nat) : Calls Tryz.prog 7 #[cfV 0 0 (some ⟨w.heap.size, 0, none⟩) 1 1 none 0 0 can] (w.alloc (.cells #[.string ⟨#[120]⟩] 9)) fun e w' => ∃ p, e = .returned (.tuple #[.pointer (some ⟨p, 0, none⟩), .nilIface]) ∧ Hid (∃ h, NewHub w w' p 0 0 [tx] h) ∧ Hid (Only (fun _ => False) w w') := by
  refine (snNew_ok (cc := 0) (cr := 0) (cA := 1) (B := none) (m := 0) (cB := 0) (can := can) (tx_src w) (StAt.nil _ none) (by omega) (by omega) (by decide)).mono ?_
  rintro e w' ⟨p, rfl, ⟨h, hh⟩, ho⟩
  have h1 := hh.new
  exact ⟨p, rfl, ⟨h, hh.hub, by simp at h1; omega, hh.sz, hh.cyc, hh.old, hh.pc, hh.pr, hh.li, hh.tc⟩, ((Only.refl _ _).alloc _).trans ho.out (fun _ h => h.elim)⟩
theorem tyWalk_bad {w : World} {es : List Addr} (hE : ErrsAt w es) {A : Option Addr} {n c : Nat} {ts : List (List UInt8)} (hts : TSrc w A n ts) (hn : n ≤ 9223372036854775807) {cc cr : Int} (hf : fewT ts 10 40 = true) (hg : cfGood cc cr ts = false) :
    Calls Tryz.prog 4 #[.slice A n c, .agg #[.int .i64 cc, .int .i64 cr]] w (Fine w) := by
  have HA := Lib.hid snAlive_any
  have HF : Hid (∀ W, Only (fun _ => False) w W → Calls Tryz.prog 17 #[.slice A n c, .int .i64 10, .int .i64 40] W fun e w' => e = .returned (.bool (fewT ts 10 40)) ∧ w' = W) := fun W ho => few_any (hts.same ho) hn 10 40
  rw [hf] at HF
  have HN := Lib.hid (fun W (ho : Only (fun _ => False) w W) can => snNew_bad (cA := c) (B := none) (m := 0) (cB := 0) (can := can) (hE.only ho) (hts.same ho) hg)
  have HX := Lib.hid newX_any
  have HB : Hid (∀ W, Only (fun _ => False) (w.alloc (.cells #[.int .i64 cc, .int .i64 cr] 23)) W → Blk W w.heap.size 23 [.int .i64 cc, .int .i64 cr]) := fun W ho => (Blk.new w 23 [.int .i64 cc, .int .i64 cr]).only ho (fun h => h)
  clear hts hf hn hE hg
  go_enter Tryz.func4, Tryz.ntmps4
  go_wp2_with (first
    | (go_at_call 5; (with_reducible refine (HA.out _).mono ?_); rintro e w1 ⟨rfl, ho1⟩; have HO1 : Hid (Only (fun _ => False) w w1) := ((Only.refl _ _).alloc _).trans ho1 (fun _ h => h.elim); have hb1 := HB.out _ ho1; have c0 : w1.cell? ⟨w.heap.size, 0, none⟩ = some (.int .i64 cc) := hb1.cell 0; have c1 : w1.cell? ⟨w.heap.size, 1, none⟩ = some (.int .i64 cr) := hb1.cell 1; clear ho1)
    | (go_at_call 17; (with_reducible refine (HF.out _ HO1.out).mono ?_); rintro e w2 ⟨rfl, e2⟩; subst w2)
    | (go_at_call 7; (with_reducible refine (HN.out _ HO1.out _).mono ?_); rintro e w3 ⟨a, rfl, ho3⟩; have HO3 : Hid (Only (fun _ => False) w w3) := HO1.out.trans ho3.out (fun _ h => h.elim); clear ho3)
    | (go_at_call 7; (with_reducible refine (HX.out _ _ 0).mono ?_); rintro e w4 ⟨p, rfl, _, ho4⟩; have HO4 : Hid (Only (fun _ => False) w w4) := HO3.out.trans ho4.out (fun _ h => h.elim)))
  go_ret
  exact ⟨rfl, HO4.out⟩
/-- At place k of block g stands a subnegotiation. -/
structure El (B : Nat) (w : World) (g k : Nat) (o : Int) (b : List UInt8) : Prop where
  el : ∃ A n c, B ≤ g ∧ w.cell? ⟨g, k, none⟩ = some (.int .i64 o) ∧ w.cell? ⟨g, k + 1, none⟩ = some (.slice A n c) ∧ Src w A n b ∧ (0 < n → ∀ ad, A = some ad → B ≤ ad.block) ∧ n ≤ c ∧ c ≤ 9223372036854775807
theorem El.only {S : Nat → Prop} {B : Nat} {w w' : World} {g k : Nat} {o : Int} {b : List UInt8} (h : El B w g k o b) (ho : Only S w w') (hS : ∀ i, B ≤ i → ¬ S i) : El B w' g k o b := by
  obtain ⟨A, n, c, h1, h2, h3, h4, h5, h6⟩ := h.el
  exact ⟨A, n, c, h1, ho.cellv h2 (hS g h1), ho.cellv h3 (hS g h1), h4.only ho (fun hn ad e => hS _ (h5 hn ad e)), h5, h6⟩
theorem El.of_one {B : Nat} {w : World} {g : Nat} {o : Int} {b : List UInt8} (h : One B w (.slice (some ⟨g, 0, none⟩) 1 1) o b) : El B w g 0 o b := by
  obtain ⟨N, A, n, c, e, h1, h2, h3, h4, h5, h6⟩ := h.form
  injection e with e
  injection e with e
  injection e with e
  subst e
  exact ⟨A, n, c, h1, h2.cell 0, h2.cell 1, h3, h4, h5, h6⟩
theorem El.low {B B' : Nat} {w : World} {g k : Nat} {o : Int} {b : List UInt8} (h : El B w g k o b) (hB : B' ≤ B) : El B' w g k o b := by
  obtain ⟨A, n, c, h1, h2, h3, h4, h5, h6⟩ := h.el
  exact ⟨A, n, c, Nat.le_trans hB h1, h2, h3, h4, fun hn ad e => Nat.le_trans hB (h5 hn ad e), h6⟩
/-- A source of bytes lies in no block whose cells are no bytes. -/
theorem Src.apart {w : World} {A : Option Addr} {n : Nat} {b : List UInt8} (h : Src w A n b) (hn : 0 < n) {g : Nat} {t : TypeId} {cs : List Value} (hb : Blk w g t cs) (hc : ∀ v ∈ cs, ∀ x, v ≠ B8 x) : ∀ ad, A = some ad → ad.block ≠ g := by
  obtain ⟨ad, e, hx⟩ := h.2 hn
  intro ad' e' heq
  rw [e] at e'
  injection e' with e'
  subst e'
  have hl := h.1
  have h0 := hx 0 (b[0]'(by omega)) (List.getElem?_eq_getElem (by omega))
  rw [show ad.add 0 = ad from by simp [Addr.add]] at h0
  have hs := World.cell?_spot h0
  obtain ⟨bk, off, sp⟩ := ad
  simp only at heq hs
  subst heq hs
  rw [hb.cell] at h0
  exact hc _ (List.mem_of_getElem? h0) _ rfl
theorem sub_info : (Tryz.prog.info? 55).map (fun i => (i.zero, i.size, i.bytes)) = some (some (.agg #[.int .i64 0, .slice none 0 0]), 2, 32) := by kernel_rfl
theorem sub_size : (Tryz.prog.info? 55).map (·.size) = some 2 := by kernel_rfl
/-- append of a row of subnegotiations, none or one. -/
theorem step_subs {ops : Array Oper} {rest : List Oper} {o : Oper} {a : Act} {w : World} {Q : Exit → Act → World → Prop} (hgd : o.guard = none) (sx x : Operand) (ho : o.op = .call { callee := .builtin .append, args := #[sx, x], argTypes := #[51, 51] })
    (B : Nat) (v : Value) (n : Nat) (xs : List Value) (hs : a.eval sx = v) (hrow : w.ownsRow B 55 2 v n xs) (A : Option Addr) (m c : Nat) (news : List Value) (hx : a.eval x = .slice A m c) (hl : news.length = m * 2)
    (hnews : 0 < m → ∃ g, A = some ⟨g, 0, none⟩ ∧ ∀ (j : Nat) (u : Value), news[j]? = some u → w.cell? ⟨g, j, none⟩ = some u) (h1 : ∀ u ∈ news, u.oneCell' = true) (hnm : n + m ≤ 1000) (hB : B ≤ w.heap.size)
    (h : ∀ A' c' w', Hid (w'.ownsRow B 55 2 (.slice A' (n + m) c') (n + m) (xs ++ news)) → Hid (w.grownBy w' v.ownBlock) → wpList Tryz.prog ops Q rest (a.put o.dst (.slice A' (n + m) c')) w') :
    wpList Tryz.prog ops Q (o :: rest) a w := by
  obtain ⟨i, hi, hz, h2, h3⟩ : ∃ i, Tryz.prog.info? 55 = some i ∧ i.zero = some (.agg #[.int .i64 0, .slice none 0 0]) ∧ i.size = 2 ∧ i.bytes = 32 := by
    have hh := sub_info
    cases hi : Tryz.prog.info? 55 with
    | none => rw [hi] at hh; cases hh
    | some i =>
      rw [hi] at hh
      simp only [Option.map_some, Option.some.injEq, Prod.mk.injEq] at hh
      exact ⟨i, rfl, hh⟩
  refine step_append_own hgd sx x 51 ho B 55 i _ 2 32 Tryz.underlying51 hi hz h2 h3 rfl (by omega) v n xs hs hrow A m c news hx hl (fun hm => ?_) h1 (by omega) (by omega) hB ?_
  · obtain ⟨g, e, hc⟩ := hnews hm
    exact ⟨_, e, fun j u hj => by rw [at_add]; exact hc j u hj⟩
  · intro A' c' w' _ _ hq
    exact h A' c' w' hq.out.1 hq.out.2.1
theorem step_subs0 {ops : Array Oper} {rest : List Oper} {o : Oper} {a : Act} {w : World} {Q : Exit → Act → World → Prop} (hgd : o.guard = none) (sx x : Operand) (ho : o.op = .call { callee := .builtin .append, args := #[sx, x], argTypes := #[51, 51] })
    (hs : a.eval sx = .slice none 0 0) (A : Option Addr) (c : Nat) (hx : a.eval x = .slice A 0 c) (h : wpList Tryz.prog ops Q rest (a.put o.dst (.slice none 0 0)) w) : wpList Tryz.prog ops Q (o :: rest) a w := by
  obtain ⟨i, hi, _⟩ : ∃ i, Tryz.prog.info? 55 = some i ∧ True := by
    have hh := sub_info
    cases hi : Tryz.prog.info? 55 with
    | none => rw [hi] at hh; cases hh
    | some i => exact ⟨i, rfl, trivial⟩
  exact Lib.wpList_append_run w hgd sx x 51 51 ho _ _ hs hx _ _ (run_append_zero' w 51 _ 55 i Tryz.underlying51 hi none 0 0 (Nat.le_refl _) A c) h
/-- How the rounds stand. -/
structure TyRel (B : Nat) (wB W : World) (p pk : Nat) (ts : List (List UInt8)) (cc cr : Int) (h3 h4 : Hb) (vt vb : Value) (j : Nat) : Prop where
  only : Only (fun i => i = p ∨ i = pk) wB W
  hub : HuAt W p { h3 with ck := ((j % (ts.length + 1) : Nat) : Int) }
  st : (j = 0 ∧ HuAt W pk { h4 with li := Ls.none } ∧ (∃ M, vt = .slice (some ⟨M, 0, none⟩) 1 1 ∧ One B W vt 31 (bodyOf cc cr)) ∧ ∃ g c, vb = .slice (some ⟨g, 0, none⟩) 1 c ∧ El B W g 0 24 [1]) ∨
    (1 ≤ j ∧ j ≤ ts.length ∧ j < 8 ∧ vt = .slice none 0 0 ∧ HuAt W pk { h4 with li := ⟨ts.take j, false⟩, pc := cc, pr := cr } ∧ ∃ g c, vb = .slice (some ⟨g, 0, none⟩) 1 c ∧ El B W g 0 24 [1]) ∨
    (1 ≤ j ∧ j ≤ 9 ∧ vt = .slice none 0 0 ∧ HuAt W pk { h4 with li := ⟨ts, true⟩, pc := cc, pr := cr } ∧ vb = .slice none 0 0)
@[reducible] def agA : Nat → Nat → Bool := agOf [24, 31] []
@[reducible] def agB : Nat → Nat → Bool := agOf [] [24, 31]
theorem ints2 (W : World) : Ints (W.alloc (.cells #[.int .i64 24, .int .i64 31] 3)) (some ⟨W.heap.size, 0, none⟩) 2 [24, 31] := ⟨rfl, fun _ => ⟨_, rfl, fun j z hj => by
  rw [at_add, (Blk.new W 3 [.int .i64 24, .int .i64 31]).cell]
  match j, hj with
  | 0, hj => simp only [List.getElem?_cons_zero, Option.some.injEq] at hj; subst hj; rfl
  | 1, hj => simp only [List.getElem?_cons_zero, List.getElem?_cons_succ, Option.some.injEq] at hj; subst hj; rfl
  | j + 2, hj => simp at hj⟩⟩
theorem ints0 (W : World) : Ints W none 0 [] := ⟨rfl, fun h => by omega⟩
theorem newA_any (W : World) : Calls Tryz.prog 8 #[.agg #[.slice (some ⟨W.heap.size, 0, none⟩) 2 2, .slice none 0 0]] (W.alloc (.cells #[.int .i64 24, .int .i64 31] 3)) fun e w' => ∃ p, e = .returned (.pointer (some ⟨p, 0, none⟩)) ∧ TbAt w' p agA Tb.zero ∧ W.heap.size ≤ p ∧ Only (fun _ => False) W w' := by
  refine (new_any 2 0 (ints2 W) (ints0 _) (by omega) (by omega)).mono ?_
  rintro e w' ⟨p, rfl, h1, h2, h3⟩
  exact ⟨p, rfl, h1, by simp at h2; omega, ((Only.refl _ _).alloc _).trans h3 (fun _ h => h.elim)⟩
theorem newB_any (W : World) : Calls Tryz.prog 8 #[.agg #[.slice none 0 0, .slice (some ⟨W.heap.size, 0, none⟩) 2 2]] (W.alloc (.cells #[.int .i64 24, .int .i64 31] 3)) fun e w' => ∃ p, e = .returned (.pointer (some ⟨p, 0, none⟩)) ∧ TbAt w' p agB Tb.zero ∧ W.heap.size ≤ p ∧ Only (fun _ => False) W w' := by
  refine (new_any 0 2 (ints0 _) (ints2 W) (by omega) (by omega)).mono ?_
  rintro e w' ⟨p, rfl, h1, h2, h3⟩
  exact ⟨p, rfl, h1, by simp at h2; omega, ((Only.refl _ _).alloc _).trans h3 (fun _ h => h.elim)⟩
def optN : Nat → Nat | 0 => 24 | _ => 31
def tA : Nat → Tb | 0 => Tb.zero | k + 1 => ((tA k).hear agA 253 (optN k)).1
def tB : Nat → Tb | 0 => Tb.zero | k + 1 => ((tB k).hear agB 251 (optN k)).1
theorem tA_on : (tA 2).get 0 24 = .yes ∧ (tA 2).get 0 31 = .yes := by decide
theorem tB_on : (tB 2).get 1 24 = .yes ∧ (tB 2).get 1 31 = .yes := by decide
/-- No two that follow each other up to there are the same. -/
def NeTo (ts : List (List UInt8)) (k : Nat) : Prop := ∀ (i : Nat) (x y : List UInt8), i + 1 < k → ts[i]? = some x → ts[i + 1]? = some y → x ≠ y
theorem tyWalk_main {w : World} {es : List Addr} (hE : ErrsAt w es) (hTW : TbW w) {A : Option Addr} {n c : Nat} {ts : List (List UInt8)} (hts : TSrc w A n ts) (hn : n ≤ 9223372036854775807) {cc cr : Int} (hf : fewT ts 10 40 = true) (hg : cfGood cc cr ts = true) :
    Calls Tryz.prog 4 #[.slice A n c, .agg #[.int .i64 cc, .int .i64 cr]] w (Fine w) := by
  have HA := Lib.hid snAlive_any
  have HF : Hid (∀ W, Only (fun _ => False) w W → Calls Tryz.prog 17 #[.slice A n c, .int .i64 10, .int .i64 40] W fun e w' => e = .returned (.bool (fewT ts 10 40)) ∧ w' = W) := fun W ho => few_any (hts.same ho) hn 10 40
  rw [hf] at HF
  have HN := Lib.hid (fun W (ho : Only (fun _ => False) w W) can => snNew_ok (cA := c) (B := none) (m := 0) (cB := 0) (can := can) (hts.same ho) (StAt.nil W none) (by omega) (by omega) hg)
  have HX := Lib.hid newX_any
  have HB : Hid (∀ W, Only (fun _ => False) (w.alloc (.cells #[.int .i64 cc, .int .i64 cr] 23)) W → Blk W w.heap.size 23 [.int .i64 cc, .int .i64 cr]) := fun W ho => (Blk.new w 23 [.int .i64 cc, .int .i64 cr]).only ho (fun h => h)
  have HTs := Lib.hid hts
  have HE := Lib.hid hE
  have HTW := Lib.hid hTW
  have hlen : n ≤ 8 ∧ 1 ≤ n ∧ ts.length = n := by
    unfold cfGood at hg
    simp only [Bool.and_eq_true, decide_eq_true_eq] at hg
    have := hts.1
    omega
  have hn8 := hlen.1
  have hn1 := hlen.2.1
  have HLn := Lib.hid hlen.2.2
  have HG : Hid (fitsN cc = true ∧ fitsN cr = true ∧ ∀ t ∈ ts, okT t = true) := by
    unfold cfGood at hg
    simp only [Bool.and_eq_true, List.all_eq_true] at hg
    exact ⟨hg.1.1, hg.1.2, hg.2.2⟩
  clear hts hf hn hE hg hTW hlen
  go_enter Tryz.func4, Tryz.ntmps4
  go_wp2_with (first
    | (go_at_call 5; (with_reducible refine (HA.out _).mono ?_); rintro e w1 ⟨rfl, ho1⟩; have HO1 : Hid (Only (fun _ => False) w w1) := ((Only.refl _ _).alloc _).trans ho1 (fun _ h => h.elim); have HB1 := Lib.hid ho1; have hb1 := HB.out _ ho1; have c0 : w1.cell? ⟨w.heap.size, 0, none⟩ = some (.int .i64 cc) := hb1.cell 0; have c1 : w1.cell? ⟨w.heap.size, 1, none⟩ = some (.int .i64 cr) := hb1.cell 1; clear ho1 hb1)
    | (go_at_call 17; (with_reducible refine (HF.out _ HO1.out).mono ?_); rintro e w2 ⟨rfl, e2⟩; subst w2)
    | (go_at_call 7; (with_reducible refine (HN.out _ HO1.out _).mono ?_); rintro e w3 ⟨p, rfl, hh3, ho3⟩; have HO3 : Hid (Only (fun _ => False) w w3) := HO1.out.trans ho3.out (fun _ h => h.elim); have HB3 : Hid (Only (fun _ => False) _ w3) := HB1.out.trans ho3.out (fun _ h => h.elim); clear ho3)
    | (go_at_call 7; (with_reducible refine (HX.out _ _ 0).mono ?_); rintro e w4 ⟨pk, rfl, hh4, ho4⟩; have HO4 : Hid (Only (fun _ => False) w w4) := HO3.out.trans ho4.out (fun _ h => h.elim); have HB4 : Hid (Only (fun _ => False) _ w4) := HB3.out.trans ho4.out (fun _ h => h.elim); have HO34 := Lib.hid ho4.out; clear ho4))
  obtain ⟨h3, hh3⟩ := hh3.out
  obtain ⟨h4, hh4⟩ := hh4.out
  have HH3 := Lib.hid hh3
  have HH4 := Lib.hid hh4
  have HT4 := Lib.hid (HTs.out.same HO4.out)
  clear hh3 hh4 c0 c1
  go_wp2
  go_loopw [64] (fun i W => ∃ k : Nat, k ≤ n ∧ i = .int .i64 (k : Int) ∧ Hid (W = w4 ∧ NeTo ts k)) (fun i _ => n - (intOf i).toNat)
  case atStart => exact ⟨0, Nat.zero_le _, rfl, rfl, fun i x y h => by omega⟩
  case round =>
    obtain ⟨k, hk, rfl, hrel⟩ := hrel
    obtain ⟨rfl, hne⟩ := hrel.out
    have HNe := Lib.hid hne
    clear hne hrel
    by_cases hlt : k < n
    · have hlt2 : (k : Int) < (n : Int) := by omega
      obtain ⟨ad, y, rfl, hy, hcy⟩ := HT4.out.get hlt
      have HY := Lib.hid hy
      clear hy
      rcases Nat.eq_zero_or_pos k with h0 | h0
      · subst h0
        rw [show ad.add 0 = ad from by simp [Addr.add]] at hcy
        go_wp2
        go_roundw
        case rel => exact ⟨1, by omega, by go_num, by first | rfl | trivial, fun i x y h => by omega⟩
        case measure => simp [intOf]; omega
      · obtain ⟨j, hkj⟩ : ∃ j, j = k - 1 := ⟨_, rfl⟩
        have hjk : j + 1 = k := by omega
        obtain ⟨ad', x, hE', hx, hcx⟩ := HT4.out.get (k := j) (by omega)
        injection hE' with hE'
        subst hE'
        have HX' := Lib.hid hx
        clear hx
        obtain ⟨b, hb⟩ : ∃ b, (x == y) = b := ⟨_, rfl⟩
        have HBb := Lib.hid hb
        have e1 : IntKind.i64.wrap ((k : Int) - 1) = (j : Int) := (IntWalk.i64_in _ (by omega)).trans (by omega)
        have hd : decide ((0 : Int) < (k : Int)) = true := by simp; omega
        have HJK := Lib.hid hjk
        clear hkj hjk
        have hjn : j < n := by have := HJK.out; omega
        have hjn2 : (j : Int) < (n : Int) := by omega
        cases b with
        | true =>
          go_wp2
          go_ret
          exact ⟨rfl, HO4.out⟩
        | false =>
          go_wp2
          go_roundw
          case rel =>
            have hjk := HJK.out
            refine ⟨k + 1, by omega, by go_num, by first | rfl | trivial, fun i x' y' hi hx' hy' => ?_⟩
            by_cases hij : i + 1 < k
            · exact HNe.out i x' y' hij hx' hy'
            · obtain rfl : i = j := by omega
              rw [hjk] at hy'
              rw [HX'.out] at hx'
              rw [HY.out] at hy'
              injection hx' with hx'
              injection hy' with hy'
              subst hx' hy'
              intro h
              have := HBb.out
              rw [h] at this
              simp at this
          case measure => simp [intOf]; omega
    · have hkn : k = n := by omega
      subst k
      go_wp2_with (first
        | (go_at_call 8; (with_reducible refine (newA_any _).mono ?_); rintro e w5 ⟨qa, rfl, ht5, hq5, ho5⟩; have HTa := Lib.hid ht5; have HQa := Lib.hid hq5; have HO5 := Lib.hid ho5; clear ht5 hq5 ho5)
        | (go_at_call 8; (with_reducible refine (newB_any _).mono ?_); rintro e w6 ⟨qb, rfl, ht6, hq6, ho6⟩; have HTb := Lib.hid ht6; have HQb := Lib.hid hq6; have HO6 := Lib.hid ho6; clear ht6 hq6 ho6))
      obtain ⟨NI, hNI⟩ : ∃ NI, NI = w6.heap.size := ⟨_, rfl⟩
      obtain ⟨w7, hw7⟩ : ∃ w7, w7 = w6.alloc (.cells #[.int .i64 24, .int .i64 31] 3) := ⟨_, rfl⟩
      rw [← hw7, ← hNI]
      have HI7 : Hid (Blk w7 NI 3 [.int .i64 24, .int .i64 31]) := by rw [hw7, hNI]; exact Blk.new w6 _ [.int .i64 24, .int .i64 31]
      have HO67 : Hid (Only (fun _ => False) w6 w7) := by rw [hw7]; exact (Only.refl _ _).alloc _
      have HQ : Hid (w.heap.size ≤ p ∧ p < pk ∧ pk < qa ∧ qa < qb ∧ qb < NI) := by
        have h1 := HH3.out.hub.lt
        have h2 := HH4.out.new
        have h3 := HH4.out.hub.lt
        have h4 := HQa.out
        have h5 := HTa.out.lt
        have h6 := HQb.out
        have h7 := HTb.out.lt
        have h8 := HH3.out.new
        have h9 := HO1.out.size
        show w.heap.size ≤ p ∧ p < pk ∧ pk < qa ∧ qa < qb ∧ qb < NI
        omega
      clear hNI hw7
      have HOw7 := Lib.hid (((HO4.out.trans HO5.out (fun _ h => h.elim)).trans HO6.out (fun _ h => h.elim)).trans HO67.out (fun _ h => h.elim))
      have hqs := HQ.out
      have HTa7 := Lib.hid ((HTa.out.same HO6.out).same HO67.out)
      have HTb7 := Lib.hid (HTb.out.same HO67.out)
      go_wp2
      go_loopw [95] (fun i W => ∃ k : Nat, k ≤ 2 ∧ i = .int .i64 (k : Int) ∧ Hid (TbAt W qa agA (tA k) ∧ TbAt W qb agB (tB k) ∧ Blk W NI 3 [.int .i64 24, .int .i64 31] ∧ Only (fun i => i = qa ∨ i = qb) w7 W)) (fun i _ => 2 - (intOf i).toNat)
      case atStart => exact ⟨0, by omega, rfl, HTa7.out, HTb7.out, HI7.out, Only.refl _ _⟩
      case round =>
        obtain ⟨k, hk, rfl, hrel⟩ := hrel
        obtain ⟨hta, htb, hbi, hon⟩ := hrel.out
        have HTw : Hid (TbW wr) := HTW.out.only (HOw7.out.trans hon (fun i hi => .inr (by rcases hi with rfl | rfl <;> omega)))
        have HTa := Lib.hid hta
        have HTb := Lib.hid htb
        have HBi := Lib.hid hbi
        have HOn := Lib.hid hon
        clear hrel hta htb hbi hon
        by_cases hlt : k < 2
        · have hlt2 : (k : Int) < (2 : Int) := by omega
          have cI : wr.cell? ⟨NI, k, none⟩ = some (.int .i64 (optN k : Int)) := by
            rw [HBi.out.cell]
            rcases (by omega : k = 0 ∨ k = 1) with rfl | rfl <;> rfl
          have HSn : Hid ((tA k).sent ≤ 1000000 ∧ (tA k).heard ≤ 1000000 ∧ (tB k).sent ≤ 1000000 ∧ (tB k).heard ≤ 1000000 ∧ optN k < 256) := by
            rcases (by omega : k = 0 ∨ k = 1) with rfl | rfl <;> exact ⟨by decide, by decide, by decide, by decide, by decide⟩
          have HHa : Hid (Calls Tryz.prog 9 #[.pointer (some ⟨qa, 0, none⟩), .int .i64 253, .int .i64 (optN k : Int)] wr fun e w' => ∃ a b c d, e = .returned (.tuple #[.agg #[.int .i64 a, .int .i64 b, .bool c, .bool d], .nilIface]) ∧ TbAt w' qa agA (tA (k + 1)) ∧ Only (· = qa) wr w') := (thear_some HTw.out HTa.out (v := 253) (o := optN k) (by omega) HSn.out.2.2.2.2 HSn.out.1 HSn.out.2.1).mono (fun e w' h => ⟨_, _, _, _, h⟩)
          have HHb : Hid (∀ W, TbW W → TbAt W qb agB (tB k) → Calls Tryz.prog 9 #[.pointer (some ⟨qb, 0, none⟩), .int .i64 251, .int .i64 (optN k : Int)] W fun e w' => ∃ a b c d, e = .returned (.tuple #[.agg #[.int .i64 a, .int .i64 b, .bool c, .bool d], .nilIface]) ∧ TbAt w' qb agB (tB (k + 1)) ∧ Only (· = qb) W w') := fun W h1 h2 => (thear_some h1 h2 (v := 251) (o := optN k) (by omega) HSn.out.2.2.2.2 HSn.out.2.2.1 HSn.out.2.2.2.1).mono (fun e w' h => ⟨_, _, _, _, h⟩)
          obtain ⟨zo, hzo⟩ : ∃ zo, zo = (optN k : Int) := ⟨_, rfl⟩
          rw [← hzo] at cI HHa HHb
          clear hzo
          go_wp2_with (first
            | (go_at_call 9; (with_reducible refine HHa.out.mono ?_); rintro e w8 ⟨x0, x1, x2, x3, rfl, ht8, ho8⟩; have HT8 := Lib.hid ht8; have HO8 : Hid (Only (fun i => i = qa ∨ i = qb) w7 w8) := HOn.out.trans ho8 (fun i hi => .inl (.inl hi)); have HTb8 := Lib.hid (HTb.out.only ho8 (by omega)); have HBi8 := Lib.hid (HBi.out.only ho8 (by omega)); have HTw8 : Hid (TbW w8) := HTW.out.only (HOw7.out.trans HO8.out (fun i hi => .inr (by rcases hi with rfl | rfl <;> omega))); clear ht8 ho8)
            | (go_at_call 9; (with_reducible refine (HHb.out _ (HTw8.out.only ((Only.refl _ _).alloc _)) (HTb8.out.same ((Only.refl _ _).alloc _))).mono ?_); rintro e w9 ⟨y0, y1, y2, y3, rfl, ht9, ho9⟩; have HT9 := Lib.hid ht9; have HO9 : Hid (Only (fun i => i = qa ∨ i = qb) w7 w9) := (HO8.out.alloc _).trans ho9 (fun i hi => .inl (.inr hi)); have HTa9 := Lib.hid ((HT8.out.same ((Only.refl _ _).alloc _)).only ho9 (by omega)); have HBi9 := Lib.hid ((HBi8.out.alloc _).only ho9 (by omega)); clear ht9 ho9))
          go_roundw
          case rel => exact ⟨k + 1, by omega, by go_num, HTa9.out.same ((Only.refl _ _).alloc _), HT9.out.same ((Only.refl _ _).alloc _), HBi9.out.alloc _, HO9.out.alloc _⟩
          case measure => simp [intOf]; omega
        · obtain rfl : k = 2 := by omega
          have HHp : Hid (HuAt wr p h3) := (((((HH3.out.hub.same HO34.out).same HO5.out).same HO6.out).same HO67.out).only HOn.out (by omega))
          have HHk : Hid (HuAt wr pk h4) := ((((HH4.out.hub.same HO5.out).same HO6.out).same HO67.out).only HOn.out (by omega))
          obtain ⟨NS, hsz, hsrc, hNS⟩ := HH3.out.sz
          have HSz := Lib.hid ((((((hsrc.only HO34.out (fun _ _ _ h => h)).only HO5.out (fun _ _ _ h => h)).only HO6.out (fun _ _ _ h => h)).only HO67.out (fun _ _ _ h => h)).only HOn.out (fun _ ad e => by injection e with e; subst e; show ¬ (NS = qa ∨ NS = qb); omega)))
          have HTu := Lib.hid (turned_size HHp.out hsz HSz.out)
          have HTv : Hid (∀ W, Only (fun _ => False) wr W → _) := fun W ho => turned_types (HHk.out.same (w' := W) ho)
          have HCy : Hid (CyOk wr h3 ts 0) := (HH3.out.cyc.only ((((HO34.out.trans HO5.out (fun _ h => h.elim)).trans HO6.out (fun _ h => h.elim)).trans HO67.out (fun _ h => h.elim)).trans HOn.out (T := fun i => i = qa ∨ i = qb) (fun i hi => .inr (by have := HQ.out; have h1 := HH3.out.hub.lt; have := HH4.out.new; rcases hi with rfl | rfl <;> omega))) (fun _ _ _ _ _ _ _ h => h))
          clear hsz hsrc hNS
          obtain ⟨B, hB⟩ : ∃ B, B = wr.heap.size := ⟨_, rfl⟩
          obtain ⟨wB, hwB⟩ : ∃ wB, wB = wr := ⟨_, rfl⟩
          subst hwB
          go_wp2_with (first
            | (go_at_call 18; (with_reducible refine HTu.out.mono ?_); rintro e w10 ⟨M1, rfl, h10, hh10, ho10⟩)
            | (go_at_call 18; (with_reducible refine (HTv.out _ ho10.out).mono ?_); rintro e w11 ⟨M2, rfl, h11, hh11, ho11⟩))

          have HO11 : Hid (Only (fun i => i = p ∨ i = pk) wB w11) := (Only.mono (T := fun i => i = p ∨ i = pk) ho10.out (fun _ h => h.elim)).trans ho11.out (fun i hi => .inl (.inr hi))
          have HRel0 : Hid (TyRel B wB w11 p pk ts cc cr h3 h4 (.slice (some ⟨M1, 0, none⟩) 1 1) (.slice (some ⟨M2, 0, none⟩) 1 1) 0) := by
            have hz10 := ho10.out.size
            refine ⟨HO11.out, ?_, .inl ⟨rfl, hh11.out, ⟨M1, rfl, ?_⟩, M2, 1, rfl, ?_⟩⟩
            · have := hh10.out.only ho11.out (by omega)
              have e : ({ h3 with ck := ((0 % (ts.length + 1) : Nat) : Int) } : Hb) = h3 := by
                have := HCy.out.ck
                cases h3
                simp_all
              rw [e]
              exact this
            · rw [hB]
              refine h10.out.only ho11.out (fun i hi => ?_)
              have := HHk.out.lt
              omega
            · rw [hB]
              exact (El.of_one h11.out).only (Only.refl (fun _ => False) _) (fun _ _ h => h) |>.low hz10
          have HBs := Lib.hid hB
          have HF0 : Hid (Blk wB w.heap.size 23 [.int .i64 cc, .int .i64 cr]) := HB.out _ ((((HB4.out.trans HO5.out (fun _ h => h.elim)).trans HO6.out (fun _ h => h.elim)).trans HO67.out (fun _ h => h.elim)).trans HOn.out (fun i hi => .inr (by simp; have := HQ.out; have h8 := HH3.out.new; have h9 := HB1.out.size; simp at h9; rcases hi with rfl | rfl <;> omega)))
          have HEB : Hid (ErrsAt wB es) := HE.out.only (HOw7.out.trans HOn.out (fun i hi => .inr (by rcases hi with rfl | rfl <;> omega)))
          have HTsB : Hid (TSrc wB A n ts) := HTs.out.same (HOw7.out.trans HOn.out (fun i hi => .inr (by rcases hi with rfl | rfl <;> omega)))
          have HOwB : Hid (Only (fun _ => False) w wB) := HOw7.out.trans HOn.out (fun i hi => .inr (by rcases hi with rfl | rfl <;> omega))
          have HTA : Hid (TbAt wB qa agA (tA 2) ∧ TbAt wB qb agB (tB 2)) := ⟨HTa.out, HTb.out⟩
          have HNe2 : Hid (NeTo ts n) := HNe.out
          have hplt : w.heap.size < p ∧ p < B ∧ pk < B ∧ qa < B ∧ qb < B := by
            have h1 := HHp.out.lt
            have h2 := HHk.out.lt
            have h3 := HTa.out.lt
            have h4 := HTb.out.lt
            have h5 := HH3.out.new
            have h6 := HB1.out.size
            simp at h6
            omega
          have HCo : Hid (∀ A n c, h3.ca = .slice A n c → 0 < n → ∀ ad, A = some ad → ¬ (ad.block = p ∨ ad.block = pk)) := fun A n c e hn ad ha => by
            have := HH3.out.old A n c e ad ha hn
            have := hqs
            omega
          clear hB hh10 hh11 h10 h11 ho10 ho11
          go_loopw [19, 20, 21] (fun vt vb i W => ∃ j : Nat, j ≤ 9 ∧ i = .int .i64 (j : Int) ∧ Hid (TyRel B wB W p pk ts cc cr h3 h4 vt vb j)) (fun _ _ i _ => 10 - (intOf i).toNat)
          case atStart => exact ⟨0, by omega, rfl, HRel0.out⟩
          case round =>
            obtain ⟨j, hj, rfl, hrel⟩ := hrel
            obtain ⟨hon, hhub, hst⟩ := hrel.out
            have HOn3 := Lib.hid hon
            have HHub := Lib.hid hhub
            clear hrel hon hhub HRel0
            rcases hst with ⟨rfl, hk, ⟨M, rfl, hvt⟩, g, cb, rfl, hvb⟩ | ⟨hj1, hjn, hj8, rfl, hk, g, cb, rfl, hvb⟩ | ⟨hj1, hj9, rfl, hk, rfl⟩
            case inr.inr =>
              have HK := Lib.hid hk
              have HFn : Hid (Blk wr w.heap.size 23 [.int .i64 cc, .int .i64 cr]) := HF0.out.only HOn3.out (by omega)
              have HTsn : Hid (TSrc wr A n ts) := HTsB.out.only HOn3.out (fun hn ad e => by have h1 := HTs.out.lt hn ad e; omega)
              have HTy : Hid (∀ W, Only (fun _ => False) wr W → Calls Tryz.prog 14 #[.pointer (some ⟨pk, 0, none⟩)] W fun e w' => ∃ A c, e = .returned (.slice A ts.length c) ∧ Hid (TSrc w' A ts.length ts) ∧ Hid (Only (fun _ => False) W w')) := fun W ho => huTypes_any (hk.same ho)
              have HSm : Hid (∀ W A' c', TSrc W A' ts.length ts → Only (fun _ => False) wr W → Calls Tryz.prog 19 #[.slice A' ts.length c', .slice A n c] W fun e w' => e = .returned (.bool true) ∧ w' = W) := fun W A' c' h1 h2 => by
                have := sameTexts_any (ca := c') (cb := c) h1 (HTsn.out.same h2) (by have := HLn.out; omega)
                simpa using this
              have HPe := Lib.hid (fun W (ho : Only (fun _ => False) wr W) => huPeer_any (hk.same ho))
              have HOF : Hid (Only (fun _ => False) w wr) := HOwB.out.trans HOn3.out (fun i hi => .inr (by rcases hi with rfl | rfl <;> omega))
              have heq := fun W => eq_sz W cc cr cc cr
              have hgr := guard_sz
              have hd : decide (cc = cc ∧ cr = cr) = true := by simp
              rw [hd] at heq
              unfold szVal at HPe
              clear hk hd
              have HCs : Hid (∀ W, Only (fun _ => False) wr W → W.cell? ⟨w.heap.size, 0, none⟩ = some (.int .i64 cc) ∧ W.cell? ⟨w.heap.size, 1, none⟩ = some (.int .i64 cr)) := fun W ho => ⟨(HFn.out.only ho (fun h => h)).cell 0, (HFn.out.only ho (fun h => h)).cell 1⟩
              go_wp2
              go_region_held3 (fun W => W.cell? ⟨w.heap.size, 0, none⟩ = some (.int .i64 cc) ∧ W.cell? ⟨w.heap.size, 1, none⟩ = some (.int .i64 cr))
                (first | exact HCs.out _ (Only.refl _ _).drew | exact HCs.out _ HO12.out | exact HCs.out _ HO13.out)
                (first
                  | (go_at_call 14; (with_reducible refine (HTy.out _ (Only.refl _ _).drew).mono ?_); rintro e w12 ⟨A12, c12, rfl, ht12, ho12⟩; have HO12 : Hid (Only (fun _ => False) wr w12) := ((Only.refl _ _).drew).trans ho12.out (fun _ h => h.elim))
                  | (go_at_call 19; (with_reducible refine (HSm.out _ _ _ ht12.out HO12.out).mono ?_); rintro e w' ⟨rfl, e2⟩; subst w')
                  | (go_at_call 10; (with_reducible refine (HPe.out _ HO12.out).mono ?_); rintro e w13 ⟨rfl, ho13⟩; have HO13 : Hid (Only (fun _ => False) wr w13) := HO12.out.trans ho13 (fun _ h => h.elim)))
              go_wp2
              go_ret
              exact ⟨rfl, HOF.out.trans HO13.out (fun _ h => h.elim)⟩
            case inl =>
              have HOF : Hid (Only (fun _ => False) w wr) := HOwB.out.trans HOn3.out (fun i hi => .inr (by rcases hi with rfl | rfl <;> omega))
              obtain ⟨Ae, ne, ce, hBg, e0, e1, hse, hae, hnce, hcem⟩ := hvb.el
              have HCyj : Hid (CyOk wr { h3 with ck := ((0 % (ts.length + 1) : Nat) : Int) } ts 0) := by
                obtain ⟨A3, c3, h31, h32⟩ := HCy.out.ca
                exact ⟨⟨A3, c3, h31, h32.only HOn3.out (fun hn ad e => HCo.out A3 _ c3 h31 hn ad e)⟩, rfl, HCy.out.one, HCy.out.most, HCy.out.okT⟩
              have HAk := Lib.hid (fun W (ho : Only (fun _ => False) wr W) => hAsk_any (HE.out.only (HOF.out.trans ho (fun _ h => h.elim))) (HHub.out.same ho) ((HTA.out.1.only HOn3.out (by omega)).same ho) tA_on.1 (HCyj.out.only ho (fun _ _ _ _ _ _ _ h => h)) (hse.only ho (fun _ _ _ h => h)) hnce hcem 0)
              have HK := Lib.hid hk
              obtain ⟨M', A1, n1, c1, eM, hBM, hbM, hs1, ha1, hc1, hcm1⟩ := hvt.form
              injection eM with eM
              injection eM with eM
              injection eM with eM
              subst eM
              have HM := Lib.hid hbM
              have HS1 := Lib.hid hs1
              have hnb : ∀ v ∈ [Value.int .i64 31, .slice A1 n1 c1], ∀ x, v ≠ B8 x := by
                intro v hv x
                simp only [List.mem_cons, List.not_mem_nil, or_false] at hv
                rcases hv with rfl | rfl
                · intro h; unfold B8 at h; injection h with h; cases h
                · intro h; cases h
              have HNb := Lib.hid hnb
              have hMp : M ≠ p ∧ M ≠ pk ∧ M ≠ qa ∧ M ≠ qb := by omega
              have hgw : g < wr.heap.size := World.block_lt_of_cell? _ _ e0
              have HEl := Lib.hid hvb
              have HRg : Hid (wr.rangeAt g 0 [.int .i64 24, .slice Ae ne ce]) := fun q v hq => by
                match q, hq with
                | 0, hq => simp only [List.getElem?_cons_zero, Option.some.injEq] at hq; subst hq; exact e0
                | 1, hq => simp only [List.getElem?_cons_zero, List.getElem?_cons_succ, Option.some.injEq] at hq; subst hq; exact e1
                | q + 2, hq => simp at hq
              have hj30 : ((0 : Nat) : Int) ≤ 30 := by omega
              clear hk hvb hbM hs1 hvt hnb hse e0 e1 hae
              go_wp2
              refine wp_loop_rounds 2 ?_
              rw [rounds_succ]
              go_wp2_with (first
                | ((with_reducible show wpList _ _ _ (⟨some 137, _, _, _, _, _⟩ :: _) _ _); refine wpList_load_mid rfl 55 _ rfl g 0 rfl [.int .i64 24, .slice Ae ne ce] _ HRg.out Tryz.underlying55 rfl sub_size ?_)
                | (go_at_call 15; (with_reducible refine (HAk.out _ ((Only.refl _ _).alloc _)).mono ?_); rintro e w14 ⟨N2, rfl, h14, hh14, ho14⟩; obtain ⟨N2', A2, n2, c2, eN, hB2, hb2, hs2, ha2, hc2, hcm2⟩ := h14.out.form; injection eN with eN; injection eN with eN; injection eN with eN; subst eN; have HM14 := Lib.hid ((HM.out.alloc _).only ho14.out hMp.1))
                | (at_builtin; (with_reducible show wpList _ _ _ (⟨some 153, _, _, _, _, _⟩ :: _) _ _); refine step_subs rfl _ _ rfl B (.slice (some ⟨M, 0, none⟩) 1 1) 1 [.int .i64 31, .slice A1 n1 c1] rfl (own_of_blk HM14.out rfl rfl (by omega) (by omega) hBM) (some ⟨N2, 0, none⟩) 1 1 [.int .i64 24, .slice A2 n2 c2] rfl rfl (fun _ => ⟨N2, rfl, fun q v hq => by rw [← hb2.cell q] at hq; exact hq⟩) (by simp [Value.oneCell']) (by omega) (by have h1 := ho14.out.size; simp at h1; have := HOn3.out.size; have := HBs.out; omega) ?_; intro A3 c3 w15 hr15 hg15))
              obtain ⟨g3, eA3, hBg3, hg3, hcell3⟩ := own_at hr15.out (by omega)
              subst eA3
              have HO15 : Hid (Only (fun i => i = M) w14 w15) := (Only.refl _ w14).grown hg15.out (fun q hq => .inl (by simp [Value.ownBlock] at hq; omega))
              have HO1r : Hid (Only (fun i => i = p ∨ i = M) wr w15) := (((Only.refl (fun i => i = p ∨ i = M) wr).alloc _).trans ho14.out (fun i hi => .inl (.inl hi))).trans HO15.out (fun i hi => .inl (.inr hi))
              have HBr : B ≤ wr.heap.size := by have := HOn3.out.size; have := HBs.out; omega
              have HBw : wr.heap.size ≤ w15.heap.size := HO1r.out.size
              have HHub15 := Lib.hid (hh14.out.only HO15.out (by omega))
              have HK15 := Lib.hid (HK.out.only HO1r.out (by omega))
              have HS15 := Lib.hid (hs2.only HO15.out (fun hn ad e => hs2.apart hn HM14.out HNb.out ad e))
              have HS14 := Lib.hid ((HS1.out.only ((Only.refl (fun _ => False) wr).alloc _) (fun _ _ _ h => h)).only ho14.out (fun hn ad e => by have := ha1 hn ad e; omega))
              have HZ15 := Lib.hid (HS14.out.only HO15.out (fun hn ad e => HS14.out.apart hn HM14.out HNb.out ad e))
              have HR3 : Hid (w15.rangeAt g3 0 [.int .i64 31, .slice A1 n1 c1]) := fun q v hq => by
                rw [Nat.zero_add]
                exact hcell3 q v (by rw [List.getElem?_append_left (List.getElem?_eq_some_iff.1 hq).1]; exact hq)
              have HR4 : Hid (w15.rangeAt g3 2 [.int .i64 24, .slice A2 n2 c2]) := fun q v hq => hcell3 (2 + q) v (by rw [List.getElem?_append_right (by simp)]; simpa using hq)
              have HOF15 : Hid (Only (fun _ => False) w w15) := HOF.out.trans HO1r.out (fun i hi => .inr (by have := HOwB.out.size; rcases hi with rfl | rfl <;> omega))
              have HTB15 := Lib.hid ((HTA.out.2.only HOn3.out (by omega)).only HO1r.out (by omega))
              have hle : g3 < w15.heap.size := hg3
              clear hcell3 hr15 hg15 hh14 h14 hs2 hb2 HS14
              have HKs := Lib.hid (fun W (ho : Only (fun _ => False) w15 W) => kSize_any (c := c1) (HE.out.only (HOF15.out.trans ho (fun _ h => h.elim))) (HK15.out.same ho) (HTB15.out.same ho) tB_on.2 HG.out.1 HG.out.2.1 (HZ15.out.only ho (fun _ _ _ h => h)) 0)
              rw [rounds_succ]
              go_wp2
              refine wp_loop_rounds 3 ?_
              rw [rounds_succ]
              go_wp2_with (first
                | ((with_reducible show wpList _ _ _ (⟨some 160, _, _, _, _, _⟩ :: _) _ _); refine wpList_load_mid rfl 55 _ rfl g3 0 rfl [.int .i64 31, .slice A1 n1 c1] _ HR3.out Tryz.underlying55 rfl sub_size ?_)
                | (go_at_call 15; (with_reducible refine (HKs.out _ ((Only.refl _ _).alloc _)).mono ?_); rintro e w18 ⟨rfl, hh18, ho18⟩)
                | (at_builtin; (with_reducible show wpList _ _ _ (⟨some 176, _, _, _, _, _⟩ :: _) _ _); refine step_subs0 rfl _ _ rfl rfl none 0 rfl ?_))
              have HO18 : Hid (Only (fun i => i = pk) w15 w18) := ((Only.refl (fun i => i = pk) w15).alloc _).trans ho18.out (fun i hi => .inl hi)
              have HHub18 := Lib.hid (HHub15.out.only HO18.out (by omega))
              have HK18 := hh18
              have HTB18 := Lib.hid (HTB15.out.only HO18.out (by omega))
              have HS18 := Lib.hid (HS15.out.only HO18.out (fun hn ad e => by have h1 := ha2 hn ad e; simp at h1; omega))
              have HR18 : Hid (w18.rangeAt g3 2 [.int .i64 24, .slice A2 n2 c2]) := fun q v hq => HO18.out.cellv (HR4.out q v hq) (by show ¬ g3 = pk; omega)
              have HOF18 : Hid (Only (fun _ => False) w w18) := HOF15.out.trans HO18.out (fun i hi => .inr (by omega))
              have HO1r18 : Hid (Only (fun i => (i = p ∨ i = M) ∨ i = pk) wr w18) := (Only.mono (T := fun i => (i = p ∨ i = M) ∨ i = pk) HO1r.out (fun i hi => .inl (.inl hi))).trans HO18.out (fun i hi => .inl (.inr hi))
              have hz18 := HO18.out.size
              have hBw18 := HBs.out
              clear hh18 ho18 HHub15 HK15 HTB15 HS15 HR3 HR4 HOF15
              rw [rounds_succ]
              have hnej : ∀ (i : Nat) (x y : List UInt8), ts[i]? = some x → ts[i + 1]? = some y → x ≠ y := fun i x y hx hy => HNe2.out i x y (by have := (List.getElem?_eq_some_iff.1 hy).1; have := HLn.out; omega) hx hy
              by_cases hmore : 0 < ts.length ∧ 0 + 1 < 8
              · have HKm := Lib.hid (fun W (ho : Only (fun _ => False) w18 W) => kType_more (j := 0) (HE.out.only (HOF18.out.trans ho (fun _ h => h.elim))) (HK18.out.same ho) (HTB18.out.same ho) tB_on.1 HG.out.2.2 hnej HCy.out.one HCy.out.most rfl hmore.1 hmore.2 (HS18.out.only ho (fun _ _ _ h => h)) hc2 hcm2)
                clear hnej
                go_wp2_with (first
                  | ((with_reducible show wpList _ _ _ (⟨some 160, _, _, _, _, _⟩ :: _) _ _); refine wpList_load_mid rfl 55 _ rfl g3 2 rfl [.int .i64 24, .slice A2 n2 c2] _ HR18.out Tryz.underlying55 rfl sub_size ?_)
                  | (go_at_call 15; (with_reducible refine (HKm.out _ ((Only.refl _ _).alloc _)).mono ?_); rintro e w16 ⟨N5, rfl, h16, hh16, ho16⟩; obtain ⟨N5', A5, n5, c5, eN, hB5, hb5, hs5, ha5, hc5, hcm5⟩ := h16.out.form; injection eN with eN; injection eN with eN; injection eN with eN; subst eN)
                  | (at_builtin; (with_reducible show wpList _ _ _ (⟨some 176, _, _, _, _, _⟩ :: _) _ _); refine step_subs rfl _ _ rfl B (.slice none 0 0) 0 [] rfl (own_nil _ _ _ _) (some ⟨N5, 0, none⟩) 1 1 [.int .i64 24, .slice A5 n5 c5] rfl rfl (fun _ => ⟨N5, rfl, fun q v hq => by rw [← hb5.cell q] at hq; exact hq⟩) (by simp [Value.oneCell']) (by omega) (by have h1 := ho16.out.size; simp at h1; omega) ?_; intro A6 c6 w17 hr17 hg17))
                obtain ⟨g6, eA6, hBg6, hg6, hcell6⟩ := own_at hr17.out (by omega)
                subst eA6
                have HO17 : Hid (Only (fun _ => False) w16 w17) := (Only.refl _ w16).grown hg17.out (fun q hq => by cases hq)
                have HO16r : Hid (Only (fun i => i = pk) w18 w17) := (((Only.refl (fun i => i = pk) w18).alloc _).trans ho16.out (fun i hi => .inl hi)).trans HO17.out (fun _ h => h.elim)
                have HRn : Hid (TyRel B wB w17 p pk ts cc cr h3 h4 (.slice none 0 0) (.slice (some ⟨g6, 0, none⟩) 1 c6) (0 + 1)) := by
                  have hz16 := ho16.out.size
                  simp at hz16
                  refine ⟨(HOn3.out.trans HO1r18.out (T := fun i => (i = p ∨ i = M) ∨ i = pk) (fun i hi => by rcases hi with (rfl | rfl) | rfl; exact .inl (.inl rfl); exact .inr (by omega); exact .inl (.inr rfl))).trans HO16r.out (fun i hi => .inl (.inr hi)), HHub18.out.only HO16r.out (by omega), .inr (.inl ⟨by omega, by omega, by omega, rfl, hh16.out.same HO17.out, g6, c6, rfl, A5, n5, c5, hBg6, hcell6 0 _ rfl, hcell6 1 _ rfl, hs5.only HO17.out (fun _ _ _ h => h), fun hn ad e => ?_, hc5, hcm5⟩)⟩
                  have := ha5 hn ad e
                  simp at this
                  omega
                clear hr17 hg17 hcell6 h16 hh16 ho16 hs5 hb5
                rw [rounds_succ]
                go_wp2
                go_roundw
                case rel => exact ⟨0 + 1, by omega, by go_num, HRn.out⟩
                case measure => simp [intOf]
              · have HKl := Lib.hid (fun W (ho : Only (fun _ => False) w18 W) => kType_last (HE.out.only (HOF18.out.trans ho (fun _ h => h.elim))) (HK18.out.same ho) (HTB18.out.same ho) tB_on.1 HG.out.2.2 hnej HCy.out.one HCy.out.most (j := 0) rfl (by omega) (by omega) hmore (HS18.out.only ho (fun _ _ _ h => h)) hc2 hcm2)
                clear hnej
                go_wp2_with (first
                  | ((with_reducible show wpList _ _ _ (⟨some 160, _, _, _, _, _⟩ :: _) _ _); refine wpList_load_mid rfl 55 _ rfl g3 2 rfl [.int .i64 24, .slice A2 n2 c2] _ HR18.out Tryz.underlying55 rfl sub_size ?_)
                  | (go_at_call 15; (with_reducible refine (HKl.out _ ((Only.refl _ _).alloc _)).mono ?_); rintro e w16 ⟨rfl, hh16, ho16⟩)
                  | (at_builtin; (with_reducible show wpList _ _ _ (⟨some 176, _, _, _, _, _⟩ :: _) _ _); refine step_subs0 rfl _ _ rfl rfl none 0 rfl ?_))
                have HO16r : Hid (Only (fun i => i = pk) w18 w16) := ((Only.refl (fun i => i = pk) w18).alloc _).trans ho16.out (fun i hi => .inl hi)
                have HRn : Hid (TyRel B wB w16 p pk ts cc cr h3 h4 (.slice none 0 0) (.slice none 0 0) (0 + 1)) :=
                  ⟨(HOn3.out.trans HO1r18.out (T := fun i => (i = p ∨ i = M) ∨ i = pk) (fun i hi => by rcases hi with (rfl | rfl) | rfl; exact .inl (.inl rfl); exact .inr (by omega); exact .inl (.inr rfl))).trans HO16r.out (fun i hi => .inl (.inr hi)), HHub18.out.only HO16r.out (by omega), .inr (.inr ⟨by omega, by omega, rfl, hh16.out, rfl⟩)⟩
                clear hh16 ho16
                rw [rounds_succ]
                go_wp2
                go_roundw
                case rel => exact ⟨0 + 1, by omega, by go_num, HRn.out⟩
                case measure => simp [intOf]
            case inr.inl =>
              have HOF : Hid (Only (fun _ => False) w wr) := HOwB.out.trans HOn3.out (fun i hi => .inr (by rcases hi with rfl | rfl <;> omega))
              obtain ⟨Ae, ne, ce, hBg, e0, e1, hse, hae, hnce, hcem⟩ := hvb.el
              have HCyj : Hid (CyOk wr { h3 with ck := ((j % (ts.length + 1) : Nat) : Int) } ts j) := by
                obtain ⟨A3, c3, h31, h32⟩ := HCy.out.ca
                exact ⟨⟨A3, c3, h31, h32.only HOn3.out (fun hn ad e => HCo.out A3 _ c3 h31 hn ad e)⟩, rfl, HCy.out.one, HCy.out.most, HCy.out.okT⟩
              have HAk := Lib.hid (fun W (ho : Only (fun _ => False) wr W) => hAsk_any (HE.out.only (HOF.out.trans ho (fun _ h => h.elim))) (HHub.out.same ho) ((HTA.out.1.only HOn3.out (by omega)).same ho) tA_on.1 (HCyj.out.only ho (fun _ _ _ _ _ _ _ h => h)) (hse.only ho (fun _ _ _ h => h)) hnce hcem 0)
              have HK := Lib.hid hk
              have hgw : g < wr.heap.size := World.block_lt_of_cell? _ _ e0
              have HEl := Lib.hid hvb
              have HRg : Hid (wr.rangeAt g 0 [.int .i64 24, .slice Ae ne ce]) := fun q v hq => by
                match q, hq with
                | 0, hq => simp only [List.getElem?_cons_zero, Option.some.injEq] at hq; subst hq; exact e0
                | 1, hq => simp only [List.getElem?_cons_zero, List.getElem?_cons_succ, Option.some.injEq] at hq; subst hq; exact e1
                | q + 2, hq => simp at hq
              have hj30 : (j : Int) ≤ 30 := by omega
              clear hk hvb hse e0 e1 hae
              go_wp2
              refine wp_loop_rounds 2 ?_
              rw [rounds_succ]
              go_wp2_with (first
                | ((with_reducible show wpList _ _ _ (⟨some 137, _, _, _, _, _⟩ :: _) _ _); refine wpList_load_mid rfl 55 _ rfl g 0 rfl [.int .i64 24, .slice Ae ne ce] _ HRg.out Tryz.underlying55 rfl sub_size ?_)
                | (go_at_call 15; (with_reducible refine (HAk.out _ ((Only.refl _ _).alloc _)).mono ?_); rintro e w14 ⟨N2, rfl, h14, hh14, ho14⟩; obtain ⟨N2', A2, n2, c2, eN, hB2, hb2, hs2, ha2, hc2, hcm2⟩ := h14.out.form; injection eN with eN; injection eN with eN; injection eN with eN; subst eN)
                | (at_builtin; (with_reducible show wpList _ _ _ (⟨some 153, _, _, _, _, _⟩ :: _) _ _); refine step_subs rfl _ _ rfl B (.slice none 0 0) 0 [] rfl (own_nil _ _ _ _) (some ⟨N2, 0, none⟩) 1 1 [.int .i64 24, .slice A2 n2 c2] rfl rfl (fun _ => ⟨N2, rfl, fun q v hq => by rw [← hb2.cell q] at hq; exact hq⟩) (by simp [Value.oneCell']) (by omega) (by have h1 := ho14.out.size; simp at h1; have := HOn3.out.size; have := HBs.out; omega) ?_; intro A3 c3 w15 hr15 hg15))
              obtain ⟨g3, eA3, hBg3, hg3, hcell3⟩ := own_at hr15.out (by omega)
              subst eA3
              have HO15 : Hid (Only (fun _ => False) w14 w15) := (Only.refl _ w14).grown hg15.out (fun q hq => by cases hq)
              have HO1r : Hid (Only (fun i => i = p) wr w15) := (((Only.refl (fun i => i = p) wr).alloc _).trans ho14.out (fun i hi => .inl hi)).trans HO15.out (fun _ h => h.elim)
              have HBr : B ≤ wr.heap.size := by have := HOn3.out.size; have := HBs.out; omega
              have HBw : wr.heap.size ≤ w15.heap.size := HO1r.out.size
              have HHub15 := Lib.hid (hh14.out.same HO15.out)
              have HK15 := Lib.hid (HK.out.only HO1r.out (by omega))
              have HS15 := Lib.hid (hs2.only HO15.out (fun _ _ _ h => h))
              have HR3 : Hid (w15.rangeAt g3 0 [.int .i64 24, .slice A2 n2 c2]) := fun q v hq => by
                rw [Nat.zero_add]
                exact hcell3 q v (by simpa using hq)
              have HOF15 : Hid (Only (fun _ => False) w w15) := HOF.out.trans HO1r.out (fun i hi => .inr (by rw [hi]; omega))
              have HTB15 := Lib.hid (HTA.out.2.only ((HOn3.out.trans HO1r.out (T := fun i => i = p) (fun i hi => .inl (.inl hi)))) (by omega))
              have hle : g3 < w15.heap.size := hg3
              clear hcell3 hr15 hg15 hh14 h14 hs2 hb2
              rw [rounds_succ]
              go_wp2
              refine wp_loop_rounds 2 ?_
              rw [rounds_succ]
              have hnej : ∀ (i : Nat) (x y : List UInt8), ts[i]? = some x → ts[i + 1]? = some y → x ≠ y := fun i x y hx hy => HNe2.out i x y (by have := (List.getElem?_eq_some_iff.1 hy).1; have := HLn.out; omega) hx hy
              by_cases hmore : j < ts.length ∧ j + 1 < 8
              · have HKm := Lib.hid (fun W (ho : Only (fun _ => False) w15 W) => kType_more (HE.out.only (HOF15.out.trans ho (fun _ h => h.elim))) (HK15.out.same ho) (HTB15.out.same ho) tB_on.1 HG.out.2.2 hnej HCy.out.one HCy.out.most rfl hmore.1 hmore.2 (HS15.out.only ho (fun _ _ _ h => h)) hc2 hcm2)
                clear hnej
                go_wp2_with (first
                  | ((with_reducible show wpList _ _ _ (⟨some 160, _, _, _, _, _⟩ :: _) _ _); refine wpList_load_mid rfl 55 _ rfl g3 0 rfl [.int .i64 24, .slice A2 n2 c2] _ HR3.out Tryz.underlying55 rfl sub_size ?_)
                  | (go_at_call 15; (with_reducible refine (HKm.out _ ((Only.refl _ _).alloc _)).mono ?_); rintro e w16 ⟨N5, rfl, h16, hh16, ho16⟩; obtain ⟨N5', A5, n5, c5, eN, hB5, hb5, hs5, ha5, hc5, hcm5⟩ := h16.out.form; injection eN with eN; injection eN with eN; injection eN with eN; subst eN)
                  | (at_builtin; (with_reducible show wpList _ _ _ (⟨some 176, _, _, _, _, _⟩ :: _) _ _); refine step_subs rfl _ _ rfl B (.slice none 0 0) 0 [] rfl (own_nil _ _ _ _) (some ⟨N5, 0, none⟩) 1 1 [.int .i64 24, .slice A5 n5 c5] rfl rfl (fun _ => ⟨N5, rfl, fun q v hq => by rw [← hb5.cell q] at hq; exact hq⟩) (by simp [Value.oneCell']) (by omega) (by have h1 := ho16.out.size; simp at h1; omega) ?_; intro A6 c6 w17 hr17 hg17))
                obtain ⟨g6, eA6, hBg6, hg6, hcell6⟩ := own_at hr17.out (by omega)
                subst eA6
                have HO17 : Hid (Only (fun _ => False) w16 w17) := (Only.refl _ w16).grown hg17.out (fun q hq => by cases hq)
                have HO16r : Hid (Only (fun i => i = pk) w15 w17) := (((Only.refl (fun i => i = pk) w15).alloc _).trans ho16.out (fun i hi => .inl hi)).trans HO17.out (fun _ h => h.elim)
                have HRn : Hid (TyRel B wB w17 p pk ts cc cr h3 h4 (.slice none 0 0) (.slice (some ⟨g6, 0, none⟩) 1 c6) (j + 1)) := by
                  have hz16 := ho16.out.size
                  simp at hz16
                  refine ⟨(HOn3.out.trans HO1r.out (T := fun i => i = p) (fun i hi => .inl (.inl hi))).trans HO16r.out (fun i hi => .inl (.inr hi)), HHub15.out.only HO16r.out (by omega), .inr (.inl ⟨by omega, by omega, by omega, rfl, hh16.out.same HO17.out, g6, c6, rfl, A5, n5, c5, hBg6, hcell6 0 _ rfl, hcell6 1 _ rfl, hs5.only HO17.out (fun _ _ _ h => h), fun hn ad e => ?_, hc5, hcm5⟩)⟩
                  have := ha5 hn ad e
                  simp at this
                  omega
                clear hr17 hg17 hcell6 h16 hh16 ho16 hs5 hb5
                rw [rounds_succ]
                go_wp2
                go_roundw
                case rel => exact ⟨j + 1, by omega, by go_num, HRn.out⟩
                case measure => simp [intOf]; omega
              · have HKl := Lib.hid (fun W (ho : Only (fun _ => False) w15 W) => kType_last (HE.out.only (HOF15.out.trans ho (fun _ h => h.elim))) (HK15.out.same ho) (HTB15.out.same ho) tB_on.1 HG.out.2.2 hnej HCy.out.one HCy.out.most (j := j) rfl (by omega) (by omega) hmore (HS15.out.only ho (fun _ _ _ h => h)) hc2 hcm2)
                clear hnej
                go_wp2_with (first
                  | ((with_reducible show wpList _ _ _ (⟨some 160, _, _, _, _, _⟩ :: _) _ _); refine wpList_load_mid rfl 55 _ rfl g3 0 rfl [.int .i64 24, .slice A2 n2 c2] _ HR3.out Tryz.underlying55 rfl sub_size ?_)
                  | (go_at_call 15; (with_reducible refine (HKl.out _ ((Only.refl _ _).alloc _)).mono ?_); rintro e w16 ⟨rfl, hh16, ho16⟩)
                  | (at_builtin; (with_reducible show wpList _ _ _ (⟨some 176, _, _, _, _, _⟩ :: _) _ _); refine step_subs0 rfl _ _ rfl rfl none 0 rfl ?_))
                have HO16r : Hid (Only (fun i => i = pk) w15 w16) := ((Only.refl (fun i => i = pk) w15).alloc _).trans ho16.out (fun i hi => .inl hi)
                have HRn : Hid (TyRel B wB w16 p pk ts cc cr h3 h4 (.slice none 0 0) (.slice none 0 0) (j + 1)) :=
                  ⟨(HOn3.out.trans HO1r.out (T := fun i => i = p) (fun i hi => .inl (.inl hi))).trans HO16r.out (fun i hi => .inl (.inr hi)), HHub15.out.only HO16r.out (by omega), .inr (.inr ⟨by omega, by omega, rfl, hh16.out, rfl⟩)⟩
                clear hh16 ho16
                rw [rounds_succ]
                go_wp2
                go_roundw
                case rel => exact ⟨j + 1, by omega, by go_num, HRn.out⟩
                case measure => simp [intOf]; omega
end Go.Proofs.YtlmkpembccehkaaGreatDoor
