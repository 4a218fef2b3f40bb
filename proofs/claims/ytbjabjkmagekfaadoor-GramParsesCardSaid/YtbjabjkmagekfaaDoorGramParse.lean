/- Package gram: Parse; rows of items that the program laid itself. -/
import Derived.Test.YtbjabjkmagekfaaDoorGramText
namespace Go.Proofs.YtbjabjkmagekfaaDoor
open Go Go.RowKit
set_option maxRecDepth 100000
set_option maxHeartbeats 4000000

/-- An item, and where its body lies. -/
structure PlP where
  p : Pl
  ad : Option Addr
  cap : Nat
def PlP.val (x : PlP) : Value := .slice x.ad x.p.it.body.length x.cap
def PlP.cells (x : PlP) : List Value := itCells x.p.it (x.p.from_ : Int) (x.p.to_ : Int) x.val
theorem PlP.cells_one (x : PlP) : ∀ v ∈ x.cells, v.oneCell' = true := it_one _ _ _ _ _ _
def flatPl : List PlP → List Value
  | [] => []
  | x :: l => x.cells ++ flatPl l
theorem flatPl_length (l : List PlP) : (flatPl l).length = l.length * 6 := by
  induction l with
  | nil => rfl
  | cons x l ih => simp only [flatPl, List.length_append, ih, List.length_cons, PlP.cells, itCells, List.length_nil]; omega
theorem flatPl_append (l k : List PlP) : flatPl (l ++ k) = flatPl l ++ flatPl k := by
  induction l with
  | nil => rfl
  | cons x l ih => simp [flatPl, ih]
theorem flatPl_get : ∀ {l : List PlP} {i : Nat} {x : PlP}, l[i]? = some x → ∀ (j : Nat) (v : Value), x.cells[j]? = some v → (flatPl l)[i * 6 + j]? = some v
  | y :: l, 0, x, h, j, v, hj => by
    simp only [List.getElem?_cons_zero, Option.some.injEq] at h
    subst h
    have hjl := (List.getElem?_eq_some_iff.1 hj).1
    rw [Nat.zero_mul, Nat.zero_add, flatPl, List.getElem?_append_left hjl]
    exact hj
  | y :: l, i + 1, x, h, j, v, hj => by
    have := flatPl_get (l := l) (i := i) (x := x) (by simpa using h) j v hj
    have e : y.cells.length = 6 := rfl
    rw [flatPl, List.getElem?_append_right (by rw [e]; omega), e, show (i + 1) * 6 + j - 6 = i * 6 + j from by omega]
    exact this

/-- A row of items. -/
structure Items (w : World) (B : Nat) (v : Value) (ps : List PlP) : Prop where
  row : w.ownsRow B 42 6 v ps.length (flatPl ps)
  bodies : ∀ x ∈ ps, Body w B x.val x.p.it.body
section
variable {w w' : World} {B : Nat} {v : Value} {ps : List PlP}
theorem Items.nil (w : World) (B : Nat) : Items w B (.slice none 0 0) [] := ⟨own_nil w B _ _, fun x h => by cases h⟩
theorem Items.only {S : Nat → Prop} (h : Items w B v ps) (ho : Only S w w') (h1 : ∀ k, v.ownBlock = some k → ¬ S k) (h2 : ∀ x ∈ ps, ∀ k, x.val.ownBlock = some k → ¬ S k) : Items w' B v ps :=
  ⟨own_only h.row ho h1, fun x hx => own_only (h.bodies x hx) ho (h2 x hx)⟩
theorem Items.same (h : Items w B v ps) (ho : Only (fun _ => False) w w') : Items w' B v ps := h.only ho (fun _ _ h => h) (fun _ _ _ _ h => h)
/-- A block of the call's own that is no body and no such row. -/
theorem Items.blk {g : Nat} {t : TypeId} {cs : List Value} (h : Items w B v ps) (ho : Only (· = g) w w') (hb : Blk w g t cs) (h1 : t ≠ 42) (h2 : t ≠ 5) : Items w' B v ps :=
  h.only ho (own_ne h.row hb (fun e => h1 e.symm)) (fun x hx => own_ne (h.bodies x hx) hb (fun e => h2 e.symm))
theorem Items.mono {B' : Nat} (h : Items w B v ps) (hB : B' ≤ B) : Items w B' v ps := ⟨own_mono h.row hB, fun x hx => own_mono (h.bodies x hx) hB⟩
theorem Items.form (h : Items w B v ps) : ∃ A c, v = .slice A ps.length c ∧ ps.length ≤ c ∧ c ≤ 9223372036854775807 := own_form h.row
/-- What lies at a place. -/
theorem Items.at_ {A : Option Addr} {n c i : Nat} {x : PlP} (h : Items w B (.slice A n c) ps) (hx : ps[i]? = some x) :
    ∃ g, A = some ⟨g, 0, none⟩ ∧ B ≤ g ∧ g < w.heap.size ∧ w.rangeAt g (i * 6) x.cells ∧ Body w B x.val x.p.it.body := by
  obtain ⟨A', c', hv, _⟩ := own_form h.row
  injection hv with e1 e2 e3
  subst e1 e2 e3
  have hi := (List.getElem?_eq_some_iff.1 hx).1
  obtain ⟨g, hA, hB, hlt, hc⟩ := own_at h.row (by omega)
  exact ⟨g, hA, hB, hlt, fun j u hj => hc _ _ (flatPl_get hx j u hj), h.bodies x (List.mem_of_getElem? hx)⟩
/-- An item more. -/
theorem Items.more {v' : Value} (h : Items w B v ps) (x : PlP) (hx : Body w B x.val x.p.it.body) (hrow : w'.ownsRow B 42 6 v' (ps.length + 1) (flatPl ps ++ x.cells)) (hg : w.grownBy w' v.ownBlock) : Items w' B v' (ps ++ [x]) := by
  have hne : (5 : Nat) ≠ 42 := by decide
  refine ⟨?_, fun z hz => ?_⟩
  · rw [flatPl_append, List.length_append]
    simpa [flatPl] using hrow
  · rcases List.mem_append.1 hz with hz | hz
    · exact own_kept (h.bodies z hz) h.row hne hg
    · obtain rfl := List.mem_singleton.1 hz
      exact own_kept hx h.row hne hg
end

theorem info_item : (Tryd.prog.info? 42).map (fun i => (i.zero, i.size, i.bytes)) = some (some (.agg #[.int .i64 0, .int .i64 0, .int .i64 0, .int .i64 0, .int .i64 0, .slice none 0 0]), 6, 64) := by kernel_rfl
theorem fill_six (z : List Value) (hz : z.length = 6) (cs : List Value) (hl : cs.length = 6) : Instr.fill (fun i => some (i * 6, 6)) ((Array.range (1 * 6)).map (z.toArray[· % z.toArray.size]!)) [(0, .agg cs.toArray)] = some cs.toArray := by
  match z, hz, cs, hl with
  | [z0, z1, z2, z3, z4, z5], _, [a, b, c, d, e, f], _ =>
    have e : (Array.range (1 * 6)).map (#[z0, z1, z2, z3, z4, z5][· % #[z0, z1, z2, z3, z4, z5].size]!) = #[z0, z1, z2, z3, z4, z5] := by
      rw [show Array.range (1 * 6) = #[0, 1, 2, 3, 4, 5] from by decide]
      simp
    show Instr.fill _ ((Array.range (1 * 6)).map (#[z0, z1, z2, z3, z4, z5][· % #[z0, z1, z2, z3, z4, z5].size]!)) _ = _
    rw [e]
    simp [Instr.fill, Value.cells]
/-- []Item{x} -/
theorem step_item {ops : Array Oper} {rest : List Oper} {o : Oper} {a : Act} {w : World} {Q : Exit → Act → World → Prop} (hgd : o.guard = none) (x : Operand) (ho : o.op = .buildSlice 25 1 #[(0, x)]) (cs : List Value) (hx : a.eval x = .agg cs.toArray) (hl : cs.length = 6)
    (h : wpList Tryd.prog ops Q rest (a.put o.dst (.slice (some ⟨w.heap.size, 0, none⟩) 1 1)) (w.alloc (.cells cs.toArray 42))) : wpList Tryd.prog ops Q (o :: rest) a w := by
  obtain ⟨i, hi, hz, h1, h2⟩ := info_parts info_item
  refine wpList_buildSlice hgd 25 42 1 #[(0, x)] ho cs.toArray i _ Tryd.underlying25 hi hz (by rw [h1]; decide) (by rw [h1]; decide) ?_ h
  rw [h1]
  have := fill_six [.int .i64 0, .int .i64 0, .int .i64 0, .int .i64 0, .int .i64 0, .slice none 0 0] rfl cs hl
  simpa [hx, Value.cells] using this

/-- What Parse has made of the items. -/
structure ParseAt (w : World) (p q : Nat) (A : Option Addr) (n c : Nat) (ps : List PlP) (W : World) : Prop where
  only : Only (fun _ => False) w W
  list : ∃ V, Blk W p 25 [V] ∧ Items W w.heap.size V ps
  b : Blk W q 22 [.slice A n c]
theorem ParseAt.same {w : World} {p q : Nat} {A : Option Addr} {n c : Nat} {ps : List PlP} {W W' : World} (h : ParseAt w p q A n c ps W) (ho : Only (fun _ => False) W W') : ParseAt w p q A n c ps W' :=
  ⟨h.only.trans ho (fun _ h => h.elim), by
    obtain ⟨V, h1, h2⟩ := h.list
    exact ⟨V, h1.only ho (fun h => h), h2.same ho⟩, h.b.only ho (fun h => h)⟩

theorem parse_one {w W : World} {p q : Nat} {A : Option Addr} {n c : Nat} {xs : List UInt8} {ps : List PlP} (hs : Src w A n xs) (h : ParseAt w p q A n c ps W) (hpq : p ≠ q) (hp : w.heap.size ≤ p) (k m : Nat) (x : It) (hf : Form (xs.drop k) x m) (hkm : k + m ≤ n) (hn : n ≤ 100000) (hc : n ≤ c) (hpl : ps.length ≤ 100000) :
    Calls Tryd.prog 20 #[.int .i64 x.kind, .int .i64 (k : Int), .int .i64 ((k + m : Nat) : Int), .pointer (some ⟨q, 0, none⟩), .pointer (some ⟨p, 0, none⟩)] W fun e w' => e = .returned (.tuple #[]) ∧ ∃ ad cap, ParseAt w p q A n c (ps ++ [⟨⟨x, k, k + m⟩, ad, cap⟩]) w' := by
  have hm0 := hf.pos
  obtain ⟨V, hV, hI⟩ := h.list
  obtain ⟨VA, vc, rfl, _⟩ := hI.form
  obtain ⟨vn, hvn⟩ : ∃ vn, vn = ps.length := ⟨_, rfl⟩
  rw [← hvn] at hV hI hpl
  have hsW := hs.only h.only (fun _ _ _ h => h)
  obtain ⟨ad, rfl, hcell⟩ := hsW.2 (by omega)
  have hsrc : Src W (some (ad.add k)) m ((xs.drop k).take m) := by
    have hl := hs.1
    refine ⟨by rw [List.length_take, List.length_drop]; omega, fun _ => ⟨_, rfl, fun j y hy => ?_⟩⟩
    rw [List.getElem?_take] at hy
    split at hy
    · rw [List.getElem?_drop] at hy
      rw [Go.Deep.add_add]
      exact hcell (k + j) y hy
    · cases hy
  obtain ⟨M, hM⟩ : ∃ M, M = k + m := ⟨_, rfl⟩
  have HM := Lib.hid hM
  have hC := item_any (c := c - k) hf hsrc (by omega) (by omega)
  rw [show m = M - k by omega] at hC
  have HC : Hid (Calls Tryd.prog 21 #[.int .i64 x.kind, .slice (some (ad.add k)) (M - k) (c - k)] W fun e w' => ∃ (cs : List Value) (A1 : Option Addr) (L c1 : Nat), e = .returned (.agg cs.toArray) ∧ Hid (cs = itCells x 0 0 (.slice A1 L c1)) ∧ Hid (L = x.body.length) ∧ Hid (Body w' W.heap.size (.slice A1 L c1) x.body) ∧ Hid (Only (fun _ => False) W w')) := hC.mono fun e w' ⟨A1, c1, h1, h2, h3⟩ => ⟨_, A1, _, c1, h1, Lib.hid rfl, Lib.hid rfl, h2, h3⟩
  rw [← hM]
  obtain ⟨xk, hxk⟩ : ∃ xk, xk = x.kind := ⟨_, rfl⟩
  rw [← hxk] at HC ⊢
  have HV := Lib.hid hV
  have HI := Lib.hid hI
  have HN := Lib.hid hvn
  have HH := Lib.hid h
  have hck : c ≠ k := by omega
  have hkM : (k : Int) ≤ (M : Int) := by omega
  have hMc : (M : Int) ≤ (c : Int) := by omega
  have hkM' : k ≤ M := by omega
  have hMc' : M ≤ c := by omega
  have c0 : W.cell? ⟨q, 0, none⟩ = some (.slice (some ad) n c) := h.b.cell 0
  obtain ⟨i0, hi0, iz0, iz1, iz2⟩ := info_parts info_item
  have HIn := Lib.hid hi0
  have HNe : Hid ((Value.slice VA vn vc).ownBlock ≠ some p ∧ (Value.slice VA vn vc).ownBlock ≠ some q) := ⟨fun e => own_ne HI.out.row HV.out (by decide) p e rfl, fun e => own_ne HI.out.row HH.out.b (by decide) q e rfl⟩
  clear h hV hI hvn hs hsW hcell hsrc hM hC hf hxk hi0 hm0 hkm
  go_enter Tryd.func20, Tryd.ntmps20
  go_wp2_with (first
    | (go_at_call 21; refine HC.out.mono ?_; rintro e w1 ⟨cs, A1, L, c1, rfl, hcs, hL, hb1, ho1⟩; have hcl : Hid (cs.length = 6) := (by rw [hcs.out]; rfl); have hcx : Hid (∀ v ∈ cs, v.oneCell' = true) := (by rw [hcs.out]; exact it_one _ _ _ _ _ _); have hpl1 : p < w1.heap.size := (by have := HV.out.lt; have := ho1.out.size; omega); have hql1 : q < w1.heap.size := (by have := HH.out.b.lt; have := ho1.out.size; omega))
    | ((with_reducible show wpList _ _ _ (⟨none, .store 42 _ _, _, _, _, _⟩ :: _) _ _); refine step_store rfl 42 _ _ rfl w1.heap.size rfl cs rfl _ (itCells It.none 0 0 (.slice none 0 0)) (Blk.new _ _ _) (by rw [hcl.out]; exact size_item) hcl.out.symm hcx.out ?_; intro w2 hB2 hz2 ho2;
        have k1 : w2.cell? ⟨w1.heap.size, 1, none⟩ = some (.int .i64 0) := (by rw [hB2.out.cell, hcs.out]; rfl);
        have k2 : w2.cell? ⟨w1.heap.size, 2, none⟩ = some (.int .i64 0) := (by rw [hB2.out.cell, hcs.out]; rfl);
        have f1 := hB2.out.frozen 1; have f2 := hB2.out.frozen 2;
        have HB3 : Hid (Blk ((w2.setCell ⟨w1.heap.size, 1, none⟩ (.int .i64 (k : Int))).setCell ⟨w1.heap.size, 2, none⟩ (.int .i64 (M : Int))) w1.heap.size 42 (itCells x (k : Int) (M : Int) (.slice A1 L c1))) := (by have := (hB2.out.setCell 1 (.int .i64 (k : Int))).setCell 2 (.int .i64 (M : Int)); rw [hcs.out] at this; exact this);
        have hO3 : Only (fun i => w1.heap.size ≤ i) w1 ((w2.setCell ⟨w1.heap.size, 1, none⟩ (.int .i64 (k : Int))).setCell ⟨w1.heap.size, 2, none⟩ (.int .i64 (M : Int))) := ((((Only.refl (fun i => w1.heap.size ≤ i) w1).alloc _).trans ho2 (fun i hi => .inl (by omega))).setCell (p := ⟨w1.heap.size, 1, none⟩) (.inl (Nat.le_refl _)) _).setCell (p := ⟨w1.heap.size, 2, none⟩) (.inl (Nat.le_refl _)) _;
        have HO3 := Lib.hid hO3;
        have HP2 : Hid (Blk w2 p 25 [.slice VA vn vc]) := (((HV.out.only ho1.out (fun h => h)).alloc _).only ho2 (by omega));
        have HP3 : Hid (Blk ((w2.setCell ⟨w1.heap.size, 1, none⟩ (.int .i64 (k : Int))).setCell ⟨w1.heap.size, 2, none⟩ (.int .i64 (M : Int))) p 25 [.slice VA vn vc]) := ((HV.out.only ho1.out (fun h => h)).only HO3.out (by omega));
        have kp := HP2.out.cell 0; have kp : w2.cell? ⟨p, 0, none⟩ = some (.slice VA vn vc) := kp;
        have hpn : w1.heap.size ≠ p := (by omega); have hpn' : p ≠ w1.heap.size := (by omega); clear hO3)
    | ((with_reducible show wpList _ _ _ (⟨some 20, _, _, _, _, _⟩ :: _) _ _); refine wpList_load_mid rfl 42 (.tmp 8) rfl w1.heap.size 0 rfl (itCells x (k : Int) (M : Int) (.slice A1 L c1)) _ (range_of HB3.out) Tryd.underlying42 rfl size_item ?_)
    | ((with_reducible show wpList _ _ _ (⟨some 21, _, _, _, _, _⟩ :: _) _ _); refine step_item rfl (.tmp 20) rfl (itCells x (k : Int) (M : Int) (.slice A1 L c1)) rfl rfl ?_; have HR4 : Hid (Items (((w2.setCell ⟨w1.heap.size, 1, none⟩ (.int .i64 (k : Int))).setCell ⟨w1.heap.size, 2, none⟩ (.int .i64 (M : Int))).alloc (.cells (itCells x (k : Int) (M : Int) (.slice A1 L c1)).toArray 42)) w.heap.size (.slice VA vn vc) ps) := (((HI.out.same ho1.out).only HO3.out (fun q hq => by have := ((HI.out.same ho1.out).row.lt q hq).2; omega) (fun y hy q hq => by have := (((HI.out.same ho1.out).bodies y hy).lt q hq).2; omega)).same ((Only.refl _ _).alloc _)); have HW4 : Hid (w.heap.size ≤ (((w2.setCell ⟨w1.heap.size, 1, none⟩ (.int .i64 (k : Int))).setCell ⟨w1.heap.size, 2, none⟩ (.int .i64 (M : Int))).alloc (.cells (itCells x (k : Int) (M : Int) (.slice A1 L c1)).toArray 42)).heap.size) := (by have := HH.out.only.size; have := ho1.out.size; have := HO3.out.size; show _ ≤ (World.alloc _ _).heap.size; simp only [World.size_alloc]; omega))
    | (at_builtin; refine step_append_own rfl (.tmp 19) (.tmp 21) 25 rfl w.heap.size 42 i0 _ 6 64 Tryd.underlying25 HIn.out iz0 iz1 iz2 rfl (by omega) (.slice VA vn vc) vn (flatPl ps) rfl (by have := HR4.out.row; rw [← HN.out] at this; exact this) (some ⟨((w2.setCell ⟨w1.heap.size, 1, none⟩ (.int .i64 (k : Int))).setCell ⟨w1.heap.size, 2, none⟩ (.int .i64 (M : Int))).heap.size, 0, none⟩) 1 1 (itCells x (k : Int) (M : Int) (.slice A1 L c1)) rfl rfl (fun _ => ⟨_, rfl, fun j u hj => by rw [at_add, (Blk.new ((w2.setCell ⟨w1.heap.size, 1, none⟩ (.int .i64 (k : Int))).setCell ⟨w1.heap.size, 2, none⟩ (.int .i64 (M : Int))) 42 (itCells x (k : Int) (M : Int) (.slice A1 L c1))).cell]; exact hj⟩) (it_one _ _ _ _ _ _) (by omega) (by omega) HW4.out ?_; intro A5 c5 w5 hnc5 hc5 hq5; have HP5 : Hid (Blk w5 p 25 [.slice VA vn vc]) := (HP3.out.alloc _).grown hq5.out.2.1 HNe.out.1; have kp5 := HP5.out.cell 0; have kp5 : w5.cell? ⟨p, 0, none⟩ = some (.slice VA vn vc) := kp5; have fp5 := HP5.out.frozen 0))
  refine bodyPost_end (results_none rfl _ _ _) rfl ?_
  have hL' := hL.out
  subst hL'
  have hw1 : W.heap.size ≤ w1.heap.size := ho1.out.size
  have hOw : Only (fun _ => False) w (((w2.setCell ⟨w1.heap.size, 1, none⟩ (.int .i64 (k : Int))).setCell ⟨w1.heap.size, 2, none⟩ (.int .i64 (M : Int))).alloc (.cells (itCells x (k : Int) (M : Int) (.slice A1 x.body.length c1)).toArray 42)) := ((HH.out.only.trans ho1.out (fun _ h => h.elim)).trans HO3.out (fun i hi => .inr (by have := HH.out.only.size; omega))).alloc _
  have hO5 : Only (fun _ => False) w w5 := hOw.grown hq5.out.2.1 (fun k hk => .inr (own_lt HI.out.row k hk).1)
  have hb4 : Body (((w2.setCell ⟨w1.heap.size, 1, none⟩ (.int .i64 (k : Int))).setCell ⟨w1.heap.size, 2, none⟩ (.int .i64 (M : Int))).alloc (.cells (itCells x (k : Int) (M : Int) (.slice A1 x.body.length c1)).toArray 42)) w.heap.size (.slice A1 x.body.length c1) x.body := own_mono (own_same (own_only hb1.out HO3.out (fun q hq => by have := (own_lt hb1.out q hq).2; omega)) ((Only.refl _ _).alloc _)) HH.out.only.size
  have hI5 : Items w5 w.heap.size (.slice A5 (vn + 1) c5) (ps ++ [⟨⟨x, k, M⟩, A1, c1⟩]) := HR4.out.more ⟨⟨x, k, M⟩, A1, c1⟩ hb4 (by rw [← HN.out]; exact hq5.out.1) hq5.out.2.1
  have hM := HM.out
  refine ⟨rfl, A1, c1, hO5.setCell (.inr hp) _, ⟨_, HP5.out.setCell 0 _, ?_⟩, ?_⟩
  · exact hI5.blk ((Only.refl (· = p) w5).setCell (p := ⟨p, 0, none⟩) (.inl rfl) _) HP5.out (by decide) (by decide)
  · exact ((((HH.out.b.only ho1.out (fun h => h)).only HO3.out (by omega)).alloc _).grown hq5.out.2.1 HNe.out.2).far hpq.symm _

theorem eg_parse : ∀ (args : Array Value) (w : World), (callFunc 20 args).run Tryd.prog w = .ok (.enter 20 args) w := enters_of Tryd.func20 (by kernel_rfl) rfl
theorem parse_tells {w : World} {A : Option Addr} {n c : Nat} {xs : List UInt8} (hs : Src w A n xs) (hn : n ≤ 100000) (hc : n ≤ c) (raw : Bool) (p q : Nat) (hp : w.heap.size ≤ p) (hpq : p ≠ q) :
    Tells w raw xs 20 #[.pointer (some ⟨q, 0, none⟩), .pointer (some ⟨p, 0, none⟩)] (fun ts W => ∃ ps : List PlP, ps.map PlP.p = ts ∧ ParseAt w p q A n c ps W) where
  only := fun _ _ ⟨_, _, h⟩ => h.only
  stay := fun _ _ _ ⟨ps, e, h⟩ ho => ⟨ps, e, h.same ho⟩
  tell := fun ts W x k m ⟨ps, e, h⟩ hf hkm hcut => by
    show Calls _ _ #[.int .i64 x.kind, .int .i64 (k : Int), .int .i64 ((k + m : Nat) : Int), .pointer (some ⟨q, 0, none⟩), .pointer (some ⟨p, 0, none⟩)] _ _
    have hl := hs.1
    have hpl : ps.length ≤ k := by rw [← e, List.length_map] at hf; exact hf
    refine (parse_one hs h hpq hp k m x (cut_form hcut) (by omega) hn hc (by omega)).mono ?_
    rintro e' w' ⟨rfl, ad, cap, h1⟩
    exact ⟨rfl, _, by simp [e], h1⟩

/-- The items of bytes; none, if they aren't of the grammar. -/
def itemsOf (raw : Bool) (xs : List UInt8) : List Pl := match parseFrom raw 0 xs with
  | some (l, _) => l
  | .none => []

theorem parse_any {w : World} {es : List Addr} (hes : ErrsIs w [2, 4] es) {A : Option Addr} {n c : Nat} {xs : List UInt8} (hs : Src w A n xs) (raw : Bool) (hn : n ≤ 100000) (hc : n ≤ c) :
    Calls Tryd.prog 9 #[.slice A n c, .bool raw] w fun e w' => ∃ A' c' E, e = .returned (.tuple #[.slice A' (itemsOf raw xs).length c', E]) ∧ ErrOf es raw xs E ∧ Hid (∃ ps : List PlP, ps.map PlP.p = itemsOf raw xs ∧ Items w' w.heap.size (.slice A' (itemsOf raw xs).length c') ps) ∧ Hid (Only (fun _ => False) w w') := by
  have HC := Lib.hid (walk_any hes hs raw (by omega) hc _ _ eg_parse (parse_tells hs hn hc raw (w.heap.size + 1) w.heap.size (by omega) (by omega)) (w1 := (w.alloc (.cells #[.slice A n c] 22)).alloc (.cells #[.slice none 0 0] 25))
    ⟨[], rfl, ((Only.refl _ w).alloc _).alloc _, ⟨_, by simpa using Blk.new' (n := w.heap.size + 1) (w.alloc (.cells #[.slice A n c] 22)) 25 [.slice none 0 0] (by simp), Items.nil _ _⟩, (Blk.new' w 22 [.slice A n c] rfl).alloc _⟩)
  clear hes hs
  unfold WalkSays at HC
  unfold itemsOf ErrOf gramOk
  cases hp : parseFrom raw 0 xs with
  | none =>
    rw [hp] at HC
    have HD : Hid (Calls Tryd.prog 19 #[.slice A n c, .bool raw, .func (.func 20) #[] #[.pointer (some ⟨w.heap.size, 0, none⟩), .pointer (some ⟨w.heap.size + 1, 0, none⟩)]] ((w.alloc (.cells #[.slice A n c] 22)).alloc (.cells #[.slice none 0 0] 25)) fun e w' => ∃ a, e = .returned (.tuple #[.int .i64 0, .iface 88 (.pointer (some a))]) ∧ Hid (es[4]? = some a) ∧ Hid (Only (fun _ => False) w w')) := HC.out.mono fun e w' ⟨a, _, h0, h1, _, _, h2⟩ => ⟨a, h1, h0, h2.only⟩
    clear HC hp
    go_enter Tryd.func9, Tryd.ntmps9
    go_wp2_with (go_at_call 19; refine HD.out.mono ?_; rintro e w1 ⟨a, rfl, ha, ho1⟩)
    go_ret2
    exact ⟨none, 0, _, rfl, ⟨a, ha.out, rfl⟩, Items.nil _ _, ho1.out⟩
  | some r =>
    obtain ⟨l, r⟩ := r
    rw [hp] at HC
    obtain ⟨m, hm⟩ : ∃ m, m = l.length := ⟨_, rfl⟩
    have HD : Hid (Calls Tryd.prog 19 #[.slice A n c, .bool raw, .func (.func 20) #[] #[.pointer (some ⟨w.heap.size, 0, none⟩), .pointer (some ⟨w.heap.size + 1, 0, none⟩)]] ((w.alloc (.cells #[.slice A n c] 22)).alloc (.cells #[.slice none 0 0] 25)) fun e w' => ∃ (L : Int) (A' : Option Addr) (c' : Nat) (ps : List PlP), e = .returned (.tuple #[.int .i64 L, .nilIface]) ∧ w'.cell? ⟨w.heap.size + 1, 0, none⟩ = some (.slice A' m c') ∧ Hid (ps.map PlP.p = l) ∧ Hid (Items w' w.heap.size (.slice A' m c') ps) ∧ Hid (Only (fun _ => False) w w')) := HC.out.mono fun e w' ⟨h1, ps, h5, h2⟩ => by
      obtain ⟨V, h3, h4⟩ := h2.list
      obtain ⟨A', c', rfl, _⟩ := h4.form
      have e1 : ps.length = m := by rw [hm, ← h5, List.length_map]
      rw [e1] at h3 h4
      exact ⟨_, A', c', ps, h1, h3.cell 0, h5, h4, h2.only⟩
    simp only
    rw [← hm]
    clear HC hp hm
    go_enter Tryd.func9, Tryd.ntmps9
    go_wp2_with (go_at_call 19; refine HD.out.mono ?_; rintro e w1 ⟨L, A1, c1, ps, rfl, hc1, hps, hI1, ho1⟩)
    go_ret2
    exact ⟨A1, c1, _, rfl, by simp, ⟨ps, hps.out, hI1.out⟩, ho1.out⟩
end Go.Proofs.YtbjabjkmagekfaaDoor
