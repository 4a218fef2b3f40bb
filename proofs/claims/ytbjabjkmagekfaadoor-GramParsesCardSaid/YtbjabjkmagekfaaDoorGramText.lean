/- Package gram: Text. -/
import Derived.Test.YtbjabjkmagekfaaDoorGramRest
namespace Go.Proofs.YtbjabjkmagekfaaDoor
open Go Go.RowKit
set_option maxRecDepth 100000
set_option maxHeartbeats 4000000

theorem Blk.grown {w w' : World} {g : Nat} {t : TypeId} {cs : List Value} {row : Option Nat} (h : Blk w g t cs) (hg : w.grownBy w' row) (hne : row ≠ some g) : Blk w' g t cs := (hg.block g h.lt (fun e => hne e.symm)).trans h
/-- append of bytes onto a row of the call's own: nothing else turns. -/
theorem step_bytesG {ops : Array Oper} {rest : List Oper} {o : Oper} {a : Act} {w : World} {Q : Exit → Act → World → Prop} (hgd : o.guard = none) (sx x : Operand) (ho : o.op = .call { callee := .builtin .append, args := #[sx, x], argTypes := #[22, 22] })
    (B : Nat) (A : Option Addr) (n c : Nat) (xs : List UInt8) (hs : a.eval sx = .slice A n c) (hb : Body w B (.slice A n c) xs) (hn : n = xs.length) (S : Option Addr) (m c2 : Nat) (ys : List UInt8) (hx : a.eval x = .slice S m c2) (hsrc : Src w S m ys) (hbd : n + m ≤ 1048576) (hB : B ≤ w.heap.size)
    (h : ∀ A' c' w', Hid (Body w' B (.slice A' (n + m) c') (xs ++ ys)) → Hid (w.grownBy w' (Value.slice A n c).ownBlock) → wpList Tryd.prog ops Q rest (a.put o.dst (.slice A' (n + m) c')) w') :
    wpList Tryd.prog ops Q (o :: rest) a w := by
  subst hn
  obtain ⟨i, hi, hz, h1, h2⟩ := info_parts info_byte
  refine step_append_own hgd sx x 22 ho B 5 i _ 1 1 Tryd.underlying22 hi hz h1 h2 rfl (by omega) _ xs.length (xs.map B8) hs hb S m c2 (ys.map B8) hx (by rw [List.length_map, hsrc.1, Nat.mul_one]) (fun hm => ?_) (fun u hu => by obtain ⟨z, _, rfl⟩ := List.mem_map.1 hu; rfl) (by omega) (by omega) hB ?_
  · obtain ⟨ad, e, hc⟩ := hsrc.2 hm
    refine ⟨ad, e, fun j u hu => ?_⟩
    rw [List.getElem?_map] at hu
    cases hy : ys[j]? with
    | none => rw [hy] at hu; cases hu
    | some y =>
      rw [hy] at hu
      injection hu with hu
      subst hu
      exact hc j y hy
  · intro A' c' w' _ _ hq
    have hq1 := hq.out.1
    have hq2 := hq.out.2.1
    refine h A' c' w' (show Body _ _ _ _ from ?_) hq2
    unfold Body
    rw [List.length_append, List.map_append, hsrc.1]
    exact hq1

/-- .. at a step of a region that draws its order. -/
theorem step_bytesR {ops : Array Oper} {o : Oper} {a : Act} {w : World} {K : Act → World → Prop} {Q : Exit → Act → World → Prop} {E : Prop} (hgd : o.guard = none) (sx x : Operand) (ho : o.op = .call { callee := .builtin .append, args := #[sx, x], argTypes := #[22, 22] })
    (B : Nat) (A : Option Addr) (n c : Nat) (xs : List UInt8) (hs : a.eval sx = .slice A n c) (hb : Body w B (.slice A n c) xs) (hn : n = xs.length) (S : Option Addr) (m c2 : Nat) (ys : List UInt8) (hx : a.eval x = .slice S m c2) (hm : 0 < m) (hsrc : Src w S m ys) (hbd : n + m ≤ 1048576) (hB : B ≤ w.heap.size)
    (h : ∀ A' c' w', Hid (Body w' B (.slice A' (n + m) c') (xs ++ ys)) → Hid (w.grownBy w' (Value.slice A n c).ownBlock) → K (a.put o.dst (.slice A' (n + m) c')) w') :
    if Region.wanted o (yielded ops a.tmps) = true then Oper.wp Tryd.prog o a w K Q else E := by
  subst hn
  obtain ⟨i, hi, hz, h1, h2⟩ := info_parts info_byte
  obtain ⟨ad, rfl, hc⟩ := hsrc.2 hm
  refine step_append_lies w hgd sx x 22 ho B 5 i _ 1 1 Tryd.underlying22 hi hz h1 h2 rfl (by omega) _ xs.length (xs.map B8) hs hb ad m c2 (ys.map B8) hx (by rw [List.length_map, hsrc.1, Nat.mul_one]) (fun j u hu => ?_) (fun u hu => by obtain ⟨z, _, rfl⟩ := List.mem_map.1 hu; rfl) hm (by unfold maxLen; omega) (by omega) hB _ rfl ?_
  · rw [List.getElem?_map] at hu
    cases hy : ys[j]? with
    | none => rw [hy] at hu; cases hu
    | some y =>
      rw [hy] at hu
      injection hu with hu
      subst hu
      exact hc j y hy
  · intro g cap w' hq1 hq2 _ _
    refine h _ cap w' (show Body _ _ _ _ from ?_) hq2
    unfold Body
    rw [List.length_append, List.map_append, hsrc.1]
    exact hq1

/-- What Text has made of the items. -/
structure TextAt (w : World) (p q : Nat) (A : Option Addr) (n c : Nat) (ys : List UInt8) (W : World) : Prop where
  only : Only (fun _ => False) w W
  text : ∃ V, Blk W p 22 [V] ∧ Body W w.heap.size V ys
  b : Blk W q 22 [.slice A n c]
theorem TextAt.same {w : World} {p q : Nat} {A : Option Addr} {n c : Nat} {ys : List UInt8} {W W' : World} (h : TextAt w p q A n c ys W) (ho : Only (fun _ => False) W W') : TextAt w p q A n c ys W' :=
  ⟨h.only.trans ho (fun _ h => h.elim), by
    obtain ⟨V, h1, h2⟩ := h.text
    exact ⟨V, h1.only ho (fun h => h), own_same h2 ho⟩, h.b.only ho (fun h => h)⟩
/-- More text. -/
theorem TextAt.more {w : World} {p q : Nat} {A : Option Addr} {n c : Nat} {ys zs : List UInt8} {W W1 w2 : World} {VA A' : Option Addr} {vn vc n' c' : Nat} (h : TextAt w p q A n c ys W) (hpq : p ≠ q) (hp : w.heap.size ≤ p) (h1 : Blk W p 22 [.slice VA vn vc]) (h2 : Body W w.heap.size (.slice VA vn vc) ys)
    (ho1 : Only (fun _ => False) W W1) (hg : W1.grownBy w2 (Value.slice VA vn vc).ownBlock) (hb : Body w2 w.heap.size (.slice A' n' c') zs) :
    TextAt w p q A n c zs (w2.setCell ⟨p, 0, none⟩ (.slice A' n' c')) := by
  have hne : ∀ g cs, Blk W1 g 22 cs → (Value.slice VA vn vc).ownBlock ≠ some g := fun g cs hc e => own_ne (own_same h2 ho1) hc (by decide) g e rfl
  have hp1 := h1.only ho1 (fun h => h)
  have hq1 := h.b.only ho1 (fun h => h)
  have hp2 := hp1.grown hg (hne _ _ hp1)
  have hq2 := hq1.grown hg (hne _ _ hq1)
  have hO2 : Only (fun _ => False) w w2 := (h.only.trans ho1 (fun _ h => h.elim)).grown hg (fun k hk => .inr (own_lt h2 k hk).1)
  refine ⟨hO2.setCell (.inr hp) _, ⟨_, hp2.setCell 0 _, ?_⟩, hq2.far hpq.symm _⟩
  exact own_only hb ((Only.refl (· = p) w2).setCell (p := ⟨p, 0, none⟩) (.inl rfl) _) (fun k hk e => own_ne hb hp2 (by decide) k hk e)

section
variable {w W : World} {p q : Nat} {A : Option Addr} {n c : Nat} {xs ys : List UInt8}
theorem text_byte (hs : Src w A n xs) (h : TextAt w p q A n c ys W) (hpq : p ≠ q) (hp : w.heap.size ≤ p) (k : Nat) (t : Int) (d : UInt8) (hd : xs[k]? = some d) (hl : ys.length ≤ 1048000) :
    Calls Tryd.prog 22 #[.int .i64 1, .int .i64 (k : Int), .int .i64 t, .pointer (some ⟨p, 0, none⟩), .pointer (some ⟨q, 0, none⟩)] W fun e w' => e = .returned (.tuple #[]) ∧ TextAt w p q A n c (ys ++ [d]) w' := by
  obtain ⟨V, hV, hB⟩ := h.text
  obtain ⟨VA, vc, rfl, _⟩ := hB.form
  obtain ⟨vn, hvn⟩ : ∃ vn, vn = ys.length := ⟨_, rfl⟩
  rw [← hvn] at hV hB hl
  have hkn : k < n := by have := (List.getElem?_eq_some_iff.1 hd).1; rw [hs.1] at this; exact this
  have hsW := hs.only h.only (fun _ _ _ h => h)
  obtain ⟨ad, rfl, hcell⟩ := hsW.2 (by omega)
  have cd := hcell k d hd
  unfold B8 at cd
  obtain ⟨z, hz⟩ : ∃ z : Int, z = (d.toNat : Int) := ⟨_, rfl⟩
  rw [← hz] at cd
  have HZ : Hid (#[Value.int .u8 z] = ([d].map B8).toArray) := by rw [hz]; rfl
  have c0 : W.cell? ⟨p, 0, none⟩ = some (.slice VA vn vc) := hV.cell 0
  have c1 : W.cell? ⟨q, 0, none⟩ = some (.slice (some ad) n c) := h.b.cell 0
  have HV := Lib.hid hV
  have HB := Lib.hid hB
  have HN := Lib.hid hvn
  have HH := Lib.hid h
  have hk1 : (k : Int) < (n : Int) := by omega
  have hOr : Only (fun _ => False) W (W.alloc (.cells #[.int .u8 z] 5)).drew := ((Only.refl _ W).alloc _).drew
  have HOr := Lib.hid hOr
  have HBr : Hid (Body (W.alloc (.cells #[.int .u8 z] 5)).drew w.heap.size (.slice VA vn vc) ys) := own_same HB.out hOr
  have HSr : Hid (Src (W.alloc (.cells #[.int .u8 z] 5)).drew (some ⟨W.heap.size, 0, none⟩) 1 [d]) := src_new W [d] _ _ _ 1 HZ.out rfl
  have HZr : Hid (w.heap.size ≤ (W.alloc (.cells #[.int .u8 z] 5)).drew.heap.size) := Nat.le_trans HH.out.only.size hOr.size
  have hPr : Blk (W.alloc (.cells #[.int .u8 z] 5)).drew p 22 [.slice VA vn vc] := HV.out.only hOr (fun h => h)
  have HPr := Lib.hid hPr
  have HNe : Hid ((Value.slice VA vn vc).ownBlock ≠ some p) := fun e => own_ne HB.out HV.out (by decide) p e rfl
  have kal : (W.alloc (.cells #[.int .u8 z] 5)).cell? ⟨p, 0, none⟩ = some (.slice VA vn vc) := hPr.cell 0
  clear hOr hPr
  clear h hV hB hvn hs hsW hcell hd hz
  go_enter Tryd.func22, Tryd.ntmps22
  go_wp2_with fail
  go_region_law (first | (refine step_bytesR rfl (.tmp 11) (.tmp 16) rfl w.heap.size _ _ _ ys rfl HBr.out HN.out (some ⟨W.heap.size, 0, none⟩) 1 1 [d] rfl (by omega) HSr.out (by omega) HZr.out ?_; intro A1 c1' w2 hb2 hg2; have hP2 : Blk w2 p 22 [.slice VA vn vc] := HPr.out.grown hg2.out HNe.out; have hc2 : w2.cell? ⟨p, 0, none⟩ = some (.slice VA vn vc) := hP2.cell 0; have hf2 := hP2.frozen 0; clear hP2))
  all_goals
    go_wp2
    refine bodyPost_end (results_none rfl _ _ _) rfl ?_
    exact ⟨rfl, HH.out.more hpq hp HV.out HB.out HOr.out hg2.out hb2.out⟩

theorem text_pair10 (hs : Src w A n xs) (h : TextAt w p q A n c ys W) (hpq : p ≠ q) (hp : w.heap.size ≤ p) (k f : Nat) (d : UInt8) (hd : xs[k]? = some d) (h10 : d.toNat = 10) (hl : ys.length ≤ 1048000) (hn : n ≤ 1048576) :
    Calls Tryd.prog 22 #[.int .i64 2, .int .i64 (f : Int), .int .i64 ((k + 1 : Nat) : Int), .pointer (some ⟨p, 0, none⟩), .pointer (some ⟨q, 0, none⟩)] W fun e w' => e = .returned (.tuple #[]) ∧ TextAt w p q A n c (ys ++ [13, 10]) w' := by
  obtain ⟨V, hV, hB⟩ := h.text
  obtain ⟨VA, vc, rfl, _⟩ := hB.form
  obtain ⟨vn, hvn⟩ : ∃ vn, vn = ys.length := ⟨_, rfl⟩
  rw [← hvn] at hV hB hl
  have hkn : k < n := by have := (List.getElem?_eq_some_iff.1 hd).1; rw [hs.1] at this; exact this
  have hsW := hs.only h.only (fun _ _ _ h => h)
  obtain ⟨ad, rfl, hcell⟩ := hsW.2 (by omega)
  have cd := hcell k d hd
  unfold B8 at cd
  obtain ⟨z, hz⟩ : ∃ z : Int, z = (d.toNat : Int) := ⟨_, rfl⟩
  rw [← hz] at cd
  have d1 : (z == 10) = true := by rw [hz]; simp; omega
  have d2 : decide (z = 10) = true := by rw [hz]; simp; omega
  have c0 : W.cell? ⟨p, 0, none⟩ = some (.slice VA vn vc) := hV.cell 0
  have c1 : W.cell? ⟨q, 0, none⟩ = some (.slice (some ad) n c) := h.b.cell 0
  have HV := Lib.hid hV
  have HB := Lib.hid hB
  have HN := Lib.hid hvn
  have HH := Lib.hid h
  have hk1 : (k : Int) < (n : Int) := by omega
  have hlt := World.block_lt_of_cell? W _ cd
  rw [block_add] at hlt
  have hOr : Only (fun _ => False) W (W.alloc (.cells #[.int .u8 13, .int .u8 10] 5)) := (Only.refl _ W).alloc _
  have HOr := Lib.hid hOr
  have HBr : Hid (Body (W.alloc (.cells #[.int .u8 13, .int .u8 10] 5)) w.heap.size (.slice VA vn vc) ys) := own_same HB.out hOr
  have HSr : Hid (Src (W.alloc (.cells #[.int .u8 13, .int .u8 10] 5)) (some ⟨W.heap.size, 0, none⟩) 2 [13, 10]) := src_new W [13, 10] _ _ _ 2 rfl rfl
  have HZr : Hid (w.heap.size ≤ (W.alloc (.cells #[.int .u8 13, .int .u8 10] 5)).heap.size) := Nat.le_trans HH.out.only.size hOr.size
  have hPr : Blk (W.alloc (.cells #[.int .u8 13, .int .u8 10] 5)) p 22 [.slice VA vn vc] := HV.out.only hOr (fun h => h)
  have HPr := Lib.hid hPr
  have HNe : Hid ((Value.slice VA vn vc).ownBlock ≠ some p) := fun e => own_ne HB.out HV.out (by decide) p e rfl
  clear h hV hB hvn hs hsW hcell hd hz h10 hOr hPr
  go_enter Tryd.func22, Tryd.ntmps22
  go_wp2_with (first
    | (at_builtin; refine step_bytesG rfl (.tmp 29) (.tmp 30) rfl w.heap.size _ _ _ ys rfl HBr.out HN.out (some ⟨W.heap.size, 0, none⟩) 2 2 [13, 10] rfl HSr.out (by omega) HZr.out ?_; intro A1 c1' w2 hb2 hg2; have hP2 : Blk w2 p 22 [.slice VA vn vc] := HPr.out.grown hg2.out HNe.out; have hc2 : w2.cell? ⟨p, 0, none⟩ = some (.slice VA vn vc) := hP2.cell 0; have hf2 := hP2.frozen 0; clear hP2))
  refine bodyPost_end (results_none rfl _ _ _) rfl ?_
  exact ⟨rfl, HH.out.more hpq hp HV.out HB.out HOr.out hg2.out hb2.out⟩

theorem text_pair0 (hs : Src w A n xs) (h : TextAt w p q A n c ys W) (hpq : p ≠ q) (hp : w.heap.size ≤ p) (k f : Nat) (d : UInt8) (hd : xs[k]? = some d) (h10 : d.toNat ≠ 10) (hl : ys.length ≤ 1048000) (hn : n ≤ 1048576) :
    Calls Tryd.prog 22 #[.int .i64 2, .int .i64 (f : Int), .int .i64 ((k + 1 : Nat) : Int), .pointer (some ⟨p, 0, none⟩), .pointer (some ⟨q, 0, none⟩)] W fun e w' => e = .returned (.tuple #[]) ∧ TextAt w p q A n c (ys ++ [13]) w' := by
  obtain ⟨V, hV, hB⟩ := h.text
  obtain ⟨VA, vc, rfl, _⟩ := hB.form
  obtain ⟨vn, hvn⟩ : ∃ vn, vn = ys.length := ⟨_, rfl⟩
  rw [← hvn] at hV hB hl
  have hkn : k < n := by have := (List.getElem?_eq_some_iff.1 hd).1; rw [hs.1] at this; exact this
  have hsW := hs.only h.only (fun _ _ _ h => h)
  obtain ⟨ad, rfl, hcell⟩ := hsW.2 (by omega)
  have cd := hcell k d hd
  unfold B8 at cd
  obtain ⟨z, hz⟩ : ∃ z : Int, z = (d.toNat : Int) := ⟨_, rfl⟩
  rw [← hz] at cd
  have d1 : (z == 10) = false := by rw [hz]; simp; omega
  have d2 : decide (z = 10) = false := by rw [hz]; simp; omega
  have c0 : W.cell? ⟨p, 0, none⟩ = some (.slice VA vn vc) := hV.cell 0
  have c1 : W.cell? ⟨q, 0, none⟩ = some (.slice (some ad) n c) := h.b.cell 0
  have HV := Lib.hid hV
  have HB := Lib.hid hB
  have HN := Lib.hid hvn
  have HH := Lib.hid h
  have hk1 : (k : Int) < (n : Int) := by omega
  have hlt := World.block_lt_of_cell? W _ cd
  rw [block_add] at hlt
  have hOr : Only (fun _ => False) W (W.alloc (.cells #[.int .u8 13] 5)) := (Only.refl _ W).alloc _
  have HOr := Lib.hid hOr
  have HBr : Hid (Body (W.alloc (.cells #[.int .u8 13] 5)) w.heap.size (.slice VA vn vc) ys) := own_same HB.out hOr
  have HSr : Hid (Src (W.alloc (.cells #[.int .u8 13] 5)) (some ⟨W.heap.size, 0, none⟩) 1 [13]) := src_new W [13] _ _ _ 1 rfl rfl
  have HZr : Hid (w.heap.size ≤ (W.alloc (.cells #[.int .u8 13] 5)).heap.size) := Nat.le_trans HH.out.only.size hOr.size
  have hPr : Blk (W.alloc (.cells #[.int .u8 13] 5)) p 22 [.slice VA vn vc] := HV.out.only hOr (fun h => h)
  have HPr := Lib.hid hPr
  have HNe : Hid ((Value.slice VA vn vc).ownBlock ≠ some p) := fun e => own_ne HB.out HV.out (by decide) p e rfl
  clear h hV hB hvn hs hsW hcell hd hz h10 hOr hPr
  go_enter Tryd.func22, Tryd.ntmps22
  go_wp2_with (first
    | (at_builtin; refine step_bytesG rfl (.tmp 35) (.tmp 36) rfl w.heap.size _ _ _ ys rfl HBr.out HN.out (some ⟨W.heap.size, 0, none⟩) 1 1 [13] rfl HSr.out (by omega) HZr.out ?_; intro A1 c1' w2 hb2 hg2; have hP2 : Blk w2 p 22 [.slice VA vn vc] := HPr.out.grown hg2.out HNe.out; have hc2 : w2.cell? ⟨p, 0, none⟩ = some (.slice VA vn vc) := hP2.cell 0; have hf2 := hP2.frozen 0; clear hP2))
  refine bodyPost_end (results_none rfl _ _ _) rfl ?_
  exact ⟨rfl, HH.out.more hpq hp HV.out HB.out HOr.out hg2.out hb2.out⟩

theorem text_else (h : TextAt w p q A n c ys W) (k f t : Int) (hk : k ≠ 1 ∧ k ≠ 2) :
    Calls Tryd.prog 22 #[.int .i64 k, .int .i64 f, .int .i64 t, .pointer (some ⟨p, 0, none⟩), .pointer (some ⟨q, 0, none⟩)] W fun e w' => e = .returned (.tuple #[]) ∧ TextAt w p q A n c ys w' := by
  have d1 : (k == 1) = false := beq_eq_false_iff_ne.2 hk.1
  have d2 : decide (k = 1) = false := decide_eq_false hk.1
  have d3 : (k == 2) = false := beq_eq_false_iff_ne.2 hk.2
  have d4 : decide (k = 2) = false := decide_eq_false hk.2
  have HH := Lib.hid h
  clear h hk
  go_enter Tryd.func22, Tryd.ntmps22
  go_wp2
  refine bodyPost_end (results_none rfl _ _ _) rfl ?_
  exact ⟨rfl, HH.out⟩
end

theorem eg_text : ∀ (args : Array Value) (w : World), (callFunc 22 args).run Tryd.prog w = .ok (.enter 22 args) w := enters_of Tryd.func22 (by kernel_rfl) rfl
theorem text_tells {w : World} {A : Option Addr} {n c : Nat} {xs : List UInt8} (hs : Src w A n xs) (hn : n ≤ 100000) (raw : Bool) (p q : Nat) (hp : w.heap.size ≤ p) (hpq : p ≠ q) :
    Tells w raw xs 22 #[.pointer (some ⟨p, 0, none⟩), .pointer (some ⟨q, 0, none⟩)] (fun ts W => TextAt w p q A n c (says ts) W) where
  only := fun _ _ h => h.only
  stay := fun _ _ _ h ho => h.same ho
  tell := fun ts W x k m h hf hkm hc => by
    show Calls _ _ #[.int .i64 x.kind, .int .i64 (k : Int), .int .i64 ((k + m : Nat) : Int), .pointer (some ⟨p, 0, none⟩), .pointer (some ⟨q, 0, none⟩)] _ _
    have hl := hs.1
    have hsl := says_length ts
    have e : ∀ y, says (ts ++ [⟨y, k, k + m⟩]) = says ts ++ itSays y := fun y => by simp [says_append, says]
    simp only [e]
    have at_ : ∀ (i : Nat) (d : UInt8), (xs.drop k)[i]? = some d → xs[k + i]? = some d := fun i d h => by rwa [List.getElem?_drop] at h
    have hu : ∀ d : UInt8, UInt8.ofNat ((d.toNat : Int)).toNat = d := fun d => by simp
    cases cut_form hc with
    | one d n h0 hn =>
      have e1 : itSays ⟨1, (d.toNat : Int), 0, []⟩ = [d] := by simp [itSays]
      rw [e1]
      exact text_byte hs h hpq hp k _ d (at_ 0 d h0) (by omega)
    | pair d h1 hd =>
      rcases hd with hd | hd
      · have e1 : itSays ⟨2, (d.toNat : Int), 0, []⟩ = [13] := by simp [itSays, hd]
        rw [e1]
        exact text_pair0 hs h hpq hp (k + 1) k d (at_ 1 d h1) (by omega) (by omega) (by omega)
      · have e1 : itSays ⟨2, (d.toNat : Int), 0, []⟩ = [13, 10] := by simp [itSays, hd]
        rw [e1]
        exact text_pair10 hs h hpq hp (k + 1) k d (at_ 1 d h1) hd (by omega) (by omega)
    | plain d h1 =>
      have e1 : itSays ⟨3, (d.toNat : Int), 0, []⟩ = [] := by simp [itSays]
      rw [e1, List.append_nil]
      exact text_else h _ _ _ (show (3 : Int) ≠ 1 ∧ (3 : Int) ≠ 2 by decide)
    | verb d o h1 h2 =>
      have e1 : itSays ⟨4, (d.toNat : Int), (o.toNat : Int), []⟩ = [] := by simp [itSays]
      rw [e1, List.append_nil]
      exact text_else h _ _ _ (show (4 : Int) ≠ 1 ∧ (4 : Int) ≠ 2 by decide)
    | sub o j h2 hk =>
      have e1 : ∀ b, itSays ⟨5, 0, (o.toNat : Int), b⟩ = [] := fun b => by simp [itSays]
      rw [e1, List.append_nil]
      exact text_else h _ _ _ (show (5 : Int) ≠ 1 ∧ (5 : Int) ≠ 2 by decide)

/-- What the bytes say, if they are of the grammar. -/
def textOf (raw : Bool) (xs : List UInt8) : List UInt8 := match parseFrom raw 0 xs with
  | some (l, _) => says l
  | .none => []
/-- Are they? -/
def gramOk (raw : Bool) (xs : List UInt8) : Bool := (parseFrom raw 0 xs).isSome
/-- The error of bytes that aren't. -/
def ErrOf (es : List Addr) (raw : Bool) (xs : List UInt8) (E : Value) : Prop := if gramOk raw xs = true then E = .nilIface else ∃ a, es[4]? = some a ∧ E = errV a

theorem text_any {w : World} {es : List Addr} (hes : ErrsIs w [2, 4] es) {A : Option Addr} {n c : Nat} {xs : List UInt8} (hs : Src w A n xs) (raw : Bool) (hn : n ≤ 100000) (hc : n ≤ c) :
    Calls Tryd.prog 10 #[.slice A n c, .bool raw] w fun e w' => ∃ A' c' E, e = .returned (.tuple #[.slice A' (textOf raw xs).length c', E]) ∧ ErrOf es raw xs E ∧ Hid (Body w' w.heap.size (.slice A' (textOf raw xs).length c') (textOf raw xs)) ∧ Hid (Only (fun _ => False) w w') := by
  have HC := Lib.hid (walk_any hes hs raw (by omega) hc _ _ eg_text (text_tells (c := c) hs hn raw (w.heap.size + 1) w.heap.size (by omega) (by omega)) (w1 := (w.alloc (.cells #[.slice A n c] 22)).alloc (.cells #[.slice none 0 0] 22))
    ⟨((Only.refl _ w).alloc _).alloc _, ⟨_, by simpa using Blk.new' (n := w.heap.size + 1) (w.alloc (.cells #[.slice A n c] 22)) 22 [.slice none 0 0] (by simp), nil_body _ _⟩, (Blk.new' w 22 [.slice A n c] rfl).alloc _⟩)
  clear hes hs
  unfold WalkSays at HC
  unfold textOf ErrOf gramOk
  cases hp : parseFrom raw 0 xs with
  | none =>
    rw [hp] at HC
    have HD : Hid (Calls Tryd.prog 19 #[.slice A n c, .bool raw, .func (.func 22) #[] #[.pointer (some ⟨w.heap.size + 1, 0, none⟩), .pointer (some ⟨w.heap.size, 0, none⟩)]] ((w.alloc (.cells #[.slice A n c] 22)).alloc (.cells #[.slice none 0 0] 22)) fun e w' => ∃ a, e = .returned (.tuple #[.int .i64 0, .iface 88 (.pointer (some a))]) ∧ Hid (es[4]? = some a) ∧ Hid (Only (fun _ => False) w w')) := HC.out.mono fun e w' ⟨a, _, h0, h1, h2⟩ => ⟨a, h1, h0, h2.1⟩
    clear HC hp
    go_enter Tryd.func10, Tryd.ntmps10
    go_wp2_with (go_at_call 19; refine HD.out.mono ?_; rintro e w1 ⟨a, rfl, ha, ho1⟩)
    go_ret2
    exact ⟨none, 0, _, rfl, ⟨a, ha.out, rfl⟩, nil_body _ _, ho1.out⟩
  | some r =>
    obtain ⟨l, r⟩ := r
    rw [hp] at HC
    obtain ⟨m, hm⟩ : ∃ m, m = (says l).length := ⟨_, rfl⟩
    have HD : Hid (Calls Tryd.prog 19 #[.slice A n c, .bool raw, .func (.func 22) #[] #[.pointer (some ⟨w.heap.size + 1, 0, none⟩), .pointer (some ⟨w.heap.size, 0, none⟩)]] ((w.alloc (.cells #[.slice A n c] 22)).alloc (.cells #[.slice none 0 0] 22)) fun e w' => ∃ (L : Int) (A' : Option Addr) (c' : Nat), e = .returned (.tuple #[.int .i64 L, .nilIface]) ∧ w'.cell? ⟨w.heap.size + 1, 0, none⟩ = some (.slice A' m c') ∧ Hid (Body w' w.heap.size (.slice A' m c') (says l)) ∧ Hid (Only (fun _ => False) w w')) := HC.out.mono fun e w' ⟨h1, h2⟩ => by
      obtain ⟨V, h3, h4⟩ := h2.text
      obtain ⟨A', c', rfl, _⟩ := h4.form
      rw [← hm] at h3 h4
      exact ⟨_, A', c', h1, h3.cell 0, h4, h2.only⟩
    simp only
    rw [← hm]
    clear HC hp hm
    go_enter Tryd.func10, Tryd.ntmps10
    go_wp2_with (go_at_call 19; refine HD.out.mono ?_; rintro e w1 ⟨L, A1, c1, rfl, hc1, hb1, ho1⟩)
    go_ret2
    exact ⟨A1, c1, _, rfl, by simp, hb1, ho1⟩
end Go.Proofs.YtbjabjkmagekfaaDoor
