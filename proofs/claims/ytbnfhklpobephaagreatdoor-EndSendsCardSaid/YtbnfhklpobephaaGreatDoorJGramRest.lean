/- Several texts in one. -/
import Derived.Test.YtbnfhklpobephaaGreatDoorJGramFirstB
import Derived.Test.YtbnfhklpobephaaGreatDoorJSnIn
import Derived.Test.YtbnfhklpobephaaGreatDoorJEnWi
import Derived.Test.YtbnfhklpobephaaGreatDoorJEnWire
/- Package gram: Rest, Border. -/
namespace Go.Proofs.YtbnfhklpobephaaGreatDoor
open Go Go.RowKit
set_option maxRecDepth 100000
set_option maxHeartbeats 4000000

/-- How many bytes are left. -/
def restOf (raw : Bool) (xs : List UInt8) : Nat := match parseFrom raw 0 xs with
  | some (_, r) => r
  | .none => 0
theorem eg_rest : ∀ (args : Array Value) (w : World), (callFunc 75 args).run Tryz.prog w = .ok (.enter 75 args) w := enters_of Tryz.func75 (by kernel_rfl) rfl
theorem rest_tells (w : World) (raw : Bool) (xs : List UInt8) : Tells w raw xs 75 #[] (fun _ W => Only (fun _ => False) w W) where
  only := fun _ _ h => h
  stay := fun _ _ _ h ho => h.trans ho (fun _ h => h.elim)
  tell := fun ts W x k m h _ _ _ => by
    show Calls _ _ #[.int .i64 x.kind, .int .i64 (k : Int), .int .i64 ((k + m : Nat) : Int)] _ _
    go_enter Tryz.func75, Tryz.ntmps75
    go_wp2
    refine bodyPost_end (results_none rfl _ _ _) rfl ?_
    exact ⟨rfl, h⟩

theorem rest_any {w : World} {es : List Addr} (hes : ErrsIs w [2, 4] es) {A : Option Addr} {n c : Nat} {xs : List UInt8} (hs : Src w A n xs) (raw : Bool) (hn : n ≤ 1048576) (hc : n ≤ c) :
    Calls Tryz.prog 29 #[.slice A n c, .bool raw] w fun e w' => e = .returned (.int .i64 (restOf raw xs : Int)) ∧ Only (fun _ => False) w w' := by
  have HC := Lib.hid (walk_any hes hs raw hn hc _ #[] eg_rest (rest_tells w raw xs) (w1 := w) (Only.refl _ _))
  have hl := hs.1
  clear hes hs
  unfold WalkSays at HC
  unfold restOf
  cases hp : parseFrom raw 0 xs with
  | none =>
    rw [hp] at HC
    have HD : Hid (Calls Tryz.prog 74 #[.slice A n c, .bool raw, .func (.func 75) #[] #[]] w fun e w' => ∃ a, e = .returned (.tuple #[.int .i64 0, .iface 409 (.pointer (some a))]) ∧ Hid (Only (fun _ => False) w w')) := HC.out.mono fun e w' ⟨a, _, _, h1, h2⟩ => ⟨a, h1, h2⟩
    clear HC hp
    go_enter Tryz.func29, Tryz.ntmps29
    go_wp2_with (go_at_call 74; refine HD.out.mono ?_; rintro e w1 ⟨a, rfl, ho1⟩)
    go_ret
    exact ⟨rfl, ho1.out⟩
  | some q =>
    obtain ⟨l, r⟩ := q
    rw [hp] at HC
    have hr := (parse_rest hp).1
    obtain ⟨L, hL⟩ : ∃ L, L = xs.length - r := ⟨_, rfl⟩
    have HD : Hid (Calls Tryz.prog 74 #[.slice A n c, .bool raw, .func (.func 75) #[] #[]] w fun e w' => e = .returned (.tuple #[.int .i64 (L : Int), .nilIface]) ∧ Hid (Only (fun _ => False) w w')) := HC.out.mono fun e w' ⟨h1, h2⟩ => ⟨by rw [hL]; exact h1, h2⟩
    have e1 : wrap64 ((n : Int) - (L : Int)) = (r : Int) := by
      rw [show (n : Int) - (L : Int) = ((r : Nat) : Int) by omega]
      exact wrap64_nat r (by omega)
    have hLn : L ≤ n := by omega
    clear HC hp
    go_enter Tryz.func29, Tryz.ntmps29
    go_wp2_with (go_at_call 74; refine HD.out.mono ?_; rintro e w1 ⟨rfl, ho1⟩)
    go_ret
    exact ⟨congrArg (fun z => Ending.returned (Value.int .i64 z)) (by omega), ho1.out⟩

/-! Border -/
end Go.Proofs.YtbnfhklpobephaaGreatDoor
/- Package gram: Text. -/
namespace Go.Proofs.YtbnfhklpobephaaGreatDoor
open Go Go.RowKit
set_option maxRecDepth 100000
set_option maxHeartbeats 4000000

/-- What Text has made of the items. -/
structure TextAt (w : World) (p q : Nat) (A : Option Addr) (n c : Nat) (ys : List UInt8) (W : World) : Prop where
  only : Only (fun _ => False) w W
  text : ∃ V, Blk W p 45 [V] ∧ Body W w.heap.size V ys
  b : Blk W q 45 [.slice A n c]
theorem TextAt.same {w : World} {p q : Nat} {A : Option Addr} {n c : Nat} {ys : List UInt8} {W W' : World} (h : TextAt w p q A n c ys W) (ho : Only (fun _ => False) W W') : TextAt w p q A n c ys W' :=
  ⟨h.only.trans ho (fun _ h => h.elim), by
    obtain ⟨V, h1, h2⟩ := h.text
    exact ⟨V, h1.only ho (fun h => h), own_same h2 ho⟩, h.b.only ho (fun h => h)⟩
/-- More text. -/
theorem TextAt.more {w : World} {p q : Nat} {A : Option Addr} {n c : Nat} {ys zs : List UInt8} {W W1 w2 : World} {VA A' : Option Addr} {vn vc n' c' : Nat} (h : TextAt w p q A n c ys W) (hpq : p ≠ q) (hp : w.heap.size ≤ p) (h1 : Blk W p 45 [.slice VA vn vc]) (h2 : Body W w.heap.size (.slice VA vn vc) ys)
    (ho1 : Only (fun _ => False) W W1) (hg : W1.grownBy w2 (Value.slice VA vn vc).ownBlock) (hb : Body w2 w.heap.size (.slice A' n' c') zs) :
    TextAt w p q A n c zs (w2.setCell ⟨p, 0, none⟩ (.slice A' n' c')) := by
  have hne : ∀ g cs, Blk W1 g 45 cs → (Value.slice VA vn vc).ownBlock ≠ some g := fun g cs hc e => own_ne (own_same h2 ho1) hc (by decide) g e rfl
  have hp1 := h1.only ho1 (fun h => h)
  have hq1 := h.b.only ho1 (fun h => h)
  have hp2 := hp1.grown hg (hne _ _ hp1)
  have hq2 := hq1.grown hg (hne _ _ hq1)
  have hO2 : Only (fun _ => False) w w2 := (h.only.trans ho1 (fun _ h => h.elim)).grown hg (fun k hk => .inr (own_lt h2 k hk).1)
  refine ⟨hO2.setCell (.inr hp) _, ⟨_, hp2.setCell 0 _, ?_⟩, hq2.far hpq.symm _⟩
  exact own_only hb ((Only.refl (· = p) w2).setCell (p := ⟨p, 0, none⟩) (.inl rfl) _) (fun k hk e => own_ne hb hp2 (by decide) k hk e)

section
variable {w W : World} {p q : Nat} {A : Option Addr} {n c : Nat} {xs ys : List UInt8}
theorem text_byte (hs : Src w A n xs) (h : TextAt w p q A n c ys W) (hpq : p ≠ q) (hp : w.heap.size ≤ p) (k : Nat) (t : Int) (d : UInt8) (hd : xs[k]? = some d) (hl : ys.length ≤ 1048000) :
    Calls Tryz.prog 76 #[.int .i64 1, .int .i64 (k : Int), .int .i64 t, .pointer (some ⟨p, 0, none⟩), .pointer (some ⟨q, 0, none⟩)] W fun e w' => e = .returned (.tuple #[]) ∧ TextAt w p q A n c (ys ++ [d]) w' := by
  obtain ⟨V, hV, hB⟩ := h.text
  obtain ⟨VA, vc, rfl, _⟩ := hB.form
  obtain ⟨vn, hvn⟩ : ∃ vn, vn = ys.length := ⟨_, rfl⟩
  rw [← hvn] at hV hB hl
  have hkn : k < n := by have := (List.getElem?_eq_some_iff.1 hd).1; rw [hs.1] at this; exact this
  have hsW := hs.only h.only (fun _ _ _ h => h)
  obtain ⟨ad, rfl, hcell⟩ := hsW.2 (by omega)
  have cd := hcell k d hd
  unfold B8 at cd
  obtain ⟨z, hz⟩ : ∃ z : Int, z = (d.toNat : Int) := ⟨_, rfl⟩
  rw [← hz] at cd
  have HZ : Hid (#[Value.int .u8 z] = ([d].map B8).toArray) := by rw [hz]; rfl
  have c0 : W.cell? ⟨p, 0, none⟩ = some (.slice VA vn vc) := hV.cell 0
  have c1 : W.cell? ⟨q, 0, none⟩ = some (.slice (some ad) n c) := h.b.cell 0
  have HV := Lib.hid hV
  have HB := Lib.hid hB
  have HN := Lib.hid hvn
  have HH := Lib.hid h
  have hk1 : (k : Int) < (n : Int) := by omega
  have hOr : Only (fun _ => False) W (W.alloc (.cells #[.int .u8 z] 5)).drew := ((Only.refl _ W).alloc _).drew
  have HOr := Lib.hid hOr
  have HBr : Hid (Body (W.alloc (.cells #[.int .u8 z] 5)).drew w.heap.size (.slice VA vn vc) ys) := own_same HB.out hOr
  have HSr : Hid (Src (W.alloc (.cells #[.int .u8 z] 5)).drew (some ⟨W.heap.size, 0, none⟩) 1 [d]) := src_new W [d] _ _ _ 1 HZ.out rfl
  have HZr : Hid (w.heap.size ≤ (W.alloc (.cells #[.int .u8 z] 5)).drew.heap.size) := Nat.le_trans HH.out.only.size hOr.size
  have hPr : Blk (W.alloc (.cells #[.int .u8 z] 5)).drew p 45 [.slice VA vn vc] := HV.out.only hOr (fun h => h)
  have HPr := Lib.hid hPr
  have HNe : Hid ((Value.slice VA vn vc).ownBlock ≠ some p) := fun e => own_ne HB.out HV.out (by decide) p e rfl
  have kal : (W.alloc (.cells #[.int .u8 z] 5)).cell? ⟨p, 0, none⟩ = some (.slice VA vn vc) := hPr.cell 0
  clear hOr hPr
  clear h hV hB hvn hs hsW hcell hd hz
  go_enter Tryz.func76, Tryz.ntmps76
  go_wp2_with fail
  go_region_law (first | (refine step_bytesR rfl (.tmp 11) (.tmp 16) rfl w.heap.size _ _ _ ys rfl HBr.out HN.out (some ⟨W.heap.size, 0, none⟩) 1 1 [d] rfl (by omega) HSr.out (by omega) HZr.out ?_; intro A1 c1' w2 hb2 hg2; have hP2 : Blk w2 p 45 [.slice VA vn vc] := HPr.out.grown hg2.out HNe.out; have hc2 : w2.cell? ⟨p, 0, none⟩ = some (.slice VA vn vc) := hP2.cell 0; have hf2 := hP2.frozen 0; clear hP2))
  all_goals
    go_wp2
    refine bodyPost_end (results_none rfl _ _ _) rfl ?_
    exact ⟨rfl, HH.out.more hpq hp HV.out HB.out HOr.out hg2.out hb2.out⟩

theorem text_pair10 (hs : Src w A n xs) (h : TextAt w p q A n c ys W) (hpq : p ≠ q) (hp : w.heap.size ≤ p) (k f : Nat) (d : UInt8) (hd : xs[k]? = some d) (h10 : d.toNat = 10) (hl : ys.length ≤ 1048000) (hn : n ≤ 1048576) :
    Calls Tryz.prog 76 #[.int .i64 2, .int .i64 (f : Int), .int .i64 ((k + 1 : Nat) : Int), .pointer (some ⟨p, 0, none⟩), .pointer (some ⟨q, 0, none⟩)] W fun e w' => e = .returned (.tuple #[]) ∧ TextAt w p q A n c (ys ++ [13, 10]) w' := by
  obtain ⟨V, hV, hB⟩ := h.text
  obtain ⟨VA, vc, rfl, _⟩ := hB.form
  obtain ⟨vn, hvn⟩ : ∃ vn, vn = ys.length := ⟨_, rfl⟩
  rw [← hvn] at hV hB hl
  have hkn : k < n := by have := (List.getElem?_eq_some_iff.1 hd).1; rw [hs.1] at this; exact this
  have hsW := hs.only h.only (fun _ _ _ h => h)
  obtain ⟨ad, rfl, hcell⟩ := hsW.2 (by omega)
  have cd := hcell k d hd
  unfold B8 at cd
  obtain ⟨z, hz⟩ : ∃ z : Int, z = (d.toNat : Int) := ⟨_, rfl⟩
  rw [← hz] at cd
  have d1 : (z == 10) = true := by rw [hz]; simp; omega
  have d2 : decide (z = 10) = true := by rw [hz]; simp; omega
  have c0 : W.cell? ⟨p, 0, none⟩ = some (.slice VA vn vc) := hV.cell 0
  have c1 : W.cell? ⟨q, 0, none⟩ = some (.slice (some ad) n c) := h.b.cell 0
  have HV := Lib.hid hV
  have HB := Lib.hid hB
  have HN := Lib.hid hvn
  have HH := Lib.hid h
  have hk1 : (k : Int) < (n : Int) := by omega
  have hlt := World.block_lt_of_cell? W _ cd
  rw [block_add] at hlt
  have hOr : Only (fun _ => False) W (W.alloc (.cells #[.int .u8 13, .int .u8 10] 5)) := (Only.refl _ W).alloc _
  have HOr := Lib.hid hOr
  have HBr : Hid (Body (W.alloc (.cells #[.int .u8 13, .int .u8 10] 5)) w.heap.size (.slice VA vn vc) ys) := own_same HB.out hOr
  have HSr : Hid (Src (W.alloc (.cells #[.int .u8 13, .int .u8 10] 5)) (some ⟨W.heap.size, 0, none⟩) 2 [13, 10]) := src_new W [13, 10] _ _ _ 2 rfl rfl
  have HZr : Hid (w.heap.size ≤ (W.alloc (.cells #[.int .u8 13, .int .u8 10] 5)).heap.size) := Nat.le_trans HH.out.only.size hOr.size
  have hPr : Blk (W.alloc (.cells #[.int .u8 13, .int .u8 10] 5)) p 45 [.slice VA vn vc] := HV.out.only hOr (fun h => h)
  have HPr := Lib.hid hPr
  have HNe : Hid ((Value.slice VA vn vc).ownBlock ≠ some p) := fun e => own_ne HB.out HV.out (by decide) p e rfl
  clear h hV hB hvn hs hsW hcell hd hz h10 hOr hPr
  go_enter Tryz.func76, Tryz.ntmps76
  go_wp2_with (first
    | (at_builtin; refine step_bytesG rfl (.tmp 29) (.tmp 30) rfl w.heap.size _ _ _ ys rfl HBr.out HN.out (some ⟨W.heap.size, 0, none⟩) 2 2 [13, 10] rfl HSr.out (by omega) HZr.out ?_; intro A1 c1' w2 hb2 hg2; have hP2 : Blk w2 p 45 [.slice VA vn vc] := HPr.out.grown hg2.out HNe.out; have hc2 : w2.cell? ⟨p, 0, none⟩ = some (.slice VA vn vc) := hP2.cell 0; have hf2 := hP2.frozen 0; clear hP2))
  refine bodyPost_end (results_none rfl _ _ _) rfl ?_
  exact ⟨rfl, HH.out.more hpq hp HV.out HB.out HOr.out hg2.out hb2.out⟩

theorem text_pair0 (hs : Src w A n xs) (h : TextAt w p q A n c ys W) (hpq : p ≠ q) (hp : w.heap.size ≤ p) (k f : Nat) (d : UInt8) (hd : xs[k]? = some d) (h10 : d.toNat ≠ 10) (hl : ys.length ≤ 1048000) (hn : n ≤ 1048576) :
    Calls Tryz.prog 76 #[.int .i64 2, .int .i64 (f : Int), .int .i64 ((k + 1 : Nat) : Int), .pointer (some ⟨p, 0, none⟩), .pointer (some ⟨q, 0, none⟩)] W fun e w' => e = .returned (.tuple #[]) ∧ TextAt w p q A n c (ys ++ [13]) w' := by
  obtain ⟨V, hV, hB⟩ := h.text
  obtain ⟨VA, vc, rfl, _⟩ := hB.form
  obtain ⟨vn, hvn⟩ : ∃ vn, vn = ys.length := ⟨_, rfl⟩
  rw [← hvn] at hV hB hl
  have hkn : k < n := by have := (List.getElem?_eq_some_iff.1 hd).1; rw [hs.1] at this; exact this
  have hsW := hs.only h.only (fun _ _ _ h => h)
  obtain ⟨ad, rfl, hcell⟩ := hsW.2 (by omega)
  have cd := hcell k d hd
  unfold B8 at cd
  obtain ⟨z, hz⟩ : ∃ z : Int, z = (d.toNat : Int) := ⟨_, rfl⟩
  rw [← hz] at cd
  have d1 : (z == 10) = false := by rw [hz]; simp; omega
  have d2 : decide (z = 10) = false := by rw [hz]; simp; omega
  have c0 : W.cell? ⟨p, 0, none⟩ = some (.slice VA vn vc) := hV.cell 0
  have c1 : W.cell? ⟨q, 0, none⟩ = some (.slice (some ad) n c) := h.b.cell 0
  have HV := Lib.hid hV
  have HB := Lib.hid hB
  have HN := Lib.hid hvn
  have HH := Lib.hid h
  have hk1 : (k : Int) < (n : Int) := by omega
  have hlt := World.block_lt_of_cell? W _ cd
  rw [block_add] at hlt
  have hOr : Only (fun _ => False) W (W.alloc (.cells #[.int .u8 13] 5)) := (Only.refl _ W).alloc _
  have HOr := Lib.hid hOr
  have HBr : Hid (Body (W.alloc (.cells #[.int .u8 13] 5)) w.heap.size (.slice VA vn vc) ys) := own_same HB.out hOr
  have HSr : Hid (Src (W.alloc (.cells #[.int .u8 13] 5)) (some ⟨W.heap.size, 0, none⟩) 1 [13]) := src_new W [13] _ _ _ 1 rfl rfl
  have HZr : Hid (w.heap.size ≤ (W.alloc (.cells #[.int .u8 13] 5)).heap.size) := Nat.le_trans HH.out.only.size hOr.size
  have hPr : Blk (W.alloc (.cells #[.int .u8 13] 5)) p 45 [.slice VA vn vc] := HV.out.only hOr (fun h => h)
  have HPr := Lib.hid hPr
  have HNe : Hid ((Value.slice VA vn vc).ownBlock ≠ some p) := fun e => own_ne HB.out HV.out (by decide) p e rfl
  clear h hV hB hvn hs hsW hcell hd hz h10 hOr hPr
  go_enter Tryz.func76, Tryz.ntmps76
  go_wp2_with (first
    | (at_builtin; refine step_bytesG rfl (.tmp 35) (.tmp 36) rfl w.heap.size _ _ _ ys rfl HBr.out HN.out (some ⟨W.heap.size, 0, none⟩) 1 1 [13] rfl HSr.out (by omega) HZr.out ?_; intro A1 c1' w2 hb2 hg2; have hP2 : Blk w2 p 45 [.slice VA vn vc] := HPr.out.grown hg2.out HNe.out; have hc2 : w2.cell? ⟨p, 0, none⟩ = some (.slice VA vn vc) := hP2.cell 0; have hf2 := hP2.frozen 0; clear hP2))
  refine bodyPost_end (results_none rfl _ _ _) rfl ?_
  exact ⟨rfl, HH.out.more hpq hp HV.out HB.out HOr.out hg2.out hb2.out⟩

theorem text_else (h : TextAt w p q A n c ys W) (k f t : Int) (hk : k ≠ 1 ∧ k ≠ 2) :
    Calls Tryz.prog 76 #[.int .i64 k, .int .i64 f, .int .i64 t, .pointer (some ⟨p, 0, none⟩), .pointer (some ⟨q, 0, none⟩)] W fun e w' => e = .returned (.tuple #[]) ∧ TextAt w p q A n c ys w' := by
  have d1 : (k == 1) = false := beq_eq_false_iff_ne.2 hk.1
  have d2 : decide (k = 1) = false := decide_eq_false hk.1
  have d3 : (k == 2) = false := beq_eq_false_iff_ne.2 hk.2
  have d4 : decide (k = 2) = false := decide_eq_false hk.2
  have HH := Lib.hid h
  clear h hk
  go_enter Tryz.func76, Tryz.ntmps76
  go_wp2
  refine bodyPost_end (results_none rfl _ _ _) rfl ?_
  exact ⟨rfl, HH.out⟩
end

theorem eg_text : ∀ (args : Array Value) (w : World), (callFunc 76 args).run Tryz.prog w = .ok (.enter 76 args) w := enters_of Tryz.func76 (by kernel_rfl) rfl
theorem text_tells {w : World} {A : Option Addr} {n c : Nat} {xs : List UInt8} (hs : Src w A n xs) (hn : n ≤ 400000) (raw : Bool) (p q : Nat) (hp : w.heap.size ≤ p) (hpq : p ≠ q) :
    Tells w raw xs 76 #[.pointer (some ⟨p, 0, none⟩), .pointer (some ⟨q, 0, none⟩)] (fun ts W => TextAt w p q A n c (says ts) W) where
  only := fun _ _ h => h.only
  stay := fun _ _ _ h ho => h.same ho
  tell := fun ts W x k m h hf hkm hc => by
    show Calls _ _ #[.int .i64 x.kind, .int .i64 (k : Int), .int .i64 ((k + m : Nat) : Int), .pointer (some ⟨p, 0, none⟩), .pointer (some ⟨q, 0, none⟩)] _ _
    have hl := hs.1
    have hsl := says_length ts
    have e : ∀ y, says (ts ++ [⟨y, k, k + m⟩]) = says ts ++ itSays y := fun y => by simp [says_append, says]
    simp only [e]
    have at_ : ∀ (i : Nat) (d : UInt8), (xs.drop k)[i]? = some d → xs[k + i]? = some d := fun i d h => by rwa [List.getElem?_drop] at h
    have hu : ∀ d : UInt8, UInt8.ofNat ((d.toNat : Int)).toNat = d := fun d => by simp
    cases cut_form hc with
    | one d n h0 hn =>
      have e1 : itSays ⟨1, (d.toNat : Int), 0, []⟩ = [d] := by simp [itSays]
      rw [e1]
      exact text_byte hs h hpq hp k _ d (at_ 0 d h0) (by omega)
    | pair d h1 hd =>
      rcases hd with hd | hd
      · have e1 : itSays ⟨2, (d.toNat : Int), 0, []⟩ = [13] := by simp [itSays, hd]
        rw [e1]
        exact text_pair0 hs h hpq hp (k + 1) k d (at_ 1 d h1) (by omega) (by omega) (by omega)
      · have e1 : itSays ⟨2, (d.toNat : Int), 0, []⟩ = [13, 10] := by simp [itSays, hd]
        rw [e1]
        exact text_pair10 hs h hpq hp (k + 1) k d (at_ 1 d h1) hd (by omega) (by omega)
    | plain d h1 =>
      have e1 : itSays ⟨3, (d.toNat : Int), 0, []⟩ = [] := by simp [itSays]
      rw [e1, List.append_nil]
      exact text_else h _ _ _ (show (3 : Int) ≠ 1 ∧ (3 : Int) ≠ 2 by decide)
    | verb d o h1 h2 =>
      have e1 : itSays ⟨4, (d.toNat : Int), (o.toNat : Int), []⟩ = [] := by simp [itSays]
      rw [e1, List.append_nil]
      exact text_else h _ _ _ (show (4 : Int) ≠ 1 ∧ (4 : Int) ≠ 2 by decide)
    | sub o j h2 hk =>
      have e1 : ∀ b, itSays ⟨5, 0, (o.toNat : Int), b⟩ = [] := fun b => by simp [itSays]
      rw [e1, List.append_nil]
      exact text_else h _ _ _ (show (5 : Int) ≠ 1 ∧ (5 : Int) ≠ 2 by decide)

/-- What the bytes say, if they are of the grammar. -/
def textOf (raw : Bool) (xs : List UInt8) : List UInt8 := match parseFrom raw 0 xs with
  | some (l, _) => says l
  | .none => []
/-- Are they? -/
def gramOk (raw : Bool) (xs : List UInt8) : Bool := (parseFrom raw 0 xs).isSome
/-- The error of bytes that aren't. -/
def ErrOf (es : List Addr) (raw : Bool) (xs : List UInt8) (E : Value) : Prop := if gramOk raw xs = true then E = .nilIface else ∃ a, es[4]? = some a ∧ E = errV a

theorem text_any {w : World} {es : List Addr} (hes : ErrsIs w [2, 4] es) {A : Option Addr} {n c : Nat} {xs : List UInt8} (hs : Src w A n xs) (raw : Bool) (hn : n ≤ 400000) (hc : n ≤ c) :
    Calls Tryz.prog 30 #[.slice A n c, .bool raw] w fun e w' => ∃ A' c' E, e = .returned (.tuple #[.slice A' (textOf raw xs).length c', E]) ∧ ErrOf es raw xs E ∧ Hid (Body w' w.heap.size (.slice A' (textOf raw xs).length c') (textOf raw xs)) ∧ Hid (Only (fun _ => False) w w') := by
  have HC := Lib.hid (walk_any hes hs raw (by omega) hc _ _ eg_text (text_tells (c := c) hs hn raw (w.heap.size + 1) w.heap.size (by omega) (by omega)) (w1 := (w.alloc (.cells #[.slice A n c] 45)).alloc (.cells #[.slice none 0 0] 45))
    ⟨((Only.refl _ w).alloc _).alloc _, ⟨_, by simpa using Blk.new' (n := w.heap.size + 1) (w.alloc (.cells #[.slice A n c] 45)) 45 [.slice none 0 0] (by simp), nil_body _ _⟩, (Blk.new' w 45 [.slice A n c] rfl).alloc _⟩)
  clear hes hs
  unfold WalkSays at HC
  unfold textOf ErrOf gramOk
  cases hp : parseFrom raw 0 xs with
  | none =>
    rw [hp] at HC
    have HD : Hid (Calls Tryz.prog 74 #[.slice A n c, .bool raw, .func (.func 76) #[] #[.pointer (some ⟨w.heap.size + 1, 0, none⟩), .pointer (some ⟨w.heap.size, 0, none⟩)]] ((w.alloc (.cells #[.slice A n c] 45)).alloc (.cells #[.slice none 0 0] 45)) fun e w' => ∃ a, e = .returned (.tuple #[.int .i64 0, .iface 409 (.pointer (some a))]) ∧ Hid (es[4]? = some a) ∧ Hid (Only (fun _ => False) w w')) := HC.out.mono fun e w' ⟨a, _, h0, h1, h2⟩ => ⟨a, h1, h0, h2.1⟩
    clear HC hp
    go_enter Tryz.func30, Tryz.ntmps30
    go_wp2_with (go_at_call 74; refine HD.out.mono ?_; rintro e w1 ⟨a, rfl, ha, ho1⟩)
    go_ret2
    exact ⟨none, 0, _, rfl, ⟨a, ha.out, rfl⟩, nil_body _ _, ho1.out⟩
  | some r =>
    obtain ⟨l, r⟩ := r
    rw [hp] at HC
    obtain ⟨m, hm⟩ : ∃ m, m = (says l).length := ⟨_, rfl⟩
    have HD : Hid (Calls Tryz.prog 74 #[.slice A n c, .bool raw, .func (.func 76) #[] #[.pointer (some ⟨w.heap.size + 1, 0, none⟩), .pointer (some ⟨w.heap.size, 0, none⟩)]] ((w.alloc (.cells #[.slice A n c] 45)).alloc (.cells #[.slice none 0 0] 45)) fun e w' => ∃ (L : Int) (A' : Option Addr) (c' : Nat), e = .returned (.tuple #[.int .i64 L, .nilIface]) ∧ w'.cell? ⟨w.heap.size + 1, 0, none⟩ = some (.slice A' m c') ∧ Hid (Body w' w.heap.size (.slice A' m c') (says l)) ∧ Hid (Only (fun _ => False) w w')) := HC.out.mono fun e w' ⟨h1, h2⟩ => by
      obtain ⟨V, h3, h4⟩ := h2.text
      obtain ⟨A', c', rfl, _⟩ := h4.form
      rw [← hm] at h3 h4
      exact ⟨_, A', c', h1, h3.cell 0, h4, h2.only⟩
    simp only
    rw [← hm]
    clear HC hp hm
    go_enter Tryz.func30, Tryz.ntmps30
    go_wp2_with (go_at_call 74; refine HD.out.mono ?_; rintro e w1 ⟨L, A1, c1, rfl, hc1, hb1, ho1⟩)
    go_ret2
    exact ⟨A1, c1, _, rfl, by simp, hb1, ho1⟩
end Go.Proofs.YtbnfhklpobephaaGreatDoor
/- EndSends: what its loops keep. -/
namespace Go.Proofs.YtbnfhklpobephaaGreatDoor
open Go Go.RowKit
set_option maxRecDepth 100000
set_option maxHeartbeats 4000000

theorem wi_make {w W0 w1 : World} {es : List Addr} {p : Nat} {ag : Nat → Nat → Bool} {E : Ee} (h1 : NewE W0 w1 p ag E) (ho : Only (fun _ => False) w W0) (he : ErrsAt w es) (ht : TbW w) :
    EnWi w (w1.alloc (.cells #[] 5)) es p ag E (some ⟨w1.heap.size, 0, none⟩) 0 0 [] (fun _ => False) := by
  obtain ⟨⟨q1, k1, k2, k3⟩, o1⟩ := h1
  have hz := ho.size
  have ho1 : Only (fun _ => False) w w1 := ho.trans o1 (fun _ h => h.elim)
  have hz1 := ho1.size
  have hal : Only (fun _ => False) w1 (w1.alloc (.cells #[] 5)) := (Only.refl _ _).alloc _
  have ho2 : Only (fun _ => False) w (w1.alloc (.cells #[] 5)) := ho1.trans hal (fun _ h => h.elim)
  have hp := k1.lt
  have hr := k1.rlt
  refine ⟨_, _, fun _ => False, ⟨k1.same hal, ho2, fun i hi => (by subst hi; omega), he.only ho2, ht.only ho2, own_of_blk (cur := []) (Blk.new w1 5 []) rfl rfl (Nat.le_refl _) (by omega) (by omega), rfl, fun g hg => ?_, fun i hi => hi.elim⟩, fun _ h => h⟩
  have : g = w1.heap.size := by simpa [Value.ownBlock] using hg.symm
  subst this
  exact ⟨by omega, fun h => by have := hr _ h; omega, fun h => h⟩
/-- The stream so far: of the grammar, and what it says. -/
structure Wire (bin : Bool) (bs sd : List UInt8) : Prop where
  raw : ∃ u, Gr true bs u
  part : bin = false → Gr false bs sd
theorem Wire.nil (bin : Bool) : Wire bin [] [] := ⟨⟨[], .nil⟩, fun _ => .nil⟩
theorem Wire.more {bin bin' : Bool} {bs sd : List UInt8} (h : Wire bin bs sd) (hb : bin' = false → bin = false) : Wire bin' bs sd := ⟨h.raw, fun h' => h.part (hb h')⟩
theorem Wire.all {bin : Bool} {bs sd : List UInt8} {o : List (Int × List UInt8)} {s : List UInt8} (h : Wire bin bs sd) (k : Says2 bin o s) : Wire bin (bs ++ flatO o) (sd ++ s) := by
  obtain ⟨u, hu⟩ := h.raw
  obtain ⟨v, hv⟩ := k.raw o.length
  rw [List.take_length] at hv
  exact ⟨⟨_, hu.append hv⟩, fun hb => (h.part hb).append (k.all hb)⟩
theorem rest_none {raw : Bool} {xs : List UInt8} {l : List Pl} {r : Nat} (hp : parseFrom raw 0 xs = some (l, r)) : restOf raw xs = r := by unfold restOf; rw [hp]
/-- Nothing is left of it behind each piece. -/
theorem Wire.rest {bin : Bool} {bs sd : List UInt8} {o : List (Int × List UInt8)} {s : List UInt8} (h : Wire bin bs sd) (k : Says2 bin o s) (t : Nat) : restOf bin (bs ++ flatO (o.take t)) = 0 := by
  cases bin with
  | true =>
    obtain ⟨u, hu⟩ := h.raw
    obtain ⟨v, hv⟩ := k.raw t
    obtain ⟨l, h1, _⟩ := (hu.append hv).parse 0
    exact rest_none h1
  | false =>
    obtain ⟨v, hv⟩ := k.part rfl t
    obtain ⟨l, h1, _⟩ := ((h.part rfl).append hv).parse 0
    exact rest_none h1
theorem Wire.text {bin : Bool} {bs sd : List UInt8} (h : Wire bin bs sd) : gramOk bin bs = true ∧ (bin = false → textOf bin bs = sd) := by
  cases bin with
  | true =>
    obtain ⟨u, hu⟩ := h.raw
    obtain ⟨l, h1, _⟩ := hu.parse 0
    exact ⟨by unfold gramOk; rw [h1]; rfl, fun h => by cases h⟩
  | false =>
    obtain ⟨l, h1, h2⟩ := (h.part rfl).parse 0
    exact ⟨by unfold gramOk; rw [h1]; rfl, fun _ => by unfold textOf; rw [h1]; exact h2⟩
/-- Behind so many acts. -/
structure SendsS (l : List Ac) (k : Nat) (E : Ee) (bin : Bool) (bs sd : List UInt8) : Prop where
  sz : E.Sz (k + lenA (l.take k))
  vk : VOk E.k.m
  out : E.out = []
  few : E.sent ≤ E.heard + E.asked
  wire : Wire bin bs sd
  len : bs.length ≤ 1200 * (k + lenA (l.take k))
  said : sd.length ≤ lenA (l.take k)
theorem sends_next {ag : Nat → Nat → Bool} {l : List Ac} {k : Nat} {E : Ee} {bin bin' : Bool} {bs sd : List UInt8} {x : Ac} (hx : l[k]? = some x) (hl : x.xs.length = x.len) (h120 : x.len ≤ 120) (h : SendsS l k E bin bs sd) (hb : bin' = false → bin = false ∧ E.on 0 0 = false) :
    Says2 bin' (actE ag x E).out (saidA x) ∧ (actE ag x E).sent = E.sent + cnt3 (actE ag x E).out ∧ (actE ag x E).out.length ≤ 2 * (1 + x.len) ∧ SendsS l (k + 1) (actE ag x E).take bin' (bs ++ flatO (actE ag x E).out) (sd ++ saidA x) := by
  obtain ⟨h1, h2, h3, h4⟩ := act_says ag x E h.out (by omega) bin' (fun e => (hb e).2)
  have e := lenA_take hx
  refine ⟨h1, h3, by omega, ⟨?_, actE_vk ag x h.vk, rfl, ?_, (h.wire.more (fun e => (hb e).1)).all h1, ?_, ?_⟩⟩
  · have := Ee.take_sz (actE_sz ag x h.sz)
    rw [e]
    exact this.more (by omega)
  · show (actE ag x E).sent ≤ (actE ag x E).heard + (actE ag x E).asked
    have := h.few
    omega
  · have h5 := flatO_len _ h1.each
    have h6 := h.len
    rw [List.length_append, e]
    omega
  · have h6 := h.said
    have h7 : (saidA x).length ≤ x.len := by
      unfold saidA
      split
      · omega
      · exact Nat.zero_le _
    rw [List.length_append, e]
    omega
end Go.Proofs.YtbnfhklpobephaaGreatDoor
