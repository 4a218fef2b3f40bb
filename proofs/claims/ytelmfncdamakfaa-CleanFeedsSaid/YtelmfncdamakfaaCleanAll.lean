/- Package clean: All, Data. -/
import Derived.Test.YtelmfncdamakfaaCleanWalk
namespace Go.Proofs.Ytelmfncdamakfaa
open Go Go.RowKit
set_option maxRecDepth 100000
set_option maxHeartbeats 4000000

/-- What All has made of the tokens. -/
structure AllAt9 (w : World) (pl : Nat) (ps : List TkP) (W : World) : Prop where
  only : Only (fun _ => False) w W
  list : ∃ V, Blk W pl 33 [V] ∧ Toks W w.heap.size V ps

theorem all_one {w W : World} {pl : Nat} {ps : List TkP} (h : AllAt9 w pl ps W) (hp : w.heap.size ≤ pl) (hpl : ps.length ≤ 100000) (x : TkP) (hx : Body W w.heap.size x.val x.t.body) :
    Calls Try.prog 25 #[.agg x.cells.toArray, .pointer (some ⟨pl, 0, none⟩)] W fun e w' => e = .returned (.tuple #[]) ∧ AllAt9 w pl (ps ++ [x]) w' ∧ W.heap.size ≤ w'.heap.size ∧ ∀ k t cs, Blk W k t cs → (t = 50 ∨ t = 4) → Blk w' k t cs := by
  obtain ⟨V, hV, hI⟩ := h.list
  obtain ⟨VA, vc, rfl, _⟩ := hI.form
  obtain ⟨vn, hvn⟩ : ∃ vn, vn = ps.length := ⟨_, rfl⟩
  rw [← hvn] at hV hI hpl
  obtain ⟨cs, hcs⟩ : ∃ cs, cs = x.cells := ⟨_, rfl⟩
  have hcl : Hid (cs.length = 5) := by rw [hcs]; rfl
  have hco : Hid (∀ v ∈ cs, v.oneCell' = true) := by rw [hcs]; exact x.cells_one
  obtain ⟨i0, hi0, iz0, iz1, iz2⟩ := info_parts info_tok
  have HIn := Lib.hid hi0
  have HV := Lib.hid hV
  have HI := Lib.hid hI
  have HN := Lib.hid hvn
  have HH := Lib.hid h
  have HX := Lib.hid hx
  have HCS := Lib.hid hcs
  rw [← hcs]
  have HW0 : Hid (w.heap.size ≤ ((W.alloc (.cells cs.toArray 52)).alloc (.cells cs.toArray 52)).heap.size) := by have := h.only.size; show _ ≤ _; simp; omega
  have HR4 : Hid (((W.alloc (.cells cs.toArray 52)).alloc (.cells cs.toArray 52)).ownsRow w.heap.size 52 5 (.slice VA vn vc) vn (flatTk ps)) := by
    have := (hI.same (((Only.refl _ W).alloc (.cells cs.toArray 52)).alloc (.cells cs.toArray 52))).row
    rw [← hvn] at this
    exact this
  have kp0 : (W.alloc (.cells cs.toArray 52)).cell? ⟨pl, 0, none⟩ = some (.slice VA vn vc) := (hV.alloc _).cell 0
  have hpW := hV.lt
  clear h hV hI hvn hx hcs hi0
  go_enter Try.func25, Try.ntmps25
  go_wp2_with (first
    | ((with_reducible show wpList _ _ _ (⟨some 2, _, _, _, _, _⟩ :: _) _ _); refine wpList_boxTo rfl 52 (.tmp 0) rfl _ rfl _ rfl cs.toArray rfl ?_)
    | ((with_reducible show wpList _ _ _ (⟨some 4, _, _, _, _, _⟩ :: _) _ _); refine wpList_load_mid rfl 52 (.tmp 2) rfl W.heap.size 0 rfl cs _ (range_of (Blk.new W 52 cs)) Try.underlying52 rfl (by rw [hcl.out]; exact size_tok) ?_)
    | ((with_reducible show wpList _ _ _ (⟨some 5, _, _, _, _, _⟩ :: _) _ _); refine step_token rfl (.tmp 4) rfl cs rfl hcl.out ?_)
    | (at_builtin; refine step_append_own rfl (.tmp 3) (.tmp 5) 33 rfl w.heap.size 52 i0 _ 5 56 Try.underlying33 HIn.out iz0 iz1 iz2 rfl (by omega) (.slice VA vn vc) vn (flatTk ps) rfl HR4.out (some ⟨(W.alloc (.cells cs.toArray 52)).heap.size, 0, none⟩) 1 1 cs rfl hcl.out (fun _ => ⟨_, rfl, fun j u hj => by rw [at_add, (Blk.new (W.alloc (.cells cs.toArray 52)) 52 cs).cell]; exact hj⟩) hco.out (by omega) (by omega) HW0.out ?_; intro A5 c5 w5 hnc5 hc5 hq5; have HP5 : Hid (Blk w5 pl 33 [.slice VA vn vc]) := ((HV.out.alloc _).alloc _).grown hq5.out.2.1 (fun e => own_ne HI.out.row HV.out (by decide) pl e rfl); have kp5 := HP5.out.cell 0; have kp5 : w5.cell? ⟨pl, 0, none⟩ = some (.slice VA vn vc) := kp5; have fp5 := HP5.out.frozen 0))
  refine bodyPost_end (results_none rfl _ _ _) rfl ?_
  have hOw : Only (fun _ => False) w ((W.alloc (.cells cs.toArray 52)).alloc (.cells cs.toArray 52)) := (HH.out.only.alloc _).alloc _
  have hO5 : Only (fun _ => False) w w5 := hOw.grown hq5.out.2.1 (fun k hk => .inr (own_lt HI.out.row k hk).1)
  have hT : Toks ((W.alloc (.cells cs.toArray 52)).alloc (.cells cs.toArray 52)) w.heap.size (.slice VA vn vc) ps := HI.out.same (((Only.refl _ W).alloc _).alloc _)
  have hI5 : Toks w5 w.heap.size (.slice A5 (vn + 1) c5) (ps ++ [x]) := hT.more x (own_same HX.out (((Only.refl _ W).alloc _).alloc _)) (by have := hq5.out.1; rw [HN.out, HCS.out] at this; rw [HN.out]; exact this) hq5.out.2.1
  refine ⟨rfl, ⟨hO5.setCell (.inr hp) _, _, HP5.out.setCell 0 _, ?_⟩, ?_, fun k t cs' hb ht => ?_⟩
  · exact hI5.blk ((Only.refl (· = pl) w5).setCell (p := ⟨pl, 0, none⟩) (.inl rfl) _) HP5.out (by decide) (by decide)
  · have := hq5.out.2.1.size
    rw [setCell_size]
    simp at this
    omega
  · have hne : t ≠ 52 ∧ t ≠ 33 := by rcases ht with rfl | rfl <;> decide
    have hb2 := ((hb.alloc (.cells cs.toArray 52)).alloc (.cells cs.toArray 52)).grown hq5.out.2.1 (fun e => own_ne HI.out.row hb (fun e => hne.1 e.symm) k e rfl)
    exact hb2.far (hb.ne HV.out hne.2) _

theorem eg_all : ∀ (args : Array Value) (w : World), (callFunc 25 args).run Try.prog w = .ok (.enter 25 args) w := enters_of Try.func25 (by kernel_rfl) rfl
theorem all_tells {w : World} {n : Nat} (hn : n ≤ 100000) (pl : Nat) (hp : w.heap.size ≤ pl) :
    Tells9 w n 25 #[.pointer (some ⟨pl, 0, none⟩)] (fun ts W => ∃ ps : List TkP, ps.map TkP.t = ts ∧ AllAt9 w pl ps W) where
  only := fun _ _ ⟨_, _, h⟩ => h.only
  news := fun _ W W' ⟨ps, e, h⟩ ho => ⟨ps, e, h.only.trans ho (fun i hi => .inr (by have := h.only.size; omega)), by
    obtain ⟨V, h1, h2⟩ := h.list
    exact ⟨V, h1.only ho (by have := h1.lt; omega), h2.only ho (fun k hk => by have := (h2.row.lt k hk).2; omega) (fun x hx k hk => by have := (own_lt (h2.bodies x hx) k hk).2; omega)⟩⟩
  beside := fun _ W W' p cs ⟨ps, e, h⟩ hpw hb ho => ⟨ps, e, h.only.trans ho (fun i hi => .inr (by omega)), by
    obtain ⟨V, h1, h2⟩ := h.list
    exact ⟨V, h1.only ho (h1.ne hb (by decide)), h2.blk ho hb (by decide) (by decide)⟩⟩
  tell := fun ts W x ⟨ps, e, h⟩ hl hby hx => by
    refine (all_one h hp (by rw [← e, List.length_map] at hl; omega) x hx).mono ?_
    rintro e' w' ⟨h1, h2, h3, h4⟩
    exact ⟨h1, ⟨_, by simp [e], h2⟩, h3, h4⟩

theorem clean_all_any {w : World} {A B : Option Addr} {n c m d : Nat} {xs : List UInt8} {zs : List Int} (hs : Src w A n xs) (hz : Ints w B m zs) (raw : Bool) (hn : n ≤ 100000) (hm : m ≤ 1048576) :
    Calls Try.prog 12 #[.slice A n c, .slice B m d, .bool raw] w fun e w' => ∃ A' c' ps, e = .returned (.slice A' ps.length c') ∧ Hid (ps.map TkP.t = (feeds9 .zero 0 (bts xs (mkd n zs) raw)).1.map Prod.fst) ∧ Hid (Toks w' w.heap.size (.slice A' ps.length c') ps) ∧ ps.length ≤ c' ∧ c' ≤ 9223372036854775807 ∧ Hid (Only (fun _ => False) w w') := by
  have HC : Hid (Calls Try.prog 24 #[.slice A n c, .slice B m d, .bool raw, .func (.func 25) #[] #[.pointer (some ⟨w.heap.size, 0, none⟩)]] (w.alloc (.cells #[.slice none 0 0] 33)) fun e w' => e = .returned (.tuple #[]) ∧ ∃ A' c' ps, w'.cell? ⟨w.heap.size, 0, none⟩ = some (.slice A' (List.length ps) c') ∧ Hid (ps.map TkP.t = (feeds9 .zero 0 (bts xs (mkd n zs) raw)).1.map Prod.fst) ∧ Hid (Toks w' w.heap.size (.slice A' ps.length c') ps) ∧ ps.length ≤ c' ∧ c' ≤ 9223372036854775807 ∧ Hid (Only (fun _ => False) w w')) := by
    refine (cwalk_any hs hz raw hn hm _ _ eg_all (all_tells hn w.heap.size (Nat.le_refl _)) (w1 := w.alloc (.cells #[.slice none 0 0] 33)) ⟨[], rfl, (Only.refl _ w).alloc _, _, Blk.new w 33 [.slice none 0 0], Toks.nil _ _⟩).mono ?_
    rintro e w' ⟨rfl, hj⟩
    obtain ⟨ps, e1, h1⟩ := hj.out
    obtain ⟨V, h2, h3⟩ := h1.list
    obtain ⟨A', c', rfl, h4, h5⟩ := h3.form
    exact ⟨rfl, A', c', ps, h2.cell 0, e1, h3, h4, h5, h1.only⟩
  clear hs hz
  go_enter Try.func12, Try.ntmps12
  go_wp2_with (go_at_call 24; (with_reducible refine HC.out.mono ?_); rintro e w1 ⟨rfl, A1, c1, ps, kc, h1, h2, h3, h4, h5⟩)
  go_ret
  exact ⟨A1, c1, ps, rfl, h1, h2, h3, h4, h5⟩

/-- What Data has made of the tokens. -/
structure DataAt9 (w : World) (pl : Nat) (ts : List Tk) (W : World) : Prop where
  only : Only (fun _ => False) w W
  list : ∃ V, Blk W pl 22 [V] ∧ Body W w.heap.size V (data9 ts)

theorem data_one {w W : World} {pl : Nat} {ts : List Tk} (h : DataAt9 w pl ts W) (hp : w.heap.size ≤ pl) (hpl : ts.length ≤ 100000) (x : TkP) (hby : x.t.Byte) :
    Calls Try.prog 26 #[.agg x.cells.toArray, .pointer (some ⟨pl, 0, none⟩)] W fun e w' => e = .returned (.tuple #[]) ∧ DataAt9 w pl (ts ++ [x.t]) w' ∧ W.heap.size ≤ w'.heap.size ∧ ∀ k t cs, Blk W k t cs → (t = 50 ∨ t = 4) → Blk w' k t cs := by
  obtain ⟨V, hV, hI⟩ := h.list
  obtain ⟨VA, vc, rfl, _⟩ := hI.form
  obtain ⟨vn, hvn⟩ : ∃ vn, vn = (data9 ts).length := ⟨_, rfl⟩
  have hvl : vn ≤ 100000 := by have := data9_le ts; omega
  rw [← hvn] at hV hI
  have hpW := hV.lt
  have HV := Lib.hid hV
  have HI := Lib.hid hI
  have HN := Lib.hid hvn
  have HH := Lib.hid h
  obtain ⟨⟨tk, tc, to_, tb, tcut⟩, xad, xcap⟩ := x
  simp only [TkP.cells, TkP.val, tkCells]
  obtain ⟨tn, htn⟩ : ∃ tn, tn = tb.length := ⟨_, rfl⟩
  rw [← htn]
  have hsn := data9_snoc ts ⟨tk, tc, to_, tb, tcut⟩
  obtain ⟨w0, hw0⟩ : ∃ w0, w0 = W.alloc (.cells #[.int .i64 tk, .int .i64 tc, .int .i64 to_, .slice xad tn xcap, .bool tcut] 52) := ⟨_, rfl⟩
  have hO0 : Only (fun _ => False) W w0 := by rw [hw0]; exact (Only.refl _ _).alloc _
  have hV0 := HV.out.only hO0 (fun h => h)
  have hI0 := HI.out.same hO0
  have hww := hw0.symm
  have hT0 : Blk w0 W.heap.size 52 [.int .i64 tk, .int .i64 tc, .int .i64 to_, .slice xad tn xcap, .bool tcut] := by rw [hw0]; exact Blk.new W _ _
  have k0 : w0.cell? ⟨W.heap.size, 0, none⟩ = some (.int .i64 tk) := hT0.cell 0
  have k1 : w0.cell? ⟨W.heap.size, 1, none⟩ = some (.int .i64 tc) := hT0.cell 1
  by_cases h1 : tk = 1
  · subst h1
    obtain ⟨y, hy⟩ := hby rfl
    simp only at hy
    subst hy
    have hw : IntKind.u8.wrap ((y.toNat : Nat) : Int) = (y.toNat : Int) := by rw [IntKind.wrap_u8]; have := y.toNat_lt; omega
    have hyb := y.toNat_lt
    have hwA : IntKind.u8.wrap (y.toNat : Int) = (y.toNat : Int) := hw
    have ed : isData ⟨1, (y.toNat : Int), to_, tb, tcut⟩ = true := rfl
    rw [ed, b8_of] at hsn
    simp only [if_true] at hsn
    obtain ⟨w1, hw1⟩ : ∃ w1, w1 = w0.alloc (.cells #[.int .u8 (y.toNat : Int)] 5) := ⟨_, rfl⟩
    have hO1 : Only (fun _ => False) w0 w1 := by rw [hw1]; exact (Only.refl _ _).alloc _
    have HV1 := Lib.hid (hV0.only hO1 (fun h => h))
    have HI1 := Lib.hid (hI0.same hO1)
    have HO1 := Lib.hid (hO0.trans hO1 (fun _ h => h.elim))
    have HS1 : Hid (Src w1 (some ⟨w0.heap.size, 0, none⟩) 1 [y]) := by rw [hw1]; exact src_new w0 [y] _ _ (0, 0) 1 rfl rfl
    have hww1 := hw1.symm
    have kp0 : w0.cell? ⟨pl, 0, none⟩ = some (.slice VA vn vc) := hV0.cell 0
    have HSz : Hid (w.heap.size ≤ w1.heap.size) := Nat.le_trans HH.out.only.size HO1.out.size
    have HSn := Lib.hid hsn
    clear h hV hI hby hsn hO0 hV0 hI0 hw0 ed htn hT0 hO1 hw1 hvn
    go_enter Try.func26, Try.ntmps26
    go_wp2_with (first
      | (at_builtin; (refine step_bytesG rfl (.tmp 6) (.tmp 10) rfl w.heap.size _ _ _ (data9 ts) rfl HI1.out HN.out (some ⟨w0.heap.size, 0, none⟩) 1 1 [y] rfl HS1.out (by omega) HSz.out ?_); intro A5 c5 w5 hb5 hg5; have HP5 : Hid (Blk w5 pl 22 [.slice VA vn vc]) := HV1.out.grown hg5.out (fun e => own_ne HI1.out HV1.out (by decide) pl e rfl); have kp5 : w5.cell? ⟨pl, 0, none⟩ = some (.slice VA vn vc) := HP5.out.cell 0; have fp5 := HP5.out.frozen 0))
    refine bodyPost_end (results_none rfl _ _ _) rfl ?_
    have hO5 : Only (fun _ => False) w w5 := (HH.out.only.trans HO1.out (fun _ h => h.elim)).grown hg5.out (fun k hk => .inr (own_lt HI1.out k hk).1)
    refine ⟨rfl, ⟨hO5.setCell (.inr hp) _, _, HP5.out.setCell 0 _, ?_⟩, ?_, fun k t cs' hb ht => ?_⟩
    · have h5 := own_only hb5.out ((Only.refl (· = pl) w5).setCell (p := ⟨pl, 0, none⟩) (.inl rfl) (.slice A5 (vn + 1) c5)) (own_ne hb5.out HP5.out (by decide))
      rw [HSn.out]
      exact h5
    · have := hg5.out.size
      have := HO1.out.size
      rw [setCell_size]
      omega
    · have hne : t ≠ 5 ∧ t ≠ 22 := by rcases ht with rfl | rfl <;> decide
      have hb1 := hb.only HO1.out (fun h => h)
      have hb2 := hb1.grown hg5.out (fun e => own_ne HI1.out hb1 (fun e => hne.1 e.symm) k e rfl)
      exact hb2.far (hb.ne HV.out hne.2) _
  · have e1 : (tk == 1) = false := by simpa using h1
    have e1' : decide (tk = 1) = false := by simpa using h1
    have ed : isData ⟨tk, tc, to_, tb, tcut⟩ = false := e1'
    rw [ed] at hsn
    simp only [Bool.false_eq_true, if_false, List.append_nil] at hsn
    have HSn := Lib.hid hsn
    have HO0 := Lib.hid hO0
    have HV0 := Lib.hid hV0
    have HI0 := Lib.hid hI0
    clear h hV hI hby hsn hO0 hV0 hI0 hw0 h1 ed htn hT0 hvn
    go_enter Try.func26, Try.ntmps26
    go_wp2
    refine bodyPost_end (results_none rfl _ _ _) rfl ?_
    exact ⟨rfl, ⟨HH.out.only.trans HO0.out (fun _ h => h.elim), _, HV0.out, by rw [HSn.out]; exact HI0.out⟩, HO0.out.size, fun k t cs hb _ => hb.only HO0.out (fun h => h)⟩

theorem eg_data : ∀ (args : Array Value) (w : World), (callFunc 26 args).run Try.prog w = .ok (.enter 26 args) w := enters_of Try.func26 (by kernel_rfl) rfl
theorem data_tells {w : World} {n : Nat} (hn : n ≤ 100000) (pl : Nat) (hp : w.heap.size ≤ pl) :
    Tells9 w n 26 #[.pointer (some ⟨pl, 0, none⟩)] (fun ts W => DataAt9 w pl ts W) where
  only := fun _ _ h => h.only
  news := fun _ W W' h ho => ⟨h.only.trans ho (fun i hi => .inr (by have := h.only.size; omega)), by
    obtain ⟨V, h1, h2⟩ := h.list
    exact ⟨V, h1.only ho (by have := h1.lt; omega), own_only h2 ho (fun k hk => by have := (own_lt h2 k hk).2; omega)⟩⟩
  beside := fun _ W W' p cs h hpw hb ho => ⟨h.only.trans ho (fun i hi => .inr (by omega)), by
    obtain ⟨V, h1, h2⟩ := h.list
    exact ⟨V, h1.only ho (h1.ne hb (by decide)), own_only h2 ho (own_ne h2 hb (by decide))⟩⟩
  tell := fun ts W x h hl hby _ => by
    refine (data_one h hp (by omega) x hby).mono ?_
    rintro e' w' ⟨h1, h2, h3, h4⟩
    exact ⟨h1, h2, h3, h4⟩

theorem clean_data_any {w : World} {A B : Option Addr} {n c m d : Nat} {xs : List UInt8} {zs : List Int} (hs : Src w A n xs) (hz : Ints w B m zs) (raw : Bool) (hn : n ≤ 100000) (hm : m ≤ 1048576) (D : List UInt8) (hD : D = data9 ((feeds9 .zero 0 (bts xs (mkd n zs) raw)).1.map Prod.fst)) :
    Calls Try.prog 13 #[.slice A n c, .slice B m d, .bool raw] w fun e w' => ∃ A' c', e = .returned (.slice A' D.length c') ∧ Hid (Body w' w.heap.size (.slice A' D.length c') D) ∧ Hid (Only (fun _ => False) w w') := by
  subst hD
  obtain ⟨D, hD⟩ : ∃ D, D = data9 ((feeds9 .zero 0 (bts xs (mkd n zs) raw)).1.map Prod.fst) := ⟨_, rfl⟩
  have HC : Hid (Calls Try.prog 24 #[.slice A n c, .slice B m d, .bool raw, .func (.func 26) #[] #[.pointer (some ⟨w.heap.size, 0, none⟩)]] (w.alloc (.cells #[.slice none 0 0] 22)) fun e w' => e = .returned (.tuple #[]) ∧ ∃ A' c', w'.cell? ⟨w.heap.size, 0, none⟩ = some (.slice A' D.length c') ∧ Hid (Body w' w.heap.size (.slice A' D.length c') D) ∧ Hid (Only (fun _ => False) w w')) := by
    refine (cwalk_any hs hz raw hn hm _ _ eg_data (data_tells hn w.heap.size (Nat.le_refl _)) (w1 := w.alloc (.cells #[.slice none 0 0] 22)) ⟨(Only.refl _ w).alloc _, _, Blk.new w 22 [.slice none 0 0], nil_body _ _⟩).mono ?_
    rintro e w' ⟨rfl, hj⟩
    obtain ⟨V, h2, h3⟩ := hj.out.list
    rw [← hD] at h3
    obtain ⟨A', c', rfl, _⟩ := h3.form
    exact ⟨rfl, A', c', h2.cell 0, h3, hj.out.only⟩
  rw [← hD]
  clear hs hz hD
  go_enter Try.func13, Try.ntmps13
  go_wp2_with (go_at_call 24; (with_reducible refine HC.out.mono ?_); rintro e w1 ⟨rfl, A1, c1, kc, h1, h2⟩)
  go_ret
  exact ⟨A1, c1, rfl, h1, h2⟩
end Go.Proofs.Ytelmfncdamakfaa
