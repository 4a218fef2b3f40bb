/- Several texts in one. -/
import Derived.Test.YtbnfhklpobephaaGreatDoorJNawsFit
import Derived.Test.YtbnfhklpobephaaGreatDoorJRefuse
/- Package qstate: one contract for each of its calls. -/
namespace Go.Proofs.YtbnfhklpobephaaGreatDoor
open Go Go.RowKit
set_option maxRecDepth 100000
set_option maxHeartbeats 4000000

/-- What the calls read at package level. -/
structure QsW (W : World) : Prop where
  tab : QsAt W
  form : ErrAt Tryz.prog W "truchman/api.ErrForm"
  state : ErrAt Tryz.prog W "truchman/api.ErrState"
theorem QsW.only {W W' : World} (h : QsW W) (ho : Only (fun _ => False) W W') : QsW W' := ⟨h.tab.only ho, h.form.only ho, h.state.only ho⟩

theorem row0_one : ∀ v ∈ row0, v.oneCell' = true := fun v hv => List.all_eq_true.1 (show row0.all Value.oneCell' = true from rfl) v hv
theorem mvC_one (s : Qs) (n : Nat) (b : Bool) : ∀ v ∈ mvC s n b, v.oneCell' = true := by
  intro v hv
  simp only [mvC, List.mem_cons, List.not_mem_nil, or_false] at hv
  rcases hv with rfl | rfl | rfl | rfl <;> rfl
/-- A row, or none: its cells behind a name. -/
def RowIs (rc : List Value) (x : Option Qs) : Prop := rc = rowOfC x
theorem RowIs.length {rc : List Value} {x : Option Qs} (h : RowIs rc x) : rc.length = 19 := by
  unfold RowIs at h
  subst h
  cases x with
  | none => rfl
  | some s => exact rowC_length s
theorem RowIs.one {rc : List Value} {x : Option Qs} (h : RowIs rc x) : ∀ v ∈ rc, v.oneCell' = true := by
  unfold RowIs at h
  subst h
  cases x with
  | none => exact row0_one
  | some s => exact rowC_one s
theorem RowIs.size {rc : List Value} {x : Option Qs} (h : RowIs rc x) : (Tryz.prog.info? 316).map (·.size) = some rc.length := by rw [h.length]; exact size_qrow
theorem rowOf_at {W w : World} (hT : Hid (QsW W)) (ho : Only (fun _ => False) W w) (k : Int) (o : Bool) {x : Option Qs} (hx : Hid (qsOf k o = x)) : Calls Tryz.prog 166 #[.agg #[.int .i64 k, .bool o]] w fun e w' =>
    ∃ rc, e = .returned (.tuple #[.agg rc.toArray, .bool x.isSome]) ∧ Hid (RowIs rc x) ∧ Only (fun _ => False) w w' :=
  (rowOf_any (hT.out.only ho).tab k o).mono fun e w' ⟨he, h⟩ => ⟨_, by rw [he, hx.out], (show RowIs _ _ from rfl), h⟩

theorem alloc_only {W : World} (o : Obj) : Only (fun _ => False) W (W.alloc o) := (Only.refl _ _).alloc _
theorem only_row {W a b c : World} (h : Only (fun _ => False) W a) (h1 : Only (fun _ => False) a b) (o : Obj) (h2 : Only (· = b.heap.size) (b.alloc o) c) : Only (fun _ => False) W c :=
  (h.trans h1 (fun _ h => h.elim)).trans (((Only.refl (fun i => b.heap.size ≤ i) b).alloc o).trans h2 (fun i hi => .inl (by omega))) (fun i hi => .inr (by have := h.size; have := h1.size; omega))
theorem on_any (W : World) (k : Int) (o : Bool) : Calls Tryz.prog 101 #[.agg #[.int .i64 k, .bool o]] W fun e w' => e = .returned (.bool (decide (k = 1))) ∧ Only (fun _ => False) W w' := by
  go_enter Tryz.func101, Tryz.ntmps101
  go_wp2
  go_ret
  exact ⟨rfl, alloc_only _⟩

/-- The parts of a row. -/
theorem range_mid {w : World} {b : Nat} {t : TypeId} {rc pre mid post : List Value} (h : Blk w b t rc) (e : rc = pre ++ mid ++ post) {n : Nat} (hn : pre.length = n) : w.rangeAt b n mid := by
  subst hn
  intro j v hj
  have hl := (List.getElem?_eq_some_iff.1 hj).1
  rw [h.cell, e, List.append_assoc, List.getElem?_append_right (by omega), List.getElem?_append_left (by omega)]
  simpa using hj
section
variable {w : World} {b : Nat} {t : TypeId} {rc : List Value} {s : Qs}
theorem at_for (h : RowIs rc (some s)) (hb : Blk w b t rc) : w.rangeAt b 3 (hearC s true true) := range_mid (pre := qsC s ++ [.string ⟨(qsWord s).toArray⟩]) (post := hearC s false true ++ askC s true ++ askC s false) hb (by unfold RowIs at h; rw [h]; simp only [rowOfC, rowC, List.append_assoc]) rfl
theorem at_against (h : RowIs rc (some s)) (hb : Blk w b t rc) : w.rangeAt b 7 (hearC s false true) := range_mid (pre := qsC s ++ [.string ⟨(qsWord s).toArray⟩] ++ hearC s true true) (post := askC s true ++ askC s false) hb (by unfold RowIs at h; rw [h]; simp only [rowOfC, rowC, List.append_assoc]) rfl
theorem askC_length (s : Qs) (on : Bool) : (askC s on).length = 4 := by unfold askC; cases askQ s on <;> rfl
theorem at_on (h : RowIs rc (some s)) (hb : Blk w b t rc) : w.rangeAt b 11 (askC s true) := range_mid (pre := qsC s ++ [.string ⟨(qsWord s).toArray⟩] ++ hearC s true true ++ hearC s false true) (post := askC s false) hb (by unfold RowIs at h; rw [h]; simp only [rowOfC, rowC, List.append_assoc]) rfl
theorem at_off (h : RowIs rc (some s)) (hb : Blk w b t rc) : w.rangeAt b 15 (askC s false) := by
  refine range_mid (pre := qsC s ++ [.string ⟨(qsWord s).toArray⟩] ++ hearC s true true ++ hearC s false true ++ askC s true) (post := []) (mid := askC s false) hb (by unfold RowIs at h; rw [h]; simp only [rowOfC, rowC, List.append_assoc, List.append_nil]) ?_
  simp only [List.length_append, askC_length]
  rfl
end

/-- A move beside no error. -/
def Moved (W : World) (cs : List Value) (e : Ending) (w' : World) : Prop := e = .returned (.tuple #[.agg cs.toArray, .nilIface]) ∧ Only (fun _ => False) W w'
theorem zero_move : (Tryz.prog.info? 245).map (fun i => (i.zero, i.size)) = some (some (.agg mv0.toArray), 4) := by kernel_rfl
/-- What a call that got its row has turned, and its result's variable. -/
theorem row_end {W w0 w1 w4 : World} {b : Nat} {t : TypeId} {cs : List Value} {o : Obj} (h0 : Only (fun _ => False) W w0) (hb : Blk w0 b t cs) (h1 : Only (fun _ => False) w0 w1) (h4 : Only (· = w1.heap.size) (w1.alloc o) w4) :
    Blk w4 b t cs ∧ Only (fun _ => False) W w4 := by
  have hlt := (hb.only h1 (fun h => h)).lt
  exact ⟨((hb.only h1 (fun h => h)).alloc _).only h4 (by omega), only_row h0 h1 _ h4⟩
theorem hear_some {W : World} (hT : QsW W) (k : Int) (o is agree : Bool) {s : Qs} (hx : qsOf k o = some s) : Calls Tryz.prog 193 #[.agg #[.int .i64 k, .bool o], .bool is, .bool agree] W (Moved W (hearC s is agree)) := by
  have HT := Lib.hid hT
  have HX := Lib.hid hx
  obtain ⟨same, hsame⟩ : ∃ same, same = decide (k = 0 ∧ o = false) := ⟨_, rfl⟩
  have heq : ∀ W, (Op.equalIn 10000 65 (.agg #[.int .i64 k, .bool o]) (.agg #[.int .i64 0, .bool false])).run Tryz.prog W = .ok same W := fun W => by rw [hsame]; exact eq_state W _ _ _ _
  have HSame := Lib.hid hsame
  have hgr := guard_state
  obtain ⟨mf, hmf⟩ : ∃ mf, mf = hearC s true true := ⟨_, rfl⟩
  obtain ⟨ma, hma⟩ : ∃ ma, ma = hearC s false true := ⟨_, rfl⟩
  have HMF := Lib.hid hmf
  have HMA := Lib.hid hma
  clear hT hx hsame hmf hma
  obtain ⟨W0, hW0⟩ : ∃ W0, W0 = (W.alloc (.cells #[.int .i64 k, .bool o] 65)).alloc (.cells mv0.toArray 245) := ⟨_, rfl⟩
  have HB3 : Hid (Blk W0 W.heap.size 65 [.int .i64 k, .bool o]) := by rw [hW0]; exact (Blk.new W _ [.int .i64 k, .bool o]).alloc _
  have HB6 : Hid (Blk W0 (W.heap.size + 1) 245 mv0) := by rw [hW0]; exact Blk.new' _ _ mv0 (by simp)
  have HO0 : Hid (Only (fun _ => False) W W0) := by rw [hW0]; exact (alloc_only _).alloc _
  have HW0 := Lib.hid hW0
  clear hW0
  cases is
  · skip
    go_enter Tryz.func193, Tryz.ntmps193
    go_wp2_with (first
      | ((with_reducible show wpList _ _ _ (⟨some 6, _, _, _, _, _⟩ :: _) _ _); refine step_alloc rfl 245 rfl mv0 _ zero_move ?_; rw [← HW0.out])
      | ((with_reducible show wpList _ _ _ (⟨some 11, _, _, _, _, _⟩ :: _) _ _); refine wpList_load_mid rfl 65 _ rfl W.heap.size 0 rfl [.int .i64 k, .bool o] _ (range_of HB3.out) Tryz.underlying65 rfl size_state ?_)
      | (go_at_call 166; refine (rowOf_at HT HO0.out k o HX).mono ?_; rintro e w1 ⟨rc, rfl, hrc, ho1⟩)
      | ((with_reducible show wpList _ _ _ (⟨some 8, _, _, _, _, _⟩ :: _) _ _); refine step_alloc rfl 316 rfl row0 _ zero_qrow ?_)
      | ((with_reducible show wpList _ _ _ (⟨none, .store 316 (.tmp 8) _, _, _, _, _⟩ :: _) _ _); refine step_store rfl 316 _ _ rfl w1.heap.size rfl rc rfl _ row0 (Blk.new _ _ _) hrc.out.size hrc.out.length.symm hrc.out.one ?_; intro w4 hB4 hz4 ho4; have HE := Lib.hid (row_end HO0.out HB6.out ho1 ho4); have HB34 := Lib.hid (row_end HO0.out HB3.out ho1 ho4).1; clear ho4)
      | ((with_reducible show wpList _ _ _ (⟨some 24, _, _, _, _, _⟩ :: _) _ _); refine wpList_load_mid rfl 245 _ rfl w1.heap.size 7 rfl ma _ (by rw [HMA.out]; exact at_against hrc.out hB4.out) Tryz.underlying245 rfl (by rw [HMA.out]; exact size_move) ?_)
      | ((with_reducible show wpList _ _ _ (⟨none, .store 245 (.tmp 6) _, _, _, _, _⟩ :: _) _ _); refine step_store rfl 245 _ _ rfl (W.heap.size + 1) rfl ma rfl _ mv0 HE.out.1 (by rw [HMA.out]; exact size_move) (by rw [HMA.out]; rfl) (by rw [HMA.out]; exact mvC_one _ _ _) ?_; intro w5 hB5 hz5 ho5)
      | fail)
    refine ret_cell2 rfl (W.heap.size + 1) rfl _ ma _ hB5.out Tryz.underlying245 rfl (by rw [HMA.out]; exact size_move) rfl ?_
    refine ⟨?_, HE.out.2.trans ho5 (fun i hi => .inr (by omega))⟩
    rw [HMA.out]
    cases s <;> rfl
  · cases same
    · skip
      go_enter Tryz.func193, Tryz.ntmps193
      go_wp2_with (first
        | ((with_reducible show wpList _ _ _ (⟨some 6, _, _, _, _, _⟩ :: _) _ _); refine step_alloc rfl 245 rfl mv0 _ zero_move ?_; rw [← HW0.out])
        | ((with_reducible show wpList _ _ _ (⟨some 11, _, _, _, _, _⟩ :: _) _ _); refine wpList_load_mid rfl 65 _ rfl W.heap.size 0 rfl [.int .i64 k, .bool o] _ (range_of HB3.out) Tryz.underlying65 rfl size_state ?_)
        | (go_at_call 166; refine (rowOf_at HT HO0.out k o HX).mono ?_; rintro e w1 ⟨rc, rfl, hrc, ho1⟩)
        | ((with_reducible show wpList _ _ _ (⟨some 8, _, _, _, _, _⟩ :: _) _ _); refine step_alloc rfl 316 rfl row0 _ zero_qrow ?_)
        | ((with_reducible show wpList _ _ _ (⟨none, .store 316 (.tmp 8) _, _, _, _, _⟩ :: _) _ _); refine step_store rfl 316 _ _ rfl w1.heap.size rfl rc rfl _ row0 (Blk.new _ _ _) hrc.out.size hrc.out.length.symm hrc.out.one ?_; intro w4 hB4 hz4 ho4; have HE := Lib.hid (row_end HO0.out HB6.out ho1 ho4); have HB34 := Lib.hid (row_end HO0.out HB3.out ho1 ho4).1; clear ho4)
        | ((with_reducible show wpList _ _ _ (⟨some 26, _, _, _, _, _⟩ :: _) _ _); refine wpList_load_mid rfl 65 _ rfl W.heap.size 0 rfl [.int .i64 k, .bool o] _ (range_of HB34.out) Tryz.underlying65 rfl size_state ?_)
        | ((with_reducible show wpList _ _ _ (⟨some 36, _, _, _, _, _⟩ :: _) _ _); refine wpList_load_mid rfl 245 _ rfl w1.heap.size 3 rfl mf _ (by rw [HMF.out]; exact at_for hrc.out hB4.out) Tryz.underlying245 rfl (by rw [HMF.out]; exact size_move) ?_)
        | ((with_reducible show wpList _ _ _ (⟨none, .store 245 (.tmp 6) _, _, _, _, _⟩ :: _) _ _); refine step_store rfl 245 _ _ rfl (W.heap.size + 1) rfl mf rfl _ mv0 HE.out.1 (by rw [HMF.out]; exact size_move) (by rw [HMF.out]; rfl) (by rw [HMF.out]; exact mvC_one _ _ _) ?_; intro w5 hB5 hz5 ho5)
        | fail)
      refine ret_cell2 rfl (W.heap.size + 1) rfl _ mf _ hB5.out Tryz.underlying245 rfl (by rw [HMF.out]; exact size_move) rfl ?_
      refine ⟨?_, HE.out.2.trans ho5 (fun i hi => .inr (by omega))⟩
      rw [HMF.out]
      have hne := of_decide_eq_false HSame.out.symm
      obtain ⟨e1, e2⟩ := qsOf_some HX.out
      cases s <;> cases agree <;> first | rfl | exact absurd ⟨e1, e2⟩ hne
    · obtain ⟨rfl, rfl⟩ := of_decide_eq_true HSame.out.symm
      obtain rfl : s = .no := by have := HX.out; unfold qsOf at this; rw [if_pos ⟨rfl, rfl⟩] at this; exact (Option.some.inj this).symm
      cases agree
      · skip
        go_enter Tryz.func193, Tryz.ntmps193
        go_wp2_with (first
          | ((with_reducible show wpList _ _ _ (⟨some 6, _, _, _, _, _⟩ :: _) _ _); refine step_alloc rfl 245 rfl mv0 _ zero_move ?_; rw [← HW0.out])
          | ((with_reducible show wpList _ _ _ (⟨some 11, _, _, _, _, _⟩ :: _) _ _); refine wpList_load_mid rfl 65 _ rfl W.heap.size 0 rfl [.int .i64 0, .bool false] _ (range_of HB3.out) Tryz.underlying65 rfl size_state ?_)
          | (go_at_call 166; refine (rowOf_at HT HO0.out 0 false HX).mono ?_; rintro e w1 ⟨rc, rfl, hrc, ho1⟩)
          | ((with_reducible show wpList _ _ _ (⟨some 8, _, _, _, _, _⟩ :: _) _ _); refine step_alloc rfl 316 rfl row0 _ zero_qrow ?_)
          | ((with_reducible show wpList _ _ _ (⟨none, .store 316 (.tmp 8) _, _, _, _, _⟩ :: _) _ _); refine step_store rfl 316 _ _ rfl w1.heap.size rfl rc rfl _ row0 (Blk.new _ _ _) hrc.out.size hrc.out.length.symm hrc.out.one ?_; intro w4 hB4 hz4 ho4; have HE := Lib.hid (row_end HO0.out HB6.out ho1 ho4); have HB34 := Lib.hid (row_end HO0.out HB3.out ho1 ho4).1; clear ho4)
          | ((with_reducible show wpList _ _ _ (⟨some 26, _, _, _, _, _⟩ :: _) _ _); refine wpList_load_mid rfl 65 _ rfl W.heap.size 0 rfl [.int .i64 0, .bool false] _ (range_of HB34.out) Tryz.underlying65 rfl size_state ?_)
          | ((with_reducible show wpList _ _ _ (⟨some 33, _, _, _, _, _⟩ :: _) _ _); refine wpList_load_mid rfl 65 _ rfl W.heap.size 0 rfl [.int .i64 0, .bool false] _ (range_of HB34.out) Tryz.underlying65 rfl size_state ?_)
          | ((with_reducible show wpList _ _ _ (⟨none, .store 245 (.tmp 6) _, _, _, _, _⟩ :: _) _ _); refine step_store rfl 245 _ _ rfl (W.heap.size + 1) rfl (mvC .no 2 false) rfl _ mv0 HE.out.1 size_move rfl (mvC_one _ _ _) ?_; intro w5 hB5 hz5 ho5)
          | fail)
        refine ret_cell2 rfl (W.heap.size + 1) rfl _ (mvC .no 2 false) _ hB5.out Tryz.underlying245 rfl size_move rfl ?_
        refine ⟨?_, HE.out.2.trans ho5 (fun i hi => .inr (by omega))⟩
        rfl
      · skip
        go_enter Tryz.func193, Tryz.ntmps193
        go_wp2_with (first
          | ((with_reducible show wpList _ _ _ (⟨some 6, _, _, _, _, _⟩ :: _) _ _); refine step_alloc rfl 245 rfl mv0 _ zero_move ?_; rw [← HW0.out])
          | ((with_reducible show wpList _ _ _ (⟨some 11, _, _, _, _, _⟩ :: _) _ _); refine wpList_load_mid rfl 65 _ rfl W.heap.size 0 rfl [.int .i64 0, .bool false] _ (range_of HB3.out) Tryz.underlying65 rfl size_state ?_)
          | (go_at_call 166; refine (rowOf_at HT HO0.out 0 false HX).mono ?_; rintro e w1 ⟨rc, rfl, hrc, ho1⟩)
          | ((with_reducible show wpList _ _ _ (⟨some 8, _, _, _, _, _⟩ :: _) _ _); refine step_alloc rfl 316 rfl row0 _ zero_qrow ?_)
          | ((with_reducible show wpList _ _ _ (⟨none, .store 316 (.tmp 8) _, _, _, _, _⟩ :: _) _ _); refine step_store rfl 316 _ _ rfl w1.heap.size rfl rc rfl _ row0 (Blk.new _ _ _) hrc.out.size hrc.out.length.symm hrc.out.one ?_; intro w4 hB4 hz4 ho4; have HE := Lib.hid (row_end HO0.out HB6.out ho1 ho4); have HB34 := Lib.hid (row_end HO0.out HB3.out ho1 ho4).1; clear ho4)
          | ((with_reducible show wpList _ _ _ (⟨some 26, _, _, _, _, _⟩ :: _) _ _); refine wpList_load_mid rfl 65 _ rfl W.heap.size 0 rfl [.int .i64 0, .bool false] _ (range_of HB34.out) Tryz.underlying65 rfl size_state ?_)
          | ((with_reducible show wpList _ _ _ (⟨some 36, _, _, _, _, _⟩ :: _) _ _); refine wpList_load_mid rfl 245 _ rfl w1.heap.size 3 rfl mf _ (by rw [HMF.out]; exact at_for hrc.out hB4.out) Tryz.underlying245 rfl (by rw [HMF.out]; exact size_move) ?_)
          | ((with_reducible show wpList _ _ _ (⟨none, .store 245 (.tmp 6) _, _, _, _, _⟩ :: _) _ _); refine step_store rfl 245 _ _ rfl (W.heap.size + 1) rfl mf rfl _ mv0 HE.out.1 (by rw [HMF.out]; exact size_move) (by rw [HMF.out]; rfl) (by rw [HMF.out]; exact mvC_one _ _ _) ?_; intro w5 hB5 hz5 ho5)
          | fail)
        refine ret_cell2 rfl (W.heap.size + 1) rfl _ mf _ hB5.out Tryz.underlying245 rfl (by rw [HMF.out]; exact size_move) rfl ?_
        refine ⟨?_, HE.out.2.trans ho5 (fun i hi => .inr (by omega))⟩
        rw [HMF.out]
        rfl
end Go.Proofs.YtbnfhklpobephaaGreatDoor
/- Package qstate: Ask, Calm, Word. -/
namespace Go.Proofs.YtbnfhklpobephaaGreatDoor
open Go Go.RowKit
set_option maxRecDepth 100000
set_option maxHeartbeats 4000000

theorem eq_ask (W : World) (s : Qs) (on : Bool) : (Op.equalIn 10000 245 (.agg (askC s on).toArray) (.agg #[.int .i64 0, .bool false, .int .i64 0, .bool false])).run Tryz.prog W = .ok (askQ s on).isNone W := by
  cases s <;> cases on <;> kernel_rfl
theorem guard_move : Tryz.prog.eqGuardType Tryz.prog.depth 245 = false := by kernel_rfl
theorem askC_one (s : Qs) (on : Bool) : ∀ v ∈ askC s on, v.oneCell' = true := by
  unfold askC
  cases askQ s on <;> exact mvC_one _ _ _
theorem askC_size (s : Qs) (on : Bool) : (Tryz.prog.info? 245).map (·.size) = some (askC s on).length := by rw [askC_length]; exact size_move

/-- Where an asking stands: the result's variable, and what came of it. -/
structure AskAt (W w : World) (b c : Nat) (mc : List Value) : Prop where
  res : Blk w b 245 mv0
  mv : Blk w c 245 mc
  only : Only (fun _ => False) W w
  new : W.heap.size ≤ b ∧ W.heap.size ≤ c ∧ b ≠ c
theorem AskAt.first {W w4 w5 : World} {b : Nat} {t : TypeId} {cs mo : List Value} (hb : Blk w4 b 245 mv0) (ho : Only (fun _ => False) W w4) (h5 : Blk w5 w4.heap.size 245 mo) (ho5 : Only (· = w4.heap.size) (w4.alloc (.cells cs.toArray t)) w5) (hW : W.heap.size ≤ b) : AskAt W w5 b w4.heap.size mo :=
  have hlt := hb.lt
  ⟨(hb.alloc _).only ho5 (by omega), h5, only_row (Only.refl _ _) ho _ ho5, hW, ho.size, by omega⟩
theorem AskAt.next {W w w' : World} {b c : Nat} {mc mo : List Value} (h : AskAt W w b c mo) (hb : Blk w' c 245 mc) (ho : Only (· = c) w w') : AskAt W w' b c mc :=
  ⟨h.res.only ho h.new.2.2, hb, h.only.trans ho (fun i hi => .inr (by have := h.new; omega)), h.new⟩
theorem AskAt.done {W w w' : World} {b c : Nat} {mc : List Value} (h : AskAt W w b c mc) (ho : Only (· = b) w w') : Only (fun _ => False) W w' := h.only.trans ho (fun i hi => .inr (by have := h.new; omega))
/-- Refused with the error of the state. -/
def RefusedS (W : World) (e : Ending) (w' : World) : Prop := (∃ u v, W.var? Tryz.prog "truchman/api.ErrState" = some #[.iface u v] ∧ e = .returned (.tuple #[.agg mv0.toArray, .iface u v])) ∧ Only (fun _ => False) W w'
theorem ask_someS {W : World} (hT : QsW W) (k : Int) (o on : Bool) {s : Qs} (hx : qsOf k o = some s) : Calls Tryz.prog 119 #[.agg #[.int .i64 k, .bool o], .bool on] W
    (fun e w' => (∃ r, askQ s on = some r ∧ Moved W (mvC r.1 r.2 false) e w') ∨ (askQ s on = none ∧ RefusedS W e w')) := by
  have HT := Lib.hid hT
  have HX := Lib.hid hx
  obtain ⟨bad, hbad⟩ : ∃ bad, bad = (askQ s on).isNone := ⟨_, rfl⟩
  obtain ⟨mc, hmc⟩ : ∃ mc, mc = askC s on := ⟨_, rfl⟩
  obtain ⟨mo, hmo⟩ : ∃ mo, mo = askC s false := ⟨_, rfl⟩
  have heq : ∀ W, (Op.equalIn 10000 245 (.agg mc.toArray) (.agg #[.int .i64 0, .bool false, .int .i64 0, .bool false])).run Tryz.prog W = .ok bad W := fun W => by rw [hbad, hmc]; exact eq_ask W s on
  have HBad := Lib.hid hbad
  have hgr := guard_move
  have HMC := Lib.hid hmc
  have HMO := Lib.hid hmo
  clear hT hx hbad hmc hmo
  obtain ⟨W0, hW0⟩ : ∃ W0, W0 = (W.alloc (.cells #[.int .i64 k, .bool o] 65)).alloc (.cells mv0.toArray 245) := ⟨_, rfl⟩
  have HB3 : Hid (Blk W0 W.heap.size 65 [.int .i64 k, .bool o]) := by rw [hW0]; exact (Blk.new W _ [.int .i64 k, .bool o]).alloc _
  have HB4 : Hid (Blk W0 (W.heap.size + 1) 245 mv0) := by rw [hW0]; exact Blk.new' _ _ mv0 (by simp)
  have HO0 : Hid (Only (fun _ => False) W W0) := by rw [hW0]; exact (alloc_only _).alloc _
  have HW0 := Lib.hid hW0
  clear hW0
  cases on
  · have e0 : mc = mo := by rw [HMC.out, HMO.out]
    rw [e0] at heq
    clear e0
    cases bad
    · skip
      go_enter Tryz.func119, Tryz.ntmps119
      go_wp2_with (first
        | ((with_reducible show wpList _ _ _ (⟨some 4, _, _, _, _, _⟩ :: _) _ _); refine step_alloc rfl 245 rfl mv0 _ zero_move ?_; rw [← HW0.out])
        | ((with_reducible show wpList _ _ _ (⟨some 10, _, _, _, _, _⟩ :: _) _ _); refine wpList_load_mid rfl 65 _ rfl W.heap.size 0 rfl [.int .i64 k, .bool o] _ (range_of HB3.out) Tryz.underlying65 rfl size_state ?_)
        | (go_at_call 166; refine (rowOf_at HT HO0.out k o HX).mono ?_; rintro e w1 ⟨rc, rfl, hrc, ho1⟩)
        | ((with_reducible show wpList _ _ _ (⟨some 6, _, _, _, _, _⟩ :: _) _ _); refine step_alloc rfl 316 rfl row0 _ zero_qrow ?_)
        | ((with_reducible show wpList _ _ _ (⟨none, .store 316 (.tmp 6) _, _, _, _, _⟩ :: _) _ _); refine step_store rfl 316 _ _ rfl w1.heap.size rfl rc rfl _ row0 (Blk.new _ _ _) hrc.out.size hrc.out.length.symm hrc.out.one ?_; intro w4 hB4 hz4 ho4; have HE := Lib.hid (row_end HO0.out HB4.out ho1 ho4); clear ho4)
        | ((with_reducible show wpList _ _ _ (⟨some 19, _, _, _, _, _⟩ :: _) _ _); refine wpList_load_mid rfl 245 _ rfl w1.heap.size 15 rfl mo _ (by rw [HMO.out]; exact at_off hrc.out hB4.out) Tryz.underlying245 rfl (by rw [HMO.out]; exact askC_size _ _) ?_)
        | ((with_reducible show wpList _ _ _ (⟨some 8, _, _, _, _, _⟩ :: _) _ _); refine step_alloc rfl 245 rfl mv0 _ zero_move ?_)
        | ((with_reducible show wpList _ _ _ (⟨none, .store 245 (.tmp 8) (.tmp 19), _, _, _, _⟩ :: _) _ _); refine step_store rfl 245 _ _ rfl w4.heap.size rfl mo rfl _ mv0 (Blk.new _ _ _) (by rw [HMO.out]; exact askC_size _ _) (by rw [HMO.out, askC_length]; rfl) (by rw [HMO.out]; exact askC_one _ _) ?_; intro w5 hB5 hz5 ho5; have HS5 := Lib.hid (AskAt.first HE.out.1 HE.out.2 hB5.out ho5 (by omega)); have HR5 := Lib.hid (((hB4.out.alloc _).only ho5 (by have := hB4.out.lt; omega))); clear ho5)
        | ((with_reducible show wpList _ _ _ (⟨some 23, _, _, _, _, _⟩ :: _) _ _); refine wpList_load_mid rfl 245 _ rfl w4.heap.size 0 rfl mo _ (range_of HS5.out.mv) Tryz.underlying245 rfl (by rw [HMO.out]; exact askC_size _ _) ?_)
        | ((with_reducible show wpList _ _ _ (⟨some 28, _, _, _, _, _⟩ :: _) _ _); refine wpList_load_mid rfl 245 _ rfl w4.heap.size 0 rfl mo _ (range_of HS5.out.mv) Tryz.underlying245 rfl (by rw [HMO.out]; exact askC_size _ _) ?_)
        | ((with_reducible show wpList _ _ _ (⟨none, .store 245 (.tmp 4) (.tmp 28), _, _, _, _⟩ :: _) _ _); refine step_store rfl 245 _ _ rfl (W.heap.size + 1) rfl mo rfl _ mv0 HS5.out.res (by rw [HMO.out]; exact askC_size _ _) (by rw [HMO.out, askC_length]; rfl) (by rw [HMO.out]; exact askC_one _ _) ?_; intro w7 hB7 hz7 ho7)
        | fail)
      refine ret_cell2 rfl (W.heap.size + 1) rfl _ mo _ hB7.out Tryz.underlying245 rfl (by rw [HMO.out]; exact askC_size _ _) rfl ?_
      cases e : askQ s false with
      | none => have := HBad.out; rw [e] at this; cases this
      | some r =>
        refine .inl ⟨r, rfl, ?_, HS5.out.done ho7⟩
        have e2 : mo = mvC r.1 r.2 false := by rw [HMO.out]; unfold askC; rw [e]
        rw [e2]
        rfl
    · skip
      go_enter Tryz.func119, Tryz.ntmps119
      go_wp2_with (first
        | ((with_reducible show wpList _ _ _ (⟨some 4, _, _, _, _, _⟩ :: _) _ _); refine step_alloc rfl 245 rfl mv0 _ zero_move ?_; rw [← HW0.out])
        | ((with_reducible show wpList _ _ _ (⟨some 10, _, _, _, _, _⟩ :: _) _ _); refine wpList_load_mid rfl 65 _ rfl W.heap.size 0 rfl [.int .i64 k, .bool o] _ (range_of HB3.out) Tryz.underlying65 rfl size_state ?_)
        | (go_at_call 166; refine (rowOf_at HT HO0.out k o HX).mono ?_; rintro e w1 ⟨rc, rfl, hrc, ho1⟩)
        | ((with_reducible show wpList _ _ _ (⟨some 6, _, _, _, _, _⟩ :: _) _ _); refine step_alloc rfl 316 rfl row0 _ zero_qrow ?_)
        | ((with_reducible show wpList _ _ _ (⟨none, .store 316 (.tmp 6) _, _, _, _, _⟩ :: _) _ _); refine step_store rfl 316 _ _ rfl w1.heap.size rfl rc rfl _ row0 (Blk.new _ _ _) hrc.out.size hrc.out.length.symm hrc.out.one ?_; intro w4 hB4 hz4 ho4; have HE := Lib.hid (row_end HO0.out HB4.out ho1 ho4); clear ho4)
        | ((with_reducible show wpList _ _ _ (⟨some 19, _, _, _, _, _⟩ :: _) _ _); refine wpList_load_mid rfl 245 _ rfl w1.heap.size 15 rfl mo _ (by rw [HMO.out]; exact at_off hrc.out hB4.out) Tryz.underlying245 rfl (by rw [HMO.out]; exact askC_size _ _) ?_)
        | ((with_reducible show wpList _ _ _ (⟨some 8, _, _, _, _, _⟩ :: _) _ _); refine step_alloc rfl 245 rfl mv0 _ zero_move ?_)
        | ((with_reducible show wpList _ _ _ (⟨none, .store 245 (.tmp 8) (.tmp 19), _, _, _, _⟩ :: _) _ _); refine step_store rfl 245 _ _ rfl w4.heap.size rfl mo rfl _ mv0 (Blk.new _ _ _) (by rw [HMO.out]; exact askC_size _ _) (by rw [HMO.out, askC_length]; rfl) (by rw [HMO.out]; exact askC_one _ _) ?_; intro w5 hB5 hz5 ho5; have HS5 := Lib.hid (AskAt.first HE.out.1 HE.out.2 hB5.out ho5 (by omega)); have HR5 := Lib.hid (((hB4.out.alloc _).only ho5 (by have := hB4.out.lt; omega))); clear ho5)
        | ((with_reducible show wpList _ _ _ (⟨some 23, _, _, _, _, _⟩ :: _) _ _); refine wpList_load_mid rfl 245 _ rfl w4.heap.size 0 rfl mo _ (range_of HS5.out.mv) Tryz.underlying245 rfl (by rw [HMO.out]; exact askC_size _ _) ?_)
        | ((with_reducible show wpList _ _ _ (⟨some 28, _, _, _, _, _⟩ :: _) _ _); refine wpList_load_mid rfl 245 _ rfl w4.heap.size 0 rfl mo _ (range_of HS5.out.mv) Tryz.underlying245 rfl (by rw [HMO.out]; exact askC_size _ _) ?_)
        | fail)
      obtain ⟨u, v, hv⟩ := HT.out.state
      have hS := HS5.out
      have hc := hS.only.cellv (World.var?_cell rfl hv 0) (fun h => h)
      have hne : 9 ≠ W.heap.size + 1 := by have := World.block_lt_of_cell? _ _ (World.var?_cell rfl hv 0 : W.cell? ⟨9, 0, none⟩ = _); simp only at this; omega
      have hR := hS.res
      have hO5 := fun W' => hS.done (w' := W')
      have HV := Lib.hid hv
      clear hv hS
      refine wp_refuse 245 38 _ 9 4 26 27 (W.heap.size + 1) (.iface u v) mv0 (by kernel_rfl) rfl rfl rfl rfl rfl rfl rfl rfl rfl rfl (by kernel_rfl) (by kernel_rfl) (by kernel_rfl) (by kernel_rfl) (by kernel_rfl) (by kernel_rfl) (by kernel_rfl) (by kernel_rfl) (by kernel_rfl) size_move (mvC_one _ _ _) load_err rfl hc rfl rfl rfl hR rfl hne ?_
      intro W8 hB8 ho8
      go_wp2
      refine ret_cell2 rfl (W.heap.size + 1) rfl _ mv0 _ hB8.out Tryz.underlying245 rfl size_move rfl ?_
      exact .inr ⟨by have := HBad.out; cases e : askQ s false with | none => rfl | some r => (rw [e] at this; cases this), ⟨u, v, HV.out, rfl⟩, hO5 _ ho8.out⟩
  · cases bad
    · skip
      go_enter Tryz.func119, Tryz.ntmps119
      go_wp2_with (first
        | ((with_reducible show wpList _ _ _ (⟨some 4, _, _, _, _, _⟩ :: _) _ _); refine step_alloc rfl 245 rfl mv0 _ zero_move ?_; rw [← HW0.out])
        | ((with_reducible show wpList _ _ _ (⟨some 10, _, _, _, _, _⟩ :: _) _ _); refine wpList_load_mid rfl 65 _ rfl W.heap.size 0 rfl [.int .i64 k, .bool o] _ (range_of HB3.out) Tryz.underlying65 rfl size_state ?_)
        | (go_at_call 166; refine (rowOf_at HT HO0.out k o HX).mono ?_; rintro e w1 ⟨rc, rfl, hrc, ho1⟩)
        | ((with_reducible show wpList _ _ _ (⟨some 6, _, _, _, _, _⟩ :: _) _ _); refine step_alloc rfl 316 rfl row0 _ zero_qrow ?_)
        | ((with_reducible show wpList _ _ _ (⟨none, .store 316 (.tmp 6) _, _, _, _, _⟩ :: _) _ _); refine step_store rfl 316 _ _ rfl w1.heap.size rfl rc rfl _ row0 (Blk.new _ _ _) hrc.out.size hrc.out.length.symm hrc.out.one ?_; intro w4 hB4 hz4 ho4; have HE := Lib.hid (row_end HO0.out HB4.out ho1 ho4); clear ho4)
        | ((with_reducible show wpList _ _ _ (⟨some 19, _, _, _, _, _⟩ :: _) _ _); refine wpList_load_mid rfl 245 _ rfl w1.heap.size 15 rfl mo _ (by rw [HMO.out]; exact at_off hrc.out hB4.out) Tryz.underlying245 rfl (by rw [HMO.out]; exact askC_size _ _) ?_)
        | ((with_reducible show wpList _ _ _ (⟨some 8, _, _, _, _, _⟩ :: _) _ _); refine step_alloc rfl 245 rfl mv0 _ zero_move ?_)
        | ((with_reducible show wpList _ _ _ (⟨none, .store 245 (.tmp 8) (.tmp 19), _, _, _, _⟩ :: _) _ _); refine step_store rfl 245 _ _ rfl w4.heap.size rfl mo rfl _ mv0 (Blk.new _ _ _) (by rw [HMO.out]; exact askC_size _ _) (by rw [HMO.out, askC_length]; rfl) (by rw [HMO.out]; exact askC_one _ _) ?_; intro w5 hB5 hz5 ho5; have HS5 := Lib.hid (AskAt.first HE.out.1 HE.out.2 hB5.out ho5 (by omega)); have HR5 := Lib.hid (((hB4.out.alloc _).only ho5 (by have := hB4.out.lt; omega))); clear ho5)
        | ((with_reducible show wpList _ _ _ (⟨some 22, _, _, _, _, _⟩ :: _) _ _); refine wpList_load_mid rfl 245 _ rfl w1.heap.size 11 rfl mc _ (by rw [HMC.out]; exact at_on hrc.out HR5.out) Tryz.underlying245 rfl (by rw [HMC.out]; exact askC_size _ _) ?_)
        | ((with_reducible show wpList _ _ _ (⟨none, .store 245 (.tmp 8) (.tmp 22), _, _, _, _⟩ :: _) _ _); refine step_store rfl 245 _ _ rfl w4.heap.size rfl mc rfl _ mo HS5.out.mv (by rw [HMC.out]; exact askC_size _ _) (by rw [HMC.out, HMO.out, askC_length, askC_length]) (by rw [HMC.out]; exact askC_one _ _) ?_; intro w6 hB6 hz6 ho6; have HS6 := Lib.hid (HS5.out.next hB6.out ho6); clear ho6)
        | ((with_reducible show wpList _ _ _ (⟨some 23, _, _, _, _, _⟩ :: _) _ _); refine wpList_load_mid rfl 245 _ rfl w4.heap.size 0 rfl mc _ (range_of HS6.out.mv) Tryz.underlying245 rfl (by rw [HMC.out]; exact askC_size _ _) ?_)
        | ((with_reducible show wpList _ _ _ (⟨some 28, _, _, _, _, _⟩ :: _) _ _); refine wpList_load_mid rfl 245 _ rfl w4.heap.size 0 rfl mc _ (range_of HS6.out.mv) Tryz.underlying245 rfl (by rw [HMC.out]; exact askC_size _ _) ?_)
        | ((with_reducible show wpList _ _ _ (⟨none, .store 245 (.tmp 4) (.tmp 28), _, _, _, _⟩ :: _) _ _); refine step_store rfl 245 _ _ rfl (W.heap.size + 1) rfl mc rfl _ mv0 HS6.out.res (by rw [HMC.out]; exact askC_size _ _) (by rw [HMC.out, askC_length]; rfl) (by rw [HMC.out]; exact askC_one _ _) ?_; intro w7 hB7 hz7 ho7)
        | fail)
      refine ret_cell2 rfl (W.heap.size + 1) rfl _ mc _ hB7.out Tryz.underlying245 rfl (by rw [HMC.out]; exact askC_size _ _) rfl ?_
      cases e : askQ s true with
      | none => have := HBad.out; rw [e] at this; cases this
      | some r =>
        refine .inl ⟨r, rfl, ?_, HS6.out.done ho7⟩
        have e2 : mc = mvC r.1 r.2 false := by rw [HMC.out]; unfold askC; rw [e]
        rw [e2]
        rfl
    · skip
      go_enter Tryz.func119, Tryz.ntmps119
      go_wp2_with (first
        | ((with_reducible show wpList _ _ _ (⟨some 4, _, _, _, _, _⟩ :: _) _ _); refine step_alloc rfl 245 rfl mv0 _ zero_move ?_; rw [← HW0.out])
        | ((with_reducible show wpList _ _ _ (⟨some 10, _, _, _, _, _⟩ :: _) _ _); refine wpList_load_mid rfl 65 _ rfl W.heap.size 0 rfl [.int .i64 k, .bool o] _ (range_of HB3.out) Tryz.underlying65 rfl size_state ?_)
        | (go_at_call 166; refine (rowOf_at HT HO0.out k o HX).mono ?_; rintro e w1 ⟨rc, rfl, hrc, ho1⟩)
        | ((with_reducible show wpList _ _ _ (⟨some 6, _, _, _, _, _⟩ :: _) _ _); refine step_alloc rfl 316 rfl row0 _ zero_qrow ?_)
        | ((with_reducible show wpList _ _ _ (⟨none, .store 316 (.tmp 6) _, _, _, _, _⟩ :: _) _ _); refine step_store rfl 316 _ _ rfl w1.heap.size rfl rc rfl _ row0 (Blk.new _ _ _) hrc.out.size hrc.out.length.symm hrc.out.one ?_; intro w4 hB4 hz4 ho4; have HE := Lib.hid (row_end HO0.out HB4.out ho1 ho4); clear ho4)
        | ((with_reducible show wpList _ _ _ (⟨some 19, _, _, _, _, _⟩ :: _) _ _); refine wpList_load_mid rfl 245 _ rfl w1.heap.size 15 rfl mo _ (by rw [HMO.out]; exact at_off hrc.out hB4.out) Tryz.underlying245 rfl (by rw [HMO.out]; exact askC_size _ _) ?_)
        | ((with_reducible show wpList _ _ _ (⟨some 8, _, _, _, _, _⟩ :: _) _ _); refine step_alloc rfl 245 rfl mv0 _ zero_move ?_)
        | ((with_reducible show wpList _ _ _ (⟨none, .store 245 (.tmp 8) (.tmp 19), _, _, _, _⟩ :: _) _ _); refine step_store rfl 245 _ _ rfl w4.heap.size rfl mo rfl _ mv0 (Blk.new _ _ _) (by rw [HMO.out]; exact askC_size _ _) (by rw [HMO.out, askC_length]; rfl) (by rw [HMO.out]; exact askC_one _ _) ?_; intro w5 hB5 hz5 ho5; have HS5 := Lib.hid (AskAt.first HE.out.1 HE.out.2 hB5.out ho5 (by omega)); have HR5 := Lib.hid (((hB4.out.alloc _).only ho5 (by have := hB4.out.lt; omega))); clear ho5)
        | ((with_reducible show wpList _ _ _ (⟨some 22, _, _, _, _, _⟩ :: _) _ _); refine wpList_load_mid rfl 245 _ rfl w1.heap.size 11 rfl mc _ (by rw [HMC.out]; exact at_on hrc.out HR5.out) Tryz.underlying245 rfl (by rw [HMC.out]; exact askC_size _ _) ?_)
        | ((with_reducible show wpList _ _ _ (⟨none, .store 245 (.tmp 8) (.tmp 22), _, _, _, _⟩ :: _) _ _); refine step_store rfl 245 _ _ rfl w4.heap.size rfl mc rfl _ mo HS5.out.mv (by rw [HMC.out]; exact askC_size _ _) (by rw [HMC.out, HMO.out, askC_length, askC_length]) (by rw [HMC.out]; exact askC_one _ _) ?_; intro w6 hB6 hz6 ho6; have HS6 := Lib.hid (HS5.out.next hB6.out ho6); clear ho6)
        | ((with_reducible show wpList _ _ _ (⟨some 23, _, _, _, _, _⟩ :: _) _ _); refine wpList_load_mid rfl 245 _ rfl w4.heap.size 0 rfl mc _ (range_of HS6.out.mv) Tryz.underlying245 rfl (by rw [HMC.out]; exact askC_size _ _) ?_)
        | ((with_reducible show wpList _ _ _ (⟨some 28, _, _, _, _, _⟩ :: _) _ _); refine wpList_load_mid rfl 245 _ rfl w4.heap.size 0 rfl mc _ (range_of HS6.out.mv) Tryz.underlying245 rfl (by rw [HMC.out]; exact askC_size _ _) ?_)
        | fail)
      obtain ⟨u, v, hv⟩ := HT.out.state
      have hS := HS6.out
      have hc := hS.only.cellv (World.var?_cell rfl hv 0) (fun h => h)
      have hne : 9 ≠ W.heap.size + 1 := by have := World.block_lt_of_cell? _ _ (World.var?_cell rfl hv 0 : W.cell? ⟨9, 0, none⟩ = _); simp only at this; omega
      have hR := hS.res
      have hO5 := fun W' => hS.done (w' := W')
      have HV := Lib.hid hv
      clear hv hS
      refine wp_refuse 245 38 _ 9 4 26 27 (W.heap.size + 1) (.iface u v) mv0 (by kernel_rfl) rfl rfl rfl rfl rfl rfl rfl rfl rfl rfl (by kernel_rfl) (by kernel_rfl) (by kernel_rfl) (by kernel_rfl) (by kernel_rfl) (by kernel_rfl) (by kernel_rfl) (by kernel_rfl) (by kernel_rfl) size_move (mvC_one _ _ _) load_err rfl hc rfl rfl rfl hR rfl hne ?_
      intro W8 hB8 ho8
      go_wp2
      refine ret_cell2 rfl (W.heap.size + 1) rfl _ mv0 _ hB8.out Tryz.underlying245 rfl size_move rfl ?_
      exact .inr ⟨by have := HBad.out; cases e : askQ s true with | none => rfl | some r => (rw [e] at this; cases this), ⟨u, v, HV.out, rfl⟩, hO5 _ ho8.out⟩

end Go.Proofs.YtbnfhklpobephaaGreatDoor
