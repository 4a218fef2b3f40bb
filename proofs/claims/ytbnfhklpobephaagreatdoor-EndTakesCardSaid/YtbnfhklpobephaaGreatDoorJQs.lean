/- Several texts in one. -/
import Derived.Test.YtbnfhklpobephaaGreatDoorJBase
import Derived.Test.YtbnfhklpobephaaGreatDoorKAlloc
import Derived.Test.YtbnfhklpobephaaGreatDoorKNaws
import Derived.Laws.StructEq
import Derived.Test.YtbnfhklpobephaaGreatDoorJMdHear
/- Package qstate: the table of right states; which row a state has. -/
namespace Go.Proofs.YtbnfhklpobephaaGreatDoor
open Go Go.RowKit
set_option maxRecDepth 100000
set_option maxHeartbeats 4000000

/-- A state's cells; a move's. -/
def qsC (s : Qs) : List Value := [.int .i64 (s.kind : Int), .bool s.opp]
def mvC (s : Qs) (n : Nat) (b : Bool) : List Value := [.int .i64 (s.kind : Int), .bool s.opp, .int .i64 (n : Int), .bool b]
def mv0 : List Value := mvC .no 0 false
/-- What comes of asking; nothing where it can't be asked for. -/
def askC (s : Qs) (on : Bool) : List Value := match askQ s on with | some r => mvC r.1 r.2 false | none => mv0
def hearC (s : Qs) (is agree : Bool) : List Value := mvC (hearQ s is agree).1 (hearQ s is agree).2.1 (hearQ s is agree).2.2
def qsWord : Qs → List UInt8
  | .no => [110, 111] | .yes => [121, 101, 115] | .wn => [119, 97, 110, 116, 110, 111] | .wnO => [119, 97, 110, 116, 110, 111, 33] | .wy => [119, 97, 110, 116, 121, 101, 115] | .wyO => [119, 97, 110, 116, 121, 101, 115, 33]
/-- A row's cells. -/
def rowC (s : Qs) : List Value := qsC s ++ [.string ⟨(qsWord s).toArray⟩] ++ hearC s true true ++ hearC s false true ++ askC s true ++ askC s false
def row0 : List Value := [.int .i64 0, .bool false, .string ⟨#[]⟩] ++ mv0 ++ mv0 ++ mv0 ++ mv0
def rowOfC : Option Qs → List Value
  | some s => rowC s
  | none => row0
def qsAll : List Qs := [.no, .yes, .wn, .wnO, .wy, .wyO]
def tabC : List Value := qsAll.flatMap rowC
theorem rowC_length (s : Qs) : (rowC s).length = 19 := by cases s <;> rfl
theorem rowC_one (s : Qs) : ∀ v ∈ rowC s, v.oneCell' = true := by
  have h : (rowC s).all Value.oneCell' = true := by cases s <;> rfl
  exact fun v hv => List.all_eq_true.1 h v hv
theorem tabC_length : tabC.length = 114 := rfl
theorem tabC_at {k : Nat} {s : Qs} (h : qsAll[k]? = some s) : (tabC.drop (k * 19)).take 19 = rowC s := by
  rcases k with _ | _ | _ | _ | _ | _ | k <;> simp only [qsAll, List.getElem?_cons_zero, List.getElem?_cons_succ, Option.some.injEq, List.getElem?_nil, reduceCtorEq] at h
  all_goals (subst h; rfl)

/-- The table is there. -/
def QsAt (W : World) : Prop := W.rangeAt 17 0 tabC
theorem QsAt.only {W W' : World} (h : QsAt W) (ho : Only (fun _ => False) W W') : QsAt W' := range_only h ho

theorem size_state : (Tryz.prog.info? 65).map (·.size) = some 2 := by kernel_rfl
theorem size_move : (Tryz.prog.info? 245).map (·.size) = some 4 := by kernel_rfl
theorem size_qrow : (Tryz.prog.info? 316).map (·.size) = some 19 := by kernel_rfl
theorem size_qtab : (Tryz.prog.info? 368).map (·.size) = some 114 := by kernel_rfl
theorem zero_qrow : (Tryz.prog.info? 316).map (fun i => (i.zero, i.size)) = some (some (.agg row0.toArray), 19) := by kernel_rfl
theorem guard_state : Tryz.prog.eqGuardType Tryz.prog.depth 65 = false := by kernel_rfl
theorem eq_state (W : World) (a c : Int) (b d : Bool) : (Op.equalIn 10000 65 (.agg #[.int .i64 a, .bool b]) (.agg #[.int .i64 c, .bool d])).run Tryz.prog W = .ok (decide (a = c ∧ b = d)) W := by
  rw [show (10000 : Nat) = 9999 + 1 from rfl, run_equalIn_struct W 9999 _ _ _ (by kernel_rfl) (by kernel_rfl)]
  have u3 : Tryz.prog.underlying 3 = some (.int .i64) := Tryz.underlying3
  have u4 : Tryz.prog.underlying 4 = some .bool := Tryz.underlying4
  simp only [Program.fieldsOf, Tryz.underlying65, Op.eqFields]
  simp [go_sem, u3, u4, Result.andThen]
  by_cases h1 : a = c <;> by_cases h2 : b = d <;> simp [h1, h2]

/-- Which states come ahead. -/
theorem qsOf_all {k : Int} {o : Bool} {s : Qs} (h : qsOf k o = some s) : k = (s.kind : Int) ∧ o = s.opp := qsOf_some h
theorem qsOf_at {k : Int} {o : Bool} {s : Qs} (h : (s.kind : Int) = k ∧ s.opp = o) : qsOf k o = some s := by
  obtain ⟨rfl, rfl⟩ := h
  exact qsOf_kind s
theorem qsOf_none {k : Int} {o : Bool} (h : ∀ i, i < 6 → ∀ s, qsAll[i]? = some s → ¬ ((s.kind : Int) = k ∧ s.opp = o)) : qsOf k o = none := by
  cases e : qsOf k o with
  | none => rfl
  | some s =>
    obtain ⟨h1, h2⟩ := qsOf_some e
    have key : ∃ i, i < 6 ∧ qsAll[i]? = some s := by
      cases s
      · exact ⟨0, by omega, rfl⟩
      · exact ⟨1, by omega, rfl⟩
      · exact ⟨2, by omega, rfl⟩
      · exact ⟨3, by omega, rfl⟩
      · exact ⟨4, by omega, rfl⟩
      · exact ⟨5, by omega, rfl⟩
    obtain ⟨i, hi, hs⟩ := key
    exact absurd ⟨h1.symm, h2.symm⟩ (h i hi s hs)

theorem index_tab (W : World) {k : Nat} {s : Qs} (h : qsAll[k]? = some s) : (Instr.index 368 (.agg tabC.toArray) (.int .i64 (k : Int))).run Tryz.prog W = .ok (.agg (rowC s).toArray) W := by
  rcases k with _ | _ | _ | _ | _ | _ | k <;> simp only [qsAll, List.getElem?_cons_zero, List.getElem?_cons_succ, Option.some.injEq, List.getElem?_nil, reduceCtorEq] at h
  all_goals (subst h; kernel_rfl)

theorem row_state {w : World} {b : Nat} {t : TypeId} {rc : List Value} {s : Qs} {sk : Int} {so : Bool} (h1 : rc = rowC s) (h2 : sk = (s.kind : Int)) (h3 : so = s.opp) (h : Blk w b t rc) : w.rangeAt b 0 [.int .i64 sk, .bool so] := by
  subst h1 h2 h3
  intro j v hj
  rw [Nat.zero_add, h.cell]
  rcases j with _ | _ | j
  · exact hj
  · exact hj
  · simp at hj
theorem rowOf_any {W : World} (hT : QsAt W) (k : Int) (o : Bool) : Calls Tryz.prog 166 #[.agg #[.int .i64 k, .bool o]] W fun e w' =>
    e = .returned (.tuple #[.agg (rowOfC (qsOf k o)).toArray, .bool (qsOf k o).isSome]) ∧ Only (fun _ => False) W w' := by
  have HT := Lib.hid hT
  clear hT
  obtain ⟨tab, htab⟩ : ∃ tab, tab = tabC := ⟨_, rfl⟩
  have HTab := Lib.hid htab
  have HT0 : Hid (∀ w, Only (fun _ => False) W w → w.rangeAt 17 0 tab) := fun w ho => by rw [HTab.out]; exact HT.out.only ho
  clear htab
  go_enter Tryz.func166, Tryz.ntmps166
  go_wp2_with (first
    | ((with_reducible show wpList _ _ _ (⟨some 2, _, _, _, _, _⟩ :: _) _ _); refine step_alloc rfl 316 rfl row0 _ zero_qrow ?_)
    | ((with_reducible show wpList _ _ _ (⟨some 6, _, _, _, _, _⟩ :: _) _ _); refine wpList_load_mid rfl 368 _ rfl 17 0 rfl tab _ (HT0.out _ (((Only.refl _ _).alloc _).alloc _)) Tryz.underlying368 rfl (by rw [HTab.out]; exact size_qtab) ?_))
  obtain ⟨N, hN⟩ : ∃ N, N = W.heap.size := ⟨_, rfl⟩
  obtain ⟨W0, hW0⟩ : ∃ W0, W0 = (W.alloc (.cells #[.int .i64 k, .bool o] 65)).alloc (.cells row0.toArray 316) := ⟨_, rfl⟩
  have HB1 : Blk W0 N 65 [.int .i64 k, .bool o] := by rw [hW0, hN]; exact (Blk.new W _ [.int .i64 k, .bool o]).alloc _
  have HB2 : Blk W0 (N + 1) 316 row0 := by rw [hW0, hN]; exact Blk.new' _ _ _ (by simp)
  have HO0 : Hid (Only (fun _ => False) W W0) := by rw [hW0]; exact ((Only.refl _ _).alloc _).alloc _
  have HZ : Hid (W0.heap.size = N + 2) := by rw [hW0, hN]; simp [Hid]
  have HNW : Hid (W.heap.size = N) := hN.symm
  rw [← hW0, ← hN]
  have HB1 := Lib.hid HB1
  have HB2 := Lib.hid HB2
  clear hW0 hN
  go_loopw [7] (fun i w => ∃ j : Nat, j ≤ 6 ∧ i = .int .i64 (j : Int) ∧ Hid (∀ i, i < j → ∀ s, qsAll[i]? = some s → ¬ ((s.kind : Int) = k ∧ s.opp = o)) ∧ Hid (Only (fun _ => False) W0 w)) (fun i _ => 6 - (intOf i).toNat)
  case atStart => exact ⟨0, Nat.zero_le _, rfl, (fun i hi => absurd hi (by omega)), Only.refl _ _⟩
  case round =>
    obtain ⟨j, hj, rfl, hno, ho⟩ := hrel
    by_cases hlt : j < 6
    · obtain ⟨s, hs⟩ : ∃ s, qsAll[j]? = some s := ⟨_, List.getElem?_eq_getElem (by exact hlt)⟩
      have HS := Lib.hid hs
      obtain ⟨rc, hrc⟩ : ∃ rc, rc = rowC s := ⟨_, rfl⟩
      have HRC := Lib.hid hrc
      have hidx : (Instr.index 368 (.agg tab.toArray) (.int .i64 (j : Int))).run Tryz.prog wr = .ok (.agg rc.toArray) wr := by rw [HTab.out, hrc]; exact index_tab wr hs
      obtain ⟨same, hsame⟩ : ∃ same, same = decide ((s.kind : Int) = k ∧ s.opp = o) := ⟨_, rfl⟩
      have heq : ∀ W, (Op.equalIn 10000 65 (.agg #[.int .i64 (s.kind : Int), .bool s.opp]) (.agg #[.int .i64 k, .bool o])).run Tryz.prog W = .ok same W := fun W => by rw [hsame]; exact eq_state W _ _ _ _
      have HSame := Lib.hid hsame
      have hgr := guard_state
      obtain ⟨sk, hsk⟩ : ∃ sk, sk = (s.kind : Int) := ⟨_, rfl⟩
      obtain ⟨so, hso⟩ : ∃ so, so = s.opp := ⟨_, rfl⟩
      rw [← hsk, ← hso] at heq
      have HSK := Lib.hid hsk
      have HSO := Lib.hid hso
      have HB1' := Lib.hid (HB1.out.only ho.out (fun h => h))
      have HB2' := Lib.hid (HB2.out.only ho.out (fun h => h))
      have hlN := HB2'.out.lt
      clear hs hrc hsame hsk hso
      cases same
      · go_wp2_with (first
          | ((with_reducible show wpList _ _ _ (⟨some 5, _, _, _, _, _⟩ :: _) _ _); refine step_alloc rfl 316 rfl row0 _ zero_qrow ?_)
          | ((with_reducible show wpList _ _ _ (⟨none, .store 316 (.tmp 5) _, _, _, _, _⟩ :: _) _ _); refine step_store rfl 316 _ _ rfl wr.heap.size rfl rc rfl _ row0 (Blk.new _ _ _) (by rw [HRC.out, rowC_length]; exact size_qrow) (by rw [HRC.out, rowC_length]; rfl) (by rw [HRC.out]; exact rowC_one s) ?_; intro w4 hB4 hz4 ho4)
          | ((with_reducible show wpList _ _ _ (⟨some 11, _, _, _, _, _⟩ :: _) _ _); refine wpList_load_mid rfl 65 _ rfl wr.heap.size 0 rfl [.int .i64 sk, .bool so] _ (row_state HRC.out HSK.out HSO.out hB4.out) Tryz.underlying65 rfl size_state ?_)
          | ((with_reducible show wpList _ _ _ (⟨some 12, _, _, _, _, _⟩ :: _) _ _); refine wpList_load_mid rfl 65 _ rfl N 0 rfl [.int .i64 k, .bool o] _ (range_of ((HB1'.out.alloc _).only ho4 (by have := HB1'.out.lt; omega))) Tryz.underlying65 rfl size_state ?_))
        go_roundw
        case rel =>
          refine ⟨j + 1, by omega, by go_num, fun i hi s' hs' => ?_, ho.out.trans ((((Only.refl (fun i => wr.heap.size ≤ i) wr).alloc _).trans ho4 (fun i hi => .inl (by omega))).mono (T := fun _ => False) (fun i hi => .inr hi)) (fun _ h => h.elim)⟩
          rcases Nat.lt_or_ge i j with h1 | h1
          · exact hno.out i h1 s' hs'
          · obtain rfl : i = j := by omega
            rw [HS.out] at hs'
            cases hs'
            exact of_decide_eq_false HSame.out.symm
        case measure => simp [intOf]; omega
      · go_wp2_with (first
          | ((with_reducible show wpList _ _ _ (⟨some 5, _, _, _, _, _⟩ :: _) _ _); refine step_alloc rfl 316 rfl row0 _ zero_qrow ?_)
          | ((with_reducible show wpList _ _ _ (⟨none, .store 316 (.tmp 5) _, _, _, _, _⟩ :: _) _ _); refine step_store rfl 316 _ _ rfl wr.heap.size rfl rc rfl _ row0 (Blk.new _ _ _) (by rw [HRC.out, rowC_length]; exact size_qrow) (by rw [HRC.out, rowC_length]; rfl) (by rw [HRC.out]; exact rowC_one s) ?_; intro w4 hB4 hz4 ho4)
          | ((with_reducible show wpList _ _ _ (⟨some 11, _, _, _, _, _⟩ :: _) _ _); refine wpList_load_mid rfl 65 _ rfl wr.heap.size 0 rfl [.int .i64 sk, .bool so] _ (row_state HRC.out HSK.out HSO.out hB4.out) Tryz.underlying65 rfl size_state ?_)
          | ((with_reducible show wpList _ _ _ (⟨some 12, _, _, _, _, _⟩ :: _) _ _); refine wpList_load_mid rfl 65 _ rfl N 0 rfl [.int .i64 k, .bool o] _ (range_of ((HB1'.out.alloc _).only ho4 (by have := HB1'.out.lt; omega))) Tryz.underlying65 rfl size_state ?_)
          | ((with_reducible show wpList _ _ _ (⟨some 14, _, _, _, _, _⟩ :: _) _ _); refine wpList_load_mid rfl 316 _ rfl wr.heap.size 0 rfl rc _ (range_of hB4.out) Tryz.underlying316 rfl (by rw [HRC.out, rowC_length]; exact size_qrow) ?_)
          | ((with_reducible show wpList _ _ _ (⟨none, .store 316 (.tmp 2) _, _, _, _, _⟩ :: _) _ _); refine step_store rfl 316 _ _ rfl (N + 1) rfl rc rfl _ row0 ((HB2'.out.alloc _).only ho4 (by omega)) (by rw [HRC.out, rowC_length]; exact size_qrow) (by rw [HRC.out, rowC_length]; rfl) (by rw [HRC.out]; exact rowC_one s) ?_; intro w5 hB5 hz5 ho5))
        refine ret_cell2 rfl (N + 1) rfl _ rc _ hB5.out Tryz.underlying316 rfl (by rw [HRC.out, rowC_length]; exact size_qrow) rfl ?_
        have e := qsOf_at (of_decide_eq_true HSame.out.symm)
        rw [e]
        refine ⟨by rw [HRC.out]; rfl, ?_⟩
        have h4 := ((((Only.refl (fun i => wr.heap.size ≤ i) wr).alloc (.cells row0.toArray 316)).trans ho4 (fun i hi => .inl (by omega))).mono (T := fun i => N ≤ i) (fun i hi => .inr hi))
        exact (HO0.out.trans ho.out (fun _ h => h.elim)).trans (h4.trans ho5 (fun i hi => .inl (by omega))) (fun i hi => .inr (by have := HNW.out; omega))
    · have HB2' := Lib.hid (HB2.out.only ho.out (fun h => h))
      go_wp2_with (first
        | ((with_reducible show wpList _ _ _ (⟨none, .store 316 (.tmp 2) _, _, _, _, _⟩ :: _) _ _); refine step_store rfl 316 _ _ rfl (N + 1) rfl row0 rfl _ row0 HB2'.out size_qrow rfl (fun v hv => List.all_eq_true.1 (show row0.all Value.oneCell' = true from rfl) v hv) ?_; intro w5 hB5 hz5 ho5))
      refine ret_cell2 rfl (N + 1) rfl _ row0 _ hB5.out Tryz.underlying316 rfl size_qrow rfl ?_
      obtain rfl : j = 6 := by omega
      rw [qsOf_none hno.out]
      exact ⟨rfl, (HO0.out.trans ho.out (fun _ h => h.elim)).trans ho5 (fun i hi => .inr (by have := HNW.out; omega))⟩
end Go.Proofs.YtbnfhklpobephaaGreatDoor
/- Package qstate: one contract for each of its calls. -/
namespace Go.Proofs.YtbnfhklpobephaaGreatDoor
open Go Go.RowKit
set_option maxRecDepth 100000
set_option maxHeartbeats 4000000

/-- What the calls read at package level. -/
structure QsW (W : World) : Prop where
  tab : QsAt W
  form : ErrAt Tryz.prog W "truchman/api.ErrForm"
  state : ErrAt Tryz.prog W "truchman/api.ErrState"
theorem QsW.only {W W' : World} (h : QsW W) (ho : Only (fun _ => False) W W') : QsW W' := ⟨h.tab.only ho, h.form.only ho, h.state.only ho⟩

theorem row0_one : ∀ v ∈ row0, v.oneCell' = true := fun v hv => List.all_eq_true.1 (show row0.all Value.oneCell' = true from rfl) v hv
theorem mvC_one (s : Qs) (n : Nat) (b : Bool) : ∀ v ∈ mvC s n b, v.oneCell' = true := by
  intro v hv
  simp only [mvC, List.mem_cons, List.not_mem_nil, or_false] at hv
  rcases hv with rfl | rfl | rfl | rfl <;> rfl
/-- A row, or none: its cells behind a name. -/
def RowIs (rc : List Value) (x : Option Qs) : Prop := rc = rowOfC x
theorem RowIs.length {rc : List Value} {x : Option Qs} (h : RowIs rc x) : rc.length = 19 := by
  unfold RowIs at h
  subst h
  cases x with
  | none => rfl
  | some s => exact rowC_length s
theorem RowIs.one {rc : List Value} {x : Option Qs} (h : RowIs rc x) : ∀ v ∈ rc, v.oneCell' = true := by
  unfold RowIs at h
  subst h
  cases x with
  | none => exact row0_one
  | some s => exact rowC_one s
theorem RowIs.size {rc : List Value} {x : Option Qs} (h : RowIs rc x) : (Tryz.prog.info? 316).map (·.size) = some rc.length := by rw [h.length]; exact size_qrow
theorem rowOf_at {W w : World} (hT : Hid (QsW W)) (ho : Only (fun _ => False) W w) (k : Int) (o : Bool) {x : Option Qs} (hx : Hid (qsOf k o = x)) : Calls Tryz.prog 166 #[.agg #[.int .i64 k, .bool o]] w fun e w' =>
    ∃ rc, e = .returned (.tuple #[.agg rc.toArray, .bool x.isSome]) ∧ Hid (RowIs rc x) ∧ Only (fun _ => False) w w' :=
  (rowOf_any (hT.out.only ho).tab k o).mono fun e w' ⟨he, h⟩ => ⟨_, by rw [he, hx.out], (show RowIs _ _ from rfl), h⟩

theorem alloc_only {W : World} (o : Obj) : Only (fun _ => False) W (W.alloc o) := (Only.refl _ _).alloc _
theorem only_row {W a b c : World} (h : Only (fun _ => False) W a) (h1 : Only (fun _ => False) a b) (o : Obj) (h2 : Only (· = b.heap.size) (b.alloc o) c) : Only (fun _ => False) W c :=
  (h.trans h1 (fun _ h => h.elim)).trans (((Only.refl (fun i => b.heap.size ≤ i) b).alloc o).trans h2 (fun i hi => .inl (by omega))) (fun i hi => .inr (by have := h.size; have := h1.size; omega))
theorem on_any (W : World) (k : Int) (o : Bool) : Calls Tryz.prog 101 #[.agg #[.int .i64 k, .bool o]] W fun e w' => e = .returned (.bool (decide (k = 1))) ∧ Only (fun _ => False) W w' := by
  go_enter Tryz.func101, Tryz.ntmps101
  go_wp2
  go_ret
  exact ⟨rfl, alloc_only _⟩

/-- The parts of a row. -/
theorem range_mid {w : World} {b : Nat} {t : TypeId} {rc pre mid post : List Value} (h : Blk w b t rc) (e : rc = pre ++ mid ++ post) {n : Nat} (hn : pre.length = n) : w.rangeAt b n mid := by
  subst hn
  intro j v hj
  have hl := (List.getElem?_eq_some_iff.1 hj).1
  rw [h.cell, e, List.append_assoc, List.getElem?_append_right (by omega), List.getElem?_append_left (by omega)]
  simpa using hj
section
variable {w : World} {b : Nat} {t : TypeId} {rc : List Value} {s : Qs}
theorem at_for (h : RowIs rc (some s)) (hb : Blk w b t rc) : w.rangeAt b 3 (hearC s true true) := range_mid (pre := qsC s ++ [.string ⟨(qsWord s).toArray⟩]) (post := hearC s false true ++ askC s true ++ askC s false) hb (by unfold RowIs at h; rw [h]; simp only [rowOfC, rowC, List.append_assoc]) rfl
theorem at_against (h : RowIs rc (some s)) (hb : Blk w b t rc) : w.rangeAt b 7 (hearC s false true) := range_mid (pre := qsC s ++ [.string ⟨(qsWord s).toArray⟩] ++ hearC s true true) (post := askC s true ++ askC s false) hb (by unfold RowIs at h; rw [h]; simp only [rowOfC, rowC, List.append_assoc]) rfl
theorem askC_length (s : Qs) (on : Bool) : (askC s on).length = 4 := by unfold askC; cases askQ s on <;> rfl
theorem at_on (h : RowIs rc (some s)) (hb : Blk w b t rc) : w.rangeAt b 11 (askC s true) := range_mid (pre := qsC s ++ [.string ⟨(qsWord s).toArray⟩] ++ hearC s true true ++ hearC s false true) (post := askC s false) hb (by unfold RowIs at h; rw [h]; simp only [rowOfC, rowC, List.append_assoc]) rfl
theorem at_off (h : RowIs rc (some s)) (hb : Blk w b t rc) : w.rangeAt b 15 (askC s false) := by
  refine range_mid (pre := qsC s ++ [.string ⟨(qsWord s).toArray⟩] ++ hearC s true true ++ hearC s false true ++ askC s true) (post := []) (mid := askC s false) hb (by unfold RowIs at h; rw [h]; simp only [rowOfC, rowC, List.append_assoc, List.append_nil]) ?_
  simp only [List.length_append, askC_length]
  rfl
end

/-- A move beside no error. -/
def Moved (W : World) (cs : List Value) (e : Ending) (w' : World) : Prop := e = .returned (.tuple #[.agg cs.toArray, .nilIface]) ∧ Only (fun _ => False) W w'
/-- No move, and an error. -/
def Refused (W : World) (e : Ending) (w' : World) : Prop := (∃ u v, e = .returned (.tuple #[.agg mv0.toArray, .iface u v])) ∧ Only (fun _ => False) W w'

theorem zero_move : (Tryz.prog.info? 245).map (fun i => (i.zero, i.size)) = some (some (.agg mv0.toArray), 4) := by kernel_rfl
/-- What a call that got its row has turned, and its result's variable. -/
theorem row_end {W w0 w1 w4 : World} {b : Nat} {t : TypeId} {cs : List Value} {o : Obj} (h0 : Only (fun _ => False) W w0) (hb : Blk w0 b t cs) (h1 : Only (fun _ => False) w0 w1) (h4 : Only (· = w1.heap.size) (w1.alloc o) w4) :
    Blk w4 b t cs ∧ Only (fun _ => False) W w4 := by
  have hlt := (hb.only h1 (fun h => h)).lt
  exact ⟨((hb.only h1 (fun h => h)).alloc _).only h4 (by omega), only_row h0 h1 _ h4⟩
theorem hear_none {W : World} (hT : QsW W) (k : Int) (o is agree : Bool) (hx : qsOf k o = none) : Calls Tryz.prog 193 #[.agg #[.int .i64 k, .bool o], .bool is, .bool agree] W (Refused W) := by
  have HT := Lib.hid hT
  have HX := Lib.hid hx
  clear hT hx
  go_enter Tryz.func193, Tryz.ntmps193
  go_wp2_with (first
    | (go_at_call 166; refine (rowOf_at HT ((alloc_only _).alloc _) k o HX).mono ?_; rintro e w1 ⟨rc, rfl, hrc, ho1⟩)
    | ((with_reducible show wpList _ _ _ (⟨some 8, _, _, _, _, _⟩ :: _) _ _); refine step_alloc rfl 316 rfl row0 _ zero_qrow ?_)
    | ((with_reducible show wpList _ _ _ (⟨none, .store 316 (.tmp 8) _, _, _, _, _⟩ :: _) _ _); refine step_store rfl 316 _ _ rfl w1.heap.size rfl rc rfl _ row0 (Blk.new _ _ _) hrc.out.size hrc.out.length.symm hrc.out.one ?_; intro w4 hB4 hz4 ho4))
  have hB6 : Blk w4 (W.heap.size + 1) 245 mv0 := ((Blk.new' (W.alloc (.cells #[.int .i64 k, .bool o] 65)) 245 mv0 (by simp)).only ho1 (fun h => h) |>.alloc _).only ho4 (by have := ho1.size; simp at this; omega)
  have hO : Only (fun _ => False) W w4 := only_row ((alloc_only _).alloc _) ho1 _ ho4
  obtain ⟨u, v, hv⟩ := HT.out.form
  have hc := hO.cellv (World.var?_cell rfl hv 0) (fun h => h)
  obtain ⟨N, hN⟩ : ∃ N, N = W.heap.size + 1 := ⟨_, rfl⟩
  rw [← hN] at hB6 ⊢
  have HN : Hid (N = W.heap.size + 1) := hN
  have HB6 := Lib.hid hB6
  have HO := Lib.hid hO
  have hne : 4 ≠ N := by have := World.block_lt_of_cell? _ _ (World.var?_cell rfl hv 0 : W.cell? ⟨4, 0, none⟩ = _); simp only at this; omega
  have hO5 : ∀ W', Only (· = N) w4 W' → Only (fun _ => False) W W' := fun W' h => hO.trans h (fun i hi => .inr (by omega))
  clear hN hO hv ho1 hB4 hz4 ho4 HB6
  refine wp_refuse 245 38 _ 4 6 18 19 N (.iface u v) mv0 (by kernel_rfl) rfl rfl rfl rfl rfl rfl rfl rfl rfl rfl (by kernel_rfl) (by kernel_rfl) (by kernel_rfl) (by kernel_rfl) (by kernel_rfl) (by kernel_rfl) (by kernel_rfl) (by kernel_rfl) (by kernel_rfl) size_move (mvC_one _ _ _) load_err rfl hc rfl rfl rfl hB6 rfl hne ?_
  intro W5 hB5 ho5
  go_wp2
  refine ret_cell2 rfl N rfl _ mv0 _ hB5.out Tryz.underlying245 rfl size_move rfl ?_
  exact ⟨⟨u, v, rfl⟩, hO5 _ ho5.out⟩

theorem hear_some {W : World} (hT : QsW W) (k : Int) (o is agree : Bool) {s : Qs} (hx : qsOf k o = some s) : Calls Tryz.prog 193 #[.agg #[.int .i64 k, .bool o], .bool is, .bool agree] W (Moved W (hearC s is agree)) := by
  have HT := Lib.hid hT
  have HX := Lib.hid hx
  obtain ⟨same, hsame⟩ : ∃ same, same = decide (k = 0 ∧ o = false) := ⟨_, rfl⟩
  have heq : ∀ W, (Op.equalIn 10000 65 (.agg #[.int .i64 k, .bool o]) (.agg #[.int .i64 0, .bool false])).run Tryz.prog W = .ok same W := fun W => by rw [hsame]; exact eq_state W _ _ _ _
  have HSame := Lib.hid hsame
  have hgr := guard_state
  obtain ⟨mf, hmf⟩ : ∃ mf, mf = hearC s true true := ⟨_, rfl⟩
  obtain ⟨ma, hma⟩ : ∃ ma, ma = hearC s false true := ⟨_, rfl⟩
  have HMF := Lib.hid hmf
  have HMA := Lib.hid hma
  clear hT hx hsame hmf hma
  obtain ⟨W0, hW0⟩ : ∃ W0, W0 = (W.alloc (.cells #[.int .i64 k, .bool o] 65)).alloc (.cells mv0.toArray 245) := ⟨_, rfl⟩
  have HB3 : Hid (Blk W0 W.heap.size 65 [.int .i64 k, .bool o]) := by rw [hW0]; exact (Blk.new W _ [.int .i64 k, .bool o]).alloc _
  have HB6 : Hid (Blk W0 (W.heap.size + 1) 245 mv0) := by rw [hW0]; exact Blk.new' _ _ mv0 (by simp)
  have HO0 : Hid (Only (fun _ => False) W W0) := by rw [hW0]; exact (alloc_only _).alloc _
  have HW0 := Lib.hid hW0
  clear hW0
  cases is
  · skip
    go_enter Tryz.func193, Tryz.ntmps193
    go_wp2_with (first
      | ((with_reducible show wpList _ _ _ (⟨some 6, _, _, _, _, _⟩ :: _) _ _); refine step_alloc rfl 245 rfl mv0 _ zero_move ?_; rw [← HW0.out])
      | ((with_reducible show wpList _ _ _ (⟨some 11, _, _, _, _, _⟩ :: _) _ _); refine wpList_load_mid rfl 65 _ rfl W.heap.size 0 rfl [.int .i64 k, .bool o] _ (range_of HB3.out) Tryz.underlying65 rfl size_state ?_)
      | (go_at_call 166; refine (rowOf_at HT HO0.out k o HX).mono ?_; rintro e w1 ⟨rc, rfl, hrc, ho1⟩)
      | ((with_reducible show wpList _ _ _ (⟨some 8, _, _, _, _, _⟩ :: _) _ _); refine step_alloc rfl 316 rfl row0 _ zero_qrow ?_)
      | ((with_reducible show wpList _ _ _ (⟨none, .store 316 (.tmp 8) _, _, _, _, _⟩ :: _) _ _); refine step_store rfl 316 _ _ rfl w1.heap.size rfl rc rfl _ row0 (Blk.new _ _ _) hrc.out.size hrc.out.length.symm hrc.out.one ?_; intro w4 hB4 hz4 ho4; have HE := Lib.hid (row_end HO0.out HB6.out ho1 ho4); have HB34 := Lib.hid (row_end HO0.out HB3.out ho1 ho4).1; clear ho4)
      | ((with_reducible show wpList _ _ _ (⟨some 24, _, _, _, _, _⟩ :: _) _ _); refine wpList_load_mid rfl 245 _ rfl w1.heap.size 7 rfl ma _ (by rw [HMA.out]; exact at_against hrc.out hB4.out) Tryz.underlying245 rfl (by rw [HMA.out]; exact size_move) ?_)
      | ((with_reducible show wpList _ _ _ (⟨none, .store 245 (.tmp 6) _, _, _, _, _⟩ :: _) _ _); refine step_store rfl 245 _ _ rfl (W.heap.size + 1) rfl ma rfl _ mv0 HE.out.1 (by rw [HMA.out]; exact size_move) (by rw [HMA.out]; rfl) (by rw [HMA.out]; exact mvC_one _ _ _) ?_; intro w5 hB5 hz5 ho5)
      | fail)
    refine ret_cell2 rfl (W.heap.size + 1) rfl _ ma _ hB5.out Tryz.underlying245 rfl (by rw [HMA.out]; exact size_move) rfl ?_
    refine ⟨?_, HE.out.2.trans ho5 (fun i hi => .inr (by omega))⟩
    rw [HMA.out]
    cases s <;> rfl
  · cases same
    · skip
      go_enter Tryz.func193, Tryz.ntmps193
      go_wp2_with (first
        | ((with_reducible show wpList _ _ _ (⟨some 6, _, _, _, _, _⟩ :: _) _ _); refine step_alloc rfl 245 rfl mv0 _ zero_move ?_; rw [← HW0.out])
        | ((with_reducible show wpList _ _ _ (⟨some 11, _, _, _, _, _⟩ :: _) _ _); refine wpList_load_mid rfl 65 _ rfl W.heap.size 0 rfl [.int .i64 k, .bool o] _ (range_of HB3.out) Tryz.underlying65 rfl size_state ?_)
        | (go_at_call 166; refine (rowOf_at HT HO0.out k o HX).mono ?_; rintro e w1 ⟨rc, rfl, hrc, ho1⟩)
        | ((with_reducible show wpList _ _ _ (⟨some 8, _, _, _, _, _⟩ :: _) _ _); refine step_alloc rfl 316 rfl row0 _ zero_qrow ?_)
        | ((with_reducible show wpList _ _ _ (⟨none, .store 316 (.tmp 8) _, _, _, _, _⟩ :: _) _ _); refine step_store rfl 316 _ _ rfl w1.heap.size rfl rc rfl _ row0 (Blk.new _ _ _) hrc.out.size hrc.out.length.symm hrc.out.one ?_; intro w4 hB4 hz4 ho4; have HE := Lib.hid (row_end HO0.out HB6.out ho1 ho4); have HB34 := Lib.hid (row_end HO0.out HB3.out ho1 ho4).1; clear ho4)
        | ((with_reducible show wpList _ _ _ (⟨some 26, _, _, _, _, _⟩ :: _) _ _); refine wpList_load_mid rfl 65 _ rfl W.heap.size 0 rfl [.int .i64 k, .bool o] _ (range_of HB34.out) Tryz.underlying65 rfl size_state ?_)
        | ((with_reducible show wpList _ _ _ (⟨some 36, _, _, _, _, _⟩ :: _) _ _); refine wpList_load_mid rfl 245 _ rfl w1.heap.size 3 rfl mf _ (by rw [HMF.out]; exact at_for hrc.out hB4.out) Tryz.underlying245 rfl (by rw [HMF.out]; exact size_move) ?_)
        | ((with_reducible show wpList _ _ _ (⟨none, .store 245 (.tmp 6) _, _, _, _, _⟩ :: _) _ _); refine step_store rfl 245 _ _ rfl (W.heap.size + 1) rfl mf rfl _ mv0 HE.out.1 (by rw [HMF.out]; exact size_move) (by rw [HMF.out]; rfl) (by rw [HMF.out]; exact mvC_one _ _ _) ?_; intro w5 hB5 hz5 ho5)
        | fail)
      refine ret_cell2 rfl (W.heap.size + 1) rfl _ mf _ hB5.out Tryz.underlying245 rfl (by rw [HMF.out]; exact size_move) rfl ?_
      refine ⟨?_, HE.out.2.trans ho5 (fun i hi => .inr (by omega))⟩
      rw [HMF.out]
      have hne := of_decide_eq_false HSame.out.symm
      obtain ⟨e1, e2⟩ := qsOf_some HX.out
      cases s <;> cases agree <;> first | rfl | exact absurd ⟨e1, e2⟩ hne
    · obtain ⟨rfl, rfl⟩ := of_decide_eq_true HSame.out.symm
      obtain rfl : s = .no := by have := HX.out; unfold qsOf at this; rw [if_pos ⟨rfl, rfl⟩] at this; exact (Option.some.inj this).symm
      cases agree
      · skip
        go_enter Tryz.func193, Tryz.ntmps193
        go_wp2_with (first
          | ((with_reducible show wpList _ _ _ (⟨some 6, _, _, _, _, _⟩ :: _) _ _); refine step_alloc rfl 245 rfl mv0 _ zero_move ?_; rw [← HW0.out])
          | ((with_reducible show wpList _ _ _ (⟨some 11, _, _, _, _, _⟩ :: _) _ _); refine wpList_load_mid rfl 65 _ rfl W.heap.size 0 rfl [.int .i64 0, .bool false] _ (range_of HB3.out) Tryz.underlying65 rfl size_state ?_)
          | (go_at_call 166; refine (rowOf_at HT HO0.out 0 false HX).mono ?_; rintro e w1 ⟨rc, rfl, hrc, ho1⟩)
          | ((with_reducible show wpList _ _ _ (⟨some 8, _, _, _, _, _⟩ :: _) _ _); refine step_alloc rfl 316 rfl row0 _ zero_qrow ?_)
          | ((with_reducible show wpList _ _ _ (⟨none, .store 316 (.tmp 8) _, _, _, _, _⟩ :: _) _ _); refine step_store rfl 316 _ _ rfl w1.heap.size rfl rc rfl _ row0 (Blk.new _ _ _) hrc.out.size hrc.out.length.symm hrc.out.one ?_; intro w4 hB4 hz4 ho4; have HE := Lib.hid (row_end HO0.out HB6.out ho1 ho4); have HB34 := Lib.hid (row_end HO0.out HB3.out ho1 ho4).1; clear ho4)
          | ((with_reducible show wpList _ _ _ (⟨some 26, _, _, _, _, _⟩ :: _) _ _); refine wpList_load_mid rfl 65 _ rfl W.heap.size 0 rfl [.int .i64 0, .bool false] _ (range_of HB34.out) Tryz.underlying65 rfl size_state ?_)
          | ((with_reducible show wpList _ _ _ (⟨some 33, _, _, _, _, _⟩ :: _) _ _); refine wpList_load_mid rfl 65 _ rfl W.heap.size 0 rfl [.int .i64 0, .bool false] _ (range_of HB34.out) Tryz.underlying65 rfl size_state ?_)
          | ((with_reducible show wpList _ _ _ (⟨none, .store 245 (.tmp 6) _, _, _, _, _⟩ :: _) _ _); refine step_store rfl 245 _ _ rfl (W.heap.size + 1) rfl (mvC .no 2 false) rfl _ mv0 HE.out.1 size_move rfl (mvC_one _ _ _) ?_; intro w5 hB5 hz5 ho5)
          | fail)
        refine ret_cell2 rfl (W.heap.size + 1) rfl _ (mvC .no 2 false) _ hB5.out Tryz.underlying245 rfl size_move rfl ?_
        refine ⟨?_, HE.out.2.trans ho5 (fun i hi => .inr (by omega))⟩
        rfl
      · skip
        go_enter Tryz.func193, Tryz.ntmps193
        go_wp2_with (first
          | ((with_reducible show wpList _ _ _ (⟨some 6, _, _, _, _, _⟩ :: _) _ _); refine step_alloc rfl 245 rfl mv0 _ zero_move ?_; rw [← HW0.out])
          | ((with_reducible show wpList _ _ _ (⟨some 11, _, _, _, _, _⟩ :: _) _ _); refine wpList_load_mid rfl 65 _ rfl W.heap.size 0 rfl [.int .i64 0, .bool false] _ (range_of HB3.out) Tryz.underlying65 rfl size_state ?_)
          | (go_at_call 166; refine (rowOf_at HT HO0.out 0 false HX).mono ?_; rintro e w1 ⟨rc, rfl, hrc, ho1⟩)
          | ((with_reducible show wpList _ _ _ (⟨some 8, _, _, _, _, _⟩ :: _) _ _); refine step_alloc rfl 316 rfl row0 _ zero_qrow ?_)
          | ((with_reducible show wpList _ _ _ (⟨none, .store 316 (.tmp 8) _, _, _, _, _⟩ :: _) _ _); refine step_store rfl 316 _ _ rfl w1.heap.size rfl rc rfl _ row0 (Blk.new _ _ _) hrc.out.size hrc.out.length.symm hrc.out.one ?_; intro w4 hB4 hz4 ho4; have HE := Lib.hid (row_end HO0.out HB6.out ho1 ho4); have HB34 := Lib.hid (row_end HO0.out HB3.out ho1 ho4).1; clear ho4)
          | ((with_reducible show wpList _ _ _ (⟨some 26, _, _, _, _, _⟩ :: _) _ _); refine wpList_load_mid rfl 65 _ rfl W.heap.size 0 rfl [.int .i64 0, .bool false] _ (range_of HB34.out) Tryz.underlying65 rfl size_state ?_)
          | ((with_reducible show wpList _ _ _ (⟨some 36, _, _, _, _, _⟩ :: _) _ _); refine wpList_load_mid rfl 245 _ rfl w1.heap.size 3 rfl mf _ (by rw [HMF.out]; exact at_for hrc.out hB4.out) Tryz.underlying245 rfl (by rw [HMF.out]; exact size_move) ?_)
          | ((with_reducible show wpList _ _ _ (⟨none, .store 245 (.tmp 6) _, _, _, _, _⟩ :: _) _ _); refine step_store rfl 245 _ _ rfl (W.heap.size + 1) rfl mf rfl _ mv0 HE.out.1 (by rw [HMF.out]; exact size_move) (by rw [HMF.out]; rfl) (by rw [HMF.out]; exact mvC_one _ _ _) ?_; intro w5 hB5 hz5 ho5)
          | fail)
        refine ret_cell2 rfl (W.heap.size + 1) rfl _ mf _ hB5.out Tryz.underlying245 rfl (by rw [HMF.out]; exact size_move) rfl ?_
        refine ⟨?_, HE.out.2.trans ho5 (fun i hi => .inr (by omega))⟩
        rw [HMF.out]
        rfl
end Go.Proofs.YtbnfhklpobephaaGreatDoor
