/- Several texts in one. -/
import Derived.Test.YtbnfhklpobephaaGreatDoorJQs
import Derived.Test.YtbnfhklpobephaaGreatDoorKNaws
/- Package qstate: Ask, Calm, Word. -/
namespace Go.Proofs.YtbnfhklpobephaaGreatDoor
open Go Go.RowKit
set_option maxRecDepth 100000
set_option maxHeartbeats 4000000

theorem eq_ask (W : World) (s : Qs) (on : Bool) : (Op.equalIn 10000 245 (.agg (askC s on).toArray) (.agg #[.int .i64 0, .bool false, .int .i64 0, .bool false])).run Tryz.prog W = .ok (askQ s on).isNone W := by
  cases s <;> cases on <;> kernel_rfl
theorem guard_move : Tryz.prog.eqGuardType Tryz.prog.depth 245 = false := by kernel_rfl
theorem askC_one (s : Qs) (on : Bool) : ∀ v ∈ askC s on, v.oneCell' = true := by
  unfold askC
  cases askQ s on <;> exact mvC_one _ _ _
theorem askC_size (s : Qs) (on : Bool) : (Tryz.prog.info? 245).map (·.size) = some (askC s on).length := by rw [askC_length]; exact size_move

theorem ask_none {W : World} (hT : QsW W) (k : Int) (o on : Bool) (hx : qsOf k o = none) : Calls Tryz.prog 119 #[.agg #[.int .i64 k, .bool o], .bool on] W (Refused W) := by
  have HT := Lib.hid hT
  have HX := Lib.hid hx
  clear hT hx
  go_enter Tryz.func119, Tryz.ntmps119
  go_wp2_with (first
    | (go_at_call 166; refine (rowOf_at HT ((alloc_only _).alloc _) k o HX).mono ?_; rintro e w1 ⟨rc, rfl, hrc, ho1⟩)
    | ((with_reducible show wpList _ _ _ (⟨some 6, _, _, _, _, _⟩ :: _) _ _); refine step_alloc rfl 316 rfl row0 _ zero_qrow ?_)
    | ((with_reducible show wpList _ _ _ (⟨none, .store 316 (.tmp 6) _, _, _, _, _⟩ :: _) _ _); refine step_store rfl 316 _ _ rfl w1.heap.size rfl rc rfl _ row0 (Blk.new _ _ _) hrc.out.size hrc.out.length.symm hrc.out.one ?_; intro w4 hB4 hz4 ho4))
  obtain ⟨hB6, hO⟩ := row_end ((alloc_only _).alloc _) (Blk.new' (W.alloc (.cells #[.int .i64 k, .bool o] 65)) 245 mv0 (n := W.heap.size + 1) (by simp)) ho1 ho4
  obtain ⟨u, v, hv⟩ := HT.out.form
  have hc := hO.cellv (World.var?_cell rfl hv 0) (fun h => h)
  have hne : 4 ≠ W.heap.size + 1 := by have := World.block_lt_of_cell? _ _ (World.var?_cell rfl hv 0 : W.cell? ⟨4, 0, none⟩ = _); simp only at this; omega
  have hO5 : ∀ W', Only (· = W.heap.size + 1) w4 W' → Only (fun _ => False) W W' := fun W' h => hO.trans h (fun i hi => .inr (by omega))
  clear hO hv ho1 hB4 hz4 ho4
  refine wp_refuse 245 38 _ 4 4 16 17 (W.heap.size + 1) (.iface u v) mv0 (by kernel_rfl) rfl rfl rfl rfl rfl rfl rfl rfl rfl rfl (by kernel_rfl) (by kernel_rfl) (by kernel_rfl) (by kernel_rfl) (by kernel_rfl) (by kernel_rfl) (by kernel_rfl) (by kernel_rfl) (by kernel_rfl) size_move (mvC_one _ _ _) load_err rfl hc rfl rfl rfl hB6 rfl hne ?_
  intro W5 hB5 ho5
  go_wp2
  refine ret_cell2 rfl (W.heap.size + 1) rfl _ mv0 _ hB5.out Tryz.underlying245 rfl size_move rfl ?_
  exact ⟨⟨u, v, rfl⟩, hO5 _ ho5.out⟩

/-- Where an asking stands: the result's variable, and what came of it. -/
structure AskAt (W w : World) (b c : Nat) (mc : List Value) : Prop where
  res : Blk w b 245 mv0
  mv : Blk w c 245 mc
  only : Only (fun _ => False) W w
  new : W.heap.size ≤ b ∧ W.heap.size ≤ c ∧ b ≠ c
theorem AskAt.first {W w4 w5 : World} {b : Nat} {t : TypeId} {cs mo : List Value} (hb : Blk w4 b 245 mv0) (ho : Only (fun _ => False) W w4) (h5 : Blk w5 w4.heap.size 245 mo) (ho5 : Only (· = w4.heap.size) (w4.alloc (.cells cs.toArray t)) w5) (hW : W.heap.size ≤ b) : AskAt W w5 b w4.heap.size mo :=
  have hlt := hb.lt
  ⟨(hb.alloc _).only ho5 (by omega), h5, only_row (Only.refl _ _) ho _ ho5, hW, ho.size, by omega⟩
theorem AskAt.next {W w w' : World} {b c : Nat} {mc mo : List Value} (h : AskAt W w b c mo) (hb : Blk w' c 245 mc) (ho : Only (· = c) w w') : AskAt W w' b c mc :=
  ⟨h.res.only ho h.new.2.2, hb, h.only.trans ho (fun i hi => .inr (by have := h.new; omega)), h.new⟩
theorem AskAt.done {W w w' : World} {b c : Nat} {mc : List Value} (h : AskAt W w b c mc) (ho : Only (· = b) w w') : Only (fun _ => False) W w' := h.only.trans ho (fun i hi => .inr (by have := h.new; omega))
/-- Refused with the error of the state. -/
def RefusedS (W : World) (e : Ending) (w' : World) : Prop := (∃ u v, W.var? Tryz.prog "truchman/api.ErrState" = some #[.iface u v] ∧ e = .returned (.tuple #[.agg mv0.toArray, .iface u v])) ∧ Only (fun _ => False) W w'
theorem ask_someS {W : World} (hT : QsW W) (k : Int) (o on : Bool) {s : Qs} (hx : qsOf k o = some s) : Calls Tryz.prog 119 #[.agg #[.int .i64 k, .bool o], .bool on] W
    (fun e w' => (∃ r, askQ s on = some r ∧ Moved W (mvC r.1 r.2 false) e w') ∨ (askQ s on = none ∧ RefusedS W e w')) := by
  have HT := Lib.hid hT
  have HX := Lib.hid hx
  obtain ⟨bad, hbad⟩ : ∃ bad, bad = (askQ s on).isNone := ⟨_, rfl⟩
  obtain ⟨mc, hmc⟩ : ∃ mc, mc = askC s on := ⟨_, rfl⟩
  obtain ⟨mo, hmo⟩ : ∃ mo, mo = askC s false := ⟨_, rfl⟩
  have heq : ∀ W, (Op.equalIn 10000 245 (.agg mc.toArray) (.agg #[.int .i64 0, .bool false, .int .i64 0, .bool false])).run Tryz.prog W = .ok bad W := fun W => by rw [hbad, hmc]; exact eq_ask W s on
  have HBad := Lib.hid hbad
  have hgr := guard_move
  have HMC := Lib.hid hmc
  have HMO := Lib.hid hmo
  clear hT hx hbad hmc hmo
  obtain ⟨W0, hW0⟩ : ∃ W0, W0 = (W.alloc (.cells #[.int .i64 k, .bool o] 65)).alloc (.cells mv0.toArray 245) := ⟨_, rfl⟩
  have HB3 : Hid (Blk W0 W.heap.size 65 [.int .i64 k, .bool o]) := by rw [hW0]; exact (Blk.new W _ [.int .i64 k, .bool o]).alloc _
  have HB4 : Hid (Blk W0 (W.heap.size + 1) 245 mv0) := by rw [hW0]; exact Blk.new' _ _ mv0 (by simp)
  have HO0 : Hid (Only (fun _ => False) W W0) := by rw [hW0]; exact (alloc_only _).alloc _
  have HW0 := Lib.hid hW0
  clear hW0
  cases on
  · have e0 : mc = mo := by rw [HMC.out, HMO.out]
    rw [e0] at heq
    clear e0
    cases bad
    · skip
      go_enter Tryz.func119, Tryz.ntmps119
      go_wp2_with (first
        | ((with_reducible show wpList _ _ _ (⟨some 4, _, _, _, _, _⟩ :: _) _ _); refine step_alloc rfl 245 rfl mv0 _ zero_move ?_; rw [← HW0.out])
        | ((with_reducible show wpList _ _ _ (⟨some 10, _, _, _, _, _⟩ :: _) _ _); refine wpList_load_mid rfl 65 _ rfl W.heap.size 0 rfl [.int .i64 k, .bool o] _ (range_of HB3.out) Tryz.underlying65 rfl size_state ?_)
        | (go_at_call 166; refine (rowOf_at HT HO0.out k o HX).mono ?_; rintro e w1 ⟨rc, rfl, hrc, ho1⟩)
        | ((with_reducible show wpList _ _ _ (⟨some 6, _, _, _, _, _⟩ :: _) _ _); refine step_alloc rfl 316 rfl row0 _ zero_qrow ?_)
        | ((with_reducible show wpList _ _ _ (⟨none, .store 316 (.tmp 6) _, _, _, _, _⟩ :: _) _ _); refine step_store rfl 316 _ _ rfl w1.heap.size rfl rc rfl _ row0 (Blk.new _ _ _) hrc.out.size hrc.out.length.symm hrc.out.one ?_; intro w4 hB4 hz4 ho4; have HE := Lib.hid (row_end HO0.out HB4.out ho1 ho4); clear ho4)
        | ((with_reducible show wpList _ _ _ (⟨some 19, _, _, _, _, _⟩ :: _) _ _); refine wpList_load_mid rfl 245 _ rfl w1.heap.size 15 rfl mo _ (by rw [HMO.out]; exact at_off hrc.out hB4.out) Tryz.underlying245 rfl (by rw [HMO.out]; exact askC_size _ _) ?_)
        | ((with_reducible show wpList _ _ _ (⟨some 8, _, _, _, _, _⟩ :: _) _ _); refine step_alloc rfl 245 rfl mv0 _ zero_move ?_)
        | ((with_reducible show wpList _ _ _ (⟨none, .store 245 (.tmp 8) (.tmp 19), _, _, _, _⟩ :: _) _ _); refine step_store rfl 245 _ _ rfl w4.heap.size rfl mo rfl _ mv0 (Blk.new _ _ _) (by rw [HMO.out]; exact askC_size _ _) (by rw [HMO.out, askC_length]; rfl) (by rw [HMO.out]; exact askC_one _ _) ?_; intro w5 hB5 hz5 ho5; have HS5 := Lib.hid (AskAt.first HE.out.1 HE.out.2 hB5.out ho5 (by omega)); have HR5 := Lib.hid (((hB4.out.alloc _).only ho5 (by have := hB4.out.lt; omega))); clear ho5)
        | ((with_reducible show wpList _ _ _ (⟨some 23, _, _, _, _, _⟩ :: _) _ _); refine wpList_load_mid rfl 245 _ rfl w4.heap.size 0 rfl mo _ (range_of HS5.out.mv) Tryz.underlying245 rfl (by rw [HMO.out]; exact askC_size _ _) ?_)
        | ((with_reducible show wpList _ _ _ (⟨some 28, _, _, _, _, _⟩ :: _) _ _); refine wpList_load_mid rfl 245 _ rfl w4.heap.size 0 rfl mo _ (range_of HS5.out.mv) Tryz.underlying245 rfl (by rw [HMO.out]; exact askC_size _ _) ?_)
        | ((with_reducible show wpList _ _ _ (⟨none, .store 245 (.tmp 4) (.tmp 28), _, _, _, _⟩ :: _) _ _); refine step_store rfl 245 _ _ rfl (W.heap.size + 1) rfl mo rfl _ mv0 HS5.out.res (by rw [HMO.out]; exact askC_size _ _) (by rw [HMO.out, askC_length]; rfl) (by rw [HMO.out]; exact askC_one _ _) ?_; intro w7 hB7 hz7 ho7)
        | fail)
      refine ret_cell2 rfl (W.heap.size + 1) rfl _ mo _ hB7.out Tryz.underlying245 rfl (by rw [HMO.out]; exact askC_size _ _) rfl ?_
      cases e : askQ s false with
      | none => have := HBad.out; rw [e] at this; cases this
      | some r =>
        refine .inl ⟨r, rfl, ?_, HS5.out.done ho7⟩
        have e2 : mo = mvC r.1 r.2 false := by rw [HMO.out]; unfold askC; rw [e]
        rw [e2]
        rfl
    · skip
      go_enter Tryz.func119, Tryz.ntmps119
      go_wp2_with (first
        | ((with_reducible show wpList _ _ _ (⟨some 4, _, _, _, _, _⟩ :: _) _ _); refine step_alloc rfl 245 rfl mv0 _ zero_move ?_; rw [← HW0.out])
        | ((with_reducible show wpList _ _ _ (⟨some 10, _, _, _, _, _⟩ :: _) _ _); refine wpList_load_mid rfl 65 _ rfl W.heap.size 0 rfl [.int .i64 k, .bool o] _ (range_of HB3.out) Tryz.underlying65 rfl size_state ?_)
        | (go_at_call 166; refine (rowOf_at HT HO0.out k o HX).mono ?_; rintro e w1 ⟨rc, rfl, hrc, ho1⟩)
        | ((with_reducible show wpList _ _ _ (⟨some 6, _, _, _, _, _⟩ :: _) _ _); refine step_alloc rfl 316 rfl row0 _ zero_qrow ?_)
        | ((with_reducible show wpList _ _ _ (⟨none, .store 316 (.tmp 6) _, _, _, _, _⟩ :: _) _ _); refine step_store rfl 316 _ _ rfl w1.heap.size rfl rc rfl _ row0 (Blk.new _ _ _) hrc.out.size hrc.out.length.symm hrc.out.one ?_; intro w4 hB4 hz4 ho4; have HE := Lib.hid (row_end HO0.out HB4.out ho1 ho4); clear ho4)
        | ((with_reducible show wpList _ _ _ (⟨some 19, _, _, _, _, _⟩ :: _) _ _); refine wpList_load_mid rfl 245 _ rfl w1.heap.size 15 rfl mo _ (by rw [HMO.out]; exact at_off hrc.out hB4.out) Tryz.underlying245 rfl (by rw [HMO.out]; exact askC_size _ _) ?_)
        | ((with_reducible show wpList _ _ _ (⟨some 8, _, _, _, _, _⟩ :: _) _ _); refine step_alloc rfl 245 rfl mv0 _ zero_move ?_)
        | ((with_reducible show wpList _ _ _ (⟨none, .store 245 (.tmp 8) (.tmp 19), _, _, _, _⟩ :: _) _ _); refine step_store rfl 245 _ _ rfl w4.heap.size rfl mo rfl _ mv0 (Blk.new _ _ _) (by rw [HMO.out]; exact askC_size _ _) (by rw [HMO.out, askC_length]; rfl) (by rw [HMO.out]; exact askC_one _ _) ?_; intro w5 hB5 hz5 ho5; have HS5 := Lib.hid (AskAt.first HE.out.1 HE.out.2 hB5.out ho5 (by omega)); have HR5 := Lib.hid (((hB4.out.alloc _).only ho5 (by have := hB4.out.lt; omega))); clear ho5)
        | ((with_reducible show wpList _ _ _ (⟨some 23, _, _, _, _, _⟩ :: _) _ _); refine wpList_load_mid rfl 245 _ rfl w4.heap.size 0 rfl mo _ (range_of HS5.out.mv) Tryz.underlying245 rfl (by rw [HMO.out]; exact askC_size _ _) ?_)
        | ((with_reducible show wpList _ _ _ (⟨some 28, _, _, _, _, _⟩ :: _) _ _); refine wpList_load_mid rfl 245 _ rfl w4.heap.size 0 rfl mo _ (range_of HS5.out.mv) Tryz.underlying245 rfl (by rw [HMO.out]; exact askC_size _ _) ?_)
        | fail)
      obtain ⟨u, v, hv⟩ := HT.out.state
      have hS := HS5.out
      have hc := hS.only.cellv (World.var?_cell rfl hv 0) (fun h => h)
      have hne : 9 ≠ W.heap.size + 1 := by have := World.block_lt_of_cell? _ _ (World.var?_cell rfl hv 0 : W.cell? ⟨9, 0, none⟩ = _); simp only at this; omega
      have hR := hS.res
      have hO5 := fun W' => hS.done (w' := W')
      have HV := Lib.hid hv
      clear hv hS
      refine wp_refuse 245 38 _ 9 4 26 27 (W.heap.size + 1) (.iface u v) mv0 (by kernel_rfl) rfl rfl rfl rfl rfl rfl rfl rfl rfl rfl (by kernel_rfl) (by kernel_rfl) (by kernel_rfl) (by kernel_rfl) (by kernel_rfl) (by kernel_rfl) (by kernel_rfl) (by kernel_rfl) (by kernel_rfl) size_move (mvC_one _ _ _) load_err rfl hc rfl rfl rfl hR rfl hne ?_
      intro W8 hB8 ho8
      go_wp2
      refine ret_cell2 rfl (W.heap.size + 1) rfl _ mv0 _ hB8.out Tryz.underlying245 rfl size_move rfl ?_
      exact .inr ⟨by have := HBad.out; cases e : askQ s false with | none => rfl | some r => (rw [e] at this; cases this), ⟨u, v, HV.out, rfl⟩, hO5 _ ho8.out⟩
  · cases bad
    · skip
      go_enter Tryz.func119, Tryz.ntmps119
      go_wp2_with (first
        | ((with_reducible show wpList _ _ _ (⟨some 4, _, _, _, _, _⟩ :: _) _ _); refine step_alloc rfl 245 rfl mv0 _ zero_move ?_; rw [← HW0.out])
        | ((with_reducible show wpList _ _ _ (⟨some 10, _, _, _, _, _⟩ :: _) _ _); refine wpList_load_mid rfl 65 _ rfl W.heap.size 0 rfl [.int .i64 k, .bool o] _ (range_of HB3.out) Tryz.underlying65 rfl size_state ?_)
        | (go_at_call 166; refine (rowOf_at HT HO0.out k o HX).mono ?_; rintro e w1 ⟨rc, rfl, hrc, ho1⟩)
        | ((with_reducible show wpList _ _ _ (⟨some 6, _, _, _, _, _⟩ :: _) _ _); refine step_alloc rfl 316 rfl row0 _ zero_qrow ?_)
        | ((with_reducible show wpList _ _ _ (⟨none, .store 316 (.tmp 6) _, _, _, _, _⟩ :: _) _ _); refine step_store rfl 316 _ _ rfl w1.heap.size rfl rc rfl _ row0 (Blk.new _ _ _) hrc.out.size hrc.out.length.symm hrc.out.one ?_; intro w4 hB4 hz4 ho4; have HE := Lib.hid (row_end HO0.out HB4.out ho1 ho4); clear ho4)
        | ((with_reducible show wpList _ _ _ (⟨some 19, _, _, _, _, _⟩ :: _) _ _); refine wpList_load_mid rfl 245 _ rfl w1.heap.size 15 rfl mo _ (by rw [HMO.out]; exact at_off hrc.out hB4.out) Tryz.underlying245 rfl (by rw [HMO.out]; exact askC_size _ _) ?_)
        | ((with_reducible show wpList _ _ _ (⟨some 8, _, _, _, _, _⟩ :: _) _ _); refine step_alloc rfl 245 rfl mv0 _ zero_move ?_)
        | ((with_reducible show wpList _ _ _ (⟨none, .store 245 (.tmp 8) (.tmp 19), _, _, _, _⟩ :: _) _ _); refine step_store rfl 245 _ _ rfl w4.heap.size rfl mo rfl _ mv0 (Blk.new _ _ _) (by rw [HMO.out]; exact askC_size _ _) (by rw [HMO.out, askC_length]; rfl) (by rw [HMO.out]; exact askC_one _ _) ?_; intro w5 hB5 hz5 ho5; have HS5 := Lib.hid (AskAt.first HE.out.1 HE.out.2 hB5.out ho5 (by omega)); have HR5 := Lib.hid (((hB4.out.alloc _).only ho5 (by have := hB4.out.lt; omega))); clear ho5)
        | ((with_reducible show wpList _ _ _ (⟨some 22, _, _, _, _, _⟩ :: _) _ _); refine wpList_load_mid rfl 245 _ rfl w1.heap.size 11 rfl mc _ (by rw [HMC.out]; exact at_on hrc.out HR5.out) Tryz.underlying245 rfl (by rw [HMC.out]; exact askC_size _ _) ?_)
        | ((with_reducible show wpList _ _ _ (⟨none, .store 245 (.tmp 8) (.tmp 22), _, _, _, _⟩ :: _) _ _); refine step_store rfl 245 _ _ rfl w4.heap.size rfl mc rfl _ mo HS5.out.mv (by rw [HMC.out]; exact askC_size _ _) (by rw [HMC.out, HMO.out, askC_length, askC_length]) (by rw [HMC.out]; exact askC_one _ _) ?_; intro w6 hB6 hz6 ho6; have HS6 := Lib.hid (HS5.out.next hB6.out ho6); clear ho6)
        | ((with_reducible show wpList _ _ _ (⟨some 23, _, _, _, _, _⟩ :: _) _ _); refine wpList_load_mid rfl 245 _ rfl w4.heap.size 0 rfl mc _ (range_of HS6.out.mv) Tryz.underlying245 rfl (by rw [HMC.out]; exact askC_size _ _) ?_)
        | ((with_reducible show wpList _ _ _ (⟨some 28, _, _, _, _, _⟩ :: _) _ _); refine wpList_load_mid rfl 245 _ rfl w4.heap.size 0 rfl mc _ (range_of HS6.out.mv) Tryz.underlying245 rfl (by rw [HMC.out]; exact askC_size _ _) ?_)
        | ((with_reducible show wpList _ _ _ (⟨none, .store 245 (.tmp 4) (.tmp 28), _, _, _, _⟩ :: _) _ _); refine step_store rfl 245 _ _ rfl (W.heap.size + 1) rfl mc rfl _ mv0 HS6.out.res (by rw [HMC.out]; exact askC_size _ _) (by rw [HMC.out, askC_length]; rfl) (by rw [HMC.out]; exact askC_one _ _) ?_; intro w7 hB7 hz7 ho7)
        | fail)
      refine ret_cell2 rfl (W.heap.size + 1) rfl _ mc _ hB7.out Tryz.underlying245 rfl (by rw [HMC.out]; exact askC_size _ _) rfl ?_
      cases e : askQ s true with
      | none => have := HBad.out; rw [e] at this; cases this
      | some r =>
        refine .inl ⟨r, rfl, ?_, HS6.out.done ho7⟩
        have e2 : mc = mvC r.1 r.2 false := by rw [HMC.out]; unfold askC; rw [e]
        rw [e2]
        rfl
    · skip
      go_enter Tryz.func119, Tryz.ntmps119
      go_wp2_with (first
        | ((with_reducible show wpList _ _ _ (⟨some 4, _, _, _, _, _⟩ :: _) _ _); refine step_alloc rfl 245 rfl mv0 _ zero_move ?_; rw [← HW0.out])
        | ((with_reducible show wpList _ _ _ (⟨some 10, _, _, _, _, _⟩ :: _) _ _); refine wpList_load_mid rfl 65 _ rfl W.heap.size 0 rfl [.int .i64 k, .bool o] _ (range_of HB3.out) Tryz.underlying65 rfl size_state ?_)
        | (go_at_call 166; refine (rowOf_at HT HO0.out k o HX).mono ?_; rintro e w1 ⟨rc, rfl, hrc, ho1⟩)
        | ((with_reducible show wpList _ _ _ (⟨some 6, _, _, _, _, _⟩ :: _) _ _); refine step_alloc rfl 316 rfl row0 _ zero_qrow ?_)
        | ((with_reducible show wpList _ _ _ (⟨none, .store 316 (.tmp 6) _, _, _, _, _⟩ :: _) _ _); refine step_store rfl 316 _ _ rfl w1.heap.size rfl rc rfl _ row0 (Blk.new _ _ _) hrc.out.size hrc.out.length.symm hrc.out.one ?_; intro w4 hB4 hz4 ho4; have HE := Lib.hid (row_end HO0.out HB4.out ho1 ho4); clear ho4)
        | ((with_reducible show wpList _ _ _ (⟨some 19, _, _, _, _, _⟩ :: _) _ _); refine wpList_load_mid rfl 245 _ rfl w1.heap.size 15 rfl mo _ (by rw [HMO.out]; exact at_off hrc.out hB4.out) Tryz.underlying245 rfl (by rw [HMO.out]; exact askC_size _ _) ?_)
        | ((with_reducible show wpList _ _ _ (⟨some 8, _, _, _, _, _⟩ :: _) _ _); refine step_alloc rfl 245 rfl mv0 _ zero_move ?_)
        | ((with_reducible show wpList _ _ _ (⟨none, .store 245 (.tmp 8) (.tmp 19), _, _, _, _⟩ :: _) _ _); refine step_store rfl 245 _ _ rfl w4.heap.size rfl mo rfl _ mv0 (Blk.new _ _ _) (by rw [HMO.out]; exact askC_size _ _) (by rw [HMO.out, askC_length]; rfl) (by rw [HMO.out]; exact askC_one _ _) ?_; intro w5 hB5 hz5 ho5; have HS5 := Lib.hid (AskAt.first HE.out.1 HE.out.2 hB5.out ho5 (by omega)); have HR5 := Lib.hid (((hB4.out.alloc _).only ho5 (by have := hB4.out.lt; omega))); clear ho5)
        | ((with_reducible show wpList _ _ _ (⟨some 22, _, _, _, _, _⟩ :: _) _ _); refine wpList_load_mid rfl 245 _ rfl w1.heap.size 11 rfl mc _ (by rw [HMC.out]; exact at_on hrc.out HR5.out) Tryz.underlying245 rfl (by rw [HMC.out]; exact askC_size _ _) ?_)
        | ((with_reducible show wpList _ _ _ (⟨none, .store 245 (.tmp 8) (.tmp 22), _, _, _, _⟩ :: _) _ _); refine step_store rfl 245 _ _ rfl w4.heap.size rfl mc rfl _ mo HS5.out.mv (by rw [HMC.out]; exact askC_size _ _) (by rw [HMC.out, HMO.out, askC_length, askC_length]) (by rw [HMC.out]; exact askC_one _ _) ?_; intro w6 hB6 hz6 ho6; have HS6 := Lib.hid (HS5.out.next hB6.out ho6); clear ho6)
        | ((with_reducible show wpList _ _ _ (⟨some 23, _, _, _, _, _⟩ :: _) _ _); refine wpList_load_mid rfl 245 _ rfl w4.heap.size 0 rfl mc _ (range_of HS6.out.mv) Tryz.underlying245 rfl (by rw [HMC.out]; exact askC_size _ _) ?_)
        | ((with_reducible show wpList _ _ _ (⟨some 28, _, _, _, _, _⟩ :: _) _ _); refine wpList_load_mid rfl 245 _ rfl w4.heap.size 0 rfl mc _ (range_of HS6.out.mv) Tryz.underlying245 rfl (by rw [HMC.out]; exact askC_size _ _) ?_)
        | fail)
      obtain ⟨u, v, hv⟩ := HT.out.state
      have hS := HS6.out
      have hc := hS.only.cellv (World.var?_cell rfl hv 0) (fun h => h)
      have hne : 9 ≠ W.heap.size + 1 := by have := World.block_lt_of_cell? _ _ (World.var?_cell rfl hv 0 : W.cell? ⟨9, 0, none⟩ = _); simp only at this; omega
      have hR := hS.res
      have hO5 := fun W' => hS.done (w' := W')
      have HV := Lib.hid hv
      clear hv hS
      refine wp_refuse 245 38 _ 9 4 26 27 (W.heap.size + 1) (.iface u v) mv0 (by kernel_rfl) rfl rfl rfl rfl rfl rfl rfl rfl rfl rfl (by kernel_rfl) (by kernel_rfl) (by kernel_rfl) (by kernel_rfl) (by kernel_rfl) (by kernel_rfl) (by kernel_rfl) (by kernel_rfl) (by kernel_rfl) size_move (mvC_one _ _ _) load_err rfl hc rfl rfl rfl hR rfl hne ?_
      intro W8 hB8 ho8
      go_wp2
      refine ret_cell2 rfl (W.heap.size + 1) rfl _ mv0 _ hB8.out Tryz.underlying245 rfl size_move rfl ?_
      exact .inr ⟨by have := HBad.out; cases e : askQ s true with | none => rfl | some r => (rw [e] at this; cases this), ⟨u, v, HV.out, rfl⟩, hO5 _ ho8.out⟩

theorem ask_some {W : World} (hT : QsW W) (k : Int) (o on : Bool) {s : Qs} (hx : qsOf k o = some s) : Calls Tryz.prog 119 #[.agg #[.int .i64 k, .bool o], .bool on] W
    (fun e w' => (∃ r, askQ s on = some r ∧ Moved W (mvC r.1 r.2 false) e w') ∨ (askQ s on = none ∧ Refused W e w')) :=
  (ask_someS hT k o on hx).mono fun _ _ h => h.imp id fun ⟨h1, ⟨u, v, _, h2⟩, h3⟩ => ⟨h1, ⟨u, v, h2⟩, h3⟩
end Go.Proofs.YtbnfhklpobephaaGreatDoor
/- Layer 11 as plain functions: a table; two tables joined by rows of verbs: each option's two sides are two sides joined (layer 10). -/
namespace Go.Proofs.YtbnfhklpobephaaGreatDoor

/-- How many verbs two sides joined still hear till they rest. -/
def Jo.hears (ax ay : Bool) : Nat → Jo → Nat
  | 0, _ => 0
  | n + 1, t => match t.hearX ax with
    | some r => Jo.hears ax ay n r.1 + 1
    | none => match t.hearY ay with
      | some r => Jo.hears ax ay n r.1 + 1
      | none => 0
def Jo.okH (ax ay : Bool) (t : Jo) : Bool :=
  ((t.hearX ax).all fun r => decide (r.1.hears ax ay 6 + 1 = t.hears ax ay 6)) && ((t.hearY ay).all fun r => decide (r.1.hears ax ay 6 + 1 = t.hears ax ay 6)) &&
    ((t.askX true).all fun u => decide (u.hears ax ay 6 ≤ t.hears ax ay 6 + 2)) && ((t.askX false).all fun u => decide (u.hears ax ay 6 ≤ t.hears ax ay 6 + 2)) &&
    ((t.askY true).all fun u => decide (u.hears ax ay 6 ≤ t.hears ax ay 6 + 2)) && ((t.askY false).all fun u => decide (u.hears ax ay 6 ≤ t.hears ax ay 6 + 2))
theorem joints_okH (ax ay : Bool) : (joints ax ay).all (Jo.okH ax ay) = true := by
  cases ax <;> cases ay <;> decide +kernel
section
variable {ax ay : Bool} {t u : Jo}
theorem Can.okH (h : Can ax ay t) : Jo.okH ax ay t = true := List.all_eq_true.1 (joints_okH ax ay) t (List.contains_iff_mem.1 h)
theorem Can.hearsX {b : Bool} (h : Can ax ay t) (hu : t.hearX ax = some (u, b)) : u.hears ax ay 6 + 1 = t.hears ax ay 6 := by
  have := h.okH
  simp only [Jo.okH, Bool.and_eq_true] at this
  simpa [hu] using this.1.1.1.1.1
theorem Can.hearsY {b : Bool} (h : Can ax ay t) (hu : t.hearY ay = some (u, b)) : u.hears ax ay 6 + 1 = t.hears ax ay 6 := by
  have := h.okH
  simp only [Jo.okH, Bool.and_eq_true] at this
  simpa [hu] using this.1.1.1.1.2
theorem Can.asksX {on : Bool} (h : Can ax ay t) (hu : t.askX on = some u) : u.hears ax ay 6 ≤ t.hears ax ay 6 + 2 := by
  have := h.okH
  simp only [Jo.okH, Bool.and_eq_true] at this
  cases on
  · simpa [hu] using this.1.1.2
  · simpa [hu] using this.1.1.1.2
theorem Can.asksY {on : Bool} (h : Can ax ay t) (hu : t.askY on = some u) : u.hears ax ay 6 ≤ t.hears ax ay 6 + 2 := by
  have := h.okH
  simp only [Jo.okH, Bool.and_eq_true] at this
  cases on
  · simpa [hu] using this.2
  · simpa [hu] using this.1.2
end

/-- A table: of each side (0, 1) and option the state; what was heard, asked for, sent. -/
structure Tb where
  st : Nat → Nat → Qs
  heard : Nat
  asked : Nat
  sent : Nat
def Tb.zero : Tb := ⟨fun _ _ => .no, 0, 0, 0⟩
/-- A state of a side and an option that may not be there. -/
def Tb.get (t : Tb) (s o : Int) : Qs := if (s = 0 ∨ s = 1) ∧ 0 ≤ o ∧ o ≤ 255 then t.st s.toNat o.toNat else .no
def setQ (f : Nat → Nat → Qs) (s o : Nat) (q : Qs) : Nat → Nat → Qs := fun a b => if a = s ∧ b = o then q else f a b
/-- The verb that is sent of a side. -/
def toldV (s k : Nat) : Nat := if k = 0 then 0 else 250 + 2 * s + k
/-- Of which side a verb speaks that is heard. -/
def sideV (v : Nat) : Nat := if v < 253 then 1 else 0
/-- Whether a verb is for. -/
def forV (v : Nat) : Bool := decide (v % 2 = 1)
def sentN (k : Nat) : Nat := if k = 0 then 0 else 1
/-- A verb (251 to 254) of an option (0 to 255) is heard. -/
def Tb.hear (ag : Nat → Nat → Bool) (t : Tb) (v o : Nat) : Tb × Qs × Nat × Bool :=
  let m := hearQ (t.st (sideV v) o) (forV v) (ag (sideV v) o)
  (⟨setQ t.st (sideV v) o m.1, t.heard + 1, t.asked, t.sent + sentN m.2.1⟩, m)
/-- A side's option is asked for. -/
def Tb.ask (t : Tb) (s o : Nat) (on : Bool) : Option (Tb × Qs × Nat) :=
  (askQ (t.st s o) on).map fun m => (⟨setQ t.st s o m.1, t.heard, t.asked + 1, t.sent + sentN m.2⟩, m)

/-! Two tables joined. -/
/-- Of a row of verbs and options those that speak of a side of an option: whether each is for. -/
def partV (l : List (Nat × Nat)) (s o : Nat) : List Bool := (l.filter fun e => decide (sideV e.1 = s ∧ e.2 = o)).map fun e => forV e.1
theorem partV_append (l m : List (Nat × Nat)) (s o : Nat) : partV (l ++ m) s o = partV l s o ++ partV m s o := by simp [partV]
theorem partV_nil (s o : Nat) : partV [] s o = [] := rfl
theorem partV_cons (e : Nat × Nat) (l : List (Nat × Nat)) (s o : Nat) : partV (e :: l) s o = (if sideV e.1 = s ∧ e.2 = o then [forV e.1] else []) ++ partV l s o := by
  unfold partV
  by_cases h : sideV e.1 = s ∧ e.2 = o <;> simp [h]
/-- What a table sends: no verb, or one. -/
def sendV (s k o : Nat) : List (Nat × Nat) := if k = 0 then [] else [(toldV s k, o)]
theorem sideV_told {s k : Nat} (hs : s < 2) (hk : k = 1 ∨ k = 2) : sideV (toldV s k) = 1 - s := by
  unfold sideV toldV
  rcases hk with rfl | rfl <;> (rcases s with _ | _ | s <;> simp <;> omega)
theorem forV_told {s k : Nat} (hk : k = 1 ∨ k = 2) : forV (toldV s k) = decide (k = 1) := by
  unfold forV toldV
  rcases hk with rfl | rfl <;> simp <;> omega
theorem partV_send {s k o : Nat} (hs : s < 2) (hk : k ≤ 2) (s' o' : Nat) : partV (sendV s k o) s' o' = if s' = 1 - s ∧ o' = o then sentQ k else [] := by
  unfold sendV
  by_cases h0 : k = 0
  · subst h0
    simp [partV, sentQ]
  · have hk' : k = 1 ∨ k = 2 := by omega
    rw [if_neg h0, partV_cons, partV_nil, List.append_nil]
    simp only [sideV_told hs hk', forV_told hk']
    have : sentQ k = [decide (k = 1)] := by rcases hk' with rfl | rfl <;> rfl
    rw [this]
    by_cases h : 1 - s = s' ∧ o = o'
    · rw [if_pos h, if_pos ⟨h.1.symm, h.2.symm⟩]
    · rw [if_neg h, if_neg (fun h' => h ⟨h'.1.symm, h'.2.symm⟩)]

/-- Two tables, and of each what it sent that the other one hasn't heard. -/
structure Tj where
  a : Nat → Nat → Qs
  p : List (Nat × Nat)
  b : Nat → Nat → Qs
  q : List (Nat × Nat)
/-- One side of one option on the one (d), and what answers to it on the other one. -/
def Tj.jo (t : Tj) (d o : Nat) : Jo := ⟨t.a d o, partV t.p (1 - d) o, t.b (1 - d) o, partV t.q d o⟩
structure Tj.Ok (ga gb : Nat → Nat → Bool) (t : Tj) : Prop where
  can : ∀ d o, d < 2 → o < 256 → Can (ga d o) (gb (1 - d) o) (t.jo d o)
  vp : ∀ e ∈ t.p, (251 ≤ e.1 ∧ e.1 ≤ 254) ∧ e.2 < 256
  vq : ∀ e ∈ t.q, (251 ≤ e.1 ∧ e.1 ≤ 254) ∧ e.2 < 256

theorem hearQ_sends (s : Qs) (b a : Bool) : (hearQ s b a).2.1 ≤ 2 := by cases s <;> cases b <;> cases a <;> decide
theorem askQ_sends {s : Qs} {on : Bool} {r : Qs × Nat} (h : askQ s on = some r) : r.2 ≤ 2 := by
  cases s <;> cases on <;> simp only [askQ, Option.some.injEq, reduceCtorEq] at h
  all_goals (subst h; decide)
theorem sideV_lt (v : Nat) : sideV v < 2 := by unfold sideV; split <;> omega
theorem told_valid {s k : Nat} (hs : s < 2) (hk : k = 1 ∨ k = 2) : 251 ≤ toldV s k ∧ toldV s k ≤ 254 := by
  unfold toldV
  rcases hk with rfl | rfl <;> simp <;> omega
theorem sendV_valid {s k o : Nat} (hs : s < 2) (hk : k ≤ 2) (ho : o < 256) : ∀ e ∈ sendV s k o, (251 ≤ e.1 ∧ e.1 ≤ 254) ∧ e.2 < 256 := by
  intro e he
  unfold sendV at he
  split at he
  · cases he
  · simp only [List.mem_cons, List.not_mem_nil, or_false] at he
    subst he
    exact ⟨told_valid hs (by omega), ho⟩
theorem sum_change {f g : Nat → Nat} {j : Nat} : ∀ (n : Nat), j < n → (∀ i, i < n → i ≠ j → f i = g i) → ((List.range n).map f).sum + g j = ((List.range n).map g).sum + f j
  | 0, h, _ => absurd h (by omega)
  | n + 1, h, hf => by
    simp only [List.range_succ, List.map_append, List.sum_append, List.map_cons, List.map_nil, List.sum_cons, List.sum_nil]
    by_cases e : j = n
    · subst e
      have : (List.range j).map f = (List.range j).map g := List.map_congr_left fun i hi => hf i (by have := List.mem_range.1 hi; omega) (by have := List.mem_range.1 hi; omega)
      rw [this]
      omega
    · have := sum_change n (by omega) (fun i hi hij => hf i (by omega) hij)
      have h1 := hf n (by omega) (fun h => e h.symm)
      omega
/-- How many verbs are still heard till all rests. -/
def Tj.pot (ga gb : Nat → Nat → Bool) (t : Tj) : Nat := ((List.range 512).map fun i => (t.jo (i / 256) (i % 256)).hears (ga (i / 256) (i % 256)) (gb (1 - i / 256) (i % 256)) 6).sum
section
variable {ga gb : Nat → Nat → Bool} {t u : Tj}
/-- But one pair of sides has turned. -/
def Tj.But (t u : Tj) (d o : Nat) : Prop := ∀ d' o', d' < 2 → ¬ (d' = d ∧ o' = o) → u.jo d' o' = t.jo d' o'
theorem Tj.But.pot {d o : Nat} (h : t.But u d o) (hd : d < 2) (ho : o < 256) : u.pot ga gb + (t.jo d o).hears (ga d o) (gb (1 - d) o) 6 = t.pot ga gb + (u.jo d o).hears (ga d o) (gb (1 - d) o) 6 := by
  have := sum_change (f := fun i => (u.jo (i / 256) (i % 256)).hears (ga (i / 256) (i % 256)) (gb (1 - i / 256) (i % 256)) 6) (g := fun i => (t.jo (i / 256) (i % 256)).hears (ga (i / 256) (i % 256)) (gb (1 - i / 256) (i % 256)) 6) (j := d * 256 + o) 512 (by omega) (fun i hi hij => by
    show (u.jo _ _).hears _ _ 6 = (t.jo _ _).hears _ _ 6
    rw [h (i / 256) (i % 256) (by omega) (by omega)])
  simp only [show (d * 256 + o) / 256 = d by omega, show (d * 256 + o) % 256 = o by omega] at this
  exact this
theorem Tj.But.can {d o : Nat} (h : t.But u d o) (ht : t.Ok ga gb) (hc : Can (ga d o) (gb (1 - d) o) (u.jo d o)) : ∀ d' o', d' < 2 → o' < 256 → Can (ga d' o') (gb (1 - d') o') (u.jo d' o') := fun d' o' hd ho => by
  by_cases e : d' = d ∧ o' = o
  · rw [e.1, e.2]; exact hc
  · rw [h d' o' hd e]; exact ht.can d' o' hd ho

/-- The one asks. -/
def Tj.asksA (t : Tj) (d o : Nat) (m : Qs × Nat) : Tj := { t with a := setQ t.a d o m.1, p := t.p ++ sendV d m.2 o }
def Tj.asksB (t : Tj) (d o : Nat) (m : Qs × Nat) : Tj := { t with b := setQ t.b d o m.1, q := t.q ++ sendV d m.2 o }
theorem Tj.Ok.asksA (ht : t.Ok ga gb) {d o : Nat} (hd : d < 2) (ho : o < 256) {on : Bool} {m : Qs × Nat} (hm : askQ (t.a d o) on = some m) : (t.asksA d o m).Ok ga gb ∧ (t.asksA d o m).pot ga gb ≤ t.pot ga gb + 2 := by
  have hk := askQ_sends hm
  have hb : t.But (t.asksA d o m) d o := fun d' o' hd' e => by
    simp only [Tj.jo, Tj.asksA, partV_append, partV_send hd hk, setQ]
    rw [if_neg e, if_neg (fun e' => e ⟨by omega, e'.2⟩), List.append_nil]
  have hj : (t.jo d o).askX on = some ((t.asksA d o m).jo d o) := by
    simp only [Jo.askX, Tj.jo, Tj.asksA, partV_append, partV_send hd hk, setQ, hm]
    simp
  have hc := ht.can d o hd ho
  refine ⟨⟨hb.can ht (hc.askX hj), fun e he => ?_, ht.vq⟩, ?_⟩
  · rcases List.mem_append.1 he with he | he
    · exact ht.vp e he
    · exact sendV_valid hd hk ho e he
  · have h1 := hb.pot (ga := ga) (gb := gb) hd ho
    have h2 := hc.asksX hj
    omega
theorem Tj.Ok.asksB (ht : t.Ok ga gb) {d o : Nat} (hd : d < 2) (ho : o < 256) {on : Bool} {m : Qs × Nat} (hm : askQ (t.b d o) on = some m) : (t.asksB d o m).Ok ga gb ∧ (t.asksB d o m).pot ga gb ≤ t.pot ga gb + 2 := by
  have hk := askQ_sends hm
  have e1 : 1 - (1 - d) = d := by omega
  have hb : t.But (t.asksB d o m) (1 - d) o := fun d' o' hd' e => by
    simp only [Tj.jo, Tj.asksB, partV_append, partV_send hd hk, setQ]
    rw [if_neg (fun e' => e ⟨by omega, e'.2⟩), if_neg (fun e' => e ⟨by omega, e'.2⟩), List.append_nil]
  have hj : (t.jo (1 - d) o).askY on = some ((t.asksB d o m).jo (1 - d) o) := by
    simp only [Jo.askY, Tj.jo, Tj.asksB, partV_append, partV_send hd hk, setQ, e1, hm]
    simp
  have hc := ht.can (1 - d) o (by omega) ho
  refine ⟨⟨hb.can ht (hc.askY hj), ht.vp, fun e he => ?_⟩, ?_⟩
  · rcases List.mem_append.1 he with he | he
    · exact ht.vq e he
    · exact sendV_valid hd hk ho e he
  · have h1 := hb.pot (ga := ga) (gb := gb) (by omega) ho
    have h2 := hc.asksY hj
    omega
/-- The one hears what the other one sent first. -/
def Tj.hearsA (ga : Nat → Nat → Bool) (t : Tj) (v o : Nat) (q : List (Nat × Nat)) : Tj :=
  { t with a := setQ t.a (sideV v) o (hearQ (t.a (sideV v) o) (forV v) (ga (sideV v) o)).1, p := t.p ++ sendV (sideV v) (hearQ (t.a (sideV v) o) (forV v) (ga (sideV v) o)).2.1 o, q := q }
def Tj.hearsB (gb : Nat → Nat → Bool) (t : Tj) (v o : Nat) (p : List (Nat × Nat)) : Tj :=
  { t with b := setQ t.b (sideV v) o (hearQ (t.b (sideV v) o) (forV v) (gb (sideV v) o)).1, q := t.q ++ sendV (sideV v) (hearQ (t.b (sideV v) o) (forV v) (gb (sideV v) o)).2.1 o, p := p }
theorem Tj.Ok.hearsA (ht : t.Ok ga gb) {v o : Nat} {q : List (Nat × Nat)} (hq : t.q = (v, o) :: q) :
    (t.hearsA ga v o q).Ok ga gb ∧ (t.hearsA ga v o q).pot ga gb + 1 = t.pot ga gb ∧ (hearQ (t.a (sideV v) o) (forV v) (ga (sideV v) o)).2.2 = false := by
  obtain ⟨_, ho⟩ := ht.vq (v, o) (by rw [hq]; exact List.mem_cons_self ..)
  have hd := sideV_lt v
  have hk := hearQ_sends (t.a (sideV v) o) (forV v) (ga (sideV v) o)
  have hb : t.But (t.hearsA ga v o q) (sideV v) o := fun d' o' hd' e => by
    simp only [Tj.jo, Tj.hearsA, partV_append, partV_send hd hk, setQ, hq, partV_cons]
    rw [if_neg e, if_neg (fun e' => e ⟨by omega, e'.2⟩), List.append_nil, if_neg (fun e' => e ⟨e'.1.symm, e'.2.symm⟩), List.nil_append]
  have hj : (t.jo (sideV v) o).hearX (ga (sideV v) o) = some ((t.hearsA ga v o q).jo (sideV v) o, (hearQ (t.a (sideV v) o) (forV v) (ga (sideV v) o)).2.2) := by
    simp only [Jo.hearX, Tj.jo, Tj.hearsA, partV_append, partV_send hd hk, setQ, hq, partV_cons]
    simp
  have hc := ht.can (sideV v) o hd ho
  refine ⟨⟨hb.can ht (hc.hearX hj).1, fun e he => ?_, fun e he => ht.vq e (by rw [hq]; exact List.mem_cons_of_mem _ he)⟩, ?_, (hc.hearX hj).2⟩
  · rcases List.mem_append.1 he with he | he
    · exact ht.vp e he
    · exact sendV_valid hd hk ho e he
  · have h1 := hb.pot (ga := ga) (gb := gb) hd ho
    have h2 := hc.hearsX hj
    omega
theorem Tj.Ok.hearsB (ht : t.Ok ga gb) {v o : Nat} {p : List (Nat × Nat)} (hp : t.p = (v, o) :: p) :
    (t.hearsB gb v o p).Ok ga gb ∧ (t.hearsB gb v o p).pot ga gb + 1 = t.pot ga gb ∧ (hearQ (t.b (sideV v) o) (forV v) (gb (sideV v) o)).2.2 = false := by
  obtain ⟨_, ho⟩ := ht.vp (v, o) (by rw [hp]; exact List.mem_cons_self ..)
  have hd := sideV_lt v
  have e1 : 1 - (1 - sideV v) = sideV v := by omega
  have hk := hearQ_sends (t.b (sideV v) o) (forV v) (gb (sideV v) o)
  have hb : t.But (t.hearsB gb v o p) (1 - sideV v) o := fun d' o' hd' e => by
    simp only [Tj.jo, Tj.hearsB, partV_append, partV_send hd hk, setQ, hp, partV_cons]
    rw [if_neg (fun e' => e ⟨by omega, e'.2⟩), if_neg (fun e' => e ⟨by omega, e'.2⟩), List.append_nil, if_neg (fun e' => e ⟨by omega, e'.2.symm⟩), List.nil_append]
  have hj : (t.jo (1 - sideV v) o).hearY (gb (sideV v) o) = some ((t.hearsB gb v o p).jo (1 - sideV v) o, (hearQ (t.b (sideV v) o) (forV v) (gb (sideV v) o)).2.2) := by
    simp only [Jo.hearY, Tj.jo, Tj.hearsB, partV_append, partV_send hd hk, setQ, hp, partV_cons, e1]
    simp
  have hc := ht.can (1 - sideV v) o (by omega) ho
  rw [e1] at hc
  have hh := hc.hearY hj
  refine ⟨⟨hb.can ht (by rw [e1]; exact hh.1), fun e he => ht.vp e (by rw [hp]; exact List.mem_cons_of_mem _ he), fun e he => ?_⟩, ?_, hh.2⟩
  · rcases List.mem_append.1 he with he | he
    · exact ht.vq e he
    · exact sendV_valid hd hk ho e he
  · have h1 := hb.pot (ga := ga) (gb := gb) (by omega) ho
    have h2 := hc.hearsY hj
    rw [e1] at h1
    omega
/-- At first. -/
def Tj.zero : Tj := ⟨fun _ _ => .no, [], fun _ _ => .no, []⟩
theorem Tj.zero_ok : Tj.zero.Ok ga gb := ⟨fun _ _ _ _ => can_zero _ _, fun _ h => (by cases h), fun _ h => (by cases h)⟩
theorem Tj.zero_pot : Tj.zero.pot ga gb = 0 := by
  have : ∀ (ax ay : Bool), Jo.hears ax ay 6 .zero = 0 := by decide
  unfold Tj.pot
  rw [show (fun i => (Tj.zero.jo (i / 256) (i % 256)).hears (ga (i / 256) (i % 256)) (gb (1 - i / 256) (i % 256)) 6) = fun _ => 0 from funext fun i => this _ _]
  generalize 512 = n
  induction n with
  | zero => rfl
  | succ n ih => rw [List.range_succ, List.map_append, List.sum_append, ih]; rfl
/-- At rest. -/
theorem Tj.Ok.rest (ht : t.Ok ga gb) (hp : t.p = []) (hq : t.q = []) {d o : Nat} (hd : d < 2) (ho : o < 256) : calmQ (t.a d o) = true ∧ t.a d o = t.b (1 - d) o :=
  (ht.can d o hd ho).rest (by simp only [Tj.jo, hp, partV_nil]) (by simp only [Tj.jo, hq, partV_nil])
end
end Go.Proofs.YtbnfhklpobephaaGreatDoor
