/- Package qstate: Ask, Calm, Word. -/
import Derived.Test.YtpobglejobgmlaaDoorQsCalls
namespace Go.Proofs.YtpobglejobgmlaaDoor
open Go Go.RowKit
set_option maxRecDepth 100000
set_option maxHeartbeats 4000000

theorem eq_ask (W : World) (s : Qs) (on : Bool) : (Op.equalIn 10000 81 (.agg (askC s on).toArray) (.agg #[.int .i64 0, .bool false, .int .i64 0, .bool false])).run Tryd.prog W = .ok (askQ s on).isNone W := by
  cases s <;> cases on <;> kernel_rfl
theorem guard_move : Tryd.prog.eqGuardType Tryd.prog.depth 81 = false := by kernel_rfl
theorem askC_one (s : Qs) (on : Bool) : ∀ v ∈ askC s on, v.oneCell' = true := by
  unfold askC
  cases askQ s on <;> exact mvC_one _ _ _
theorem askC_size (s : Qs) (on : Bool) : (Tryd.prog.info? 81).map (·.size) = some (askC s on).length := by rw [askC_length]; exact size_move

theorem ask_none {W : World} (hT : QsW W) (k : Int) (o on : Bool) (hx : qsOf k o = none) : Calls Tryd.prog 39 #[.agg #[.int .i64 k, .bool o], .bool on] W (Refused W) := by
  have HT := Lib.hid hT
  have HX := Lib.hid hx
  clear hT hx
  go_enter Tryd.func39, Tryd.ntmps39
  go_wp2_with (first
    | (go_at_call 43; refine (rowOf_at HT ((alloc_only _).alloc _) k o HX).mono ?_; rintro e w1 ⟨rc, rfl, hrc, ho1⟩)
    | ((with_reducible show wpList _ _ _ (⟨some 6, _, _, _, _, _⟩ :: _) _ _); refine step_alloc rfl 102 rfl row0 _ zero_qrow ?_)
    | ((with_reducible show wpList _ _ _ (⟨none, .store 102 (.tmp 6) _, _, _, _, _⟩ :: _) _ _); refine step_store rfl 102 _ _ rfl w1.heap.size rfl rc rfl _ row0 (Blk.new _ _ _) hrc.out.size hrc.out.length.symm hrc.out.one ?_; intro w4 hB4 hz4 ho4))
  obtain ⟨hB6, hO⟩ := row_end ((alloc_only _).alloc _) (Blk.new' (W.alloc (.cells #[.int .i64 k, .bool o] 53)) 81 mv0 (n := W.heap.size + 1) (by simp)) ho1 ho4
  obtain ⟨u, v, hv⟩ := HT.out.form
  have hc := hO.cellv (World.var?_cell rfl hv 0) (fun h => h)
  have hne : 2 ≠ W.heap.size + 1 := by have := World.block_lt_of_cell? _ _ (World.var?_cell rfl hv 0 : W.cell? ⟨2, 0, none⟩ = _); simp only at this; omega
  have hO5 : ∀ W', Only (· = W.heap.size + 1) w4 W' → Only (fun _ => False) W W' := fun W' h => hO.trans h (fun i hi => .inr (by omega))
  clear hO hv ho1 hB4 hz4 ho4
  refine wp_refuse 81 38 _ 2 4 16 17 (W.heap.size + 1) (.iface u v) mv0 (by kernel_rfl) rfl rfl rfl rfl rfl rfl rfl rfl rfl rfl (by kernel_rfl) (by kernel_rfl) (by kernel_rfl) (by kernel_rfl) (by kernel_rfl) (by kernel_rfl) (by kernel_rfl) (by kernel_rfl) (by kernel_rfl) size_move (mvC_one _ _ _) load_err rfl hc rfl rfl rfl hB6 rfl hne ?_
  intro W5 hB5 ho5
  go_wp2
  refine ret_cell2 rfl (W.heap.size + 1) rfl _ mv0 _ hB5.out Tryd.underlying81 rfl size_move rfl ?_
  exact ⟨⟨u, v, rfl⟩, hO5 _ ho5.out⟩

/-- Where an asking stands: the result's variable, and what came of it. -/
structure AskAt (W w : World) (b c : Nat) (mc : List Value) : Prop where
  res : Blk w b 81 mv0
  mv : Blk w c 81 mc
  only : Only (fun _ => False) W w
  new : W.heap.size ≤ b ∧ W.heap.size ≤ c ∧ b ≠ c
theorem AskAt.first {W w4 w5 : World} {b : Nat} {t : TypeId} {cs mo : List Value} (hb : Blk w4 b 81 mv0) (ho : Only (fun _ => False) W w4) (h5 : Blk w5 w4.heap.size 81 mo) (ho5 : Only (· = w4.heap.size) (w4.alloc (.cells cs.toArray t)) w5) (hW : W.heap.size ≤ b) : AskAt W w5 b w4.heap.size mo :=
  have hlt := hb.lt
  ⟨(hb.alloc _).only ho5 (by omega), h5, only_row (Only.refl _ _) ho _ ho5, hW, ho.size, by omega⟩
theorem AskAt.next {W w w' : World} {b c : Nat} {mc mo : List Value} (h : AskAt W w b c mo) (hb : Blk w' c 81 mc) (ho : Only (· = c) w w') : AskAt W w' b c mc :=
  ⟨h.res.only ho h.new.2.2, hb, h.only.trans ho (fun i hi => .inr (by have := h.new; omega)), h.new⟩
theorem AskAt.done {W w w' : World} {b c : Nat} {mc : List Value} (h : AskAt W w b c mc) (ho : Only (· = b) w w') : Only (fun _ => False) W w' := h.only.trans ho (fun i hi => .inr (by have := h.new; omega))
/-- Refused with the error of the state. -/
def RefusedS (W : World) (e : Ending) (w' : World) : Prop := (∃ u v, W.var? Tryd.prog "truchman/api.ErrState" = some #[.iface u v] ∧ e = .returned (.tuple #[.agg mv0.toArray, .iface u v])) ∧ Only (fun _ => False) W w'
theorem ask_someS {W : World} (hT : QsW W) (k : Int) (o on : Bool) {s : Qs} (hx : qsOf k o = some s) : Calls Tryd.prog 39 #[.agg #[.int .i64 k, .bool o], .bool on] W
    (fun e w' => (∃ r, askQ s on = some r ∧ Moved W (mvC r.1 r.2 false) e w') ∨ (askQ s on = none ∧ RefusedS W e w')) := by
  have HT := Lib.hid hT
  have HX := Lib.hid hx
  obtain ⟨bad, hbad⟩ : ∃ bad, bad = (askQ s on).isNone := ⟨_, rfl⟩
  obtain ⟨mc, hmc⟩ : ∃ mc, mc = askC s on := ⟨_, rfl⟩
  obtain ⟨mo, hmo⟩ : ∃ mo, mo = askC s false := ⟨_, rfl⟩
  have heq : ∀ W, (Op.equalIn 10000 81 (.agg mc.toArray) (.agg #[.int .i64 0, .bool false, .int .i64 0, .bool false])).run Tryd.prog W = .ok bad W := fun W => by rw [hbad, hmc]; exact eq_ask W s on
  have HBad := Lib.hid hbad
  have hgr := guard_move
  have HMC := Lib.hid hmc
  have HMO := Lib.hid hmo
  clear hT hx hbad hmc hmo
  obtain ⟨W0, hW0⟩ : ∃ W0, W0 = (W.alloc (.cells #[.int .i64 k, .bool o] 53)).alloc (.cells mv0.toArray 81) := ⟨_, rfl⟩
  have HB3 : Hid (Blk W0 W.heap.size 53 [.int .i64 k, .bool o]) := by rw [hW0]; exact (Blk.new W _ [.int .i64 k, .bool o]).alloc _
  have HB4 : Hid (Blk W0 (W.heap.size + 1) 81 mv0) := by rw [hW0]; exact Blk.new' _ _ mv0 (by simp)
  have HO0 : Hid (Only (fun _ => False) W W0) := by rw [hW0]; exact (alloc_only _).alloc _
  have HW0 := Lib.hid hW0
  clear hW0
  cases on
  · have e0 : mc = mo := by rw [HMC.out, HMO.out]
    rw [e0] at heq
    clear e0
    cases bad
    · skip
      go_enter Tryd.func39, Tryd.ntmps39
      go_wp2_with (first
        | ((with_reducible show wpList _ _ _ (⟨some 4, _, _, _, _, _⟩ :: _) _ _); refine step_alloc rfl 81 rfl mv0 _ zero_move ?_; rw [← HW0.out])
        | ((with_reducible show wpList _ _ _ (⟨some 10, _, _, _, _, _⟩ :: _) _ _); refine wpList_load_mid rfl 53 _ rfl W.heap.size 0 rfl [.int .i64 k, .bool o] _ (range_of HB3.out) Tryd.underlying53 rfl size_state ?_)
        | (go_at_call 43; refine (rowOf_at HT HO0.out k o HX).mono ?_; rintro e w1 ⟨rc, rfl, hrc, ho1⟩)
        | ((with_reducible show wpList _ _ _ (⟨some 6, _, _, _, _, _⟩ :: _) _ _); refine step_alloc rfl 102 rfl row0 _ zero_qrow ?_)
        | ((with_reducible show wpList _ _ _ (⟨none, .store 102 (.tmp 6) _, _, _, _, _⟩ :: _) _ _); refine step_store rfl 102 _ _ rfl w1.heap.size rfl rc rfl _ row0 (Blk.new _ _ _) hrc.out.size hrc.out.length.symm hrc.out.one ?_; intro w4 hB4 hz4 ho4; have HE := Lib.hid (row_end HO0.out HB4.out ho1 ho4); clear ho4)
        | ((with_reducible show wpList _ _ _ (⟨some 19, _, _, _, _, _⟩ :: _) _ _); refine wpList_load_mid rfl 81 _ rfl w1.heap.size 15 rfl mo _ (by rw [HMO.out]; exact at_off hrc.out hB4.out) Tryd.underlying81 rfl (by rw [HMO.out]; exact askC_size _ _) ?_)
        | ((with_reducible show wpList _ _ _ (⟨some 8, _, _, _, _, _⟩ :: _) _ _); refine step_alloc rfl 81 rfl mv0 _ zero_move ?_)
        | ((with_reducible show wpList _ _ _ (⟨none, .store 81 (.tmp 8) (.tmp 19), _, _, _, _⟩ :: _) _ _); refine step_store rfl 81 _ _ rfl w4.heap.size rfl mo rfl _ mv0 (Blk.new _ _ _) (by rw [HMO.out]; exact askC_size _ _) (by rw [HMO.out, askC_length]; rfl) (by rw [HMO.out]; exact askC_one _ _) ?_; intro w5 hB5 hz5 ho5; have HS5 := Lib.hid (AskAt.first HE.out.1 HE.out.2 hB5.out ho5 (by omega)); have HR5 := Lib.hid (((hB4.out.alloc _).only ho5 (by have := hB4.out.lt; omega))); clear ho5)
        | ((with_reducible show wpList _ _ _ (⟨some 23, _, _, _, _, _⟩ :: _) _ _); refine wpList_load_mid rfl 81 _ rfl w4.heap.size 0 rfl mo _ (range_of HS5.out.mv) Tryd.underlying81 rfl (by rw [HMO.out]; exact askC_size _ _) ?_)
        | ((with_reducible show wpList _ _ _ (⟨some 28, _, _, _, _, _⟩ :: _) _ _); refine wpList_load_mid rfl 81 _ rfl w4.heap.size 0 rfl mo _ (range_of HS5.out.mv) Tryd.underlying81 rfl (by rw [HMO.out]; exact askC_size _ _) ?_)
        | ((with_reducible show wpList _ _ _ (⟨none, .store 81 (.tmp 4) (.tmp 28), _, _, _, _⟩ :: _) _ _); refine step_store rfl 81 _ _ rfl (W.heap.size + 1) rfl mo rfl _ mv0 HS5.out.res (by rw [HMO.out]; exact askC_size _ _) (by rw [HMO.out, askC_length]; rfl) (by rw [HMO.out]; exact askC_one _ _) ?_; intro w7 hB7 hz7 ho7)
        | fail)
      refine ret_cell2 rfl (W.heap.size + 1) rfl _ mo _ hB7.out Tryd.underlying81 rfl (by rw [HMO.out]; exact askC_size _ _) rfl ?_
      cases e : askQ s false with
      | none => have := HBad.out; rw [e] at this; cases this
      | some r =>
        refine .inl ⟨r, rfl, ?_, HS5.out.done ho7⟩
        have e2 : mo = mvC r.1 r.2 false := by rw [HMO.out]; unfold askC; rw [e]
        rw [e2]
        rfl
    · skip
      go_enter Tryd.func39, Tryd.ntmps39
      go_wp2_with (first
        | ((with_reducible show wpList _ _ _ (⟨some 4, _, _, _, _, _⟩ :: _) _ _); refine step_alloc rfl 81 rfl mv0 _ zero_move ?_; rw [← HW0.out])
        | ((with_reducible show wpList _ _ _ (⟨some 10, _, _, _, _, _⟩ :: _) _ _); refine wpList_load_mid rfl 53 _ rfl W.heap.size 0 rfl [.int .i64 k, .bool o] _ (range_of HB3.out) Tryd.underlying53 rfl size_state ?_)
        | (go_at_call 43; refine (rowOf_at HT HO0.out k o HX).mono ?_; rintro e w1 ⟨rc, rfl, hrc, ho1⟩)
        | ((with_reducible show wpList _ _ _ (⟨some 6, _, _, _, _, _⟩ :: _) _ _); refine step_alloc rfl 102 rfl row0 _ zero_qrow ?_)
        | ((with_reducible show wpList _ _ _ (⟨none, .store 102 (.tmp 6) _, _, _, _, _⟩ :: _) _ _); refine step_store rfl 102 _ _ rfl w1.heap.size rfl rc rfl _ row0 (Blk.new _ _ _) hrc.out.size hrc.out.length.symm hrc.out.one ?_; intro w4 hB4 hz4 ho4; have HE := Lib.hid (row_end HO0.out HB4.out ho1 ho4); clear ho4)
        | ((with_reducible show wpList _ _ _ (⟨some 19, _, _, _, _, _⟩ :: _) _ _); refine wpList_load_mid rfl 81 _ rfl w1.heap.size 15 rfl mo _ (by rw [HMO.out]; exact at_off hrc.out hB4.out) Tryd.underlying81 rfl (by rw [HMO.out]; exact askC_size _ _) ?_)
        | ((with_reducible show wpList _ _ _ (⟨some 8, _, _, _, _, _⟩ :: _) _ _); refine step_alloc rfl 81 rfl mv0 _ zero_move ?_)
        | ((with_reducible show wpList _ _ _ (⟨none, .store 81 (.tmp 8) (.tmp 19), _, _, _, _⟩ :: _) _ _); refine step_store rfl 81 _ _ rfl w4.heap.size rfl mo rfl _ mv0 (Blk.new _ _ _) (by rw [HMO.out]; exact askC_size _ _) (by rw [HMO.out, askC_length]; rfl) (by rw [HMO.out]; exact askC_one _ _) ?_; intro w5 hB5 hz5 ho5; have HS5 := Lib.hid (AskAt.first HE.out.1 HE.out.2 hB5.out ho5 (by omega)); have HR5 := Lib.hid (((hB4.out.alloc _).only ho5 (by have := hB4.out.lt; omega))); clear ho5)
        | ((with_reducible show wpList _ _ _ (⟨some 23, _, _, _, _, _⟩ :: _) _ _); refine wpList_load_mid rfl 81 _ rfl w4.heap.size 0 rfl mo _ (range_of HS5.out.mv) Tryd.underlying81 rfl (by rw [HMO.out]; exact askC_size _ _) ?_)
        | ((with_reducible show wpList _ _ _ (⟨some 28, _, _, _, _, _⟩ :: _) _ _); refine wpList_load_mid rfl 81 _ rfl w4.heap.size 0 rfl mo _ (range_of HS5.out.mv) Tryd.underlying81 rfl (by rw [HMO.out]; exact askC_size _ _) ?_)
        | fail)
      obtain ⟨u, v, hv⟩ := HT.out.state
      have hS := HS5.out
      have hc := hS.only.cellv (World.var?_cell rfl hv 0) (fun h => h)
      have hne : 10 ≠ W.heap.size + 1 := by have := World.block_lt_of_cell? _ _ (World.var?_cell rfl hv 0 : W.cell? ⟨10, 0, none⟩ = _); simp only at this; omega
      have hR := hS.res
      have hO5 := fun W' => hS.done (w' := W')
      have HV := Lib.hid hv
      clear hv hS
      refine wp_refuse 81 38 _ 10 4 26 27 (W.heap.size + 1) (.iface u v) mv0 (by kernel_rfl) rfl rfl rfl rfl rfl rfl rfl rfl rfl rfl (by kernel_rfl) (by kernel_rfl) (by kernel_rfl) (by kernel_rfl) (by kernel_rfl) (by kernel_rfl) (by kernel_rfl) (by kernel_rfl) (by kernel_rfl) size_move (mvC_one _ _ _) load_err rfl hc rfl rfl rfl hR rfl hne ?_
      intro W8 hB8 ho8
      go_wp2
      refine ret_cell2 rfl (W.heap.size + 1) rfl _ mv0 _ hB8.out Tryd.underlying81 rfl size_move rfl ?_
      exact .inr ⟨by have := HBad.out; cases e : askQ s false with | none => rfl | some r => (rw [e] at this; cases this), ⟨u, v, HV.out, rfl⟩, hO5 _ ho8.out⟩
  · cases bad
    · skip
      go_enter Tryd.func39, Tryd.ntmps39
      go_wp2_with (first
        | ((with_reducible show wpList _ _ _ (⟨some 4, _, _, _, _, _⟩ :: _) _ _); refine step_alloc rfl 81 rfl mv0 _ zero_move ?_; rw [← HW0.out])
        | ((with_reducible show wpList _ _ _ (⟨some 10, _, _, _, _, _⟩ :: _) _ _); refine wpList_load_mid rfl 53 _ rfl W.heap.size 0 rfl [.int .i64 k, .bool o] _ (range_of HB3.out) Tryd.underlying53 rfl size_state ?_)
        | (go_at_call 43; refine (rowOf_at HT HO0.out k o HX).mono ?_; rintro e w1 ⟨rc, rfl, hrc, ho1⟩)
        | ((with_reducible show wpList _ _ _ (⟨some 6, _, _, _, _, _⟩ :: _) _ _); refine step_alloc rfl 102 rfl row0 _ zero_qrow ?_)
        | ((with_reducible show wpList _ _ _ (⟨none, .store 102 (.tmp 6) _, _, _, _, _⟩ :: _) _ _); refine step_store rfl 102 _ _ rfl w1.heap.size rfl rc rfl _ row0 (Blk.new _ _ _) hrc.out.size hrc.out.length.symm hrc.out.one ?_; intro w4 hB4 hz4 ho4; have HE := Lib.hid (row_end HO0.out HB4.out ho1 ho4); clear ho4)
        | ((with_reducible show wpList _ _ _ (⟨some 19, _, _, _, _, _⟩ :: _) _ _); refine wpList_load_mid rfl 81 _ rfl w1.heap.size 15 rfl mo _ (by rw [HMO.out]; exact at_off hrc.out hB4.out) Tryd.underlying81 rfl (by rw [HMO.out]; exact askC_size _ _) ?_)
        | ((with_reducible show wpList _ _ _ (⟨some 8, _, _, _, _, _⟩ :: _) _ _); refine step_alloc rfl 81 rfl mv0 _ zero_move ?_)
        | ((with_reducible show wpList _ _ _ (⟨none, .store 81 (.tmp 8) (.tmp 19), _, _, _, _⟩ :: _) _ _); refine step_store rfl 81 _ _ rfl w4.heap.size rfl mo rfl _ mv0 (Blk.new _ _ _) (by rw [HMO.out]; exact askC_size _ _) (by rw [HMO.out, askC_length]; rfl) (by rw [HMO.out]; exact askC_one _ _) ?_; intro w5 hB5 hz5 ho5; have HS5 := Lib.hid (AskAt.first HE.out.1 HE.out.2 hB5.out ho5 (by omega)); have HR5 := Lib.hid (((hB4.out.alloc _).only ho5 (by have := hB4.out.lt; omega))); clear ho5)
        | ((with_reducible show wpList _ _ _ (⟨some 22, _, _, _, _, _⟩ :: _) _ _); refine wpList_load_mid rfl 81 _ rfl w1.heap.size 11 rfl mc _ (by rw [HMC.out]; exact at_on hrc.out HR5.out) Tryd.underlying81 rfl (by rw [HMC.out]; exact askC_size _ _) ?_)
        | ((with_reducible show wpList _ _ _ (⟨none, .store 81 (.tmp 8) (.tmp 22), _, _, _, _⟩ :: _) _ _); refine step_store rfl 81 _ _ rfl w4.heap.size rfl mc rfl _ mo HS5.out.mv (by rw [HMC.out]; exact askC_size _ _) (by rw [HMC.out, HMO.out, askC_length, askC_length]) (by rw [HMC.out]; exact askC_one _ _) ?_; intro w6 hB6 hz6 ho6; have HS6 := Lib.hid (HS5.out.next hB6.out ho6); clear ho6)
        | ((with_reducible show wpList _ _ _ (⟨some 23, _, _, _, _, _⟩ :: _) _ _); refine wpList_load_mid rfl 81 _ rfl w4.heap.size 0 rfl mc _ (range_of HS6.out.mv) Tryd.underlying81 rfl (by rw [HMC.out]; exact askC_size _ _) ?_)
        | ((with_reducible show wpList _ _ _ (⟨some 28, _, _, _, _, _⟩ :: _) _ _); refine wpList_load_mid rfl 81 _ rfl w4.heap.size 0 rfl mc _ (range_of HS6.out.mv) Tryd.underlying81 rfl (by rw [HMC.out]; exact askC_size _ _) ?_)
        | ((with_reducible show wpList _ _ _ (⟨none, .store 81 (.tmp 4) (.tmp 28), _, _, _, _⟩ :: _) _ _); refine step_store rfl 81 _ _ rfl (W.heap.size + 1) rfl mc rfl _ mv0 HS6.out.res (by rw [HMC.out]; exact askC_size _ _) (by rw [HMC.out, askC_length]; rfl) (by rw [HMC.out]; exact askC_one _ _) ?_; intro w7 hB7 hz7 ho7)
        | fail)
      refine ret_cell2 rfl (W.heap.size + 1) rfl _ mc _ hB7.out Tryd.underlying81 rfl (by rw [HMC.out]; exact askC_size _ _) rfl ?_
      cases e : askQ s true with
      | none => have := HBad.out; rw [e] at this; cases this
      | some r =>
        refine .inl ⟨r, rfl, ?_, HS6.out.done ho7⟩
        have e2 : mc = mvC r.1 r.2 false := by rw [HMC.out]; unfold askC; rw [e]
        rw [e2]
        rfl
    · skip
      go_enter Tryd.func39, Tryd.ntmps39
      go_wp2_with (first
        | ((with_reducible show wpList _ _ _ (⟨some 4, _, _, _, _, _⟩ :: _) _ _); refine step_alloc rfl 81 rfl mv0 _ zero_move ?_; rw [← HW0.out])
        | ((with_reducible show wpList _ _ _ (⟨some 10, _, _, _, _, _⟩ :: _) _ _); refine wpList_load_mid rfl 53 _ rfl W.heap.size 0 rfl [.int .i64 k, .bool o] _ (range_of HB3.out) Tryd.underlying53 rfl size_state ?_)
        | (go_at_call 43; refine (rowOf_at HT HO0.out k o HX).mono ?_; rintro e w1 ⟨rc, rfl, hrc, ho1⟩)
        | ((with_reducible show wpList _ _ _ (⟨some 6, _, _, _, _, _⟩ :: _) _ _); refine step_alloc rfl 102 rfl row0 _ zero_qrow ?_)
        | ((with_reducible show wpList _ _ _ (⟨none, .store 102 (.tmp 6) _, _, _, _, _⟩ :: _) _ _); refine step_store rfl 102 _ _ rfl w1.heap.size rfl rc rfl _ row0 (Blk.new _ _ _) hrc.out.size hrc.out.length.symm hrc.out.one ?_; intro w4 hB4 hz4 ho4; have HE := Lib.hid (row_end HO0.out HB4.out ho1 ho4); clear ho4)
        | ((with_reducible show wpList _ _ _ (⟨some 19, _, _, _, _, _⟩ :: _) _ _); refine wpList_load_mid rfl 81 _ rfl w1.heap.size 15 rfl mo _ (by rw [HMO.out]; exact at_off hrc.out hB4.out) Tryd.underlying81 rfl (by rw [HMO.out]; exact askC_size _ _) ?_)
        | ((with_reducible show wpList _ _ _ (⟨some 8, _, _, _, _, _⟩ :: _) _ _); refine step_alloc rfl 81 rfl mv0 _ zero_move ?_)
        | ((with_reducible show wpList _ _ _ (⟨none, .store 81 (.tmp 8) (.tmp 19), _, _, _, _⟩ :: _) _ _); refine step_store rfl 81 _ _ rfl w4.heap.size rfl mo rfl _ mv0 (Blk.new _ _ _) (by rw [HMO.out]; exact askC_size _ _) (by rw [HMO.out, askC_length]; rfl) (by rw [HMO.out]; exact askC_one _ _) ?_; intro w5 hB5 hz5 ho5; have HS5 := Lib.hid (AskAt.first HE.out.1 HE.out.2 hB5.out ho5 (by omega)); have HR5 := Lib.hid (((hB4.out.alloc _).only ho5 (by have := hB4.out.lt; omega))); clear ho5)
        | ((with_reducible show wpList _ _ _ (⟨some 22, _, _, _, _, _⟩ :: _) _ _); refine wpList_load_mid rfl 81 _ rfl w1.heap.size 11 rfl mc _ (by rw [HMC.out]; exact at_on hrc.out HR5.out) Tryd.underlying81 rfl (by rw [HMC.out]; exact askC_size _ _) ?_)
        | ((with_reducible show wpList _ _ _ (⟨none, .store 81 (.tmp 8) (.tmp 22), _, _, _, _⟩ :: _) _ _); refine step_store rfl 81 _ _ rfl w4.heap.size rfl mc rfl _ mo HS5.out.mv (by rw [HMC.out]; exact askC_size _ _) (by rw [HMC.out, HMO.out, askC_length, askC_length]) (by rw [HMC.out]; exact askC_one _ _) ?_; intro w6 hB6 hz6 ho6; have HS6 := Lib.hid (HS5.out.next hB6.out ho6); clear ho6)
        | ((with_reducible show wpList _ _ _ (⟨some 23, _, _, _, _, _⟩ :: _) _ _); refine wpList_load_mid rfl 81 _ rfl w4.heap.size 0 rfl mc _ (range_of HS6.out.mv) Tryd.underlying81 rfl (by rw [HMC.out]; exact askC_size _ _) ?_)
        | ((with_reducible show wpList _ _ _ (⟨some 28, _, _, _, _, _⟩ :: _) _ _); refine wpList_load_mid rfl 81 _ rfl w4.heap.size 0 rfl mc _ (range_of HS6.out.mv) Tryd.underlying81 rfl (by rw [HMC.out]; exact askC_size _ _) ?_)
        | fail)
      obtain ⟨u, v, hv⟩ := HT.out.state
      have hS := HS6.out
      have hc := hS.only.cellv (World.var?_cell rfl hv 0) (fun h => h)
      have hne : 10 ≠ W.heap.size + 1 := by have := World.block_lt_of_cell? _ _ (World.var?_cell rfl hv 0 : W.cell? ⟨10, 0, none⟩ = _); simp only at this; omega
      have hR := hS.res
      have hO5 := fun W' => hS.done (w' := W')
      have HV := Lib.hid hv
      clear hv hS
      refine wp_refuse 81 38 _ 10 4 26 27 (W.heap.size + 1) (.iface u v) mv0 (by kernel_rfl) rfl rfl rfl rfl rfl rfl rfl rfl rfl rfl (by kernel_rfl) (by kernel_rfl) (by kernel_rfl) (by kernel_rfl) (by kernel_rfl) (by kernel_rfl) (by kernel_rfl) (by kernel_rfl) (by kernel_rfl) size_move (mvC_one _ _ _) load_err rfl hc rfl rfl rfl hR rfl hne ?_
      intro W8 hB8 ho8
      go_wp2
      refine ret_cell2 rfl (W.heap.size + 1) rfl _ mv0 _ hB8.out Tryd.underlying81 rfl size_move rfl ?_
      exact .inr ⟨by have := HBad.out; cases e : askQ s true with | none => rfl | some r => (rw [e] at this; cases this), ⟨u, v, HV.out, rfl⟩, hO5 _ ho8.out⟩

theorem ask_some {W : World} (hT : QsW W) (k : Int) (o on : Bool) {s : Qs} (hx : qsOf k o = some s) : Calls Tryd.prog 39 #[.agg #[.int .i64 k, .bool o], .bool on] W
    (fun e w' => (∃ r, askQ s on = some r ∧ Moved W (mvC r.1 r.2 false) e w') ∨ (askQ s on = none ∧ Refused W e w')) :=
  (ask_someS hT k o on hx).mono fun _ _ h => h.imp id fun ⟨h1, ⟨u, v, _, h2⟩, h3⟩ => ⟨h1, ⟨u, v, h2⟩, h3⟩
theorem calm_any (W : World) (k : Int) (o : Bool) : Calls Tryd.prog 41 #[.agg #[.int .i64 k, .bool o]] W fun e w' => e = .returned (.bool (decide (k = 0 ∧ o = false) || decide (k = 1 ∧ o = false))) ∧ Only (fun _ => False) W w' := by
  have h0 : ∀ W, (Op.equalIn 10000 53 (.agg #[.int .i64 k, .bool o]) (.agg #[.int .i64 0, .bool false])).run Tryd.prog W = .ok (decide (k = 0 ∧ o = false)) W := fun W => eq_state W _ _ _ _
  have h1 : ∀ W, (Op.equalIn 10000 53 (.agg #[.int .i64 k, .bool o]) (.agg #[.int .i64 1, .bool false])).run Tryd.prog W = .ok (decide (k = 1 ∧ o = false)) W := fun W => eq_state W _ _ _ _
  obtain ⟨b0, hb0⟩ : ∃ b, b = decide (k = 0 ∧ o = false) := ⟨_, rfl⟩
  obtain ⟨b1, hb1⟩ : ∃ b, b = decide (k = 1 ∧ o = false) := ⟨_, rfl⟩
  rw [← hb0] at h0 ⊢
  rw [← hb1] at h1 ⊢
  have hgr := guard_state
  clear hb0 hb1
  cases b0
  all_goals
    go_enter Tryd.func41, Tryd.ntmps41
    go_wp2
    go_ret
    exact ⟨rfl, alloc_only _⟩
end Go.Proofs.YtpobglejobgmlaaDoor
