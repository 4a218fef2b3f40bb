/- Package table: what Hear refuses; Ask. -/
import Derived.Test.YthbmhoeaimdjmaaDoorTbHear
namespace Go.Proofs.YthbmhoeaimdjmaaDoor
open Go Go.RowKit
set_option maxRecDepth 100000
set_option maxHeartbeats 4000000

theorem heard0_one : ∀ v ∈ ([.int .i64 0, .int .i64 0, .bool false, .bool false] : List Value), v.oneCell' = true := fun v hv => by
  simp only [List.mem_cons, List.not_mem_nil, or_false] at hv
  rcases hv with rfl | rfl | rfl | rfl <;> rfl
@[reducible] def heard0V : Value := .agg #[.int .i64 0, .int .i64 0, .bool false, .bool false]
theorem thear_kind {W : World} (hT : TbW W) (p : Nat) {v : Int} (o : Int) (hv : ¬ (251 ≤ v ∧ v ≤ 254)) :
    Calls Tryd.prog 17 #[.pointer (some ⟨p, 0, none⟩), .int .i64 v, .int .i64 o] W fun e w' =>
      (∃ u x, W.var? Tryd.prog "truchman/api.ErrKind" = some #[.iface u x] ∧ e = .returned (.tuple #[heard0V, .iface u x])) ∧ Only (fun _ => False) W w' := by
  have H1 : Hid (∀ W, Calls Tryd.prog 23 #[.int .i64 v] W fun e w' => e = .returned (.bool false) ∧ w' = W) := fun W => by
    have := verb_any W v
    rwa [decide_eq_false hv] at this
  have HT := Lib.hid hT
  clear hT hv
  go_enter Tryd.func17, Tryd.ntmps17
  go_wp2_with (first
    | (go_at_call 23; refine (H1.out _).mono ?_; rintro e w' ⟨rfl, rfl⟩)
    | fail)
  obtain ⟨u, x, hv⟩ := HT.out.kind
  obtain ⟨N, hN⟩ : ∃ N, N = W.heap.size := ⟨_, rfl⟩
  have hB : Blk (W.alloc (.cells #[.int .i64 0, .int .i64 0, .bool false, .bool false] 56)) N 56 [.int .i64 0, .int .i64 0, .bool false, .bool false] := by rw [hN]; exact Blk.new W _ [.int .i64 0, .int .i64 0, .bool false, .bool false]
  have hO : Only (fun _ => False) W (W.alloc (.cells #[.int .i64 0, .int .i64 0, .bool false, .bool false] 56)) := (Only.refl _ _).alloc _
  have hc := hO.cellv (World.var?_cell rfl hv 0) (fun h => h)
  have hne : 1 ≠ N := by have := World.block_lt_of_cell? _ _ (World.var?_cell rfl hv 0 : W.cell? ⟨1, 0, none⟩ = _); simp only at this; omega
  have HV := Lib.hid hv
  have HNW : Hid (W.heap.size = N) := hN.symm
  rw [← hN]
  clear hv hN
  refine wp_refuse 56 28 _ 1 6 16 17 N (.iface u x) [.int .i64 0, .int .i64 0, .bool false, .bool false] (by kernel_rfl) rfl rfl rfl rfl rfl rfl rfl rfl rfl rfl (by kernel_rfl) (by kernel_rfl) (by kernel_rfl) (by kernel_rfl) (by kernel_rfl) (by kernel_rfl) (by kernel_rfl) (by kernel_rfl) (by kernel_rfl) size_heard heard0_one load_err rfl hc rfl rfl rfl hB rfl hne ?_
  intro W8 hB8 ho8
  go_wp2
  refine ret_cell2 rfl N rfl _ [.int .i64 0, .int .i64 0, .bool false, .bool false] _ hB8.out Tryd.underlying56 rfl size_heard rfl ?_
  exact ⟨⟨u, x, HV.out, rfl⟩, hO.trans ho8.out (fun i hi => .inr (by have := HNW.out; omega))⟩
theorem thear_range {W : World} (hT : TbW W) (p : Nat) {v o : Int} (hv : 251 ≤ v ∧ v ≤ 254) (ho : ¬ (0 ≤ o ∧ o ≤ 255)) :
    Calls Tryd.prog 17 #[.pointer (some ⟨p, 0, none⟩), .int .i64 v, .int .i64 o] W fun e w' =>
      (∃ u x, W.var? Tryd.prog "truchman/api.ErrRange" = some #[.iface u x] ∧ e = .returned (.tuple #[heard0V, .iface u x])) ∧ Only (fun _ => False) W w' := by
  have H1 : Hid (∀ W, Calls Tryd.prog 23 #[.int .i64 v] W fun e w' => e = .returned (.bool true) ∧ w' = W) := fun W => by
    have := verb_any W v
    rwa [decide_eq_true hv] at this
  have H2 : Hid (∀ W, Calls Tryd.prog 35 #[.int .i64 o] W fun e w' => e = .returned (.bool false) ∧ w' = W) := fun W => by
    have := isOption_any W o
    rwa [decide_eq_false ho] at this
  have HT := Lib.hid hT
  clear hT hv ho
  go_enter Tryd.func17, Tryd.ntmps17
  go_wp2_with (first
    | (go_at_call 23; refine (H1.out _).mono ?_; rintro e w' ⟨rfl, rfl⟩)
    | (go_at_call 35; refine (H2.out _).mono ?_; rintro e w' ⟨rfl, rfl⟩)
    | fail)
  obtain ⟨u, x, hv⟩ := HT.out.range
  obtain ⟨N, hN⟩ : ∃ N, N = W.heap.size := ⟨_, rfl⟩
  have hB : Blk (W.alloc (.cells #[.int .i64 0, .int .i64 0, .bool false, .bool false] 56)) N 56 [.int .i64 0, .int .i64 0, .bool false, .bool false] := by rw [hN]; exact Blk.new W _ [.int .i64 0, .int .i64 0, .bool false, .bool false]
  have hO : Only (fun _ => False) W (W.alloc (.cells #[.int .i64 0, .int .i64 0, .bool false, .bool false] 56)) := (Only.refl _ _).alloc _
  have hc := hO.cellv (World.var?_cell rfl hv 0) (fun h => h)
  have hne : 2 ≠ N := by have := World.block_lt_of_cell? _ _ (World.var?_cell rfl hv 0 : W.cell? ⟨2, 0, none⟩ = _); simp only at this; omega
  have HV := Lib.hid hv
  have HNW : Hid (W.heap.size = N) := hN.symm
  rw [← hN]
  clear hv hN
  refine wp_refuse 56 28 _ 2 6 22 23 N (.iface u x) [.int .i64 0, .int .i64 0, .bool false, .bool false] (by kernel_rfl) rfl rfl rfl rfl rfl rfl rfl rfl rfl rfl (by kernel_rfl) (by kernel_rfl) (by kernel_rfl) (by kernel_rfl) (by kernel_rfl) (by kernel_rfl) (by kernel_rfl) (by kernel_rfl) (by kernel_rfl) size_heard heard0_one load_err rfl hc rfl rfl rfl hB rfl hne ?_
  intro W8 hB8 ho8
  go_wp2
  refine ret_cell2 rfl N rfl _ [.int .i64 0, .int .i64 0, .bool false, .bool false] _ hB8.out Tryd.underlying56 rfl size_heard rfl ?_
  exact ⟨⟨u, x, HV.out, rfl⟩, hO.trans ho8.out (fun i hi => .inr (by have := HNW.out; omega))⟩

/-- Ask refuses. -/
@[reducible] def AskedNot (W : World) (n : String) (e : Ending) (w' : World) : Prop := (∃ u x, W.var? Tryd.prog n = some #[.iface u x] ∧ e = .returned (.tuple #[.int .i64 0, .iface u x])) ∧ Only (fun _ => False) W w'
theorem task_kind {W : World} (hT : TbW W) (p : Nat) {s : Int} (o : Int) (on : Bool) (hs : ¬ (s = 0 ∨ s = 1)) :
    Calls Tryd.prog 19 #[.pointer (some ⟨p, 0, none⟩), .int .i64 s, .int .i64 o, .bool on] W (AskedNot W "truchman/api.ErrKind") := by
  have H1 : Hid (∀ W, Calls Tryd.prog 46 #[.int .i64 s] W fun e w' => e = .returned (.bool false) ∧ w' = W) := fun W => by
    have := isSide_any W s
    rwa [decide_eq_false hs] at this
  obtain ⟨u, x, hv⟩ := hT.kind
  have hc : W.cell? ⟨1, 0, none⟩ = some (.iface u x) := World.var?_cell rfl hv 0
  have HV := Lib.hid hv
  clear hT hs hv
  go_enter Tryd.func19, Tryd.ntmps19
  go_wp2_with (first
    | (go_at_call 46; refine (H1.out _).mono ?_; rintro e w' ⟨rfl, rfl⟩)
    | fail)
  go_quiet (fail)
  go_wp2
  go_ret2
  exact ⟨⟨u, x, HV.out, rfl⟩, (Only.refl _ _).drewN _⟩
theorem task_range {W : World} (hT : TbW W) (p : Nat) {s o : Int} (on : Bool) (hs : s = 0 ∨ s = 1) (ho : ¬ (0 ≤ o ∧ o ≤ 255)) :
    Calls Tryd.prog 19 #[.pointer (some ⟨p, 0, none⟩), .int .i64 s, .int .i64 o, .bool on] W (AskedNot W "truchman/api.ErrRange") := by
  have H1 : Hid (∀ W, Calls Tryd.prog 46 #[.int .i64 s] W fun e w' => e = .returned (.bool true) ∧ w' = W) := fun W => by
    have := isSide_any W s
    rwa [decide_eq_true hs] at this
  have H2 : Hid (∀ W, Calls Tryd.prog 35 #[.int .i64 o] W fun e w' => e = .returned (.bool false) ∧ w' = W) := fun W => by
    have := isOption_any W o
    rwa [decide_eq_false ho] at this
  obtain ⟨u, x, hv⟩ := hT.range
  have hc : W.cell? ⟨2, 0, none⟩ = some (.iface u x) := World.var?_cell rfl hv 0
  have HV := Lib.hid hv
  clear hT hs ho hv
  go_enter Tryd.func19, Tryd.ntmps19
  go_wp2_with (first
    | (go_at_call 46; refine (H1.out _).mono ?_; rintro e w' ⟨rfl, rfl⟩)
    | (go_at_call 35; refine (H2.out _).mono ?_; rintro e w' ⟨rfl, rfl⟩)
    | fail)
  go_quiet (fail)
  go_wp2
  go_ret2
  exact ⟨⟨u, x, HV.out, rfl⟩, (Only.refl _ _).drewN _⟩
theorem task_none {W : World} (hT : TbW W) {p : Nat} {ag : Nat → Nat → Bool} {t : Tb} (h : TbAt W p ag t) {s o : Nat} (hs : s < 2) (ho : o < 256) {on : Bool} (hq : askQ (t.st s o) on = none) :
    Calls Tryd.prog 19 #[.pointer (some ⟨p, 0, none⟩), .int .i64 (s : Int), .int .i64 (o : Int), .bool on] W (AskedNot W "truchman/api.ErrState") := by
  obtain ⟨cs, hB, hC⟩ := h
  have H1 : Hid (∀ W, Calls Tryd.prog 46 #[.int .i64 (s : Int)] W fun e w' => e = .returned (.bool true) ∧ w' = W) := fun W => by
    have := isSide_any W (s : Int)
    rwa [decide_eq_true (by omega)] at this
  have H2 : Hid (∀ W, Calls Tryd.prog 35 #[.int .i64 (o : Int)] W fun e w' => e = .returned (.bool true) ∧ w' = W) := fun W => by
    have := isOption_any W (o : Int)
    rwa [decide_eq_true (by omega)] at this
  obtain ⟨q, hqq⟩ : ∃ q, q = t.st s o := ⟨_, rfl⟩
  rw [← hqq] at hq
  have HA : ∀ w, Only (fun _ => False) W w → Calls Tryd.prog 47 #[.agg #[.int .i64 (q.kind : Int), .bool q.opp], .bool on] w fun e w' => (∃ u v, w.var? Tryd.prog "truchman/api.ErrState" = some #[.iface u v] ∧ e = .returned (.tuple #[.agg #[.int .i64 0, .bool false, .int .i64 0, .bool false], .iface u v])) ∧ Only (fun _ => False) w w' := fun w ho =>
    (ask_someS (hT.qs.only ho) (q.kind : Int) q.opp on (qsOf_kind q)).mono (fun e w' h => by
      rcases h with ⟨r, h1, _⟩ | ⟨_, h2⟩
      · rw [hq] at h1; cases h1
      · exact h2)
  have HSt : Hid (∀ w, Blk w p 93 cs → w.rangeAt p (s * 512 + o * 2) [.int .i64 (q.kind : Int), .bool q.opp]) := fun w hb => by rw [hqq]; exact st_range hb hC hs ho rfl
  obtain ⟨qk, hqk⟩ : ∃ x, x = (q.kind : Int) := ⟨_, rfl⟩
  obtain ⟨qo, hqo⟩ : ∃ x, x = q.opp := ⟨_, rfl⟩
  rw [← hqk, ← hqo] at HA HSt
  have HA := Lib.hid HA
  have HB := Lib.hid hB
  have HT := Lib.hid hT
  have hp := hB.lt
  have hs2 : (s : Int) < 2 := by omega
  have ho2 : (o : Int) < 256 := by omega
  clear hB hC hT hq hqq hqk hqo
  go_enter Tryd.func19, Tryd.ntmps19
  go_wp2_with (first
    | (go_at_call 46; refine (H1.out _).mono ?_; rintro e w' ⟨rfl, rfl⟩)
    | (go_at_call 35; refine (H2.out _).mono ?_; rintro e w' ⟨rfl, rfl⟩)
    | ((with_reducible show wpList _ _ _ (⟨some 30, _, _, _, _, _⟩ :: _) _ _); refine wpList_load_mid rfl 87 _ rfl p (s * 512 + o * 2) rfl [.int .i64 qk, .bool qo] _ (HSt.out _ HB.out) Tryd.underlying87 rfl size_state ?_)
    | (go_at_call 47; refine (HA.out _ (Only.refl _ _)).mono ?_; rintro e w1 ⟨⟨u, x, hv, rfl⟩, ho1⟩; have HV := Lib.hid hv; clear hv)
    | fail)
  go_ret2
  exact ⟨⟨u, x, HV.out, rfl⟩, ho1.alloc _⟩
theorem task_some {W : World} (hT : TbW W) {p : Nat} {ag : Nat → Nat → Bool} {t : Tb} (h : TbAt W p ag t) {s o : Nat} (hs : s < 2) (ho : o < 256) {on : Bool} {m : Qs × Nat} (hq : askQ (t.st s o) on = some m) (hn : t.sent ≤ 1000000) (hh : t.asked ≤ 1000000) :
    Calls Tryd.prog 19 #[.pointer (some ⟨p, 0, none⟩), .int .i64 (s : Int), .int .i64 (o : Int), .bool on] W fun e w' =>
      e = .returned (.tuple #[.int .i64 (toldV s m.2 : Int), .nilIface]) ∧ TbAt w' p ag ⟨setQ t.st s o m.1, t.heard, t.asked + 1, t.sent + sentN m.2⟩ ∧ Only (· = p) W w' := by
  obtain ⟨cs, hB, hC⟩ := h
  have H1 : Hid (∀ W, Calls Tryd.prog 46 #[.int .i64 (s : Int)] W fun e w' => e = .returned (.bool true) ∧ w' = W) := fun W => by
    have := isSide_any W (s : Int)
    rwa [decide_eq_true (by omega)] at this
  have H2 : Hid (∀ W, Calls Tryd.prog 35 #[.int .i64 (o : Int)] W fun e w' => e = .returned (.bool true) ∧ w' = W) := fun W => by
    have := isOption_any W (o : Int)
    rwa [decide_eq_true (by omega)] at this
  obtain ⟨q, hqq⟩ : ∃ q, q = t.st s o := ⟨_, rfl⟩
  rw [← hqq] at hq
  have hk := askQ_sends hq
  obtain ⟨mq, mk⟩ := m
  simp only at hk ⊢
  have HA : ∀ w, Only (fun _ => False) W w → Calls Tryd.prog 47 #[.agg #[.int .i64 (q.kind : Int), .bool q.opp], .bool on] w fun e w' => e = .returned (.tuple #[.agg #[.int .i64 (mq.kind : Int), .bool mq.opp, .int .i64 (mk : Int), .bool false], .nilIface]) ∧ Only (fun _ => False) w w' := fun w ho =>
    (ask_someS (hT.qs.only ho) (q.kind : Int) q.opp on (qsOf_kind q)).mono (fun e w' h => by
      rcases h with ⟨r, h1, h2⟩ | ⟨h1, _⟩
      · rw [hq] at h1
        obtain rfl := Option.some.inj h1
        exact h2
      · rw [hq] at h1; cases h1)
  have HMv : ∀ w, VerbsAt w → ∀ t' : Tb, TbAt w p ag t' → t'.sent ≤ 1000000 → Calls Tryd.prog 39 #[.pointer (some ⟨p, 0, none⟩), .int .i64 (s : Int), .int .i64 (o : Int), .agg #[.int .i64 (mq.kind : Int), .bool mq.opp, .int .i64 (mk : Int), .bool false]] w fun e w' =>
      e = .returned (.int .i64 (toldV s mk : Int)) ∧ TbAt w' p ag { t' with st := setQ t'.st s o mq, sent := t'.sent + sentN mk } ∧ Only (· = p) w w' := fun w hv t' ht hn => move_any hv ht hs ho mq mk hk false hn
  have HSt : Hid (∀ w, Blk w p 93 cs → w.rangeAt p (s * 512 + o * 2) [.int .i64 (q.kind : Int), .bool q.opp]) := fun w hb => by rw [hqq]; exact st_range hb hC hs ho rfl
  obtain ⟨qk, hqk⟩ : ∃ x, x = (q.kind : Int) := ⟨_, rfl⟩
  obtain ⟨qo, hqo⟩ : ∃ x, x = q.opp := ⟨_, rfl⟩
  obtain ⟨zk, hzk⟩ : ∃ x, x = (mq.kind : Int) := ⟨_, rfl⟩
  obtain ⟨zo, hzo⟩ : ∃ x, x = mq.opp := ⟨_, rfl⟩
  obtain ⟨zm, hzm⟩ : ∃ x, x = (mk : Int) := ⟨_, rfl⟩
  obtain ⟨tv, htv⟩ : ∃ x, x = (toldV s mk : Int) := ⟨_, rfl⟩
  rw [← htv] at HMv ⊢
  rw [← hqk, ← hqo] at HA HSt
  rw [← hzk, ← hzo, ← hzm] at HA HMv
  have HA := Lib.hid HA
  have HMv := Lib.hid HMv
  have HB := Lib.hid hB
  have HC := Lib.hid hC
  have HT := Lib.hid hT
  have HN := Lib.hid hn
  have hp := hB.lt
  have hs2 : (s : Int) < 2 := by omega
  have ho2 : (o : Int) < 256 := by omega
  obtain ⟨n, hnn⟩ : ∃ n, n = t.asked := ⟨_, rfl⟩
  rw [← hnn] at hh
  have HNn := Lib.hid hnn
  have hgp : 18 ≠ p := fun e => by
    have h4 : W.cell? ⟨18, 1, none⟩ = some (.int .i64 (toldV 0 1 : Int)) := hT.verbs.at_ (s := 0) (k := 1) (by omega) (by omega)
    rw [e, hB.cell, hC.opp 1 0 0 (by omega) (by omega) rfl] at h4
    cases h4
  clear hB hC hT hq hqq hqk hqo hzk hzo hzm htv hn hnn
  go_enter Tryd.func19, Tryd.ntmps19
  go_wp2_with (first
    | (go_at_call 46; refine (H1.out _).mono ?_; rintro e w' ⟨rfl, rfl⟩)
    | (go_at_call 35; refine (H2.out _).mono ?_; rintro e w' ⟨rfl, rfl⟩)
    | ((with_reducible show wpList _ _ _ (⟨some 30, _, _, _, _, _⟩ :: _) _ _); refine wpList_load_mid rfl 87 _ rfl p (s * 512 + o * 2) rfl [.int .i64 qk, .bool qo] _ (HSt.out _ HB.out) Tryd.underlying87 rfl size_state ?_)
    | (go_at_call 47; refine (HA.out _ (Only.refl _ _)).mono ?_; rintro e w1 ⟨rfl, ho1⟩; have HB1 := Lib.hid ((HB.out.only ho1 (fun h => h)).alloc (.cells #[.int .i64 zk, .bool zo, .int .i64 zm, .bool false] 97)); have c37 : (w1.alloc (.cells #[.int .i64 zk, .bool zo, .int .i64 zm, .bool false] 97)).cell? ⟨p, 1537, none⟩ = some (.int .i64 (n : Int)) := (by rw [HB1.out.cell, HNn.out]; exact HC.out.asked); have f37 := HB1.out.frozen 1537; have HO1 := Lib.hid (ho1.alloc (.cells #[.int .i64 zk, .bool zo, .int .i64 zm, .bool false] 97)); have HMx := Lib.hid ((Blk.new w1 97 [.int .i64 zk, .bool zo, .int .i64 zm, .bool false]).far (p := ⟨p, 1537, none⟩) (by have := ho1.size; show _ ≠ p; omega) (.int .i64 ((n : Int) + 1))); have x0 := HMx.out.cell 0; have x1 := HMx.out.cell 1; have x2 := HMx.out.cell 2; have x3 := HMx.out.cell 3; simp only [List.getElem?_cons_zero, List.getElem?_cons_succ] at x0 x1 x2 x3; clear ho1)
    | (go_at_call 39; refine (HMv.out _ (fun j v hj => ((HO1.out.mono (T := (· = p)) (fun _ h => h.elim)).setCell (p := ⟨p, 1537, none⟩) (.inl rfl) _).cellv (HT.out.verbs j v hj) hgp) { t with asked := t.asked + 1 } ⟨_, HB1.out.setCell 1537 (.int .i64 ((n : Int) + 1)), by have := HC.out.setAsked (t.asked + 1); rw [← HNn.out] at this ⊢; exact this⟩ HN.out).mono ?_; rintro e w2 ⟨rfl, ht2, ho2⟩)
    | fail)
  go_ret2
  exact ⟨rfl, ht2, ((HO1.out.mono (T := (· = p)) (fun _ h => h.elim)).setCell (p := ⟨p, 1537, none⟩) (.inl rfl) _).trans ho2 (fun i hi => .inl hi)⟩
end Go.Proofs.YthbmhoeaimdjmaaDoor
