/- Layer 11's document, walked: Hear. -/
import Derived.Test.YthbmhoeaimdjmaaDoorTbRefHear
import Derived.Deep.RegionHeld3
namespace Go.Proofs.YthbmhoeaimdjmaaDoor
open Go Go.RowKit
set_option maxRecDepth 100000
set_option maxHeartbeats 4000000

theorem ret_ttct {P : Program} {fn : Func} {R : Ending → World → Prop} {a : Act} {w : World} {p1 p2 p u : Tmp} {ty : TypeId} (h : fn.results = #[.tmp p1, .tmp p2, .cell p ty, .tmp u]) (g : Nat) (hp : a.tmps.getD p undef = .pointer (some ⟨g, 0, none⟩))
    (t : TypeId) (cs : List Value) (d : TypeDesc) (hb : Blk w g t cs) (hu : P.underlying ty = some d) (hd : d.isRow = true) (hi : (P.info? ty).map (·.size) = some cs.length) (hdf : a.defers = [])
    (hR : R (.returned (.tuple #[a.tmps.getD p1 undef, a.tmps.getD p2 undef, .agg cs.toArray, a.tmps.getD u undef])) w) : bodyPost P fn R .ret a w := by
  refine bodyPost_ret (v := .tuple #[a.tmps.getD p1 undef, a.tmps.getD p2 undef, .agg cs.toArray, a.tmps.getD u undef]) ?_ hdf hR
  have hres : (results fn a.tmps).run P w = ((asAddr (a.tmps.getD p undef)).run P w).andThen fun x w₁ => ((loadVar ty x).run P w₁).andThen fun v w₂ => .ok (.tuple #[a.tmps.getD p1 undef, a.tmps.getD p2 undef, v, a.tmps.getD u undef]) w₂ := by
    simp only [results, h]
    simp [Sem.run_bind, Result.andThen]
  rw [hres, hp]
  have := run_loadVar_mid (P := P) w g 0 ty cs d (fun j v hv => by rw [Nat.zero_add, hb.cell]; exact hv) hu hd hi
  simp [asAddr, Result.andThen, this]
theorem size_two : (Tryd.prog.info? 59).map (·.size) = some 2 := by kernel_rfl

theorem rfHear_kind (w : World) (r : Nat) {v : Int} (o : Int) (hv : ¬ (251 ≤ v ∧ v ≤ 254)) : Calls Tryd.prog 18 #[.pointer (some ⟨r, 0, none⟩), .int .i64 v, .int .i64 o] w fun e w' => e = .returned (.tuple #[.int .i64 0, .int .i64 0, .agg #[.bool false, .bool false], .int .i64 9]) ∧ Only (fun _ => False) w w' := by
  rcases (show v < 251 ∨ (¬ v < 251 ∧ 254 < v) by omega) with h0 | ⟨h0, h1⟩
  · have e0 : decide (v < 251) = true := by simpa using h0
    clear hv
    go_enter Tryd.func18, Tryd.ntmps18
    go_wp2
    refine ret_ttct rfl w.heap.size rfl _ [.bool false, .bool false] _ (Blk.new w _ [.bool false, .bool false]) Tryd.underlying59 rfl size_two rfl ?_
    exact ⟨rfl, alloc_only _⟩
  · have e0 : decide (v < 251) = false := by simpa using h0
    have e1 : decide (254 < v) = true := by simpa using h1
    clear hv
    go_enter Tryd.func18, Tryd.ntmps18
    go_wp2
    refine ret_ttct rfl w.heap.size rfl _ [.bool false, .bool false] _ (Blk.new w _ [.bool false, .bool false]) Tryd.underlying59 rfl size_two rfl ?_
    exact ⟨rfl, alloc_only _⟩
theorem rfHear_range (w : World) (r : Nat) {v o : Int} (hv : 251 ≤ v ∧ v ≤ 254) (ho : ¬ (0 ≤ o ∧ o ≤ 255)) : Calls Tryd.prog 18 #[.pointer (some ⟨r, 0, none⟩), .int .i64 v, .int .i64 o] w fun e w' => e = .returned (.tuple #[.int .i64 0, .int .i64 0, .agg #[.bool false, .bool false], .int .i64 1]) ∧ Only (fun _ => False) w w' := by
  have d0 : decide (v < 251) = false := by simp; omega
  have d1 : decide (254 < v) = false := by simp; omega
  rcases (show o < 0 ∨ (¬ o < 0 ∧ 255 < o) by omega) with h0 | ⟨h0, h1⟩
  · have e0 : decide (o < 0) = true := by simpa using h0
    clear ho hv
    go_enter Tryd.func18, Tryd.ntmps18
    go_wp2
    refine ret_ttct rfl w.heap.size rfl _ [.bool false, .bool false] _ (Blk.new w _ [.bool false, .bool false]) Tryd.underlying59 rfl size_two rfl ?_
    exact ⟨rfl, alloc_only _⟩
  · have e0 : decide (o < 0) = false := by simpa using h0
    have e1 : decide (255 < o) = true := by simpa using h1
    clear ho hv
    go_enter Tryd.func18, Tryd.ntmps18
    go_wp2
    refine ret_ttct rfl w.heap.size rfl _ [.bool false, .bool false] _ (Blk.new w _ [.bool false, .bool false]) Tryd.underlying59 rfl size_two rfl ?_
    exact ⟨rfl, alloc_only _⟩

theorem rfHear_some {w : World} {B r : Nat} {P : Po} {l : List Rq} {T : Tb} (h : RfAt w B r P l T) (hr : RowsAre l T.st) (hP : P.At w) (hn1 : P.n1 ≤ 1000) (hn2 : P.n2 ≤ 1000) (hB : B ≤ w.heap.size) (hn : l.length ≤ 900) {v o : Nat} (hv : 251 ≤ v ∧ v ≤ 254) (ho : o < 256) (hsn : T.sent ≤ 1000000) (hhn : T.heard ≤ 1000000) :
    Calls Tryd.prog 18 #[.pointer (some ⟨r, 0, none⟩), .int .i64 (v : Int), .int .i64 (o : Int)] w fun e w' =>
      e = .returned (.tuple #[.int .i64 (sideV v : Int), .int .i64 (toldV (sideV v) (hearQ (T.st (sideV v) o) (forV v) (agOf P.us P.hims (sideV v) o)).2.1 : Int), .agg #[.bool (turnedQ (hearQ (T.st (sideV v) o) (forV v) (agOf P.us P.hims (sideV v) o)).1 (T.st (sideV v) o)), .bool (hearQ (T.st (sideV v) o) (forV v) (agOf P.us P.hims (sideV v) o)).2.2], .int .i64 0]) ∧
        RfAt w' B r P (rfSet l (sideV v) o (hearQ (T.st (sideV v) o) (forV v) (agOf P.us P.hims (sideV v) o)).1) (T.hear (agOf P.us P.hims) v o).1 ∧ Only (· = r) w w' := by
  obtain ⟨a1, n1, c1, a2, n2, c2, us, hims⟩ := P
  simp only [Po.At] at hP hn1 hn2 ⊢
  unfold Tb.hear
  obtain ⟨s, hsv⟩ : ∃ s, s = sideV v := ⟨_, rfl⟩
  have hs : s < 2 := by rw [hsv]; exact sideV_lt v
  obtain ⟨fv, hfv⟩ : ∃ f, f = forV v := ⟨_, rfl⟩
  have HUs : Hid (∀ W, Only (fun _ => False) w W → Calls Tryd.prog 41 #[.slice a1 n1 c1, .int .i64 (o : Int)] W fun e w' => e = .returned (.bool (agOf us hims 0 o)) ∧ Only (fun _ => False) W w') := fun W hW => by
    have := has_any c1 (hP.1.same hW) hn1 (o : Int)
    exact this
  have HHi : Hid (∀ W, Only (fun _ => False) w W → Calls Tryd.prog 41 #[.slice a2 n2 c2, .int .i64 (o : Int)] W fun e w' => e = .returned (.bool (agOf us hims 1 o)) ∧ Only (fun _ => False) W w') := fun W hW => by
    have := has_any c2 (hP.2.same hW) hn2 (o : Int)
    exact this
  rw [← hsv, ← hfv]
  obtain ⟨ag, hag⟩ : ∃ ag, ag = agOf us hims := ⟨_, rfl⟩
  rw [← hag] at HUs HHi ⊢
  have HSt0 : ∀ W, Only (fun _ => False) w W → Calls Tryd.prog 42 #[.pointer (some ⟨r, 0, none⟩), .int .i64 (s : Int), .int .i64 (o : Int)] W fun e w' => e = .returned (.agg #[.int .i64 ((T.st s o).kind : Int), .bool (T.st s o).opp]) ∧ Only (fun _ => False) W w' := fun W hW => by
    have := rstate_any (h.same hW) (s : Int) (o : Int)
    rwa [hr.look s o hs ho] at this
  have hRa := fun W => rhear_any W (T.st s o) fv (ag s o)
  obtain ⟨a, ha⟩ : ∃ a, a = ag s o := ⟨_, rfl⟩
  obtain ⟨q, hq⟩ : ∃ q, q = T.st s o := ⟨_, rfl⟩
  rw [← hq] at HSt0 hRa ⊢
  rw [← ha] at hRa ⊢
  obtain ⟨m, hm⟩ : ∃ m, m = hearQ q fv a := ⟨_, rfl⟩
  have hk := hearQ_sends q fv a
  rw [← hm] at hk hRa ⊢
  obtain ⟨mq, mk, mw⟩ := m
  simp only [mvC] at hk hRa ⊢
  have hSet0 : ∀ W T1, RfAt W B r ⟨a1, n1, c1, a2, n2, c2, us, hims⟩ l T1 → B ≤ W.heap.size → Calls Tryd.prog 44 #[.pointer (some ⟨r, 0, none⟩), .int .i64 (s : Int), .int .i64 (o : Int), .agg #[.int .i64 (mq.kind : Int), .bool mq.opp]] W fun e w' =>
      e = .returned (.tuple #[]) ∧ RfAt w' B r ⟨a1, n1, c1, a2, n2, c2, us, hims⟩ (rfSet l s o mq) T1 ∧ Only (· = r) W w' := fun W T1 h1 h2 => rset_any h1 h2 (by omega) s o mq
  have hTold0 : ∀ W (T1 : Tb) l1, RfAt W B r ⟨a1, n1, c1, a2, n2, c2, us, hims⟩ l1 T1 → T1.sent ≤ 1000000 → Calls Tryd.prog 45 #[.pointer (some ⟨r, 0, none⟩), .int .i64 (s : Int), .int .i64 (mk : Int)] W fun e w' =>
      e = .returned (.int .i64 (toldV s mk : Int)) ∧ RfAt w' B r ⟨a1, n1, c1, a2, n2, c2, us, hims⟩ l1 { T1 with sent := T1.sent + sentN mk } ∧ Only (· = r) W w' := fun W T1 l1 h1 h2 => rtold_any h1 hs hk h2
  have htq : turnedQ mq q = (decide ((mq.kind : Int) = 1) != decide ((q.kind : Int) = 1)) := by unfold turnedQ; rw [kind_one, kind_one]
  rw [htq]
  obtain ⟨A, n, c, hvv⟩ := h
  have H := Lib.hid hvv
  have hrl := hvv.blk.lt
  obtain ⟨qk, hqk⟩ : ∃ x, x = (q.kind : Int) := ⟨_, rfl⟩
  obtain ⟨qo, hqo⟩ : ∃ x, x = q.opp := ⟨_, rfl⟩
  obtain ⟨zk, hzk⟩ : ∃ x, x = (mq.kind : Int) := ⟨_, rfl⟩
  obtain ⟨zo, hzo⟩ : ∃ x, x = mq.opp := ⟨_, rfl⟩
  obtain ⟨zm, hzm⟩ : ∃ x, x = (mk : Int) := ⟨_, rfl⟩
  obtain ⟨tv, htv⟩ : ∃ x, x = (toldV s mk : Int) := ⟨_, rfl⟩
  rw [← hqk, ← hqo] at HSt0 hRa
  rw [← hzk, ← hzo, ← hzm] at hRa
  rw [← hzk, ← hzo] at hSet0
  rw [← hzm, ← htv] at hTold0
  rw [← htv, ← hqk, ← hzk]
  obtain ⟨bq, hbq⟩ : ∃ x, decide (qk = 1) = x := ⟨_, rfl⟩
  obtain ⟨bm, hbm⟩ : ∃ x, decide (zk = 1) = x := ⟨_, rfl⟩
  have hbq2 : (qk == 1) = bq := hbq
  have hbm2 : (zk == 1) = bm := hbm
  rw [hbq, hbm]
  have HSt := Lib.hid HSt0
  have HRa := Lib.hid hRa
  have HSet := Lib.hid hSet0
  have HTold := Lib.hid hTold0
  have HHB := Lib.hid hB
  have HSn := Lib.hid hsn
  obtain ⟨th, hth⟩ : ∃ x, x = T.heard := ⟨_, rfl⟩
  rw [← hth] at hhn
  have HTh := Lib.hid hth
  have hth2 : (th : Int) ≤ 1000000 := by omega
  have HA := Lib.hid ha
  have HFv := Lib.hid hfv
  have d0 : decide ((v : Int) < 251) = false := by simp; omega
  have d1 : decide (254 < (v : Int)) = false := by simp; omega
  have d2 : decide ((o : Int) < 0) = false := by simp
  have d3 : decide (255 < (o : Int)) = false := by simp; omega
  have d4 : decide ((v : Int) < 253) = decide (s = 1) := by
    rw [hsv]; unfold sideV
    by_cases h3 : v < 253
    · rw [if_pos h3]; simp; omega
    · rw [if_neg h3]; simp; omega
  obtain ⟨p1, hp1⟩ : ∃ p1, decide ((v : Int) = 251) = p1 := ⟨_, rfl⟩
  obtain ⟨p2, hp2⟩ : ∃ p2, decide ((v : Int) = 253) = p2 := ⟨_, rfl⟩
  have hp1' : ((v : Int) == 251) = p1 := by rw [← hp1]; rfl
  have hp2' : ((v : Int) == 253) = p2 := by rw [← hp2]; rfl
  have d6 : (p1 || p2) = fv := by
    rw [hfv, ← hp1, ← hp2]
    unfold forV
    rcases (show v = 251 ∨ v = 252 ∨ v = 253 ∨ v = 254 by omega) with rfl | rfl | rfl | rfl <;> rfl
  have HN : Hid (∀ W, Only (fun _ => False) w W → W.cell? ⟨r, 0, none⟩ = some (.slice a1 n1 c1) ∧ W.cell? ⟨r, 1, none⟩ = some (.slice a2 n2 c2) ∧ W.cell? ⟨r, 3, none⟩ = some (.int .i64 (th : Int)) ∧ W.frozen? ⟨r, 3, none⟩ = false) := fun W hW => by
    have hb := H.out.blk.only hW (fun h => h)
    exact ⟨hb.cell 0, hb.cell 1, by rw [HTh.out]; exact hb.cell 3, hb.frozen 3⟩
  have HStep : Hid (∀ w2, Only (fun _ => False) w w2 → RfAt (w2.setCell ⟨r, 3, none⟩ (.int .i64 ((th : Int) + 1))) B r ⟨a1, n1, c1, a2, n2, c2, us, hims⟩ l ⟨T.st, T.heard + 1, T.asked, T.sent⟩ ∧ Only (· = r) w (w2.setCell ⟨r, 3, none⟩ (.int .i64 ((th : Int) + 1)))) := fun w2 ho => by
    have hb := H.out.blk.only ho (fun h => h)
    have hs := (Only.refl (· = r) w2).setCell (p := ⟨r, 3, none⟩) (.inl rfl) (.int .i64 ((th : Int) + 1))
    have h2 := hb.setCell 3 (.int .i64 ((th : Int) + 1))
    refine ⟨⟨A, n, c, ?_, H.out.len, own_only (own_same H.out.row ho) hs (fun k hk => own_ne (own_same H.out.row ho) hb (by decide) k hk)⟩, (ho.mono (T := (· = r)) (fun _ h => h.elim)).trans hs (fun i hi => .inl hi)⟩
    rw [← HTh.out]
    exact h2
  have hs01 : s = 0 ∨ s = 1 := by omega
  have x0 : ∀ ob, (w.alloc ob).cell? ⟨r, 0, none⟩ = some (.slice a1 n1 c1) := fun ob => (HN.out _ (alloc_only ob)).1
  clear HFv hfv
  subst d6
  have HSz : Hid (r < w.heap.size) := hrl
  clear HSt0 hRa hSet0 hTold0 hqk hqo hzk hzo hzm htv hB hsn hth hk hm hn hv ho hP hsv hag hq hr hvv htq hs hn1 hn2
  rcases hs01 with rfl | rfl
  all_goals
    simp only [Nat.zero_ne_one, decide_true, decide_false] at d4
    rcases (show p1 = true ∨ (p1 = false ∧ p2 = true) ∨ (p1 = false ∧ p2 = false) by cases p1 <;> cases p2 <;> simp) with rfl | ⟨rfl, rfl⟩ | ⟨rfl, rfl⟩
    all_goals
      simp only [Bool.true_or, Bool.or_true, Bool.or_false] at HRa
      rw [HA.out] at HRa
      go_enter Tryd.func18, Tryd.ntmps18
      go_wp2_with (first
        | ((with_reducible show Calls _ _ #[.slice a1 n1 c1, _] _ _); refine (HUs.out _ (alloc_only _)).mono ?_; rintro e w1 ⟨rfl, ho1⟩; have HO1 := Lib.hid ((alloc_only (W := w) _).trans ho1 (fun _ h => h.elim)); have HB1 := Lib.hid ((Blk.new w 59 [.bool false, .bool false]).only ho1 (fun h => h)); have x1 := (HN.out w1 HO1.out).2.1; clear ho1)
        | ((with_reducible show Calls _ _ #[.slice a2 n2 c2, _] _ _); refine (HHi.out _ HO1.out).mono ?_; rintro e w2 ⟨rfl, ho2⟩; have HO2 := Lib.hid (HO1.out.trans ho2 (fun _ h => h.elim)); have HB2 := Lib.hid (HB1.out.only ho2 (fun h => h)); clear ho2)
        | (go_at_call 42; first | (refine (HSt.out _ HO2.out).mono ?_; rintro e w3 ⟨rfl, ho3⟩; have HO3 := Lib.hid (HO2.out.trans ho3 (fun _ h => h.elim)); have HB3 := Lib.hid (HB2.out.only ho3 (fun h => h)); clear ho3) | (refine (HSt.out _ HO1.out).mono ?_; rintro e w3 ⟨rfl, ho3⟩; have HO3 := Lib.hid (HO1.out.trans ho3 (fun _ h => h.elim)); have HB3 := Lib.hid (HB1.out.only ho3 (fun h => h)); clear ho3))
        | (go_at_call 43; refine (HRa.out _).mono ?_; rintro e w4 ⟨rfl, ho4⟩; have HO4 := Lib.hid ((HO3.out.alloc (.cells #[.int .i64 qk, .bool qo] 103)).trans ho4 (fun _ h => h.elim)); have HB4 := Lib.hid ((HB3.out.alloc (.cells #[.int .i64 qk, .bool qo] 103)).only ho4 (fun h => h)); have HV4 := Lib.hid ((Blk.new w3 103 [.int .i64 qk, .bool qo]).only ho4 (fun h => h)); have x3 : ∀ ob, (w4.alloc ob).cell? ⟨r, 3, none⟩ = some (.int .i64 (th : Int)) := fun ob => (HN.out _ (HO4.out.alloc ob)).2.2.1; have f3 : ∀ ob, (w4.alloc ob).frozen? ⟨r, 3, none⟩ = false := fun ob => (HN.out _ (HO4.out.alloc ob)).2.2.2; clear ho4)
        | (go_at_call 44; refine (HSet.out _ _ (HStep.out _ (HO4.out.alloc _)).1 (Nat.le_trans HHB.out (HStep.out (w4.alloc (.cells #[.int .i64 zk, .bool zo, .int .i64 zm, .bool mw] 106)) (HO4.out.alloc _)).2.size)).mono ?_; rintro e w6 ⟨rfl, hrf, ho6⟩; have HRf6 := Lib.hid hrf; have HOs6 := Lib.hid ho6; clear hrf ho6)
        | fail)
      have hz3 := HB3.out.lt
      have hz4 := HV4.out.lt
      have hsz := HSz.out
      have HM6 := Lib.hid (((Blk.new w4 106 [.int .i64 zk, .bool zo, .int .i64 zm, .bool mw]).far (p := ⟨r, 3, none⟩) (show w4.heap.size ≠ r by omega) (.int .i64 ((th : Int) + 1))).only HOs6.out (show ¬ w4.heap.size = r by omega))
      have HV6 := Lib.hid (((HV4.out.alloc (.cells #[.int .i64 zk, .bool zo, .int .i64 zm, .bool mw] 106)).far (p := ⟨r, 3, none⟩) (show w3.heap.size ≠ r by omega) (.int .i64 ((th : Int) + 1))).only HOs6.out (show ¬ w3.heap.size = r by omega))
      have HB6 := Lib.hid (((HB4.out.alloc (.cells #[.int .i64 zk, .bool zo, .int .i64 zm, .bool mw] 106)).far (p := ⟨r, 3, none⟩) (show w.heap.size ≠ r by omega) (.int .i64 ((th : Int) + 1))).only HOs6.out (show ¬ w.heap.size = r by omega))
      have HO6 := Lib.hid ((HStep.out _ (HO4.out.alloc _)).2.trans HOs6.out (fun i hi => .inl hi))
      obtain ⟨M, hM⟩ : ∃ M, M = w4.heap.size := ⟨_, rfl⟩
      rw [← hM] at HM6 ⊢
      obtain ⟨V, hV⟩ : ∃ V, V = w3.heap.size := ⟨_, rfl⟩
      rw [← hV] at HV6 ⊢
      obtain ⟨N, hN⟩ : ∃ N, N = w.heap.size := ⟨_, rfl⟩
      rw [← hN] at HB6 ⊢
      have hMr : M ≠ r := by omega
      have hMN : M ≠ N := by omega
      have hVr : V ≠ r := by omega
      have hVN : V ≠ N := by omega
      have hNr : N ≠ r := by omega
      have HNw : Hid (w.heap.size ≤ N) := Nat.le_of_eq hN.symm
      have HS6 : Hid (∀ W, Only (fun i => i = r ∨ i = N) w6 W → ((W.cell? ⟨M, 0, none⟩ = some (.int .i64 zk) ∧ W.cell? ⟨M, 2, none⟩ = some (.int .i64 zm)) ∧ W.cell? ⟨M, 3, none⟩ = some (.bool mw)) ∧ W.cell? ⟨V, 0, none⟩ = some (.int .i64 qk)) := fun W hW =>
        ⟨⟨⟨(HM6.out.only hW (by omega : ¬ (M = r ∨ M = N))).cell 0, (HM6.out.only hW (by omega : ¬ (M = r ∨ M = N))).cell 2⟩, (HM6.out.only hW (by omega : ¬ (M = r ∨ M = N))).cell 3⟩, (HV6.out.only hW (by omega : ¬ (V = r ∨ V = N))).cell 0⟩
      clear hM hV hN hz3 hz4 hsz
      go_region_held3 (fun W => ((W.cell? ⟨M, 0, none⟩ = some (.int .i64 zk) ∧ W.cell? ⟨M, 2, none⟩ = some (.int .i64 zm)) ∧ W.cell? ⟨M, 3, none⟩ = some (.bool mw)) ∧ W.cell? ⟨V, 0, none⟩ = some (.int .i64 qk))
        (first | exact HS6.out _ (Only.refl _ _).drew | exact HS6.out _ (ho7.out.mono (fun i h => .inl (.inl h))) | exact HS6.out _ (((ho7.out.mono (T := fun i => i = r ∨ i = N) (fun i h => .inl (.inl h))).setCell (p := ⟨N, 0, none⟩) (.inl (.inr rfl)) _).setCell (p := ⟨N, 1, none⟩) (.inl (.inr rfl)) _))
        (first
          | (go_at_call 45; refine (HTold.out _ _ _ (HRf6.out.same (Only.refl _ _).drew) HSn.out).mono ?_; rintro e w7 ⟨rfl, hrf, ho⟩; have ho7 := Lib.hid (((Only.refl (· = r) w6).drew).trans ho (fun i hi => .inl hi)); have hb := HB6.out.only ho7.out hNr; have y0 : w7.cell? ⟨N, 0, none⟩ = some (.bool false) := hb.cell 0; have y1 : w7.cell? ⟨N, 1, none⟩ = some (.bool false) := hb.cell 1; have g0 := hb.frozen 0; have g1 := hb.frozen 1; have HB7 := Lib.hid hb; have HRf7 := Lib.hid hrf; clear ho hb hrf))
      clear y0 y1 g0 g1
      go_wp2
      refine ret_ttct rfl N rfl _ [.bool (!bq == bm), .bool mw] _ ((HB7.out.setCell 0 (.bool (!bq == bm))).setCell 1 (.bool mw)) Tryd.underlying59 rfl size_two rfl ?_
      have ho8 := ((Only.refl (· = N) w7).setCell (p := ⟨N, 0, none⟩) (.inl rfl) (.bool (!bq == bm))).setCell (p := ⟨N, 1, none⟩) (.inl rfl) (.bool mw)
      refine ⟨by cases bq <;> cases bm <;> rfl, (HRf7.out.turn _).beside HB7.out (by decide) hNr.symm ho8, (HO6.out.trans ho7.out (fun i hi => .inl hi)).trans ho8 (fun i hi => .inr (by have := HNw.out; omega))⟩
end Go.Proofs.YthbmhoeaimdjmaaDoor
