/- Several texts in one. -/
import Derived.Test.YtlmkpembccehkaaGreatDoorJTbSt
import Derived.Deep.RegionHeld3
import Derived.Test.YtlmkpembccehkaaGreatDoorJTbSay
/- Package table: Hear. -/
namespace Go.Proofs.YtlmkpembccehkaaGreatDoor
open Go Go.RowKit
set_option maxRecDepth 100000
set_option maxHeartbeats 4000000

/-- What the calls read at package level. -/
structure TbW (W : World) : Prop where
  qs : QsW W
  verbs : VerbsAt W
  kind : ErrAt Tryz.prog W "truchman/api.ErrKind"
  range : ErrAt Tryz.prog W "truchman/api.ErrRange"
theorem TbW.only {W W' : World} (h : TbW W) (ho : Only (fun _ => False) W W') : TbW W' := ⟨h.qs.only ho, h.verbs.only ho, h.kind.only ho, h.range.only ho⟩
theorem heard_zero : (Tryz.prog.info? 42).map (fun i => (i.zero, i.size)) = some (some (.agg (#[.int .i64 0, .int .i64 0, .bool false, .bool false] : Array Value)), 4) := by kernel_rfl
theorem size_heard : (Tryz.prog.info? 42).map (·.size) = some 4 := by kernel_rfl

/-- What is told of a verb that is heard. -/
def turnedQ (a b : Qs) : Bool := decide (a = .yes) != decide (b = .yes)
@[reducible] def heardV (t : Tb) (ag : Nat → Nat → Bool) (v o : Nat) : Value :=
  let m := hearQ (t.st (sideV v) o) (forV v) (ag (sideV v) o)
  .agg #[.int .i64 (sideV v : Int), .int .i64 (toldV (sideV v) m.2.1 : Int), .bool (turnedQ m.1 (t.st (sideV v) o)), .bool m.2.2]

/-- A move's variable, laid behind a call or ahead of it. -/
structure MvAt (w w' : World) (M : Nat) (cs : List Value) : Prop where
  mv : Blk w' M 101 cs
  new : w.heap.size ≤ M
  only : Only (fun _ => False) w w'
theorem MvAt.first {w w5 : World} (ho : Only (fun _ => False) w.drew w5) : ∀ a b c d, MvAt w (w5.alloc (.cells #[a, b, c, d] 101)) w5.heap.size [a, b, c, d] := fun a b c d =>
  ⟨Blk.new w5 _ [a, b, c, d], ho.size, (((Only.refl (fun _ => False) w).drew).trans ho (fun _ h => h.elim)).alloc _⟩
theorem MvAt.second {w w5 : World} (ho : Only (fun _ => False) (w.alloc (.cells mv0.toArray 101)).drew w5) (hz : Blk w5 w.heap.size 101 mv0) : ∀ a b c d, MvAt w ((((w5.setCell ⟨w.heap.size, 0, none⟩ a).setCell ⟨w.heap.size, 1, none⟩ b).setCell ⟨w.heap.size, 2, none⟩ c).setCell ⟨w.heap.size, 3, none⟩ d) w.heap.size [a, b, c, d] := fun a b c d => by
  have h := ((((Only.refl (· = w.heap.size) w5).setCell (p := ⟨w.heap.size, 0, none⟩) (.inl rfl) a).setCell (p := ⟨w.heap.size, 1, none⟩) (.inl rfl) b).setCell (p := ⟨w.heap.size, 2, none⟩) (.inl rfl) c).setCell (p := ⟨w.heap.size, 3, none⟩) (.inl rfl) d
  exact ⟨(((hz.setCell 0 _).setCell 1 _).setCell 2 _).setCell 3 _, Nat.le_refl _, (((Only.refl (fun _ => False) w).alloc _).drew.trans ho (fun _ h => h.elim)).trans h (fun i hi => .inr (by omega))⟩

theorem VerbsAt.drew {W : World} (h : VerbsAt W) : VerbsAt W.drew := h
theorem TbAt.drew {W : World} {p : Nat} {ag : Nat → Nat → Bool} {t : Tb} (h : TbAt W p ag t) : TbAt W.drew p ag t := h
/-- Two ways that come to the same: what follows is walked once. -/
theorem twice1 {P : Prop} {C G : Nat → World → Prop} (k : (∀ p W, C p W → G p W) → P) (h : ∀ p W, C p W → G p W) : P := k h
theorem thear_some {W : World} (hT : TbW W) {p : Nat} {ag : Nat → Nat → Bool} {t : Tb} (h : TbAt W p ag t) {v o : Nat} (hv : 251 ≤ v ∧ v ≤ 254) (ho : o < 256) (hn : t.sent ≤ 1000000) (hh : t.heard ≤ 1000000) :
    Calls Tryz.prog 9 #[.pointer (some ⟨p, 0, none⟩), .int .i64 (v : Int), .int .i64 (o : Int)] W fun e w' =>
      e = .returned (.tuple #[heardV t ag v o, .nilIface]) ∧ TbAt w' p ag (t.hear ag v o).1 ∧ Only (· = p) W w' := by
  obtain ⟨cs, hB, hC⟩ := h
  have hs := sideV_lt v
  have H1 : Hid (∀ W, Calls Tryz.prog 25 #[.int .i64 (v : Int)] W fun e w' => e = .returned (.bool true) ∧ w' = W) := fun W => by
    have := verb_any W (v : Int)
    rwa [decide_eq_true (by omega)] at this
  have H2 : Hid (∀ W, Calls Tryz.prog 24 #[.int .i64 (o : Int)] W fun e w' => e = .returned (.bool true) ∧ w' = W) := fun W => by
    have := isOption_any W (o : Int)
    rwa [decide_eq_true (by omega)] at this
  have H3 : Hid (∀ W, Calls Tryz.prog 26 #[.int .i64 (v : Int)] W fun e w' => e = .returned (.int .i64 (sideV v : Int)) ∧ w' = W) := fun W => sideOf_any W v hv
  have H4 : Hid (∀ W, Calls Tryz.prog 28 #[.int .i64 (v : Int)] W fun e w' => e = .returned (.bool (forV v)) ∧ w' = W) := fun W => by
    have := for_any W (v : Int)
    rwa [show decide ((v : Int) = 251 ∨ (v : Int) = 253) = forV v from by unfold forV; exact decide_eq_decide.2 (by omega)] at this
  unfold heardV Tb.hear
  obtain ⟨s, hsv⟩ : ∃ s, s = sideV v := ⟨_, rfl⟩
  rw [← hsv] at hs H3 ⊢
  obtain ⟨fv, hfv⟩ : ∃ f, f = forV v := ⟨_, rfl⟩
  rw [← hfv] at H4 ⊢
  obtain ⟨a, ha⟩ : ∃ a, a = ag s o := ⟨_, rfl⟩
  obtain ⟨q, hq⟩ : ∃ q, q = t.st s o := ⟨_, rfl⟩
  rw [← hq, ← ha]
  obtain ⟨m, hm⟩ : ∃ m, m = hearQ q fv a := ⟨_, rfl⟩
  have hk := hearQ_sends q fv a
  rw [← hm] at hk ⊢
  obtain ⟨mq, mk, mw⟩ := m
  simp only at hk ⊢
  have HH : ∀ w, Only (fun _ => False) W w → Calls Tryz.prog 27 #[.agg #[.int .i64 (q.kind : Int), .bool q.opp], .bool fv, .bool a] w fun e w' => e = .returned (.tuple #[.agg #[.int .i64 (mq.kind : Int), .bool mq.opp, .int .i64 (mk : Int), .bool mw], .nilIface]) ∧ Only (fun _ => False) w w' := fun w ho =>
    (hear_some (hT.qs.only ho) (q.kind : Int) q.opp fv a (qsOf_kind q)).mono (fun e w' h => by unfold Moved hearC at h; rw [← hm] at h; exact h)
  have HMv : ∀ w, VerbsAt w → ∀ t' : Tb, TbAt w p ag t' → t'.sent ≤ 1000000 → Calls Tryz.prog 29 #[.pointer (some ⟨p, 0, none⟩), .int .i64 (s : Int), .int .i64 (o : Int), .agg #[.int .i64 (mq.kind : Int), .bool mq.opp, .int .i64 (mk : Int), .bool mw]] w fun e w' =>
      e = .returned (.int .i64 (toldV s mk : Int)) ∧ TbAt w' p ag { t' with st := setQ t'.st s o mq, sent := t'.sent + sentN mk } ∧ Only (· = p) w w' := fun w hv t' ht hn => move_any hv ht hs ho mq mk hk mw hn
  have HOq : ∀ w, Calls Tryz.prog 30 #[.agg #[.int .i64 (q.kind : Int), .bool q.opp]] w fun e w' => e = .returned (.bool (decide (q = .yes))) ∧ Only (fun _ => False) w w' := fun w => by
    have := on_any w (q.kind : Int) q.opp
    rwa [kind_one] at this
  have HOm : ∀ w, Calls Tryz.prog 30 #[.agg #[.int .i64 (mq.kind : Int), .bool mq.opp]] w fun e w' => e = .returned (.bool (decide (mq = .yes))) ∧ Only (fun _ => False) w w' := fun w => by
    have := on_any w (mq.kind : Int) mq.opp
    rwa [kind_one] at this
  unfold turnedQ
  have HSt : Hid (∀ w, Blk w p 96 cs → w.rangeAt p (s * 512 + o * 2) [.int .i64 (q.kind : Int), .bool q.opp]) := fun w hb => by rw [hq]; exact st_range hb hC hs ho rfl
  have hag : cs[1024 + s * 256 + o]? = some (.bool a) := by rw [ha]; exact hC.agr _ s o hs ho (by omega)
  obtain ⟨qk, hqk⟩ : ∃ x, x = (q.kind : Int) := ⟨_, rfl⟩
  obtain ⟨qo, hqo⟩ : ∃ x, x = q.opp := ⟨_, rfl⟩
  obtain ⟨zk, hzk⟩ : ∃ x, x = (mq.kind : Int) := ⟨_, rfl⟩
  obtain ⟨zo, hzo⟩ : ∃ x, x = mq.opp := ⟨_, rfl⟩
  obtain ⟨zm, hzm⟩ : ∃ x, x = (mk : Int) := ⟨_, rfl⟩
  obtain ⟨bq, hbq⟩ : ∃ x, x = decide (q = .yes) := ⟨_, rfl⟩
  obtain ⟨bm, hbm⟩ : ∃ x, x = decide (mq = .yes) := ⟨_, rfl⟩
  rw [← hbq] at HOq ⊢
  rw [← hbm] at HOm ⊢
  obtain ⟨tv, htv⟩ : ∃ x, x = (toldV s mk : Int) := ⟨_, rfl⟩
  rw [← htv] at HMv ⊢
  rw [← hqk, ← hqo] at HH HOq HSt
  rw [← hzk, ← hzo] at HOm
  rw [← hzk, ← hzo, ← hzm] at HH HMv
  have HHr := Lib.hid HH
  have HMv := Lib.hid HMv
  have HOq := Lib.hid HOq
  have HOm := Lib.hid HOm
  have HB := Lib.hid hB
  have HC := Lib.hid hC
  have HT := Lib.hid hT
  have hp := hB.lt
  have hs2 : (s : Int) < 2 := by omega
  have ho2 : (o : Int) < 256 := by omega
  have HAg := Lib.hid hag
  have HN := Lib.hid hn
  clear hB hC hT HH hsv hfv ha hq hm hqk hqo hzk hzo hzm hbq hbm htv hag hv hk hn
  go_enter Tryz.func9, Tryz.ntmps9
  go_wp2_with (first
    | (go_at_call 25; refine (H1.out _).mono ?_; rintro e w' ⟨rfl, rfl⟩)
    | (go_at_call 24; refine (H2.out _).mono ?_; rintro e w' ⟨rfl, rfl⟩)
    | (go_at_call 26; refine (H3.out _).mono ?_; rintro e w' ⟨rfl, rfl⟩)
    | ((with_reducible show wpList _ _ _ (⟨some 33, _, _, _, _, _⟩ :: _) _ _); refine wpList_load_mid rfl 90 _ rfl p (s * 512 + o * 2) rfl [.int .i64 qk, .bool qo] _ (HSt.out _ (HB.out.alloc _)) Tryz.underlying90 rfl size_state ?_)
    | fail)
  obtain ⟨N6, hN6⟩ : ∃ N, N = W.heap.size := ⟨_, rfl⟩
  obtain ⟨W6, hW6⟩ : ∃ W6, W6 = (W.alloc (.cells #[.int .i64 0, .int .i64 0, .bool false, .bool false] 42)).alloc (.cells #[.int .i64 qk, .bool qo] 90) := ⟨_, rfl⟩
  have hBh : Blk W6 N6 42 [.int .i64 0, .int .i64 0, .bool false, .bool false] := by rw [hW6, hN6]; exact (Blk.new W _ [.int .i64 0, .int .i64 0, .bool false, .bool false]).alloc _
  have hBs : Blk W6 (N6 + 1) 90 [.int .i64 qk, .bool qo] := by rw [hW6, hN6]; exact Blk.new' _ _ _ (by simp)
  have hB6 : Blk W6 p 96 cs := by rw [hW6]; exact (HB.out.alloc _).alloc _
  have hO6 : Only (fun _ => False) W W6 := by rw [hW6]; exact ((Only.refl _ _).alloc _).alloc _
  rw [← hN6] at hp ⊢
  rw [← hW6]
  have HNW : Hid (W.heap.size = N6) := hN6.symm
  have HBh := Lib.hid hBh
  have HBs := Lib.hid hBs
  have HB6 := Lib.hid hB6
  have HO6 := Lib.hid hO6
  have HS : Hid (∀ w, Only (fun _ => False) W6 w → (w.cell? ⟨N6 + 1, 0, none⟩ = some (.int .i64 qk) ∧ w.cell? ⟨N6 + 1, 1, none⟩ = some (.bool qo)) ∧ w.cell? ⟨p, 1024 + s * 256 + o, none⟩ = some (.bool a)) := fun w ho =>
    ⟨⟨(HBs.out.only ho (fun h => h)).cell 0, (HBs.out.only ho (fun h => h)).cell 1⟩, by rw [(HB6.out.only ho (fun h => h)).cell]; exact HAg.out⟩
  have HZ6 : Hid (W6.heap.size = N6 + 2) := by rw [hW6, hN6]; simp [Hid]
  clear hW6 hN6 hBh hBs hB6 hO6
  apply twice1 (C := fun M W7 => Hid (MvAt W6 W7 M [.int .i64 zk, .bool zo, .int .i64 zm, .bool mw]))
  case k =>
    intro key
    go_region_held3 (fun w => (w.cell? ⟨N6 + 1, 0, none⟩ = some (.int .i64 qk) ∧ w.cell? ⟨N6 + 1, 1, none⟩ = some (.bool qo)) ∧ w.cell? ⟨p, 1024 + s * 256 + o, none⟩ = some (.bool a))
      (first | exact HS.out _ (Only.refl _ _).drew | exact HS.out _ ((Only.refl _ _).alloc _).drew | exact HS.out _ ho5.out | exact HS.out _ (ho5.out.alloc _) | exact HS.out _ (MvAt.only (HE.out _ _ _ _)))
      (first
        | (with_reducible refine (H4.out _).mono ?_; rintro e w' ⟨rfl, rfl⟩)
        | ((with_reducible show Calls _ _ _ (World.drew W6) _); refine (HHr.out _ HO6.out.drew).mono ?_; rintro e w5 ⟨rfl, ho⟩; have ho5 := Lib.hid (((Only.refl (fun _ => False) W6).drew).trans ho (fun _ h => h.elim)); have HE := Lib.hid (MvAt.first ho); clear ho)
        | ((with_reducible show Calls _ _ _ (World.drew (World.alloc _ _)) _); refine (HHr.out _ (HO6.out.alloc _).drew).mono ?_; rintro e w5 ⟨rfl, ho⟩; have ho5 := Lib.hid ((((Only.refl (fun _ => False) W6).alloc _).drew).trans ho (fun _ h => h.elim)); have hz := (Blk.new W6 101 mv0).drew.only ho (fun h => h); have z0 : w5.cell? ⟨W6.heap.size, 0, none⟩ = some (.int .i64 0) := hz.cell 0; have z1 : w5.cell? ⟨W6.heap.size, 1, none⟩ = some (.bool false) := hz.cell 1; have z2 : w5.cell? ⟨W6.heap.size, 2, none⟩ = some (.int .i64 0) := hz.cell 2; have z3 : w5.cell? ⟨W6.heap.size, 3, none⟩ = some (.bool false) := hz.cell 3; have f0 := hz.frozen 0; have f1 := hz.frozen 1; have f2 := hz.frozen 2; have f3 := hz.frozen 3; have HE := Lib.hid (MvAt.second ho hz); clear ho hz))
    all_goals (first
      | (obtain ⟨W7, hW7⟩ : ∃ W7, W7 = w5.alloc (.cells #[.int .i64 zk, .bool zo, .int .i64 zm, .bool mw] 101) := ⟨_, rfl⟩
         rw [← hW7]
         have H0 : Hid (MvAt W6 W7 w5.heap.size [.int .i64 zk, .bool zo, .int .i64 zm, .bool mw]) := hW7 ▸ HE.out _ _ _ _
         obtain ⟨M, hM⟩ : ∃ M, M = w5.heap.size := ⟨_, rfl⟩
         rw [← hM] at H0 ⊢
         exact key M W7 H0)
      | (obtain ⟨W7, hW7⟩ : ∃ W7, W7 = ((((w5.setCell ⟨W6.heap.size, 0, none⟩ (.int .i64 zk)).setCell ⟨W6.heap.size, 1, none⟩ (.bool zo)).setCell ⟨W6.heap.size, 2, none⟩ (.int .i64 zm)).setCell ⟨W6.heap.size, 3, none⟩ (.bool mw)) := ⟨_, rfl⟩
         rw [← hW7]
         have H0 : Hid (MvAt W6 W7 W6.heap.size [.int .i64 zk, .bool zo, .int .i64 zm, .bool mw]) := hW7 ▸ HE.out _ _ _ _
         obtain ⟨M, hM⟩ : ∃ M, M = W6.heap.size := ⟨_, rfl⟩
         rw [← hM] at H0 ⊢
         exact key M W7 H0))
  case h =>
    intro M W7 H0
    have hMl := H0.out.new
    have hB7 := HB6.out.only H0.out.only (fun h => h)
    have c36 : W7.cell? ⟨p, 1536, none⟩ = some (.int .i64 (t.heard : Int)) := by rw [hB7.cell]; exact HC.out.heard
    have f36 := hB7.frozen 1536
    obtain ⟨n, hnn⟩ : ∃ n, n = t.heard := ⟨_, rfl⟩
    rw [← hnn] at c36 hh
    have HNn := Lib.hid hnn
    have HB7 := Lib.hid hB7
    clear hnn hB7
    go_wp2
    obtain ⟨W8, hW8⟩ : ∃ W8, W8 = W7.setCell ⟨p, 1536, none⟩ (.int .i64 ((n : Int) + 1)) := ⟨_, rfl⟩
    rw [← hW8]
    have ho8 : Only (· = p) W7 W8 := by rw [hW8]; exact (Only.refl (· = p) W7).setCell (p := ⟨p, 1536, none⟩) (.inl rfl) _
    have hB8 : Blk W8 p 96 (cs.set 1536 (.int .i64 ((n : Int) + 1))) := by rw [hW8]; exact HB7.out.setCell 1536 _
    have HTb : Hid (TbAt W8 p ag { t with heard := t.heard + 1 }) := ⟨_, hB8, by have := HC.out.setHeard (t.heard + 1); rw [← HNn.out] at this ⊢; exact this⟩
    have hNp : N6 + 1 ≠ p := by omega
    have hMp : M ≠ p := by have := HZ6.out; omega
    have HM8 := Lib.hid (H0.out.mv.only ho8 hMp)
    have HBs8 := Lib.hid ((HBs.out.only H0.out.only (fun h => h)).only ho8 hNp)
    have HBh8 := Lib.hid ((HBh.out.only H0.out.only (fun h => h)).only ho8 (by omega : ¬ N6 = p))
    have HO8 : Hid (Only (· = p) W W8) := (((HO6.out.trans H0.out.only (fun _ h => h.elim)).mono (T := (· = p)) (fun _ h => h.elim))).trans ho8 (fun i hi => .inl hi)
    have HVb : Hid (VerbsAt W8) := by
      have h6 := HT.out.verbs.only (HO6.out.trans H0.out.only (fun _ h => h.elim))
      intro j v hj
      refine ho8.cellv (h6 j v hj) ?_
      intro e
      have e' : 6 = p := e
      have h1 : W7.cell? ⟨6, 1, none⟩ = some (.int .i64 (251 : Int)) := h6 1 _ rfl
      rw [e', HB7.out.cell, HC.out.opp 1 0 0 (by omega) (by omega) rfl] at h1
      cases h1
    have hNM : M ≠ N6 := by have := HZ6.out; omega
    have HS8 : Hid (∀ w, Only (fun i => i = p ∨ i = N6) W8 w → ((w.cell? ⟨M, 0, none⟩ = some (.int .i64 zk) ∧ w.cell? ⟨M, 1, none⟩ = some (.bool zo)) ∧ w.cell? ⟨M, 2, none⟩ = some (.int .i64 zm) ∧ w.cell? ⟨M, 3, none⟩ = some (.bool mw)) ∧ w.cell? ⟨N6 + 1, 0, none⟩ = some (.int .i64 qk) ∧ w.cell? ⟨N6 + 1, 1, none⟩ = some (.bool qo)) := fun w ho =>
      ⟨⟨⟨(HM8.out.only ho (by omega : ¬ (M = p ∨ M = N6))).cell 0, (HM8.out.only ho (by omega : ¬ (M = p ∨ M = N6))).cell 1⟩, (HM8.out.only ho (by omega : ¬ (M = p ∨ M = N6))).cell 2, (HM8.out.only ho (by omega : ¬ (M = p ∨ M = N6))).cell 3⟩, (HBs8.out.only ho (by omega : ¬ (N6 + 1 = p ∨ N6 + 1 = N6))).cell 0, (HBs8.out.only ho (by omega : ¬ (N6 + 1 = p ∨ N6 + 1 = N6))).cell 1⟩
    clear hW8 hB8 ho8 c36 f36
    go_region_held3 (fun w => ((w.cell? ⟨M, 0, none⟩ = some (.int .i64 zk) ∧ w.cell? ⟨M, 1, none⟩ = some (.bool zo)) ∧ w.cell? ⟨M, 2, none⟩ = some (.int .i64 zm) ∧ w.cell? ⟨M, 3, none⟩ = some (.bool mw)) ∧ w.cell? ⟨N6 + 1, 0, none⟩ = some (.int .i64 qk) ∧ w.cell? ⟨N6 + 1, 1, none⟩ = some (.bool qo))
      (first | exact HS8.out _ (Only.refl _ _).drew | exact HS8.out _ (ho9.out.mono (fun i h => .inl (.inl h))) | exact HS8.out _ (ho10.out.mono (fun i h => .inl (.inl h))) | exact HS8.out _ (ho11.out.mono (fun i h => .inl (.inl h))) | exact HS8.out _ (((((ho11.out.mono (T := fun i => i = p ∨ i = N6) (fun i h => .inl (.inl h))).setCell (p := ⟨N6, 0, none⟩) (.inl (.inr rfl)) _).setCell (p := ⟨N6, 1, none⟩) (.inl (.inr rfl)) _).setCell (p := ⟨N6, 2, none⟩) (.inl (.inr rfl)) _).setCell (p := ⟨N6, 3, none⟩) (.inl (.inr rfl)) _))
      (first
        | ((with_reducible refine (HMv.out _ HVb.out.drew _ HTb.out.drew HN.out).mono ?_); rintro e w9 ⟨rfl, ht, ho⟩; have ho9 := Lib.hid (((Only.refl (· = p) W8).drew).trans ho (fun i hi => .inl hi)); have HT9 := Lib.hid ht; clear ht ho)
        | ((with_reducible refine (HOm.out _).mono ?_); rintro e w10 ⟨rfl, ho⟩; have ho10 := Lib.hid (ho9.out.trans ho (fun _ h => h.elim)); have HT10 := Lib.hid (HT9.out.same ho); clear ho)
        | ((with_reducible refine (HOq.out _).mono ?_); rintro e w11 ⟨rfl, ho⟩; have ho11 := Lib.hid (ho10.out.trans ho (fun _ h => h.elim)); have HT11 := Lib.hid (HT10.out.same ho); have hb := HBh8.out.only ho11.out (by omega : ¬ N6 = p); have y0 : w11.cell? ⟨N6, 0, none⟩ = some (.int .i64 0) := hb.cell 0; have y1 : w11.cell? ⟨N6, 1, none⟩ = some (.int .i64 0) := hb.cell 1; have y2 : w11.cell? ⟨N6, 2, none⟩ = some (.bool false) := hb.cell 2; have y3 : w11.cell? ⟨N6, 3, none⟩ = some (.bool false) := hb.cell 3; have g0 := hb.frozen 0; have g1 := hb.frozen 1; have g2 := hb.frozen 2; have g3 := hb.frozen 3; have HBh11 := Lib.hid hb; clear ho hb))
    have hB12 := (((HBh11.out.setCell 0 (.int .i64 (s : Int))).setCell 1 (.int .i64 tv)).setCell 2 (.bool (!bm == bq))).setCell 3 (.bool mw)
    have hT12 := HT11.out.only (((((Only.refl (· = N6) w11).setCell (p := ⟨N6, 0, none⟩) (.inl rfl) (.int .i64 (s : Int))).setCell (p := ⟨N6, 1, none⟩) (.inl rfl) (.int .i64 tv)).setCell (p := ⟨N6, 2, none⟩) (.inl rfl) (.bool (!bm == bq))).setCell (p := ⟨N6, 3, none⟩) (.inl rfl) (.bool mw)) (by omega : ¬ p = N6)
    have hO12 := (HO8.out.trans ho11.out (fun i hi => .inl hi)).trans (((((Only.refl (· = N6) w11).setCell (p := ⟨N6, 0, none⟩) (.inl rfl) (.int .i64 (s : Int))).setCell (p := ⟨N6, 1, none⟩) (.inl rfl) (.int .i64 tv)).setCell (p := ⟨N6, 2, none⟩) (.inl rfl) (.bool (!bm == bq))).setCell (p := ⟨N6, 3, none⟩) (.inl rfl) (.bool mw)) (fun i hi => .inr (by have := HNW.out; omega))
    clear y0 y1 y2 y3 g0 g1 g2 g3
    go_wp2
    refine ret_cell2 rfl N6 rfl _ [.int .i64 (s : Int), .int .i64 tv, .bool (!bm == bq), .bool mw] _ hB12 Tryz.underlying42 rfl size_heard rfl ?_
    refine ⟨?_, ?_, hO12⟩
    · cases bm <;> cases bq <;> rfl
    · exact hT12
end Go.Proofs.YtlmkpembccehkaaGreatDoor
/- Package table: what Hear refuses; Ask. -/
namespace Go.Proofs.YtlmkpembccehkaaGreatDoor
open Go Go.RowKit
set_option maxRecDepth 100000
set_option maxHeartbeats 4000000

theorem heard0_one : ∀ v ∈ ([.int .i64 0, .int .i64 0, .bool false, .bool false] : List Value), v.oneCell' = true := fun v hv => by
  simp only [List.mem_cons, List.not_mem_nil, or_false] at hv
  rcases hv with rfl | rfl | rfl | rfl <;> rfl
@[reducible] def heard0V : Value := .agg #[.int .i64 0, .int .i64 0, .bool false, .bool false]
theorem thear_kind {W : World} (hT : TbW W) (p : Nat) {v : Int} (o : Int) (hv : ¬ (251 ≤ v ∧ v ≤ 254)) :
    Calls Tryz.prog 9 #[.pointer (some ⟨p, 0, none⟩), .int .i64 v, .int .i64 o] W fun e w' =>
      (∃ u x, W.var? Tryz.prog "truchman/api.ErrKind" = some #[.iface u x] ∧ e = .returned (.tuple #[heard0V, .iface u x])) ∧ Only (fun _ => False) W w' := by
  have H1 : Hid (∀ W, Calls Tryz.prog 25 #[.int .i64 v] W fun e w' => e = .returned (.bool false) ∧ w' = W) := fun W => by
    have := verb_any W v
    rwa [decide_eq_false hv] at this
  have HT := Lib.hid hT
  clear hT hv
  go_enter Tryz.func9, Tryz.ntmps9
  go_wp2_with (first
    | (go_at_call 25; refine (H1.out _).mono ?_; rintro e w' ⟨rfl, rfl⟩)
    | fail)
  obtain ⟨u, x, hv⟩ := HT.out.kind
  obtain ⟨N, hN⟩ : ∃ N, N = W.heap.size := ⟨_, rfl⟩
  have hB : Blk (W.alloc (.cells #[.int .i64 0, .int .i64 0, .bool false, .bool false] 42)) N 42 [.int .i64 0, .int .i64 0, .bool false, .bool false] := by rw [hN]; exact Blk.new W _ [.int .i64 0, .int .i64 0, .bool false, .bool false]
  have hO : Only (fun _ => False) W (W.alloc (.cells #[.int .i64 0, .int .i64 0, .bool false, .bool false] 42)) := (Only.refl _ _).alloc _
  have hc := hO.cellv (World.var?_cell rfl hv 0) (fun h => h)
  have hne : 0 ≠ N := by have := World.block_lt_of_cell? _ _ (World.var?_cell rfl hv 0 : W.cell? ⟨0, 0, none⟩ = _); simp only at this; omega
  have HV := Lib.hid hv
  have HNW : Hid (W.heap.size = N) := hN.symm
  rw [← hN]
  clear hv hN
  refine wp_refuse 42 34 _ 0 6 16 17 N (.iface u x) [.int .i64 0, .int .i64 0, .bool false, .bool false] (by kernel_rfl) rfl rfl rfl rfl rfl rfl rfl rfl rfl rfl (by kernel_rfl) (by kernel_rfl) (by kernel_rfl) (by kernel_rfl) (by kernel_rfl) (by kernel_rfl) (by kernel_rfl) (by kernel_rfl) (by kernel_rfl) size_heard heard0_one load_err rfl hc rfl rfl rfl hB rfl hne ?_
  intro W8 hB8 ho8
  go_wp2
  refine ret_cell2 rfl N rfl _ [.int .i64 0, .int .i64 0, .bool false, .bool false] _ hB8.out Tryz.underlying42 rfl size_heard rfl ?_
  exact ⟨⟨u, x, HV.out, rfl⟩, hO.trans ho8.out (fun i hi => .inr (by have := HNW.out; omega))⟩
theorem thear_range {W : World} (hT : TbW W) (p : Nat) {v o : Int} (hv : 251 ≤ v ∧ v ≤ 254) (ho : ¬ (0 ≤ o ∧ o ≤ 255)) :
    Calls Tryz.prog 9 #[.pointer (some ⟨p, 0, none⟩), .int .i64 v, .int .i64 o] W fun e w' =>
      (∃ u x, W.var? Tryz.prog "truchman/api.ErrRange" = some #[.iface u x] ∧ e = .returned (.tuple #[heard0V, .iface u x])) ∧ Only (fun _ => False) W w' := by
  have H1 : Hid (∀ W, Calls Tryz.prog 25 #[.int .i64 v] W fun e w' => e = .returned (.bool true) ∧ w' = W) := fun W => by
    have := verb_any W v
    rwa [decide_eq_true hv] at this
  have H2 : Hid (∀ W, Calls Tryz.prog 24 #[.int .i64 o] W fun e w' => e = .returned (.bool false) ∧ w' = W) := fun W => by
    have := isOption_any W o
    rwa [decide_eq_false ho] at this
  have HT := Lib.hid hT
  clear hT hv ho
  go_enter Tryz.func9, Tryz.ntmps9
  go_wp2_with (first
    | (go_at_call 25; refine (H1.out _).mono ?_; rintro e w' ⟨rfl, rfl⟩)
    | (go_at_call 24; refine (H2.out _).mono ?_; rintro e w' ⟨rfl, rfl⟩)
    | fail)
  obtain ⟨u, x, hv⟩ := HT.out.range
  obtain ⟨N, hN⟩ : ∃ N, N = W.heap.size := ⟨_, rfl⟩
  have hB : Blk (W.alloc (.cells #[.int .i64 0, .int .i64 0, .bool false, .bool false] 42)) N 42 [.int .i64 0, .int .i64 0, .bool false, .bool false] := by rw [hN]; exact Blk.new W _ [.int .i64 0, .int .i64 0, .bool false, .bool false]
  have hO : Only (fun _ => False) W (W.alloc (.cells #[.int .i64 0, .int .i64 0, .bool false, .bool false] 42)) := (Only.refl _ _).alloc _
  have hc := hO.cellv (World.var?_cell rfl hv 0) (fun h => h)
  have hne : 1 ≠ N := by have := World.block_lt_of_cell? _ _ (World.var?_cell rfl hv 0 : W.cell? ⟨1, 0, none⟩ = _); simp only at this; omega
  have HV := Lib.hid hv
  have HNW : Hid (W.heap.size = N) := hN.symm
  rw [← hN]
  clear hv hN
  refine wp_refuse 42 34 _ 1 6 22 23 N (.iface u x) [.int .i64 0, .int .i64 0, .bool false, .bool false] (by kernel_rfl) rfl rfl rfl rfl rfl rfl rfl rfl rfl rfl (by kernel_rfl) (by kernel_rfl) (by kernel_rfl) (by kernel_rfl) (by kernel_rfl) (by kernel_rfl) (by kernel_rfl) (by kernel_rfl) (by kernel_rfl) size_heard heard0_one load_err rfl hc rfl rfl rfl hB rfl hne ?_
  intro W8 hB8 ho8
  go_wp2
  refine ret_cell2 rfl N rfl _ [.int .i64 0, .int .i64 0, .bool false, .bool false] _ hB8.out Tryz.underlying42 rfl size_heard rfl ?_
  exact ⟨⟨u, x, HV.out, rfl⟩, hO.trans ho8.out (fun i hi => .inr (by have := HNW.out; omega))⟩

end Go.Proofs.YtlmkpembccehkaaGreatDoor
/- Package codes: is a number a plain command's? -/
namespace Go.Proofs.YtlmkpembccehkaaGreatDoor
open Go Go.RowKit

end Go.Proofs.YtlmkpembccehkaaGreatDoor
