/- Several texts in one. -/
import Derived.Test.YtbnfhklpobephaaGreatDoorJTb
import Derived.Deep.RegionHeld3
import Derived.Test.YtbnfhklpobephaaGreatDoorJBase
/- Package table: Hear. -/
namespace Go.Proofs.YtbnfhklpobephaaGreatDoor
open Go Go.RowKit
set_option maxRecDepth 100000
set_option maxHeartbeats 4000000

/-- What the calls read at package level. -/
structure TbW (W : World) : Prop where
  qs : QsW W
  verbs : VerbsAt W
  kind : ErrAt Tryz.prog W "truchman/api.ErrKind"
  range : ErrAt Tryz.prog W "truchman/api.ErrRange"
theorem TbW.only {W W' : World} (h : TbW W) (ho : Only (fun _ => False) W W') : TbW W' := ⟨h.qs.only ho, h.verbs.only ho, h.kind.only ho, h.range.only ho⟩
theorem heard_zero : (Tryz.prog.info? 309).map (fun i => (i.zero, i.size)) = some (some (.agg (#[.int .i64 0, .int .i64 0, .bool false, .bool false] : Array Value)), 4) := by kernel_rfl
theorem size_heard : (Tryz.prog.info? 309).map (·.size) = some 4 := by kernel_rfl

/-- What is told of a verb that is heard. -/
def turnedQ (a b : Qs) : Bool := decide (a = .yes) != decide (b = .yes)
@[reducible] def heardV (t : Tb) (ag : Nat → Nat → Bool) (v o : Nat) : Value :=
  let m := hearQ (t.st (sideV v) o) (forV v) (ag (sideV v) o)
  .agg #[.int .i64 (sideV v : Int), .int .i64 (toldV (sideV v) m.2.1 : Int), .bool (turnedQ m.1 (t.st (sideV v) o)), .bool m.2.2]

/-- A move's variable, laid behind a call or ahead of it. -/
structure MvAt (w w' : World) (M : Nat) (cs : List Value) : Prop where
  mv : Blk w' M 245 cs
  new : w.heap.size ≤ M
  only : Only (fun _ => False) w w'
theorem MvAt.first {w w5 : World} (ho : Only (fun _ => False) w.drew w5) : ∀ a b c d, MvAt w (w5.alloc (.cells #[a, b, c, d] 245)) w5.heap.size [a, b, c, d] := fun a b c d =>
  ⟨Blk.new w5 _ [a, b, c, d], ho.size, (((Only.refl (fun _ => False) w).drew).trans ho (fun _ h => h.elim)).alloc _⟩
theorem MvAt.second {w w5 : World} (ho : Only (fun _ => False) (w.alloc (.cells mv0.toArray 245)).drew w5) (hz : Blk w5 w.heap.size 245 mv0) : ∀ a b c d, MvAt w ((((w5.setCell ⟨w.heap.size, 0, none⟩ a).setCell ⟨w.heap.size, 1, none⟩ b).setCell ⟨w.heap.size, 2, none⟩ c).setCell ⟨w.heap.size, 3, none⟩ d) w.heap.size [a, b, c, d] := fun a b c d => by
  have h := ((((Only.refl (· = w.heap.size) w5).setCell (p := ⟨w.heap.size, 0, none⟩) (.inl rfl) a).setCell (p := ⟨w.heap.size, 1, none⟩) (.inl rfl) b).setCell (p := ⟨w.heap.size, 2, none⟩) (.inl rfl) c).setCell (p := ⟨w.heap.size, 3, none⟩) (.inl rfl) d
  exact ⟨(((hz.setCell 0 _).setCell 1 _).setCell 2 _).setCell 3 _, Nat.le_refl _, (((Only.refl (fun _ => False) w).alloc _).drew.trans ho (fun _ h => h.elim)).trans h (fun i hi => .inr (by omega))⟩

theorem VerbsAt.drew {W : World} (h : VerbsAt W) : VerbsAt W.drew := h
theorem TbAt.drew {W : World} {p mo : Nat} {tp : TypeId} {pre post : List Value} {ag : Nat → Nat → Bool} {t : Tb} (h : TbAt W p mo tp pre post ag t) : TbAt W.drew p mo tp pre post ag t := h
/-- Two ways that come to the same: what follows is walked once. -/
theorem twice1 {P : Prop} {C G : Nat → World → Prop} (k : (∀ p W, C p W → G p W) → P) (h : ∀ p W, C p W → G p W) : P := k h
theorem thear_some {W : World} (hT : TbW W) {p mo : Nat} {tp : TypeId} {pre post : List Value} {ag : Nat → Nat → Bool} {t : Tb} (h : TbAt W p mo tp pre post ag t) {v o : Nat} (hv : 251 ≤ v ∧ v ≤ 254) (ho : o < 256) (hn : t.sent ≤ 1000000) (hh : t.heard ≤ 1000000) (hgp : 16 ≠ p) :
    Calls Tryz.prog 163 #[.pointer (some ⟨p, mo, none⟩), .int .i64 (v : Int), .int .i64 (o : Int)] W fun e w' =>
      e = .returned (.tuple #[heardV t ag v o, .nilIface]) ∧ TbAt w' p mo tp pre post ag (t.hear ag v o).1 ∧ Only (· = p) W w' := by
  obtain ⟨cs, hB, hC⟩ := h
  have hs := sideV_lt v
  have H1 : Hid (∀ W, Calls Tryz.prog 158 #[.int .i64 (v : Int)] W fun e w' => e = .returned (.bool true) ∧ w' = W) := fun W => by
    have := verb_any W (v : Int)
    rwa [decide_eq_true (by omega)] at this
  have H2 : Hid (∀ W, Calls Tryz.prog 83 #[.int .i64 (o : Int)] W fun e w' => e = .returned (.bool true) ∧ w' = W) := fun W => by
    have := isOption_any W (o : Int)
    rwa [decide_eq_true (by omega)] at this
  have H3 : Hid (∀ W, Calls Tryz.prog 192 #[.int .i64 (v : Int)] W fun e w' => e = .returned (.int .i64 (sideV v : Int)) ∧ w' = W) := fun W => sideOf_any W v hv
  have H4 : Hid (∀ W, Calls Tryz.prog 194 #[.int .i64 (v : Int)] W fun e w' => e = .returned (.bool (forV v)) ∧ w' = W) := fun W => by
    have := for_any W (v : Int)
    rwa [show decide ((v : Int) = 251 ∨ (v : Int) = 253) = forV v from by unfold forV; exact decide_eq_decide.2 (by omega)] at this
  unfold heardV Tb.hear
  obtain ⟨s, hsv⟩ : ∃ s, s = sideV v := ⟨_, rfl⟩
  rw [← hsv] at hs H3 ⊢
  obtain ⟨fv, hfv⟩ : ∃ f, f = forV v := ⟨_, rfl⟩
  rw [← hfv] at H4 ⊢
  obtain ⟨a, ha⟩ : ∃ a, a = ag s o := ⟨_, rfl⟩
  obtain ⟨q, hq⟩ : ∃ q, q = t.st s o := ⟨_, rfl⟩
  rw [← hq, ← ha]
  obtain ⟨m, hm⟩ : ∃ m, m = hearQ q fv a := ⟨_, rfl⟩
  have hk := hearQ_sends q fv a
  rw [← hm] at hk ⊢
  obtain ⟨mq, mk, mw⟩ := m
  simp only at hk ⊢
  have HH : ∀ w, Only (fun _ => False) W w → Calls Tryz.prog 193 #[.agg #[.int .i64 (q.kind : Int), .bool q.opp], .bool fv, .bool a] w fun e w' => e = .returned (.tuple #[.agg #[.int .i64 (mq.kind : Int), .bool mq.opp, .int .i64 (mk : Int), .bool mw], .nilIface]) ∧ Only (fun _ => False) w w' := fun w ho =>
    (hear_some (hT.qs.only ho) (q.kind : Int) q.opp fv a (qsOf_kind q)).mono (fun e w' h => by unfold Moved hearC at h; rw [← hm] at h; exact h)
  have HMv : ∀ w, VerbsAt w → ∀ t' : Tb, TbAt w p mo tp pre post ag t' → t'.sent ≤ 1000000 → Calls Tryz.prog 120 #[.pointer (some ⟨p, mo, none⟩), .int .i64 (s : Int), .int .i64 (o : Int), .agg #[.int .i64 (mq.kind : Int), .bool mq.opp, .int .i64 (mk : Int), .bool mw]] w fun e w' =>
      e = .returned (.int .i64 (toldV s mk : Int)) ∧ TbAt w' p mo tp pre post ag { t' with st := setQ t'.st s o mq, sent := t'.sent + sentN mk } ∧ Only (· = p) w w' := fun w hv t' ht hn => move_any hv ht hs ho mq mk hk mw hn hgp
  have HOq : ∀ w, Calls Tryz.prog 101 #[.agg #[.int .i64 (q.kind : Int), .bool q.opp]] w fun e w' => e = .returned (.bool (decide (q = .yes))) ∧ Only (fun _ => False) w w' := fun w => by
    have := on_any w (q.kind : Int) q.opp
    rwa [kind_one] at this
  have HOm : ∀ w, Calls Tryz.prog 101 #[.agg #[.int .i64 (mq.kind : Int), .bool mq.opp]] w fun e w' => e = .returned (.bool (decide (mq = .yes))) ∧ Only (fun _ => False) w w' := fun w => by
    have := on_any w (mq.kind : Int) mq.opp
    rwa [kind_one] at this
  unfold turnedQ
  have HSt : Hid (∀ w, Blk w p tp cs → w.rangeAt p (mo + s * 512 + o * 2) [.int .i64 (q.kind : Int), .bool q.opp]) := fun w hb => by rw [hq]; exact st_range hb hC hs ho rfl
  have hag : cs[mo + 1024 + s * 256 + o]? = some (.bool a) := by rw [ha]; exact hC.agr _ s o hs ho (by omega)
  obtain ⟨qk, hqk⟩ : ∃ x, x = (q.kind : Int) := ⟨_, rfl⟩
  obtain ⟨qo, hqo⟩ : ∃ x, x = q.opp := ⟨_, rfl⟩
  obtain ⟨zk, hzk⟩ : ∃ x, x = (mq.kind : Int) := ⟨_, rfl⟩
  obtain ⟨zo, hzo⟩ : ∃ x, x = mq.opp := ⟨_, rfl⟩
  obtain ⟨zm, hzm⟩ : ∃ x, x = (mk : Int) := ⟨_, rfl⟩
  obtain ⟨bq, hbq⟩ : ∃ x, x = decide (q = .yes) := ⟨_, rfl⟩
  obtain ⟨bm, hbm⟩ : ∃ x, x = decide (mq = .yes) := ⟨_, rfl⟩
  rw [← hbq] at HOq ⊢
  rw [← hbm] at HOm ⊢
  obtain ⟨tv, htv⟩ : ∃ x, x = (toldV s mk : Int) := ⟨_, rfl⟩
  rw [← htv] at HMv ⊢
  rw [← hqk, ← hqo] at HH HOq HSt
  rw [← hzk, ← hzo] at HOm
  rw [← hzk, ← hzo, ← hzm] at HH HMv
  have HHr := Lib.hid HH
  have HMv := Lib.hid HMv
  have HOq := Lib.hid HOq
  have HOm := Lib.hid HOm
  have HB := Lib.hid hB
  have HC := Lib.hid hC
  have HT := Lib.hid hT
  have hp := hB.lt
  have hs2 : (s : Int) < 2 := by omega
  have ho2 : (o : Int) < 256 := by omega
  have HAg := Lib.hid hag
  have HN := Lib.hid hn
  clear hB hC hT HH hsv hfv ha hq hm hqk hqo hzk hzo hzm hbq hbm htv hag hv hk hn
  go_enter Tryz.func163, Tryz.ntmps163
  go_wp2_with (first
    | (go_at_call 158; refine (H1.out _).mono ?_; rintro e w' ⟨rfl, rfl⟩)
    | (go_at_call 83; refine (H2.out _).mono ?_; rintro e w' ⟨rfl, rfl⟩)
    | (go_at_call 192; refine (H3.out _).mono ?_; rintro e w' ⟨rfl, rfl⟩)
    | ((with_reducible show wpList _ _ _ (⟨some 33, _, _, _, _, _⟩ :: _) _ _); refine wpList_load_mid rfl 65 _ rfl p (mo + s * 512 + o * 2) rfl [.int .i64 qk, .bool qo] _ (HSt.out _ (HB.out.alloc _)) Tryz.underlying65 rfl size_state ?_)
    | fail)
  obtain ⟨N6, hN6⟩ : ∃ N, N = W.heap.size := ⟨_, rfl⟩
  obtain ⟨W6, hW6⟩ : ∃ W6, W6 = (W.alloc (.cells #[.int .i64 0, .int .i64 0, .bool false, .bool false] 309)).alloc (.cells #[.int .i64 qk, .bool qo] 65) := ⟨_, rfl⟩
  have hBh : Blk W6 N6 309 [.int .i64 0, .int .i64 0, .bool false, .bool false] := by rw [hW6, hN6]; exact (Blk.new W _ [.int .i64 0, .int .i64 0, .bool false, .bool false]).alloc _
  have hBs : Blk W6 (N6 + 1) 65 [.int .i64 qk, .bool qo] := by rw [hW6, hN6]; exact Blk.new' _ _ _ (by simp)
  have hB6 : Blk W6 p tp cs := by rw [hW6]; exact (HB.out.alloc _).alloc _
  have hO6 : Only (fun _ => False) W W6 := by rw [hW6]; exact ((Only.refl _ _).alloc _).alloc _
  rw [← hN6] at hp ⊢
  rw [← hW6]
  have HNW : Hid (W.heap.size = N6) := hN6.symm
  have HBh := Lib.hid hBh
  have HBs := Lib.hid hBs
  have HB6 := Lib.hid hB6
  have HO6 := Lib.hid hO6
  have HS : Hid (∀ w, Only (fun _ => False) W6 w → (w.cell? ⟨N6 + 1, 0, none⟩ = some (.int .i64 qk) ∧ w.cell? ⟨N6 + 1, 1, none⟩ = some (.bool qo)) ∧ w.cell? ⟨p, mo + 1024 + s * 256 + o, none⟩ = some (.bool a)) := fun w ho =>
    ⟨⟨(HBs.out.only ho (fun h => h)).cell 0, (HBs.out.only ho (fun h => h)).cell 1⟩, by rw [(HB6.out.only ho (fun h => h)).cell]; exact HAg.out⟩
  have HZ6 : Hid (W6.heap.size = N6 + 2) := by rw [hW6, hN6]; simp [Hid]
  clear hW6 hN6 hBh hBs hB6 hO6
  apply twice1 (C := fun M W7 => Hid (MvAt W6 W7 M [.int .i64 zk, .bool zo, .int .i64 zm, .bool mw]))
  case k =>
    intro key
    go_region_held3 (fun w => (w.cell? ⟨N6 + 1, 0, none⟩ = some (.int .i64 qk) ∧ w.cell? ⟨N6 + 1, 1, none⟩ = some (.bool qo)) ∧ w.cell? ⟨p, mo + 1024 + s * 256 + o, none⟩ = some (.bool a))
      (first | exact HS.out _ (Only.refl _ _).drew | exact HS.out _ ((Only.refl _ _).alloc _).drew | exact HS.out _ ho5.out | exact HS.out _ (ho5.out.alloc _) | exact HS.out _ (MvAt.only (HE.out _ _ _ _)))
      (first
        | (with_reducible refine (H4.out _).mono ?_; rintro e w' ⟨rfl, rfl⟩)
        | ((with_reducible show Calls _ _ _ (World.drew W6) _); refine (HHr.out _ HO6.out.drew).mono ?_; rintro e w5 ⟨rfl, ho⟩; have ho5 := Lib.hid (((Only.refl (fun _ => False) W6).drew).trans ho (fun _ h => h.elim)); have HE := Lib.hid (MvAt.first ho); clear ho)
        | ((with_reducible show Calls _ _ _ (World.drew (World.alloc _ _)) _); refine (HHr.out _ (HO6.out.alloc _).drew).mono ?_; rintro e w5 ⟨rfl, ho⟩; have ho5 := Lib.hid ((((Only.refl (fun _ => False) W6).alloc _).drew).trans ho (fun _ h => h.elim)); have hz := (Blk.new W6 245 mv0).drew.only ho (fun h => h); have z0 : w5.cell? ⟨W6.heap.size, 0, none⟩ = some (.int .i64 0) := hz.cell 0; have z1 : w5.cell? ⟨W6.heap.size, 1, none⟩ = some (.bool false) := hz.cell 1; have z2 : w5.cell? ⟨W6.heap.size, 2, none⟩ = some (.int .i64 0) := hz.cell 2; have z3 : w5.cell? ⟨W6.heap.size, 3, none⟩ = some (.bool false) := hz.cell 3; have f0 := hz.frozen 0; have f1 := hz.frozen 1; have f2 := hz.frozen 2; have f3 := hz.frozen 3; have HE := Lib.hid (MvAt.second ho hz); clear ho hz))
    all_goals (first
      | (obtain ⟨W7, hW7⟩ : ∃ W7, W7 = w5.alloc (.cells #[.int .i64 zk, .bool zo, .int .i64 zm, .bool mw] 245) := ⟨_, rfl⟩
         rw [← hW7]
         have H0 : Hid (MvAt W6 W7 w5.heap.size [.int .i64 zk, .bool zo, .int .i64 zm, .bool mw]) := hW7 ▸ HE.out _ _ _ _
         obtain ⟨M, hM⟩ : ∃ M, M = w5.heap.size := ⟨_, rfl⟩
         rw [← hM] at H0 ⊢
         exact key M W7 H0)
      | (obtain ⟨W7, hW7⟩ : ∃ W7, W7 = ((((w5.setCell ⟨W6.heap.size, 0, none⟩ (.int .i64 zk)).setCell ⟨W6.heap.size, 1, none⟩ (.bool zo)).setCell ⟨W6.heap.size, 2, none⟩ (.int .i64 zm)).setCell ⟨W6.heap.size, 3, none⟩ (.bool mw)) := ⟨_, rfl⟩
         rw [← hW7]
         have H0 : Hid (MvAt W6 W7 W6.heap.size [.int .i64 zk, .bool zo, .int .i64 zm, .bool mw]) := hW7 ▸ HE.out _ _ _ _
         obtain ⟨M, hM⟩ : ∃ M, M = W6.heap.size := ⟨_, rfl⟩
         rw [← hM] at H0 ⊢
         exact key M W7 H0))
  case h =>
    intro M W7 H0
    have hMl := H0.out.new
    have hB7 := HB6.out.only H0.out.only (fun h => h)
    have c36 : W7.cell? ⟨p, mo + 1536, none⟩ = some (.int .i64 (t.heard : Int)) := by rw [hB7.cell]; exact HC.out.heard
    have f36 := hB7.frozen (mo + 1536)
    obtain ⟨n, hnn⟩ : ∃ n, n = t.heard := ⟨_, rfl⟩
    rw [← hnn] at c36 hh
    have HNn := Lib.hid hnn
    have HB7 := Lib.hid hB7
    clear hnn hB7
    go_wp2
    obtain ⟨W8, hW8⟩ : ∃ W8, W8 = W7.setCell ⟨p, mo + 1536, none⟩ (.int .i64 ((n : Int) + 1)) := ⟨_, rfl⟩
    rw [← hW8]
    have ho8 : Only (· = p) W7 W8 := by rw [hW8]; exact (Only.refl (· = p) W7).setCell (p := ⟨p, mo + 1536, none⟩) (.inl rfl) _
    have hB8 : Blk W8 p tp (cs.set (mo + 1536) (.int .i64 ((n : Int) + 1))) := by rw [hW8]; exact HB7.out.setCell (mo + 1536) _
    have HTb : Hid (TbAt W8 p mo tp pre post ag { t with heard := t.heard + 1 }) := ⟨_, hB8, by have := HC.out.setHeard (t.heard + 1); rw [← HNn.out] at this ⊢; exact this⟩
    have hNp : N6 + 1 ≠ p := by omega
    have hMp : M ≠ p := by have := HZ6.out; omega
    have HM8 := Lib.hid (H0.out.mv.only ho8 hMp)
    have HBs8 := Lib.hid ((HBs.out.only H0.out.only (fun h => h)).only ho8 hNp)
    have HBh8 := Lib.hid ((HBh.out.only H0.out.only (fun h => h)).only ho8 (by omega : ¬ N6 = p))
    have HO8 : Hid (Only (· = p) W W8) := (((HO6.out.trans H0.out.only (fun _ h => h.elim)).mono (T := (· = p)) (fun _ h => h.elim))).trans ho8 (fun i hi => .inl hi)
    have HVb : Hid (VerbsAt W8) := by
      have h6 := HT.out.verbs.only (HO6.out.trans H0.out.only (fun _ h => h.elim))
      intro j v hj
      refine ho8.cellv (h6 j v hj) ?_
      exact hgp
    have hNM : M ≠ N6 := by have := HZ6.out; omega
    have HS8 : Hid (∀ w, Only (fun i => i = p ∨ i = N6) W8 w → ((w.cell? ⟨M, 0, none⟩ = some (.int .i64 zk) ∧ w.cell? ⟨M, 1, none⟩ = some (.bool zo)) ∧ w.cell? ⟨M, 2, none⟩ = some (.int .i64 zm) ∧ w.cell? ⟨M, 3, none⟩ = some (.bool mw)) ∧ w.cell? ⟨N6 + 1, 0, none⟩ = some (.int .i64 qk) ∧ w.cell? ⟨N6 + 1, 1, none⟩ = some (.bool qo)) := fun w ho =>
      ⟨⟨⟨(HM8.out.only ho (by omega : ¬ (M = p ∨ M = N6))).cell 0, (HM8.out.only ho (by omega : ¬ (M = p ∨ M = N6))).cell 1⟩, (HM8.out.only ho (by omega : ¬ (M = p ∨ M = N6))).cell 2, (HM8.out.only ho (by omega : ¬ (M = p ∨ M = N6))).cell 3⟩, (HBs8.out.only ho (by omega : ¬ (N6 + 1 = p ∨ N6 + 1 = N6))).cell 0, (HBs8.out.only ho (by omega : ¬ (N6 + 1 = p ∨ N6 + 1 = N6))).cell 1⟩
    clear hW8 hB8 ho8 c36 f36
    go_region_held3 (fun w => ((w.cell? ⟨M, 0, none⟩ = some (.int .i64 zk) ∧ w.cell? ⟨M, 1, none⟩ = some (.bool zo)) ∧ w.cell? ⟨M, 2, none⟩ = some (.int .i64 zm) ∧ w.cell? ⟨M, 3, none⟩ = some (.bool mw)) ∧ w.cell? ⟨N6 + 1, 0, none⟩ = some (.int .i64 qk) ∧ w.cell? ⟨N6 + 1, 1, none⟩ = some (.bool qo))
      (first | exact HS8.out _ (Only.refl _ _).drew | exact HS8.out _ (ho9.out.mono (fun i h => .inl (.inl h))) | exact HS8.out _ (ho10.out.mono (fun i h => .inl (.inl h))) | exact HS8.out _ (ho11.out.mono (fun i h => .inl (.inl h))) | exact HS8.out _ (((((ho11.out.mono (T := fun i => i = p ∨ i = N6) (fun i h => .inl (.inl h))).setCell (p := ⟨N6, 0, none⟩) (.inl (.inr rfl)) _).setCell (p := ⟨N6, 1, none⟩) (.inl (.inr rfl)) _).setCell (p := ⟨N6, 2, none⟩) (.inl (.inr rfl)) _).setCell (p := ⟨N6, 3, none⟩) (.inl (.inr rfl)) _))
      (first
        | ((with_reducible refine (HMv.out _ HVb.out.drew _ HTb.out.drew HN.out).mono ?_); rintro e w9 ⟨rfl, ht, ho⟩; have ho9 := Lib.hid (((Only.refl (· = p) W8).drew).trans ho (fun i hi => .inl hi)); have HT9 := Lib.hid ht; clear ht ho)
        | ((with_reducible refine (HOm.out _).mono ?_); rintro e w10 ⟨rfl, ho⟩; have ho10 := Lib.hid (ho9.out.trans ho (fun _ h => h.elim)); have HT10 := Lib.hid (HT9.out.same ho); clear ho)
        | ((with_reducible refine (HOq.out _).mono ?_); rintro e w11 ⟨rfl, ho⟩; have ho11 := Lib.hid (ho10.out.trans ho (fun _ h => h.elim)); have HT11 := Lib.hid (HT10.out.same ho); have hb := HBh8.out.only ho11.out (by omega : ¬ N6 = p); have y0 : w11.cell? ⟨N6, 0, none⟩ = some (.int .i64 0) := hb.cell 0; have y1 : w11.cell? ⟨N6, 1, none⟩ = some (.int .i64 0) := hb.cell 1; have y2 : w11.cell? ⟨N6, 2, none⟩ = some (.bool false) := hb.cell 2; have y3 : w11.cell? ⟨N6, 3, none⟩ = some (.bool false) := hb.cell 3; have g0 := hb.frozen 0; have g1 := hb.frozen 1; have g2 := hb.frozen 2; have g3 := hb.frozen 3; have HBh11 := Lib.hid hb; clear ho hb))
    have hB12 := (((HBh11.out.setCell 0 (.int .i64 (s : Int))).setCell 1 (.int .i64 tv)).setCell 2 (.bool (!bm == bq))).setCell 3 (.bool mw)
    have hT12 := HT11.out.only (((((Only.refl (· = N6) w11).setCell (p := ⟨N6, 0, none⟩) (.inl rfl) (.int .i64 (s : Int))).setCell (p := ⟨N6, 1, none⟩) (.inl rfl) (.int .i64 tv)).setCell (p := ⟨N6, 2, none⟩) (.inl rfl) (.bool (!bm == bq))).setCell (p := ⟨N6, 3, none⟩) (.inl rfl) (.bool mw)) (by omega : ¬ p = N6)
    have hO12 := (HO8.out.trans ho11.out (fun i hi => .inl hi)).trans (((((Only.refl (· = N6) w11).setCell (p := ⟨N6, 0, none⟩) (.inl rfl) (.int .i64 (s : Int))).setCell (p := ⟨N6, 1, none⟩) (.inl rfl) (.int .i64 tv)).setCell (p := ⟨N6, 2, none⟩) (.inl rfl) (.bool (!bm == bq))).setCell (p := ⟨N6, 3, none⟩) (.inl rfl) (.bool mw)) (fun i hi => .inr (by have := HNW.out; omega))
    clear y0 y1 y2 y3 g0 g1 g2 g3
    go_wp2
    refine ret_cell2 rfl N6 rfl _ [.int .i64 (s : Int), .int .i64 tv, .bool (!bm == bq), .bool mw] _ hB12 Tryz.underlying309 rfl size_heard rfl ?_
    refine ⟨?_, ?_, hO12⟩
    · cases bm <;> cases bq <;> rfl
    · exact hT12
end Go.Proofs.YtbnfhklpobephaaGreatDoor
/- Telnet's tokens, as plain functions: a machine that reads bytes, and what is told of a row of them; the document's own way, each token cut off the front; both are one. -/
namespace Go.Proofs.YtbnfhklpobephaaGreatDoor

/-- A token. -/
structure Tk where
  kind : Int
  code : Int
  opt : Int
  body : List UInt8
  cut : Bool
deriving DecidableEq
def Tk.none : Tk := ⟨0, 0, 0, [], false⟩
/-- A machine. -/
structure Ms where
  st : Nat
  verb : Int
  opt : Int
  body : List UInt8
  cut : Bool
deriving DecidableEq
def Ms.zero : Ms := ⟨0, 0, 0, [], false⟩

def Ms.keep (m : Ms) (c : UInt8) : Ms := if m.body.length = 256 then { m with cut := true } else { m with body := m.body ++ [c] }
def Ms.to (m : Ms) (s : Nat) : Ms := { m with st := s }
/-- One byte. -/
def feed (m : Ms) (c : UInt8) : Ms × Option Tk :=
  match m.st with
  | 1 =>
    if c.toNat = 255 then (.zero, some ⟨1, 255, 0, [], false⟩)
    else if c.toNat = 250 then (m.to 3, .none)
    else if 251 ≤ c.toNat ∧ c.toNat ≤ 254 then ({ m with verb := (c.toNat : Int) }.to 2, .none)
    else (.zero, some ⟨2, (c.toNat : Int), 0, [], false⟩)
  | 2 => (.zero, some ⟨3, m.verb, (c.toNat : Int), [], false⟩)
  | 3 => ({ m with opt := (c.toNat : Int) }.to 4, .none)
  | 4 => if c.toNat = 255 then (m.to 5, .none) else ((m.keep c).to 4, .none)
  | 5 =>
    if c.toNat = 255 then ((m.keep c).to 4, .none)
    else if c.toNat = 240 then (.zero, some ⟨4, 0, m.opt, m.body, m.cut⟩)
    else (.zero, some ⟨5, (c.toNat : Int), m.opt, [], false⟩)
  | _ => if c.toNat = 255 then (m.to 1, .none) else (.zero, some ⟨1, (c.toNat : Int), 0, [], false⟩)

/-- What is told of bytes, and where the machine stands then. -/
def feeds : Ms → List UInt8 → List Tk × Ms
  | m, [] => ([], m)
  | m, c :: l => ((feed m c).2.toList ++ (feeds (feed m c).1 l).1, (feeds (feed m c).1 l).2)
theorem feeds_append (m : Ms) (a b : List UInt8) : feeds m (a ++ b) = ((feeds m a).1 ++ (feeds (feeds m a).2 b).1, (feeds (feeds m a).2 b).2) := by
  induction a generalizing m with
  | nil => simp [feeds]
  | cons c a ih => simp [feeds, ih]
theorem feeds_one (m : Ms) (c : UInt8) : feeds m [c] = ((feed m c).2.toList, (feed m c).1) := by simp [feeds]
theorem feeds_length (m : Ms) (l : List UInt8) : (feeds m l).1.length ≤ l.length := by
  induction l generalizing m with
  | nil => simp [feeds]
  | cons c l ih =>
    simp only [feeds, List.length_append, List.length_cons]
    have h1 := ih (feed m c).1
    have h2 : (feed m c).2.toList.length ≤ 1 := by cases (feed m c).2 <;> simp
    omega

/-- Such a machine as there is. -/
structure Ms.Ok (m : Ms) : Prop where
  st : m.st ≤ 5
  body : m.body.length ≤ 256
  idle : m.st = 0 → m = Ms.zero
theorem Ms.zero_ok : Ms.zero.Ok := ⟨by decide, by decide, fun _ => rfl⟩
theorem Ms.keep_body (m : Ms) (c : UInt8) (h : m.body.length ≤ 256) : (m.keep c).body.length ≤ 256 := by
  unfold Ms.keep
  split
  · exact h
  · simp only [List.length_append, List.length_singleton]
    omega
theorem feed_ok {m : Ms} (h : m.Ok) (c : UInt8) : (feed m c).1.Ok ∧ ((feed m c).1.st = 0 ↔ (feed m c).2.isSome = true) ∧ ∀ t, (feed m c).2 = some t → t.body.length ≤ 256 := by
  have h1 := h.body
  have h2 := Ms.keep_body m c h1
  unfold feed
  split
  all_goals
    repeat' split
    all_goals
      refine ⟨⟨?_, ?_, ?_⟩, ?_, ?_⟩ <;> simp_all [Ms.to, Ms.zero]
      all_goals (try (intro t ht; subst ht; simp; done))
      all_goals (try (intro t ht; subst ht; exact h1))
theorem feeds_ok {m : Ms} (h : m.Ok) (l : List UInt8) : (feeds m l).2.Ok ∧ ∀ t ∈ (feeds m l).1, t.body.length ≤ 256 := by
  induction l generalizing m with
  | nil => exact ⟨h, fun t ht => by cases ht⟩
  | cons c l ih =>
    obtain ⟨h1, h2, h3⟩ := feed_ok h c
    obtain ⟨h4, h5⟩ := ih h1
    refine ⟨h4, fun t ht => ?_⟩
    simp only [feeds, List.mem_append] at ht
    rcases ht with ht | ht
    · exact h3 t (by simpa using ht)
    · exact h5 t ht

/-! The document's own way. -/
def subGo (o : Int) : List UInt8 → Nat → List UInt8 → Option (Tk × Nat)
  | _, _, [] => .none
  | full, at_, [x] => if x.toNat = 255 then .none else subGo o (full ++ [x]) (at_ + 1) []
  | full, at_, x :: c :: l =>
    if x.toNat = 255 then
      if c.toNat = 255 then subGo o (full ++ [255]) (at_ + 2) l
      else if c.toNat = 240 then some (⟨4, 0, o, full.take 256, decide (256 < full.length)⟩, at_ + 2)
      else some (⟨5, (c.toNat : Int), o, [], false⟩, at_ + 2)
    else subGo o (full ++ [x]) (at_ + 1) (c :: l)
/-- The token with which bytes begin, and how many it has. -/
def next : List UInt8 → Option (Tk × Nat)
  | [] => .none
  | c :: l =>
    if c.toNat ≠ 255 then some (⟨1, (c.toNat : Int), 0, [], false⟩, 1)
    else match l with
      | [] => .none
      | d :: l =>
        if d.toNat = 255 then some (⟨1, 255, 0, [], false⟩, 2)
        else if d.toNat < 250 then some (⟨2, (d.toNat : Int), 0, [], false⟩, 2)
        else match l with
          | [] => .none
          | e :: l => if 250 < d.toNat then some (⟨3, (d.toNat : Int), (e.toNat : Int), [], false⟩, 3) else subGo (e.toNat : Int) [] 3 l

theorem subGo_plain (o : Int) (full : List UInt8) (n : Nat) (x : UInt8) (hx : x.toNat ≠ 255) (l : List UInt8) : subGo o full n (x :: l) = subGo o (full ++ [x]) (n + 1) l := by
  cases l with
  | nil => simp [subGo, hx]
  | cons c l => rw [subGo, if_neg hx]
theorem subGo_two (o : Int) (full : List UInt8) (n : Nat) (x c : UInt8) (hx : x.toNat = 255) (hc : c.toNat = 255) (l : List UInt8) : subGo o full n (x :: c :: l) = subGo o (full ++ [c]) (n + 2) l := by
  rw [subGo, if_pos hx, if_pos hc]
  obtain rfl : c = 255 := UInt8.toNat_inj.1 hc
  rfl
/-- So many bytes of a body stand for so many. -/
def Enc (s full : List UInt8) : Prop := ∀ (o : Int) (f : List UInt8) (n : Nat) (l : List UInt8), subGo o f n (s ++ l) = subGo o (f ++ full) (n + s.length) l
theorem Enc.nil : Enc [] [] := fun o f n l => by simp
theorem Enc.plain {s full : List UInt8} (h : Enc s full) {x : UInt8} (hx : x.toNat ≠ 255) : Enc (s ++ [x]) (full ++ [x]) := fun o f n l => by
  rw [List.append_assoc, h, List.singleton_append, subGo_plain _ _ _ _ hx, List.append_assoc, List.length_append]
  rfl
theorem Enc.two {s full : List UInt8} (h : Enc s full) {x c : UInt8} (hx : x.toNat = 255) (hc : c.toNat = 255) : Enc (s ++ [x] ++ [c]) (full ++ [c]) := fun o f n l => by
  rw [List.append_assoc, List.append_assoc, h, List.singleton_append, List.singleton_append, subGo_two _ _ _ _ _ hx hc, List.append_assoc]
  simp only [List.length_append, List.length_singleton]
  rfl

/-- What was read since the last token, and where the machine stands behind it. -/
def Pend (r : List UInt8) (m : Ms) : Prop :=
  (r = [] ∧ m = .zero) ∨ (∃ c : UInt8, r = [c] ∧ c.toNat = 255 ∧ m = ⟨1, 0, 0, [], false⟩)
  ∨ (∃ c d : UInt8, r = [c, d] ∧ c.toNat = 255 ∧ 251 ≤ d.toNat ∧ d.toNat ≤ 254 ∧ m = ⟨2, (d.toNat : Int), 0, [], false⟩)
  ∨ (∃ c d : UInt8, r = [c, d] ∧ c.toNat = 255 ∧ d.toNat = 250 ∧ m = ⟨3, 0, 0, [], false⟩)
  ∨ (∃ (c d e : UInt8) (s full : List UInt8), r = c :: d :: e :: s ∧ c.toNat = 255 ∧ d.toNat = 250 ∧ Enc s full ∧ m = ⟨4, 0, (e.toNat : Int), full.take 256, decide (256 < full.length)⟩)
  ∨ (∃ (c d e x : UInt8) (s full : List UInt8), r = c :: d :: e :: (s ++ [x]) ∧ c.toNat = 255 ∧ d.toNat = 250 ∧ x.toNat = 255 ∧ Enc s full ∧ m = ⟨5, 0, (e.toNat : Int), full.take 256, decide (256 < full.length)⟩)
theorem Pend.idle {r : List UInt8} {m : Ms} (h : Pend r m) : m.st = 0 ↔ r = [] := by
  rcases h with ⟨rfl, rfl⟩ | ⟨c, rfl, _, rfl⟩ | ⟨c, d, rfl, _, _, _, rfl⟩ | ⟨c, d, rfl, _, _, rfl⟩ | ⟨c, d, e, s, full, rfl, _, _, _, rfl⟩ | ⟨c, d, e, x, s, full, rfl, _, _, _, _, rfl⟩ <;> simp [Ms.zero]
theorem next_sub (c d e : UInt8) (l : List UInt8) (hc : c.toNat = 255) (hd : d.toNat = 250) : next (c :: d :: e :: l) = subGo (e.toNat : Int) [] 3 l := by
  simp [next, hc, hd]
theorem Pend.none {r : List UInt8} {m : Ms} (h : Pend r m) : next r = .none := by
  rcases h with ⟨rfl, rfl⟩ | ⟨c, rfl, h1, rfl⟩ | ⟨c, d, rfl, h1, h2, h3, rfl⟩ | ⟨c, d, rfl, h1, h2, rfl⟩ | ⟨c, d, e, s, full, rfl, h1, h2, h3, rfl⟩ | ⟨c, d, e, x, s, full, rfl, h1, h2, h4, h3, rfl⟩
  · rfl
  · simp [next, h1]
  · have a1 : ¬ d.toNat = 255 := by omega
    have a2 : ¬ d.toNat < 250 := by omega
    simp [next, h1, a1, a2]
  · simp [next, h1, h2]
  · rw [next_sub _ _ _ _ h1 h2]
    have := h3 (e.toNat : Int) [] 3 []
    rw [List.append_nil] at this
    rw [this, subGo]
  · rw [next_sub _ _ _ _ h1 h2, h3, subGo, if_pos h4]
theorem keep_take (full : List UInt8) (a b : Nat) (v o : Int) (x : UInt8) : (Ms.keep ⟨a, v, o, full.take 256, decide (256 < full.length)⟩ x).to b = ⟨b, v, o, (full ++ [x]).take 256, decide (256 < (full ++ [x]).length)⟩ := by
  unfold Ms.keep Ms.to
  simp only [List.length_take, List.length_append, List.length_singleton]
  by_cases h : 256 ≤ full.length
  · rw [if_pos (by omega), List.take_append_of_le_length h]
    congr 1
    simp
    omega
  · rw [if_neg (by omega), List.take_of_length_le (by omega), List.take_of_length_le (by simp; omega)]
    congr 1
    simp
    omega

theorem Pend.step {r : List UInt8} {m : Ms} (h : Pend r m) (c : UInt8) :
    (∃ t, feed m c = (.zero, some t) ∧ ∀ l, next (r ++ c :: l) = some (t, r.length + 1)) ∨ (∃ m', feed m c = (m', .none) ∧ Pend (r ++ [c]) m') := by
  rcases h with ⟨rfl, rfl⟩ | ⟨x, rfl, h1, rfl⟩ | ⟨x, d, rfl, h1, h2, h3, rfl⟩ | ⟨x, d, rfl, h1, h2, rfl⟩ | ⟨x, d, e, s, full, rfl, h1, h2, h3, rfl⟩ | ⟨x, d, e, y, s, full, rfl, h1, h2, h4, h3, rfl⟩
  · by_cases hc : c.toNat = 255
    · exact .inr ⟨_, by simp only [feed, Ms.zero, if_pos hc]; rfl, .inr (.inl ⟨c, rfl, hc, rfl⟩)⟩
    · exact .inl ⟨_, by simp only [feed, Ms.zero, if_neg hc]; rfl, fun l => by simp [next, hc]⟩
  · by_cases hc : c.toNat = 255
    · exact .inl ⟨_, by simp only [feed, if_pos hc]; rfl, fun l => by simp [next, h1, hc]⟩
    · by_cases hc2 : c.toNat = 250
      · exact .inr ⟨_, by simp only [feed, if_neg hc, if_pos hc2]; rfl, .inr (.inr (.inr (.inl ⟨x, c, rfl, h1, hc2, rfl⟩)))⟩
      · by_cases hc3 : 251 ≤ c.toNat ∧ c.toNat ≤ 254
        · exact .inr ⟨_, by simp only [feed, if_neg hc, if_neg hc2, if_pos hc3]; rfl, .inr (.inr (.inl ⟨x, c, rfl, h1, hc3.1, hc3.2, rfl⟩))⟩
        · have hb := c.toNat_lt
          have a2 : c.toNat < 250 := by omega
          exact .inl ⟨_, by simp only [feed, if_neg hc, if_neg hc2, if_neg hc3]; rfl, fun l => by simp [next, h1, hc, a2]⟩
  · have a1 : ¬ d.toNat = 255 := by omega
    have a2 : ¬ d.toNat < 250 := by omega
    have a3 : 250 < d.toNat := by omega
    exact .inl ⟨_, by simp only [feed]; rfl, fun l => by simp [next, h1, a1, a2, a3]⟩
  · exact .inr ⟨_, by simp only [feed]; rfl, .inr (.inr (.inr (.inr (.inl ⟨x, d, c, [], [], rfl, h1, h2, Enc.nil, rfl⟩))))⟩
  · by_cases hc : c.toNat = 255
    · exact .inr ⟨_, by simp only [feed, if_pos hc]; rfl, .inr (.inr (.inr (.inr (.inr ⟨x, d, e, c, s, full, by simp, h1, h2, hc, h3, rfl⟩))))⟩
    · exact .inr ⟨_, by simp only [feed, if_neg hc]; rfl, .inr (.inr (.inr (.inr (.inl ⟨x, d, e, s ++ [c], full ++ [c], by simp, h1, h2, h3.plain hc, keep_take _ _ _ _ _ _⟩))))⟩
  · by_cases hc : c.toNat = 255
    · exact .inr ⟨_, by simp only [feed, if_pos hc]; rfl, .inr (.inr (.inr (.inr (.inl ⟨x, d, e, s ++ [y] ++ [c], full ++ [c], by simp, h1, h2, h3.two h4 hc, keep_take _ _ _ _ _ _⟩))))⟩
    · by_cases hc2 : c.toNat = 240
      · refine .inl ⟨_, by simp only [feed, if_neg hc, if_pos hc2]; rfl, fun l => ?_⟩
        rw [show x :: d :: e :: (s ++ [y]) ++ c :: l = x :: d :: e :: (s ++ (y :: c :: l)) by simp, next_sub _ _ _ _ h1 h2, h3, subGo, if_pos h4, if_neg hc, if_pos hc2]
        simp
        omega
      · refine .inl ⟨_, by simp only [feed, if_neg hc, if_neg hc2]; rfl, fun l => ?_⟩
        rw [show x :: d :: e :: (s ++ [y]) ++ c :: l = x :: d :: e :: (s ++ (y :: c :: l)) by simp, next_sub _ _ _ _ h1 h2, h3, subGo, if_pos h4, if_neg hc, if_neg hc2]
        simp
        omega

theorem pend_all : ∀ (l r : List UInt8) (m : Ms), Pend r m →
    (next (r ++ l) = .none ∧ ∃ m', feeds m l = ([], m') ∧ Pend (r ++ l) m') ∨ (∃ t n, next (r ++ l) = some (t, n) ∧ 0 < n ∧ n ≤ (r ++ l).length ∧ feeds m l = (t :: (feeds .zero ((r ++ l).drop n)).1, (feeds .zero ((r ++ l).drop n)).2))
  | [], r, m, h => .inl ⟨by rw [List.append_nil]; exact h.none, m, rfl, by rw [List.append_nil]; exact h⟩
  | c :: l, r, m, h => by
    rcases h.step c with ⟨t, h1, h2⟩ | ⟨m', h1, h2⟩
    · refine .inr ⟨t, r.length + 1, h2 l, by omega, by simp, ?_⟩
      have e : (r ++ c :: l).drop (r.length + 1) = l := by
        rw [show r ++ c :: l = (r ++ [c]) ++ l by simp, show r.length + 1 = (r ++ [c]).length by simp, List.drop_left]
      rw [e]
      simp [feeds, h1]
    · have := pend_all l (r ++ [c]) m' h2
      rw [List.append_assoc, List.singleton_append] at this
      have e : feeds m (c :: l) = feeds m' l := by simp [feeds, h1]
      rw [e]
      exact this

theorem next_is_none {s : List UInt8} (h : next s = .none) : (feeds .zero s).1 = [] ∧ ((feeds .zero s).2.st = 0 ↔ s = []) := by
  rcases pend_all s [] .zero (.inl ⟨rfl, rfl⟩) with ⟨_, m', h1, h2⟩ | ⟨t, n, h1, _⟩
  · rw [h1]
    exact ⟨rfl, h2.idle⟩
  · rw [List.nil_append, h] at h1
    cases h1
theorem next_is_some {s : List UInt8} {t : Tk} {n : Nat} (h : next s = some (t, n)) : 0 < n ∧ n ≤ s.length ∧ (feeds .zero s).1 = t :: (feeds .zero (s.drop n)).1 ∧ (feeds .zero s).2 = (feeds .zero (s.drop n)).2 := by
  rcases pend_all s [] .zero (.inl ⟨rfl, rfl⟩) with ⟨h1, _⟩ | ⟨t', n', h1, h2, h3, h4⟩
  · rw [List.nil_append, h] at h1
    cases h1
  · rw [List.nil_append, h] at h1
    injection h1 with h1
    injection h1 with ha hb
    subst ha hb
    rw [List.nil_append] at h3 h4
    rw [h4]
    exact ⟨h2, h3, rfl, rfl⟩
end Go.Proofs.YtbnfhklpobephaaGreatDoor
/- Layer 8 as plain functions: what goes out, what comes in, and that it is what it was. -/
namespace Go.Proofs.YtbnfhklpobephaaGreatDoor

/-- What goes out. -/
def out8 (raw : Bool) : List UInt8 → List UInt8
  | [] => []
  | x :: l => (if x.toNat = 13 ∧ raw = false ∧ (l.head?.map UInt8.toNat) ≠ some 10 then [x, 0] else [x]) ++ out8 raw l
theorem out8_raw : ∀ l, out8 true l = l
  | [] => rfl
  | x :: l => by simp [out8, out8_raw l]
theorem out8_le (raw : Bool) : ∀ l, (out8 raw l).length ≤ 2 * l.length
  | [] => by simp [out8]
  | x :: l => by
    have := out8_le raw l
    simp only [out8, List.length_append, List.length_cons]
    split <;> simp <;> omega

/-- What comes in, of bytes each raw or not, behind a 13 or not. -/
def in8 : Bool → List (UInt8 × Bool) → List UInt8
  | _, [] => []
  | b, (x, r) :: l => (if b = true ∧ x.toNat = 0 ∧ r = false then [] else [x]) ++ in8 (decide (x.toNat = 13) && !r) l
theorem in8_le : ∀ b l, (in8 b l).length ≤ l.length
  | _, [] => by simp [in8]
  | b, (x, r) :: l => by
    have := in8_le (decide (x.toNat = 13) && !r) l
    simp only [in8, List.length_append, List.length_cons]
    split <;> simp <;> omega
/-- .. all raw, or none. -/
def flags8 (raw : Bool) (l : List UInt8) : List (UInt8 × Bool) := l.map fun x => (x, raw)
theorem in8_raw : ∀ b l, in8 b (flags8 true l) = l
  | _, [] => rfl
  | b, x :: l => by
    have := in8_raw (decide (x.toNat = 13) && !true) l
    simp only [flags8, List.map_cons, in8] at this ⊢
    rw [this]
    simp

/-- What goes out comes in as it was, and what comes behind it as if nothing had come. -/
theorem in8_out8 : ∀ (l : List UInt8) (t : List UInt8) (b : Bool), (b = true → l.head?.map UInt8.toNat = some 10) → in8 b (flags8 false (out8 false l ++ t)) = l ++ in8 false (flags8 false t)
  | [], t, b, h => by
    cases b with
    | false => rfl
    | true => simp at h
  | x :: l, t, b, h => by
    have hx : ¬ (b = true ∧ x.toNat = 0 ∧ True) := by
      rintro ⟨hb, h0, _⟩
      have := h hb
      simp at this
      omega
    by_cases h13 : x.toNat = 13
    · by_cases h10 : (l.head?.map UInt8.toNat) = some 10
      · have e : out8 false (x :: l) = x :: out8 false l := by simp [out8, h10]
        have := in8_out8 l t true (fun _ => h10)
        rw [e]
        simp only [flags8, List.cons_append, List.map_cons, in8] at this ⊢
        rw [if_neg hx]
        simp only [h13, decide_true, Bool.not_false, Bool.and_self]
        rw [this]
        rfl
      · have e : out8 false (x :: l) = x :: 0 :: out8 false l := by simp [out8, h13, h10]
        have := in8_out8 l t false (fun h => by cases h)
        rw [e]
        simp only [flags8, List.cons_append, List.map_cons, in8] at this ⊢
        rw [if_neg hx]
        simp only [h13]
        have e0 : (0 : UInt8).toNat = 0 := rfl
        simp only [e0, decide_true, Bool.not_false, Bool.and_self, and_self, if_true, List.nil_append, show decide (0 = 13) = false from rfl, Bool.false_and]
        rw [this]
        rfl
    · have e : out8 false (x :: l) = x :: out8 false l := by simp [out8, h13]
      have := in8_out8 l t false (fun h => by cases h)
      rw [e]
      simp only [flags8, List.cons_append, List.map_cons, in8] at this ⊢
      rw [if_neg hx]
      simp only [h13, decide_false, Bool.false_and]
      rw [this]
      rfl

/-- The parts, one behind the other. -/
def cat8 : List (List UInt8) → List UInt8
  | [] => []
  | x :: l => x ++ cat8 l
theorem cat8_append (a b : List (List UInt8)) : cat8 (a ++ b) = cat8 a ++ cat8 b := by
  induction a with
  | nil => rfl
  | cons x l ih => simp [cat8, ih]
theorem back8_false : ∀ ps : List (List UInt8), in8 false (flags8 false (cat8 (ps.map (out8 false)))) = cat8 ps
  | [] => rfl
  | p :: ps => by
    simp only [List.map_cons, cat8]
    rw [in8_out8 p _ false (fun h => by cases h), back8_false ps]
theorem back8 (raw : Bool) (ps : List (List UInt8)) : in8 false (flags8 raw (cat8 (ps.map (out8 raw)))) = cat8 ps := by
  cases raw with
  | false => exact back8_false ps
  | true =>
    rw [in8_raw]
    have : (ps.map (out8 true)) = ps := by
      rw [show out8 true = id from funext out8_raw]
      simp
    rw [this]

/-- Behind each 13 stands a 0 or a 10. -/
def Ends8 (l : List UInt8) : Prop := ∀ (i : Nat) (x : UInt8), l[i]? = some x → x.toNat = 13 → ∃ y, l[i + 1]? = some y ∧ (y.toNat = 0 ∨ y.toNat = 10)
theorem Ends8.nil : Ends8 [] := fun i x h => by simp at h
theorem Ends8.append {a b : List UInt8} (ha : Ends8 a) (hb : Ends8 b) : Ends8 (a ++ b) := by
  intro i x hx h13
  rw [List.getElem?_append] at hx
  split at hx
  · obtain ⟨y, hy, h⟩ := ha i x hx h13
    exact ⟨y, by rw [List.getElem?_append_left (List.getElem?_eq_some_iff.1 hy).1]; exact hy, h⟩
  · obtain ⟨y, hy, h⟩ := hb _ x hx h13
    exact ⟨y, by rw [List.getElem?_append_right (by omega), show i + 1 - a.length = i - a.length + 1 from by omega]; exact hy, h⟩
theorem ends_out8 : ∀ l, Ends8 (out8 false l)
  | [] => Ends8.nil
  | x :: l => by
    have ih := ends_out8 l
    intro i c hc h13
    simp only [out8] at hc ⊢
    split at hc
    · rename_i h
      match i, hc with
      | 0, hc => exact ⟨0, by rw [if_pos h]; rfl, .inl (by decide)⟩
      | 1, hc => simp at hc; subst hc; simp at h13
      | i + 2, hc =>
        obtain ⟨y, hy, h2⟩ := ih i c (by simpa using hc) h13
        exact ⟨y, by rw [if_pos h]; simpa using hy, h2⟩
    · rename_i h
      match i, hc with
      | 0, hc =>
        simp at hc
        subst hc
        have h10 : l.head?.map UInt8.toNat = some 10 := by
          refine Classical.byContradiction fun h10 => h ⟨h13, trivial, h10⟩
        cases l with
        | nil => simp at h10
        | cons y l =>
          refine ⟨y, ?_, .inr (by simpa using h10)⟩
          rw [if_neg h]
          simp only [out8]
          split <;> simp
      | i + 1, hc =>
        obtain ⟨y, hy, h2⟩ := ih i c (by simpa using hc) h13
        exact ⟨y, by rw [if_neg h]; simpa using hy, h2⟩
theorem ends_cat8 : ∀ ps : List (List UInt8), Ends8 (cat8 (ps.map (out8 false)))
  | [] => Ends8.nil
  | p :: ps => (ends_out8 p).append (ends_cat8 ps)
end Go.Proofs.YtbnfhklpobephaaGreatDoor
