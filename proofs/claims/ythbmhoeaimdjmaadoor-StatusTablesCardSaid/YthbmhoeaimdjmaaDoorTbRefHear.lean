/- Layer 11's document, walked: Ask. -/
import Derived.Test.YthbmhoeaimdjmaaDoorTbRefList
namespace Go.Proofs.YthbmhoeaimdjmaaDoor
open Go Go.RowKit
set_option maxRecDepth 100000
set_option maxHeartbeats 4000000

/-- Where the document's table stands behind a turn. -/
def rfSet (l : List Rq) (s o : Nat) (q : Qs) : List Rq := dropR l s o ++ [⟨s, o, q⟩]
theorem rfSet_length (l : List Rq) (s o : Nat) (q : Qs) : (rfSet l s o q).length ≤ l.length + 1 := by
  have := dropR_length l s o
  simp [rfSet]
  omega
theorem RfAt.turn {w : World} {B r : Nat} {P : Po} {l : List Rq} {f : Nat → Nat → Qs} {a b c : Nat} (h : RfAt w B r P l ⟨f, a, b, c⟩) (g : Nat → Nat → Qs) : RfAt w B r P l ⟨g, a, b, c⟩ := by
  obtain ⟨A, n, c', h⟩ := h
  exact ⟨A, n, c', h.blk, h.len, h.row⟩
theorem rfAsk_kind (w : World) (r : Nat) {s : Int} (o : Int) (on : Bool) (hs : ¬ (s = 0 ∨ s = 1)) : Calls Tryd.prog 20 #[.pointer (some ⟨r, 0, none⟩), .int .i64 s, .int .i64 o, .bool on] w fun e w' => e = .returned (.tuple #[.int .i64 0, .int .i64 9]) ∧ Only (fun _ => False) w w' := by
  have e0 : (s == 0) = false := by simp; omega
  have e0' : decide (s = 0) = false := by simp; omega
  have e1 : (s == 1) = false := by simp; omega
  have e1' : decide (s = 1) = false := by simp; omega
  have e2 : (s != 0) = true := by simp; omega
  have e3 : (s != 1) = true := by simp; omega
  clear hs
  go_enter Tryd.func20, Tryd.ntmps20
  go_wp2
  go_ret2
  exact ⟨rfl, Only.refl _ _⟩
theorem rfAsk_range (w : World) (r : Nat) {s o : Int} (on : Bool) (hs : s = 0 ∨ s = 1) (ho : ¬ (0 ≤ o ∧ o ≤ 255)) : Calls Tryd.prog 20 #[.pointer (some ⟨r, 0, none⟩), .int .i64 s, .int .i64 o, .bool on] w fun e w' => e = .returned (.tuple #[.int .i64 0, .int .i64 1]) ∧ Only (fun _ => False) w w' := by
  rcases (show o < 0 ∨ (¬ o < 0 ∧ 255 < o) by omega) with h0 | ⟨h0, h1⟩
  · have e0 : decide (o < 0) = true := by simpa using h0
    clear ho
    rcases hs with rfl | rfl
    all_goals
      go_enter Tryd.func20, Tryd.ntmps20
      go_wp2
      go_ret2
      exact ⟨rfl, Only.refl _ _⟩
  · have e0 : decide (o < 0) = false := by simpa using h0
    have e1 : decide ((255 : Int) < o) = true := by simpa using h1
    clear ho
    rcases hs with rfl | rfl
    all_goals
      go_enter Tryd.func20, Tryd.ntmps20
      go_wp2
      go_ret2
      exact ⟨rfl, Only.refl _ _⟩
theorem rfAsk_any {w : World} {B r : Nat} {P : Po} {l : List Rq} {T : Tb} (h : RfAt w B r P l T) (hr : RowsAre l T.st) (hB : B ≤ w.heap.size) (hn : l.length ≤ 900) {s o : Nat} (hs : s < 2) (ho : o < 256) (on : Bool) (hsn : T.sent ≤ 1000000) (hak : T.asked ≤ 1000000) :
    Calls Tryd.prog 20 #[.pointer (some ⟨r, 0, none⟩), .int .i64 (s : Int), .int .i64 (o : Int), .bool on] w fun e w' =>
      match askQ (T.st s o) on with
      | some m => e = .returned (.tuple #[.int .i64 (toldV s m.2 : Int), .int .i64 0]) ∧ RfAt w' B r P (rfSet l s o m.1) ⟨setQ T.st s o m.1, T.heard, T.asked + 1, T.sent + sentN m.2⟩ ∧ Only (· = r) w w'
      | none => e = .returned (.tuple #[.int .i64 0, .int .i64 10]) ∧ Only (fun _ => False) w w' := by
  have hSt0 : ∀ W, Only (fun _ => False) w W → Calls Tryd.prog 42 #[.pointer (some ⟨r, 0, none⟩), .int .i64 (s : Int), .int .i64 (o : Int)] W fun e w' => e = .returned (.agg #[.int .i64 ((T.st s o).kind : Int), .bool (T.st s o).opp]) ∧ Only (fun _ => False) W w' := fun W hW => by
    have := rstate_any (h.same hW) (s : Int) (o : Int)
    rwa [hr.look s o hs ho] at this
  have hRa := fun W => rask_any W (T.st s o) on
  obtain ⟨qk, hqk⟩ : ∃ x, x = ((T.st s o).kind : Int) := ⟨_, rfl⟩
  obtain ⟨qo, hqo⟩ : ∃ x, x = (T.st s o).opp := ⟨_, rfl⟩
  rw [← hqk, ← hqo] at hSt0 hRa
  have HSt := Lib.hid hSt0
  have hs2 : (s : Int) = 0 ∨ (s : Int) = 1 := by omega
  have ho1 : decide ((o : Int) < 0) = false := by simp
  have ho2 : decide ((255 : Int) < (o : Int)) = false := by simp; omega
  have d0 : ((s : Int) != 0) = decide (s = 1) := by rcases (show s = 0 ∨ s = 1 by omega) with rfl | rfl <;> rfl
  have hs01 : s = 0 ∨ s = 1 := by omega
  obtain ⟨A, n, c, hv⟩ := h
  have H := Lib.hid hv
  cases hq : askQ (T.st s o) on with
  | none =>
    simp only
    unfold askR askE at hRa
    simp only [hq, mvC, Qs.kind, Qs.opp, Option.isSome_none, Bool.false_eq_true, if_false] at hRa
    have HRa := Lib.hid hRa
    clear hSt0 hRa hqk hqo hr hv
    rcases hs01 with rfl | rfl
    all_goals
      go_enter Tryd.func20, Tryd.ntmps20
      go_wp2_with (first
        | (go_at_call 42; refine (HSt.out _ (Only.refl _ _)).mono ?_; rintro e w1 ⟨rfl, ho1⟩; have HO1 := Lib.hid ho1; clear ho1)
        | (go_at_call 48; refine (HRa.out _).mono ?_; rintro e w2 ⟨rfl, ho2⟩; have HO2 := Lib.hid (HO1.out.trans ho2 (fun _ h => h.elim)); clear ho2)
        | fail)
      go_ret2
      exact ⟨rfl, HO2.out.alloc _⟩
  | some m =>
    obtain ⟨mq, mk⟩ := m
    simp only
    have hk := askQ_sends hq
    simp only at hk
    unfold askR askE at hRa
    simp only [hq, mvC, Option.isSome_some, ite_true, eq_self] at hRa
    have hSet0 : ∀ W T1, RfAt W B r P l T1 → B ≤ W.heap.size → Calls Tryd.prog 44 #[.pointer (some ⟨r, 0, none⟩), .int .i64 (s : Int), .int .i64 (o : Int), .agg #[.int .i64 (mq.kind : Int), .bool mq.opp]] W fun e w' =>
        e = .returned (.tuple #[]) ∧ RfAt w' B r P (rfSet l s o mq) T1 ∧ Only (· = r) W w' := fun W T1 h1 h2 => rset_any h1 h2 (by omega) s o mq
    have hTold0 : ∀ W (T1 : Tb) l1, RfAt W B r P l1 T1 → T1.sent ≤ 1000000 → Calls Tryd.prog 45 #[.pointer (some ⟨r, 0, none⟩), .int .i64 (s : Int), .int .i64 (mk : Int)] W fun e w' =>
        e = .returned (.int .i64 (toldV s mk : Int)) ∧ RfAt w' B r P l1 { T1 with sent := T1.sent + sentN mk } ∧ Only (· = r) W w' := fun W T1 l1 h1 h2 => rtold_any h1 hs hk h2
    obtain ⟨zk, hzk⟩ : ∃ x, x = (mq.kind : Int) := ⟨_, rfl⟩
    obtain ⟨zo, hzo⟩ : ∃ x, x = mq.opp := ⟨_, rfl⟩
    obtain ⟨zm, hzm⟩ : ∃ x, x = (mk : Int) := ⟨_, rfl⟩
    obtain ⟨tv, htv⟩ : ∃ x, x = (toldV s mk : Int) := ⟨_, rfl⟩
    rw [← hzk, ← hzo, ← hzm] at hRa
    rw [← hzk, ← hzo] at hSet0
    rw [← hzm, ← htv] at hTold0
    rw [← htv]
    have HRa := Lib.hid hRa
    have HSet := Lib.hid hSet0
    have HTold := Lib.hid hTold0
    have HHB := Lib.hid hB
    have HSn := Lib.hid hsn
    obtain ⟨ta, hta⟩ : ∃ x, x = T.asked := ⟨_, rfl⟩
    rw [← hta] at hak
    have HTa := Lib.hid hta
    have hrl := hv.blk.lt
    have hak2 : (ta : Int) ≤ 1000000 := by omega
    have HStep : Hid (∀ w2 ob, Only (fun _ => False) w w2 → RfAt ((w2.alloc ob).setCell ⟨r, 4, none⟩ (.int .i64 ((ta : Int) + 1))) B r P l ⟨T.st, T.heard, T.asked + 1, T.sent⟩ ∧ Only (· = r) w ((w2.alloc ob).setCell ⟨r, 4, none⟩ (.int .i64 ((ta : Int) + 1)))) := fun w2 ob ho => by
      have hb := (H.out.blk.only ho (fun h => h)).alloc ob
      have hs := (Only.refl (· = r) (w2.alloc ob)).setCell (p := ⟨r, 4, none⟩) (.inl rfl) (.int .i64 ((ta : Int) + 1))
      have h2 := hb.setCell 4 (.int .i64 ((ta : Int) + 1))
      have h3 : Only (fun _ => False) w (w2.alloc ob) := ho.alloc ob
      refine ⟨⟨A, n, c, ?_, H.out.len, own_only (own_same H.out.row h3) hs (fun k hk => own_ne (own_same H.out.row h3) hb (by decide) k hk)⟩, (h3.mono (T := (· = r)) (fun _ h => h.elim)).trans hs (fun i hi => .inl hi)⟩
      rw [← HTa.out]
      exact h2
    clear hSt0 hRa hqk hqo hr hv hSet0 hTold0 hzk hzo hzm htv hB hsn hta hk hq hn
    rcases hs01 with rfl | rfl
    all_goals
      go_enter Tryd.func20, Tryd.ntmps20
      go_wp2_with (first
        | (go_at_call 42; refine (HSt.out _ (Only.refl _ _)).mono ?_; rintro e w1 ⟨rfl, ho1⟩; have HO1 := Lib.hid ho1; clear ho1)
        | (go_at_call 48; refine (HRa.out _).mono ?_; rintro e w2 ⟨rfl, ho2⟩; have HO2 := Lib.hid (HO1.out.trans ho2 (fun _ h => h.elim)); have hb2 := H.out.blk.only HO2.out (fun h => h); have b4 : ∀ ob, (w2.alloc ob).cell? ⟨r, 4, none⟩ = some (.int .i64 (ta : Int)) := fun ob => (by rw [HTa.out]; exact (hb2.alloc ob).cell 4); have f4 := fun ob => (hb2.alloc ob).frozen 4; clear ho2 hb2)
        | (go_at_call 44; refine (HSet.out _ _ (HStep.out w2 _ HO2.out).1 (by have h1 := (HStep.out w2 (.cells #[.int .i64 zk, .bool zo, .int .i64 zm, .bool false] 106) HO2.out).2.size; have := HHB.out; exact Nat.le_trans this h1)).mono ?_; rintro e w4 ⟨rfl, hrf, ho4⟩; have hsz := HO2.out.size; have HV4 := Lib.hid (((Blk.new w2 106 [.int .i64 zk, .bool zo, .int .i64 zm, .bool false]).far (p := ⟨r, 4, none⟩) (show w2.heap.size ≠ r by omega) (.int .i64 ((ta : Int) + 1))).only ho4 (show ¬ w2.heap.size = r by omega)); have v1 := HV4.out.cell 1; have v2 := HV4.out.cell 2; simp only [List.getElem?_cons_zero, List.getElem?_cons_succ] at v1 v2; have HRf4 := Lib.hid hrf; have HO4 := Lib.hid ((HStep.out w2 _ HO2.out).2.trans ho4 (fun i hi => .inl hi)); clear hrf ho4)
        | (go_at_call 45; refine (HTold.out _ _ _ HRf4.out HSn.out).mono ?_; rintro e w5 ⟨rfl, hrf5, ho5⟩)
        | fail)
      go_ret2
      exact ⟨rfl, hrf5.turn _, HO4.out.trans ho5 (fun i hi => .inl hi)⟩
end Go.Proofs.YthbmhoeaimdjmaaDoor
