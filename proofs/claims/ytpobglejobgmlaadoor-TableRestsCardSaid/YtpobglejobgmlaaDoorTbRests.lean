/- TableRests, walked. -/
import Derived.Test.YtpobglejobgmlaaDoorTbTwo
import Derived.BigQuiet
namespace Go.Proofs.YtpobglejobgmlaaDoor
open Go Go.RowKit
set_option maxRecDepth 100000
set_option maxHeartbeats 4000000

theorem Only.setNew {a w : World} {g i : Nat} {u : Value} (h : Only (fun _ => False) a w) (hg : a.heap.size ≤ g) : Only (fun _ => False) a (w.setCell ⟨g, i, none⟩ u) := h.setCell (.inr hg) u
theorem Blk.set2 {w : World} {M : Nat} {t : TypeId} {u v : Value} (h : Blk w M t [.pointer none, .pointer none]) : Blk ((w.setCell ⟨M, 0, none⟩ u).setCell ⟨M, 1, none⟩ v) M t [u, v] := (h.setCell 0 u).setCell 1 v
theorem Blk.far2 {w : World} {g M : Nat} {t : TypeId} {cs : List Value} {u v : Value} (h : Blk w g t cs) (hne : g ≠ M) : Blk ((w.setCell ⟨M, 0, none⟩ u).setCell ⟨M, 1, none⟩ v) g t cs := (h.far hne u).far hne v
theorem TbAt.far2 {w : World} {p M : Nat} {ag : Nat → Nat → Bool} {T : Tb} {u v : Value} (h : TbAt w p ag T) (hne : p ≠ M) : TbAt ((w.setCell ⟨M, 0, none⟩ u).setCell ⟨M, 1, none⟩ v) p ag T := by
  obtain ⟨cs, hb, hc⟩ := h
  exact ⟨cs, hb.far2 hne, hc⟩
theorem TbAt.alloc {w : World} {p : Nat} {ag : Nat → Nat → Bool} {T : Tb} (h : TbAt w p ag T) (o : Obj) : TbAt (w.alloc o) p ag T := h.same (alloc_only _)
/-- Both sides, just made, in whatever order. -/
structure St0 (W0 F : World) (M s o p q : Nat) (ga gb : Nat → Nat → Bool) : Prop where
  arr : Blk F M 66 [.pointer (some ⟨s, 0, none⟩), .pointer (some ⟨o, 0, none⟩)]
  bs : Blk F s 65 [.pointer (some ⟨p, 0, none⟩), .slice none 0 0]
  bo : Blk F o 65 [.pointer (some ⟨q, 0, none⟩), .slice none 0 0]
  tp : TbAt F p ga Tb.zero
  tq : TbAt F q gb Tb.zero
  so : s ≠ o
  pq : p ≠ q
  new : W0.heap.size ≤ M ∧ W0.heap.size ≤ s ∧ W0.heap.size ≤ o ∧ W0.heap.size ≤ p ∧ W0.heap.size ≤ q
  only : Only (fun _ => False) W0 F
theorem St0.went {W0 F : World} {M s o p q : Nat} {ga gb : Nat → Nat → Bool} (h : St0 W0 F M s o p q ga gb) : Went W0 F M s o p q ga gb 0 :=
  ⟨Tb.zero, Tb.zero, [], [], h.arr, ⟨none, 0, 0, h.bs, h.tp, rfl, by omega, fun h => absurd h (by omega)⟩, ⟨none, 0, 0, h.bo, h.tq, rfl, by omega, fun h => absurd h (by omega)⟩, h.so, h.pq, h.new, h.only, Tj.zero_ok, by
    have e : Tj.pot ga gb ⟨Tb.zero.st, [], Tb.zero.st, []⟩ = 0 := Tj.zero_pot
    rw [e]
    exact Nat.le_refl _, Nat.le_refl _, Nat.le_refl _, Nat.le_refl _⟩
theorem made5 {P : Prop} {C G : Nat → Nat → Nat → Nat → Nat → World → Prop} (k : (∀ M s o p q F, C M s o p q F → G M s o p q F) → P) (h : ∀ M s o p q F, C M s o p q F → G M s o p q F) : P := k h
theorem rests_ok {W : World} (hT : TbW W) {P Q : Po} (hP : P.At W) (hQ : Q.At W) {A : Option Addr} {n c : Nat} {l : List Ac} (hA : AcAt W A n l) (h0 : n ≤ 60) (h1 : P.n1 ≤ 40) (h2 : P.n2 ≤ 40) (h3 : Q.n1 ≤ 40) (h4 : Q.n2 ≤ 40) :
    Calls Tryd.prog 5 #[P.val, Q.val, .slice A n c] W (Fine W) := by
  obtain ⟨a1, n1, c1, a2, n2, c2, us, hims⟩ := P
  obtain ⟨b1, m1, d1, b2, m2, d2, us', hims'⟩ := Q
  simp only [Po.val, Po.At] at hP hQ h1 h2 h3 h4 ⊢
  have e0 : decide ((60 : Int) < (n : Int)) = false := by simp; omega
  have e1 : decide ((40 : Int) < (n1 : Int)) = false := by simp; omega
  have e2 : decide ((40 : Int) < (n2 : Int)) = false := by simp; omega
  have e3 : decide ((40 : Int) < (m1 : Int)) = false := by simp; omega
  have e4 : decide ((40 : Int) < (m2 : Int)) = false := by simp; omega
  have HT := Lib.hid hT
  have HA := Lib.hid hA
  have HP := Lib.hid hP
  have HQ := Lib.hid hQ
  have HNew : Hid (∀ w, Only (fun _ => False) W w → Calls Tryd.prog 7 #[.agg #[.slice a1 n1 c1, .slice a2 n2 c2]] w fun e w' => ∃ p, e = .returned (.pointer (some ⟨p, 0, none⟩)) ∧ TbAt w' p (agOf us hims) Tb.zero ∧ w.heap.size ≤ p ∧ Only (fun _ => False) w w') := fun w ho =>
    new_any c1 c2 (HP.out.1.same ho) (HP.out.2.same ho) (by omega) (by omega)
  have HNew' : Hid (∀ w, Only (fun _ => False) W w → Calls Tryd.prog 7 #[.agg #[.slice b1 m1 d1, .slice b2 m2 d2]] w fun e w' => ∃ p, e = .returned (.pointer (some ⟨p, 0, none⟩)) ∧ TbAt w' p (agOf us' hims') Tb.zero ∧ w.heap.size ≤ p ∧ Only (fun _ => False) w w') := fun w ho =>
    new_any d1 d2 (HQ.out.1.same ho) (HQ.out.2.same ho) (by omega) (by omega)
  obtain ⟨ga, hga⟩ : ∃ ag, ag = agOf us hims := ⟨_, rfl⟩
  obtain ⟨gb, hgb⟩ : ∃ ag, ag = agOf us' hims' := ⟨_, rfl⟩
  rw [← hga] at HNew
  rw [← hgb] at HNew'
  have hn60 := h0
  clear hT hA hP hQ hga hgb h0 h1 h2 h3 h4
  obtain ⟨W1, hW1⟩ : ∃ W1, W1 = (W.alloc (.cells #[.slice a1 n1 c1, .slice a2 n2 c2] 24)).alloc (.cells #[.slice b1 m1 d1, .slice b2 m2 d2] 24) := ⟨_, rfl⟩
  obtain ⟨N, hN⟩ : ∃ N, N = W.heap.size := ⟨_, rfl⟩
  have HB1 : Hid (Blk W1 N 24 [.slice a1 n1 c1, .slice a2 n2 c2]) := by rw [hW1, hN]; exact (Blk.new W _ [.slice a1 n1 c1, .slice a2 n2 c2]).alloc _
  have HB2 : Hid (Blk W1 (N + 1) 24 [.slice b1 m1 d1, .slice b2 m2 d2]) := by rw [hW1, hN]; exact Blk.new' _ _ [.slice b1 m1 d1, .slice b2 m2 d2] (by simp)
  have HO1 : Hid (Only (fun _ => False) W W1) := by rw [hW1]; exact ((Only.refl _ _).alloc _).alloc _
  have HNW : Hid (W.heap.size = N) := hN.symm
  go_enter Tryd.func5, Tryd.ntmps5
  go_wp2_with (first
    | (go_at_call 6; rw [← hW1]; refine (alive_any (HT.out.only HO1.out)).mono ?_; rintro e w1 ⟨rfl, ho1⟩; have HO2 := Lib.hid (HO1.out.trans ho1 (fun _ h => h.elim)); have HB3 := Lib.hid (HB1.out.only ho1 (fun h => h)); have HB4 := Lib.hid (HB2.out.only ho1 (fun h => h)); have g0 := HB3.out.cell 0; have g1 := HB3.out.cell 1; have g2 := HB4.out.cell 0; have g3 := HB4.out.cell 1; simp only [List.getElem?_cons_zero, List.getElem?_cons_succ] at g0 g1 g2 g3; rw [hN] at g0 g1 g2 g3; clear ho1)
    | fail)
  obtain ⟨N', hN'⟩ : ∃ N', N' = N + 1 := ⟨_, rfl⟩
  rw [← hN'] at HB4
  have HS : Hid (∀ w, Only (fun _ => False) w1 w → (w.cell? ⟨N, 0, none⟩ = some (.slice a1 n1 c1) ∧ w.cell? ⟨N, 1, none⟩ = some (.slice a2 n2 c2)) ∧ w.cell? ⟨N', 0, none⟩ = some (.slice b1 m1 d1) ∧ w.cell? ⟨N', 1, none⟩ = some (.slice b2 m2 d2)) := fun w ho => ⟨⟨(HB3.out.only ho (fun h => h)).cell 0, (HB3.out.only ho (fun h => h)).cell 1⟩, (HB4.out.only ho (fun h => h)).cell 0, (HB4.out.only ho (fun h => h)).cell 1⟩
  rw [← hN, ← hN']
  clear g0 g1 g2 g3 hN hN' hW1
  have hzW : W.heap.size ≤ w1.heap.size := HO2.out.size
  apply made5 (C := fun M s o p q F => Hid (St0 W F M s o p q ga gb))
  case k =>
    intro key
    go_region_held3 (fun w => (w.cell? ⟨N, 0, none⟩ = some (.slice a1 n1 c1) ∧ w.cell? ⟨N, 1, none⟩ = some (.slice a2 n2 c2)) ∧ w.cell? ⟨N', 0, none⟩ = some (.slice b1 m1 d1) ∧ w.cell? ⟨N', 1, none⟩ = some (.slice b2 m2 d2))
      (first | (refine HS.out _ ?_; repeat (first | (with_reducible exact Only.refl _ _) | (with_reducible exact HOb.out) | (with_reducible exact HOa.out) | (with_reducible refine Only.alloc ?_ _) | (with_reducible refine Only.drew ?_) | ((with_reducible refine Only.setNew ?_ ?_); rotate_left; first | exact Nat.le_refl _ | omega))))
      (first
        | ((with_reducible show Calls _ _ #[.agg #[.slice a1 n1 c1, .slice a2 n2 c2]] (World.drew w1) _); refine (HNew.out _ (HO2.out.trans (T := fun _ => False) (by repeat (first | exact Only.refl _ _ | refine Only.alloc ?_ _ | refine Only.drew ?_)) (fun _ h => h.elim))).mono ?_; rintro e w2 ⟨p, rfl, ht2, hp2, ho⟩; have HOa : Hid (Only (fun _ => False) w1 w2) := Only.trans (T := fun _ => False) (by repeat (first | exact Only.refl _ _ | refine Only.alloc ?_ _ | refine Only.drew ?_)) ho (fun _ h => h.elim); have HT2 := Lib.hid ht2; have hz2 := HOa.out.size; have hpl := ht2.lt; (try simp at hp2); clear ht2 ho)
        | ((with_reducible show Calls _ _ #[.agg #[.slice a1 n1 c1, .slice a2 n2 c2]] _ _); refine (HNew.out _ (HO2.out.trans (T := fun _ => False) (by repeat (first | exact Only.refl _ _ | refine Only.alloc ?_ _ | refine Only.drew ?_)) (fun _ h => h.elim))).mono ?_; rintro e w2 ⟨p, rfl, ht2, hp2, ho⟩; have HOa : Hid (Only (fun _ => False) w1 w2) := Only.trans (T := fun _ => False) (by repeat (first | exact Only.refl _ _ | refine Only.alloc ?_ _ | refine Only.drew ?_)) ho (fun _ h => h.elim); have HT2 := Lib.hid ht2; have HM2 := Lib.hid ((Blk.new w1 66 [.pointer none, .pointer none]).drew.only ho (fun h => h)); have hz2 := HM2.out.lt; have hpl := ht2.lt; (try simp at hp2); clear ht2 ho)
        | ((with_reducible show Calls _ _ #[.agg #[.slice b1 m1 d1, .slice b2 m2 d2]] _ _); refine (HNew'.out _ (HO2.out.trans (T := fun _ => False) (by repeat (first | exact HOa.out | refine Only.alloc ?_ _ | refine Only.drew ?_)) (fun _ h => h.elim))).mono ?_; rintro e w3 ⟨q, rfl, ht3, hq3, ho⟩; have HOb : Hid (Only (fun _ => False) w1 w3) := Only.trans (T := fun _ => False) (by repeat (first | exact HOa.out | refine Only.alloc ?_ _ | refine Only.drew ?_)) ho (fun _ h => h.elim); have HOc : Hid (Only (fun _ => False) w2 w3) := Only.trans (T := fun _ => False) (by repeat (first | exact Only.refl _ _ | refine Only.alloc ?_ _ | refine Only.drew ?_)) ho (fun _ h => h.elim); have HT3 := Lib.hid ht3; have HTp := Lib.hid (HT2.out.same HOc.out); have hz3 := ho.size; have hql := ht3.lt; (try simp at hz3); (try simp at hq3); (first | (have HSd : Hid (Blk w3 w2.heap.size 65 [.pointer (some ⟨p, 0, none⟩), .slice none 0 0]) := Blk.only (Blk.new w2 _ [.pointer (some ⟨p, 0, none⟩), .slice none 0 0]) ho (fun h => h)) | (have HSd : Hid (Blk w3 w2.heap.size 65 [.pointer (some ⟨p, 0, none⟩), .slice none 0 0]) := Blk.only ((Blk.new w2 _ [.pointer (some ⟨p, 0, none⟩), .slice none 0 0]).alloc _) ho (fun h => h)) | (have HSd : Hid (Blk w3 (w2.heap.size + 1) 65 [.pointer (some ⟨p, 0, none⟩), .slice none 0 0]) := Blk.only (Blk.new' (w2.alloc (.cells #[.pointer none, .pointer none] 66)) _ [.pointer (some ⟨p, 0, none⟩), .slice none 0 0] (by simp)) ho (fun h => h)) | skip);
            first
              | (have HM3 := Lib.hid (HM2.out.only HOc.out (fun h => h)); have z0 : w3.cell? ⟨w1.heap.size, 0, none⟩ = some (.pointer none) := HM3.out.cell 0; have z1 : w3.cell? ⟨w1.heap.size, 1, none⟩ = some (.pointer none) := HM3.out.cell 1; have f0 := HM3.out.frozen 0; have f1 := HM3.out.frozen 1; have y0 : ∀ ob, (w3.alloc ob).cell? ⟨w1.heap.size, 0, none⟩ = some (.pointer none) := fun ob => (HM3.out.alloc ob).cell 0; have y1 : ∀ ob, (w3.alloc ob).cell? ⟨w1.heap.size, 1, none⟩ = some (.pointer none) := fun ob => (HM3.out.alloc ob).cell 1; have e0 := fun ob => (HM3.out.alloc ob).frozen 0; have e1 := fun ob => (HM3.out.alloc ob).frozen 1; have x0 : ∀ ob ob', ((w3.alloc ob).alloc ob').cell? ⟨w1.heap.size, 0, none⟩ = some (.pointer none) := fun ob ob' => ((HM3.out.alloc ob).alloc ob').cell 0; have x1 : ∀ ob ob', ((w3.alloc ob).alloc ob').cell? ⟨w1.heap.size, 1, none⟩ = some (.pointer none) := fun ob ob' => ((HM3.out.alloc ob).alloc ob').cell 1; have d0 := fun ob ob' => ((HM3.out.alloc ob).alloc ob').frozen 0; have d1 := fun ob ob' => ((HM3.out.alloc ob).alloc ob').frozen 1)
              | (have HM3 : Hid (Blk w3 w2.heap.size 66 [.pointer none, .pointer none]) := Blk.only (Blk.new w2 _ [.pointer none, .pointer none]) ho (fun h => h); have z0 : w3.cell? ⟨w2.heap.size, 0, none⟩ = some (.pointer none) := HM3.out.cell 0; have z1 : w3.cell? ⟨w2.heap.size, 1, none⟩ = some (.pointer none) := HM3.out.cell 1; have f0 := HM3.out.frozen 0; have f1 := HM3.out.frozen 1; have y0 : ∀ ob, (w3.alloc ob).cell? ⟨w2.heap.size, 0, none⟩ = some (.pointer none) := fun ob => (HM3.out.alloc ob).cell 0; have y1 : ∀ ob, (w3.alloc ob).cell? ⟨w2.heap.size, 1, none⟩ = some (.pointer none) := fun ob => (HM3.out.alloc ob).cell 1; have e0 := fun ob => (HM3.out.alloc ob).frozen 0; have e1 := fun ob => (HM3.out.alloc ob).frozen 1; have x0 : ∀ ob ob', ((w3.alloc ob).alloc ob').cell? ⟨w2.heap.size, 0, none⟩ = some (.pointer none) := fun ob ob' => ((HM3.out.alloc ob).alloc ob').cell 0; have x1 : ∀ ob ob', ((w3.alloc ob).alloc ob').cell? ⟨w2.heap.size, 1, none⟩ = some (.pointer none) := fun ob ob' => ((HM3.out.alloc ob).alloc ob').cell 1; have d0 := fun ob ob' => ((HM3.out.alloc ob).alloc ob').frozen 0; have d1 := fun ob ob' => ((HM3.out.alloc ob).alloc ob').frozen 1)
              | (have HM3 : Hid (Blk w3 w2.heap.size 66 [.pointer none, .pointer none]) := Blk.only ((Blk.new w2 _ [.pointer none, .pointer none]).alloc _) ho (fun h => h); have z0 : w3.cell? ⟨w2.heap.size, 0, none⟩ = some (.pointer none) := HM3.out.cell 0; have z1 : w3.cell? ⟨w2.heap.size, 1, none⟩ = some (.pointer none) := HM3.out.cell 1; have f0 := HM3.out.frozen 0; have f1 := HM3.out.frozen 1; have y0 : ∀ ob, (w3.alloc ob).cell? ⟨w2.heap.size, 0, none⟩ = some (.pointer none) := fun ob => (HM3.out.alloc ob).cell 0; have y1 : ∀ ob, (w3.alloc ob).cell? ⟨w2.heap.size, 1, none⟩ = some (.pointer none) := fun ob => (HM3.out.alloc ob).cell 1; have e0 := fun ob => (HM3.out.alloc ob).frozen 0; have e1 := fun ob => (HM3.out.alloc ob).frozen 1; have x0 : ∀ ob ob', ((w3.alloc ob).alloc ob').cell? ⟨w2.heap.size, 0, none⟩ = some (.pointer none) := fun ob ob' => ((HM3.out.alloc ob).alloc ob').cell 0; have x1 : ∀ ob ob', ((w3.alloc ob).alloc ob').cell? ⟨w2.heap.size, 1, none⟩ = some (.pointer none) := fun ob ob' => ((HM3.out.alloc ob).alloc ob').cell 1; have d0 := fun ob ob' => ((HM3.out.alloc ob).alloc ob').frozen 0; have d1 := fun ob ob' => ((HM3.out.alloc ob).alloc ob').frozen 1)
              | (have HM3 : Hid (Blk w3 (w2.heap.size + 1) 66 [.pointer none, .pointer none]) := Blk.only (Blk.new' (w2.alloc (.cells #[.pointer (some ⟨p, 0, none⟩), .slice none 0 0] 65)) _ [.pointer none, .pointer none] (by simp)) ho (fun h => h); have z0 : w3.cell? ⟨w2.heap.size + 1, 0, none⟩ = some (.pointer none) := HM3.out.cell 0; have z1 : w3.cell? ⟨w2.heap.size + 1, 1, none⟩ = some (.pointer none) := HM3.out.cell 1; have f0 := HM3.out.frozen 0; have f1 := HM3.out.frozen 1; have y0 : ∀ ob, (w3.alloc ob).cell? ⟨w2.heap.size + 1, 0, none⟩ = some (.pointer none) := fun ob => (HM3.out.alloc ob).cell 0; have y1 : ∀ ob, (w3.alloc ob).cell? ⟨w2.heap.size + 1, 1, none⟩ = some (.pointer none) := fun ob => (HM3.out.alloc ob).cell 1; have e0 := fun ob => (HM3.out.alloc ob).frozen 0; have e1 := fun ob => (HM3.out.alloc ob).frozen 1; have x0 : ∀ ob ob', ((w3.alloc ob).alloc ob').cell? ⟨w2.heap.size + 1, 0, none⟩ = some (.pointer none) := fun ob ob' => ((HM3.out.alloc ob).alloc ob').cell 0; have x1 : ∀ ob ob', ((w3.alloc ob).alloc ob').cell? ⟨w2.heap.size + 1, 1, none⟩ = some (.pointer none) := fun ob ob' => ((HM3.out.alloc ob).alloc ob').cell 1; have d0 := fun ob ob' => ((HM3.out.alloc ob).alloc ob').frozen 0; have d1 := fun ob ob' => ((HM3.out.alloc ob).alloc ob').frozen 1)
              | skip; clear ht3 ho))
    all_goals (first
      | (obtain ⟨F, hF⟩ : ∃ F, F = (w3.alloc (.cells #[.pointer (some ⟨q, 0, none⟩), .slice none 0 0] 65)).alloc (.cells #[.pointer (some ⟨w2.heap.size, 0, none⟩), .pointer (some ⟨w3.heap.size, 0, none⟩)] 66) := ⟨_, rfl⟩
         have H0 : Hid (St0 W F (w3.heap.size + 1) w2.heap.size w3.heap.size p q ga gb) := by
           rw [hF]
           refine ⟨?_, ?_, ?_, ?_, ?_, ?_, ?_, ⟨?_, ?_, ?_, ?_, ?_⟩, ?_⟩
           · (repeat (first | (with_reducible exact HM3.out) | (with_reducible exact HSd.out) | ((refine Blk.new' _ _ _ ?_); first | rfl | (simp; done)) | (with_reducible refine Blk.alloc ?_ _) | (with_reducible refine Blk.set2 ?_) | ((with_reducible refine Blk.far2 ?_ ?_); rotate_left; omega)))
           · (repeat (first | (with_reducible exact HM3.out) | (with_reducible exact HSd.out) | ((refine Blk.new' _ _ _ ?_); first | rfl | (simp; done)) | (with_reducible refine Blk.alloc ?_ _) | (with_reducible refine Blk.set2 ?_) | ((with_reducible refine Blk.far2 ?_ ?_); rotate_left; omega)))
           · (repeat (first | (with_reducible exact HM3.out) | (with_reducible exact HSd.out) | ((refine Blk.new' _ _ _ ?_); first | rfl | (simp; done)) | (with_reducible refine Blk.alloc ?_ _) | (with_reducible refine Blk.set2 ?_) | ((with_reducible refine Blk.far2 ?_ ?_); rotate_left; omega)))
           · (repeat (first | (with_reducible exact HT3.out) | (with_reducible exact HTp.out) | (with_reducible refine TbAt.alloc ?_ _) | ((with_reducible refine TbAt.far2 ?_ ?_); rotate_left; omega)))
           · (repeat (first | (with_reducible exact HT3.out) | (with_reducible exact HTp.out) | (with_reducible refine TbAt.alloc ?_ _) | ((with_reducible refine TbAt.far2 ?_ ?_); rotate_left; omega)))
           · omega
           · omega
           · omega
           · omega
           · omega
           · omega
           · omega
           · (refine Only.trans (T := fun _ => False) HO2.out ?_ (fun _ h => h.elim); repeat (first | (with_reducible exact HOb.out) | (with_reducible refine Only.alloc ?_ _) | (with_reducible refine Only.drew ?_) | ((with_reducible refine Only.setNew ?_ ?_); rotate_left; first | exact Nat.le_refl _ | omega)))
         rw [← hF]
         obtain ⟨M, hM⟩ : ∃ M, M = w3.heap.size + 1 := ⟨_, rfl⟩
         rw [← hM] at H0 ⊢
         obtain ⟨s, hs⟩ : ∃ s, s = w2.heap.size := ⟨_, rfl⟩
         rw [← hs] at H0 ⊢
         obtain ⟨o, ho⟩ : ∃ o, o = w3.heap.size := ⟨_, rfl⟩
         rw [← ho] at H0 ⊢
         exact key M s o p q F H0)
      | (refine key _ _ _ _ _ _ ?_
         refine ⟨?_, ?_, ?_, ?_, ?_, ?_, ?_, ⟨?_, ?_, ?_, ?_, ?_⟩, ?_⟩
         · (repeat (first | (with_reducible exact HM3.out) | (with_reducible exact HSd.out) | ((refine Blk.new' _ _ _ ?_); first | rfl | (simp; done)) | (with_reducible refine Blk.alloc ?_ _) | (with_reducible refine Blk.set2 ?_) | ((with_reducible refine Blk.far2 ?_ ?_); rotate_left; omega)))
         · (repeat (first | (with_reducible exact HM3.out) | (with_reducible exact HSd.out) | ((refine Blk.new' _ _ _ ?_); first | rfl | (simp; done)) | (with_reducible refine Blk.alloc ?_ _) | (with_reducible refine Blk.set2 ?_) | ((with_reducible refine Blk.far2 ?_ ?_); rotate_left; omega)))
         · (repeat (first | (with_reducible exact HM3.out) | (with_reducible exact HSd.out) | ((refine Blk.new' _ _ _ ?_); first | rfl | (simp; done)) | (with_reducible refine Blk.alloc ?_ _) | (with_reducible refine Blk.set2 ?_) | ((with_reducible refine Blk.far2 ?_ ?_); rotate_left; omega)))
         · (repeat (first | (with_reducible exact HT3.out) | (with_reducible exact HTp.out) | (with_reducible refine TbAt.alloc ?_ _) | ((with_reducible refine TbAt.far2 ?_ ?_); rotate_left; omega)))
         · (repeat (first | (with_reducible exact HT3.out) | (with_reducible exact HTp.out) | (with_reducible refine TbAt.alloc ?_ _) | ((with_reducible refine TbAt.far2 ?_ ?_); rotate_left; omega)))
         · omega
         · omega
         · omega
         · omega
         · omega
         · omega
         · omega
         · (refine Only.trans (T := fun _ => False) HO2.out ?_ (fun _ h => h.elim); repeat (first | (with_reducible exact HOb.out) | (with_reducible refine Only.alloc ?_ _) | (with_reducible refine Only.drew ?_) | ((with_reducible refine Only.setNew ?_ ?_); rotate_left; first | exact Nat.le_refl _ | omega)))))
  case h =>
    intro M s o p q F H0
    have HW0 := Lib.hid H0.out.went
    have m0 := H0.out.arr.cell 0
    have m1 := H0.out.arr.cell 1
    have s0 := H0.out.bs.cell 0
    have o0 := H0.out.bo.cell 0
    simp only [List.getElem?_cons_zero, List.getElem?_cons_succ] at m0 m1 s0 o0
    go_wp2
    clear m0 m1 s0 o0 H0
    go_loopw [72] (fun i w => ∃ j : Nat, j ≤ n ∧ i = .int .i64 (j : Int) ∧ Hid (Went W w M s o p q ga gb j)) (fun i _ => n - (intOf i).toNat)
    case atStart => exact ⟨0, by omega, rfl, HW0.out⟩
    case round =>
      clear HW0
      obtain ⟨j, hj, rfl, hrel⟩ := hrel
      by_cases hjn : j < n
      · obtain ⟨x, hx⟩ : ∃ x, l[j]? = some x := ⟨_, List.getElem?_eq_getElem (by rw [HA.out.1]; exact hjn)⟩
        obtain ⟨T, U, l1, l2, hTw⟩ := hrel.out
        obtain ⟨b, off, rfl, hb, hrange, hsm1, hsm2, hsm3⟩ := (HA.out.same hTw.only).2 j x hx
        have hjn2 : (j : Int) < (n : Int) := by omega
        obtain ⟨k, c0, op⟩ := x
        obtain ⟨i, hi, hi2⟩ := and_one c0
        obtain ⟨d, hd, hd2⟩ := and_one (c0 / 2)
        obtain ⟨i', own, oth, tb, n3, A3, c3, hSel⟩ := hTw.sel HT.out (by omega) (i := i) hi2 (d := (d : Int)) (op := op) (by omega)
        have HSel := Lib.hid hSel
        have hii := hSel.idx
        have hi2' : (i : Int) < 2 := by omega
        have hi3' : (i' : Int) < 2 := by have := hSel.lt; omega
        have hrg : wr.rangeAt b (off + j * 3) [.int .i64 k, .int .i64 c0, .int .i64 op] := hrange
        have HRg := Lib.hid hrg
        clear hx hrange hrg hTw hSel
        go_wp2_with (first
          | ((with_reducible show wpList _ _ _ (⟨some 75, _, _, _, _, _⟩ :: _) _ _); refine wpList_load_mid rfl 34 _ rfl b (off + j * 3) rfl [.int .i64 k, .int .i64 c0, .int .i64 op] _ HRg.out Tryd.underlying34 rfl (by kernel_rfl) ?_)
          | fail)
        obtain ⟨N2, hN2⟩ : ∃ N2, N2 = wr.heap.size := ⟨_, rfl⟩
        obtain ⟨W2, hW2⟩ : ∃ W2, W2 = wr.alloc (.cells #[.int .i64 k, .int .i64 c0, .int .i64 op] 34) := ⟨_, rfl⟩
        have hW02 : Only (fun _ => False) wr W2 := by rw [hW2]; exact alloc_only _
        have hbk : Blk W2 N2 34 [.int .i64 k, .int .i64 c0, .int .i64 op] := by rw [hW2, hN2]; exact Blk.new wr _ [.int .i64 k, .int .i64 c0, .int .i64 op]
        have hNt : N2 ≠ tb := by have := HSel.out.tlt; omega
        have HW02 := Lib.hid hW02
        have HRd : Hid (∀ w, Only (fun i => i = tb) W2 w → (w.cell? ⟨N2, 0, none⟩ = some (.int .i64 k) ∧ w.cell? ⟨N2, 1, none⟩ = some (.int .i64 c0)) ∧ w.cell? ⟨N2, 2, none⟩ = some (.int .i64 op)) := fun w ho =>
          ⟨⟨(hbk.only ho hNt).cell 0, (hbk.only ho hNt).cell 1⟩, (hbk.only ho hNt).cell 2⟩
        rw [← hN2, ← hW2]
        obtain ⟨⟨y0, y1⟩, y2⟩ := HRd.out W2 (Only.refl _ _)
        obtain ⟨⟨x0, x1⟩, x2, x3⟩ := HSel.out.cells W2 HW02.out
        clear hN2 hW2 hW02 hbk
        go_quiet (fail)
        have HS3 : Hid (∀ w, Only (fun _ => False) (W2.drewN nq) w → Only (fun _ => False) wr w) := fun w ho => (HW02.out.drewN nq).trans ho (fun _ h => h.elim)
        have HRd3 : Hid (∀ w, Only (fun i => i = tb) (W2.drewN nq) w → ((w.cell? ⟨N2, 0, none⟩ = some (.int .i64 k) ∧ w.cell? ⟨N2, 1, none⟩ = some (.int .i64 c0)) ∧ w.cell? ⟨N2, 2, none⟩ = some (.int .i64 op)) ∧ w.cell? ⟨own, 0, none⟩ = some (.pointer (some ⟨tb, 0, none⟩))) := fun w ho =>
          ⟨HRd.out w (((Only.refl (fun i => i = tb) W2).drewN nq).trans ho (fun _ h => .inl h)), ho.cellv (HSel.out.cells _ (HW02.out.drewN nq)).2.1 (fun h => HSel.out.tbne.1 h.symm)⟩
        obtain ⟨W3, hW3⟩ : ∃ W3, W3 = W2.drewN nq := ⟨_, rfl⟩
        rw [← hW3] at HS3 HRd3 ⊢
        clear hW3 y0 y1 y2 x0 x1 x2 x3 HRd
        obtain ⟨⟨⟨y0, y1⟩, y2⟩, x2⟩ := HRd3.out W3 (Only.refl _ _)
        obtain ⟨_, _, x3⟩ := HSel.out.cells W3 (HS3.out _ (Only.refl _ _))
        have HEnd : Hid (∀ w, Only (fun _ => False) W3 w → Went W w M s o p q ga gb (j + 1)) := fun w ho => (hrel.out.same (HS3.out w ho)).later (by omega)
        clear hrel
        by_cases hk0 : k = 0
        · subst hk0
          by_cases hn3 : n3 = 0
          · subst hn3
            go_wp2
            go_roundw
            case rel => exact ⟨j + 1, by omega, by go_num, HEnd.out _ (Only.refl _ _)⟩
            case measure => simp [intOf]; omega
          · have h3 : (0 : Int) < (n3 : Int) := by omega
            have HHr := Lib.hid (HSel.out.hears (by omega))
            go_wp2_with (first
              | (go_at_call 23; refine (HHr.out _ (HS3.out _ (Only.refl _ _))).mono ?_; rintro e w9 ⟨rfl, hw9⟩)
              | fail)
            go_roundw
            case rel => exact ⟨j + 1, by omega, by go_num, hw9.out⟩
            case measure => simp [intOf]; omega
        · have e5 : (k == 0) = false := by simpa using hk0
          have e5' : decide (k = 0) = false := by simpa using hk0
          clear hk0
          by_cases hk12 : k = 1 ∨ k = 2
          · obtain ⟨on, e6, e6', e7, e7'⟩ : ∃ on : Bool, (k == 1) = on ∧ decide (k = 1) = on ∧ (k == 2) = !on ∧ decide (k = 2) = !on := by
              rcases hk12 with rfl | rfl
              · exact ⟨true, rfl, rfl, rfl, rfl⟩
              · exact ⟨false, rfl, rfl, rfl, rfl⟩
            clear hk12
            have hAsk := HSel.out.asks on
            rcases hAsk with ⟨tv, HA1⟩ | HA1
            · cases on
              all_goals
                simp only [Bool.not_true, Bool.not_false] at e7 e7'
                go_wp2
                go_region_held3 (fun w => ((w.cell? ⟨N2, 0, none⟩ = some (.int .i64 k) ∧ w.cell? ⟨N2, 1, none⟩ = some (.int .i64 c0)) ∧ w.cell? ⟨N2, 2, none⟩ = some (.int .i64 op)) ∧ w.cell? ⟨own, 0, none⟩ = some (.pointer (some ⟨tb, 0, none⟩)))
                  (first | exact HRd3.out _ (Only.refl _ _).drew | exact HRd3.out _ ho5.out)
                  (first
                    | (go_at_call 11; refine (HA1.out _ (HS3.out _ (Only.refl _ _).drew)).mono ?_; rintro e w5 ⟨rfl, ho, hsend⟩; have ho5 := Lib.hid (((Only.refl (fun i => i = tb) W3).drew).trans ho (fun _ h => .inl h)); clear ho))
                clear y0 y1 y2 x2 x3
                obtain ⟨⟨⟨y0, y1⟩, y2⟩, x2⟩ := HRd3.out w5 ho5.out
                go_wp2_with (first
                  | (go_at_call 24; refine (hsend.out _ (Only.refl _ _)).mono ?_; rintro e w6 ⟨rfl, hw6⟩)
                  | fail)
                go_roundw
                case rel => exact ⟨j + 1, by omega, by go_num, hw6.out⟩
                case measure => simp [intOf]; omega
            · cases on
              all_goals
                simp only [Bool.not_true, Bool.not_false] at e7 e7'
                go_wp2
                go_region_held3 (fun w => ((w.cell? ⟨N2, 0, none⟩ = some (.int .i64 k) ∧ w.cell? ⟨N2, 1, none⟩ = some (.int .i64 c0)) ∧ w.cell? ⟨N2, 2, none⟩ = some (.int .i64 op)) ∧ w.cell? ⟨own, 0, none⟩ = some (.pointer (some ⟨tb, 0, none⟩)))
                  (first | exact HRd3.out _ (Only.refl _ _).drew | exact HRd3.out _ (ho5.out.mono (fun _ h => h.elim)))
                  (first
                    | (go_at_call 11; refine (HA1.out _ (HS3.out _ (Only.refl _ _).drew)).mono ?_; rintro e w5 ⟨⟨eu, ev, rfl⟩, ho⟩; have ho5 := Lib.hid (((Only.refl (fun _ => False) W3).drew).trans ho (fun _ h => h.elim)); clear ho))
                go_wp2
                go_roundw
                case rel => exact ⟨j + 1, by omega, by go_num, HEnd.out _ ho5.out⟩
                case measure => simp [intOf]; omega
          · have e6 : (k == 1) = false := by simp; omega
            have e6' : decide (k = 1) = false := by simp; omega
            have e7 : (k == 2) = false := by simp; omega
            have e7' : decide (k = 2) = false := by simp; omega
            clear hk12
            go_wp2
            go_roundw
            case rel => exact ⟨j + 1, by omega, by go_num, HEnd.out _ (Only.refl _ _)⟩
            case measure => simp [intOf]; omega
      · obtain rfl : j = n := by omega
        obtain ⟨W1', hW1'⟩ : ∃ W1', W1' = wr := ⟨_, rfl⟩
        subst hW1'
        have HR1 := hrel
        clear hrel hjn hj
        go_wp2
        go_loopw [14] (fun tv w => ∃ j2 : Nat, tv = .int .i64 (j2 : Int) ∧ j2 ≤ 2 * j ∧ Hid (∃ T U l m, Tw W w M s o p q ga gb j T U l m ∧ ∃ P, P = Tj.pot ga gb ⟨T.st, l, U.st, m⟩ ∧ j2 + P ≤ 2 * j)) (fun tv _ => 2 * j + 1 - (intOf tv).toNat)
        case atStart =>
          obtain ⟨T, U, l1, l2, hTw⟩ := HR1.out
          have hp := hTw.pot
          obtain ⟨P1, hP1⟩ : ∃ P1, P1 = Tj.pot ga gb ⟨T.st, l1, U.st, l2⟩ := ⟨_, rfl⟩
          rw [← hP1] at hp
          exact ⟨0, rfl, by omega, T, U, l1, l2, hTw, P1, hP1, by omega⟩
        case round =>
          clear HR1
          obtain ⟨j2, rfl, hj2, hrel⟩ := hrel
          obtain ⟨T, U, l1, l2, hTw, P1, hP1, hpj⟩ := hrel.out
          obtain ⟨n3, n4, A3, A4, c3, c4, hcells, hl1, hl2⟩ := hTw.cells
          have HTw := Lib.hid hTw
          have HP1 := Lib.hid hP1
          have HL1 := Lib.hid hl1
          have HL2 := Lib.hid hl2
          have HC : Hid (∀ w, Only (fun _ => False) wr w → (w.cell? ⟨M, 0, none⟩ = some (.pointer (some ⟨s, 0, none⟩)) ∧ w.cell? ⟨M, 1, none⟩ = some (.pointer (some ⟨o, 0, none⟩))) ∧ w.cell? ⟨s, 0, none⟩ = some (.pointer (some ⟨p, 0, none⟩)) ∧ w.cell? ⟨o, 0, none⟩ = some (.pointer (some ⟨q, 0, none⟩))) := fun w ho =>
            ⟨⟨ho.cellv hcells.1.1 (fun h => h), ho.cellv hcells.1.2 (fun h => h)⟩, ho.cellv hcells.2.1.1 (fun h => h), ho.cellv hcells.2.2.1 (fun h => h)⟩
          obtain ⟨⟨x0, x1⟩, ⟨x2, x3⟩, x4, x5⟩ := hcells
          clear hTw hP1 hl1 hl2 hrel
          by_cases h00 : n3 = 0 ∧ n4 = 0
          · obtain ⟨rfl, rfl⟩ := h00
            go_wp2
            go_quiet (fail)
            have hrst := HTw.out.rests HL1.out HL2.out
            obtain ⟨W3, hW3⟩ : ∃ W3, W3 = wr.drewN nq := ⟨_, rfl⟩
            have HTw3 : Hid (Tw W W3 M s o p q ga gb j T U l1 l2) := by rw [hW3]; exact HTw.out.same ((Only.refl _ _).drewN _)
            have HC3 : Hid (∀ w, Only (fun _ => False) W3 w → (w.cell? ⟨M, 0, none⟩ = some (.pointer (some ⟨s, 0, none⟩)) ∧ w.cell? ⟨M, 1, none⟩ = some (.pointer (some ⟨o, 0, none⟩))) ∧ w.cell? ⟨s, 0, none⟩ = some (.pointer (some ⟨p, 0, none⟩)) ∧ w.cell? ⟨o, 0, none⟩ = some (.pointer (some ⟨q, 0, none⟩))) := by
              rw [hW3]
              exact fun w ho => HC.out w (((Only.refl (fun _ => False) wr).drewN nq).trans ho (fun _ h => h.elim))
            rw [← hW3]
            have HCa : Hid (calmT T.st = true) := calmT_iff.2 hrst.1
            have HCb : Hid (calmT U.st = true) := calmT_iff.2 hrst.2.1
            have HSa := Lib.hid hrst.2.2
            clear hW3 HC HTw x0 x1 x2 x3 x4 x5 hrst HL1 HL2 hpj HP1
            obtain ⟨Wb, hWb⟩ : ∃ Wb, Wb = wr := ⟨_, rfl⟩
            subst hWb
            go_wp2
            go_loopw [177] (fun iv w => ∃ i : Nat, iv = .int .i64 (i : Int) ∧ i ≤ 256 ∧ Hid (Only (fun _ => False) W3 w)) (fun iv _ => 256 - (intOf iv).toNat)
            case atStart => exact ⟨0, rfl, by omega, Only.refl _ _⟩
            case round =>
              obtain ⟨i, rfl, hi, hrel⟩ := hrel
              by_cases hi2 : i < 256
              · have hi2' : (i : Int) < 256 := by omega
                obtain ⟨k0, hk0⟩ : ∃ x, x = ((T.st 0 i).kind : Int) := ⟨_, rfl⟩
                obtain ⟨q0, hq0⟩ : ∃ x, x = (T.st 0 i).opp := ⟨_, rfl⟩
                obtain ⟨k1, hk1⟩ : ∃ x, x = ((U.st 0 i).kind : Int) := ⟨_, rfl⟩
                obtain ⟨q1, hq1⟩ : ∃ x, x = (U.st 0 i).opp := ⟨_, rfl⟩
                have g0 := HSa.out 0 i (by omega) hi2
                have g1 := HSa.out 1 i (by omega) hi2
                have S1 : Hid (∀ w, Only (fun _ => False) W3 w → Calls Tryd.prog 16 #[.pointer (some ⟨p, 0, none⟩), .int .i64 0, .int .i64 (i : Int)] w fun e w' => e = .returned (.agg #[.int .i64 k0, .bool q0]) ∧ Only (fun _ => False) w w') := fun w ho => by
                  rw [hk0, hq0]; exact state_in (s := 0) (HTw3.out.x.tab.same ho) (by omega) hi2
                have S2 : Hid (∀ w, Only (fun _ => False) W3 w → Calls Tryd.prog 16 #[.pointer (some ⟨q, 0, none⟩), .int .i64 1, .int .i64 (i : Int)] w fun e w' => e = .returned (.agg #[.int .i64 k0, .bool q0]) ∧ Only (fun _ => False) w w') := fun w ho => by
                  rw [hk0, hq0, g0]; exact state_in (s := 1) (HTw3.out.y.tab.same ho) (by omega) hi2
                have S3 : Hid (∀ w, Only (fun _ => False) W3 w → Calls Tryd.prog 16 #[.pointer (some ⟨q, 0, none⟩), .int .i64 0, .int .i64 (i : Int)] w fun e w' => e = .returned (.agg #[.int .i64 k1, .bool q1]) ∧ Only (fun _ => False) w w') := fun w ho => by
                  rw [hk1, hq1]; exact state_in (s := 0) (HTw3.out.y.tab.same ho) (by omega) hi2
                have S4 : Hid (∀ w, Only (fun _ => False) W3 w → Calls Tryd.prog 16 #[.pointer (some ⟨p, 0, none⟩), .int .i64 1, .int .i64 (i : Int)] w fun e w' => e = .returned (.agg #[.int .i64 k1, .bool q1]) ∧ Only (fun _ => False) w w') := fun w ho => by
                  rw [hk1, hq1, ← (show T.st 1 i = U.st 0 i from g1)]; exact state_in (s := 1) (HTw3.out.x.tab.same ho) (by omega) hi2
                have heq0 : ∀ W, (Op.equalIn 10000 53 (.agg #[.int .i64 k0, .bool q0]) (.agg #[.int .i64 k0, .bool q0])).run Tryd.prog W = .ok true W := fun W => by
                  have := eq_state W k0 k0 q0 q0
                  rwa [decide_eq_true ⟨rfl, rfl⟩] at this
                have heq1 : ∀ W, (Op.equalIn 10000 53 (.agg #[.int .i64 k1, .bool q1]) (.agg #[.int .i64 k1, .bool q1])).run Tryd.prog W = .ok true W := fun W => by
                  have := eq_state W k1 k1 q1 q1
                  rwa [decide_eq_true ⟨rfl, rfl⟩] at this
                have hgr := guard_state
                clear hk0 hq0 hk1 hq1 g0 g1
                go_wp2
                go_region_held3 (fun w => (w.cell? ⟨M, 0, none⟩ = some (.pointer (some ⟨s, 0, none⟩)) ∧ w.cell? ⟨M, 1, none⟩ = some (.pointer (some ⟨o, 0, none⟩))) ∧ w.cell? ⟨s, 0, none⟩ = some (.pointer (some ⟨p, 0, none⟩)) ∧ w.cell? ⟨o, 0, none⟩ = some (.pointer (some ⟨q, 0, none⟩)))
                  (first | exact HC3.out _ hrel.out.drew | exact HC3.out _ ho7.out | exact HC3.out _ ho8.out | exact HC3.out _ ho9.out | exact HC3.out _ ho10.out)
                  (first
                    | ((with_reducible show Calls _ _ #[.pointer (some ⟨p, 0, none⟩), .int .i64 0, _] _ _); refine (S1.out _ hrel.out.drew).mono ?_; rintro e w7 ⟨rfl, ho⟩; have ho7 := Lib.hid (hrel.out.drew.trans ho (fun _ h => h.elim)); clear ho)
                    | ((with_reducible show Calls _ _ #[.pointer (some ⟨q, 0, none⟩), .int .i64 1, _] _ _); refine (S2.out _ ho7.out).mono ?_; rintro e w8 ⟨rfl, ho⟩; have ho8 := Lib.hid (ho7.out.trans ho (fun _ h => h.elim)); clear ho)
                    | ((with_reducible show Calls _ _ #[.pointer (some ⟨q, 0, none⟩), .int .i64 0, _] _ _); refine (S3.out _ ho8.out).mono ?_; rintro e w9 ⟨rfl, ho⟩; have ho9 := Lib.hid (ho8.out.trans ho (fun _ h => h.elim)); clear ho)
                    | ((with_reducible show Calls _ _ #[.pointer (some ⟨p, 0, none⟩), .int .i64 1, _] _ _); refine (S4.out _ ho9.out).mono ?_; rintro e w10 ⟨rfl, ho⟩; have ho10 := Lib.hid (ho9.out.trans ho (fun _ h => h.elim)); clear ho))
                go_wp2
                go_roundw
                case rel => exact ⟨i + 1, by go_num, by omega, ho10.out⟩
                case measure => simp [intOf]; omega
              · obtain rfl : i = 256 := by omega
                have K1 : Hid (∀ w, Only (fun _ => False) W3 w → Calls Tryd.prog 14 #[.pointer (some ⟨p, 0, none⟩)] w fun e w' => e = .returned (.bool true) ∧ Only (fun _ => False) w w') := fun w ho => by
                  have := tcalm_any (HTw3.out.x.tab.same ho)
                  rwa [HCa.out] at this
                have K2 : Hid (∀ w, Only (fun _ => False) W3 w → Calls Tryd.prog 14 #[.pointer (some ⟨q, 0, none⟩)] w fun e w' => e = .returned (.bool true) ∧ Only (fun _ => False) w w') := fun w ho => by
                  have := tcalm_any (HTw3.out.y.tab.same ho)
                  rwa [HCb.out] at this
                obtain ⟨⟨x0, x1⟩, x2, x3⟩ := HC3.out wr hrel.out
                go_wp2_with (first
                  | ((with_reducible show Calls _ _ #[.pointer (some ⟨p, 0, none⟩)] _ _); refine (K1.out _ hrel.out).mono ?_; rintro e w7 ⟨rfl, ho⟩; have ho7 := Lib.hid (hrel.out.trans ho (fun _ h => h.elim)); clear ho x0 x1 x2 x3; obtain ⟨⟨x0, x1⟩, x2, x3⟩ := HC3.out w7 ho7.out)
                  | ((with_reducible show Calls _ _ #[.pointer (some ⟨q, 0, none⟩)] _ _); refine (K2.out _ ho7.out).mono ?_; rintro e w8 ⟨rfl, ho⟩; have ho8 := Lib.hid (ho7.out.trans ho (fun _ h => h.elim)); clear ho)
                  | fail)
                go_ret
                exact ⟨rfl, HTw3.out.only.trans ho8.out (fun _ h => h.elim)⟩
          · have hj4 : decide (8 * (j : Int) + 8 < (j2 : Int)) = false := by simp; omega
            have hf := HTw.out.few
            have hsum : 0 < n3 + n4 := by omega
            have hfw : n3 + n4 ≤ 60 := by rw [HL1.out, HL2.out] at hf; omega
            have hsum2 : decide ((0 : Int) < (n3 : Int) + (n4 : Int)) = true := by simp; omega
            have hsum3 : (0 : Int) < (n3 : Int) + (n4 : Int) := by omega
            clear hf h00
            go_wp2
            go_quiet (fail)
            obtain ⟨W2, hW2⟩ : ∃ W2, W2 = wr.drewN nq := ⟨_, rfl⟩
            have hIn : Hid (Inn W W2 M s o p q ga gb j j2 0) := by
              rw [hW2]
              exact ⟨T, U, l1, l2, HTw.out.same ((Only.refl _ _).drewN _), P1, HP1.out, fun _ => ⟨by rw [HL1.out, HL2.out]; exact hsum, hpj⟩, fun e => by omega, fun e => by omega⟩
            obtain ⟨⟨z0, z1⟩, _⟩ := HC.out W2 (by rw [hW2]; exact (Only.refl _ _).drewN _)
            rw [← hW2]
            clear hW2 x0 x1 x2 x3 x4 x5 HC HTw HP1 HL1 HL2 hpj hsum hfw hsum2 hsum3
            go_wp2
            clear z0 z1
            obtain ⟨Wb, hWb⟩ : ∃ Wb, Wb = wr := ⟨_, rfl⟩
            subst hWb
            go_loopw [154] (fun iv w => ∃ i : Nat, iv = .int .i64 (i : Int) ∧ i ≤ 2 ∧ Hid (Inn W w M s o p q ga gb j j2 i)) (fun iv _ => 2 - (intOf iv).toNat)
            case atStart => exact ⟨0, rfl, by omega, hIn.out⟩
            case round =>
              clear hIn
              obtain ⟨i, rfl, hi, hrel⟩ := hrel
              by_cases hi2 : i < 2
              · obtain ⟨i', own, oth, n3, A3, c3, hSel⟩ := hrel.out.sel HT.out (by omega) hi2
                have HSel := Lib.hid hSel
                have hpick := hSel.pick
                have hii := hSel.idx
                have hi3' : (i' : Int) < 2 := by have := hSel.lt; omega
                have hi2' : (i : Int) < 2 := by omega
                obtain ⟨x0, x1⟩ := hSel.cells wr (Only.refl _ _)
                clear hSel hrel
                by_cases hn3 : n3 = 0
                · have HId := Lib.hid (HSel.out.idle hn3)
                  subst hn3
                  go_wp2
                  go_roundw
                  case rel => exact ⟨i + 1, by go_num, by omega, HId.out _ (Only.refl _ _)⟩
                  case measure => simp [intOf]; omega
                · have HHr := Lib.hid (HSel.out.hears (by omega))
                  have h3 : (0 : Int) < (n3 : Int) := by omega
                  go_wp2_with (first
                    | (go_at_call 23; refine (HHr.out _ (Only.refl _ _)).mono ?_; rintro e w9 ⟨rfl, hw9⟩)
                    | fail)
                  go_roundw
                  case rel => exact ⟨i + 1, by go_num, by omega, hw9.out⟩
                  case measure => simp [intOf]; omega
              · obtain rfl : i = 2 := by omega
                obtain ⟨T', U', l1', l2', hTw, P, hP, _, _, h2⟩ := hrel.out
                have h3 := h2 rfl
                have HTw := Lib.hid hTw
                clear h2
                go_wp2
                go_roundw
                case rel => exact ⟨j2 + 1, by go_num, by omega, T', U', l1', l2', HTw.out, P, hP, by omega⟩
                case measure => simp [intOf]; omega
end Go.Proofs.YtpobglejobgmlaaDoor
