/- Several texts in one. -/
import Derived.Test.YtbnfhklpobephaaGreatDoorJSnTurned
import Derived.Test.YtbnfhklpobephaaGreatDoorJSnSize
import Derived.Test.YtbnfhklpobephaaGreatDoorJSnIn
import Derived.Test.YtbnfhklpobephaaGreatDoorJTbSay
import Derived.Deep.RegionHeld3
/- subneg.New: a hub that has heard nothing, with all that it says. -/
namespace Go.Proofs.YtbnfhklpobephaaGreatDoor
open Go Go.RowKit
set_option maxRecDepth 100000
set_option maxHeartbeats 4000000

section
variable {P : Program} {ops : Array Oper} {S : World → Prop} {op : Oper} {a : Act} {w : World} {K : Act → World → Prop} {Q : Exit → Act → World → Prop}
theorem yields_build (hw : Region.wanted op (yielded ops a.tmps) = true) (t : TypeId) (parts : Array (Nat × Operand)) (ho : op.op = .build t parts) (cells : Array Value) (hb : P.built t (parts.map fun (i, x) => (i, a.eval x)).toList = some cells) : YieldsIf P ops S op (.agg cells) a :=
  .inl ⟨hw, fun w _ => by
    unfold execOp
    simp only [ho, Sem.run_bind, run_build w t _ cells hb, Result.andThen_ok]
    rfl⟩
theorem wp_box (t : TypeId) (x : Operand) (ho : op.op = .box t x) (cells : Array Value) (hx : a.eval x = .agg cells) (h : K (a.put op.dst (.pointer (some ⟨w.heap.size, 0, none⟩))) (w.alloc (.cells cells t))) : op.wp P a w K Q := by
  unfold Oper.wp execOp
  simp only [ho, hx, Sem.run_bind, Instr.box, newVar, newRow, run_newObj_alloc, Sem.run_pure, Result.andThen_ok]
  exact h
end
/-- A hub as it is made. -/
def hb0 (sz ca ho : Value) (can : Int) : Hb := { sz := sz, ca := ca, ck := 0, ho := ho, can := can, pc := 0, pr := 0, li := Ls.none, rep := .slice none 0 0, sd := sc0, hm := 0, hw := false, tc := 0, tm := 0, ma := mkZ.map B8, ms := false }
theorem hb0_ok (sz ca ho : Value) (can : Int) : (hb0 sz ca ho can).Ok := ⟨Ls.none_ok, ⟨_, sc0_c⟩, rfl⟩
theorem built_hub (N : Nat) (A : Option Addr) (n c M : Nat) (can : Int) :
    Tryz.prog.built 122 [(0, .slice (some ⟨N, 0, none⟩) 4 4), (1, .agg #[.slice A n c, .int .i64 0]), (2, .slice (some ⟨M, 0, none⟩) 18 18), (3, .int .i64 can)] = some (hb0 (.slice (some ⟨N, 0, none⟩) 4 4) (.slice A n c) (.slice (some ⟨M, 0, none⟩) 18 18) can).cs.toArray := by kernel_rfl
@[reducible] def cfV (cc cr : Int) (A : Option Addr) (n cA : Nat) (B : Option Addr) (m cB : Nat) (can : Int) : Value := .agg #[.int .i64 cc, .int .i64 cr, .slice A n cA, .slice B m cB, .int .i64 can]
@[reducible] def cfC (cc cr : Int) (A : Option Addr) (n cA : Nat) (B : Option Addr) (m cB : Nat) (can : Int) : List Value := [.int .i64 cc, .int .i64 cr, .slice A n cA, .slice B m cB, .int .i64 can]
/-- Is such a config right? -/
def cfGood (cc cr : Int) (ts : List (List UInt8)) : Bool := (fitsN cc && fitsN cr) && (decide (1 ≤ ts.length ∧ ts.length ≤ 8) && ts.all okT)
/-- A new hub. -/
def NewHs (w w' : World) (p : Nat) (H : Hs) : Prop := ∃ h, HsAt w' p 0 122 [] [] (fun i => w.heap.size ≤ i ∧ i < p) h H ∧ w.heap.size ≤ p
section
variable {w : World} {es : List Addr} {cc cr can : Int} {A B : Option Addr} {n cA m cB : Nat} {ts : List (List UInt8)} {l : List Se}
theorem snNew_bad (hE : ErrsAt w es) (hts : TSrc w A n ts) (hb : cfGood cc cr ts = false) :
    Calls Tryz.prog 35 #[cfV cc cr A n cA B m cB can] w fun e w' => ∃ a, e = .returned (.tuple #[.pointer none, .iface 409 (.pointer (some a))]) ∧ Hid (Only (fun _ => False) w w') := by
  have hO : ∀ ob, Only (fun _ => False) w (w.alloc ob) := fun ob => (Only.refl _ _).alloc ob
  cases hf : (fitsN cc && fitsN cr) with
  | false =>
    have HN := Lib.hid (fun ob => nbody_bad ((hE.only (hO ob)).of [0, 2, 3]) cc cr hf)
    clear hE hts hb hf hO
    unfold szVal at HN
    go_enter Tryz.func35, Tryz.ntmps35
    go_wp2_with (go_at_call 79; (with_reducible refine (HN.out _).mono ?_); rintro e w1 ⟨a, ha, rfl, ho1⟩; have HO1 : Hid (Only (fun _ => False) w w1) := ((Only.refl _ _).alloc _).trans ho1 (fun _ h => h.elim); unfold errV; clear ho1)
    go_ret2
    exact ⟨a, rfl, HO1.out⟩
  | true =>
    obtain ⟨h1, h2⟩ := (Bool.and_eq_true _ _).mp hf
    have HN := Lib.hid (fun W => nbody_ok W cc cr h1 h2)
    unfold szVal at HN
    have HT : Hid (∀ W, Only (fun _ => False) w W → Calls Tryz.prog 80 #[.slice A n cA] W fun e w' => ∃ a, e = .returned (.tuple #[.pointer none, .iface 409 (.pointer (some a))]) ∧ Only (fun _ => False) W w') := by
      intro W ho
      unfold cfGood at hb
      rw [hf, Bool.true_and] at hb
      by_cases hn : 1 ≤ n ∧ n ≤ 8
      · rw [decide_eq_true (by rw [hts.1]; exact hn), Bool.true_and] at hb
        refine (ttnew_name ((hE.only ho).of [0, 2, 3, 4, 5]) cA (hts.same ho) hn.1 hn.2 hb).mono ?_
        rintro e w' ⟨a, _, rfl, h⟩
        exact ⟨a, rfl, h⟩
      · refine (ttnew_range ((hE.only ho).of [0, 2, 3, 4, 5]) A n cA (by omega)).mono ?_
        rintro e w' ⟨a, _, rfl, h⟩
        exact ⟨a, rfl, h⟩
    clear hE hts hb hf hO h1 h2
    go_enter Tryz.func35, Tryz.ntmps35
    go_wp2_with (first
      | (go_at_call 79; (with_reducible refine (HN.out _).mono ?_); rintro e w1 ⟨N, rfl, hs1, ho1⟩; have HO1 : Hid (Only (fun _ => False) w w1) := ((Only.refl _ _).alloc _).trans ho1.out (fun _ h => h.elim); have c2 : w1.cell? ⟨w.heap.size, 2, none⟩ = some (.slice A n cA) := ((Blk.new w 30 (cfC cc cr A n cA B m cB can)).only ho1.out (fun h => h)).cell 2; clear ho1 hs1)
      | (go_at_call 80; (with_reducible refine (HT.out _ HO1.out).mono ?_); rintro e w2 ⟨a, rfl, ho2⟩; have HO2 := Lib.hid (HO1.out.trans ho2 (fun _ h => h.elim)); clear ho2))
    go_ret2
    exact ⟨a, rfl, HO2.out⟩
theorem snNew_ok (hts : TSrc w A n ts) (hst : StAt w B m l) (hm : m ≤ cB) (hcB : cB ≤ 9223372036854775807) (hg : cfGood cc cr ts = true) :
    Calls Tryz.prog 35 #[cfV cc cr A n cA B m cB can] w fun e w' => ∃ p, e = .returned (.tuple #[.pointer (some ⟨p, 0, none⟩), .nilIface]) ∧ Hid (NewHs w w' p (Hs.new cc cr ts l can)) ∧ Hid (Only (fun _ => False) w w') := by
  unfold cfGood at hg
  obtain ⟨hf, hg⟩ := (Bool.and_eq_true _ _).mp hg
  obtain ⟨h1, h2⟩ := (Bool.and_eq_true _ _).mp hf
  obtain ⟨hn, ho⟩ := (Bool.and_eq_true _ _).mp hg
  have hn := of_decide_eq_true hn
  have HN := Lib.hid (fun W => nbody_new W cc cr h1 h2)
  unfold szVal at HN
  have HT := Lib.hid (fun W (hO : Only (fun _ => False) w W) => ttnew_new cA (hts.same hO) (by rw [← hts.1]; exact hn.1) (by rw [← hts.1]; exact hn.2) ho)
  have HH := Lib.hid (fun W (hO : Only (fun _ => False) w W) => snHeld_any (hst.same hO) hm hcB)
  have HG := Lib.hid (And.intro hn ho)
  have HCf := Lib.hid (fun W (hO : Only (fun _ => False) (w.alloc (.cells (cfC cc cr A n cA B m cB can).toArray 30)) W) => (Blk.new w 30 (cfC cc cr A n cA B m cB can)).only hO (fun h => h))
  clear hts hst hm hcB hg hf h1 h2 hn ho
  go_enter Tryz.func35, Tryz.ntmps35
  go_wp2_with (first
    | (go_at_call 79; (with_reducible refine (HN.out _).mono ?_); rintro e w1 ⟨N, rfl, hs1, ho1, hn1⟩; have HN1 : Hid (w.heap.size ≤ N) := (by simp at hn1; show _ ≤ _; omega); clear hn1; have HC1 := Lib.hid ho1.out; have HO1 : Hid (Only (fun _ => False) w w1) := ((Only.refl _ _).alloc _).trans ho1.out (fun _ h => h.elim); have c2 : w1.cell? ⟨w.heap.size, 2, none⟩ = some (.slice A n cA) := (HCf.out _ HC1.out).cell 2; clear ho1)
    | (go_at_call 80; (with_reducible refine (HT.out _ HO1.out).mono ?_); rintro e w2 ⟨q, rfl, hc2, hq2, ho2⟩; have HO2 := Lib.hid (HO1.out.trans ho2 (fun _ h => h.elim)); have HC2 := Lib.hid (HC1.out.trans ho2 (fun _ h => h.elim)); have HCy := Lib.hid hc2; have HS2 := Lib.hid (hs1.out.only ho2 (fun _ _ _ h => h)); clear ho2 hc2 c2 hq2))
  have HCf2 := Lib.hid (HCf.out _ HC2.out)
  obtain ⟨A2, c2, hbq, hsA, hnA⟩ := HCy.out
  have HNA : Hid (∀ ad, A2 = some ad → w.heap.size ≤ ad.block) := fun ad e => Nat.le_trans HO1.out.size (hnA ad e)
  clear hnA
  have HBq := Lib.hid hbq
  have HSA := Lib.hid hsA
  clear hbq hsA HCy
  go_wp2
  refine wp_region_noPanic ?_
  refine wp_region_held_drew (S := fun W => Only (fun _ => False) w2 W) (by kernel_rfl) ((Only.refl _ _).drew) (fun hHeld => ?_)
  refine wpAnyH_take (i := 0) (v := .slice (some ⟨N, 0, none⟩) 4 4) rfl (by kernel_rfl) (by kernel_rfl) (by kernel_rfl) (fun _ _ _ h => h) (Or.inl ⟨by rfl, fun W hSw => by (first | (go_simp; done) | (go_simp; with_reducible rfl) | (go_simp; rfl))⟩) hHeld ?_
  try simp only [List.getElem_toArray, List.getElem_cons_zero, List.getElem_cons_succ, Act.put, List.setIfInBounds_toArray, List.set_cons_zero, List.set_cons_succ]
  refine wpAnyH_take (i := 1) (v := .pointer (some ⟨q, 0, none⟩)) rfl (by kernel_rfl) (by kernel_rfl) (by kernel_rfl) (fun _ _ _ h => h) (Or.inl ⟨by rfl, fun W hSw => by (first | (go_simp; done) | (go_simp; with_reducible rfl) | (go_simp; rfl))⟩) hHeld ?_
  try simp only [List.getElem_toArray, List.getElem_cons_zero, List.getElem_cons_succ, Act.put, List.setIfInBounds_toArray, List.set_cons_zero, List.set_cons_succ]
  refine wpAnyH_take (i := 2) (v := .pointer (some ⟨q, 0, none⟩)) rfl (by kernel_rfl) (by kernel_rfl) (by kernel_rfl) (fun _ _ _ h => h) (Or.inl ⟨by rfl, fun W hSw => by (first | (go_simp; done) | (go_simp; with_reducible rfl) | (go_simp; rfl))⟩) hHeld ?_
  try simp only [List.getElem_toArray, List.getElem_cons_zero, List.getElem_cons_succ, Act.put, List.setIfInBounds_toArray, List.set_cons_zero, List.set_cons_succ]
  refine wpAnyH_take (i := 3) (v := .agg #[.slice A2 ts.length c2, .int .i64 0]) rfl (by kernel_rfl) (by kernel_rfl) (by kernel_rfl) (fun _ _ _ h => h) (yieldsIf_load_mid (by rfl) 103 _ rfl q 0 rfl [.slice A2 ts.length c2, .int .i64 0] _ (fun W h => rng_blk (HBq.out.only h (fun h => h))) Tryz.underlying103 rfl (by kernel_rfl)) hHeld ?_
  simp only [List.getElem_toArray, List.getElem_cons_zero, List.getElem_cons_succ, Act.put, List.setIfInBounds_toArray, List.set_cons_zero, List.set_cons_succ]
  refine wpAnyH_take (i := 4) (v := .pointer (some ⟨w.heap.size, 3, none⟩)) rfl (by kernel_rfl) (by kernel_rfl) (by kernel_rfl) (fun _ _ _ h => h) (Or.inl ⟨by rfl, fun W hSw => by (first | (go_simp; done) | (go_simp; with_reducible rfl) | (go_simp; rfl))⟩) hHeld ?_
  try simp only [List.getElem_toArray, List.getElem_cons_zero, List.getElem_cons_succ, Act.put, List.setIfInBounds_toArray, List.set_cons_zero, List.set_cons_succ]
  refine wpAnyH_take (i := 5) (v := .slice B m cB) rfl (by kernel_rfl) (by kernel_rfl) (by kernel_rfl) (fun _ _ _ h => h) (Or.inl ⟨by rfl, fun W hSw => by (have d3 := (HCf.out _ (HC2.out.trans hSw (fun _ h => h.elim))).cell 3; first | (go_simp; done) | (go_simp; with_reducible rfl) | (go_simp; rfl))⟩) hHeld ?_
  try simp only [List.getElem_toArray, List.getElem_cons_zero, List.getElem_cons_succ, Act.put, List.setIfInBounds_toArray, List.set_cons_zero, List.set_cons_succ]
  refine wpAnyH_take (i := 7) (v := .pointer (some ⟨w.heap.size, 4, none⟩)) rfl (by kernel_rfl) (by kernel_rfl) (by kernel_rfl) (fun _ _ _ h => h) (Or.inl ⟨by rfl, fun W hSw => by (first | (go_simp; done) | (go_simp; with_reducible rfl) | (go_simp; rfl))⟩) hHeld ?_
  try simp only [List.getElem_toArray, List.getElem_cons_zero, List.getElem_cons_succ, Act.put, List.setIfInBounds_toArray, List.set_cons_zero, List.set_cons_succ]
  refine wpAnyH_take (i := 8) (v := .int .i64 can) rfl (by kernel_rfl) (by kernel_rfl) (by kernel_rfl) (fun _ _ _ h => h) (Or.inl ⟨by rfl, fun W hSw => by (have d4 := (HCf.out _ (HC2.out.trans hSw (fun _ h => h.elim))).cell 4; first | (go_simp; done) | (go_simp; with_reducible rfl) | (go_simp; rfl))⟩) hHeld ?_
  try simp only [List.getElem_toArray, List.getElem_cons_zero, List.getElem_cons_succ, Act.put, List.setIfInBounds_toArray, List.set_cons_zero, List.set_cons_succ]
  refine wpAnyH_ready (rs := [6]) (by kernel_rfl) (by simp) ?_
  refine AllReadyH.cons rfl (fun K hK => ?_) AllReadyH.nil
  go_simp
  (go_at_call 81; (with_reducible refine (HH.out _ HO2.out.drew).mono ?_); rintro e w3 ⟨M, rfl, hst3, hM3, ho3⟩; have HM3 : Hid (w.heap.size ≤ M) := Nat.le_trans HO2.out.size hM3.out)
  refine hK.out _ _ (hHeld.trans ho3.out (fun _ h => h.elim)) (fun hHeld => ?_)
  clear hK K
  have HO3 := Lib.hid hHeld
  refine wpAnyH_take (i := 9) (v := .agg (hb0 (.slice (some ⟨N, 0, none⟩) 4 4) (.slice A2 ts.length c2) (.slice (some ⟨M, 0, none⟩) 18 18) can).cs.toArray) rfl (by kernel_rfl) (by kernel_rfl) (by kernel_rfl) (fun _ _ _ h => h) (yields_build (by rfl) 122 #[(0, .tmp 26), (1, .tmp 29), (2, .tmp 32), (3, .tmp 34)] rfl _ (Eq.trans (congrArg _ (by simp only [List.map_toArray, List.map_cons, List.map_nil]; rfl)) (built_hub N A2 ts.length c2 M can))) hHeld ?_
  simp only [List.getElem_toArray, List.getElem_cons_zero, List.getElem_cons_succ, Act.put, List.setIfInBounds_toArray, List.set_cons_zero, List.set_cons_succ]
  refine wpAnyH_ready (rs := [10]) (by kernel_rfl) (by simp) ?_
  refine AllReadyH.cons rfl (fun K hK => ?_) AllReadyH.nil
  rw [if_pos (by rfl)]
  refine wp_box 122 _ rfl (hb0 (.slice (some ⟨N, 0, none⟩) 4 4) (.slice A2 ts.length c2) (.slice (some ⟨M, 0, none⟩) 18 18) can).cs.toArray rfl ?_
  refine hK.out _ _ (hHeld.alloc _) (fun hHeld => ?_)
  clear hK K
  have hHu : Hid (HuAt (w3.alloc (.cells (hb0 (.slice (some ⟨N, 0, none⟩) 4 4) (.slice A2 ts.length c2) (.slice (some ⟨M, 0, none⟩) 18 18) can).cs.toArray 122)) w3.heap.size 0 122 [] [] (hb0 (.slice (some ⟨N, 0, none⟩) 4 4) (.slice A2 ts.length c2) (.slice (some ⟨M, 0, none⟩) 18 18) can)) := ⟨hb0_ok _ _ _ _, ⟨by rw [List.nil_append, List.append_nil]; exact Blk.new w3 _ _, rfl⟩⟩
  have HO4 := Lib.hid hHeld
  obtain ⟨w4, hw4⟩ : ∃ w4, w4 = w3.alloc (.cells (hb0 (.slice (some ⟨N, 0, none⟩) 4 4) (.slice A2 ts.length c2) (.slice (some ⟨M, 0, none⟩) 18 18) can).cs.toArray 122) := ⟨_, rfl⟩
  have HS4 : Hid (StAt w4 (some ⟨M, 0, none⟩) 18 (heldOf l)) := by rw [hw4]; exact hst3.out.same ((Only.refl _ _).alloc _)
  rw [← hw4] at hHu HO4 ⊢
  obtain ⟨p, hp⟩ : ∃ p, p = w3.heap.size := ⟨_, rfl⟩
  rw [← hp] at hHu ⊢
  have HP := Lib.hid hp
  clear hw4 hp
  refine wpAnyH_ready (rs := [11]) (by kernel_rfl) (by simp) ?_
  refine AllReadyH.cons rfl (fun K hK => ?_) AllReadyH.nil
  go_simp
  refine hK.out _ _ HO4.out (fun hHeld => ?_)
  clear hK K
  refine wpAnyH_done (by kernel_rfl) (NoPanic.normal ?_) _
  have HRs := Lib.hid (snReset_any hHu.out rfl HS4.out)
  clear hHeld
  go_wp2_with (go_at_call 82; (with_reducible refine HRs.out.mono ?_); rintro e w5 ⟨rfl, hh5, ho5⟩)
  go_ret2
  obtain ⟨cs, hh5, hsc⟩ := hh5
  have hz23 : w2.heap.size ≤ w3.heap.size := HO3.out.size
  have hz2 := HO2.out.size
  have hpe := HP.out
  have hnp : ∀ i, i < w2.heap.size → ¬ i = p := fun i hi => by omega
  have hM4 : M < p := by rw [hpe]; exact hst3.out.lt' (by omega)
  have hN4 : N < p := by have := HS2.out.lt (by omega) _ rfl; simp only at this; omega
  refine ⟨p, rfl, ⟨_, ⟨hh5, ⟨⟨N, rfl, ?_, ⟨HN1.out, hN4⟩, by omega⟩, ⟨A2, c2, rfl, ?_, fun ad ha => ?_⟩, ?_, HG.out.1.1, HG.out.1.2, List.all_eq_true.1 HG.out.2, ⟨M, rfl, ?_, ⟨HM3.out, hM4⟩, by omega⟩, rfl, rfl, rfl, rfl, ⟨none, 0, 0, rfl, LsOf.nil _ _ _ _, by omega, fun ad e => by cases e⟩, hsc, rfl, rfl, rfl, rfl, rfl, rfl⟩⟩, by omega⟩, ?_⟩
  · exact (HS2.out.only HO4.out (fun _ _ _ h => h)).only ho5 (fun h0 ad e => by injection e with e; subst e; exact hnp _ (HS2.out.lt h0 _ rfl))
  · exact (HSA.out.same HO4.out).only ho5 (fun h0 ad e => hnp _ (HSA.out.lt h0 _ e))
  · have := HSA.out.lt HG.out.1.1 _ ha
    exact ⟨⟨HNA.out ad ha, by omega⟩, by omega⟩
  · simp [Hb.again, hb0, Hs.new]
  · exact HS4.out.far ho5 (fun e => by omega)
  · exact (HO2.out.trans HO4.out (fun _ h => h.elim)).trans ho5 (fun i hi => .inr (by omega))
end
end Go.Proofs.YtbnfhklpobephaaGreatDoor
/- Slices of ints that came in. -/
namespace Go.Proofs.YtbnfhklpobephaaGreatDoor
open Go Go.ChangeShapes Go.WideShapes Go.ChangeAt Go.RowKit
set_option maxRecDepth 100000
set_option maxHeartbeats 4000000

/-- A slice of ints. -/
def Ints (w : World) (A : Option Addr) (n : Nat) (zs : List Int) : Prop :=
  zs.length = n ∧ (0 < n → ∃ ad, A = some ad ∧ ∀ (j : Nat) (z : Int), zs[j]? = some z → w.cell? (ad.add j) = some (.int .i64 z))
theorem Ints.only {S : Nat → Prop} {w w' : World} {A : Option Addr} {n : Nat} {zs : List Int} (h : Ints w A n zs) (ho : Only S w w') (hS : 0 < n → ∀ ad, A = some ad → ¬ S ad.block) : Ints w' A n zs :=
  ⟨h.1, fun hn => by
    obtain ⟨ad, e, hc⟩ := h.2 hn
    exact ⟨ad, e, fun j x hx => ho.cellv (hc j x hx) (by rw [block_add]; exact hS hn ad e)⟩⟩
theorem Ints.same {w w' : World} {A : Option Addr} {n : Nat} {zs : List Int} (h : Ints w A n zs) (ho : Only (fun _ => False) w w') : Ints w' A n zs := h.only ho (fun _ _ _ h => h)
theorem Ints.nil (w : World) (A : Option Addr) : Ints w A 0 [] := ⟨rfl, fun h => absurd h (by omega)⟩

/-- A slice of ints that came in. -/
theorem opened_ints {H : Type} {enc : TypeId × Value → H} {W : World} {spare : Nat → Bool} {fuel : Nat} {v : Value} {x : DataW H × List MemPlace} (hf : DataW.trod enc Tryz.prog W 0 spare true fuel 22 [v] = some x) :
    ∃ A n c zs, v = .slice A n c ∧ Ints W A n zs ∧ n ≤ c ∧ c ≤ 9223372036854775807 := by
  obtain ⟨d, p⟩ := x
  rcases open_ints Tryz.underlying22 Tryz.underlying3 (by kernel_rfl) hf with ⟨hcs, hx⟩ | ⟨a, len', cap', zs, hcs, _, hl, hm, hz, hx, hcell, hwz⟩
  · simp at hcs
    subst hcs
    exact ⟨none, 0, 0, [], rfl, Ints.nil _ _, Nat.le_refl _, by omega⟩
  · simp at hcs
    subst hcs
    have hzl : len' ≤ zs.length := by split at hz <;> omega
    refine ⟨some a, len', cap', zs.take len', rfl, ⟨by simp; omega, fun _ => ⟨_, rfl, fun j x hx => ?_⟩⟩, hl, by unfold maxLen at hm; omega⟩
    rw [List.getElem?_take] at hx
    split at hx
    · have hj : j < zs.length := by omega
      rw [hcell j hj]
      rw [List.getElem?_eq_getElem hj] at hx
      injection hx with hx
      rw [← hx]
      congr 2
      rw [List.getD_eq_getElem?_getD, List.getElem?_eq_getElem hj]
      rfl
    · cases hx

end Go.Proofs.YtbnfhklpobephaaGreatDoor
/- Package table: New. -/
namespace Go.Proofs.YtbnfhklpobephaaGreatDoor
open Go Go.RowKit
set_option maxRecDepth 100000
set_option maxHeartbeats 4000000

/-- What a policy agrees to. -/
def agOf (us hims : List Int) (s o : Nat) : Bool := (if s = 0 then us else hims).contains (o : Int)
theorem TbC.congr {mo : Nat} {pre post cs : List Value} {ag ag' : Nat → Nat → Bool} {t : Tb} (h : TbC mo pre post cs ag t) (e : ∀ s o, s < 2 → o < 256 → ag s o = ag' s o) : TbC mo pre post cs ag' t :=
  ⟨h.len, h.front, h.back, h.kind, h.opp, fun i s o hs ho hi => by rw [h.agr i s o hs ho hi, e s o hs ho], h.heard, h.asked, h.sent⟩
theorem TbAt.congr {w : World} {p mo : Nat} {tp : TypeId} {pre post : List Value} {ag ag' : Nat → Nat → Bool} {t : Tb} (h : TbAt w p mo tp pre post ag t) (e : ∀ s o, s < 2 → o < 256 → ag s o = ag' s o) : TbAt w p mo tp pre post ag' t := by
  obtain ⟨cs, h, hc⟩ := h
  exact ⟨cs, h, hc.congr e⟩
/-- So far. -/
def agTo (us hims zs : List Int) (k j : Nat) (s o : Nat) : Bool := (decide (s < k) && agOf us hims s o) || (decide (s = k) && (zs.take j).contains (o : Int))
theorem contains_take (zs : List Int) (j : Nat) (z : Int) (h : zs[j]? = some z) (o : Int) : (zs.take (j + 1)).contains o = ((zs.take j).contains o || decide (o = z)) := by
  rw [List.take_add_one, h]
  simp [List.contains_eq_mem, Bool.decide_or]

theorem new_any {W : World} {A1 A2 : Option Addr} {n1 n2 : Nat} (c1 c2 : Nat) {us hims : List Int} (h1 : Ints W A1 n1 us) (h2 : Ints W A2 n2 hims) (hb1 : n1 ≤ 1000) (hb2 : n2 ≤ 1000) :
    Calls Tryz.prog 36 #[.agg #[.slice A1 n1 c1, .slice A2 n2 c2]] W fun e w' => ∃ p, e = .returned (.pointer (some ⟨p, 0, none⟩)) ∧ TbAt w' p 0 99 [] [] (agOf us hims) Tb.zero ∧ W.heap.size ≤ p ∧ Only (fun _ => False) W w' := by
  have H1 := Lib.hid h1
  have H2 := Lib.hid h2
  clear h1 h2
  go_enter Tryz.func36, Tryz.ntmps36
  go_wp2_with (first
    | ((with_reducible show wpList _ _ _ (⟨some 8, _, _, _, _, _⟩ :: _) _ _); refine step_build rfl 99 #[] rfl tb0 built_table ?_)
    | ((with_reducible show wpList _ _ _ (⟨some 9, _, _, _, _, _⟩ :: _) _ _); refine step_box rfl 99 _ rfl tb0 rfl ?_)
    | fail)
  obtain ⟨p, hpp⟩ : ∃ p, p = W.heap.size + 1 := ⟨_, rfl⟩
  obtain ⟨W0, hW0⟩ : ∃ W0, W0 = (W.alloc (.cells #[.slice A1 n1 c1, .slice A2 n2 c2] 24)).alloc (.cells tb0.toArray 99) := ⟨_, rfl⟩
  have HT0 : Hid (TbAt W0 p 0 99 [] [] (fun _ _ => false) Tb.zero) := ⟨tb0, by rw [hW0, hpp]; exact Blk.new' _ _ _ (by simp), tb0_c⟩
  have HO0 : Hid (Only (fun _ => False) W W0) := by rw [hW0]; exact ((Only.refl _ _).alloc _).alloc _
  have HPW : Hid (W.heap.size + 1 = p) := hpp.symm
  rw [← hpp, ← hW0]
  clear hpp hW0
  go_loopw [15] (fun i w => ∃ k : Nat, k ≤ 2 ∧ i = .int .i64 (k : Int) ∧ Hid (TbAt w p 0 99 [] [] (fun s o => decide (s < k) && agOf us hims s o) Tb.zero ∧ Only (fun _ => False) W w)) (fun i _ => 2 - (intOf i).toNat)
  case atStart => exact ⟨0, by omega, rfl, HT0.out.congr (fun s o _ _ => by simp), HO0.out⟩
  case round =>
    obtain ⟨k, hk, rfl, hrel⟩ := hrel
    by_cases hlt : k < 2
    · obtain ⟨A, n, c, zs, hnb, hidx, hzs, hag⟩ : ∃ A n c zs, n ≤ 1000 ∧ (∀ w, (Instr.index 207 (.agg #[.slice A1 n1 c1, .slice A2 n2 c2]) (.int .i64 (k : Int))).run Tryz.prog w = .ok (.slice A n c) w) ∧ Ints W A n zs ∧ ∀ o : Nat, agOf us hims k o = zs.contains (o : Int) := by
        rcases (show k = 0 ∨ k = 1 by omega) with rfl | rfl
        · exact ⟨A1, n1, c1, us, hb1, fun w => by kernel_rfl, H1.out, fun o => by simp [agOf]⟩
        · exact ⟨A2, n2, c2, hims, hb2, fun w => by kernel_rfl, H2.out, fun o => by simp [agOf]⟩
      have HZ := Lib.hid hzs
      have HAg := Lib.hid hag
      have hk2 : (k : Int) < 2 := by omega
      clear hzs hag
      go_wp2
      obtain ⟨W1, hW1⟩ : ∃ W1, W1 = wr := ⟨_, rfl⟩
      subst hW1
      have HR := hrel
      clear hrel
      go_loopw [21] (fun i w => ∃ j : Nat, j ≤ n ∧ i = .int .i64 (j : Int) ∧ Hid (TbAt w p 0 99 [] [] (agTo us hims zs k j) Tb.zero ∧ Only (fun _ => False) W w)) (fun i _ => n - (intOf i).toNat)
      case atStart => exact ⟨0, by omega, rfl, HR.out.1.congr (fun s o _ _ => by simp [agTo]), HR.out.2⟩
      case round =>
        clear HR
        obtain ⟨j, hj, rfl, hrel⟩ := hrel
        by_cases hjn : j < n
        · obtain ⟨z, hz⟩ : ∃ z, zs[j]? = some z := ⟨_, List.getElem?_eq_getElem (by rw [HZ.out.1]; exact hjn)⟩
          obtain ⟨ad, rfl, hcell⟩ := (HZ.out.only hrel.out.2 (fun _ _ _ h => h)).2 (by omega)
          have c0 := hcell j z hz
          have HZj := Lib.hid hz
          have hjn2 : (j : Int) < (n : Int) := by omega
          clear hcell hz
          by_cases hz : 0 ≤ z ∧ z ≤ 255
          · obtain ⟨o, rfl⟩ : ∃ o : Nat, z = (o : Int) := ⟨z.toNat, by omega⟩
            have ho : o < 256 := by omega
            have ho2 : (o : Int) < 256 := by omega
            have H3 : Hid (∀ W, Calls Tryz.prog 83 #[.int .i64 (o : Int)] W fun e w' => e = .returned (.bool true) ∧ w' = W) := fun W => by
              have := isOption_any W (o : Int)
              rwa [decide_eq_true (by omega)] at this
            obtain ⟨cs, hB, hC⟩ := hrel.out.1
            have ca : wr.cell? ⟨p, 1024 + k * 256 + o, none⟩ = some (.bool (agTo us hims zs k j k o)) := by rw [hB.cell]; exact hC.agr _ k o hlt ho (by omega)
            have fa := hB.frozen (1024 + k * 256 + o)
            have HB := Lib.hid hB
            have HC := Lib.hid hC
            obtain ⟨b, hb⟩ : ∃ b, b = agTo us hims zs k j k o := ⟨_, rfl⟩
            rw [← hb] at ca
            clear hB hC hz hb
            go_wp2_with (first
              | (go_at_call 83; refine (H3.out _).mono ?_; rintro e w' ⟨rfl, rfl⟩)
              | fail)
            go_roundw
            case rel =>
              refine ⟨j + 1, by omega, by go_num, ⟨_, HB.out.setCell _ _, (HC.out.setAg hlt ho (by omega) true).congr (fun s x _ _ => ?_)⟩, hrel.out.2.setCell (.inr (by have := HPW.out; show _ ≤ p; omega)) _⟩
              unfold agTo
              rw [contains_take zs j _ HZj.out]
              by_cases e1 : s = k
              · subst e1
                by_cases e2 : x = o
                · subst e2; simp
                · rw [if_neg (fun h => e2 h.2)]
                  have : decide ((x : Int) = (o : Int)) = false := decide_eq_false (by omega)
                  simp [this]
              · rw [if_neg (fun h => e1 h.1)]
                simp [e1]
            case measure => simp [intOf]; omega
          · have H3 : Hid (∀ W, Calls Tryz.prog 83 #[.int .i64 z] W fun e w' => e = .returned (.bool false) ∧ w' = W) := fun W => by
              have := isOption_any W z
              rwa [decide_eq_false hz] at this
            have HZn := Lib.hid hz
            clear hz
            go_wp2_with (first
              | (go_at_call 83; refine (H3.out _).mono ?_; rintro e w' ⟨rfl, rfl⟩)
              | fail)
            go_roundw
            case rel =>
              refine ⟨j + 1, by omega, by go_num, hrel.out.1.congr (fun s x _ hx => ?_), hrel.out.2⟩
              unfold agTo
              rw [contains_take zs j _ HZj.out]
              have : decide ((x : Int) = z) = false := decide_eq_false (fun e => HZn.out ⟨by omega, by omega⟩)
              simp [this]
            case measure => simp [intOf]; omega
        · obtain rfl : j = n := by omega
          go_wp2
          go_roundw
          case rel =>
            refine ⟨k + 1, by omega, by go_num, hrel.out.1.congr (fun s x _ _ => ?_), hrel.out.2⟩
            unfold agTo
            rw [List.take_of_length_le (Nat.le_of_eq HZ.out.1), ← HAg.out]
            by_cases e1 : s = k
            · subst e1; simp
            · have : decide (s < k + 1) = decide (s < k) := decide_eq_decide.2 (by omega)
              simp [e1, this]
          case measure => simp [intOf]; omega
    · obtain rfl : k = 2 := by omega
      go_wp2
      go_ret
      exact ⟨p, rfl, hrel.out.1.congr (fun s x hs _ => by simp [hs]), by have := HPW.out; omega, hrel.out.2⟩
end Go.Proofs.YtbnfhklpobephaaGreatDoor
/- Package table: Hear. -/
namespace Go.Proofs.YtbnfhklpobephaaGreatDoor
open Go Go.RowKit
set_option maxRecDepth 100000
set_option maxHeartbeats 4000000

/-- What the calls read at package level. -/
structure TbW (W : World) : Prop where
  qs : QsW W
  verbs : VerbsAt W
  kind : ErrAt Tryz.prog W "truchman/api.ErrKind"
  range : ErrAt Tryz.prog W "truchman/api.ErrRange"
theorem TbW.only {W W' : World} (h : TbW W) (ho : Only (fun _ => False) W W') : TbW W' := ⟨h.qs.only ho, h.verbs.only ho, h.kind.only ho, h.range.only ho⟩
theorem size_heard : (Tryz.prog.info? 309).map (·.size) = some 4 := by kernel_rfl

/-- What is told of a verb that is heard. -/
def turnedQ (a b : Qs) : Bool := decide (a = .yes) != decide (b = .yes)
@[reducible] def heardV (t : Tb) (ag : Nat → Nat → Bool) (v o : Nat) : Value :=
  let m := hearQ (t.st (sideV v) o) (forV v) (ag (sideV v) o)
  .agg #[.int .i64 (sideV v : Int), .int .i64 (toldV (sideV v) m.2.1 : Int), .bool (turnedQ m.1 (t.st (sideV v) o)), .bool m.2.2]

/-- A move's variable, laid behind a call or ahead of it. -/
structure MvAt (w w' : World) (M : Nat) (cs : List Value) : Prop where
  mv : Blk w' M 245 cs
  new : w.heap.size ≤ M
  only : Only (fun _ => False) w w'
theorem MvAt.first {w w5 : World} (ho : Only (fun _ => False) w.drew w5) : ∀ a b c d, MvAt w (w5.alloc (.cells #[a, b, c, d] 245)) w5.heap.size [a, b, c, d] := fun a b c d =>
  ⟨Blk.new w5 _ [a, b, c, d], ho.size, (((Only.refl (fun _ => False) w).drew).trans ho (fun _ h => h.elim)).alloc _⟩
theorem MvAt.second {w w5 : World} (ho : Only (fun _ => False) (w.alloc (.cells mv0.toArray 245)).drew w5) (hz : Blk w5 w.heap.size 245 mv0) : ∀ a b c d, MvAt w ((((w5.setCell ⟨w.heap.size, 0, none⟩ a).setCell ⟨w.heap.size, 1, none⟩ b).setCell ⟨w.heap.size, 2, none⟩ c).setCell ⟨w.heap.size, 3, none⟩ d) w.heap.size [a, b, c, d] := fun a b c d => by
  have h := ((((Only.refl (· = w.heap.size) w5).setCell (p := ⟨w.heap.size, 0, none⟩) (.inl rfl) a).setCell (p := ⟨w.heap.size, 1, none⟩) (.inl rfl) b).setCell (p := ⟨w.heap.size, 2, none⟩) (.inl rfl) c).setCell (p := ⟨w.heap.size, 3, none⟩) (.inl rfl) d
  exact ⟨(((hz.setCell 0 _).setCell 1 _).setCell 2 _).setCell 3 _, Nat.le_refl _, (((Only.refl (fun _ => False) w).alloc _).drew.trans ho (fun _ h => h.elim)).trans h (fun i hi => .inr (by omega))⟩

theorem VerbsAt.drew {W : World} (h : VerbsAt W) : VerbsAt W.drew := h
theorem TbAt.drew {W : World} {p mo : Nat} {tp : TypeId} {pre post : List Value} {ag : Nat → Nat → Bool} {t : Tb} (h : TbAt W p mo tp pre post ag t) : TbAt W.drew p mo tp pre post ag t := h
/-- Two ways that come to the same: what follows is walked once. -/
theorem twice1 {P : Prop} {C G : Nat → World → Prop} (k : (∀ p W, C p W → G p W) → P) (h : ∀ p W, C p W → G p W) : P := k h
theorem thear_some {W : World} (hT : TbW W) {p mo : Nat} {tp : TypeId} {pre post : List Value} {ag : Nat → Nat → Bool} {t : Tb} (h : TbAt W p mo tp pre post ag t) {v o : Nat} (hv : 251 ≤ v ∧ v ≤ 254) (ho : o < 256) (hn : t.sent ≤ 1000000) (hh : t.heard ≤ 1000000) (hgp : 16 ≠ p) :
    Calls Tryz.prog 163 #[.pointer (some ⟨p, mo, none⟩), .int .i64 (v : Int), .int .i64 (o : Int)] W fun e w' =>
      e = .returned (.tuple #[heardV t ag v o, .nilIface]) ∧ TbAt w' p mo tp pre post ag (t.hear ag v o).1 ∧ Only (· = p) W w' := by
  obtain ⟨cs, hB, hC⟩ := h
  have hs := sideV_lt v
  have H1 : Hid (∀ W, Calls Tryz.prog 158 #[.int .i64 (v : Int)] W fun e w' => e = .returned (.bool true) ∧ w' = W) := fun W => by
    have := verb_any W (v : Int)
    rwa [decide_eq_true (by omega)] at this
  have H2 : Hid (∀ W, Calls Tryz.prog 83 #[.int .i64 (o : Int)] W fun e w' => e = .returned (.bool true) ∧ w' = W) := fun W => by
    have := isOption_any W (o : Int)
    rwa [decide_eq_true (by omega)] at this
  have H3 : Hid (∀ W, Calls Tryz.prog 192 #[.int .i64 (v : Int)] W fun e w' => e = .returned (.int .i64 (sideV v : Int)) ∧ w' = W) := fun W => sideOf_any W v hv
  have H4 : Hid (∀ W, Calls Tryz.prog 194 #[.int .i64 (v : Int)] W fun e w' => e = .returned (.bool (forV v)) ∧ w' = W) := fun W => by
    have := for_any W (v : Int)
    rwa [show decide ((v : Int) = 251 ∨ (v : Int) = 253) = forV v from by unfold forV; exact decide_eq_decide.2 (by omega)] at this
  unfold heardV Tb.hear
  obtain ⟨s, hsv⟩ : ∃ s, s = sideV v := ⟨_, rfl⟩
  rw [← hsv] at hs H3 ⊢
  obtain ⟨fv, hfv⟩ : ∃ f, f = forV v := ⟨_, rfl⟩
  rw [← hfv] at H4 ⊢
  obtain ⟨a, ha⟩ : ∃ a, a = ag s o := ⟨_, rfl⟩
  obtain ⟨q, hq⟩ : ∃ q, q = t.st s o := ⟨_, rfl⟩
  rw [← hq, ← ha]
  obtain ⟨m, hm⟩ : ∃ m, m = hearQ q fv a := ⟨_, rfl⟩
  have hk := hearQ_sends q fv a
  rw [← hm] at hk ⊢
  obtain ⟨mq, mk, mw⟩ := m
  simp only at hk ⊢
  have HH : ∀ w, Only (fun _ => False) W w → Calls Tryz.prog 193 #[.agg #[.int .i64 (q.kind : Int), .bool q.opp], .bool fv, .bool a] w fun e w' => e = .returned (.tuple #[.agg #[.int .i64 (mq.kind : Int), .bool mq.opp, .int .i64 (mk : Int), .bool mw], .nilIface]) ∧ Only (fun _ => False) w w' := fun w ho =>
    (hear_some (hT.qs.only ho) (q.kind : Int) q.opp fv a (qsOf_kind q)).mono (fun e w' h => by unfold Moved hearC at h; rw [← hm] at h; exact h)
  have HMv : ∀ w, VerbsAt w → ∀ t' : Tb, TbAt w p mo tp pre post ag t' → t'.sent ≤ 1000000 → Calls Tryz.prog 120 #[.pointer (some ⟨p, mo, none⟩), .int .i64 (s : Int), .int .i64 (o : Int), .agg #[.int .i64 (mq.kind : Int), .bool mq.opp, .int .i64 (mk : Int), .bool mw]] w fun e w' =>
      e = .returned (.int .i64 (toldV s mk : Int)) ∧ TbAt w' p mo tp pre post ag { t' with st := setQ t'.st s o mq, sent := t'.sent + sentN mk } ∧ Only (· = p) w w' := fun w hv t' ht hn => move_any hv ht hs ho mq mk hk mw hn hgp
  have HOq : ∀ w, Calls Tryz.prog 101 #[.agg #[.int .i64 (q.kind : Int), .bool q.opp]] w fun e w' => e = .returned (.bool (decide (q = .yes))) ∧ Only (fun _ => False) w w' := fun w => by
    have := on_any w (q.kind : Int) q.opp
    rwa [kind_one] at this
  have HOm : ∀ w, Calls Tryz.prog 101 #[.agg #[.int .i64 (mq.kind : Int), .bool mq.opp]] w fun e w' => e = .returned (.bool (decide (mq = .yes))) ∧ Only (fun _ => False) w w' := fun w => by
    have := on_any w (mq.kind : Int) mq.opp
    rwa [kind_one] at this
  unfold turnedQ
  have HSt : Hid (∀ w, Blk w p tp cs → w.rangeAt p (mo + s * 512 + o * 2) [.int .i64 (q.kind : Int), .bool q.opp]) := fun w hb => by rw [hq]; exact st_range hb hC hs ho rfl
  have hag : cs[mo + 1024 + s * 256 + o]? = some (.bool a) := by rw [ha]; exact hC.agr _ s o hs ho (by omega)
  obtain ⟨qk, hqk⟩ : ∃ x, x = (q.kind : Int) := ⟨_, rfl⟩
  obtain ⟨qo, hqo⟩ : ∃ x, x = q.opp := ⟨_, rfl⟩
  obtain ⟨zk, hzk⟩ : ∃ x, x = (mq.kind : Int) := ⟨_, rfl⟩
  obtain ⟨zo, hzo⟩ : ∃ x, x = mq.opp := ⟨_, rfl⟩
  obtain ⟨zm, hzm⟩ : ∃ x, x = (mk : Int) := ⟨_, rfl⟩
  obtain ⟨bq, hbq⟩ : ∃ x, x = decide (q = .yes) := ⟨_, rfl⟩
  obtain ⟨bm, hbm⟩ : ∃ x, x = decide (mq = .yes) := ⟨_, rfl⟩
  rw [← hbq] at HOq ⊢
  rw [← hbm] at HOm ⊢
  obtain ⟨tv, htv⟩ : ∃ x, x = (toldV s mk : Int) := ⟨_, rfl⟩
  rw [← htv] at HMv ⊢
  rw [← hqk, ← hqo] at HH HOq HSt
  rw [← hzk, ← hzo] at HOm
  rw [← hzk, ← hzo, ← hzm] at HH HMv
  have HHr := Lib.hid HH
  have HMv := Lib.hid HMv
  have HOq := Lib.hid HOq
  have HOm := Lib.hid HOm
  have HB := Lib.hid hB
  have HC := Lib.hid hC
  have HT := Lib.hid hT
  have hp := hB.lt
  have hs2 : (s : Int) < 2 := by omega
  have ho2 : (o : Int) < 256 := by omega
  have HAg := Lib.hid hag
  have HN := Lib.hid hn
  clear hB hC hT HH hsv hfv ha hq hm hqk hqo hzk hzo hzm hbq hbm htv hag hv hk hn
  go_enter Tryz.func163, Tryz.ntmps163
  go_wp2_with (first
    | (go_at_call 158; refine (H1.out _).mono ?_; rintro e w' ⟨rfl, rfl⟩)
    | (go_at_call 83; refine (H2.out _).mono ?_; rintro e w' ⟨rfl, rfl⟩)
    | (go_at_call 192; refine (H3.out _).mono ?_; rintro e w' ⟨rfl, rfl⟩)
    | ((with_reducible show wpList _ _ _ (⟨some 33, _, _, _, _, _⟩ :: _) _ _); refine wpList_load_mid rfl 65 _ rfl p (mo + s * 512 + o * 2) rfl [.int .i64 qk, .bool qo] _ (HSt.out _ (HB.out.alloc _)) Tryz.underlying65 rfl size_state ?_)
    | fail)
  obtain ⟨N6, hN6⟩ : ∃ N, N = W.heap.size := ⟨_, rfl⟩
  obtain ⟨W6, hW6⟩ : ∃ W6, W6 = (W.alloc (.cells #[.int .i64 0, .int .i64 0, .bool false, .bool false] 309)).alloc (.cells #[.int .i64 qk, .bool qo] 65) := ⟨_, rfl⟩
  have hBh : Blk W6 N6 309 [.int .i64 0, .int .i64 0, .bool false, .bool false] := by rw [hW6, hN6]; exact (Blk.new W _ [.int .i64 0, .int .i64 0, .bool false, .bool false]).alloc _
  have hBs : Blk W6 (N6 + 1) 65 [.int .i64 qk, .bool qo] := by rw [hW6, hN6]; exact Blk.new' _ _ _ (by simp)
  have hB6 : Blk W6 p tp cs := by rw [hW6]; exact (HB.out.alloc _).alloc _
  have hO6 : Only (fun _ => False) W W6 := by rw [hW6]; exact ((Only.refl _ _).alloc _).alloc _
  rw [← hN6] at hp ⊢
  rw [← hW6]
  have HNW : Hid (W.heap.size = N6) := hN6.symm
  have HBh := Lib.hid hBh
  have HBs := Lib.hid hBs
  have HB6 := Lib.hid hB6
  have HO6 := Lib.hid hO6
  have HS : Hid (∀ w, Only (fun _ => False) W6 w → (w.cell? ⟨N6 + 1, 0, none⟩ = some (.int .i64 qk) ∧ w.cell? ⟨N6 + 1, 1, none⟩ = some (.bool qo)) ∧ w.cell? ⟨p, mo + 1024 + s * 256 + o, none⟩ = some (.bool a)) := fun w ho =>
    ⟨⟨(HBs.out.only ho (fun h => h)).cell 0, (HBs.out.only ho (fun h => h)).cell 1⟩, by rw [(HB6.out.only ho (fun h => h)).cell]; exact HAg.out⟩
  have HZ6 : Hid (W6.heap.size = N6 + 2) := by rw [hW6, hN6]; simp [Hid]
  clear hW6 hN6 hBh hBs hB6 hO6
  apply twice1 (C := fun M W7 => Hid (MvAt W6 W7 M [.int .i64 zk, .bool zo, .int .i64 zm, .bool mw]))
  case k =>
    intro key
    go_region_held3 (fun w => (w.cell? ⟨N6 + 1, 0, none⟩ = some (.int .i64 qk) ∧ w.cell? ⟨N6 + 1, 1, none⟩ = some (.bool qo)) ∧ w.cell? ⟨p, mo + 1024 + s * 256 + o, none⟩ = some (.bool a))
      (first | exact HS.out _ (Only.refl _ _).drew | exact HS.out _ ((Only.refl _ _).alloc _).drew | exact HS.out _ ho5.out | exact HS.out _ (ho5.out.alloc _) | exact HS.out _ (MvAt.only (HE.out _ _ _ _)))
      (first
        | (with_reducible refine (H4.out _).mono ?_; rintro e w' ⟨rfl, rfl⟩)
        | ((with_reducible show Calls _ _ _ (World.drew W6) _); refine (HHr.out _ HO6.out.drew).mono ?_; rintro e w5 ⟨rfl, ho⟩; have ho5 := Lib.hid (((Only.refl (fun _ => False) W6).drew).trans ho (fun _ h => h.elim)); have HE := Lib.hid (MvAt.first ho); clear ho)
        | ((with_reducible show Calls _ _ _ (World.drew (World.alloc _ _)) _); refine (HHr.out _ (HO6.out.alloc _).drew).mono ?_; rintro e w5 ⟨rfl, ho⟩; have ho5 := Lib.hid ((((Only.refl (fun _ => False) W6).alloc _).drew).trans ho (fun _ h => h.elim)); have hz := (Blk.new W6 245 mv0).drew.only ho (fun h => h); have z0 : w5.cell? ⟨W6.heap.size, 0, none⟩ = some (.int .i64 0) := hz.cell 0; have z1 : w5.cell? ⟨W6.heap.size, 1, none⟩ = some (.bool false) := hz.cell 1; have z2 : w5.cell? ⟨W6.heap.size, 2, none⟩ = some (.int .i64 0) := hz.cell 2; have z3 : w5.cell? ⟨W6.heap.size, 3, none⟩ = some (.bool false) := hz.cell 3; have f0 := hz.frozen 0; have f1 := hz.frozen 1; have f2 := hz.frozen 2; have f3 := hz.frozen 3; have HE := Lib.hid (MvAt.second ho hz); clear ho hz))
    all_goals (first
      | (obtain ⟨W7, hW7⟩ : ∃ W7, W7 = w5.alloc (.cells #[.int .i64 zk, .bool zo, .int .i64 zm, .bool mw] 245) := ⟨_, rfl⟩
         rw [← hW7]
         have H0 : Hid (MvAt W6 W7 w5.heap.size [.int .i64 zk, .bool zo, .int .i64 zm, .bool mw]) := hW7 ▸ HE.out _ _ _ _
         obtain ⟨M, hM⟩ : ∃ M, M = w5.heap.size := ⟨_, rfl⟩
         rw [← hM] at H0 ⊢
         exact key M W7 H0)
      | (obtain ⟨W7, hW7⟩ : ∃ W7, W7 = ((((w5.setCell ⟨W6.heap.size, 0, none⟩ (.int .i64 zk)).setCell ⟨W6.heap.size, 1, none⟩ (.bool zo)).setCell ⟨W6.heap.size, 2, none⟩ (.int .i64 zm)).setCell ⟨W6.heap.size, 3, none⟩ (.bool mw)) := ⟨_, rfl⟩
         rw [← hW7]
         have H0 : Hid (MvAt W6 W7 W6.heap.size [.int .i64 zk, .bool zo, .int .i64 zm, .bool mw]) := hW7 ▸ HE.out _ _ _ _
         obtain ⟨M, hM⟩ : ∃ M, M = W6.heap.size := ⟨_, rfl⟩
         rw [← hM] at H0 ⊢
         exact key M W7 H0))
  case h =>
    intro M W7 H0
    have hMl := H0.out.new
    have hB7 := HB6.out.only H0.out.only (fun h => h)
    have c36 : W7.cell? ⟨p, mo + 1536, none⟩ = some (.int .i64 (t.heard : Int)) := by rw [hB7.cell]; exact HC.out.heard
    have f36 := hB7.frozen (mo + 1536)
    obtain ⟨n, hnn⟩ : ∃ n, n = t.heard := ⟨_, rfl⟩
    rw [← hnn] at c36 hh
    have HNn := Lib.hid hnn
    have HB7 := Lib.hid hB7
    clear hnn hB7
    go_wp2
    obtain ⟨W8, hW8⟩ : ∃ W8, W8 = W7.setCell ⟨p, mo + 1536, none⟩ (.int .i64 ((n : Int) + 1)) := ⟨_, rfl⟩
    rw [← hW8]
    have ho8 : Only (· = p) W7 W8 := by rw [hW8]; exact (Only.refl (· = p) W7).setCell (p := ⟨p, mo + 1536, none⟩) (.inl rfl) _
    have hB8 : Blk W8 p tp (cs.set (mo + 1536) (.int .i64 ((n : Int) + 1))) := by rw [hW8]; exact HB7.out.setCell (mo + 1536) _
    have HTb : Hid (TbAt W8 p mo tp pre post ag { t with heard := t.heard + 1 }) := ⟨_, hB8, by have := HC.out.setHeard (t.heard + 1); rw [← HNn.out] at this ⊢; exact this⟩
    have hNp : N6 + 1 ≠ p := by omega
    have hMp : M ≠ p := by have := HZ6.out; omega
    have HM8 := Lib.hid (H0.out.mv.only ho8 hMp)
    have HBs8 := Lib.hid ((HBs.out.only H0.out.only (fun h => h)).only ho8 hNp)
    have HBh8 := Lib.hid ((HBh.out.only H0.out.only (fun h => h)).only ho8 (by omega : ¬ N6 = p))
    have HO8 : Hid (Only (· = p) W W8) := (((HO6.out.trans H0.out.only (fun _ h => h.elim)).mono (T := (· = p)) (fun _ h => h.elim))).trans ho8 (fun i hi => .inl hi)
    have HVb : Hid (VerbsAt W8) := by
      have h6 := HT.out.verbs.only (HO6.out.trans H0.out.only (fun _ h => h.elim))
      intro j v hj
      refine ho8.cellv (h6 j v hj) ?_
      exact hgp
    have hNM : M ≠ N6 := by have := HZ6.out; omega
    have HS8 : Hid (∀ w, Only (fun i => i = p ∨ i = N6) W8 w → ((w.cell? ⟨M, 0, none⟩ = some (.int .i64 zk) ∧ w.cell? ⟨M, 1, none⟩ = some (.bool zo)) ∧ w.cell? ⟨M, 2, none⟩ = some (.int .i64 zm) ∧ w.cell? ⟨M, 3, none⟩ = some (.bool mw)) ∧ w.cell? ⟨N6 + 1, 0, none⟩ = some (.int .i64 qk) ∧ w.cell? ⟨N6 + 1, 1, none⟩ = some (.bool qo)) := fun w ho =>
      ⟨⟨⟨(HM8.out.only ho (by omega : ¬ (M = p ∨ M = N6))).cell 0, (HM8.out.only ho (by omega : ¬ (M = p ∨ M = N6))).cell 1⟩, (HM8.out.only ho (by omega : ¬ (M = p ∨ M = N6))).cell 2, (HM8.out.only ho (by omega : ¬ (M = p ∨ M = N6))).cell 3⟩, (HBs8.out.only ho (by omega : ¬ (N6 + 1 = p ∨ N6 + 1 = N6))).cell 0, (HBs8.out.only ho (by omega : ¬ (N6 + 1 = p ∨ N6 + 1 = N6))).cell 1⟩
    clear hW8 hB8 ho8 c36 f36
    go_region_held3 (fun w => ((w.cell? ⟨M, 0, none⟩ = some (.int .i64 zk) ∧ w.cell? ⟨M, 1, none⟩ = some (.bool zo)) ∧ w.cell? ⟨M, 2, none⟩ = some (.int .i64 zm) ∧ w.cell? ⟨M, 3, none⟩ = some (.bool mw)) ∧ w.cell? ⟨N6 + 1, 0, none⟩ = some (.int .i64 qk) ∧ w.cell? ⟨N6 + 1, 1, none⟩ = some (.bool qo))
      (first | exact HS8.out _ (Only.refl _ _).drew | exact HS8.out _ (ho9.out.mono (fun i h => .inl (.inl h))) | exact HS8.out _ (ho10.out.mono (fun i h => .inl (.inl h))) | exact HS8.out _ (ho11.out.mono (fun i h => .inl (.inl h))) | exact HS8.out _ (((((ho11.out.mono (T := fun i => i = p ∨ i = N6) (fun i h => .inl (.inl h))).setCell (p := ⟨N6, 0, none⟩) (.inl (.inr rfl)) _).setCell (p := ⟨N6, 1, none⟩) (.inl (.inr rfl)) _).setCell (p := ⟨N6, 2, none⟩) (.inl (.inr rfl)) _).setCell (p := ⟨N6, 3, none⟩) (.inl (.inr rfl)) _))
      (first
        | ((with_reducible refine (HMv.out _ HVb.out.drew _ HTb.out.drew HN.out).mono ?_); rintro e w9 ⟨rfl, ht, ho⟩; have ho9 := Lib.hid (((Only.refl (· = p) W8).drew).trans ho (fun i hi => .inl hi)); have HT9 := Lib.hid ht; clear ht ho)
        | ((with_reducible refine (HOm.out _).mono ?_); rintro e w10 ⟨rfl, ho⟩; have ho10 := Lib.hid (ho9.out.trans ho (fun _ h => h.elim)); have HT10 := Lib.hid (HT9.out.same ho); clear ho)
        | ((with_reducible refine (HOq.out _).mono ?_); rintro e w11 ⟨rfl, ho⟩; have ho11 := Lib.hid (ho10.out.trans ho (fun _ h => h.elim)); have HT11 := Lib.hid (HT10.out.same ho); have hb := HBh8.out.only ho11.out (by omega : ¬ N6 = p); have y0 : w11.cell? ⟨N6, 0, none⟩ = some (.int .i64 0) := hb.cell 0; have y1 : w11.cell? ⟨N6, 1, none⟩ = some (.int .i64 0) := hb.cell 1; have y2 : w11.cell? ⟨N6, 2, none⟩ = some (.bool false) := hb.cell 2; have y3 : w11.cell? ⟨N6, 3, none⟩ = some (.bool false) := hb.cell 3; have g0 := hb.frozen 0; have g1 := hb.frozen 1; have g2 := hb.frozen 2; have g3 := hb.frozen 3; have HBh11 := Lib.hid hb; clear ho hb))
    have hB12 := (((HBh11.out.setCell 0 (.int .i64 (s : Int))).setCell 1 (.int .i64 tv)).setCell 2 (.bool (!bm == bq))).setCell 3 (.bool mw)
    have hT12 := HT11.out.only (((((Only.refl (· = N6) w11).setCell (p := ⟨N6, 0, none⟩) (.inl rfl) (.int .i64 (s : Int))).setCell (p := ⟨N6, 1, none⟩) (.inl rfl) (.int .i64 tv)).setCell (p := ⟨N6, 2, none⟩) (.inl rfl) (.bool (!bm == bq))).setCell (p := ⟨N6, 3, none⟩) (.inl rfl) (.bool mw)) (by omega : ¬ p = N6)
    have hO12 := (HO8.out.trans ho11.out (fun i hi => .inl hi)).trans (((((Only.refl (· = N6) w11).setCell (p := ⟨N6, 0, none⟩) (.inl rfl) (.int .i64 (s : Int))).setCell (p := ⟨N6, 1, none⟩) (.inl rfl) (.int .i64 tv)).setCell (p := ⟨N6, 2, none⟩) (.inl rfl) (.bool (!bm == bq))).setCell (p := ⟨N6, 3, none⟩) (.inl rfl) (.bool mw)) (fun i hi => .inr (by have := HNW.out; omega))
    clear y0 y1 y2 y3 g0 g1 g2 g3
    go_wp2
    refine ret_cell2 rfl N6 rfl _ [.int .i64 (s : Int), .int .i64 tv, .bool (!bm == bq), .bool mw] _ hB12 Tryz.underlying309 rfl size_heard rfl ?_
    refine ⟨?_, ?_, hO12⟩
    · cases bm <;> cases bq <;> rfl
    · exact hT12
end Go.Proofs.YtbnfhklpobephaaGreatDoor
