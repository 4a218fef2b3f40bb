/- subneg.New: a hub that has heard nothing. -/
import Derived.Test.YtlmkpembccehkaaGreatDoorSnReset
import Derived.Test.YtlmkpembccehkaaGreatDoorJSnMaps
import Derived.Test.YtlmkpembccehkaaGreatDoorJTtBody
import Derived.Test.YtlmkpembccehkaaGreatDoorNawsBody
import Derived.Test.YtlmkpembccehkaaGreatDoorJTbSt
namespace Go.Proofs.YtlmkpembccehkaaGreatDoor
open Go Go.RowKit
set_option maxRecDepth 100000
set_option maxHeartbeats 4000000

section
variable {P : Program} {ops : Array Oper} {S : World → Prop} {op : Oper} {a : Act} {w : World} {K : Act → World → Prop} {Q : Exit → Act → World → Prop}
theorem yields_build (hw : Region.wanted op (yielded ops a.tmps) = true) (t : TypeId) (parts : Array (Nat × Operand)) (ho : op.op = .build t parts) (cells : Array Value) (hb : P.built t (parts.map fun (i, x) => (i, a.eval x)).toList = some cells) : YieldsIf P ops S op (.agg cells) a :=
  .inl ⟨hw, fun w _ => by
    unfold execOp
    simp only [ho, Sem.run_bind, run_build w t _ cells hb, Result.andThen_ok]
    rfl⟩
theorem wp_box (t : TypeId) (x : Operand) (ho : op.op = .box t x) (cells : Array Value) (hx : a.eval x = .agg cells) (h : K (a.put op.dst (.pointer (some ⟨w.heap.size, 0, none⟩))) (w.alloc (.cells cells t))) : op.wp P a w K Q := by
  unfold Oper.wp execOp
  simp only [ho, hx, Sem.run_bind, Instr.box, newVar, newRow, run_newObj_alloc, Sem.run_pure, Result.andThen_ok]
  exact h
end
/-- A hub as it is made. -/
def hb0 (sz ca ho : Value) (can : Int) : Hb := { sz := sz, ca := ca, ck := 0, ho := ho, can := can, pc := 0, pr := 0, li := Ls.none, rep := .slice none 0 0, sd := sc0, hm := 0, hw := false, tc := 0, tm := 0, ma := mkZ.map B8, ms := false }
theorem hb0_ok (sz ca ho : Value) (can : Int) : (hb0 sz ca ho can).Ok := ⟨Ls.none_ok, ⟨_, sc0_c⟩, rfl⟩
theorem built_hub (N : Nat) (A : Option Addr) (n c M : Nat) (can : Int) :
    Tryz.prog.built 88 [(0, .slice (some ⟨N, 0, none⟩) 4 4), (1, .agg #[.slice A n c, .int .i64 0]), (2, .slice (some ⟨M, 0, none⟩) 18 18), (3, .int .i64 can)] = some (hb0 (.slice (some ⟨N, 0, none⟩) 4 4) (.slice A n c) (.slice (some ⟨M, 0, none⟩) 18 18) can).cs.toArray := by kernel_rfl
@[reducible] def cfV (cc cr : Int) (A : Option Addr) (n cA : Nat) (B : Option Addr) (m cB : Nat) (can : Int) : Value := .agg #[.int .i64 cc, .int .i64 cr, .slice A n cA, .slice B m cB, .int .i64 can]
@[reducible] def cfC (cc cr : Int) (A : Option Addr) (n cA : Nat) (B : Option Addr) (m cB : Nat) (can : Int) : List Value := [.int .i64 cc, .int .i64 cr, .slice A n cA, .slice B m cB, .int .i64 can]
/-- Is such a config right? -/
def cfGood (cc cr : Int) (ts : List (List UInt8)) : Bool := (fitsN cc && fitsN cr) && (decide (1 ≤ ts.length ∧ ts.length ≤ 8) && ts.all okT)
/-- A new hub. -/
structure NewHub (w w' : World) (p : Nat) (cc cr : Int) (ts : List (List UInt8)) (h : Hb) : Prop where
  hub : HuAt w' p h
  new : w.heap.size ≤ p
  sz : ∃ N, h.sz = .slice (some ⟨N, 0, none⟩) 4 4 ∧ Src w' (some ⟨N, 0, none⟩) 4 (bodyOf cc cr) ∧ N < p
  cyc : CyOk w' h ts 0
  old : ∀ A n c, h.ca = .slice A n c → ∀ ad, A = some ad → 0 < n → ad.block < p
  pc : h.pc = 0
  pr : h.pr = 0
  li : h.li = Ls.none
  tc : ∃ can, h.tc = canOf can
section
variable {w : World} {es : List Addr} {cc cr can : Int} {A B : Option Addr} {n cA m cB : Nat} {ts : List (List UInt8)} {l : List Se}
theorem snNew_bad (hE : ErrsAt w es) (hts : TSrc w A n ts) (hb : cfGood cc cr ts = false) :
    Calls Tryz.prog 7 #[cfV cc cr A n cA B m cB can] w fun e w' => ∃ a, e = .returned (.tuple #[.pointer none, .iface 191 (.pointer (some a))]) ∧ Hid (Only (fun _ => False) w w') := by
  have hO : ∀ ob, Only (fun _ => False) w (w.alloc ob) := fun ob => (Only.refl _ _).alloc ob
  cases hf : (fitsN cc && fitsN cr) with
  | false =>
    have HN := Lib.hid (fun ob => nbody_bad ((hE.only (hO ob)).of [0, 2, 3]) cc cr hf)
    clear hE hts hb hf hO
    unfold szVal at HN
    go_enter Tryz.func7, Tryz.ntmps7
    go_wp2_with (go_at_call 20; (with_reducible refine (HN.out _).mono ?_); rintro e w1 ⟨a, ha, rfl, ho1⟩; have HO1 : Hid (Only (fun _ => False) w w1) := ((Only.refl _ _).alloc _).trans ho1 (fun _ h => h.elim); unfold errV; clear ho1)
    go_ret2
    exact ⟨a, rfl, HO1.out⟩
  | true =>
    obtain ⟨h1, h2⟩ := (Bool.and_eq_true _ _).mp hf
    have HN := Lib.hid (fun W => nbody_ok W cc cr h1 h2)
    unfold szVal at HN
    have HT : Hid (∀ W, Only (fun _ => False) w W → Calls Tryz.prog 21 #[.slice A n cA] W fun e w' => ∃ a, e = .returned (.tuple #[.pointer none, .iface 191 (.pointer (some a))]) ∧ Only (fun _ => False) W w') := by
      intro W ho
      unfold cfGood at hb
      rw [hf, Bool.true_and] at hb
      by_cases hn : 1 ≤ n ∧ n ≤ 8
      · rw [decide_eq_true (by rw [hts.1]; exact hn), Bool.true_and] at hb
        refine (new_name ((hE.only ho).of [0, 2, 3, 4, 5]) cA (hts.same ho) hn.1 hn.2 hb).mono ?_
        rintro e w' ⟨a, _, rfl, h⟩
        exact ⟨a, rfl, h⟩
      · refine (new_range ((hE.only ho).of [0, 2, 3, 4, 5]) A n cA (by omega)).mono ?_
        rintro e w' ⟨a, _, rfl, h⟩
        exact ⟨a, rfl, h⟩
    clear hE hts hb hf hO h1 h2
    go_enter Tryz.func7, Tryz.ntmps7
    go_wp2_with (first
      | (go_at_call 20; (with_reducible refine (HN.out _).mono ?_); rintro e w1 ⟨N, rfl, hs1, ho1⟩; have HO1 : Hid (Only (fun _ => False) w w1) := ((Only.refl _ _).alloc _).trans ho1.out (fun _ h => h.elim); have c2 : w1.cell? ⟨w.heap.size, 2, none⟩ = some (.slice A n cA) := ((Blk.new w 27 (cfC cc cr A n cA B m cB can)).only ho1.out (fun h => h)).cell 2; clear ho1 hs1)
      | (go_at_call 21; (with_reducible refine (HT.out _ HO1.out).mono ?_); rintro e w2 ⟨a, rfl, ho2⟩; have HO2 := Lib.hid (HO1.out.trans ho2 (fun _ h => h.elim)); clear ho2))
    go_ret2
    exact ⟨a, rfl, HO2.out⟩
theorem snNew_ok (hts : TSrc w A n ts) (hst : StAt w B m l) (hm : m ≤ cB) (hcB : cB ≤ 9223372036854775807) (hg : cfGood cc cr ts = true) :
    Calls Tryz.prog 7 #[cfV cc cr A n cA B m cB can] w fun e w' => ∃ p, e = .returned (.tuple #[.pointer (some ⟨p, 0, none⟩), .nilIface]) ∧ Hid (∃ h, NewHub w w' p cc cr ts h) ∧ Hid (Only (fun _ => False) w w') := by
  unfold cfGood at hg
  obtain ⟨hf, hg⟩ := (Bool.and_eq_true _ _).mp hg
  obtain ⟨h1, h2⟩ := (Bool.and_eq_true _ _).mp hf
  obtain ⟨hn, ho⟩ := (Bool.and_eq_true _ _).mp hg
  have hn := of_decide_eq_true hn
  have HN := Lib.hid (fun W => nbody_ok W cc cr h1 h2)
  unfold szVal at HN
  have HT := Lib.hid (fun W (hO : Only (fun _ => False) w W) => new_ok cA (hts.same hO) (by rw [← hts.1]; exact hn.1) (by rw [← hts.1]; exact hn.2) ho)
  have HH := Lib.hid (fun W (hO : Only (fun _ => False) w W) => snHeld_any (hst.same hO) hm hcB)
  have HG := Lib.hid (And.intro hn ho)
  have HCf := Lib.hid (fun W (hO : Only (fun _ => False) (w.alloc (.cells (cfC cc cr A n cA B m cB can).toArray 27)) W) => (Blk.new w 27 (cfC cc cr A n cA B m cB can)).only hO (fun h => h))
  clear hts hst hm hcB hg hf h1 h2 hn ho
  go_enter Tryz.func7, Tryz.ntmps7
  go_wp2_with (first
    | (go_at_call 20; (with_reducible refine (HN.out _).mono ?_); rintro e w1 ⟨N, rfl, hs1, ho1⟩; have HC1 := Lib.hid ho1.out; have HO1 : Hid (Only (fun _ => False) w w1) := ((Only.refl _ _).alloc _).trans ho1.out (fun _ h => h.elim); have c2 : w1.cell? ⟨w.heap.size, 2, none⟩ = some (.slice A n cA) := (HCf.out _ HC1.out).cell 2; clear ho1)
    | (go_at_call 21; (with_reducible refine (HT.out _ HO1.out).mono ?_); rintro e w2 ⟨q, rfl, hc2, hq2, ho2⟩; have HO2 := Lib.hid (HO1.out.trans ho2 (fun _ h => h.elim)); have HC2 := Lib.hid (HC1.out.trans ho2 (fun _ h => h.elim)); have HCy := Lib.hid hc2; have HS2 := Lib.hid (hs1.out.only ho2 (fun _ _ _ h => h)); clear ho2 hc2 c2 hq2))
  have HCf2 := Lib.hid (HCf.out _ HC2.out)
  have hcq : ∃ A2 c2, Blk w2 q 68 [.slice A2 ts.length c2, .int .i64 0] ∧ TSrc w2 A2 ts.length ts := by
    obtain ⟨A2, c2, h1, h2, _⟩ := HCy.out
    exact ⟨A2, c2, h1, h2⟩
  obtain ⟨A2, c2, hbq, hsA⟩ := hcq
  have HBq := Lib.hid hbq
  have HSA := Lib.hid hsA
  clear hbq hsA HCy
  go_wp2
  refine wp_region_noPanic ?_
  refine wp_region_held_drew (S := fun W => Only (fun _ => False) w2 W) (by kernel_rfl) ((Only.refl _ _).drew) (fun hHeld => ?_)
  refine wpAnyH_take (i := 0) (v := .slice (some ⟨N, 0, none⟩) 4 4) rfl (by kernel_rfl) (by kernel_rfl) (by kernel_rfl) (fun _ _ _ h => h) (Or.inl ⟨by rfl, fun W hSw => by (first | (go_simp; done) | (go_simp; with_reducible rfl) | (go_simp; rfl))⟩) hHeld ?_
  try simp only [List.getElem_toArray, List.getElem_cons_zero, List.getElem_cons_succ, Act.put, List.setIfInBounds_toArray, List.set_cons_zero, List.set_cons_succ]
  refine wpAnyH_take (i := 1) (v := .pointer (some ⟨q, 0, none⟩)) rfl (by kernel_rfl) (by kernel_rfl) (by kernel_rfl) (fun _ _ _ h => h) (Or.inl ⟨by rfl, fun W hSw => by (first | (go_simp; done) | (go_simp; with_reducible rfl) | (go_simp; rfl))⟩) hHeld ?_
  try simp only [List.getElem_toArray, List.getElem_cons_zero, List.getElem_cons_succ, Act.put, List.setIfInBounds_toArray, List.set_cons_zero, List.set_cons_succ]
  refine wpAnyH_take (i := 2) (v := .pointer (some ⟨q, 0, none⟩)) rfl (by kernel_rfl) (by kernel_rfl) (by kernel_rfl) (fun _ _ _ h => h) (Or.inl ⟨by rfl, fun W hSw => by (first | (go_simp; done) | (go_simp; with_reducible rfl) | (go_simp; rfl))⟩) hHeld ?_
  try simp only [List.getElem_toArray, List.getElem_cons_zero, List.getElem_cons_succ, Act.put, List.setIfInBounds_toArray, List.set_cons_zero, List.set_cons_succ]
  refine wpAnyH_take (i := 3) (v := .agg #[.slice A2 ts.length c2, .int .i64 0]) rfl (by kernel_rfl) (by kernel_rfl) (by kernel_rfl) (fun _ _ _ h => h) (yieldsIf_load_mid (by rfl) 68 _ rfl q 0 rfl [.slice A2 ts.length c2, .int .i64 0] _ (fun W h => rng_blk (HBq.out.only h (fun h => h))) Tryz.underlying68 rfl (by kernel_rfl)) hHeld ?_
  simp only [List.getElem_toArray, List.getElem_cons_zero, List.getElem_cons_succ, Act.put, List.setIfInBounds_toArray, List.set_cons_zero, List.set_cons_succ]
  refine wpAnyH_take (i := 4) (v := .pointer (some ⟨w.heap.size, 3, none⟩)) rfl (by kernel_rfl) (by kernel_rfl) (by kernel_rfl) (fun _ _ _ h => h) (Or.inl ⟨by rfl, fun W hSw => by (first | (go_simp; done) | (go_simp; with_reducible rfl) | (go_simp; rfl))⟩) hHeld ?_
  try simp only [List.getElem_toArray, List.getElem_cons_zero, List.getElem_cons_succ, Act.put, List.setIfInBounds_toArray, List.set_cons_zero, List.set_cons_succ]
  refine wpAnyH_take (i := 5) (v := .slice B m cB) rfl (by kernel_rfl) (by kernel_rfl) (by kernel_rfl) (fun _ _ _ h => h) (Or.inl ⟨by rfl, fun W hSw => by (have d3 := (HCf.out _ (HC2.out.trans hSw (fun _ h => h.elim))).cell 3; first | (go_simp; done) | (go_simp; with_reducible rfl) | (go_simp; rfl))⟩) hHeld ?_
  try simp only [List.getElem_toArray, List.getElem_cons_zero, List.getElem_cons_succ, Act.put, List.setIfInBounds_toArray, List.set_cons_zero, List.set_cons_succ]
  refine wpAnyH_take (i := 7) (v := .pointer (some ⟨w.heap.size, 4, none⟩)) rfl (by kernel_rfl) (by kernel_rfl) (by kernel_rfl) (fun _ _ _ h => h) (Or.inl ⟨by rfl, fun W hSw => by (first | (go_simp; done) | (go_simp; with_reducible rfl) | (go_simp; rfl))⟩) hHeld ?_
  try simp only [List.getElem_toArray, List.getElem_cons_zero, List.getElem_cons_succ, Act.put, List.setIfInBounds_toArray, List.set_cons_zero, List.set_cons_succ]
  refine wpAnyH_take (i := 8) (v := .int .i64 can) rfl (by kernel_rfl) (by kernel_rfl) (by kernel_rfl) (fun _ _ _ h => h) (Or.inl ⟨by rfl, fun W hSw => by (have d4 := (HCf.out _ (HC2.out.trans hSw (fun _ h => h.elim))).cell 4; first | (go_simp; done) | (go_simp; with_reducible rfl) | (go_simp; rfl))⟩) hHeld ?_
  try simp only [List.getElem_toArray, List.getElem_cons_zero, List.getElem_cons_succ, Act.put, List.setIfInBounds_toArray, List.set_cons_zero, List.set_cons_succ]
  refine wpAnyH_ready (rs := [6]) (by kernel_rfl) (by simp) ?_
  refine AllReadyH.cons rfl (fun K hK => ?_) AllReadyH.nil
  go_simp
  (go_at_call 22; (with_reducible refine (HH.out _ HO2.out.drew).mono ?_); rintro e w3 ⟨M, l', rfl, hst3, hM3, ho3⟩)
  refine hK.out _ _ (hHeld.trans ho3.out (fun _ h => h.elim)) (fun hHeld => ?_)
  clear hK K
  have HO3 := Lib.hid hHeld
  refine wpAnyH_take (i := 9) (v := .agg (hb0 (.slice (some ⟨N, 0, none⟩) 4 4) (.slice A2 ts.length c2) (.slice (some ⟨M, 0, none⟩) 18 18) can).cs.toArray) rfl (by kernel_rfl) (by kernel_rfl) (by kernel_rfl) (fun _ _ _ h => h) (yields_build (by rfl) 88 #[(0, .tmp 26), (1, .tmp 29), (2, .tmp 32), (3, .tmp 34)] rfl _ (Eq.trans (congrArg _ (by simp only [List.map_toArray, List.map_cons, List.map_nil]; rfl)) (built_hub N A2 ts.length c2 M can))) hHeld ?_
  simp only [List.getElem_toArray, List.getElem_cons_zero, List.getElem_cons_succ, Act.put, List.setIfInBounds_toArray, List.set_cons_zero, List.set_cons_succ]
  refine wpAnyH_ready (rs := [10]) (by kernel_rfl) (by simp) ?_
  refine AllReadyH.cons rfl (fun K hK => ?_) AllReadyH.nil
  rw [if_pos (by rfl)]
  refine wp_box 88 _ rfl (hb0 (.slice (some ⟨N, 0, none⟩) 4 4) (.slice A2 ts.length c2) (.slice (some ⟨M, 0, none⟩) 18 18) can).cs.toArray rfl ?_
  refine hK.out _ _ (hHeld.alloc _) (fun hHeld => ?_)
  clear hK K
  have hHu : Hid (HuAt (w3.alloc (.cells (hb0 (.slice (some ⟨N, 0, none⟩) 4 4) (.slice A2 ts.length c2) (.slice (some ⟨M, 0, none⟩) 18 18) can).cs.toArray 88)) w3.heap.size (hb0 (.slice (some ⟨N, 0, none⟩) 4 4) (.slice A2 ts.length c2) (.slice (some ⟨M, 0, none⟩) 18 18) can)) := ⟨hb0_ok _ _ _ _, Blk.new w3 _ _⟩
  have HO4 := Lib.hid hHeld
  obtain ⟨w4, hw4⟩ : ∃ w4, w4 = w3.alloc (.cells (hb0 (.slice (some ⟨N, 0, none⟩) 4 4) (.slice A2 ts.length c2) (.slice (some ⟨M, 0, none⟩) 18 18) can).cs.toArray 88) := ⟨_, rfl⟩
  have HS4 : Hid (StAt w4 (some ⟨M, 0, none⟩) 18 l') := by rw [hw4]; exact hst3.out.same ((Only.refl _ _).alloc _)
  rw [← hw4] at hHu HO4 ⊢
  obtain ⟨p, hp⟩ : ∃ p, p = w3.heap.size := ⟨_, rfl⟩
  rw [← hp] at hHu ⊢
  have HP := Lib.hid hp
  clear hw4 hp
  refine wpAnyH_ready (rs := [11]) (by kernel_rfl) (by simp) ?_
  refine AllReadyH.cons rfl (fun K hK => ?_) AllReadyH.nil
  go_simp
  refine hK.out _ _ HO4.out (fun hHeld => ?_)
  clear hK K
  refine wpAnyH_done (by kernel_rfl) (NoPanic.normal ?_) _
  have HRs := Lib.hid (snReset_any hHu.out rfl HS4.out)
  clear hHeld
  go_wp2_with (go_at_call 23; (with_reducible refine HRs.out.mono ?_); rintro e w5 ⟨rfl, hh5, ho5⟩)
  go_ret2
  obtain ⟨cs, hh5⟩ := hh5
  have hz23 : w2.heap.size ≤ w3.heap.size := HO3.out.size
  have hz2 := HO2.out.size
  have hpe := HP.out
  have hnp : ∀ i, i < w2.heap.size → ¬ i = p := fun i hi => by omega
  refine ⟨p, rfl, ⟨_, hh5, by omega, ⟨N, rfl, ?_, ?_⟩, ⟨⟨A2, c2, rfl, ?_⟩, by simp [Hb.again, hb0], HG.out.1.1, HG.out.1.2, List.all_eq_true.1 HG.out.2⟩, ?_, rfl, rfl, rfl, ⟨_, rfl⟩⟩, ?_⟩
  · exact (HS2.out.only HO4.out (fun _ _ _ h => h)).only ho5 (fun h0 ad e => by injection e with e; subst e; exact hnp _ (HS2.out.lt h0 _ rfl))
  · have := HS2.out.lt (by omega) _ rfl
    simp only at this
    omega
  · exact (HSA.out.same HO4.out).only ho5 (fun h0 ad e => hnp _ (HSA.out.lt h0 _ e))
  · intro A n c e ad ha h0
    injection e with e1 e2 e3
    subst e1 e2
    have := HSA.out.lt h0 _ ha
    omega
  · exact (HO2.out.trans HO4.out (fun _ h => h.elim)).trans ho5 (fun i hi => .inr (by omega))

end
end Go.Proofs.YtlmkpembccehkaaGreatDoor
