/- Several texts in one. -/
import Derived.Test.YtbnfhklpobephaaGreatDoorJSnSize
import Derived.Test.YtbnfhklpobephaaGreatDoorJSnTurned
import Derived.Test.YtbnfhklpobephaaGreatDoorJSnType
import Derived.Test.YtbnfhklpobephaaGreatDoorKAlloc
import Derived.Test.YtbnfhklpobephaaGreatDoorJTb
/- What New of a hub lays lies in new blocks. -/
namespace Go.Proofs.YtbnfhklpobephaaGreatDoor
open Go Go.RowKit
set_option maxRecDepth 100000
set_option maxHeartbeats 4000000

theorem clone_new {w : World} {A : Option Addr} {n c : Nat} {ts : List (List UInt8)} (hs : TSrc w A n ts) (hn63 : n ≤ 1048576) :
    Calls Tryz.prog 133 #[.slice A n c] w fun e w' => ∃ A' c', e = .returned (.slice A' n c') ∧ TSrc w' A' n ts ∧ n ≤ c' ∧ c' ≤ 9223372036854775807 ∧ (∀ ad, A' = some ad → 0 < n → w.heap.size ≤ ad.block) ∧ Only (fun _ => False) w w' := by
  obtain ⟨i0, hi0, hz0, hz1, hz2⟩ := info_parts info_str
  have hl : ts.length = n := hs.1
  have qn : ∀ (w : World) (a : Option Addr) (n c n' c' : Nat), (binOp .eql 27 (.slice a n c) (.slice none n' c')).run Tryz.prog w = .ok (.bool a.isNone) w := fun w a n c n' c' => Lib.run_eql_slice_nil w _ _ a n c n' c' Tryz.underlying27
  have HO := Lib.hid (((Only.refl (fun _ => False) w).alloc (.cells #[] 9)))
  have HE := Lib.hid (own_of_blk (B := w.heap.size) (c := 0) (s := 1) (n := 0) (xs := []) (Blk.new w 9 []) rfl rfl (by omega) (by omega) (Nat.le_refl _))
  have HS := Lib.hid hs
  have HL := Lib.hid hl
  clear hs hl
  cases A with
  | none =>
    have h0 : n = 0 := by
      rcases Nat.eq_zero_or_pos n with h | h
      · exact h
      · obtain ⟨_, h, _⟩ := HS.out.2 h
        cases h
    subst h0
    go_enter Tryz.func133, Tryz.ntmps133
    go_wp2
    go_ret
    exact ⟨_, _, rfl, HS.out, Nat.le_refl _, by omega, fun ad e => (by cases e), Only.refl _ _⟩
  | some ad =>
    have HN : Hid (∀ (j : Nat) (u : Value), (ts.map S8)[j]? = some u → (w.alloc (.cells #[] 9)).cell? (ad.add j) = some u) := fun j u hj => by
      have hn : 0 < n := by
        have := (List.getElem?_eq_some_iff.1 hj).1
        rw [List.length_map, HL.out] at this
        omega
      obtain ⟨ad', e, hc⟩ := HS.out.2 hn
      injection e with e
      subst e
      rw [List.getElem?_map] at hj
      cases hx : ts[j]? with
      | none => rw [hx] at hj; cases hj
      | some s =>
        rw [hx] at hj
        injection hj with hj
        subst hj
        exact HO.out.cellv (hc j s hx) (fun h => h)
    go_enter Tryz.func133, Tryz.ntmps133
    go_wp2_with (at_builtin; refine step_append_own rfl (.tmp 5) (.tmp 6) 27 rfl w.heap.size 9 i0 _ 1 16 Tryz.underlying27 hi0 hz0 hz1 hz2 rfl (by omega) _ 0 [] rfl HE.out (some ad) n c (ts.map S8) rfl (by rw [List.length_map, HL.out]; omega) (fun hn => ⟨ad, rfl, HN.out⟩) (S8_one _) (by omega) (by omega) (by simp) ?_; intro A' c' w2 hl1 hl2 hq; have HQ := Lib.hid hq.out; clear hq)
    go_ret
    obtain ⟨hown, hgr, _⟩ := HQ.out
    rw [Nat.zero_add, List.nil_append] at hown
    refine ⟨A', c', rfl, TSrc.of_own hown, by omega, hl2, fun ad e h0 => ?_, HO.out.grown hgr (fun q hq => .inr (by cases hq; exact Nat.le_refl _))⟩
    obtain ⟨g, e', h1, _⟩ := own_at hown h0
    rw [e'] at e
    injection e with e
    subst e
    exact h1
theorem ttnew_new {w : World} {A : Option Addr} {n : Nat} (c : Nat) {ts : List (List UInt8)} (hs : TSrc w A n ts) (h1 : 1 ≤ n) (h8 : n ≤ 8) (h : ts.all okT = true) :
    Calls Tryz.prog 80 #[.slice A n c] w fun e w' => ∃ p, e = .returned (.tuple #[.pointer (some ⟨p, 0, none⟩), .nilIface]) ∧ (∃ A' c', Blk w' p 103 [.slice A' ts.length c', .int .i64 0] ∧ TSrc w' A' ts.length ts ∧ ∀ ad, A' = some ad → w.heap.size ≤ ad.block) ∧ w.heap.size ≤ p ∧ Only (fun _ => False) w w' := by
  have HS := Lib.hid hs
  have HR := Lib.hid (fun W s => ttright_any W s)
  have HB := Lib.hid h
  have HCl := Lib.hid (clone_new (c := c) hs (by omega))
  clear hs h
  have hd : decide ((n : Int) < 1) = false := by simp; omega
  have hd2 : decide ((8 : Int) < (n : Int)) = false := by simp; omega
  go_enter Tryz.func80, Tryz.ntmps80
  go_wp2
  go_loop [17] (fun i => ∃ k : Nat, k ≤ n ∧ i = .int .i64 (k : Int)) (fun i => n - (intOf i).toNat)
  case atStart => exact ⟨0, Nat.zero_le _, rfl⟩
  case round =>
    obtain ⟨k, hk, rfl⟩ := hrel
    by_cases hlt : k < n
    · obtain ⟨ad, s, rfl, hx, hcs⟩ := HS.out.get hlt
      have ho : okT s = true := by
        have := HB.out
        rw [List.all_eq_true] at this
        exact this s (List.mem_of_getElem? hx)
      have HRs := Lib.hid (fun W => HR.out W s)
      rw [ho] at HRs
      clear hx ho
      go_wp2_with (go_at_call 132; (with_reducible refine (HRs.out _).mono ?_); rintro e w1 ⟨rfl, e1⟩; subst w1)
      go_round
      case rel => exact ⟨k + 1, by omega, by go_num⟩
      case measure => simp [intOf]; omega
    · go_wp2_with (go_at_call 133; refine HCl.out.mono ?_; rintro e w1 ⟨A', c', rfl, hs1, hl1, hl2, hnw, ho1⟩; have HNw := Lib.hid hnw; clear hnw; have HS1 := Lib.hid hs1; have HO1 := Lib.hid ho1; clear hs1 ho1)
      go_ret2
      have hl := HS1.out.1
      subst hl
      have hb := Blk.new w1 103 [.slice A' ts.length c', .int .i64 0]
      exact ⟨w1.heap.size, rfl, ⟨A', c', hb, HS1.out.same ((Only.refl _ _).alloc _), fun ad e => HNw.out ad e (by omega)⟩, HO1.out.size, HO1.out.alloc _⟩

theorem nbody_new (w : World) (c r : Int) (hc : fitsN c = true) (hr : fitsN r = true) :
    Calls Tryz.prog 79 #[szVal c r] w fun e w' => ∃ N, e = .returned (.tuple #[.slice (some ⟨N, 0, none⟩) 4 4, .nilIface]) ∧ Hid (Src w' (some ⟨N, 0, none⟩) 4 (bodyOf c r)) ∧ Hid (Only (fun _ => False) w w') ∧ w.heap.size ≤ N := by
  have HR := Lib.hid (fun W => nright_any W c r)
  rw [hc, hr] at HR
  have HB := Lib.hid (bodyOf_cells hc hr)
  have HHc : Hid (∀ W, _) := Lib.hid (fun W => high_any W c hc)
  have HHr : Hid (∀ W, _) := Lib.hid (fun W => high_any W r hr)
  have HLc : Hid (∀ W, _) := Lib.hid (fun W => low_any W c hc)
  have HLr : Hid (∀ W, _) := Lib.hid (fun W => low_any W r hr)
  clear hc hr
  unfold szVal at *
  go_enter Tryz.func79, Tryz.ntmps79
  go_wp2_with (go_at_call 129; refine (HR.out _).mono ?_; rintro e w1 ⟨rfl, ho1⟩; have HO1 := Lib.hid ho1; clear ho1)
  have HBk : Hid (Blk w1 w.heap.size 26 [.int .i64 c, .int .i64 r]) := (Blk.new w 26 [.int .i64 c, .int .i64 r]).only HO1.out (fun h => h)

  generalize w.heap.size = N at *
  go_region_held3 (fun W => W.cell? ⟨N, 0, none⟩ = some (.int .i64 c) ∧ W.cell? ⟨N, 1, none⟩ = some (.int .i64 r))
    (first | exact ⟨HBk.out.cell 0, HBk.out.cell 1⟩ | exact ⟨(HBk.out.alloc _).cell 0, (HBk.out.alloc _).cell 1⟩)
    (first
      | (go_at_call 130; (with_reducible refine (HHc.out _).mono ?_); rintro e w' ⟨rfl, e2⟩; subst w')
      | (go_at_call 130; (with_reducible refine (HHr.out _).mono ?_); rintro e w' ⟨rfl, e2⟩; subst w')
      | (go_at_call 131; (with_reducible refine (HLc.out _).mono ?_); rintro e w' ⟨rfl, e2⟩; subst w')
      | (go_at_call 131; (with_reducible refine (HLr.out _).mono ?_); rintro e w' ⟨rfl, e2⟩; subst w'))
  go_wp2
  go_ret2
  exact ⟨_, rfl, src_new w1 (bodyOf c r) _ 5 _ 4 (by rw [HB.out]) rfl, ((((Only.refl _ w).alloc _).trans HO1.out (fun _ h => h.elim)).alloc _).drew, by have := HO1.out.size; simp at this; omega⟩
end Go.Proofs.YtbnfhklpobephaaGreatDoor
/- subneg.New: a hub that has heard nothing, with all that it says. -/
namespace Go.Proofs.YtbnfhklpobephaaGreatDoor
open Go Go.RowKit
set_option maxRecDepth 100000
set_option maxHeartbeats 4000000

section
variable {P : Program} {ops : Array Oper} {S : World → Prop} {op : Oper} {a : Act} {w : World} {K : Act → World → Prop} {Q : Exit → Act → World → Prop}
theorem yields_build (hw : Region.wanted op (yielded ops a.tmps) = true) (t : TypeId) (parts : Array (Nat × Operand)) (ho : op.op = .build t parts) (cells : Array Value) (hb : P.built t (parts.map fun (i, x) => (i, a.eval x)).toList = some cells) : YieldsIf P ops S op (.agg cells) a :=
  .inl ⟨hw, fun w _ => by
    unfold execOp
    simp only [ho, Sem.run_bind, run_build w t _ cells hb, Result.andThen_ok]
    rfl⟩
theorem wp_box (t : TypeId) (x : Operand) (ho : op.op = .box t x) (cells : Array Value) (hx : a.eval x = .agg cells) (h : K (a.put op.dst (.pointer (some ⟨w.heap.size, 0, none⟩))) (w.alloc (.cells cells t))) : op.wp P a w K Q := by
  unfold Oper.wp execOp
  simp only [ho, hx, Sem.run_bind, Instr.box, newVar, newRow, run_newObj_alloc, Sem.run_pure, Result.andThen_ok]
  exact h
end
/-- A hub as it is made. -/
def hb0 (sz ca ho : Value) (can : Int) : Hb := { sz := sz, ca := ca, ck := 0, ho := ho, can := can, pc := 0, pr := 0, li := Ls.none, rep := .slice none 0 0, sd := sc0, hm := 0, hw := false, tc := 0, tm := 0, ma := mkZ.map B8, ms := false }
theorem hb0_ok (sz ca ho : Value) (can : Int) : (hb0 sz ca ho can).Ok := ⟨Ls.none_ok, ⟨_, sc0_c⟩, rfl⟩
theorem built_hub (N : Nat) (A : Option Addr) (n c M : Nat) (can : Int) :
    Tryz.prog.built 122 [(0, .slice (some ⟨N, 0, none⟩) 4 4), (1, .agg #[.slice A n c, .int .i64 0]), (2, .slice (some ⟨M, 0, none⟩) 18 18), (3, .int .i64 can)] = some (hb0 (.slice (some ⟨N, 0, none⟩) 4 4) (.slice A n c) (.slice (some ⟨M, 0, none⟩) 18 18) can).cs.toArray := by kernel_rfl
@[reducible] def cfV (cc cr : Int) (A : Option Addr) (n cA : Nat) (B : Option Addr) (m cB : Nat) (can : Int) : Value := .agg #[.int .i64 cc, .int .i64 cr, .slice A n cA, .slice B m cB, .int .i64 can]
@[reducible] def cfC (cc cr : Int) (A : Option Addr) (n cA : Nat) (B : Option Addr) (m cB : Nat) (can : Int) : List Value := [.int .i64 cc, .int .i64 cr, .slice A n cA, .slice B m cB, .int .i64 can]
/-- Is such a config right? -/
def cfGood (cc cr : Int) (ts : List (List UInt8)) : Bool := (fitsN cc && fitsN cr) && (decide (1 ≤ ts.length ∧ ts.length ≤ 8) && ts.all okT)
/-- A new hub. -/
def NewHs (w w' : World) (p : Nat) (H : Hs) : Prop := ∃ h, HsAt w' p 0 122 [] [] (fun i => w.heap.size ≤ i ∧ i < p) h H ∧ w.heap.size ≤ p
section
variable {w : World} {es : List Addr} {cc cr can : Int} {A B : Option Addr} {n cA m cB : Nat} {ts : List (List UInt8)} {l : List Se}
theorem snNew_bad (hE : ErrsAt w es) (hts : TSrc w A n ts) (hb : cfGood cc cr ts = false) :
    Calls Tryz.prog 35 #[cfV cc cr A n cA B m cB can] w fun e w' => ∃ a, e = .returned (.tuple #[.pointer none, .iface 409 (.pointer (some a))]) ∧ Hid (Only (fun _ => False) w w') := by
  have hO : ∀ ob, Only (fun _ => False) w (w.alloc ob) := fun ob => (Only.refl _ _).alloc ob
  cases hf : (fitsN cc && fitsN cr) with
  | false =>
    have HN := Lib.hid (fun ob => nbody_bad ((hE.only (hO ob)).of [0, 2, 3]) cc cr hf)
    clear hE hts hb hf hO
    unfold szVal at HN
    go_enter Tryz.func35, Tryz.ntmps35
    go_wp2_with (go_at_call 79; (with_reducible refine (HN.out _).mono ?_); rintro e w1 ⟨a, ha, rfl, ho1⟩; have HO1 : Hid (Only (fun _ => False) w w1) := ((Only.refl _ _).alloc _).trans ho1 (fun _ h => h.elim); unfold errV; clear ho1)
    go_ret2
    exact ⟨a, rfl, HO1.out⟩
  | true =>
    obtain ⟨h1, h2⟩ := (Bool.and_eq_true _ _).mp hf
    have HN := Lib.hid (fun W => nbody_ok W cc cr h1 h2)
    unfold szVal at HN
    have HT : Hid (∀ W, Only (fun _ => False) w W → Calls Tryz.prog 80 #[.slice A n cA] W fun e w' => ∃ a, e = .returned (.tuple #[.pointer none, .iface 409 (.pointer (some a))]) ∧ Only (fun _ => False) W w') := by
      intro W ho
      unfold cfGood at hb
      rw [hf, Bool.true_and] at hb
      by_cases hn : 1 ≤ n ∧ n ≤ 8
      · rw [decide_eq_true (by rw [hts.1]; exact hn), Bool.true_and] at hb
        refine (ttnew_name ((hE.only ho).of [0, 2, 3, 4, 5]) cA (hts.same ho) hn.1 hn.2 hb).mono ?_
        rintro e w' ⟨a, _, rfl, h⟩
        exact ⟨a, rfl, h⟩
      · refine (ttnew_range ((hE.only ho).of [0, 2, 3, 4, 5]) A n cA (by omega)).mono ?_
        rintro e w' ⟨a, _, rfl, h⟩
        exact ⟨a, rfl, h⟩
    clear hE hts hb hf hO h1 h2
    go_enter Tryz.func35, Tryz.ntmps35
    go_wp2_with (first
      | (go_at_call 79; (with_reducible refine (HN.out _).mono ?_); rintro e w1 ⟨N, rfl, hs1, ho1⟩; have HO1 : Hid (Only (fun _ => False) w w1) := ((Only.refl _ _).alloc _).trans ho1.out (fun _ h => h.elim); have c2 : w1.cell? ⟨w.heap.size, 2, none⟩ = some (.slice A n cA) := ((Blk.new w 30 (cfC cc cr A n cA B m cB can)).only ho1.out (fun h => h)).cell 2; clear ho1 hs1)
      | (go_at_call 80; (with_reducible refine (HT.out _ HO1.out).mono ?_); rintro e w2 ⟨a, rfl, ho2⟩; have HO2 := Lib.hid (HO1.out.trans ho2 (fun _ h => h.elim)); clear ho2))
    go_ret2
    exact ⟨a, rfl, HO2.out⟩
theorem snNew_ok (hts : TSrc w A n ts) (hst : StAt w B m l) (hm : m ≤ cB) (hcB : cB ≤ 9223372036854775807) (hg : cfGood cc cr ts = true) :
    Calls Tryz.prog 35 #[cfV cc cr A n cA B m cB can] w fun e w' => ∃ p, e = .returned (.tuple #[.pointer (some ⟨p, 0, none⟩), .nilIface]) ∧ Hid (NewHs w w' p (Hs.new cc cr ts l can)) ∧ Hid (Only (fun _ => False) w w') := by
  unfold cfGood at hg
  obtain ⟨hf, hg⟩ := (Bool.and_eq_true _ _).mp hg
  obtain ⟨h1, h2⟩ := (Bool.and_eq_true _ _).mp hf
  obtain ⟨hn, ho⟩ := (Bool.and_eq_true _ _).mp hg
  have hn := of_decide_eq_true hn
  have HN := Lib.hid (fun W => nbody_new W cc cr h1 h2)
  unfold szVal at HN
  have HT := Lib.hid (fun W (hO : Only (fun _ => False) w W) => ttnew_new cA (hts.same hO) (by rw [← hts.1]; exact hn.1) (by rw [← hts.1]; exact hn.2) ho)
  have HH := Lib.hid (fun W (hO : Only (fun _ => False) w W) => snHeld_any (hst.same hO) hm hcB)
  have HG := Lib.hid (And.intro hn ho)
  have HCf := Lib.hid (fun W (hO : Only (fun _ => False) (w.alloc (.cells (cfC cc cr A n cA B m cB can).toArray 30)) W) => (Blk.new w 30 (cfC cc cr A n cA B m cB can)).only hO (fun h => h))
  clear hts hst hm hcB hg hf h1 h2 hn ho
  go_enter Tryz.func35, Tryz.ntmps35
  go_wp2_with (first
    | (go_at_call 79; (with_reducible refine (HN.out _).mono ?_); rintro e w1 ⟨N, rfl, hs1, ho1, hn1⟩; have HN1 : Hid (w.heap.size ≤ N) := (by simp at hn1; show _ ≤ _; omega); clear hn1; have HC1 := Lib.hid ho1.out; have HO1 : Hid (Only (fun _ => False) w w1) := ((Only.refl _ _).alloc _).trans ho1.out (fun _ h => h.elim); have c2 : w1.cell? ⟨w.heap.size, 2, none⟩ = some (.slice A n cA) := (HCf.out _ HC1.out).cell 2; clear ho1)
    | (go_at_call 80; (with_reducible refine (HT.out _ HO1.out).mono ?_); rintro e w2 ⟨q, rfl, hc2, hq2, ho2⟩; have HO2 := Lib.hid (HO1.out.trans ho2 (fun _ h => h.elim)); have HC2 := Lib.hid (HC1.out.trans ho2 (fun _ h => h.elim)); have HCy := Lib.hid hc2; have HS2 := Lib.hid (hs1.out.only ho2 (fun _ _ _ h => h)); clear ho2 hc2 c2 hq2))
  have HCf2 := Lib.hid (HCf.out _ HC2.out)
  obtain ⟨A2, c2, hbq, hsA, hnA⟩ := HCy.out
  have HNA : Hid (∀ ad, A2 = some ad → w.heap.size ≤ ad.block) := fun ad e => Nat.le_trans HO1.out.size (hnA ad e)
  clear hnA
  have HBq := Lib.hid hbq
  have HSA := Lib.hid hsA
  clear hbq hsA HCy
  go_wp2
  refine wp_region_noPanic ?_
  refine wp_region_held_drew (S := fun W => Only (fun _ => False) w2 W) (by kernel_rfl) ((Only.refl _ _).drew) (fun hHeld => ?_)
  refine wpAnyH_take (i := 0) (v := .slice (some ⟨N, 0, none⟩) 4 4) rfl (by kernel_rfl) (by kernel_rfl) (by kernel_rfl) (fun _ _ _ h => h) (Or.inl ⟨by rfl, fun W hSw => by (first | (go_simp; done) | (go_simp; with_reducible rfl) | (go_simp; rfl))⟩) hHeld ?_
  try simp only [List.getElem_toArray, List.getElem_cons_zero, List.getElem_cons_succ, Act.put, List.setIfInBounds_toArray, List.set_cons_zero, List.set_cons_succ]
  refine wpAnyH_take (i := 1) (v := .pointer (some ⟨q, 0, none⟩)) rfl (by kernel_rfl) (by kernel_rfl) (by kernel_rfl) (fun _ _ _ h => h) (Or.inl ⟨by rfl, fun W hSw => by (first | (go_simp; done) | (go_simp; with_reducible rfl) | (go_simp; rfl))⟩) hHeld ?_
  try simp only [List.getElem_toArray, List.getElem_cons_zero, List.getElem_cons_succ, Act.put, List.setIfInBounds_toArray, List.set_cons_zero, List.set_cons_succ]
  refine wpAnyH_take (i := 2) (v := .pointer (some ⟨q, 0, none⟩)) rfl (by kernel_rfl) (by kernel_rfl) (by kernel_rfl) (fun _ _ _ h => h) (Or.inl ⟨by rfl, fun W hSw => by (first | (go_simp; done) | (go_simp; with_reducible rfl) | (go_simp; rfl))⟩) hHeld ?_
  try simp only [List.getElem_toArray, List.getElem_cons_zero, List.getElem_cons_succ, Act.put, List.setIfInBounds_toArray, List.set_cons_zero, List.set_cons_succ]
  refine wpAnyH_take (i := 3) (v := .agg #[.slice A2 ts.length c2, .int .i64 0]) rfl (by kernel_rfl) (by kernel_rfl) (by kernel_rfl) (fun _ _ _ h => h) (yieldsIf_load_mid (by rfl) 103 _ rfl q 0 rfl [.slice A2 ts.length c2, .int .i64 0] _ (fun W h => rng_blk (HBq.out.only h (fun h => h))) Tryz.underlying103 rfl (by kernel_rfl)) hHeld ?_
  simp only [List.getElem_toArray, List.getElem_cons_zero, List.getElem_cons_succ, Act.put, List.setIfInBounds_toArray, List.set_cons_zero, List.set_cons_succ]
  refine wpAnyH_take (i := 4) (v := .pointer (some ⟨w.heap.size, 3, none⟩)) rfl (by kernel_rfl) (by kernel_rfl) (by kernel_rfl) (fun _ _ _ h => h) (Or.inl ⟨by rfl, fun W hSw => by (first | (go_simp; done) | (go_simp; with_reducible rfl) | (go_simp; rfl))⟩) hHeld ?_
  try simp only [List.getElem_toArray, List.getElem_cons_zero, List.getElem_cons_succ, Act.put, List.setIfInBounds_toArray, List.set_cons_zero, List.set_cons_succ]
  refine wpAnyH_take (i := 5) (v := .slice B m cB) rfl (by kernel_rfl) (by kernel_rfl) (by kernel_rfl) (fun _ _ _ h => h) (Or.inl ⟨by rfl, fun W hSw => by (have d3 := (HCf.out _ (HC2.out.trans hSw (fun _ h => h.elim))).cell 3; first | (go_simp; done) | (go_simp; with_reducible rfl) | (go_simp; rfl))⟩) hHeld ?_
  try simp only [List.getElem_toArray, List.getElem_cons_zero, List.getElem_cons_succ, Act.put, List.setIfInBounds_toArray, List.set_cons_zero, List.set_cons_succ]
  refine wpAnyH_take (i := 7) (v := .pointer (some ⟨w.heap.size, 4, none⟩)) rfl (by kernel_rfl) (by kernel_rfl) (by kernel_rfl) (fun _ _ _ h => h) (Or.inl ⟨by rfl, fun W hSw => by (first | (go_simp; done) | (go_simp; with_reducible rfl) | (go_simp; rfl))⟩) hHeld ?_
  try simp only [List.getElem_toArray, List.getElem_cons_zero, List.getElem_cons_succ, Act.put, List.setIfInBounds_toArray, List.set_cons_zero, List.set_cons_succ]
  refine wpAnyH_take (i := 8) (v := .int .i64 can) rfl (by kernel_rfl) (by kernel_rfl) (by kernel_rfl) (fun _ _ _ h => h) (Or.inl ⟨by rfl, fun W hSw => by (have d4 := (HCf.out _ (HC2.out.trans hSw (fun _ h => h.elim))).cell 4; first | (go_simp; done) | (go_simp; with_reducible rfl) | (go_simp; rfl))⟩) hHeld ?_
  try simp only [List.getElem_toArray, List.getElem_cons_zero, List.getElem_cons_succ, Act.put, List.setIfInBounds_toArray, List.set_cons_zero, List.set_cons_succ]
  refine wpAnyH_ready (rs := [6]) (by kernel_rfl) (by simp) ?_
  refine AllReadyH.cons rfl (fun K hK => ?_) AllReadyH.nil
  go_simp
  (go_at_call 81; (with_reducible refine (HH.out _ HO2.out.drew).mono ?_); rintro e w3 ⟨M, rfl, hst3, hM3, ho3⟩; have HM3 : Hid (w.heap.size ≤ M) := Nat.le_trans HO2.out.size hM3.out)
  refine hK.out _ _ (hHeld.trans ho3.out (fun _ h => h.elim)) (fun hHeld => ?_)
  clear hK K
  have HO3 := Lib.hid hHeld
  refine wpAnyH_take (i := 9) (v := .agg (hb0 (.slice (some ⟨N, 0, none⟩) 4 4) (.slice A2 ts.length c2) (.slice (some ⟨M, 0, none⟩) 18 18) can).cs.toArray) rfl (by kernel_rfl) (by kernel_rfl) (by kernel_rfl) (fun _ _ _ h => h) (yields_build (by rfl) 122 #[(0, .tmp 26), (1, .tmp 29), (2, .tmp 32), (3, .tmp 34)] rfl _ (Eq.trans (congrArg _ (by simp only [List.map_toArray, List.map_cons, List.map_nil]; rfl)) (built_hub N A2 ts.length c2 M can))) hHeld ?_
  simp only [List.getElem_toArray, List.getElem_cons_zero, List.getElem_cons_succ, Act.put, List.setIfInBounds_toArray, List.set_cons_zero, List.set_cons_succ]
  refine wpAnyH_ready (rs := [10]) (by kernel_rfl) (by simp) ?_
  refine AllReadyH.cons rfl (fun K hK => ?_) AllReadyH.nil
  rw [if_pos (by rfl)]
  refine wp_box 122 _ rfl (hb0 (.slice (some ⟨N, 0, none⟩) 4 4) (.slice A2 ts.length c2) (.slice (some ⟨M, 0, none⟩) 18 18) can).cs.toArray rfl ?_
  refine hK.out _ _ (hHeld.alloc _) (fun hHeld => ?_)
  clear hK K
  have hHu : Hid (HuAt (w3.alloc (.cells (hb0 (.slice (some ⟨N, 0, none⟩) 4 4) (.slice A2 ts.length c2) (.slice (some ⟨M, 0, none⟩) 18 18) can).cs.toArray 122)) w3.heap.size 0 122 [] [] (hb0 (.slice (some ⟨N, 0, none⟩) 4 4) (.slice A2 ts.length c2) (.slice (some ⟨M, 0, none⟩) 18 18) can)) := ⟨hb0_ok _ _ _ _, ⟨by rw [List.nil_append, List.append_nil]; exact Blk.new w3 _ _, rfl⟩⟩
  have HO4 := Lib.hid hHeld
  obtain ⟨w4, hw4⟩ : ∃ w4, w4 = w3.alloc (.cells (hb0 (.slice (some ⟨N, 0, none⟩) 4 4) (.slice A2 ts.length c2) (.slice (some ⟨M, 0, none⟩) 18 18) can).cs.toArray 122) := ⟨_, rfl⟩
  have HS4 : Hid (StAt w4 (some ⟨M, 0, none⟩) 18 (heldOf l)) := by rw [hw4]; exact hst3.out.same ((Only.refl _ _).alloc _)
  rw [← hw4] at hHu HO4 ⊢
  obtain ⟨p, hp⟩ : ∃ p, p = w3.heap.size := ⟨_, rfl⟩
  rw [← hp] at hHu ⊢
  have HP := Lib.hid hp
  clear hw4 hp
  refine wpAnyH_ready (rs := [11]) (by kernel_rfl) (by simp) ?_
  refine AllReadyH.cons rfl (fun K hK => ?_) AllReadyH.nil
  go_simp
  refine hK.out _ _ HO4.out (fun hHeld => ?_)
  clear hK K
  refine wpAnyH_done (by kernel_rfl) (NoPanic.normal ?_) _
  have HRs := Lib.hid (snReset_any hHu.out rfl HS4.out)
  clear hHeld
  go_wp2_with (go_at_call 82; (with_reducible refine HRs.out.mono ?_); rintro e w5 ⟨rfl, hh5, ho5⟩)
  go_ret2
  obtain ⟨cs, hh5, hsc⟩ := hh5
  have hz23 : w2.heap.size ≤ w3.heap.size := HO3.out.size
  have hz2 := HO2.out.size
  have hpe := HP.out
  have hnp : ∀ i, i < w2.heap.size → ¬ i = p := fun i hi => by omega
  have hM4 : M < p := by rw [hpe]; exact hst3.out.lt' (by omega)
  have hN4 : N < p := by have := HS2.out.lt (by omega) _ rfl; simp only at this; omega
  refine ⟨p, rfl, ⟨_, ⟨hh5, ⟨⟨N, rfl, ?_, ⟨HN1.out, hN4⟩, by omega⟩, ⟨A2, c2, rfl, ?_, fun ad ha => ?_⟩, ?_, HG.out.1.1, HG.out.1.2, List.all_eq_true.1 HG.out.2, ⟨M, rfl, ?_, ⟨HM3.out, hM4⟩, by omega⟩, rfl, rfl, rfl, rfl, ⟨none, 0, 0, rfl, LsOf.nil _ _ _ _, by omega, fun ad e => by cases e⟩, hsc, rfl, rfl, rfl, rfl, rfl, rfl⟩⟩, by omega⟩, ?_⟩
  · exact (HS2.out.only HO4.out (fun _ _ _ h => h)).only ho5 (fun h0 ad e => by injection e with e; subst e; exact hnp _ (HS2.out.lt h0 _ rfl))
  · exact (HSA.out.same HO4.out).only ho5 (fun h0 ad e => hnp _ (HSA.out.lt h0 _ e))
  · have := HSA.out.lt HG.out.1.1 _ ha
    exact ⟨⟨HNA.out ad ha, by omega⟩, by omega⟩
  · simp [Hb.again, hb0, Hs.new]
  · exact HS4.out.far ho5 (fun e => by omega)
  · exact (HO2.out.trans HO4.out (fun _ h => h.elim)).trans ho5 (fun i hi => .inr (by omega))
end
end Go.Proofs.YtbnfhklpobephaaGreatDoor
/- Slices of ints that came in. -/
namespace Go.Proofs.YtbnfhklpobephaaGreatDoor
open Go Go.ChangeShapes Go.WideShapes Go.ChangeAt Go.RowKit
set_option maxRecDepth 100000
set_option maxHeartbeats 4000000

/-- A slice of ints. -/
def Ints (w : World) (A : Option Addr) (n : Nat) (zs : List Int) : Prop :=
  zs.length = n ∧ (0 < n → ∃ ad, A = some ad ∧ ∀ (j : Nat) (z : Int), zs[j]? = some z → w.cell? (ad.add j) = some (.int .i64 z))
theorem Ints.only {S : Nat → Prop} {w w' : World} {A : Option Addr} {n : Nat} {zs : List Int} (h : Ints w A n zs) (ho : Only S w w') (hS : 0 < n → ∀ ad, A = some ad → ¬ S ad.block) : Ints w' A n zs :=
  ⟨h.1, fun hn => by
    obtain ⟨ad, e, hc⟩ := h.2 hn
    exact ⟨ad, e, fun j x hx => ho.cellv (hc j x hx) (by rw [block_add]; exact hS hn ad e)⟩⟩
theorem Ints.same {w w' : World} {A : Option Addr} {n : Nat} {zs : List Int} (h : Ints w A n zs) (ho : Only (fun _ => False) w w') : Ints w' A n zs := h.only ho (fun _ _ _ h => h)
theorem Ints.nil (w : World) (A : Option Addr) : Ints w A 0 [] := ⟨rfl, fun h => absurd h (by omega)⟩

/-- A slice of ints that came in. -/
theorem opened_ints {H : Type} {enc : TypeId × Value → H} {W : World} {spare : Nat → Bool} {fuel : Nat} {v : Value} {x : DataW H × List MemPlace} (hf : DataW.trod enc Tryz.prog W 0 spare true fuel 22 [v] = some x) :
    ∃ A n c zs, v = .slice A n c ∧ Ints W A n zs ∧ n ≤ c ∧ c ≤ 9223372036854775807 := by
  obtain ⟨d, p⟩ := x
  rcases open_ints Tryz.underlying22 Tryz.underlying3 (by kernel_rfl) hf with ⟨hcs, hx⟩ | ⟨a, len', cap', zs, hcs, _, hl, hm, hz, hx, hcell, hwz⟩
  · simp at hcs
    subst hcs
    exact ⟨none, 0, 0, [], rfl, Ints.nil _ _, Nat.le_refl _, by omega⟩
  · simp at hcs
    subst hcs
    have hzl : len' ≤ zs.length := by split at hz <;> omega
    refine ⟨some a, len', cap', zs.take len', rfl, ⟨by simp; omega, fun _ => ⟨_, rfl, fun j x hx => ?_⟩⟩, hl, by unfold maxLen at hm; omega⟩
    rw [List.getElem?_take] at hx
    split at hx
    · have hj : j < zs.length := by omega
      rw [hcell j hj]
      rw [List.getElem?_eq_getElem hj] at hx
      injection hx with hx
      rw [← hx]
      congr 2
      rw [List.getD_eq_getElem?_getD, List.getElem?_eq_getElem hj]
      rfl
    · cases hx

/-- .. each of which a machine's word holds. -/
theorem opened_ints64 {H : Type} {enc : TypeId × Value → H} {W : World} {spare : Nat → Bool} {fuel : Nat} {v : Value} {x : DataW H × List MemPlace} (hf : DataW.trod enc Tryz.prog W 0 spare true fuel 22 [v] = some x) :
    ∃ A n c zs, v = .slice A n c ∧ Ints W A n zs ∧ n ≤ c ∧ c ≤ 9223372036854775807 ∧ ∀ z ∈ zs, -9223372036854775808 ≤ z ∧ z ≤ 9223372036854775807 := by
  obtain ⟨d, p⟩ := x
  rcases open_ints Tryz.underlying22 Tryz.underlying3 (by kernel_rfl) hf with ⟨hcs, hx⟩ | ⟨a, len', cap', zs, hcs, _, hl, hm, hz, hx, hcell, hwz⟩
  · simp at hcs
    subst hcs
    exact ⟨none, 0, 0, [], rfl, Ints.nil _ _, Nat.le_refl _, by omega, fun z h => by cases h⟩
  · simp at hcs
    subst hcs
    have hzl : len' ≤ zs.length := by split at hz <;> omega
    refine ⟨some a, len', cap', zs.take len', rfl, ⟨by simp; omega, fun _ => ⟨_, rfl, fun j x hx => ?_⟩⟩, hl, by unfold maxLen at hm; omega, fun z hz => bounds_i64 (hwz z (List.mem_of_mem_take hz))⟩
    rw [List.getElem?_take] at hx
    split at hx
    · have hj : j < zs.length := by omega
      rw [hcell j hj]
      rw [List.getElem?_eq_getElem hj] at hx
      injection hx with hx
      rw [← hx]
      congr 2
      rw [List.getD_eq_getElem?_getD, List.getElem?_eq_getElem hj]
      rfl
    · cases hx
end Go.Proofs.YtbnfhklpobephaaGreatDoor
/- Package table: New. -/
namespace Go.Proofs.YtbnfhklpobephaaGreatDoor
open Go Go.RowKit
set_option maxRecDepth 100000
set_option maxHeartbeats 4000000

/-- What a policy agrees to. -/
def agOf (us hims : List Int) (s o : Nat) : Bool := (if s = 0 then us else hims).contains (o : Int)
theorem TbC.congr {mo : Nat} {pre post cs : List Value} {ag ag' : Nat → Nat → Bool} {t : Tb} (h : TbC mo pre post cs ag t) (e : ∀ s o, s < 2 → o < 256 → ag s o = ag' s o) : TbC mo pre post cs ag' t :=
  ⟨h.len, h.front, h.back, h.kind, h.opp, fun i s o hs ho hi => by rw [h.agr i s o hs ho hi, e s o hs ho], h.heard, h.asked, h.sent⟩
theorem TbAt.congr {w : World} {p mo : Nat} {tp : TypeId} {pre post : List Value} {ag ag' : Nat → Nat → Bool} {t : Tb} (h : TbAt w p mo tp pre post ag t) (e : ∀ s o, s < 2 → o < 256 → ag s o = ag' s o) : TbAt w p mo tp pre post ag' t := by
  obtain ⟨cs, h, hc⟩ := h
  exact ⟨cs, h, hc.congr e⟩
/-- So far. -/
def agTo (us hims zs : List Int) (k j : Nat) (s o : Nat) : Bool := (decide (s < k) && agOf us hims s o) || (decide (s = k) && (zs.take j).contains (o : Int))
theorem contains_take (zs : List Int) (j : Nat) (z : Int) (h : zs[j]? = some z) (o : Int) : (zs.take (j + 1)).contains o = ((zs.take j).contains o || decide (o = z)) := by
  rw [List.take_add_one, h]
  simp [List.contains_eq_mem, Bool.decide_or]

theorem new_any {W : World} {A1 A2 : Option Addr} {n1 n2 : Nat} (c1 c2 : Nat) {us hims : List Int} (h1 : Ints W A1 n1 us) (h2 : Ints W A2 n2 hims) (hb1 : n1 ≤ 1000) (hb2 : n2 ≤ 1000) :
    Calls Tryz.prog 36 #[.agg #[.slice A1 n1 c1, .slice A2 n2 c2]] W fun e w' => ∃ p, e = .returned (.pointer (some ⟨p, 0, none⟩)) ∧ TbAt w' p 0 99 [] [] (agOf us hims) Tb.zero ∧ W.heap.size ≤ p ∧ Only (fun _ => False) W w' := by
  have H1 := Lib.hid h1
  have H2 := Lib.hid h2
  clear h1 h2
  go_enter Tryz.func36, Tryz.ntmps36
  go_wp2_with (first
    | ((with_reducible show wpList _ _ _ (⟨some 8, _, _, _, _, _⟩ :: _) _ _); refine step_build rfl 99 #[] rfl tb0 built_table ?_)
    | ((with_reducible show wpList _ _ _ (⟨some 9, _, _, _, _, _⟩ :: _) _ _); refine step_box rfl 99 _ rfl tb0 rfl ?_)
    | fail)
  obtain ⟨p, hpp⟩ : ∃ p, p = W.heap.size + 1 := ⟨_, rfl⟩
  obtain ⟨W0, hW0⟩ : ∃ W0, W0 = (W.alloc (.cells #[.slice A1 n1 c1, .slice A2 n2 c2] 24)).alloc (.cells tb0.toArray 99) := ⟨_, rfl⟩
  have HT0 : Hid (TbAt W0 p 0 99 [] [] (fun _ _ => false) Tb.zero) := ⟨tb0, by rw [hW0, hpp]; exact Blk.new' _ _ _ (by simp), tb0_c⟩
  have HO0 : Hid (Only (fun _ => False) W W0) := by rw [hW0]; exact ((Only.refl _ _).alloc _).alloc _
  have HPW : Hid (W.heap.size + 1 = p) := hpp.symm
  rw [← hpp, ← hW0]
  clear hpp hW0
  go_loopw [15] (fun i w => ∃ k : Nat, k ≤ 2 ∧ i = .int .i64 (k : Int) ∧ Hid (TbAt w p 0 99 [] [] (fun s o => decide (s < k) && agOf us hims s o) Tb.zero ∧ Only (fun _ => False) W w)) (fun i _ => 2 - (intOf i).toNat)
  case atStart => exact ⟨0, by omega, rfl, HT0.out.congr (fun s o _ _ => by simp), HO0.out⟩
  case round =>
    obtain ⟨k, hk, rfl, hrel⟩ := hrel
    by_cases hlt : k < 2
    · obtain ⟨A, n, c, zs, hnb, hidx, hzs, hag⟩ : ∃ A n c zs, n ≤ 1000 ∧ (∀ w, (Instr.index 207 (.agg #[.slice A1 n1 c1, .slice A2 n2 c2]) (.int .i64 (k : Int))).run Tryz.prog w = .ok (.slice A n c) w) ∧ Ints W A n zs ∧ ∀ o : Nat, agOf us hims k o = zs.contains (o : Int) := by
        rcases (show k = 0 ∨ k = 1 by omega) with rfl | rfl
        · exact ⟨A1, n1, c1, us, hb1, fun w => by kernel_rfl, H1.out, fun o => by simp [agOf]⟩
        · exact ⟨A2, n2, c2, hims, hb2, fun w => by kernel_rfl, H2.out, fun o => by simp [agOf]⟩
      have HZ := Lib.hid hzs
      have HAg := Lib.hid hag
      have hk2 : (k : Int) < 2 := by omega
      clear hzs hag
      go_wp2
      obtain ⟨W1, hW1⟩ : ∃ W1, W1 = wr := ⟨_, rfl⟩
      subst hW1
      have HR := hrel
      clear hrel
      go_loopw [21] (fun i w => ∃ j : Nat, j ≤ n ∧ i = .int .i64 (j : Int) ∧ Hid (TbAt w p 0 99 [] [] (agTo us hims zs k j) Tb.zero ∧ Only (fun _ => False) W w)) (fun i _ => n - (intOf i).toNat)
      case atStart => exact ⟨0, by omega, rfl, HR.out.1.congr (fun s o _ _ => by simp [agTo]), HR.out.2⟩
      case round =>
        clear HR
        obtain ⟨j, hj, rfl, hrel⟩ := hrel
        by_cases hjn : j < n
        · obtain ⟨z, hz⟩ : ∃ z, zs[j]? = some z := ⟨_, List.getElem?_eq_getElem (by rw [HZ.out.1]; exact hjn)⟩
          obtain ⟨ad, rfl, hcell⟩ := (HZ.out.only hrel.out.2 (fun _ _ _ h => h)).2 (by omega)
          have c0 := hcell j z hz
          have HZj := Lib.hid hz
          have hjn2 : (j : Int) < (n : Int) := by omega
          clear hcell hz
          by_cases hz : 0 ≤ z ∧ z ≤ 255
          · obtain ⟨o, rfl⟩ : ∃ o : Nat, z = (o : Int) := ⟨z.toNat, by omega⟩
            have ho : o < 256 := by omega
            have ho2 : (o : Int) < 256 := by omega
            have H3 : Hid (∀ W, Calls Tryz.prog 83 #[.int .i64 (o : Int)] W fun e w' => e = .returned (.bool true) ∧ w' = W) := fun W => by
              have := isOption_any W (o : Int)
              rwa [decide_eq_true (by omega)] at this
            obtain ⟨cs, hB, hC⟩ := hrel.out.1
            have ca : wr.cell? ⟨p, 1024 + k * 256 + o, none⟩ = some (.bool (agTo us hims zs k j k o)) := by rw [hB.cell]; exact hC.agr _ k o hlt ho (by omega)
            have fa := hB.frozen (1024 + k * 256 + o)
            have HB := Lib.hid hB
            have HC := Lib.hid hC
            obtain ⟨b, hb⟩ : ∃ b, b = agTo us hims zs k j k o := ⟨_, rfl⟩
            rw [← hb] at ca
            clear hB hC hz hb
            go_wp2_with (first
              | (go_at_call 83; refine (H3.out _).mono ?_; rintro e w' ⟨rfl, rfl⟩)
              | fail)
            go_roundw
            case rel =>
              refine ⟨j + 1, by omega, by go_num, ⟨_, HB.out.setCell _ _, (HC.out.setAg hlt ho (by omega) true).congr (fun s x _ _ => ?_)⟩, hrel.out.2.setCell (.inr (by have := HPW.out; show _ ≤ p; omega)) _⟩
              unfold agTo
              rw [contains_take zs j _ HZj.out]
              by_cases e1 : s = k
              · subst e1
                by_cases e2 : x = o
                · subst e2; simp
                · rw [if_neg (fun h => e2 h.2)]
                  have : decide ((x : Int) = (o : Int)) = false := decide_eq_false (by omega)
                  simp [this]
              · rw [if_neg (fun h => e1 h.1)]
                simp [e1]
            case measure => simp [intOf]; omega
          · have H3 : Hid (∀ W, Calls Tryz.prog 83 #[.int .i64 z] W fun e w' => e = .returned (.bool false) ∧ w' = W) := fun W => by
              have := isOption_any W z
              rwa [decide_eq_false hz] at this
            have HZn := Lib.hid hz
            clear hz
            go_wp2_with (first
              | (go_at_call 83; refine (H3.out _).mono ?_; rintro e w' ⟨rfl, rfl⟩)
              | fail)
            go_roundw
            case rel =>
              refine ⟨j + 1, by omega, by go_num, hrel.out.1.congr (fun s x _ hx => ?_), hrel.out.2⟩
              unfold agTo
              rw [contains_take zs j _ HZj.out]
              have : decide ((x : Int) = z) = false := decide_eq_false (fun e => HZn.out ⟨by omega, by omega⟩)
              simp [this]
            case measure => simp [intOf]; omega
        · obtain rfl : j = n := by omega
          go_wp2
          go_roundw
          case rel =>
            refine ⟨k + 1, by omega, by go_num, hrel.out.1.congr (fun s x _ _ => ?_), hrel.out.2⟩
            unfold agTo
            rw [List.take_of_length_le (Nat.le_of_eq HZ.out.1), ← HAg.out]
            by_cases e1 : s = k
            · subst e1; simp
            · have : decide (s < k + 1) = decide (s < k) := decide_eq_decide.2 (by omega)
              simp [e1, this]
          case measure => simp [intOf]; omega
    · obtain rfl : k = 2 := by omega
      go_wp2
      go_ret
      exact ⟨p, rfl, hrel.out.1.congr (fun s x hs _ => by simp [hs]), by have := HPW.out; omega, hrel.out.2⟩
end Go.Proofs.YtbnfhklpobephaaGreatDoor
