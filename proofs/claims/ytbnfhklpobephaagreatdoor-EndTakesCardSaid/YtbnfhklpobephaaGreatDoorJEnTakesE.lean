/- Several texts in one. -/
import Derived.Test.YtbnfhklpobephaaGreatDoorJEnDo
import Derived.Test.YtbnfhklpobephaaGreatDoorJQs
import Derived.Test.YtbnfhklpobephaaGreatDoorJTbHear
import Derived.Test.YtbnfhklpobephaaGreatDoorJNum
/- EndTakes: more than is asked; a config that makes no end. -/
namespace Go.Proofs.YtbnfhklpobephaaGreatDoor
open Go Go.RowKit
set_option maxRecDepth 100000
set_option maxHeartbeats 4000000

section
variable {w : World} {es : List Addr} {A1 A2 A B A0 : Option Addr} {n1 c1 n2 c2 n cA m cB len cap : Nat} {cc cr can : Int} {ts : List (List UInt8)} {l : List Ac}
theorem takes_bad (hes : ErrsAt w es) (hT : TbW w) (h18 : 18 ≤ w.heap.size) (hts : TSrc w A n ts) (hn : n ≤ 9223372036854775807) (ha : AcAt w A0 len l) (hb : cfGood cc cr ts = false) :
    Calls Tryz.prog 6 #[.agg (ecC A1 n1 c1 A2 n2 c2 cc cr A n cA B m cB can).toArray, .slice A0 len cap] w (Fine w) := by
  have HAl : Hid (∀ W, Only (fun _ => False) w W → Calls Tryz.prog 7 #[] W fun e w' => e = .returned (.bool true) ∧ Only (fun _ => False) W w') := fun W ho => enAlive (hes.only ho) (hT.only ho) (Nat.le_trans h18 ho.size)
  have HLo : Hid (∀ W, Only (fun _ => False) w W → Calls Tryz.prog 8 #[.agg (ecC A1 n1 c1 A2 n2 c2 cc cr A n cA B m cB can).toArray, .slice A0 len cap] W fun e w' => ∃ b, e = .returned (.bool b) ∧ (b = false → Few20 n1 n2 l) ∧ Only (fun _ => False) W w') := fun W ho => enLong (hts.same ho) hn (ha.same ho)
  have HNw : Hid (∀ W, Only (fun _ => False) w W → Calls Tryz.prog 9 #[.agg (ecC A1 n1 c1 A2 n2 c2 cc cr A n cA B m cB can).toArray] W fun e w' => ∃ a, e = .returned (.tuple #[.pointer none, .iface 409 (.pointer (some a))]) ∧ Hid (Only (fun _ => False) W w')) := fun W ho => enNew_bad (hes.only ho) (hts.same ho) hb
  have HBx : Hid (∀ W, Only (fun _ => False) (w.alloc (.cells (ecC A1 n1 c1 A2 n2 c2 cc cr A n cA B m cB can).toArray 32)) W → W.rangeAt w.heap.size 0 (ecC A1 n1 c1 A2 n2 c2 cc cr A n cA B m cB can)) := fun W ho => range_of ((Blk.new w 32 (ecC A1 n1 c1 A2 n2 c2 cc cr A n cA B m cB can)).only ho (fun h => h))
  have HO0 : Hid (Only (fun _ => False) w (w.alloc (.cells (ecC A1 n1 c1 A2 n2 c2 cc cr A n cA B m cB can).toArray 32))) := (Only.refl _ _).alloc _
  clear hes hT h18 hts hn ha hb
  go_enter Tryz.func6, Tryz.ntmps6
  go_wp2_with (first
    | (go_at_call 7; (with_reducible refine (HAl.out _ HO0.out).mono ?_); rintro e w1 ⟨rfl, ho1⟩; have HC1 := Lib.hid ho1; have HO1 := Lib.hid (HO0.out.trans ho1 (fun _ h => h.elim)); clear ho1)
    | ((with_reducible show wpList _ _ _ (⟨some 21, .load _ _, _, _, _, _⟩ :: _) _ _); refine wpList_load_mid rfl 32 _ rfl w.heap.size 0 rfl (ecC A1 n1 c1 A2 n2 c2 cc cr A n cA B m cB can) _ (HBx.out _ HC1.out) Tryz.underlying32 rfl size_ec ?_)
    | (go_at_call 8; (with_reducible refine (HLo.out _ HO1.out).mono ?_); rintro e w2 ⟨b, rfl, _, ho2⟩; have HC2 := Lib.hid (HC1.out.trans ho2 (fun _ h => h.elim)); have HO2 := Lib.hid (HO1.out.trans ho2 (fun _ h => h.elim)); clear ho2)
    | ((with_reducible show wpList _ _ _ (⟨some 25, .load _ _, _, _, _, _⟩ :: _) _ _); refine wpList_load_mid rfl 32 _ rfl w.heap.size 0 rfl (ecC A1 n1 c1 A2 n2 c2 cc cr A n cA B m cB can) _ (HBx.out _ HC2.out) Tryz.underlying32 rfl size_ec ?_)
    | ((with_reducible show wpList _ _ _ (⟨some 30, .load _ _, _, _, _, _⟩ :: _) _ _); refine wpList_load_mid rfl 32 _ rfl w.heap.size 0 rfl (ecC A1 n1 c1 A2 n2 c2 cc cr A n cA B m cB can) _ (HBx.out _ HC3.out) Tryz.underlying32 rfl size_ec ?_)
    | (go_at_call 9; (with_reducible refine (HNw.out _ HO3.out).mono ?_); rintro e w4 ⟨a4, rfl, ho4⟩; have HO4 := Lib.hid (HO3.out.trans ho4.out (fun _ h => h.elim)); clear ho4)
    | (go_at_call 9; (with_reducible refine (HNw.out _ HO2.out).mono ?_); rintro e w3 ⟨a3, rfl, ho3⟩; have HC3 := Lib.hid (HC2.out.trans ho3.out (fun _ h => h.elim)); have HO3 := Lib.hid (HO2.out.trans ho3.out (fun _ h => h.elim)); clear ho3))
  all_goals
    go_ret
    first
      | exact ⟨rfl, HO4.out⟩
      | exact ⟨rfl, HO2.out⟩
end
end Go.Proofs.YtbnfhklpobephaaGreatDoor
/- Package qstate: what a row's list gives. -/
namespace Go.Proofs.YtbnfhklpobephaaGreatDoor
open Go Go.RowKit
set_option maxRecDepth 100000

theorem qs_facts {W : World} {l : List (String × DataW Unit)} (h : laidMet Tryz.prog l W) {nm1 nm2 : String} {d1 d2 : DataW Unit} (h1 : ("truchman/api.ErrForm", .iface nm1 d1) ∈ l) (h2 : ("truchman/api.ErrState", .iface nm2 d2) ∈ l)
    (h3 : ("truchman/qstate.rows", Rows.laid_truchman_qstate_rows) ∈ l) : QsW W := by
  refine ⟨?_, ?_, ?_⟩
  · have := plain_of h h3 (g := 17) (t := 368) 6 (by kernel_rfl) (by kernel_rfl) (by kernel_rfl)
    have e : flatD Rows.laid_truchman_qstate_rows = tabC := by
      simp only [Rows.laid_truchman_qstate_rows, flatD, flatDs, tabC, qsAll, rowC, qsC, hearC, askC, mvC, mv0, hearQ, askQ, qsWord, Qs.kind, Qs.opp, List.flatMap_cons, List.flatMap_nil]
      rfl
    rw [e] at this
    exact this
  · exact err_of h (g := 4) h1 (by kernel_rfl) (by kernel_rfl) Tryz.underlying38
  · exact err_of h (g := 9) h2 (by kernel_rfl) (by kernel_rfl) Tryz.underlying38
end Go.Proofs.YtbnfhklpobephaaGreatDoor
/- What tables read at package level, out of what a row lists. -/
namespace Go.Proofs.YtbnfhklpobephaaGreatDoor
open Go Go.RowKit
set_option maxRecDepth 100000
set_option maxHeartbeats 4000000

theorem tb_facts {W : World} {l : List (String × DataW Unit)} (h : laidMet Tryz.prog l W) {nm1 nm2 nm3 nm4 : String} {d1 d2 d3 d4 : DataW Unit} (h1 : ("truchman/api.ErrForm", .iface nm1 d1) ∈ l) (h2 : ("truchman/api.ErrState", .iface nm2 d2) ∈ l)
    (h3 : ("truchman/qstate.rows", Rows.laid_truchman_qstate_rows) ∈ l) (h4 : ("truchman/api.ErrKind", .iface nm3 d3) ∈ l) (h5 : ("truchman/api.ErrRange", .iface nm4 d4) ∈ l) (h6 : ("truchman/table.verbs", Rows.laid_truchman_table_verbs) ∈ l) : TbW W := by
  refine ⟨qs_facts h h1 h2 h3, ?_, ?_, ?_⟩
  · have := plain_of h h6 (g := 16) (t := 319) 6 (by kernel_rfl) (by kernel_rfl) (by kernel_rfl)
    have e : flatD Rows.laid_truchman_table_verbs = verbsC := by
      simp only [Rows.laid_truchman_table_verbs, flatD, flatDs, verbsC]
      rfl
    rw [e] at this
    exact this
  · exact err_of h (g := 8) h4 (by kernel_rfl) (by kernel_rfl) Tryz.underlying38
  · exact err_of h (g := 0) h5 (by kernel_rfl) (by kernel_rfl) Tryz.underlying38
end Go.Proofs.YtbnfhklpobephaaGreatDoor
/- The front of what a row lists: errors stand ahead of tables. -/
namespace Go.Proofs.YtbnfhklpobephaaGreatDoor
open Go Go.RowKit
set_option maxRecDepth 100000

/-- The front of a row's list. -/
theorem laidVars_front {W : World} : ∀ (l1 l2 : List (String × DataW Unit)) (ps : List MemPlace), DataW.LaidVars Tryz.prog W (l1 ++ l2) ps → ∃ p1 p2, ps = p1 ++ p2 ∧ DataW.LaidVars Tryz.prog W l1 p1
  | [], _, ps, _ => ⟨[], ps, rfl, rfl⟩
  | (n, d) :: r, l2, ps, h => by
    obtain ⟨g, t, cs, fuel, p, q, hg, hty, hv, hd, hr, rfl⟩ := h
    obtain ⟨p1, p2, rfl, h1⟩ := laidVars_front r l2 q hr
    exact ⟨MemPlace.row ⟨g, 0, none⟩ cs.size ++ p ++ p1, p2, by simp, g, t, cs, fuel, p, p1, hg, hty, hv, hd, h1, rfl⟩
theorem laid_front {W : World} {l1 l2 : List (String × DataW Unit)} (h : laidMet Tryz.prog (l1 ++ l2) W) : laidMet Tryz.prog l1 W := by
  obtain ⟨ps, hv, hnd, hrows⟩ := h
  obtain ⟨p1, p2, rfl, h1⟩ := laidVars_front l1 l2 ps hv
  exact ⟨p1, h1, (List.nodup_append.1 hnd).1, fun b off hb => hrows b off (List.mem_append_left _ hb)⟩
/-- .. its back. -/
theorem laid_tail {W : World} {x : String × DataW Unit} {l : List (String × DataW Unit)} (h : laidMet Tryz.prog (x :: l) W) : laidMet Tryz.prog l W := by
  obtain ⟨ps, hv, hnd, hrows⟩ := h
  obtain ⟨n, d⟩ := x
  obtain ⟨g, t, cs, fuel, p, q, _, _, _, _, hr, rfl⟩ := hv
  exact ⟨q, hr, (List.nodup_append.1 hnd).2.1, fun b off hb => hrows b off (List.mem_append_right _ hb)⟩
theorem laid_back {W : World} : ∀ (k : Nat) {l : List (String × DataW Unit)}, laidMet Tryz.prog l W → laidMet Tryz.prog (l.drop k) W
  | 0, _, h => h
  | _ + 1, [], h => h
  | k + 1, _ :: _, h => laid_back k (laid_tail h)
end Go.Proofs.YtbnfhklpobephaaGreatDoor
