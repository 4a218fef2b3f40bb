/- Several texts in one. -/
import Derived.Test.YtlmkpembccehkaaGreatDoorBase
import Derived.Test.YtlmkpembccehkaaGreatDoorInfo
import Derived.Test.YtlmkpembccehkaaGreatDoorAlloc
import Derived.Test.YtlmkpembccehkaaGreatDoorPlain
import Derived.Laws.StructEq
import Derived.Test.YtlmkpembccehkaaGreatDoorRefuse
import Derived.Test.YtlmkpembccehkaaGreatDoorBox
import Derived.Test.YtlmkpembccehkaaGreatDoorVerb
import Derived.Deep.RegionHeld3
import Derived.BigQuiet
/- Layer 10 as plain functions: one side of one option; two sides joined by rows: from the first state on, whoever asks for what meanwhile, so many joint states can be, and from each they come to rest. -/
namespace Go.Proofs.YtlmkpembccehkaaGreatDoor

/-- A right state: its kind, and whether it is Opposite. -/
inductive Qs where
  | no | yes | wn | wnO | wy | wyO
  deriving DecidableEq
def Qs.kind : Qs → Nat
  | .no => 0 | .yes => 1 | .wn => 2 | .wnO => 2 | .wy => 3 | .wyO => 3
def Qs.opp : Qs → Bool
  | .wnO => true | .wyO => true | _ => false
/-- Which one it is, if it is right. -/
def qsOf (k : Int) (o : Bool) : Option Qs :=
  if k = 0 ∧ o = false then some .no else if k = 1 ∧ o = false then some .yes
  else if k = 2 then some (if o then .wnO else .wn) else if k = 3 then some (if o then .wyO else .wy) else none
theorem qsOf_kind (s : Qs) : qsOf (s.kind : Int) s.opp = some s := by cases s <;> rfl
theorem qsOf_some {k : Int} {o : Bool} {s : Qs} (h : qsOf k o = some s) : k = (s.kind : Int) ∧ o = s.opp := by
  unfold qsOf at h
  split at h
  · next e => obtain ⟨rfl, rfl⟩ := e; injection h with h; subst h; exact ⟨rfl, rfl⟩
  · split at h
    · next e => obtain ⟨rfl, rfl⟩ := e; injection h with h; subst h; exact ⟨rfl, rfl⟩
    · split at h
      · next e => subst e; injection h with h; subst h; cases o <;> exact ⟨rfl, rfl⟩
      · split at h
        · next e => subst e; injection h with h; subst h; cases o <;> exact ⟨rfl, rfl⟩
        · cases h
/-- A verb is heard, for (is) or against: the state behind it, what is sent (0: nothing, 1: for, 2: against), whether it was wrong. -/
def hearQ : Qs → Bool → Bool → Qs × Nat × Bool
  | .no, true, true => (.yes, 1, false)
  | .no, true, false => (.no, 2, false)
  | .yes, true, _ => (.yes, 0, false)
  | .wn, true, _ => (.no, 0, true)
  | .wnO, true, _ => (.yes, 0, true)
  | .wy, true, _ => (.yes, 0, false)
  | .wyO, true, _ => (.wn, 2, false)
  | .no, false, _ => (.no, 0, false)
  | .yes, false, _ => (.no, 2, false)
  | .wn, false, _ => (.no, 0, false)
  | .wnO, false, _ => (.wy, 1, false)
  | .wy, false, _ => (.no, 0, false)
  | .wyO, false, _ => (.no, 0, false)
/-- We ask. -/
def askQ : Qs → Bool → Option (Qs × Nat)
  | .no, true => some (.wy, 1)
  | .wn, true => some (.wnO, 0)
  | .wyO, true => some (.wy, 0)
  | .yes, false => some (.wn, 2)
  | .wnO, false => some (.wn, 0)
  | .wy, false => some (.wyO, 0)
  | _, _ => none
def calmQ (s : Qs) : Bool := decide (s = .no) || decide (s = .yes)
/-- What is sent, as the other side hears it. -/
def sentQ : Nat → List Bool
  | 0 => []
  | n => [decide (n = 1)]

/-- Two sides, and of each what it sent that the other one hasn't heard. -/
structure Jo where
  x : Qs
  p : List Bool
  y : Qs
  q : List Bool
  deriving DecidableEq
/-- The one asks; the other one asks; the one hears; the other one hears. -/
def Jo.askX (t : Jo) (on : Bool) : Option Jo := (askQ t.x on).map fun r => { t with x := r.1, p := t.p ++ sentQ r.2 }
def Jo.askY (t : Jo) (on : Bool) : Option Jo := (askQ t.y on).map fun r => { t with y := r.1, q := t.q ++ sentQ r.2 }
def Jo.hearX (ax : Bool) (t : Jo) : Option (Jo × Bool) :=
  match t.q with
  | [] => none
  | b :: q => some ({ t with x := (hearQ t.x b ax).1, p := t.p ++ sentQ (hearQ t.x b ax).2.1, q := q }, (hearQ t.x b ax).2.2)
def Jo.hearY (ay : Bool) (t : Jo) : Option (Jo × Bool) :=
  match t.p with
  | [] => none
  | b :: p => some ({ t with y := (hearQ t.y b ay).1, q := t.q ++ sentQ (hearQ t.y b ay).2.1, p := p }, (hearQ t.y b ay).2.2)
def Jo.next (ax ay : Bool) (t : Jo) : List Jo :=
  (t.askX true).toList ++ (t.askX false).toList ++ (t.askY true).toList ++ (t.askY false).toList ++ ((t.hearX ax).toList.map Prod.fst) ++ ((t.hearY ay).toList.map Prod.fst)
def closeQ (ax ay : Bool) : Nat → List Jo → List Jo → List Jo
  | 0, _, seen => seen
  | n + 1, new, seen =>
    let fresh := (new.flatMap (Jo.next ax ay)).foldl (fun (acc : List Jo) t => if seen.contains t || acc.contains t then acc else t :: acc) []
    closeQ ax ay n fresh (seen ++ fresh)
def Jo.zero : Jo := ⟨.no, [], .no, []⟩
/-- All joint states that can be. -/
def joints (ax ay : Bool) : List Jo := closeQ ax ay 12 [.zero] [.zero]
/-- A turn: the one hears, if something was sent; then the other one. -/
def Jo.turn (ax ay : Bool) (t : Jo) : Jo :=
  let t := match t.hearX ax with | some r => r.1 | none => t
  match t.hearY ay with | some r => r.1 | none => t
/-- So many turns till nothing is left unheard. -/
def Jo.turns (ax ay : Bool) : Nat → Jo → Nat
  | 0, _ => 0
  | n + 1, t => if t.p.isEmpty && t.q.isEmpty then 0 else (Jo.turns ax ay n (t.turn ax ay)) + 1
def Jo.ok (ax ay : Bool) (l : List Jo) (t : Jo) : Bool :=
  (t.next ax ay).all (fun u => l.contains u) && ((t.hearX ax).all fun r => !r.2) && ((t.hearY ay).all fun r => !r.2) &&
    decide (t.turns ax ay 6 ≤ 4) && (if t.p.isEmpty && t.q.isEmpty then calmQ t.x && decide (t.x = t.y) else decide ((t.turn ax ay).turns ax ay 6 + 1 = t.turns ax ay 6))
theorem joints_ok (ax ay : Bool) : (joints ax ay).all (Jo.ok ax ay (joints ax ay)) = true := by
  cases ax <;> cases ay <;> decide +kernel

/-- It can be. -/
def Can (ax ay : Bool) (t : Jo) : Prop := (joints ax ay).contains t = true
theorem can_zero (ax ay : Bool) : Can ax ay .zero := by cases ax <;> cases ay <;> (unfold Can; decide +kernel)
section
variable {ax ay : Bool} {t u : Jo}
theorem Can.ok (h : Can ax ay t) : Jo.ok ax ay (joints ax ay) t = true := List.all_eq_true.1 (joints_ok ax ay) t (List.contains_iff_mem.1 h)
theorem Can.next (h : Can ax ay t) (hu : u ∈ t.next ax ay) : Can ax ay u := by
  have := h.ok
  simp only [Jo.ok, Bool.and_eq_true] at this
  exact List.all_eq_true.1 this.1.1.1.1 u hu
theorem Can.askX {on : Bool} (h : Can ax ay t) (hu : t.askX on = some u) : Can ax ay u := h.next (by unfold Jo.next; cases on <;> simp [hu])
theorem Can.askY {on : Bool} (h : Can ax ay t) (hu : t.askY on = some u) : Can ax ay u := h.next (by unfold Jo.next; cases on <;> simp [hu])
theorem Can.hearX {b : Bool} (h : Can ax ay t) (hu : t.hearX ax = some (u, b)) : Can ax ay u ∧ b = false := by
  refine ⟨h.next (by unfold Jo.next; simp [hu]), ?_⟩
  have := h.ok
  simp only [Jo.ok, Bool.and_eq_true] at this
  simpa [hu] using this.1.1.1.2
theorem Can.hearY {b : Bool} (h : Can ax ay t) (hu : t.hearY ay = some (u, b)) : Can ax ay u ∧ b = false := by
  refine ⟨h.next (by unfold Jo.next; simp [hu]), ?_⟩
  have := h.ok
  simp only [Jo.ok, Bool.and_eq_true] at this
  simpa [hu] using this.1.1.2
/-- How many turns it still takes. -/
theorem Can.few (h : Can ax ay t) : t.turns ax ay 6 ≤ 4 := by
  have := h.ok
  simp only [Jo.ok, Bool.and_eq_true, decide_eq_true_eq] at this
  exact this.1.2
theorem Can.rest (h : Can ax ay t) (hp : t.p = []) (hq : t.q = []) : calmQ t.x = true ∧ t.x = t.y := by
  have := h.ok
  simp only [Jo.ok, Bool.and_eq_true] at this
  have h2 := this.2
  rw [hp, hq] at h2
  simpa using h2
theorem Can.less (h : Can ax ay t) (hn : ¬ (t.p = [] ∧ t.q = [])) : (t.turn ax ay).turns ax ay 6 + 1 = t.turns ax ay 6 := by
  have := h.ok
  simp only [Jo.ok, Bool.and_eq_true] at this
  have h2 := this.2
  rw [if_neg (by simpa using hn)] at h2
  simpa using h2
end
end Go.Proofs.YtlmkpembccehkaaGreatDoor
/- Package qstate: the table of right states; which row a state has. -/
namespace Go.Proofs.YtlmkpembccehkaaGreatDoor
open Go Go.RowKit
set_option maxRecDepth 100000
set_option maxHeartbeats 4000000

/-- A state's cells; a move's. -/
def qsC (s : Qs) : List Value := [.int .i64 (s.kind : Int), .bool s.opp]
def mvC (s : Qs) (n : Nat) (b : Bool) : List Value := [.int .i64 (s.kind : Int), .bool s.opp, .int .i64 (n : Int), .bool b]
def mv0 : List Value := mvC .no 0 false
/-- What comes of asking; nothing where it can't be asked for. -/
def askC (s : Qs) (on : Bool) : List Value := match askQ s on with | some r => mvC r.1 r.2 false | none => mv0
def hearC (s : Qs) (is agree : Bool) : List Value := mvC (hearQ s is agree).1 (hearQ s is agree).2.1 (hearQ s is agree).2.2
def qsWord : Qs → List UInt8
  | .no => [110, 111] | .yes => [121, 101, 115] | .wn => [119, 97, 110, 116, 110, 111] | .wnO => [119, 97, 110, 116, 110, 111, 33] | .wy => [119, 97, 110, 116, 121, 101, 115] | .wyO => [119, 97, 110, 116, 121, 101, 115, 33]
/-- A row's cells. -/
def rowC (s : Qs) : List Value := qsC s ++ [.string ⟨(qsWord s).toArray⟩] ++ hearC s true true ++ hearC s false true ++ askC s true ++ askC s false
def row0 : List Value := [.int .i64 0, .bool false, .string ⟨#[]⟩] ++ mv0 ++ mv0 ++ mv0 ++ mv0
def rowOfC : Option Qs → List Value
  | some s => rowC s
  | none => row0
def qsAll : List Qs := [.no, .yes, .wn, .wnO, .wy, .wyO]
def tabC : List Value := qsAll.flatMap rowC
theorem rowC_length (s : Qs) : (rowC s).length = 19 := by cases s <;> rfl
theorem rowC_one (s : Qs) : ∀ v ∈ rowC s, v.oneCell' = true := by
  have h : (rowC s).all Value.oneCell' = true := by cases s <;> rfl
  exact fun v hv => List.all_eq_true.1 h v hv
theorem tabC_length : tabC.length = 114 := rfl
theorem tabC_at {k : Nat} {s : Qs} (h : qsAll[k]? = some s) : (tabC.drop (k * 19)).take 19 = rowC s := by
  rcases k with _ | _ | _ | _ | _ | _ | k <;> simp only [qsAll, List.getElem?_cons_zero, List.getElem?_cons_succ, Option.some.injEq, List.getElem?_nil, reduceCtorEq] at h
  all_goals (subst h; rfl)

/-- The table is there. -/
def QsAt (W : World) : Prop := W.rangeAt 7 0 tabC
theorem QsAt.only {W W' : World} (h : QsAt W) (ho : Only (fun _ => False) W W') : QsAt W' := range_only h ho

theorem size_state : (Tryz.prog.info? 90).map (·.size) = some 2 := by kernel_rfl
theorem size_move : (Tryz.prog.info? 101).map (·.size) = some 4 := by kernel_rfl
theorem size_qrow : (Tryz.prog.info? 134).map (·.size) = some 19 := by kernel_rfl
theorem size_qtab : (Tryz.prog.info? 146).map (·.size) = some 114 := by kernel_rfl
theorem zero_qrow : (Tryz.prog.info? 134).map (fun i => (i.zero, i.size)) = some (some (.agg row0.toArray), 19) := by kernel_rfl
theorem guard_state : Tryz.prog.eqGuardType Tryz.prog.depth 90 = false := by kernel_rfl
theorem eq_state (W : World) (a c : Int) (b d : Bool) : (Op.equalIn 10000 90 (.agg #[.int .i64 a, .bool b]) (.agg #[.int .i64 c, .bool d])).run Tryz.prog W = .ok (decide (a = c ∧ b = d)) W := by
  rw [show (10000 : Nat) = 9999 + 1 from rfl, run_equalIn_struct W 9999 _ _ _ (by kernel_rfl) (by kernel_rfl)]
  have u3 : Tryz.prog.underlying 3 = some (.int .i64) := Tryz.underlying3
  have u4 : Tryz.prog.underlying 4 = some .bool := Tryz.underlying4
  simp only [Program.fieldsOf, Tryz.underlying90, Op.eqFields]
  simp [go_sem, u3, u4, Result.andThen]
  by_cases h1 : a = c <;> by_cases h2 : b = d <;> simp [h1, h2]

/-- Which states come ahead. -/
theorem qsOf_all {k : Int} {o : Bool} {s : Qs} (h : qsOf k o = some s) : k = (s.kind : Int) ∧ o = s.opp := qsOf_some h
theorem qsOf_at {k : Int} {o : Bool} {s : Qs} (h : (s.kind : Int) = k ∧ s.opp = o) : qsOf k o = some s := by
  obtain ⟨rfl, rfl⟩ := h
  exact qsOf_kind s
theorem qsOf_none {k : Int} {o : Bool} (h : ∀ i, i < 6 → ∀ s, qsAll[i]? = some s → ¬ ((s.kind : Int) = k ∧ s.opp = o)) : qsOf k o = none := by
  cases e : qsOf k o with
  | none => rfl
  | some s =>
    obtain ⟨h1, h2⟩ := qsOf_some e
    have key : ∃ i, i < 6 ∧ qsAll[i]? = some s := by
      cases s
      · exact ⟨0, by omega, rfl⟩
      · exact ⟨1, by omega, rfl⟩
      · exact ⟨2, by omega, rfl⟩
      · exact ⟨3, by omega, rfl⟩
      · exact ⟨4, by omega, rfl⟩
      · exact ⟨5, by omega, rfl⟩
    obtain ⟨i, hi, hs⟩ := key
    exact absurd ⟨h1.symm, h2.symm⟩ (h i hi s hs)

theorem index_tab (W : World) {k : Nat} {s : Qs} (h : qsAll[k]? = some s) : (Instr.index 146 (.agg tabC.toArray) (.int .i64 (k : Int))).run Tryz.prog W = .ok (.agg (rowC s).toArray) W := by
  rcases k with _ | _ | _ | _ | _ | _ | k <;> simp only [qsAll, List.getElem?_cons_zero, List.getElem?_cons_succ, Option.some.injEq, List.getElem?_nil, reduceCtorEq] at h
  all_goals (subst h; kernel_rfl)

theorem row_state {w : World} {b : Nat} {t : TypeId} {rc : List Value} {s : Qs} {sk : Int} {so : Bool} (h1 : rc = rowC s) (h2 : sk = (s.kind : Int)) (h3 : so = s.opp) (h : Blk w b t rc) : w.rangeAt b 0 [.int .i64 sk, .bool so] := by
  subst h1 h2 h3
  intro j v hj
  rw [Nat.zero_add, h.cell]
  rcases j with _ | _ | j
  · exact hj
  · exact hj
  · simp at hj
theorem rowOf_any {W : World} (hT : QsAt W) (k : Int) (o : Bool) : Calls Tryz.prog 50 #[.agg #[.int .i64 k, .bool o]] W fun e w' =>
    e = .returned (.tuple #[.agg (rowOfC (qsOf k o)).toArray, .bool (qsOf k o).isSome]) ∧ Only (fun _ => False) W w' := by
  have HT := Lib.hid hT
  clear hT
  obtain ⟨tab, htab⟩ : ∃ tab, tab = tabC := ⟨_, rfl⟩
  have HTab := Lib.hid htab
  have HT0 : Hid (∀ w, Only (fun _ => False) W w → w.rangeAt 7 0 tab) := fun w ho => by rw [HTab.out]; exact HT.out.only ho
  clear htab
  go_enter Tryz.func50, Tryz.ntmps50
  go_wp2_with (first
    | ((with_reducible show wpList _ _ _ (⟨some 2, _, _, _, _, _⟩ :: _) _ _); refine step_alloc rfl 134 rfl row0 _ zero_qrow ?_)
    | ((with_reducible show wpList _ _ _ (⟨some 6, _, _, _, _, _⟩ :: _) _ _); refine wpList_load_mid rfl 146 _ rfl 7 0 rfl tab _ (HT0.out _ (((Only.refl _ _).alloc _).alloc _)) Tryz.underlying146 rfl (by rw [HTab.out]; exact size_qtab) ?_))
  obtain ⟨N, hN⟩ : ∃ N, N = W.heap.size := ⟨_, rfl⟩
  obtain ⟨W0, hW0⟩ : ∃ W0, W0 = (W.alloc (.cells #[.int .i64 k, .bool o] 90)).alloc (.cells row0.toArray 134) := ⟨_, rfl⟩
  have HB1 : Blk W0 N 90 [.int .i64 k, .bool o] := by rw [hW0, hN]; exact (Blk.new W _ [.int .i64 k, .bool o]).alloc _
  have HB2 : Blk W0 (N + 1) 134 row0 := by rw [hW0, hN]; exact Blk.new' _ _ _ (by simp)
  have HO0 : Hid (Only (fun _ => False) W W0) := by rw [hW0]; exact ((Only.refl _ _).alloc _).alloc _
  have HZ : Hid (W0.heap.size = N + 2) := by rw [hW0, hN]; simp [Hid]
  have HNW : Hid (W.heap.size = N) := hN.symm
  rw [← hW0, ← hN]
  have HB1 := Lib.hid HB1
  have HB2 := Lib.hid HB2
  clear hW0 hN
  go_loopw [7] (fun i w => ∃ j : Nat, j ≤ 6 ∧ i = .int .i64 (j : Int) ∧ Hid (∀ i, i < j → ∀ s, qsAll[i]? = some s → ¬ ((s.kind : Int) = k ∧ s.opp = o)) ∧ Hid (Only (fun _ => False) W0 w)) (fun i _ => 6 - (intOf i).toNat)
  case atStart => exact ⟨0, Nat.zero_le _, rfl, (fun i hi => absurd hi (by omega)), Only.refl _ _⟩
  case round =>
    obtain ⟨j, hj, rfl, hno, ho⟩ := hrel
    by_cases hlt : j < 6
    · obtain ⟨s, hs⟩ : ∃ s, qsAll[j]? = some s := ⟨_, List.getElem?_eq_getElem (by exact hlt)⟩
      have HS := Lib.hid hs
      obtain ⟨rc, hrc⟩ : ∃ rc, rc = rowC s := ⟨_, rfl⟩
      have HRC := Lib.hid hrc
      have hidx : (Instr.index 146 (.agg tab.toArray) (.int .i64 (j : Int))).run Tryz.prog wr = .ok (.agg rc.toArray) wr := by rw [HTab.out, hrc]; exact index_tab wr hs
      obtain ⟨same, hsame⟩ : ∃ same, same = decide ((s.kind : Int) = k ∧ s.opp = o) := ⟨_, rfl⟩
      have heq : ∀ W, (Op.equalIn 10000 90 (.agg #[.int .i64 (s.kind : Int), .bool s.opp]) (.agg #[.int .i64 k, .bool o])).run Tryz.prog W = .ok same W := fun W => by rw [hsame]; exact eq_state W _ _ _ _
      have HSame := Lib.hid hsame
      have hgr := guard_state
      obtain ⟨sk, hsk⟩ : ∃ sk, sk = (s.kind : Int) := ⟨_, rfl⟩
      obtain ⟨so, hso⟩ : ∃ so, so = s.opp := ⟨_, rfl⟩
      rw [← hsk, ← hso] at heq
      have HSK := Lib.hid hsk
      have HSO := Lib.hid hso
      have HB1' := Lib.hid (HB1.out.only ho.out (fun h => h))
      have HB2' := Lib.hid (HB2.out.only ho.out (fun h => h))
      have hlN := HB2'.out.lt
      clear hs hrc hsame hsk hso
      cases same
      · go_wp2_with (first
          | ((with_reducible show wpList _ _ _ (⟨some 5, _, _, _, _, _⟩ :: _) _ _); refine step_alloc rfl 134 rfl row0 _ zero_qrow ?_)
          | ((with_reducible show wpList _ _ _ (⟨none, .store 134 (.tmp 5) _, _, _, _, _⟩ :: _) _ _); refine step_store rfl 134 _ _ rfl wr.heap.size rfl rc rfl _ row0 (Blk.new _ _ _) (by rw [HRC.out, rowC_length]; exact size_qrow) (by rw [HRC.out, rowC_length]; rfl) (by rw [HRC.out]; exact rowC_one s) ?_; intro w4 hB4 hz4 ho4)
          | ((with_reducible show wpList _ _ _ (⟨some 11, _, _, _, _, _⟩ :: _) _ _); refine wpList_load_mid rfl 90 _ rfl wr.heap.size 0 rfl [.int .i64 sk, .bool so] _ (row_state HRC.out HSK.out HSO.out hB4.out) Tryz.underlying90 rfl size_state ?_)
          | ((with_reducible show wpList _ _ _ (⟨some 12, _, _, _, _, _⟩ :: _) _ _); refine wpList_load_mid rfl 90 _ rfl N 0 rfl [.int .i64 k, .bool o] _ (range_of ((HB1'.out.alloc _).only ho4 (by have := HB1'.out.lt; omega))) Tryz.underlying90 rfl size_state ?_))
        go_roundw
        case rel =>
          refine ⟨j + 1, by omega, by go_num, fun i hi s' hs' => ?_, ho.out.trans ((((Only.refl (fun i => wr.heap.size ≤ i) wr).alloc _).trans ho4 (fun i hi => .inl (by omega))).mono (T := fun _ => False) (fun i hi => .inr hi)) (fun _ h => h.elim)⟩
          rcases Nat.lt_or_ge i j with h1 | h1
          · exact hno.out i h1 s' hs'
          · obtain rfl : i = j := by omega
            rw [HS.out] at hs'
            cases hs'
            exact of_decide_eq_false HSame.out.symm
        case measure => simp [intOf]; omega
      · go_wp2_with (first
          | ((with_reducible show wpList _ _ _ (⟨some 5, _, _, _, _, _⟩ :: _) _ _); refine step_alloc rfl 134 rfl row0 _ zero_qrow ?_)
          | ((with_reducible show wpList _ _ _ (⟨none, .store 134 (.tmp 5) _, _, _, _, _⟩ :: _) _ _); refine step_store rfl 134 _ _ rfl wr.heap.size rfl rc rfl _ row0 (Blk.new _ _ _) (by rw [HRC.out, rowC_length]; exact size_qrow) (by rw [HRC.out, rowC_length]; rfl) (by rw [HRC.out]; exact rowC_one s) ?_; intro w4 hB4 hz4 ho4)
          | ((with_reducible show wpList _ _ _ (⟨some 11, _, _, _, _, _⟩ :: _) _ _); refine wpList_load_mid rfl 90 _ rfl wr.heap.size 0 rfl [.int .i64 sk, .bool so] _ (row_state HRC.out HSK.out HSO.out hB4.out) Tryz.underlying90 rfl size_state ?_)
          | ((with_reducible show wpList _ _ _ (⟨some 12, _, _, _, _, _⟩ :: _) _ _); refine wpList_load_mid rfl 90 _ rfl N 0 rfl [.int .i64 k, .bool o] _ (range_of ((HB1'.out.alloc _).only ho4 (by have := HB1'.out.lt; omega))) Tryz.underlying90 rfl size_state ?_)
          | ((with_reducible show wpList _ _ _ (⟨some 14, _, _, _, _, _⟩ :: _) _ _); refine wpList_load_mid rfl 134 _ rfl wr.heap.size 0 rfl rc _ (range_of hB4.out) Tryz.underlying134 rfl (by rw [HRC.out, rowC_length]; exact size_qrow) ?_)
          | ((with_reducible show wpList _ _ _ (⟨none, .store 134 (.tmp 2) _, _, _, _, _⟩ :: _) _ _); refine step_store rfl 134 _ _ rfl (N + 1) rfl rc rfl _ row0 ((HB2'.out.alloc _).only ho4 (by omega)) (by rw [HRC.out, rowC_length]; exact size_qrow) (by rw [HRC.out, rowC_length]; rfl) (by rw [HRC.out]; exact rowC_one s) ?_; intro w5 hB5 hz5 ho5))
        refine ret_cell2 rfl (N + 1) rfl _ rc _ hB5.out Tryz.underlying134 rfl (by rw [HRC.out, rowC_length]; exact size_qrow) rfl ?_
        have e := qsOf_at (of_decide_eq_true HSame.out.symm)
        rw [e]
        refine ⟨by rw [HRC.out]; rfl, ?_⟩
        have h4 := ((((Only.refl (fun i => wr.heap.size ≤ i) wr).alloc (.cells row0.toArray 134)).trans ho4 (fun i hi => .inl (by omega))).mono (T := fun i => N ≤ i) (fun i hi => .inr hi))
        exact (HO0.out.trans ho.out (fun _ h => h.elim)).trans (h4.trans ho5 (fun i hi => .inl (by omega))) (fun i hi => .inr (by have := HNW.out; omega))
    · have HB2' := Lib.hid (HB2.out.only ho.out (fun h => h))
      go_wp2_with (first
        | ((with_reducible show wpList _ _ _ (⟨none, .store 134 (.tmp 2) _, _, _, _, _⟩ :: _) _ _); refine step_store rfl 134 _ _ rfl (N + 1) rfl row0 rfl _ row0 HB2'.out size_qrow rfl (fun v hv => List.all_eq_true.1 (show row0.all Value.oneCell' = true from rfl) v hv) ?_; intro w5 hB5 hz5 ho5))
      refine ret_cell2 rfl (N + 1) rfl _ row0 _ hB5.out Tryz.underlying134 rfl size_qrow rfl ?_
      obtain rfl : j = 6 := by omega
      rw [qsOf_none hno.out]
      exact ⟨rfl, (HO0.out.trans ho.out (fun _ h => h.elim)).trans ho5 (fun i hi => .inr (by have := HNW.out; omega))⟩
end Go.Proofs.YtlmkpembccehkaaGreatDoor
/- Package qstate: one contract for each of its calls. -/
namespace Go.Proofs.YtlmkpembccehkaaGreatDoor
open Go Go.RowKit
set_option maxRecDepth 100000
set_option maxHeartbeats 4000000

/-- What the calls read at package level. -/
structure QsW (W : World) : Prop where
  tab : QsAt W
  form : ErrAt Tryz.prog W "truchman/api.ErrForm"
  state : ErrAt Tryz.prog W "truchman/api.ErrState"
theorem QsW.only {W W' : World} (h : QsW W) (ho : Only (fun _ => False) W W') : QsW W' := ⟨h.tab.only ho, h.form.only ho, h.state.only ho⟩

theorem row0_one : ∀ v ∈ row0, v.oneCell' = true := fun v hv => List.all_eq_true.1 (show row0.all Value.oneCell' = true from rfl) v hv
theorem mvC_one (s : Qs) (n : Nat) (b : Bool) : ∀ v ∈ mvC s n b, v.oneCell' = true := by
  intro v hv
  simp only [mvC, List.mem_cons, List.not_mem_nil, or_false] at hv
  rcases hv with rfl | rfl | rfl | rfl <;> rfl
/-- A row, or none: its cells behind a name. -/
def RowIs (rc : List Value) (x : Option Qs) : Prop := rc = rowOfC x
theorem RowIs.length {rc : List Value} {x : Option Qs} (h : RowIs rc x) : rc.length = 19 := by
  unfold RowIs at h
  subst h
  cases x with
  | none => rfl
  | some s => exact rowC_length s
theorem RowIs.one {rc : List Value} {x : Option Qs} (h : RowIs rc x) : ∀ v ∈ rc, v.oneCell' = true := by
  unfold RowIs at h
  subst h
  cases x with
  | none => exact row0_one
  | some s => exact rowC_one s
theorem RowIs.size {rc : List Value} {x : Option Qs} (h : RowIs rc x) : (Tryz.prog.info? 134).map (·.size) = some rc.length := by rw [h.length]; exact size_qrow
theorem rowOf_at {W w : World} (hT : Hid (QsW W)) (ho : Only (fun _ => False) W w) (k : Int) (o : Bool) {x : Option Qs} (hx : Hid (qsOf k o = x)) : Calls Tryz.prog 50 #[.agg #[.int .i64 k, .bool o]] w fun e w' =>
    ∃ rc, e = .returned (.tuple #[.agg rc.toArray, .bool x.isSome]) ∧ Hid (RowIs rc x) ∧ Only (fun _ => False) w w' :=
  (rowOf_any (hT.out.only ho).tab k o).mono fun e w' ⟨he, h⟩ => ⟨_, by rw [he, hx.out], (show RowIs _ _ from rfl), h⟩

theorem alloc_only {W : World} (o : Obj) : Only (fun _ => False) W (W.alloc o) := (Only.refl _ _).alloc _
theorem only_row {W a b c : World} (h : Only (fun _ => False) W a) (h1 : Only (fun _ => False) a b) (o : Obj) (h2 : Only (· = b.heap.size) (b.alloc o) c) : Only (fun _ => False) W c :=
  (h.trans h1 (fun _ h => h.elim)).trans (((Only.refl (fun i => b.heap.size ≤ i) b).alloc o).trans h2 (fun i hi => .inl (by omega))) (fun i hi => .inr (by have := h.size; have := h1.size; omega))
theorem on_any (W : World) (k : Int) (o : Bool) : Calls Tryz.prog 30 #[.agg #[.int .i64 k, .bool o]] W fun e w' => e = .returned (.bool (decide (k = 1))) ∧ Only (fun _ => False) W w' := by
  go_enter Tryz.func30, Tryz.ntmps30
  go_wp2
  go_ret
  exact ⟨rfl, alloc_only _⟩

/-- The parts of a row. -/
theorem range_mid {w : World} {b : Nat} {t : TypeId} {rc pre mid post : List Value} (h : Blk w b t rc) (e : rc = pre ++ mid ++ post) {n : Nat} (hn : pre.length = n) : w.rangeAt b n mid := by
  subst hn
  intro j v hj
  have hl := (List.getElem?_eq_some_iff.1 hj).1
  rw [h.cell, e, List.append_assoc, List.getElem?_append_right (by omega), List.getElem?_append_left (by omega)]
  simpa using hj
section
variable {w : World} {b : Nat} {t : TypeId} {rc : List Value} {s : Qs}
theorem at_for (h : RowIs rc (some s)) (hb : Blk w b t rc) : w.rangeAt b 3 (hearC s true true) := range_mid (pre := qsC s ++ [.string ⟨(qsWord s).toArray⟩]) (post := hearC s false true ++ askC s true ++ askC s false) hb (by unfold RowIs at h; rw [h]; simp only [rowOfC, rowC, List.append_assoc]) rfl
theorem at_against (h : RowIs rc (some s)) (hb : Blk w b t rc) : w.rangeAt b 7 (hearC s false true) := range_mid (pre := qsC s ++ [.string ⟨(qsWord s).toArray⟩] ++ hearC s true true) (post := askC s true ++ askC s false) hb (by unfold RowIs at h; rw [h]; simp only [rowOfC, rowC, List.append_assoc]) rfl
theorem askC_length (s : Qs) (on : Bool) : (askC s on).length = 4 := by unfold askC; cases askQ s on <;> rfl
theorem at_on (h : RowIs rc (some s)) (hb : Blk w b t rc) : w.rangeAt b 11 (askC s true) := range_mid (pre := qsC s ++ [.string ⟨(qsWord s).toArray⟩] ++ hearC s true true ++ hearC s false true) (post := askC s false) hb (by unfold RowIs at h; rw [h]; simp only [rowOfC, rowC, List.append_assoc]) rfl
theorem at_off (h : RowIs rc (some s)) (hb : Blk w b t rc) : w.rangeAt b 15 (askC s false) := by
  refine range_mid (pre := qsC s ++ [.string ⟨(qsWord s).toArray⟩] ++ hearC s true true ++ hearC s false true ++ askC s true) (post := []) (mid := askC s false) hb (by unfold RowIs at h; rw [h]; simp only [rowOfC, rowC, List.append_assoc, List.append_nil]) ?_
  simp only [List.length_append, askC_length]
  rfl
end

/-- A move beside no error. -/
def Moved (W : World) (cs : List Value) (e : Ending) (w' : World) : Prop := e = .returned (.tuple #[.agg cs.toArray, .nilIface]) ∧ Only (fun _ => False) W w'
/-- No move, and an error. -/
def Refused (W : World) (e : Ending) (w' : World) : Prop := (∃ u v, e = .returned (.tuple #[.agg mv0.toArray, .iface u v])) ∧ Only (fun _ => False) W w'

theorem zero_move : (Tryz.prog.info? 101).map (fun i => (i.zero, i.size)) = some (some (.agg mv0.toArray), 4) := by kernel_rfl
/-- What a call that got its row has turned, and its result's variable. -/
theorem row_end {W w0 w1 w4 : World} {b : Nat} {t : TypeId} {cs : List Value} {o : Obj} (h0 : Only (fun _ => False) W w0) (hb : Blk w0 b t cs) (h1 : Only (fun _ => False) w0 w1) (h4 : Only (· = w1.heap.size) (w1.alloc o) w4) :
    Blk w4 b t cs ∧ Only (fun _ => False) W w4 := by
  have hlt := (hb.only h1 (fun h => h)).lt
  exact ⟨((hb.only h1 (fun h => h)).alloc _).only h4 (by omega), only_row h0 h1 _ h4⟩
theorem hear_none {W : World} (hT : QsW W) (k : Int) (o is agree : Bool) (hx : qsOf k o = none) : Calls Tryz.prog 27 #[.agg #[.int .i64 k, .bool o], .bool is, .bool agree] W (Refused W) := by
  have HT := Lib.hid hT
  have HX := Lib.hid hx
  clear hT hx
  go_enter Tryz.func27, Tryz.ntmps27
  go_wp2_with (first
    | (go_at_call 50; refine (rowOf_at HT ((alloc_only _).alloc _) k o HX).mono ?_; rintro e w1 ⟨rc, rfl, hrc, ho1⟩)
    | ((with_reducible show wpList _ _ _ (⟨some 8, _, _, _, _, _⟩ :: _) _ _); refine step_alloc rfl 134 rfl row0 _ zero_qrow ?_)
    | ((with_reducible show wpList _ _ _ (⟨none, .store 134 (.tmp 8) _, _, _, _, _⟩ :: _) _ _); refine step_store rfl 134 _ _ rfl w1.heap.size rfl rc rfl _ row0 (Blk.new _ _ _) hrc.out.size hrc.out.length.symm hrc.out.one ?_; intro w4 hB4 hz4 ho4))
  have hB6 : Blk w4 (W.heap.size + 1) 101 mv0 := ((Blk.new' (W.alloc (.cells #[.int .i64 k, .bool o] 90)) 101 mv0 (by simp)).only ho1 (fun h => h) |>.alloc _).only ho4 (by have := ho1.size; simp at this; omega)
  have hO : Only (fun _ => False) W w4 := only_row ((alloc_only _).alloc _) ho1 _ ho4
  obtain ⟨u, v, hv⟩ := HT.out.form
  have hc := hO.cellv (World.var?_cell rfl hv 0) (fun h => h)
  obtain ⟨N, hN⟩ : ∃ N, N = W.heap.size + 1 := ⟨_, rfl⟩
  rw [← hN] at hB6 ⊢
  have HN : Hid (N = W.heap.size + 1) := hN
  have HB6 := Lib.hid hB6
  have HO := Lib.hid hO
  have hne : 5 ≠ N := by have := World.block_lt_of_cell? _ _ (World.var?_cell rfl hv 0 : W.cell? ⟨5, 0, none⟩ = _); simp only at this; omega
  have hO5 : ∀ W', Only (· = N) w4 W' → Only (fun _ => False) W W' := fun W' h => hO.trans h (fun i hi => .inr (by omega))
  clear hN hO hv ho1 hB4 hz4 ho4 HB6
  refine wp_refuse 101 34 _ 5 6 18 19 N (.iface u v) mv0 (by kernel_rfl) rfl rfl rfl rfl rfl rfl rfl rfl rfl rfl (by kernel_rfl) (by kernel_rfl) (by kernel_rfl) (by kernel_rfl) (by kernel_rfl) (by kernel_rfl) (by kernel_rfl) (by kernel_rfl) (by kernel_rfl) size_move (mvC_one _ _ _) load_err rfl hc rfl rfl rfl hB6 rfl hne ?_
  intro W5 hB5 ho5
  go_wp2
  refine ret_cell2 rfl N rfl _ mv0 _ hB5.out Tryz.underlying101 rfl size_move rfl ?_
  exact ⟨⟨u, v, rfl⟩, hO5 _ ho5.out⟩

theorem hear_some {W : World} (hT : QsW W) (k : Int) (o is agree : Bool) {s : Qs} (hx : qsOf k o = some s) : Calls Tryz.prog 27 #[.agg #[.int .i64 k, .bool o], .bool is, .bool agree] W (Moved W (hearC s is agree)) := by
  have HT := Lib.hid hT
  have HX := Lib.hid hx
  obtain ⟨same, hsame⟩ : ∃ same, same = decide (k = 0 ∧ o = false) := ⟨_, rfl⟩
  have heq : ∀ W, (Op.equalIn 10000 90 (.agg #[.int .i64 k, .bool o]) (.agg #[.int .i64 0, .bool false])).run Tryz.prog W = .ok same W := fun W => by rw [hsame]; exact eq_state W _ _ _ _
  have HSame := Lib.hid hsame
  have hgr := guard_state
  obtain ⟨mf, hmf⟩ : ∃ mf, mf = hearC s true true := ⟨_, rfl⟩
  obtain ⟨ma, hma⟩ : ∃ ma, ma = hearC s false true := ⟨_, rfl⟩
  have HMF := Lib.hid hmf
  have HMA := Lib.hid hma
  clear hT hx hsame hmf hma
  obtain ⟨W0, hW0⟩ : ∃ W0, W0 = (W.alloc (.cells #[.int .i64 k, .bool o] 90)).alloc (.cells mv0.toArray 101) := ⟨_, rfl⟩
  have HB3 : Hid (Blk W0 W.heap.size 90 [.int .i64 k, .bool o]) := by rw [hW0]; exact (Blk.new W _ [.int .i64 k, .bool o]).alloc _
  have HB6 : Hid (Blk W0 (W.heap.size + 1) 101 mv0) := by rw [hW0]; exact Blk.new' _ _ mv0 (by simp)
  have HO0 : Hid (Only (fun _ => False) W W0) := by rw [hW0]; exact (alloc_only _).alloc _
  have HW0 := Lib.hid hW0
  clear hW0
  cases is
  · skip
    go_enter Tryz.func27, Tryz.ntmps27
    go_wp2_with (first
      | ((with_reducible show wpList _ _ _ (⟨some 6, _, _, _, _, _⟩ :: _) _ _); refine step_alloc rfl 101 rfl mv0 _ zero_move ?_; rw [← HW0.out])
      | ((with_reducible show wpList _ _ _ (⟨some 11, _, _, _, _, _⟩ :: _) _ _); refine wpList_load_mid rfl 90 _ rfl W.heap.size 0 rfl [.int .i64 k, .bool o] _ (range_of HB3.out) Tryz.underlying90 rfl size_state ?_)
      | (go_at_call 50; refine (rowOf_at HT HO0.out k o HX).mono ?_; rintro e w1 ⟨rc, rfl, hrc, ho1⟩)
      | ((with_reducible show wpList _ _ _ (⟨some 8, _, _, _, _, _⟩ :: _) _ _); refine step_alloc rfl 134 rfl row0 _ zero_qrow ?_)
      | ((with_reducible show wpList _ _ _ (⟨none, .store 134 (.tmp 8) _, _, _, _, _⟩ :: _) _ _); refine step_store rfl 134 _ _ rfl w1.heap.size rfl rc rfl _ row0 (Blk.new _ _ _) hrc.out.size hrc.out.length.symm hrc.out.one ?_; intro w4 hB4 hz4 ho4; have HE := Lib.hid (row_end HO0.out HB6.out ho1 ho4); have HB34 := Lib.hid (row_end HO0.out HB3.out ho1 ho4).1; clear ho4)
      | ((with_reducible show wpList _ _ _ (⟨some 24, _, _, _, _, _⟩ :: _) _ _); refine wpList_load_mid rfl 101 _ rfl w1.heap.size 7 rfl ma _ (by rw [HMA.out]; exact at_against hrc.out hB4.out) Tryz.underlying101 rfl (by rw [HMA.out]; exact size_move) ?_)
      | ((with_reducible show wpList _ _ _ (⟨none, .store 101 (.tmp 6) _, _, _, _, _⟩ :: _) _ _); refine step_store rfl 101 _ _ rfl (W.heap.size + 1) rfl ma rfl _ mv0 HE.out.1 (by rw [HMA.out]; exact size_move) (by rw [HMA.out]; rfl) (by rw [HMA.out]; exact mvC_one _ _ _) ?_; intro w5 hB5 hz5 ho5)
      | fail)
    refine ret_cell2 rfl (W.heap.size + 1) rfl _ ma _ hB5.out Tryz.underlying101 rfl (by rw [HMA.out]; exact size_move) rfl ?_
    refine ⟨?_, HE.out.2.trans ho5 (fun i hi => .inr (by omega))⟩
    rw [HMA.out]
    cases s <;> rfl
  · cases same
    · skip
      go_enter Tryz.func27, Tryz.ntmps27
      go_wp2_with (first
        | ((with_reducible show wpList _ _ _ (⟨some 6, _, _, _, _, _⟩ :: _) _ _); refine step_alloc rfl 101 rfl mv0 _ zero_move ?_; rw [← HW0.out])
        | ((with_reducible show wpList _ _ _ (⟨some 11, _, _, _, _, _⟩ :: _) _ _); refine wpList_load_mid rfl 90 _ rfl W.heap.size 0 rfl [.int .i64 k, .bool o] _ (range_of HB3.out) Tryz.underlying90 rfl size_state ?_)
        | (go_at_call 50; refine (rowOf_at HT HO0.out k o HX).mono ?_; rintro e w1 ⟨rc, rfl, hrc, ho1⟩)
        | ((with_reducible show wpList _ _ _ (⟨some 8, _, _, _, _, _⟩ :: _) _ _); refine step_alloc rfl 134 rfl row0 _ zero_qrow ?_)
        | ((with_reducible show wpList _ _ _ (⟨none, .store 134 (.tmp 8) _, _, _, _, _⟩ :: _) _ _); refine step_store rfl 134 _ _ rfl w1.heap.size rfl rc rfl _ row0 (Blk.new _ _ _) hrc.out.size hrc.out.length.symm hrc.out.one ?_; intro w4 hB4 hz4 ho4; have HE := Lib.hid (row_end HO0.out HB6.out ho1 ho4); have HB34 := Lib.hid (row_end HO0.out HB3.out ho1 ho4).1; clear ho4)
        | ((with_reducible show wpList _ _ _ (⟨some 26, _, _, _, _, _⟩ :: _) _ _); refine wpList_load_mid rfl 90 _ rfl W.heap.size 0 rfl [.int .i64 k, .bool o] _ (range_of HB34.out) Tryz.underlying90 rfl size_state ?_)
        | ((with_reducible show wpList _ _ _ (⟨some 36, _, _, _, _, _⟩ :: _) _ _); refine wpList_load_mid rfl 101 _ rfl w1.heap.size 3 rfl mf _ (by rw [HMF.out]; exact at_for hrc.out hB4.out) Tryz.underlying101 rfl (by rw [HMF.out]; exact size_move) ?_)
        | ((with_reducible show wpList _ _ _ (⟨none, .store 101 (.tmp 6) _, _, _, _, _⟩ :: _) _ _); refine step_store rfl 101 _ _ rfl (W.heap.size + 1) rfl mf rfl _ mv0 HE.out.1 (by rw [HMF.out]; exact size_move) (by rw [HMF.out]; rfl) (by rw [HMF.out]; exact mvC_one _ _ _) ?_; intro w5 hB5 hz5 ho5)
        | fail)
      refine ret_cell2 rfl (W.heap.size + 1) rfl _ mf _ hB5.out Tryz.underlying101 rfl (by rw [HMF.out]; exact size_move) rfl ?_
      refine ⟨?_, HE.out.2.trans ho5 (fun i hi => .inr (by omega))⟩
      rw [HMF.out]
      have hne := of_decide_eq_false HSame.out.symm
      obtain ⟨e1, e2⟩ := qsOf_some HX.out
      cases s <;> cases agree <;> first | rfl | exact absurd ⟨e1, e2⟩ hne
    · obtain ⟨rfl, rfl⟩ := of_decide_eq_true HSame.out.symm
      obtain rfl : s = .no := by have := HX.out; unfold qsOf at this; rw [if_pos ⟨rfl, rfl⟩] at this; exact (Option.some.inj this).symm
      cases agree
      · skip
        go_enter Tryz.func27, Tryz.ntmps27
        go_wp2_with (first
          | ((with_reducible show wpList _ _ _ (⟨some 6, _, _, _, _, _⟩ :: _) _ _); refine step_alloc rfl 101 rfl mv0 _ zero_move ?_; rw [← HW0.out])
          | ((with_reducible show wpList _ _ _ (⟨some 11, _, _, _, _, _⟩ :: _) _ _); refine wpList_load_mid rfl 90 _ rfl W.heap.size 0 rfl [.int .i64 0, .bool false] _ (range_of HB3.out) Tryz.underlying90 rfl size_state ?_)
          | (go_at_call 50; refine (rowOf_at HT HO0.out 0 false HX).mono ?_; rintro e w1 ⟨rc, rfl, hrc, ho1⟩)
          | ((with_reducible show wpList _ _ _ (⟨some 8, _, _, _, _, _⟩ :: _) _ _); refine step_alloc rfl 134 rfl row0 _ zero_qrow ?_)
          | ((with_reducible show wpList _ _ _ (⟨none, .store 134 (.tmp 8) _, _, _, _, _⟩ :: _) _ _); refine step_store rfl 134 _ _ rfl w1.heap.size rfl rc rfl _ row0 (Blk.new _ _ _) hrc.out.size hrc.out.length.symm hrc.out.one ?_; intro w4 hB4 hz4 ho4; have HE := Lib.hid (row_end HO0.out HB6.out ho1 ho4); have HB34 := Lib.hid (row_end HO0.out HB3.out ho1 ho4).1; clear ho4)
          | ((with_reducible show wpList _ _ _ (⟨some 26, _, _, _, _, _⟩ :: _) _ _); refine wpList_load_mid rfl 90 _ rfl W.heap.size 0 rfl [.int .i64 0, .bool false] _ (range_of HB34.out) Tryz.underlying90 rfl size_state ?_)
          | ((with_reducible show wpList _ _ _ (⟨some 33, _, _, _, _, _⟩ :: _) _ _); refine wpList_load_mid rfl 90 _ rfl W.heap.size 0 rfl [.int .i64 0, .bool false] _ (range_of HB34.out) Tryz.underlying90 rfl size_state ?_)
          | ((with_reducible show wpList _ _ _ (⟨none, .store 101 (.tmp 6) _, _, _, _, _⟩ :: _) _ _); refine step_store rfl 101 _ _ rfl (W.heap.size + 1) rfl (mvC .no 2 false) rfl _ mv0 HE.out.1 size_move rfl (mvC_one _ _ _) ?_; intro w5 hB5 hz5 ho5)
          | fail)
        refine ret_cell2 rfl (W.heap.size + 1) rfl _ (mvC .no 2 false) _ hB5.out Tryz.underlying101 rfl size_move rfl ?_
        refine ⟨?_, HE.out.2.trans ho5 (fun i hi => .inr (by omega))⟩
        rfl
      · skip
        go_enter Tryz.func27, Tryz.ntmps27
        go_wp2_with (first
          | ((with_reducible show wpList _ _ _ (⟨some 6, _, _, _, _, _⟩ :: _) _ _); refine step_alloc rfl 101 rfl mv0 _ zero_move ?_; rw [← HW0.out])
          | ((with_reducible show wpList _ _ _ (⟨some 11, _, _, _, _, _⟩ :: _) _ _); refine wpList_load_mid rfl 90 _ rfl W.heap.size 0 rfl [.int .i64 0, .bool false] _ (range_of HB3.out) Tryz.underlying90 rfl size_state ?_)
          | (go_at_call 50; refine (rowOf_at HT HO0.out 0 false HX).mono ?_; rintro e w1 ⟨rc, rfl, hrc, ho1⟩)
          | ((with_reducible show wpList _ _ _ (⟨some 8, _, _, _, _, _⟩ :: _) _ _); refine step_alloc rfl 134 rfl row0 _ zero_qrow ?_)
          | ((with_reducible show wpList _ _ _ (⟨none, .store 134 (.tmp 8) _, _, _, _, _⟩ :: _) _ _); refine step_store rfl 134 _ _ rfl w1.heap.size rfl rc rfl _ row0 (Blk.new _ _ _) hrc.out.size hrc.out.length.symm hrc.out.one ?_; intro w4 hB4 hz4 ho4; have HE := Lib.hid (row_end HO0.out HB6.out ho1 ho4); have HB34 := Lib.hid (row_end HO0.out HB3.out ho1 ho4).1; clear ho4)
          | ((with_reducible show wpList _ _ _ (⟨some 26, _, _, _, _, _⟩ :: _) _ _); refine wpList_load_mid rfl 90 _ rfl W.heap.size 0 rfl [.int .i64 0, .bool false] _ (range_of HB34.out) Tryz.underlying90 rfl size_state ?_)
          | ((with_reducible show wpList _ _ _ (⟨some 36, _, _, _, _, _⟩ :: _) _ _); refine wpList_load_mid rfl 101 _ rfl w1.heap.size 3 rfl mf _ (by rw [HMF.out]; exact at_for hrc.out hB4.out) Tryz.underlying101 rfl (by rw [HMF.out]; exact size_move) ?_)
          | ((with_reducible show wpList _ _ _ (⟨none, .store 101 (.tmp 6) _, _, _, _, _⟩ :: _) _ _); refine step_store rfl 101 _ _ rfl (W.heap.size + 1) rfl mf rfl _ mv0 HE.out.1 (by rw [HMF.out]; exact size_move) (by rw [HMF.out]; rfl) (by rw [HMF.out]; exact mvC_one _ _ _) ?_; intro w5 hB5 hz5 ho5)
          | fail)
        refine ret_cell2 rfl (W.heap.size + 1) rfl _ mf _ hB5.out Tryz.underlying101 rfl (by rw [HMF.out]; exact size_move) rfl ?_
        refine ⟨?_, HE.out.2.trans ho5 (fun i hi => .inr (by omega))⟩
        rw [HMF.out]
        rfl
end Go.Proofs.YtlmkpembccehkaaGreatDoor
/- Package qstate: Ask, Calm, Word. -/
namespace Go.Proofs.YtlmkpembccehkaaGreatDoor
open Go Go.RowKit
set_option maxRecDepth 100000
set_option maxHeartbeats 4000000

theorem eq_ask (W : World) (s : Qs) (on : Bool) : (Op.equalIn 10000 101 (.agg (askC s on).toArray) (.agg #[.int .i64 0, .bool false, .int .i64 0, .bool false])).run Tryz.prog W = .ok (askQ s on).isNone W := by
  cases s <;> cases on <;> kernel_rfl
theorem guard_move : Tryz.prog.eqGuardType Tryz.prog.depth 101 = false := by kernel_rfl
theorem askC_one (s : Qs) (on : Bool) : ∀ v ∈ askC s on, v.oneCell' = true := by
  unfold askC
  cases askQ s on <;> exact mvC_one _ _ _
theorem askC_size (s : Qs) (on : Bool) : (Tryz.prog.info? 101).map (·.size) = some (askC s on).length := by rw [askC_length]; exact size_move

/-- Where an asking stands: the result's variable, and what came of it. -/
structure AskAt (W w : World) (b c : Nat) (mc : List Value) : Prop where
  res : Blk w b 101 mv0
  mv : Blk w c 101 mc
  only : Only (fun _ => False) W w
  new : W.heap.size ≤ b ∧ W.heap.size ≤ c ∧ b ≠ c
theorem AskAt.first {W w4 w5 : World} {b : Nat} {t : TypeId} {cs mo : List Value} (hb : Blk w4 b 101 mv0) (ho : Only (fun _ => False) W w4) (h5 : Blk w5 w4.heap.size 101 mo) (ho5 : Only (· = w4.heap.size) (w4.alloc (.cells cs.toArray t)) w5) (hW : W.heap.size ≤ b) : AskAt W w5 b w4.heap.size mo :=
  have hlt := hb.lt
  ⟨(hb.alloc _).only ho5 (by omega), h5, only_row (Only.refl _ _) ho _ ho5, hW, ho.size, by omega⟩
theorem AskAt.next {W w w' : World} {b c : Nat} {mc mo : List Value} (h : AskAt W w b c mo) (hb : Blk w' c 101 mc) (ho : Only (· = c) w w') : AskAt W w' b c mc :=
  ⟨h.res.only ho h.new.2.2, hb, h.only.trans ho (fun i hi => .inr (by have := h.new; omega)), h.new⟩
theorem AskAt.done {W w w' : World} {b c : Nat} {mc : List Value} (h : AskAt W w b c mc) (ho : Only (· = b) w w') : Only (fun _ => False) W w' := h.only.trans ho (fun i hi => .inr (by have := h.new; omega))
/-- Refused with the error of the state. -/
def RefusedS (W : World) (e : Ending) (w' : World) : Prop := (∃ u v, W.var? Tryz.prog "truchman/api.ErrState" = some #[.iface u v] ∧ e = .returned (.tuple #[.agg mv0.toArray, .iface u v])) ∧ Only (fun _ => False) W w'
end Go.Proofs.YtlmkpembccehkaaGreatDoor
/- Layer 11 as plain functions: a table; two tables joined by rows of verbs: each option's two sides are two sides joined (layer 10). -/
namespace Go.Proofs.YtlmkpembccehkaaGreatDoor

/-- How many verbs two sides joined still hear till they rest. -/
def Jo.hears (ax ay : Bool) : Nat → Jo → Nat
  | 0, _ => 0
  | n + 1, t => match t.hearX ax with
    | some r => Jo.hears ax ay n r.1 + 1
    | none => match t.hearY ay with
      | some r => Jo.hears ax ay n r.1 + 1
      | none => 0
def Jo.okH (ax ay : Bool) (t : Jo) : Bool :=
  ((t.hearX ax).all fun r => decide (r.1.hears ax ay 6 + 1 = t.hears ax ay 6)) && ((t.hearY ay).all fun r => decide (r.1.hears ax ay 6 + 1 = t.hears ax ay 6)) &&
    ((t.askX true).all fun u => decide (u.hears ax ay 6 ≤ t.hears ax ay 6 + 2)) && ((t.askX false).all fun u => decide (u.hears ax ay 6 ≤ t.hears ax ay 6 + 2)) &&
    ((t.askY true).all fun u => decide (u.hears ax ay 6 ≤ t.hears ax ay 6 + 2)) && ((t.askY false).all fun u => decide (u.hears ax ay 6 ≤ t.hears ax ay 6 + 2))
theorem joints_okH (ax ay : Bool) : (joints ax ay).all (Jo.okH ax ay) = true := by
  cases ax <;> cases ay <;> decide +kernel
section
variable {ax ay : Bool} {t u : Jo}
theorem Can.okH (h : Can ax ay t) : Jo.okH ax ay t = true := List.all_eq_true.1 (joints_okH ax ay) t (List.contains_iff_mem.1 h)
theorem Can.hearsX {b : Bool} (h : Can ax ay t) (hu : t.hearX ax = some (u, b)) : u.hears ax ay 6 + 1 = t.hears ax ay 6 := by
  have := h.okH
  simp only [Jo.okH, Bool.and_eq_true] at this
  simpa [hu] using this.1.1.1.1.1
theorem Can.hearsY {b : Bool} (h : Can ax ay t) (hu : t.hearY ay = some (u, b)) : u.hears ax ay 6 + 1 = t.hears ax ay 6 := by
  have := h.okH
  simp only [Jo.okH, Bool.and_eq_true] at this
  simpa [hu] using this.1.1.1.1.2
theorem Can.asksX {on : Bool} (h : Can ax ay t) (hu : t.askX on = some u) : u.hears ax ay 6 ≤ t.hears ax ay 6 + 2 := by
  have := h.okH
  simp only [Jo.okH, Bool.and_eq_true] at this
  cases on
  · simpa [hu] using this.1.1.2
  · simpa [hu] using this.1.1.1.2
theorem Can.asksY {on : Bool} (h : Can ax ay t) (hu : t.askY on = some u) : u.hears ax ay 6 ≤ t.hears ax ay 6 + 2 := by
  have := h.okH
  simp only [Jo.okH, Bool.and_eq_true] at this
  cases on
  · simpa [hu] using this.2
  · simpa [hu] using this.1.2
end

/-- A table: of each side (0, 1) and option the state; what was heard, asked for, sent. -/
structure Tb where
  st : Nat → Nat → Qs
  heard : Nat
  asked : Nat
  sent : Nat
def Tb.zero : Tb := ⟨fun _ _ => .no, 0, 0, 0⟩
/-- A state of a side and an option that may not be there. -/
def Tb.get (t : Tb) (s o : Int) : Qs := if (s = 0 ∨ s = 1) ∧ 0 ≤ o ∧ o ≤ 255 then t.st s.toNat o.toNat else .no
def setQ (f : Nat → Nat → Qs) (s o : Nat) (q : Qs) : Nat → Nat → Qs := fun a b => if a = s ∧ b = o then q else f a b
/-- The verb that is sent of a side. -/
def toldV (s k : Nat) : Nat := if k = 0 then 0 else 250 + 2 * s + k
/-- Of which side a verb speaks that is heard. -/
def sideV (v : Nat) : Nat := if v < 253 then 1 else 0
/-- Whether a verb is for. -/
def forV (v : Nat) : Bool := decide (v % 2 = 1)
def sentN (k : Nat) : Nat := if k = 0 then 0 else 1
/-- A verb (251 to 254) of an option (0 to 255) is heard. -/
def Tb.hear (ag : Nat → Nat → Bool) (t : Tb) (v o : Nat) : Tb × Qs × Nat × Bool :=
  let m := hearQ (t.st (sideV v) o) (forV v) (ag (sideV v) o)
  (⟨setQ t.st (sideV v) o m.1, t.heard + 1, t.asked, t.sent + sentN m.2.1⟩, m)
/-- A side's option is asked for. -/
def Tb.ask (t : Tb) (s o : Nat) (on : Bool) : Option (Tb × Qs × Nat) :=
  (askQ (t.st s o) on).map fun m => (⟨setQ t.st s o m.1, t.heard, t.asked + 1, t.sent + sentN m.2⟩, m)

/-! Two tables joined. -/
/-- Of a row of verbs and options those that speak of a side of an option: whether each is for. -/
def partV (l : List (Nat × Nat)) (s o : Nat) : List Bool := (l.filter fun e => decide (sideV e.1 = s ∧ e.2 = o)).map fun e => forV e.1
theorem partV_append (l m : List (Nat × Nat)) (s o : Nat) : partV (l ++ m) s o = partV l s o ++ partV m s o := by simp [partV]
theorem partV_nil (s o : Nat) : partV [] s o = [] := rfl
theorem partV_cons (e : Nat × Nat) (l : List (Nat × Nat)) (s o : Nat) : partV (e :: l) s o = (if sideV e.1 = s ∧ e.2 = o then [forV e.1] else []) ++ partV l s o := by
  unfold partV
  by_cases h : sideV e.1 = s ∧ e.2 = o <;> simp [h]
/-- What a table sends: no verb, or one. -/
def sendV (s k o : Nat) : List (Nat × Nat) := if k = 0 then [] else [(toldV s k, o)]
theorem sideV_told {s k : Nat} (hs : s < 2) (hk : k = 1 ∨ k = 2) : sideV (toldV s k) = 1 - s := by
  unfold sideV toldV
  rcases hk with rfl | rfl <;> (rcases s with _ | _ | s <;> simp <;> omega)
theorem forV_told {s k : Nat} (hk : k = 1 ∨ k = 2) : forV (toldV s k) = decide (k = 1) := by
  unfold forV toldV
  rcases hk with rfl | rfl <;> simp <;> omega
theorem partV_send {s k o : Nat} (hs : s < 2) (hk : k ≤ 2) (s' o' : Nat) : partV (sendV s k o) s' o' = if s' = 1 - s ∧ o' = o then sentQ k else [] := by
  unfold sendV
  by_cases h0 : k = 0
  · subst h0
    simp [partV, sentQ]
  · have hk' : k = 1 ∨ k = 2 := by omega
    rw [if_neg h0, partV_cons, partV_nil, List.append_nil]
    simp only [sideV_told hs hk', forV_told hk']
    have : sentQ k = [decide (k = 1)] := by rcases hk' with rfl | rfl <;> rfl
    rw [this]
    by_cases h : 1 - s = s' ∧ o = o'
    · rw [if_pos h, if_pos ⟨h.1.symm, h.2.symm⟩]
    · rw [if_neg h, if_neg (fun h' => h ⟨h'.1.symm, h'.2.symm⟩)]

/-- Two tables, and of each what it sent that the other one hasn't heard. -/
structure Tj where
  a : Nat → Nat → Qs
  p : List (Nat × Nat)
  b : Nat → Nat → Qs
  q : List (Nat × Nat)
/-- One side of one option on the one (d), and what answers to it on the other one. -/
def Tj.jo (t : Tj) (d o : Nat) : Jo := ⟨t.a d o, partV t.p (1 - d) o, t.b (1 - d) o, partV t.q d o⟩
structure Tj.Ok (ga gb : Nat → Nat → Bool) (t : Tj) : Prop where
  can : ∀ d o, d < 2 → o < 256 → Can (ga d o) (gb (1 - d) o) (t.jo d o)
  vp : ∀ e ∈ t.p, (251 ≤ e.1 ∧ e.1 ≤ 254) ∧ e.2 < 256
  vq : ∀ e ∈ t.q, (251 ≤ e.1 ∧ e.1 ≤ 254) ∧ e.2 < 256

theorem hearQ_sends (s : Qs) (b a : Bool) : (hearQ s b a).2.1 ≤ 2 := by cases s <;> cases b <;> cases a <;> decide
theorem askQ_sends {s : Qs} {on : Bool} {r : Qs × Nat} (h : askQ s on = some r) : r.2 ≤ 2 := by
  cases s <;> cases on <;> simp only [askQ, Option.some.injEq, reduceCtorEq] at h
  all_goals (subst h; decide)
theorem sideV_lt (v : Nat) : sideV v < 2 := by unfold sideV; split <;> omega
theorem told_valid {s k : Nat} (hs : s < 2) (hk : k = 1 ∨ k = 2) : 251 ≤ toldV s k ∧ toldV s k ≤ 254 := by
  unfold toldV
  rcases hk with rfl | rfl <;> simp <;> omega
theorem sendV_valid {s k o : Nat} (hs : s < 2) (hk : k ≤ 2) (ho : o < 256) : ∀ e ∈ sendV s k o, (251 ≤ e.1 ∧ e.1 ≤ 254) ∧ e.2 < 256 := by
  intro e he
  unfold sendV at he
  split at he
  · cases he
  · simp only [List.mem_cons, List.not_mem_nil, or_false] at he
    subst he
    exact ⟨told_valid hs (by omega), ho⟩
theorem sum_change {f g : Nat → Nat} {j : Nat} : ∀ (n : Nat), j < n → (∀ i, i < n → i ≠ j → f i = g i) → ((List.range n).map f).sum + g j = ((List.range n).map g).sum + f j
  | 0, h, _ => absurd h (by omega)
  | n + 1, h, hf => by
    simp only [List.range_succ, List.map_append, List.sum_append, List.map_cons, List.map_nil, List.sum_cons, List.sum_nil]
    by_cases e : j = n
    · subst e
      have : (List.range j).map f = (List.range j).map g := List.map_congr_left fun i hi => hf i (by have := List.mem_range.1 hi; omega) (by have := List.mem_range.1 hi; omega)
      rw [this]
      omega
    · have := sum_change n (by omega) (fun i hi hij => hf i (by omega) hij)
      have h1 := hf n (by omega) (fun h => e h.symm)
      omega
/-- How many verbs are still heard till all rests. -/
def Tj.pot (ga gb : Nat → Nat → Bool) (t : Tj) : Nat := ((List.range 512).map fun i => (t.jo (i / 256) (i % 256)).hears (ga (i / 256) (i % 256)) (gb (1 - i / 256) (i % 256)) 6).sum
section
variable {ga gb : Nat → Nat → Bool} {t u : Tj}
/-- But one pair of sides has turned. -/
def Tj.But (t u : Tj) (d o : Nat) : Prop := ∀ d' o', d' < 2 → ¬ (d' = d ∧ o' = o) → u.jo d' o' = t.jo d' o'
theorem Tj.But.pot {d o : Nat} (h : t.But u d o) (hd : d < 2) (ho : o < 256) : u.pot ga gb + (t.jo d o).hears (ga d o) (gb (1 - d) o) 6 = t.pot ga gb + (u.jo d o).hears (ga d o) (gb (1 - d) o) 6 := by
  have := sum_change (f := fun i => (u.jo (i / 256) (i % 256)).hears (ga (i / 256) (i % 256)) (gb (1 - i / 256) (i % 256)) 6) (g := fun i => (t.jo (i / 256) (i % 256)).hears (ga (i / 256) (i % 256)) (gb (1 - i / 256) (i % 256)) 6) (j := d * 256 + o) 512 (by omega) (fun i hi hij => by
    show (u.jo _ _).hears _ _ 6 = (t.jo _ _).hears _ _ 6
    rw [h (i / 256) (i % 256) (by omega) (by omega)])
  simp only [show (d * 256 + o) / 256 = d by omega, show (d * 256 + o) % 256 = o by omega] at this
  exact this
theorem Tj.But.can {d o : Nat} (h : t.But u d o) (ht : t.Ok ga gb) (hc : Can (ga d o) (gb (1 - d) o) (u.jo d o)) : ∀ d' o', d' < 2 → o' < 256 → Can (ga d' o') (gb (1 - d') o') (u.jo d' o') := fun d' o' hd ho => by
  by_cases e : d' = d ∧ o' = o
  · rw [e.1, e.2]; exact hc
  · rw [h d' o' hd e]; exact ht.can d' o' hd ho

/-- The one asks. -/
def Tj.asksA (t : Tj) (d o : Nat) (m : Qs × Nat) : Tj := { t with a := setQ t.a d o m.1, p := t.p ++ sendV d m.2 o }
def Tj.asksB (t : Tj) (d o : Nat) (m : Qs × Nat) : Tj := { t with b := setQ t.b d o m.1, q := t.q ++ sendV d m.2 o }
theorem Tj.Ok.asksA (ht : t.Ok ga gb) {d o : Nat} (hd : d < 2) (ho : o < 256) {on : Bool} {m : Qs × Nat} (hm : askQ (t.a d o) on = some m) : (t.asksA d o m).Ok ga gb ∧ (t.asksA d o m).pot ga gb ≤ t.pot ga gb + 2 := by
  have hk := askQ_sends hm
  have hb : t.But (t.asksA d o m) d o := fun d' o' hd' e => by
    simp only [Tj.jo, Tj.asksA, partV_append, partV_send hd hk, setQ]
    rw [if_neg e, if_neg (fun e' => e ⟨by omega, e'.2⟩), List.append_nil]
  have hj : (t.jo d o).askX on = some ((t.asksA d o m).jo d o) := by
    simp only [Jo.askX, Tj.jo, Tj.asksA, partV_append, partV_send hd hk, setQ, hm]
    simp
  have hc := ht.can d o hd ho
  refine ⟨⟨hb.can ht (hc.askX hj), fun e he => ?_, ht.vq⟩, ?_⟩
  · rcases List.mem_append.1 he with he | he
    · exact ht.vp e he
    · exact sendV_valid hd hk ho e he
  · have h1 := hb.pot (ga := ga) (gb := gb) hd ho
    have h2 := hc.asksX hj
    omega
theorem Tj.Ok.asksB (ht : t.Ok ga gb) {d o : Nat} (hd : d < 2) (ho : o < 256) {on : Bool} {m : Qs × Nat} (hm : askQ (t.b d o) on = some m) : (t.asksB d o m).Ok ga gb ∧ (t.asksB d o m).pot ga gb ≤ t.pot ga gb + 2 := by
  have hk := askQ_sends hm
  have e1 : 1 - (1 - d) = d := by omega
  have hb : t.But (t.asksB d o m) (1 - d) o := fun d' o' hd' e => by
    simp only [Tj.jo, Tj.asksB, partV_append, partV_send hd hk, setQ]
    rw [if_neg (fun e' => e ⟨by omega, e'.2⟩), if_neg (fun e' => e ⟨by omega, e'.2⟩), List.append_nil]
  have hj : (t.jo (1 - d) o).askY on = some ((t.asksB d o m).jo (1 - d) o) := by
    simp only [Jo.askY, Tj.jo, Tj.asksB, partV_append, partV_send hd hk, setQ, e1, hm]
    simp
  have hc := ht.can (1 - d) o (by omega) ho
  refine ⟨⟨hb.can ht (hc.askY hj), ht.vp, fun e he => ?_⟩, ?_⟩
  · rcases List.mem_append.1 he with he | he
    · exact ht.vq e he
    · exact sendV_valid hd hk ho e he
  · have h1 := hb.pot (ga := ga) (gb := gb) (by omega) ho
    have h2 := hc.asksY hj
    omega
/-- The one hears what the other one sent first. -/
def Tj.hearsA (ga : Nat → Nat → Bool) (t : Tj) (v o : Nat) (q : List (Nat × Nat)) : Tj :=
  { t with a := setQ t.a (sideV v) o (hearQ (t.a (sideV v) o) (forV v) (ga (sideV v) o)).1, p := t.p ++ sendV (sideV v) (hearQ (t.a (sideV v) o) (forV v) (ga (sideV v) o)).2.1 o, q := q }
def Tj.hearsB (gb : Nat → Nat → Bool) (t : Tj) (v o : Nat) (p : List (Nat × Nat)) : Tj :=
  { t with b := setQ t.b (sideV v) o (hearQ (t.b (sideV v) o) (forV v) (gb (sideV v) o)).1, q := t.q ++ sendV (sideV v) (hearQ (t.b (sideV v) o) (forV v) (gb (sideV v) o)).2.1 o, p := p }
theorem Tj.Ok.hearsA (ht : t.Ok ga gb) {v o : Nat} {q : List (Nat × Nat)} (hq : t.q = (v, o) :: q) :
    (t.hearsA ga v o q).Ok ga gb ∧ (t.hearsA ga v o q).pot ga gb + 1 = t.pot ga gb ∧ (hearQ (t.a (sideV v) o) (forV v) (ga (sideV v) o)).2.2 = false := by
  obtain ⟨_, ho⟩ := ht.vq (v, o) (by rw [hq]; exact List.mem_cons_self ..)
  have hd := sideV_lt v
  have hk := hearQ_sends (t.a (sideV v) o) (forV v) (ga (sideV v) o)
  have hb : t.But (t.hearsA ga v o q) (sideV v) o := fun d' o' hd' e => by
    simp only [Tj.jo, Tj.hearsA, partV_append, partV_send hd hk, setQ, hq, partV_cons]
    rw [if_neg e, if_neg (fun e' => e ⟨by omega, e'.2⟩), List.append_nil, if_neg (fun e' => e ⟨e'.1.symm, e'.2.symm⟩), List.nil_append]
  have hj : (t.jo (sideV v) o).hearX (ga (sideV v) o) = some ((t.hearsA ga v o q).jo (sideV v) o, (hearQ (t.a (sideV v) o) (forV v) (ga (sideV v) o)).2.2) := by
    simp only [Jo.hearX, Tj.jo, Tj.hearsA, partV_append, partV_send hd hk, setQ, hq, partV_cons]
    simp
  have hc := ht.can (sideV v) o hd ho
  refine ⟨⟨hb.can ht (hc.hearX hj).1, fun e he => ?_, fun e he => ht.vq e (by rw [hq]; exact List.mem_cons_of_mem _ he)⟩, ?_, (hc.hearX hj).2⟩
  · rcases List.mem_append.1 he with he | he
    · exact ht.vp e he
    · exact sendV_valid hd hk ho e he
  · have h1 := hb.pot (ga := ga) (gb := gb) hd ho
    have h2 := hc.hearsX hj
    omega
theorem Tj.Ok.hearsB (ht : t.Ok ga gb) {v o : Nat} {p : List (Nat × Nat)} (hp : t.p = (v, o) :: p) :
    (t.hearsB gb v o p).Ok ga gb ∧ (t.hearsB gb v o p).pot ga gb + 1 = t.pot ga gb ∧ (hearQ (t.b (sideV v) o) (forV v) (gb (sideV v) o)).2.2 = false := by
  obtain ⟨_, ho⟩ := ht.vp (v, o) (by rw [hp]; exact List.mem_cons_self ..)
  have hd := sideV_lt v
  have e1 : 1 - (1 - sideV v) = sideV v := by omega
  have hk := hearQ_sends (t.b (sideV v) o) (forV v) (gb (sideV v) o)
  have hb : t.But (t.hearsB gb v o p) (1 - sideV v) o := fun d' o' hd' e => by
    simp only [Tj.jo, Tj.hearsB, partV_append, partV_send hd hk, setQ, hp, partV_cons]
    rw [if_neg (fun e' => e ⟨by omega, e'.2⟩), if_neg (fun e' => e ⟨by omega, e'.2⟩), List.append_nil, if_neg (fun e' => e ⟨by omega, e'.2.symm⟩), List.nil_append]
  have hj : (t.jo (1 - sideV v) o).hearY (gb (sideV v) o) = some ((t.hearsB gb v o p).jo (1 - sideV v) o, (hearQ (t.b (sideV v) o) (forV v) (gb (sideV v) o)).2.2) := by
    simp only [Jo.hearY, Tj.jo, Tj.hearsB, partV_append, partV_send hd hk, setQ, hp, partV_cons, e1]
    simp
  have hc := ht.can (1 - sideV v) o (by omega) ho
  rw [e1] at hc
  have hh := hc.hearY hj
  refine ⟨⟨hb.can ht (by rw [e1]; exact hh.1), fun e he => ht.vp e (by rw [hp]; exact List.mem_cons_of_mem _ he), fun e he => ?_⟩, ?_, hh.2⟩
  · rcases List.mem_append.1 he with he | he
    · exact ht.vq e he
    · exact sendV_valid hd hk ho e he
  · have h1 := hb.pot (ga := ga) (gb := gb) (by omega) ho
    have h2 := hc.hearsY hj
    rw [e1] at h1
    omega
/-- At first. -/
def Tj.zero : Tj := ⟨fun _ _ => .no, [], fun _ _ => .no, []⟩
theorem Tj.zero_ok : Tj.zero.Ok ga gb := ⟨fun _ _ _ _ => can_zero _ _, fun _ h => (by cases h), fun _ h => (by cases h)⟩
theorem Tj.zero_pot : Tj.zero.pot ga gb = 0 := by
  have : ∀ (ax ay : Bool), Jo.hears ax ay 6 .zero = 0 := by decide
  unfold Tj.pot
  rw [show (fun i => (Tj.zero.jo (i / 256) (i % 256)).hears (ga (i / 256) (i % 256)) (gb (1 - i / 256) (i % 256)) 6) = fun _ => 0 from funext fun i => this _ _]
  generalize 512 = n
  induction n with
  | zero => rfl
  | succ n ih => rw [List.range_succ, List.map_append, List.sum_append, ih]; rfl
/-- At rest. -/
theorem Tj.Ok.rest (ht : t.Ok ga gb) (hp : t.p = []) (hq : t.q = []) {d o : Nat} (hd : d < 2) (ho : o < 256) : calmQ (t.a d o) = true ∧ t.a d o = t.b (1 - d) o :=
  (ht.can d o hd ho).rest (by simp only [Tj.jo, hp, partV_nil]) (by simp only [Tj.jo, hq, partV_nil])
end
end Go.Proofs.YtlmkpembccehkaaGreatDoor
/- Package table: a table's cells: the states, what is agreed to, the counts. -/
namespace Go.Proofs.YtlmkpembccehkaaGreatDoor
open Go Go.RowKit
set_option maxRecDepth 100000
set_option maxHeartbeats 4000000

/-- A table's cells. -/
structure TbC (cs : List Value) (ag : Nat → Nat → Bool) (t : Tb) : Prop where
  len : cs.length = 1539
  kind : ∀ i s o, s < 2 → o < 256 → i = s * 512 + o * 2 → cs[i]? = some (.int .i64 ((t.st s o).kind : Int))
  opp : ∀ i s o, s < 2 → o < 256 → i = s * 512 + o * 2 + 1 → cs[i]? = some (.bool (t.st s o).opp)
  agr : ∀ i s o, s < 2 → o < 256 → i = 1024 + (s * 256 + o) → cs[i]? = some (.bool (ag s o))
  heard : cs[1536]? = some (.int .i64 (t.heard : Int))
  asked : cs[1537]? = some (.int .i64 (t.asked : Int))
  sent : cs[1538]? = some (.int .i64 (t.sent : Int))

def tb0 : List Value := ((List.range 1024).map fun i => if i % 2 = 0 then Value.int .i64 0 else .bool false) ++ (List.replicate 512 (Value.bool false) ++ [.int .i64 0, .int .i64 0, .int .i64 0])
theorem tb0_length : tb0.length = 1539 := by simp [tb0]
theorem tb0_one : ∀ v ∈ tb0, v.oneCell' = true := by
  intro v hv
  simp only [tb0, List.mem_append, List.mem_map, List.mem_replicate, List.mem_cons, List.not_mem_nil, or_false] at hv
  rcases hv with ⟨i, _, rfl⟩ | ⟨_, rfl⟩ | rfl | rfl | rfl
  · split <;> rfl
  all_goals rfl
theorem tb0_c : TbC tb0 (fun _ _ => false) Tb.zero := by
  refine ⟨tb0_length, fun i s o hs ho hi => ?_, fun i s o hs ho hi => ?_, fun i s o hs ho hi => ?_, ?_, ?_, ?_⟩
  · rw [tb0, List.getElem?_append_left (by simp; omega), List.getElem?_map, List.getElem?_range (by omega)]
    simp only [Option.map_some]
    rw [if_pos (by omega)]
    rfl
  · rw [tb0, List.getElem?_append_left (by simp; omega), List.getElem?_map, List.getElem?_range (by omega)]
    simp only [Option.map_some]
    rw [if_neg (by omega)]
    rfl
  · rw [tb0, List.getElem?_append_right (by simp; omega), List.getElem?_append_left (by simp; omega), List.getElem?_replicate, if_pos (by simp; omega)]
  · rw [tb0, List.getElem?_append_right (by simp), List.getElem?_append_right (by simp)]; simp; rfl
  · rw [tb0, List.getElem?_append_right (by simp), List.getElem?_append_right (by simp)]; simp; rfl
  · rw [tb0, List.getElem?_append_right (by simp), List.getElem?_append_right (by simp)]; simp; rfl

section
variable {cs : List Value} {ag : Nat → Nat → Bool} {t : Tb}
theorem TbC.setSt (h : TbC cs ag t) {s o i : Nat} (hs : s < 2) (ho : o < 256) (hi : i = s * 512 + o * 2) (q : Qs) :
    TbC (cs.take i ++ ([.int .i64 (q.kind : Int), .bool q.opp] ++ cs.drop (i + 2))) ag { t with st := setQ t.st s o q } := by
  have hl := h.len
  rw [set2_eq _ _ _ _ (by omega)]
  have key : ∀ j, (j ≠ i ∧ j ≠ i + 1) → ((cs.set i (.int .i64 (q.kind : Int))).set (i + 1) (.bool q.opp))[j]? = cs[j]? := fun j hj => by
    rw [List.getElem?_set_ne (by omega), List.getElem?_set_ne (by omega)]
  have k0 : ((cs.set i (.int .i64 (q.kind : Int))).set (i + 1) (.bool q.opp))[i]? = some (.int .i64 (q.kind : Int)) := by
    rw [List.getElem?_set_ne (by omega), List.getElem?_set_self (by omega)]
  have k1 : ((cs.set i (.int .i64 (q.kind : Int))).set (i + 1) (.bool q.opp))[i + 1]? = some (.bool q.opp) := by
    rw [List.getElem?_set_self (by simp; omega)]
  refine ⟨by simp [hl], fun j s' o' hs' ho' hj => ?_, fun j s' o' hs' ho' hj => ?_, fun j s' o' hs' ho' hj => ?_, ?_, ?_, ?_⟩
  · show _ = some (Value.int .i64 ((setQ t.st s o q s' o').kind : Int))
    unfold setQ
    by_cases e : s' = s ∧ o' = o
    · rw [if_pos e]
      obtain rfl : j = i := by obtain ⟨rfl, rfl⟩ := e; omega
      exact k0
    · rw [if_neg e, key j (by omega)]
      exact h.kind j s' o' hs' ho' hj
  · show _ = some (Value.bool (setQ t.st s o q s' o').opp)
    unfold setQ
    by_cases e : s' = s ∧ o' = o
    · rw [if_pos e]
      obtain rfl : j = i + 1 := by obtain ⟨rfl, rfl⟩ := e; omega
      exact k1
    · rw [if_neg e, key j (by omega)]
      exact h.opp j s' o' hs' ho' hj
  · rw [key j (by omega)]; exact h.agr j s' o' hs' ho' hj
  · rw [key _ (by omega)]; exact h.heard
  · rw [key _ (by omega)]; exact h.asked
  · rw [key _ (by omega)]; exact h.sent
theorem TbC.setAg (h : TbC cs ag t) {s o i : Nat} (hs : s < 2) (ho : o < 256) (hi : i = 1024 + (s * 256 + o)) (b : Bool) :
    TbC (cs.set i (.bool b)) (fun x y => if x = s ∧ y = o then b else ag x y) t := by
  have hl := h.len
  have key : ∀ j, j ≠ i → (cs.set i (.bool b))[j]? = cs[j]? := fun j hj => List.getElem?_set_ne (by omega)
  refine ⟨by simp [hl], fun j s' o' hs' ho' hj => ?_, fun j s' o' hs' ho' hj => ?_, fun j s' o' hs' ho' hj => ?_, ?_, ?_, ?_⟩
  · rw [key j (by omega)]; exact h.kind j s' o' hs' ho' hj
  · rw [key j (by omega)]; exact h.opp j s' o' hs' ho' hj
  · by_cases e : s' = s ∧ o' = o
    · rw [if_pos e]
      obtain rfl : j = i := by obtain ⟨rfl, rfl⟩ := e; omega
      rw [List.getElem?_set_self (by omega)]
    · rw [if_neg e, key j (by omega)]; exact h.agr j s' o' hs' ho' hj
  · rw [key _ (by omega)]; exact h.heard
  · rw [key _ (by omega)]; exact h.asked
  · rw [key _ (by omega)]; exact h.sent
theorem TbC.setHeard (h : TbC cs ag t) (n : Nat) : TbC (cs.set 1536 (.int .i64 (n : Int))) ag { t with heard := n } := by
  have hl := h.len
  have key : ∀ j, j ≠ 1536 → (cs.set 1536 (.int .i64 (n : Int)))[j]? = cs[j]? := fun j hj => List.getElem?_set_ne (by omega)
  refine ⟨by simp [hl], fun j s' o' hs' ho' hj => ?_, fun j s' o' hs' ho' hj => ?_, fun j s' o' hs' ho' hj => ?_, List.getElem?_set_self (by omega), ?_, ?_⟩
  · rw [key j (by omega)]; exact h.kind j s' o' hs' ho' hj
  · rw [key j (by omega)]; exact h.opp j s' o' hs' ho' hj
  · rw [key j (by omega)]; exact h.agr j s' o' hs' ho' hj
  · rw [key _ (by omega)]; exact h.asked
  · rw [key _ (by omega)]; exact h.sent
theorem TbC.setAsked (h : TbC cs ag t) (n : Nat) : TbC (cs.set 1537 (.int .i64 (n : Int))) ag { t with asked := n } := by
  have hl := h.len
  have key : ∀ j, j ≠ 1537 → (cs.set 1537 (.int .i64 (n : Int)))[j]? = cs[j]? := fun j hj => List.getElem?_set_ne (by omega)
  refine ⟨by simp [hl], fun j s' o' hs' ho' hj => ?_, fun j s' o' hs' ho' hj => ?_, fun j s' o' hs' ho' hj => ?_, ?_, List.getElem?_set_self (by omega), ?_⟩
  · rw [key j (by omega)]; exact h.kind j s' o' hs' ho' hj
  · rw [key j (by omega)]; exact h.opp j s' o' hs' ho' hj
  · rw [key j (by omega)]; exact h.agr j s' o' hs' ho' hj
  · rw [key _ (by omega)]; exact h.heard
  · rw [key _ (by omega)]; exact h.sent
theorem TbC.setSent (h : TbC cs ag t) (n : Nat) : TbC (cs.set 1538 (.int .i64 (n : Int))) ag { t with sent := n } := by
  have hl := h.len
  have key : ∀ j, j ≠ 1538 → (cs.set 1538 (.int .i64 (n : Int)))[j]? = cs[j]? := fun j hj => List.getElem?_set_ne (by omega)
  refine ⟨by simp [hl], fun j s' o' hs' ho' hj => ?_, fun j s' o' hs' ho' hj => ?_, fun j s' o' hs' ho' hj => ?_, ?_, ?_, List.getElem?_set_self (by omega)⟩
  · rw [key j (by omega)]; exact h.kind j s' o' hs' ho' hj
  · rw [key j (by omega)]; exact h.opp j s' o' hs' ho' hj
  · rw [key j (by omega)]; exact h.agr j s' o' hs' ho' hj
  · rw [key _ (by omega)]; exact h.heard
  · rw [key _ (by omega)]; exact h.asked
end

/-- A table that lies in block p. -/
def TbAt (w : World) (p : Nat) (ag : Nat → Nat → Bool) (t : Tb) : Prop := ∃ cs, Blk w p 96 cs ∧ TbC cs ag t
section
variable {w w' : World} {p : Nat} {ag : Nat → Nat → Bool} {t : Tb}
theorem TbAt.lt (h : TbAt w p ag t) : p < w.heap.size := by obtain ⟨cs, h, _⟩ := h; exact h.lt
theorem TbAt.only {S : Nat → Prop} (h : TbAt w p ag t) (ho : Only S w w') (hS : ¬ S p) : TbAt w' p ag t := by
  obtain ⟨cs, h, hc⟩ := h
  exact ⟨cs, h.only ho hS, hc⟩
theorem TbAt.same (h : TbAt w p ag t) (ho : Only (fun _ => False) w w') : TbAt w' p ag t := h.only ho (fun h => h)
end
/-- A state's cells, where they lie. -/
theorem st_range {w : World} {p : Nat} {cs : List Value} {ag : Nat → Nat → Bool} {t : Tb} (h : Blk w p 96 cs) (hc : TbC cs ag t) {s o i : Nat} (hs : s < 2) (ho : o < 256) (hi : i = s * 512 + o * 2) : w.rangeAt p i (qsC (t.st s o)) := by
  intro j v hj
  rw [h.cell]
  rcases j with _ | _ | j
  · rw [← hj, Nat.add_zero, hc.kind i s o hs ho hi]; rfl
  · rw [← hj, hc.opp (i + 1) s o hs ho (by omega)]; rfl
  · simp [qsC] at hj

theorem zero_table : (Tryz.prog.info? 96).map (fun i => (i.zero, i.size)) = some (some (.agg tb0.toArray), 1539) := by kernel_rfl
theorem built_table : Tryz.prog.built 96 [] = some tb0.toArray := by
  unfold Program.built
  have h := zero_table
  cases hi : Tryz.prog.info? 96 with
  | none => rw [hi] at h; cases h
  | some i =>
    rw [hi] at h
    simp only [Option.map_some, Option.some.injEq, Prod.mk.injEq] at h
    simp only [Tryz.underlying96, h.1]
    rfl

end Go.Proofs.YtlmkpembccehkaaGreatDoor
/- Package table: which numbers are sides and options, of which side a verb speaks, move. -/
namespace Go.Proofs.YtlmkpembccehkaaGreatDoor
open Go Go.RowKit
set_option maxRecDepth 100000
set_option maxHeartbeats 4000000

theorem isOption_any (W : World) (c : Int) : Calls Tryz.prog 24 #[.int .i64 c] W fun e w' => e = .returned (.bool (decide (0 ≤ c ∧ c ≤ 255))) ∧ w' = W := by
  by_cases h0 : 0 ≤ c <;> by_cases h1 : c < 256
  all_goals
    have d0 : decide ((0 : Int) ≤ c) = decide (0 ≤ c) := rfl
    go_enter Tryz.func24, Tryz.ntmps24
    go_wp2
    go_ret
    refine ⟨?_, rfl⟩
    congr 2
    simp
    try omega
theorem isSide_any (W : World) (c : Int) : Calls Tryz.prog 100 #[.int .i64 c] W fun e w' => e = .returned (.bool (decide (c = 0 ∨ c = 1))) ∧ w' = W := by
  by_cases h0 : 0 ≤ c <;> by_cases h1 : c < 2
  all_goals
    go_enter Tryz.func100, Tryz.ntmps100
    go_wp2
    go_ret
    refine ⟨?_, rfl⟩
    congr 2
    simp
    try omega
theorem own_any (W : World) (c : Int) : Calls Tryz.prog 49 #[.int .i64 c] W fun e w' => e = .returned (.bool (decide (c = 251 ∨ c = 252))) ∧ w' = W := by
  by_cases h1 : c = 251
  · go_enter Tryz.func49, Tryz.ntmps49
    go_wp2
    go_ret
    refine ⟨congrArg (fun b => Ending.returned (Value.bool b)) ?_, rfl⟩
    exact Bool.eq_iff_iff.2 (by simp [h1])
  · go_enter Tryz.func49, Tryz.ntmps49
    go_wp2
    go_ret
    refine ⟨congrArg (fun b => Ending.returned (Value.bool b)) ?_, rfl⟩
    exact Bool.eq_iff_iff.2 (by simp [h1])
theorem for_any (W : World) (c : Int) : Calls Tryz.prog 28 #[.int .i64 c] W fun e w' => e = .returned (.bool (decide (c = 251 ∨ c = 253))) ∧ w' = W := by
  by_cases h1 : c = 251
  · go_enter Tryz.func28, Tryz.ntmps28
    go_wp2
    go_ret
    refine ⟨congrArg (fun b => Ending.returned (Value.bool b)) ?_, rfl⟩
    exact Bool.eq_iff_iff.2 (by simp [h1])
  · go_enter Tryz.func28, Tryz.ntmps28
    go_wp2
    go_ret
    refine ⟨congrArg (fun b => Ending.returned (Value.bool b)) ?_, rfl⟩
    exact Bool.eq_iff_iff.2 (by simp [h1])
theorem sideOf_any (W : World) (v : Nat) (hv : 251 ≤ v ∧ v ≤ 254) : Calls Tryz.prog 26 #[.int .i64 (v : Int)] W fun e w' => e = .returned (.int .i64 (sideV v : Int)) ∧ w' = W := by
  obtain ⟨b, hb⟩ : ∃ b, b = decide ((v : Int) = 251 ∨ (v : Int) = 252) := ⟨_, rfl⟩
  have hs : (sideV v : Int) = if b then 1 else 0 := by
    unfold sideV
    by_cases h : v < 253
    · rw [if_pos h, hb, decide_eq_true (by omega)]; rfl
    · rw [if_neg h, hb, decide_eq_false (by omega)]; rfl
  have HO := own_any W (v : Int)
  rw [← hb] at HO
  rw [hs]
  clear hb hs
  cases b
  all_goals
    go_enter Tryz.func26, Tryz.ntmps26
    go_wp2_with (go_at_call 49; refine HO.mono ?_; rintro e w' ⟨rfl, rfl⟩)
    go_ret
    exact ⟨rfl, rfl⟩

/-- The verbs that are sent. -/
def verbsC : List Value := [.int .i64 0, .int .i64 251, .int .i64 252, .int .i64 0, .int .i64 253, .int .i64 254]
def VerbsAt (W : World) : Prop := W.rangeAt 6 0 verbsC
theorem VerbsAt.only {W W' : World} (h : VerbsAt W) (ho : Only (fun _ => False) W W') : VerbsAt W' := fun j v hj => ho.cellv (h j v hj) (fun h => h)
theorem VerbsAt.at_ {W : World} (h : VerbsAt W) {s k : Nat} (hs : s < 2) (hk : k ≤ 2) : W.cell? ⟨6, s * 3 + k, none⟩ = some (.int .i64 (toldV s k : Int)) := by
  have := h (s * 3 + k) (.int .i64 (toldV s k : Int)) (by
    rcases s with _ | _ | s
    · rcases k with _ | _ | _ | k
      · rfl
      · rfl
      · rfl
      · omega
    · rcases k with _ | _ | _ | k
      · rfl
      · rfl
      · rfl
      · omega
    · omega)
  rwa [Nat.zero_add] at this

theorem move_any {W : World} (hV : VerbsAt W) {p : Nat} {ag : Nat → Nat → Bool} {t : Tb} (h : TbAt W p ag t) {s o : Nat} (hs : s < 2) (ho : o < 256) (q : Qs) (k : Nat) (hk : k ≤ 2) (b : Bool) (hn : t.sent ≤ 1000000) :
    Calls Tryz.prog 29 #[.pointer (some ⟨p, 0, none⟩), .int .i64 (s : Int), .int .i64 (o : Int), .agg #[.int .i64 (q.kind : Int), .bool q.opp, .int .i64 (k : Int), .bool b]] W fun e w' =>
      e = .returned (.int .i64 (toldV s k : Int)) ∧ TbAt w' p ag { t with st := setQ t.st s o q, sent := t.sent + sentN k } ∧ Only (· = p) W w' := by
  obtain ⟨cs, hB, hC⟩ := h
  have HB := Lib.hid hB
  have HC := Lib.hid hC
  have HV := Lib.hid hV
  have hp := hB.lt
  obtain ⟨sk, hsk⟩ : ∃ sk, sk = (q.kind : Int) := ⟨_, rfl⟩
  obtain ⟨so, hso⟩ : ∃ so, so = q.opp := ⟨_, rfl⟩
  have HSK := Lib.hid hsk
  have HSO := Lib.hid hso
  have hs2 : (s : Int) < 2 := by omega
  have ho2 : (o : Int) < 256 := by omega
  rw [← hsk, ← hso]
  clear hV hB hC hsk hso
  go_enter Tryz.func29, Tryz.ntmps29
  go_wp2
  refine region_tail 9 (by kernel_rfl) (by kernel_rfl) ?_
  simp only [List.take_succ_cons, List.take_zero, List.drop_succ_cons, List.drop_zero]
  repeat still_step
  refine wpStill_nil ?_
  refine step_store2 rfl 90 _ _ rfl p (s * 512 + o * 2) rfl (.int .i64 sk) (.bool so) rfl _ cs ((HB.out.alloc _).drew) (by rw [HC.out.len]; omega) size_state rfl rfl ?_
  intro w4 hB4 hz4 ho4
  have HC4 := Lib.hid (HSO.out ▸ HSK.out ▸ HC.out.setSt hs ho rfl q)
  have HO4 := Lib.hid ((((Only.refl (· = p) W).alloc (.cells #[.int .i64 sk, .bool so, .int .i64 (k : Int), .bool b] 101)).drew).trans ho4 (fun i hi => .inl hi))
  have hx4 : w4.cell? ⟨W.heap.size, 2, none⟩ = some (.int .i64 (k : Int)) := ((Blk.new W 101 [.int .i64 sk, .bool so, .int .i64 (k : Int), .bool b]).drew.only ho4 (by omega)).cell 2
  obtain ⟨z, hz⟩ : ∃ z, z = (toldV s k : Int) := ⟨_, rfl⟩
  have hgp : 6 ≠ p := fun e => by
    have h3 := HC.out.opp 1 0 0 (by omega) (by omega) rfl
    have h4 : W.cell? ⟨6, 1, none⟩ = some (.int .i64 (toldV 0 1 : Int)) := HV.out.at_ (s := 0) (k := 1) (by omega) (by omega)
    rw [e, HB.out.cell, h3] at h4
    cases h4
  have hv4 : w4.cell? ⟨6, s * 3 + k, none⟩ = some (.int .i64 z) := by
    rw [hz]
    exact HO4.out.cellv (HV.out.at_ hs hk) hgp
  have c38 : w4.cell? ⟨p, 1538, none⟩ = some (.int .i64 (t.sent : Int)) := by
    rw [hB4.out.cell]
    exact HC4.out.sent
  have f38 := hB4.out.frozen 1538
  have hk3 : (k : Int) < 3 := by omega
  obtain ⟨n, hnn⟩ : ∃ n, n = t.sent := ⟨_, rfl⟩
  rw [← hnn] at c38 hn
  have HN := Lib.hid hnn
  have HZ := Lib.hid hz
  clear ho4 hz4 hz hnn
  by_cases hk0 : k = 0
  · have hz0 : (z != 0) = false := by rw [HZ.out]; unfold toldV; rw [if_pos hk0]; rfl
    have HK0 := Lib.hid hk0
    clear hk0
    go_wp2
    go_quiet (fail)
    go_wp2
    go_ret
    refine ⟨by rw [HZ.out]; rfl, ⟨_, hB4.out.drewN _, ?_⟩, HO4.out.drewN _⟩
    have e : sentN k = 0 := by unfold sentN; rw [if_pos HK0.out]
    rw [e]
    exact HC4.out
  · have hz0 : (z != 0) = true := by rw [HZ.out]; unfold toldV; rw [if_neg hk0]; simp; omega
    have HK0 := Lib.hid hk0
    clear hk0
    go_wp2
    go_quiet (fail)
    go_wp2
    go_ret
    have e : sentN k = 1 := by unfold sentN; rw [if_neg HK0.out]
    refine ⟨by rw [HZ.out]; rfl, ⟨_, (hB4.out.drewN _).setCell 1538 _, ?_⟩, (HO4.out.drewN _).setCell (.inl rfl) _⟩
    rw [e, ← HN.out]
    have := HC4.out.setSent (n + 1)
    exact this
end Go.Proofs.YtlmkpembccehkaaGreatDoor
/- Package table: State, On, Counts. -/
namespace Go.Proofs.YtlmkpembccehkaaGreatDoor
open Go Go.RowKit
set_option maxRecDepth 100000
set_option maxHeartbeats 4000000

theorem Tb.get_st (t : Tb) {a b : Nat} (ha : a < 2) (hb : b < 256) : t.get (a : Int) (b : Int) = t.st a b := by
  unfold Tb.get
  rw [if_pos ⟨by omega, by omega, by omega⟩]
  simp
theorem Tb.get_no (t : Tb) {s o : Int} (h : ¬ ((s = 0 ∨ s = 1) ∧ 0 ≤ o ∧ o ≤ 255)) : t.get s o = .no := by
  unfold Tb.get
  rw [if_neg h]
/-- A state as a value. -/
@[reducible] def qsV (q : Qs) : Value := .agg #[.int .i64 (q.kind : Int), .bool q.opp]

theorem state_in {W : World} {p : Nat} {ag : Nat → Nat → Bool} {t : Tb} (h : TbAt W p ag t) {s o : Nat} (hs : s < 2) (ho : o < 256) : Calls Tryz.prog 85 #[.pointer (some ⟨p, 0, none⟩), .int .i64 (s : Int), .int .i64 (o : Int)] W fun e w' =>
    e = .returned (qsV (t.st s o)) ∧ Only (fun _ => False) W w' := by
  obtain ⟨cs, hB, hC⟩ := h
  have HB := Lib.hid hB
  have HC := Lib.hid hC
  have hp := hB.lt
  have hs2 : (s : Int) < 2 := by omega
  have ho2 : (o : Int) < 256 := by omega
  have H1 : Hid (∀ W, Calls Tryz.prog 100 #[.int .i64 (s : Int)] W fun e w' => e = .returned (.bool true) ∧ w' = W) := fun W => by
    have := isSide_any W (s : Int)
    rwa [decide_eq_true (by omega)] at this
  have H2 : Hid (∀ W, Calls Tryz.prog 24 #[.int .i64 (o : Int)] W fun e w' => e = .returned (.bool true) ∧ w' = W) := fun W => by
    have := isOption_any W (o : Int)
    rwa [decide_eq_true (by omega)] at this
  clear hB hC
  go_enter Tryz.func85, Tryz.ntmps85
  go_wp2_with (first
    | (go_at_call 100; refine (H1.out _).mono ?_; rintro e w' ⟨rfl, rfl⟩)
    | (go_at_call 24; refine (H2.out _).mono ?_; rintro e w' ⟨rfl, rfl⟩)
    | ((with_reducible show wpList _ _ _ (⟨some 23, _, _, _, _, _⟩ :: _) _ _); refine wpList_load_mid rfl 90 _ rfl p (s * 512 + o * 2) rfl (qsC (t.st s o)) _ (st_range (HB.out.alloc _) HC.out hs ho rfl) Tryz.underlying90 rfl size_state ?_)
    | ((with_reducible show wpList _ _ _ (⟨none, .store 90 _ _, _, _, _, _⟩ :: _) _ _); refine step_store rfl 90 _ _ rfl W.heap.size rfl (qsC (t.st s o)) rfl _ [.int .i64 0, .bool false] (Blk.new W _ _) size_state rfl (fun v hv => by simp [qsC] at hv; rcases hv with rfl | rfl <;> rfl) ?_; intro w4 hB4 hz4 ho4))
  refine ret_cell1 rfl W.heap.size rfl _ (qsC (t.st s o)) _ hB4.out Tryz.underlying90 rfl size_state rfl ?_
  exact ⟨rfl, ((Only.refl _ _).alloc _).trans ho4 (fun i hi => .inr (by omega))⟩
theorem state_no {W : World} {p : Nat} (_ : Tb) {s o : Int} (h : ¬ ((s = 0 ∨ s = 1) ∧ 0 ≤ o ∧ o ≤ 255)) : Calls Tryz.prog 85 #[.pointer (some ⟨p, 0, none⟩), .int .i64 s, .int .i64 o] W fun e w' =>
    e = .returned (qsV .no) ∧ Only (fun _ => False) W w' := by
  obtain ⟨b1, hb1⟩ : ∃ b, b = decide (s = 0 ∨ s = 1) := ⟨_, rfl⟩
  obtain ⟨b2, hb2⟩ : ∃ b, b = decide (0 ≤ o ∧ o ≤ 255) := ⟨_, rfl⟩
  have H1 := fun W => isSide_any W s
  have H2 := fun W => isOption_any W o
  rw [← hb1] at H1
  rw [← hb2] at H2
  have hh : ¬ (b1 = true ∧ b2 = true) := by
    rintro ⟨rfl, rfl⟩
    exact h ⟨of_decide_eq_true hb1.symm, of_decide_eq_true hb2.symm⟩
  have H1 := Lib.hid H1
  have H2 := Lib.hid H2
  clear hb1 hb2 h
  cases b1
  · clear hh
    go_enter Tryz.func85, Tryz.ntmps85
    go_wp2_with (first
      | (go_at_call 100; refine (H1.out _).mono ?_; rintro e w' ⟨rfl, rfl⟩)
      | ((with_reducible show wpList _ _ _ (⟨none, .store 90 _ _, _, _, _, _⟩ :: _) _ _); refine step_store rfl 90 _ _ rfl W.heap.size rfl (qsC .no) rfl _ [.int .i64 0, .bool false] (Blk.new W _ _) size_state rfl (fun v hv => by simp [qsC] at hv; rcases hv with rfl | rfl <;> rfl) ?_; intro w4 hB4 hz4 ho4))
    refine ret_cell1 rfl W.heap.size rfl _ (qsC .no) _ hB4.out Tryz.underlying90 rfl size_state rfl ?_
    exact ⟨rfl, ((Only.refl _ _).alloc _).trans ho4 (fun i hi => .inr (by omega))⟩
  · cases b2
    · clear hh
      go_enter Tryz.func85, Tryz.ntmps85
      go_wp2_with (first
        | (go_at_call 100; refine (H1.out _).mono ?_; rintro e w' ⟨rfl, rfl⟩)
        | (go_at_call 24; refine (H2.out _).mono ?_; rintro e w' ⟨rfl, rfl⟩)
        | ((with_reducible show wpList _ _ _ (⟨none, .store 90 _ _, _, _, _, _⟩ :: _) _ _); refine step_store rfl 90 _ _ rfl W.heap.size rfl (qsC .no) rfl _ [.int .i64 0, .bool false] (Blk.new W _ _) size_state rfl (fun v hv => by simp [qsC] at hv; rcases hv with rfl | rfl <;> rfl) ?_; intro w4 hB4 hz4 ho4))
      refine ret_cell1 rfl W.heap.size rfl _ (qsC .no) _ hB4.out Tryz.underlying90 rfl size_state rfl ?_
      exact ⟨rfl, ((Only.refl _ _).alloc _).trans ho4 (fun i hi => .inr (by omega))⟩
    · exact absurd ⟨rfl, rfl⟩ hh
theorem state_any {W : World} {p : Nat} {ag : Nat → Nat → Bool} {t : Tb} (h : TbAt W p ag t) (s o : Int) : Calls Tryz.prog 85 #[.pointer (some ⟨p, 0, none⟩), .int .i64 s, .int .i64 o] W fun e w' =>
    e = .returned (qsV (t.get s o)) ∧ Only (fun _ => False) W w' := by
  by_cases hv : (s = 0 ∨ s = 1) ∧ 0 ≤ o ∧ o ≤ 255
  · obtain ⟨a, rfl⟩ : ∃ a : Nat, s = (a : Int) := ⟨s.toNat, by omega⟩
    obtain ⟨b, rfl⟩ : ∃ b : Nat, o = (b : Int) := ⟨o.toNat, by omega⟩
    rw [t.get_st (by omega) (by omega)]
    exact state_in h (by omega) (by omega)
  · rw [t.get_no hv]
    exact state_no t hv
theorem kind_one (q : Qs) : decide ((q.kind : Int) = 1) = decide (q = .yes) := by cases q <;> rfl
theorem ton_any {W : World} {p : Nat} {ag : Nat → Nat → Bool} {t : Tb} (h : TbAt W p ag t) (s o : Int) : Calls Tryz.prog 66 #[.pointer (some ⟨p, 0, none⟩), .int .i64 s, .int .i64 o] W fun e w' =>
    e = .returned (.bool (decide (t.get s o = .yes))) ∧ Only (fun _ => False) W w' := by
  have H1 := Lib.hid (state_any h s o)
  have H2 : Hid (∀ w, Calls Tryz.prog 30 #[qsV (t.get s o)] w fun e w' => e = .returned (.bool (decide (t.get s o = .yes))) ∧ Only (fun _ => False) w w') := fun w => by
    have := on_any w ((t.get s o).kind : Int) (t.get s o).opp
    rwa [kind_one] at this
  obtain ⟨q, hq⟩ : ∃ q, q = t.get s o := ⟨_, rfl⟩
  rw [← hq] at H1 H2 ⊢
  obtain ⟨r, hr⟩ : ∃ r, r = decide (q = .yes) := ⟨_, rfl⟩
  rw [← hr] at H2 ⊢
  clear h hq hr
  go_enter Tryz.func66, Tryz.ntmps66
  go_wp2_with (first
    | (go_at_call 85; refine H1.out.mono ?_; rintro e w1 ⟨rfl, ho1⟩)
    | (go_at_call 30; refine (H2.out _).mono ?_; rintro e w2 ⟨rfl, ho2⟩))
  go_ret
  exact ⟨rfl, ho1.trans ho2 (fun _ h => h.elim)⟩
end Go.Proofs.YtlmkpembccehkaaGreatDoor
