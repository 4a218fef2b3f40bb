
/- The map of method values by side and option: six inserts in whatever order, and what a look-up finds. -/
import Derived.Test.YtbnfhklpobephaaGreatDoorSnMaps
import Derived.Laws.StructEq
import Derived.Deep.RegionHeld3
namespace Go.Proofs.YtbnfhklpobephaaGreatDoor
open Go Go.RowKit
set_option maxRecDepth 100000
set_option maxHeartbeats 4000000

/-- A key. -/
@[reducible] def pk (s o : Int) : Value := .agg #[.int .i64 s, .int .i64 o]
def plS : Nat → Int | 0 => 0 | 1 => 0 | 2 => 0 | _ => 1
def plO : Nat → Int | 0 => 31 | 1 => 24 | 2 => 34 | 3 => 31 | 4 => 24 | _ => 34
def plV (p : Addr) : Nat → Value
  | 0 => fnV 196 p
  | 1 => fnV 197 p
  | 2 => fnV 198 p
  | 3 => fnV 199 p
  | 4 => fnV 200 p
  | _ => fnV 201 p
theorem pl_inj : ∀ i < 6, ∀ j < 6, plS i = plS j → plO i = plO j → i = j := by decide
theorem eq_place (W : World) (a b c d : Int) : (Op.equal 326 (pk a b) (pk c d)).run Tryz.prog W = .ok (decide (a = c ∧ b = d)) W := by
  unfold Op.equal
  rw [show (Op.maxDepth : Nat) = 9999 + 1 from rfl, run_equalIn_struct W 9999 _ _ _ (by kernel_rfl) (by kernel_rfl)]
  have u3 : Tryz.prog.underlying 3 = some (.int .i64) := Tryz.underlying3
  simp only [Program.fieldsOf, Tryz.underlying326, Op.eqFields]
  simp [go_sem, u3, Result.andThen]
  by_cases h1 : a = c <;> by_cases h2 : b = d <;> simp [h1, h2]
theorem chk_place (W : World) (a b : Int) (e : Bool) : (Instr.checkKey e 10000 326 (pk a b)).run Tryz.prog W = .ok () W := by
  cases e <;> kernel_rfl
/-- What is found. -/
def fndD (p : Addr) (s o : Int) : List Nat → Nat → Option (Nat × Value)
  | [], _ => none
  | i :: D, j => if s = plS i ∧ o = plO i then some (j, plV p i) else fndD p s o D (j + 1)
@[reducible] def entP (p : Addr) (e : MapEntry) (i : Nat) : Prop := e.key = pk (plS i) (plO i) ∧ e.val = plV p i
/-- Entries, by numbers. -/
def Rl (p : Addr) : List MapEntry → List Nat → Prop
  | [], [] => True
  | e :: es, i :: D => entP p e i ∧ Rl p es D
  | _, _ => False
theorem Rl.snoc {i : Nat} {p : Addr} {e : MapEntry} (he : entP p e i) : ∀ {es : List MapEntry} {D : List Nat}, Rl p es D → Rl p (es ++ [e]) (D ++ [i])
  | [], [], _ => ⟨he, trivial⟩
  | _ :: _, _ :: _, h => ⟨h.1, Rl.snoc he h.2⟩
  | [], _ :: _, h => h.elim
  | _ :: _, [], h => h.elim
theorem mem_if {b : Bool} {i k : Nat} (h : i ∈ (if b then [] else [k])) : i = k ∧ b = false := by
  cases b
  · exact ⟨by simpa using h, rfl⟩
  · cases h
theorem ask_place (W : World) (p : Addr) (s o : Int) : ∀ (es : List MapEntry) (D : List Nat) (j : Nat), Rl p es D → (Instr.findAsking 326 (pk s o) es j).run Tryz.prog W = .ok (fndD p s o D j) W
  | [], [], j, _ => rfl
  | e :: es, i :: D, j, h => by
    obtain ⟨h1, h2⟩ := h
    unfold Instr.findAsking fndD
    simp only [Sem.run_bind, h1.1, eq_place, Result.andThen]
    by_cases hk : s = plS i ∧ o = plO i
    · simp [hk, h1.2]
    · simp only [hk, decide_false, if_false, Bool.false_eq_true]
      exact ask_place W p s o es D (j + 1) h2
  | [], i :: D, j, h => by cases h
  | e :: es, [], j, h => by cases h
theorem find_place (W : World) {p : Addr} (s o : Int) {es : List MapEntry} {D : List Nat} (h : Rl p es D) : (Instr.findKey 326 (pk s o) es).run Tryz.prog W = .ok (fndD p s o D 0) W := by
  have hu := Tryz.underlying326
  have h1 := ask_place W p s o es D 0 h
  unfold Instr.findKey
  cases es with
  | nil =>
    cases D with
    | nil => simp [run_underlying hu, Result.andThen, Instr.findNow, fndD]
    | cons i D => cases h
  | cons e es =>
    cases D with
    | nil => cases h
    | cons i D =>
      have hk := h.1.1
      simp only [Sem.run_bind, run_underlying hu, Result.andThen, Instr.findNow, hk, Instr.sameNow]
      exact h1
theorem fnd_not {i : Nat} {p : Addr} (hi : i < 6) : ∀ {D : List Nat} (j : Nat), (∀ k ∈ D, k < 6) → i ∉ D → fndD p (plS i) (plO i) D j = none
  | [], _, _, _ => rfl
  | k :: D, j, hD, hn => by
    unfold fndD
    rw [if_neg]
    · exact fnd_not hi (j + 1) (fun x hx => hD x (List.mem_cons_of_mem _ hx)) (fun h => hn (List.mem_cons_of_mem _ h))
    · rintro ⟨h1, h2⟩
      exact hn (by rw [pl_inj i hi k (hD k List.mem_cons_self) h1 h2]; exact List.mem_cons_self)
theorem fnd_in {i : Nat} {p : Addr} (hi : i < 6) : ∀ {D : List Nat} (j : Nat), (∀ k ∈ D, k < 6) → i ∈ D → ∃ m, fndD p (plS i) (plO i) D j = some (m, plV p i)
  | [], _, _, h => by cases h
  | k :: D, j, hD, hn => by
    unfold fndD
    by_cases hk : plS i = plS k ∧ plO i = plO k
    · rw [if_pos hk, pl_inj i hi k (hD k List.mem_cons_self) hk.1 hk.2]
      exact ⟨j, rfl⟩
    · rw [if_neg hk]
      refine fnd_in hi (j + 1) (fun x hx => hD x (List.mem_cons_of_mem _ hx)) ?_
      rcases List.mem_cons.1 hn with rfl | h
      · exact absurd ⟨rfl, rfl⟩ hk
      · exact h
/-- A map in which all six stand, in whatever order. -/
def FullAt (w : World) (M : Nat) (p : Addr) : Prop := ∃ es c D, MpAt w M es c ∧ Rl p es D ∧ (∀ k ∈ D, k < 6) ∧ ∀ i < 6, i ∈ D
theorem FullAt.same {w w' : World} {M : Nat} {p : Addr} (h : FullAt w M p) (ho : Only (fun _ => False) w w') : FullAt w' M p := by
  obtain ⟨es, c, D, h1, h2⟩ := h
  exact ⟨es, c, D, h1.same ho, h2⟩
theorem look_place {w : World} {M i : Nat} {p : Addr} (hi : i < 6) (h : FullAt w M p) : (Instr.lookup 323 (.map (some M)) (pk (plS i) (plO i)) true).run Tryz.prog w = .ok (.tuple #[plV p i, .bool true]) w := by
  obtain ⟨es, c, D, h1, h2, h3, h4⟩ := h
  obtain ⟨m, hm⟩ := fnd_in (p := p) hi 0 h3 (h4 i hi)
  refine run_look (i := m) Tryz.underlying323 h1 (fun e => chk_place _ _ _ e) ?_
  rw [find_place w _ _ h2, hm]
/-- Which inserts have come. -/
@[reducible] def lst (b0 b1 b2 b3 b4 b5 : Bool) : Array Bool := #[true, true, true, true, b0, true, true, true, b1, true, true, true, b2, true, true, true, b3, true, true, true, b4, true, true, true, b5, false, false]
def rdy (b0 b1 b2 b3 b4 b5 : Bool) : List Nat := (if b0 then [] else [4]) ++ (if b1 then [] else [8]) ++ (if b2 then [] else [12]) ++ (if b3 then [] else [16]) ++ (if b4 then [] else [20]) ++ (if b5 then [] else [24])
def cnt (b0 b1 b2 b3 b4 b5 : Bool) : Nat := (if b0 then 0 else 1) + (if b1 then 0 else 1) + (if b2 then 0 else 1) + (if b3 then 0 else 1) + (if b4 then 0 else 1) + (if b5 then 0 else 1)
theorem cnt_zero : ∀ b0 b1 b2 b3 b4 b5 : Bool, cnt b0 b1 b2 b3 b4 b5 = 0 → b0 = true ∧ b1 = true ∧ b2 = true ∧ b3 = true ∧ b4 = true ∧ b5 = true := by decide
theorem cnt_all : ∀ b0 b1 b2 b3 b4 b5 : Bool, (b0 && b1 && b2 && b3 && b4 && b5) = true → cnt b0 b1 b2 b3 b4 b5 = 0 := by decide
theorem rdy_ne : ∀ b0 b1 b2 b3 b4 b5 : Bool, (b0 && b1 && b2 && b3 && b4 && b5) = false → rdy b0 b1 b2 b3 b4 b5 ≠ [] := by decide
theorem ins_all {ops : Array Oper} {Q : Exit → Act → World → Prop} {a : Act} {p : Addr} {M : Nat} {W0 : World}
    {o0 : Oper} {m0 k0 x0 : Operand} (ho0 : ops[4]? = some o0) (hg0 : o0.guard = none) (hd0 : o0.dst = none) (hp0 : o0.op = .insert 323 m0 k0 x0) (hm0 : a.eval m0 = .map (some M)) (hk0 : a.eval k0 = pk (plS 0) (plO 0)) (hx0 : a.eval x0 = plV p 0)
    {o1 : Oper} {m1 k1 x1 : Operand} (ho1 : ops[8]? = some o1) (hg1 : o1.guard = none) (hd1 : o1.dst = none) (hp1 : o1.op = .insert 323 m1 k1 x1) (hm1 : a.eval m1 = .map (some M)) (hk1 : a.eval k1 = pk (plS 1) (plO 1)) (hx1 : a.eval x1 = plV p 1)
    {o2 : Oper} {m2 k2 x2 : Operand} (ho2 : ops[12]? = some o2) (hg2 : o2.guard = none) (hd2 : o2.dst = none) (hp2 : o2.op = .insert 323 m2 k2 x2) (hm2 : a.eval m2 = .map (some M)) (hk2 : a.eval k2 = pk (plS 2) (plO 2)) (hx2 : a.eval x2 = plV p 2)
    {o3 : Oper} {m3 k3 x3 : Operand} (ho3 : ops[16]? = some o3) (hg3 : o3.guard = none) (hd3 : o3.dst = none) (hp3 : o3.op = .insert 323 m3 k3 x3) (hm3 : a.eval m3 = .map (some M)) (hk3 : a.eval k3 = pk (plS 3) (plO 3)) (hx3 : a.eval x3 = plV p 3)
    {o4 : Oper} {m4 k4 x4 : Operand} (ho4 : ops[20]? = some o4) (hg4 : o4.guard = none) (hd4 : o4.dst = none) (hp4 : o4.op = .insert 323 m4 k4 x4) (hm4 : a.eval m4 = .map (some M)) (hk4 : a.eval k4 = pk (plS 4) (plO 4)) (hx4 : a.eval x4 = plV p 4)
    {o5 : Oper} {m5 k5 x5 : Operand} (ho5 : ops[24]? = some o5) (hg5 : o5.guard = none) (hd5 : o5.dst = none) (hp5 : o5.op = .insert 323 m5 k5 x5) (hm5 : a.eval m5 = .map (some M)) (hk5 : a.eval k5 = pk (plS 5) (plO 5)) (hx5 : a.eval x5 = plV p 5)
    (hr : ∀ b0 b1 b2 b3 b4 b5 : Bool, (b0 && b1 && b2 && b3 && b4 && b5) = false → Region.ready .any ops (lst b0 b1 b2 b3 b4 b5) = rdy b0 b1 b2 b3 b4 b5)
    (hend : ∀ W, FullAt W M p → Only (· = M) W0 W → wpAnyH Tryz.prog .any ops Q (fun _ => True) 2 (lst true true true true true true) a W) :
    ∀ (n : Nat) (b0 b1 b2 b3 b4 b5 : Bool) (D : List Nat) (es : List MapEntry) (c : Nat) (W : World), cnt b0 b1 b2 b3 b4 b5 = n → D.contains 0 = b0 → D.contains 1 = b1 → D.contains 2 = b2 → D.contains 3 = b3 → D.contains 4 = b4 → D.contains 5 = b5 → (∀ k ∈ D, k < 6) → MpAt W M es c → Rl p es D → Only (· = M) W0 W → wpAnyH Tryz.prog .any ops Q (fun _ => True) (n + 2) (lst b0 b1 b2 b3 b4 b5) a W := by
  intro n
  induction n with
  | zero =>
    intro b0 b1 b2 b3 b4 b5 D es c W hc q0 q1 q2 q3 q4 q5 hD hM hF hO
    have h0 : b0 = true ∧ b1 = true ∧ b2 = true ∧ b3 = true ∧ b4 = true ∧ b5 = true := by
      exact cnt_zero _ _ _ _ _ _ hc
    obtain ⟨rfl, rfl, rfl, rfl, rfl, rfl⟩ := h0
    refine hend W ⟨es, c, D, hM, hF, hD, fun i hi => ?_⟩ hO
    rcases (by omega : i = 0 ∨ i = 1 ∨ i = 2 ∨ i = 3 ∨ i = 4 ∨ i = 5) with rfl | rfl | rfl | rfl | rfl | rfl
    · simpa using q0
    · simpa using q1
    · simpa using q2
    · simpa using q3
    · simpa using q4
    · simpa using q5
  | succ n ih =>
    intro b0 b1 b2 b3 b4 b5 D es c W hc q0 q1 q2 q3 q4 q5 hD hM hF hO
    have hnot : (b0 && b1 && b2 && b3 && b4 && b5) = false := by
      cases h : (b0 && b1 && b2 && b3 && b4 && b5) with
      | false => rfl
      | true => rw [cnt_all _ _ _ _ _ _ h] at hc; cases hc
    have hrd := hr b0 b1 b2 b3 b4 b5 hnot
    have hu := Tryz.underlying323
    have hlen : ∀ i ∈ rdy b0 b1 b2 b3 b4 b5, (i = 4 ∧ b0 = false) ∨ (i = 8 ∧ b1 = false) ∨ (i = 12 ∧ b2 = false) ∨ (i = 16 ∧ b3 = false) ∨ (i = 20 ∧ b4 = false) ∨ (i = 24 ∧ b5 = false) := by
      intro i hi
      unfold rdy at hi
      simp only [List.mem_append] at hi
      rcases hi with ((((hi | hi) | hi) | hi) | hi) | hi
      all_goals
        have := mem_if hi
        simp [this]
    refine ⟨fun h0 => ?_, fun i hi => ?_⟩
    · rw [hrd] at h0
      exact absurd h0 (rdy_ne _ _ _ _ _ _ hnot)
    · rw [hrd] at hi
      rcases hlen i hi with ⟨rfl, rfl⟩ | ⟨rfl, rfl⟩ | ⟨rfl, rfl⟩ | ⟨rfl, rfl⟩ | ⟨rfl, rfl⟩ | ⟨rfl, rfl⟩
      · have hn : 0 ∉ D := by simpa using q0
        have hf : (Instr.findKey 326 (pk (plS 0) (plO 0)) es).run Tryz.prog W = .ok none W := by rw [find_place W _ _ hF, fnd_not (by omega) 0 hD hn]
        obtain ⟨w', hrun, h1, h2, h3⟩ := run_insert hu hM (plV p 0) (chk_place W _ _ false) hf
        refine (AllReadyH.cons (o := o0) ho0 (fun K hK => ?_) AllReadyH.nil) 4 (by simp)
        rw [if_pos (by unfold Region.wanted; rw [hg0])]
        unfold Oper.wp
        simp only [execOp, hp0, hm0, hk0, hx0, hrun, Sem.run_bind, Result.andThen]
        refine hK.out _ _ trivial (fun _ => ?_)
        rw [hd0]
        refine ih true b1 b2 b3 b4 b5 (D ++ [0]) _ _ w' ?_ (by simp) (by rw [List.contains_eq_mem] at *; simpa using q1) (by rw [List.contains_eq_mem] at *; simpa using q2) (by rw [List.contains_eq_mem] at *; simpa using q3) (by rw [List.contains_eq_mem] at *; simpa using q4) (by rw [List.contains_eq_mem] at *; simpa using q5) ?_ h1 ?_ (hO.trans h3 (fun i hi => .inl hi))
        · unfold cnt at hc ⊢
          simp only [Bool.false_eq_true, if_false, if_true] at hc ⊢
          omega
        · intro k hk
          rcases List.mem_append.1 hk with hk | hk
          · exact hD k hk
          · simp at hk
            omega
        · exact Rl.snoc ⟨rfl, rfl⟩ hF
      · have hn : 1 ∉ D := by simpa using q1
        have hf : (Instr.findKey 326 (pk (plS 1) (plO 1)) es).run Tryz.prog W = .ok none W := by rw [find_place W _ _ hF, fnd_not (by omega) 0 hD hn]
        obtain ⟨w', hrun, h1, h2, h3⟩ := run_insert hu hM (plV p 1) (chk_place W _ _ false) hf
        refine (AllReadyH.cons (o := o1) ho1 (fun K hK => ?_) AllReadyH.nil) 8 (by simp)
        rw [if_pos (by unfold Region.wanted; rw [hg1])]
        unfold Oper.wp
        simp only [execOp, hp1, hm1, hk1, hx1, hrun, Sem.run_bind, Result.andThen]
        refine hK.out _ _ trivial (fun _ => ?_)
        rw [hd1]
        refine ih b0 true b2 b3 b4 b5 (D ++ [1]) _ _ w' ?_ (by rw [List.contains_eq_mem] at *; simpa using q0) (by simp) (by rw [List.contains_eq_mem] at *; simpa using q2) (by rw [List.contains_eq_mem] at *; simpa using q3) (by rw [List.contains_eq_mem] at *; simpa using q4) (by rw [List.contains_eq_mem] at *; simpa using q5) ?_ h1 ?_ (hO.trans h3 (fun i hi => .inl hi))
        · unfold cnt at hc ⊢
          simp only [Bool.false_eq_true, if_false, if_true] at hc ⊢
          omega
        · intro k hk
          rcases List.mem_append.1 hk with hk | hk
          · exact hD k hk
          · simp at hk
            omega
        · exact Rl.snoc ⟨rfl, rfl⟩ hF
      · have hn : 2 ∉ D := by simpa using q2
        have hf : (Instr.findKey 326 (pk (plS 2) (plO 2)) es).run Tryz.prog W = .ok none W := by rw [find_place W _ _ hF, fnd_not (by omega) 0 hD hn]
        obtain ⟨w', hrun, h1, h2, h3⟩ := run_insert hu hM (plV p 2) (chk_place W _ _ false) hf
        refine (AllReadyH.cons (o := o2) ho2 (fun K hK => ?_) AllReadyH.nil) 12 (by simp)
        rw [if_pos (by unfold Region.wanted; rw [hg2])]
        unfold Oper.wp
        simp only [execOp, hp2, hm2, hk2, hx2, hrun, Sem.run_bind, Result.andThen]
        refine hK.out _ _ trivial (fun _ => ?_)
        rw [hd2]
        refine ih b0 b1 true b3 b4 b5 (D ++ [2]) _ _ w' ?_ (by rw [List.contains_eq_mem] at *; simpa using q0) (by rw [List.contains_eq_mem] at *; simpa using q1) (by simp) (by rw [List.contains_eq_mem] at *; simpa using q3) (by rw [List.contains_eq_mem] at *; simpa using q4) (by rw [List.contains_eq_mem] at *; simpa using q5) ?_ h1 ?_ (hO.trans h3 (fun i hi => .inl hi))
        · unfold cnt at hc ⊢
          simp only [Bool.false_eq_true, if_false, if_true] at hc ⊢
          omega
        · intro k hk
          rcases List.mem_append.1 hk with hk | hk
          · exact hD k hk
          · simp at hk
            omega
        · exact Rl.snoc ⟨rfl, rfl⟩ hF
      · have hn : 3 ∉ D := by simpa using q3
        have hf : (Instr.findKey 326 (pk (plS 3) (plO 3)) es).run Tryz.prog W = .ok none W := by rw [find_place W _ _ hF, fnd_not (by omega) 0 hD hn]
        obtain ⟨w', hrun, h1, h2, h3⟩ := run_insert hu hM (plV p 3) (chk_place W _ _ false) hf
        refine (AllReadyH.cons (o := o3) ho3 (fun K hK => ?_) AllReadyH.nil) 16 (by simp)
        rw [if_pos (by unfold Region.wanted; rw [hg3])]
        unfold Oper.wp
        simp only [execOp, hp3, hm3, hk3, hx3, hrun, Sem.run_bind, Result.andThen]
        refine hK.out _ _ trivial (fun _ => ?_)
        rw [hd3]
        refine ih b0 b1 b2 true b4 b5 (D ++ [3]) _ _ w' ?_ (by rw [List.contains_eq_mem] at *; simpa using q0) (by rw [List.contains_eq_mem] at *; simpa using q1) (by rw [List.contains_eq_mem] at *; simpa using q2) (by simp) (by rw [List.contains_eq_mem] at *; simpa using q4) (by rw [List.contains_eq_mem] at *; simpa using q5) ?_ h1 ?_ (hO.trans h3 (fun i hi => .inl hi))
        · unfold cnt at hc ⊢
          simp only [Bool.false_eq_true, if_false, if_true] at hc ⊢
          omega
        · intro k hk
          rcases List.mem_append.1 hk with hk | hk
          · exact hD k hk
          · simp at hk
            omega
        · exact Rl.snoc ⟨rfl, rfl⟩ hF
      · have hn : 4 ∉ D := by simpa using q4
        have hf : (Instr.findKey 326 (pk (plS 4) (plO 4)) es).run Tryz.prog W = .ok none W := by rw [find_place W _ _ hF, fnd_not (by omega) 0 hD hn]
        obtain ⟨w', hrun, h1, h2, h3⟩ := run_insert hu hM (plV p 4) (chk_place W _ _ false) hf
        refine (AllReadyH.cons (o := o4) ho4 (fun K hK => ?_) AllReadyH.nil) 20 (by simp)
        rw [if_pos (by unfold Region.wanted; rw [hg4])]
        unfold Oper.wp
        simp only [execOp, hp4, hm4, hk4, hx4, hrun, Sem.run_bind, Result.andThen]
        refine hK.out _ _ trivial (fun _ => ?_)
        rw [hd4]
        refine ih b0 b1 b2 b3 true b5 (D ++ [4]) _ _ w' ?_ (by rw [List.contains_eq_mem] at *; simpa using q0) (by rw [List.contains_eq_mem] at *; simpa using q1) (by rw [List.contains_eq_mem] at *; simpa using q2) (by rw [List.contains_eq_mem] at *; simpa using q3) (by simp) (by rw [List.contains_eq_mem] at *; simpa using q5) ?_ h1 ?_ (hO.trans h3 (fun i hi => .inl hi))
        · unfold cnt at hc ⊢
          simp only [Bool.false_eq_true, if_false, if_true] at hc ⊢
          omega
        · intro k hk
          rcases List.mem_append.1 hk with hk | hk
          · exact hD k hk
          · simp at hk
            omega
        · exact Rl.snoc ⟨rfl, rfl⟩ hF
      · have hn : 5 ∉ D := by simpa using q5
        have hf : (Instr.findKey 326 (pk (plS 5) (plO 5)) es).run Tryz.prog W = .ok none W := by rw [find_place W _ _ hF, fnd_not (by omega) 0 hD hn]
        obtain ⟨w', hrun, h1, h2, h3⟩ := run_insert hu hM (plV p 5) (chk_place W _ _ false) hf
        refine (AllReadyH.cons (o := o5) ho5 (fun K hK => ?_) AllReadyH.nil) 24 (by simp)
        rw [if_pos (by unfold Region.wanted; rw [hg5])]
        unfold Oper.wp
        simp only [execOp, hp5, hm5, hk5, hx5, hrun, Sem.run_bind, Result.andThen]
        refine hK.out _ _ trivial (fun _ => ?_)
        rw [hd5]
        refine ih b0 b1 b2 b3 b4 true (D ++ [5]) _ _ w' ?_ (by rw [List.contains_eq_mem] at *; simpa using q0) (by rw [List.contains_eq_mem] at *; simpa using q1) (by rw [List.contains_eq_mem] at *; simpa using q2) (by rw [List.contains_eq_mem] at *; simpa using q3) (by rw [List.contains_eq_mem] at *; simpa using q4) (by simp) ?_ h1 ?_ (hO.trans h3 (fun i hi => .inl hi))
        · unfold cnt at hc ⊢
          simp only [Bool.false_eq_true, if_false, if_true] at hc ⊢
          omega
        · intro k hk
          rcases List.mem_append.1 hk with hk | hk
          · exact hD k hk
          · simp at hk
            omega
        · exact Rl.snoc ⟨rfl, rfl⟩ hF
theorem turnings_any (w : World) (p : Addr) : Calls Tryz.prog 168 #[.pointer (some p)] w fun e w' => e = .returned (.map (some w.heap.size)) ∧ Hid (FullAt w' w.heap.size p) ∧ Hid (Only (fun _ => False) w w') := by
  have hmk := fun W => run_makeMap (P := Tryz.prog) 323 W
  go_enter Tryz.func168, Tryz.ntmps168
  go_wp2
  refine wp_region_noPanic ?_
  refine wp_region_held_drew (S := fun _ => True) (by kernel_rfl) trivial (fun hHeld => ?_)
  refine wpAnyH_take (i := 1) (v := pk 0 31) rfl (by kernel_rfl) (by kernel_rfl) (by kernel_rfl) (fun _ _ _ h => h) (Or.inl ⟨by rfl, fun W hSw => by (first | (go_simp; done) | (go_simp; with_reducible rfl) | (go_simp; rfl))⟩) hHeld ?_
  simp only [List.getElem_toArray, List.getElem_cons_zero, List.getElem_cons_succ, Act.put, List.setIfInBounds_toArray, List.set_cons_zero, List.set_cons_succ]
  refine wpAnyH_take (i := 2) (v := .pointer (some p)) rfl (by kernel_rfl) (by kernel_rfl) (by kernel_rfl) (fun _ _ _ h => h) (Or.inl ⟨by rfl, fun W hSw => by (first | (go_simp; done) | (go_simp; with_reducible rfl) | (go_simp; rfl))⟩) hHeld ?_
  simp only [List.getElem_toArray, List.getElem_cons_zero, List.getElem_cons_succ, Act.put, List.setIfInBounds_toArray, List.set_cons_zero, List.set_cons_succ]
  refine wpAnyH_take (i := 3) (v := fnV 196 p) rfl (by kernel_rfl) (by kernel_rfl) (by kernel_rfl) (fun _ _ _ h => h) (Or.inl ⟨by rfl, fun W hSw => by (first | (go_simp; done) | (go_simp; with_reducible rfl) | (go_simp; rfl))⟩) hHeld ?_
  simp only [List.getElem_toArray, List.getElem_cons_zero, List.getElem_cons_succ, Act.put, List.setIfInBounds_toArray, List.set_cons_zero, List.set_cons_succ]
  refine wpAnyH_take (i := 5) (v := pk 0 24) rfl (by kernel_rfl) (by kernel_rfl) (by kernel_rfl) (fun _ _ _ h => h) (Or.inl ⟨by rfl, fun W hSw => by (first | (go_simp; done) | (go_simp; with_reducible rfl) | (go_simp; rfl))⟩) hHeld ?_
  simp only [List.getElem_toArray, List.getElem_cons_zero, List.getElem_cons_succ, Act.put, List.setIfInBounds_toArray, List.set_cons_zero, List.set_cons_succ]
  refine wpAnyH_take (i := 6) (v := .pointer (some p)) rfl (by kernel_rfl) (by kernel_rfl) (by kernel_rfl) (fun _ _ _ h => h) (Or.inl ⟨by rfl, fun W hSw => by (first | (go_simp; done) | (go_simp; with_reducible rfl) | (go_simp; rfl))⟩) hHeld ?_
  simp only [List.getElem_toArray, List.getElem_cons_zero, List.getElem_cons_succ, Act.put, List.setIfInBounds_toArray, List.set_cons_zero, List.set_cons_succ]
  refine wpAnyH_take (i := 7) (v := fnV 197 p) rfl (by kernel_rfl) (by kernel_rfl) (by kernel_rfl) (fun _ _ _ h => h) (Or.inl ⟨by rfl, fun W hSw => by (first | (go_simp; done) | (go_simp; with_reducible rfl) | (go_simp; rfl))⟩) hHeld ?_
  simp only [List.getElem_toArray, List.getElem_cons_zero, List.getElem_cons_succ, Act.put, List.setIfInBounds_toArray, List.set_cons_zero, List.set_cons_succ]
  refine wpAnyH_take (i := 9) (v := pk 0 34) rfl (by kernel_rfl) (by kernel_rfl) (by kernel_rfl) (fun _ _ _ h => h) (Or.inl ⟨by rfl, fun W hSw => by (first | (go_simp; done) | (go_simp; with_reducible rfl) | (go_simp; rfl))⟩) hHeld ?_
  simp only [List.getElem_toArray, List.getElem_cons_zero, List.getElem_cons_succ, Act.put, List.setIfInBounds_toArray, List.set_cons_zero, List.set_cons_succ]
  refine wpAnyH_take (i := 10) (v := .pointer (some p)) rfl (by kernel_rfl) (by kernel_rfl) (by kernel_rfl) (fun _ _ _ h => h) (Or.inl ⟨by rfl, fun W hSw => by (first | (go_simp; done) | (go_simp; with_reducible rfl) | (go_simp; rfl))⟩) hHeld ?_
  simp only [List.getElem_toArray, List.getElem_cons_zero, List.getElem_cons_succ, Act.put, List.setIfInBounds_toArray, List.set_cons_zero, List.set_cons_succ]
  refine wpAnyH_take (i := 11) (v := fnV 198 p) rfl (by kernel_rfl) (by kernel_rfl) (by kernel_rfl) (fun _ _ _ h => h) (Or.inl ⟨by rfl, fun W hSw => by (first | (go_simp; done) | (go_simp; with_reducible rfl) | (go_simp; rfl))⟩) hHeld ?_
  simp only [List.getElem_toArray, List.getElem_cons_zero, List.getElem_cons_succ, Act.put, List.setIfInBounds_toArray, List.set_cons_zero, List.set_cons_succ]
  refine wpAnyH_take (i := 13) (v := pk 1 31) rfl (by kernel_rfl) (by kernel_rfl) (by kernel_rfl) (fun _ _ _ h => h) (Or.inl ⟨by rfl, fun W hSw => by (first | (go_simp; done) | (go_simp; with_reducible rfl) | (go_simp; rfl))⟩) hHeld ?_
  simp only [List.getElem_toArray, List.getElem_cons_zero, List.getElem_cons_succ, Act.put, List.setIfInBounds_toArray, List.set_cons_zero, List.set_cons_succ]
  refine wpAnyH_take (i := 14) (v := .pointer (some p)) rfl (by kernel_rfl) (by kernel_rfl) (by kernel_rfl) (fun _ _ _ h => h) (Or.inl ⟨by rfl, fun W hSw => by (first | (go_simp; done) | (go_simp; with_reducible rfl) | (go_simp; rfl))⟩) hHeld ?_
  simp only [List.getElem_toArray, List.getElem_cons_zero, List.getElem_cons_succ, Act.put, List.setIfInBounds_toArray, List.set_cons_zero, List.set_cons_succ]
  refine wpAnyH_take (i := 15) (v := fnV 199 p) rfl (by kernel_rfl) (by kernel_rfl) (by kernel_rfl) (fun _ _ _ h => h) (Or.inl ⟨by rfl, fun W hSw => by (first | (go_simp; done) | (go_simp; with_reducible rfl) | (go_simp; rfl))⟩) hHeld ?_
  simp only [List.getElem_toArray, List.getElem_cons_zero, List.getElem_cons_succ, Act.put, List.setIfInBounds_toArray, List.set_cons_zero, List.set_cons_succ]
  refine wpAnyH_take (i := 17) (v := pk 1 24) rfl (by kernel_rfl) (by kernel_rfl) (by kernel_rfl) (fun _ _ _ h => h) (Or.inl ⟨by rfl, fun W hSw => by (first | (go_simp; done) | (go_simp; with_reducible rfl) | (go_simp; rfl))⟩) hHeld ?_
  simp only [List.getElem_toArray, List.getElem_cons_zero, List.getElem_cons_succ, Act.put, List.setIfInBounds_toArray, List.set_cons_zero, List.set_cons_succ]
  refine wpAnyH_take (i := 18) (v := .pointer (some p)) rfl (by kernel_rfl) (by kernel_rfl) (by kernel_rfl) (fun _ _ _ h => h) (Or.inl ⟨by rfl, fun W hSw => by (first | (go_simp; done) | (go_simp; with_reducible rfl) | (go_simp; rfl))⟩) hHeld ?_
  simp only [List.getElem_toArray, List.getElem_cons_zero, List.getElem_cons_succ, Act.put, List.setIfInBounds_toArray, List.set_cons_zero, List.set_cons_succ]
  refine wpAnyH_take (i := 19) (v := fnV 200 p) rfl (by kernel_rfl) (by kernel_rfl) (by kernel_rfl) (fun _ _ _ h => h) (Or.inl ⟨by rfl, fun W hSw => by (first | (go_simp; done) | (go_simp; with_reducible rfl) | (go_simp; rfl))⟩) hHeld ?_
  simp only [List.getElem_toArray, List.getElem_cons_zero, List.getElem_cons_succ, Act.put, List.setIfInBounds_toArray, List.set_cons_zero, List.set_cons_succ]
  refine wpAnyH_take (i := 21) (v := pk 1 34) rfl (by kernel_rfl) (by kernel_rfl) (by kernel_rfl) (fun _ _ _ h => h) (Or.inl ⟨by rfl, fun W hSw => by (first | (go_simp; done) | (go_simp; with_reducible rfl) | (go_simp; rfl))⟩) hHeld ?_
  simp only [List.getElem_toArray, List.getElem_cons_zero, List.getElem_cons_succ, Act.put, List.setIfInBounds_toArray, List.set_cons_zero, List.set_cons_succ]
  refine wpAnyH_take (i := 22) (v := .pointer (some p)) rfl (by kernel_rfl) (by kernel_rfl) (by kernel_rfl) (fun _ _ _ h => h) (Or.inl ⟨by rfl, fun W hSw => by (first | (go_simp; done) | (go_simp; with_reducible rfl) | (go_simp; rfl))⟩) hHeld ?_
  simp only [List.getElem_toArray, List.getElem_cons_zero, List.getElem_cons_succ, Act.put, List.setIfInBounds_toArray, List.set_cons_zero, List.set_cons_succ]
  refine wpAnyH_take (i := 23) (v := fnV 201 p) rfl (by kernel_rfl) (by kernel_rfl) (by kernel_rfl) (fun _ _ _ h => h) (Or.inl ⟨by rfl, fun W hSw => by (first | (go_simp; done) | (go_simp; with_reducible rfl) | (go_simp; rfl))⟩) hHeld ?_
  simp only [List.getElem_toArray, List.getElem_cons_zero, List.getElem_cons_succ, Act.put, List.setIfInBounds_toArray, List.set_cons_zero, List.set_cons_succ]
  refine wpAnyH_ready (rs := [0]) (by kernel_rfl) (by simp) ?_
  refine AllReadyH.cons rfl (fun K hK => ?_) AllReadyH.nil
  go_simp
  refine hK.out _ _ trivial (fun hHeld => ?_)
  clear hK K
  refine ins_all (p := p) (M := w.heap.size) (W0 := w.drew.alloc (.map #[] 0)) rfl rfl rfl rfl rfl rfl rfl rfl rfl rfl rfl rfl rfl rfl rfl rfl rfl rfl rfl rfl rfl rfl rfl rfl rfl rfl rfl rfl rfl rfl rfl rfl rfl rfl rfl rfl rfl rfl rfl rfl rfl rfl (by decide +kernel) ?_ 6 false false false false false false [] [] 0 _ (by rfl) rfl rfl rfl rfl rfl rfl (by simp) (MpAt.new w) trivial (Only.refl _ _)
  intro W hF hO
  have hO' : Only (fun _ => False) w W := ((((Only.refl (fun _ => False) w).drew).alloc _).trans hO (fun i hi => .inr (by omega)))
  refine wpAnyH_ready (rs := [25]) (by kernel_rfl) (by simp) ?_
  refine AllReadyH.cons rfl (fun K hK => ?_) AllReadyH.nil
  go_simp
  refine hK.out _ _ trivial (fun hHeld => ?_)
  clear hK K
  refine wpAnyH_ready (rs := [26]) (by kernel_rfl) (by simp) ?_
  refine AllReadyH.cons rfl (fun K hK => ?_) AllReadyH.nil
  go_simp
  refine hK.out _ _ trivial (fun hHeld => ?_)
  clear hK K
  refine wpAnyH_done (by kernel_rfl) (NoPanic.normal ?_) _
  go_wp2
  go_ret
  exact ⟨rfl, hF, hO'⟩
end Go.Proofs.YtbnfhklpobephaaGreatDoor
