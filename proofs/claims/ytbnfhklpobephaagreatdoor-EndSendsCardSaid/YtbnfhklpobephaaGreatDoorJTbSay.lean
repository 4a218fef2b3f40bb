/- Several texts in one. -/
import Derived.Test.YtbnfhklpobephaaGreatDoorJNawsFit
import Derived.Test.YtbnfhklpobephaaGreatDoorJQsCalls
import Derived.Test.YtbnfhklpobephaaGreatDoorJTexts
import Derived.Test.YtbnfhklpobephaaGreatDoorJSnIn
import Derived.Test.YtbnfhklpobephaaGreatDoorJBase
import Derived.Deep.RegionHeld3
import Derived.BigQuiet
/- Layer 11 as plain functions: a table; two tables joined by rows of verbs: each option's two sides are two sides joined (layer 10). -/
namespace Go.Proofs.YtbnfhklpobephaaGreatDoor

/-- How many verbs two sides joined still hear till they rest. -/
def Jo.hears (ax ay : Bool) : Nat → Jo → Nat
  | 0, _ => 0
  | n + 1, t => match t.hearX ax with
    | some r => Jo.hears ax ay n r.1 + 1
    | none => match t.hearY ay with
      | some r => Jo.hears ax ay n r.1 + 1
      | none => 0
def Jo.okH (ax ay : Bool) (t : Jo) : Bool :=
  ((t.hearX ax).all fun r => decide (r.1.hears ax ay 6 + 1 = t.hears ax ay 6)) && ((t.hearY ay).all fun r => decide (r.1.hears ax ay 6 + 1 = t.hears ax ay 6)) &&
    ((t.askX true).all fun u => decide (u.hears ax ay 6 ≤ t.hears ax ay 6 + 2)) && ((t.askX false).all fun u => decide (u.hears ax ay 6 ≤ t.hears ax ay 6 + 2)) &&
    ((t.askY true).all fun u => decide (u.hears ax ay 6 ≤ t.hears ax ay 6 + 2)) && ((t.askY false).all fun u => decide (u.hears ax ay 6 ≤ t.hears ax ay 6 + 2))
theorem joints_okH (ax ay : Bool) : (joints ax ay).all (Jo.okH ax ay) = true := by
  cases ax <;> cases ay <;> decide +kernel
section
variable {ax ay : Bool} {t u : Jo}
theorem Can.okH (h : Can ax ay t) : Jo.okH ax ay t = true := List.all_eq_true.1 (joints_okH ax ay) t (List.contains_iff_mem.1 h)
theorem Can.hearsX {b : Bool} (h : Can ax ay t) (hu : t.hearX ax = some (u, b)) : u.hears ax ay 6 + 1 = t.hears ax ay 6 := by
  have := h.okH
  simp only [Jo.okH, Bool.and_eq_true] at this
  simpa [hu] using this.1.1.1.1.1
theorem Can.hearsY {b : Bool} (h : Can ax ay t) (hu : t.hearY ay = some (u, b)) : u.hears ax ay 6 + 1 = t.hears ax ay 6 := by
  have := h.okH
  simp only [Jo.okH, Bool.and_eq_true] at this
  simpa [hu] using this.1.1.1.1.2
theorem Can.asksX {on : Bool} (h : Can ax ay t) (hu : t.askX on = some u) : u.hears ax ay 6 ≤ t.hears ax ay 6 + 2 := by
  have := h.okH
  simp only [Jo.okH, Bool.and_eq_true] at this
  cases on
  · simpa [hu] using this.1.1.2
  · simpa [hu] using this.1.1.1.2
theorem Can.asksY {on : Bool} (h : Can ax ay t) (hu : t.askY on = some u) : u.hears ax ay 6 ≤ t.hears ax ay 6 + 2 := by
  have := h.okH
  simp only [Jo.okH, Bool.and_eq_true] at this
  cases on
  · simpa [hu] using this.2
  · simpa [hu] using this.1.2
end

/-- A table: of each side (0, 1) and option the state; what was heard, asked for, sent. -/
structure Tb where
  st : Nat → Nat → Qs
  heard : Nat
  asked : Nat
  sent : Nat
def Tb.zero : Tb := ⟨fun _ _ => .no, 0, 0, 0⟩
/-- A state of a side and an option that may not be there. -/
def Tb.get (t : Tb) (s o : Int) : Qs := if (s = 0 ∨ s = 1) ∧ 0 ≤ o ∧ o ≤ 255 then t.st s.toNat o.toNat else .no
def setQ (f : Nat → Nat → Qs) (s o : Nat) (q : Qs) : Nat → Nat → Qs := fun a b => if a = s ∧ b = o then q else f a b
/-- The verb that is sent of a side. -/
def toldV (s k : Nat) : Nat := if k = 0 then 0 else 250 + 2 * s + k
/-- Of which side a verb speaks that is heard. -/
def sideV (v : Nat) : Nat := if v < 253 then 1 else 0
/-- Whether a verb is for. -/
def forV (v : Nat) : Bool := decide (v % 2 = 1)
def sentN (k : Nat) : Nat := if k = 0 then 0 else 1
/-- A verb (251 to 254) of an option (0 to 255) is heard. -/
def Tb.hear (ag : Nat → Nat → Bool) (t : Tb) (v o : Nat) : Tb × Qs × Nat × Bool :=
  let m := hearQ (t.st (sideV v) o) (forV v) (ag (sideV v) o)
  (⟨setQ t.st (sideV v) o m.1, t.heard + 1, t.asked, t.sent + sentN m.2.1⟩, m)
/-- A side's option is asked for. -/
def Tb.ask (t : Tb) (s o : Nat) (on : Bool) : Option (Tb × Qs × Nat) :=
  (askQ (t.st s o) on).map fun m => (⟨setQ t.st s o m.1, t.heard, t.asked + 1, t.sent + sentN m.2⟩, m)

/-! Two tables joined. -/
/-- Of a row of verbs and options those that speak of a side of an option: whether each is for. -/
def partV (l : List (Nat × Nat)) (s o : Nat) : List Bool := (l.filter fun e => decide (sideV e.1 = s ∧ e.2 = o)).map fun e => forV e.1
theorem partV_append (l m : List (Nat × Nat)) (s o : Nat) : partV (l ++ m) s o = partV l s o ++ partV m s o := by simp [partV]
theorem partV_nil (s o : Nat) : partV [] s o = [] := rfl
theorem partV_cons (e : Nat × Nat) (l : List (Nat × Nat)) (s o : Nat) : partV (e :: l) s o = (if sideV e.1 = s ∧ e.2 = o then [forV e.1] else []) ++ partV l s o := by
  unfold partV
  by_cases h : sideV e.1 = s ∧ e.2 = o <;> simp [h]
/-- What a table sends: no verb, or one. -/
def sendV (s k o : Nat) : List (Nat × Nat) := if k = 0 then [] else [(toldV s k, o)]
theorem sideV_told {s k : Nat} (hs : s < 2) (hk : k = 1 ∨ k = 2) : sideV (toldV s k) = 1 - s := by
  unfold sideV toldV
  rcases hk with rfl | rfl <;> (rcases s with _ | _ | s <;> simp <;> omega)
theorem forV_told {s k : Nat} (hk : k = 1 ∨ k = 2) : forV (toldV s k) = decide (k = 1) := by
  unfold forV toldV
  rcases hk with rfl | rfl <;> simp <;> omega
theorem partV_send {s k o : Nat} (hs : s < 2) (hk : k ≤ 2) (s' o' : Nat) : partV (sendV s k o) s' o' = if s' = 1 - s ∧ o' = o then sentQ k else [] := by
  unfold sendV
  by_cases h0 : k = 0
  · subst h0
    simp [partV, sentQ]
  · have hk' : k = 1 ∨ k = 2 := by omega
    rw [if_neg h0, partV_cons, partV_nil, List.append_nil]
    simp only [sideV_told hs hk', forV_told hk']
    have : sentQ k = [decide (k = 1)] := by rcases hk' with rfl | rfl <;> rfl
    rw [this]
    by_cases h : 1 - s = s' ∧ o = o'
    · rw [if_pos h, if_pos ⟨h.1.symm, h.2.symm⟩]
    · rw [if_neg h, if_neg (fun h' => h ⟨h'.1.symm, h'.2.symm⟩)]

/-- Two tables, and of each what it sent that the other one hasn't heard. -/
structure Tj where
  a : Nat → Nat → Qs
  p : List (Nat × Nat)
  b : Nat → Nat → Qs
  q : List (Nat × Nat)
/-- One side of one option on the one (d), and what answers to it on the other one. -/
def Tj.jo (t : Tj) (d o : Nat) : Jo := ⟨t.a d o, partV t.p (1 - d) o, t.b (1 - d) o, partV t.q d o⟩
structure Tj.Ok (ga gb : Nat → Nat → Bool) (t : Tj) : Prop where
  can : ∀ d o, d < 2 → o < 256 → Can (ga d o) (gb (1 - d) o) (t.jo d o)
  vp : ∀ e ∈ t.p, (251 ≤ e.1 ∧ e.1 ≤ 254) ∧ e.2 < 256
  vq : ∀ e ∈ t.q, (251 ≤ e.1 ∧ e.1 ≤ 254) ∧ e.2 < 256

theorem hearQ_sends (s : Qs) (b a : Bool) : (hearQ s b a).2.1 ≤ 2 := by cases s <;> cases b <;> cases a <;> decide
theorem askQ_sends {s : Qs} {on : Bool} {r : Qs × Nat} (h : askQ s on = some r) : r.2 ≤ 2 := by
  cases s <;> cases on <;> simp only [askQ, Option.some.injEq, reduceCtorEq] at h
  all_goals (subst h; decide)
theorem sideV_lt (v : Nat) : sideV v < 2 := by unfold sideV; split <;> omega
theorem told_valid {s k : Nat} (hs : s < 2) (hk : k = 1 ∨ k = 2) : 251 ≤ toldV s k ∧ toldV s k ≤ 254 := by
  unfold toldV
  rcases hk with rfl | rfl <;> simp <;> omega
theorem sendV_valid {s k o : Nat} (hs : s < 2) (hk : k ≤ 2) (ho : o < 256) : ∀ e ∈ sendV s k o, (251 ≤ e.1 ∧ e.1 ≤ 254) ∧ e.2 < 256 := by
  intro e he
  unfold sendV at he
  split at he
  · cases he
  · simp only [List.mem_cons, List.not_mem_nil, or_false] at he
    subst he
    exact ⟨told_valid hs (by omega), ho⟩
theorem sum_change {f g : Nat → Nat} {j : Nat} : ∀ (n : Nat), j < n → (∀ i, i < n → i ≠ j → f i = g i) → ((List.range n).map f).sum + g j = ((List.range n).map g).sum + f j
  | 0, h, _ => absurd h (by omega)
  | n + 1, h, hf => by
    simp only [List.range_succ, List.map_append, List.sum_append, List.map_cons, List.map_nil, List.sum_cons, List.sum_nil]
    by_cases e : j = n
    · subst e
      have : (List.range j).map f = (List.range j).map g := List.map_congr_left fun i hi => hf i (by have := List.mem_range.1 hi; omega) (by have := List.mem_range.1 hi; omega)
      rw [this]
      omega
    · have := sum_change n (by omega) (fun i hi hij => hf i (by omega) hij)
      have h1 := hf n (by omega) (fun h => e h.symm)
      omega
/-- How many verbs are still heard till all rests. -/
def Tj.pot (ga gb : Nat → Nat → Bool) (t : Tj) : Nat := ((List.range 512).map fun i => (t.jo (i / 256) (i % 256)).hears (ga (i / 256) (i % 256)) (gb (1 - i / 256) (i % 256)) 6).sum
section
variable {ga gb : Nat → Nat → Bool} {t u : Tj}
/-- But one pair of sides has turned. -/
def Tj.But (t u : Tj) (d o : Nat) : Prop := ∀ d' o', d' < 2 → ¬ (d' = d ∧ o' = o) → u.jo d' o' = t.jo d' o'
theorem Tj.But.pot {d o : Nat} (h : t.But u d o) (hd : d < 2) (ho : o < 256) : u.pot ga gb + (t.jo d o).hears (ga d o) (gb (1 - d) o) 6 = t.pot ga gb + (u.jo d o).hears (ga d o) (gb (1 - d) o) 6 := by
  have := sum_change (f := fun i => (u.jo (i / 256) (i % 256)).hears (ga (i / 256) (i % 256)) (gb (1 - i / 256) (i % 256)) 6) (g := fun i => (t.jo (i / 256) (i % 256)).hears (ga (i / 256) (i % 256)) (gb (1 - i / 256) (i % 256)) 6) (j := d * 256 + o) 512 (by omega) (fun i hi hij => by
    show (u.jo _ _).hears _ _ 6 = (t.jo _ _).hears _ _ 6
    rw [h (i / 256) (i % 256) (by omega) (by omega)])
  simp only [show (d * 256 + o) / 256 = d by omega, show (d * 256 + o) % 256 = o by omega] at this
  exact this
theorem Tj.But.can {d o : Nat} (h : t.But u d o) (ht : t.Ok ga gb) (hc : Can (ga d o) (gb (1 - d) o) (u.jo d o)) : ∀ d' o', d' < 2 → o' < 256 → Can (ga d' o') (gb (1 - d') o') (u.jo d' o') := fun d' o' hd ho => by
  by_cases e : d' = d ∧ o' = o
  · rw [e.1, e.2]; exact hc
  · rw [h d' o' hd e]; exact ht.can d' o' hd ho

/-- The one asks. -/
def Tj.asksA (t : Tj) (d o : Nat) (m : Qs × Nat) : Tj := { t with a := setQ t.a d o m.1, p := t.p ++ sendV d m.2 o }
def Tj.asksB (t : Tj) (d o : Nat) (m : Qs × Nat) : Tj := { t with b := setQ t.b d o m.1, q := t.q ++ sendV d m.2 o }
theorem Tj.Ok.asksA (ht : t.Ok ga gb) {d o : Nat} (hd : d < 2) (ho : o < 256) {on : Bool} {m : Qs × Nat} (hm : askQ (t.a d o) on = some m) : (t.asksA d o m).Ok ga gb ∧ (t.asksA d o m).pot ga gb ≤ t.pot ga gb + 2 := by
  have hk := askQ_sends hm
  have hb : t.But (t.asksA d o m) d o := fun d' o' hd' e => by
    simp only [Tj.jo, Tj.asksA, partV_append, partV_send hd hk, setQ]
    rw [if_neg e, if_neg (fun e' => e ⟨by omega, e'.2⟩), List.append_nil]
  have hj : (t.jo d o).askX on = some ((t.asksA d o m).jo d o) := by
    simp only [Jo.askX, Tj.jo, Tj.asksA, partV_append, partV_send hd hk, setQ, hm]
    simp
  have hc := ht.can d o hd ho
  refine ⟨⟨hb.can ht (hc.askX hj), fun e he => ?_, ht.vq⟩, ?_⟩
  · rcases List.mem_append.1 he with he | he
    · exact ht.vp e he
    · exact sendV_valid hd hk ho e he
  · have h1 := hb.pot (ga := ga) (gb := gb) hd ho
    have h2 := hc.asksX hj
    omega
theorem Tj.Ok.asksB (ht : t.Ok ga gb) {d o : Nat} (hd : d < 2) (ho : o < 256) {on : Bool} {m : Qs × Nat} (hm : askQ (t.b d o) on = some m) : (t.asksB d o m).Ok ga gb ∧ (t.asksB d o m).pot ga gb ≤ t.pot ga gb + 2 := by
  have hk := askQ_sends hm
  have e1 : 1 - (1 - d) = d := by omega
  have hb : t.But (t.asksB d o m) (1 - d) o := fun d' o' hd' e => by
    simp only [Tj.jo, Tj.asksB, partV_append, partV_send hd hk, setQ]
    rw [if_neg (fun e' => e ⟨by omega, e'.2⟩), if_neg (fun e' => e ⟨by omega, e'.2⟩), List.append_nil]
  have hj : (t.jo (1 - d) o).askY on = some ((t.asksB d o m).jo (1 - d) o) := by
    simp only [Jo.askY, Tj.jo, Tj.asksB, partV_append, partV_send hd hk, setQ, e1, hm]
    simp
  have hc := ht.can (1 - d) o (by omega) ho
  refine ⟨⟨hb.can ht (hc.askY hj), ht.vp, fun e he => ?_⟩, ?_⟩
  · rcases List.mem_append.1 he with he | he
    · exact ht.vq e he
    · exact sendV_valid hd hk ho e he
  · have h1 := hb.pot (ga := ga) (gb := gb) (by omega) ho
    have h2 := hc.asksY hj
    omega
/-- The one hears what the other one sent first. -/
def Tj.hearsA (ga : Nat → Nat → Bool) (t : Tj) (v o : Nat) (q : List (Nat × Nat)) : Tj :=
  { t with a := setQ t.a (sideV v) o (hearQ (t.a (sideV v) o) (forV v) (ga (sideV v) o)).1, p := t.p ++ sendV (sideV v) (hearQ (t.a (sideV v) o) (forV v) (ga (sideV v) o)).2.1 o, q := q }
def Tj.hearsB (gb : Nat → Nat → Bool) (t : Tj) (v o : Nat) (p : List (Nat × Nat)) : Tj :=
  { t with b := setQ t.b (sideV v) o (hearQ (t.b (sideV v) o) (forV v) (gb (sideV v) o)).1, q := t.q ++ sendV (sideV v) (hearQ (t.b (sideV v) o) (forV v) (gb (sideV v) o)).2.1 o, p := p }
theorem Tj.Ok.hearsA (ht : t.Ok ga gb) {v o : Nat} {q : List (Nat × Nat)} (hq : t.q = (v, o) :: q) :
    (t.hearsA ga v o q).Ok ga gb ∧ (t.hearsA ga v o q).pot ga gb + 1 = t.pot ga gb ∧ (hearQ (t.a (sideV v) o) (forV v) (ga (sideV v) o)).2.2 = false := by
  obtain ⟨_, ho⟩ := ht.vq (v, o) (by rw [hq]; exact List.mem_cons_self ..)
  have hd := sideV_lt v
  have hk := hearQ_sends (t.a (sideV v) o) (forV v) (ga (sideV v) o)
  have hb : t.But (t.hearsA ga v o q) (sideV v) o := fun d' o' hd' e => by
    simp only [Tj.jo, Tj.hearsA, partV_append, partV_send hd hk, setQ, hq, partV_cons]
    rw [if_neg e, if_neg (fun e' => e ⟨by omega, e'.2⟩), List.append_nil, if_neg (fun e' => e ⟨e'.1.symm, e'.2.symm⟩), List.nil_append]
  have hj : (t.jo (sideV v) o).hearX (ga (sideV v) o) = some ((t.hearsA ga v o q).jo (sideV v) o, (hearQ (t.a (sideV v) o) (forV v) (ga (sideV v) o)).2.2) := by
    simp only [Jo.hearX, Tj.jo, Tj.hearsA, partV_append, partV_send hd hk, setQ, hq, partV_cons]
    simp
  have hc := ht.can (sideV v) o hd ho
  refine ⟨⟨hb.can ht (hc.hearX hj).1, fun e he => ?_, fun e he => ht.vq e (by rw [hq]; exact List.mem_cons_of_mem _ he)⟩, ?_, (hc.hearX hj).2⟩
  · rcases List.mem_append.1 he with he | he
    · exact ht.vp e he
    · exact sendV_valid hd hk ho e he
  · have h1 := hb.pot (ga := ga) (gb := gb) hd ho
    have h2 := hc.hearsX hj
    omega
theorem Tj.Ok.hearsB (ht : t.Ok ga gb) {v o : Nat} {p : List (Nat × Nat)} (hp : t.p = (v, o) :: p) :
    (t.hearsB gb v o p).Ok ga gb ∧ (t.hearsB gb v o p).pot ga gb + 1 = t.pot ga gb ∧ (hearQ (t.b (sideV v) o) (forV v) (gb (sideV v) o)).2.2 = false := by
  obtain ⟨_, ho⟩ := ht.vp (v, o) (by rw [hp]; exact List.mem_cons_self ..)
  have hd := sideV_lt v
  have e1 : 1 - (1 - sideV v) = sideV v := by omega
  have hk := hearQ_sends (t.b (sideV v) o) (forV v) (gb (sideV v) o)
  have hb : t.But (t.hearsB gb v o p) (1 - sideV v) o := fun d' o' hd' e => by
    simp only [Tj.jo, Tj.hearsB, partV_append, partV_send hd hk, setQ, hp, partV_cons]
    rw [if_neg (fun e' => e ⟨by omega, e'.2⟩), if_neg (fun e' => e ⟨by omega, e'.2⟩), List.append_nil, if_neg (fun e' => e ⟨by omega, e'.2.symm⟩), List.nil_append]
  have hj : (t.jo (1 - sideV v) o).hearY (gb (sideV v) o) = some ((t.hearsB gb v o p).jo (1 - sideV v) o, (hearQ (t.b (sideV v) o) (forV v) (gb (sideV v) o)).2.2) := by
    simp only [Jo.hearY, Tj.jo, Tj.hearsB, partV_append, partV_send hd hk, setQ, hp, partV_cons, e1]
    simp
  have hc := ht.can (1 - sideV v) o (by omega) ho
  rw [e1] at hc
  have hh := hc.hearY hj
  refine ⟨⟨hb.can ht (by rw [e1]; exact hh.1), fun e he => ht.vp e (by rw [hp]; exact List.mem_cons_of_mem _ he), fun e he => ?_⟩, ?_, hh.2⟩
  · rcases List.mem_append.1 he with he | he
    · exact ht.vq e he
    · exact sendV_valid hd hk ho e he
  · have h1 := hb.pot (ga := ga) (gb := gb) (by omega) ho
    have h2 := hc.hearsY hj
    rw [e1] at h1
    omega
/-- At first. -/
def Tj.zero : Tj := ⟨fun _ _ => .no, [], fun _ _ => .no, []⟩
theorem Tj.zero_ok : Tj.zero.Ok ga gb := ⟨fun _ _ _ _ => can_zero _ _, fun _ h => (by cases h), fun _ h => (by cases h)⟩
/-- At rest. -/
theorem Tj.Ok.rest (ht : t.Ok ga gb) (hp : t.p = []) (hq : t.q = []) {d o : Nat} (hd : d < 2) (ho : o < 256) : calmQ (t.a d o) = true ∧ t.a d o = t.b (1 - d) o :=
  (ht.can d o hd ho).rest (by simp only [Tj.jo, hp, partV_nil]) (by simp only [Tj.jo, hq, partV_nil])
end
end Go.Proofs.YtbnfhklpobephaaGreatDoor
/- Package table: a table's cells: the states, what is agreed to, the counts. -/
namespace Go.Proofs.YtbnfhklpobephaaGreatDoor
open Go Go.RowKit
set_option maxRecDepth 100000
set_option maxHeartbeats 4000000

/-- A table's cells, from place mo on; what stands ahead of them and behind. -/
structure TbC (mo : Nat) (pre post cs : List Value) (ag : Nat → Nat → Bool) (t : Tb) : Prop where
  len : cs.length = mo + 1539 + post.length
  front : cs.take mo = pre
  back : cs.drop (mo + 1539) = post
  kind : ∀ i s o, s < 2 → o < 256 → i = mo + s * 512 + o * 2 → cs[i]? = some (.int .i64 ((t.st s o).kind : Int))
  opp : ∀ i s o, s < 2 → o < 256 → i = mo + s * 512 + o * 2 + 1 → cs[i]? = some (.bool (t.st s o).opp)
  agr : ∀ i s o, s < 2 → o < 256 → i = mo + 1024 + s * 256 + o → cs[i]? = some (.bool (ag s o))
  heard : cs[mo + 1536]? = some (.int .i64 (t.heard : Int))
  asked : cs[mo + 1537]? = some (.int .i64 (t.asked : Int))
  sent : cs[mo + 1538]? = some (.int .i64 (t.sent : Int))
def tb0 : List Value := ((List.range 1024).map fun i => if i % 2 = 0 then Value.int .i64 0 else .bool false) ++ (List.replicate 512 (Value.bool false) ++ [.int .i64 0, .int .i64 0, .int .i64 0])
theorem tb0_length : tb0.length = 1539 := by simp [tb0]
theorem tb0_c : TbC 0 [] [] tb0 (fun _ _ => false) Tb.zero := by
  refine ⟨tb0_length, rfl, List.drop_of_length_le (by rw [tb0_length]; omega), fun i s o hs ho hi => ?_, fun i s o hs ho hi => ?_, fun i s o hs ho hi => ?_, ?_, ?_, ?_⟩
  · rw [tb0, List.getElem?_append_left (by simp; omega), List.getElem?_map, List.getElem?_range (by omega)]
    simp only [Option.map_some]
    rw [if_pos (by omega)]
    rfl
  · rw [tb0, List.getElem?_append_left (by simp; omega), List.getElem?_map, List.getElem?_range (by omega)]
    simp only [Option.map_some]
    rw [if_neg (by omega)]
    rfl
  · rw [tb0, List.getElem?_append_right (by simp; omega), List.getElem?_append_left (by simp; omega), List.getElem?_replicate, if_pos (by simp; omega)]
  · rw [Nat.zero_add, tb0, List.getElem?_append_right (by simp), List.getElem?_append_right (by simp)]; simp; rfl
  · rw [Nat.zero_add, tb0, List.getElem?_append_right (by simp), List.getElem?_append_right (by simp)]; simp; rfl
  · rw [Nat.zero_add, tb0, List.getElem?_append_right (by simp), List.getElem?_append_right (by simp)]; simp; rfl

/-- A cell within the table turns: what stands ahead and behind stays. -/
theorem take_setIn {cs : List Value} {mo i : Nat} (h : mo ≤ i) (v : Value) : (cs.set i v).take mo = cs.take mo := by
  rw [List.take_set]
  exact List.set_eq_of_length_le (by rw [List.length_take]; omega)
theorem drop_setIn {cs : List Value} {n i : Nat} (h : i < n) (v : Value) : (cs.set i v).drop n = cs.drop n := List.drop_set_of_lt h
section
variable {mo : Nat} {pre post cs : List Value} {ag : Nat → Nat → Bool} {t : Tb}
theorem TbC.setSt (h : TbC mo pre post cs ag t) {s o i : Nat} (hs : s < 2) (ho : o < 256) (hi : i = mo + s * 512 + o * 2) (q : Qs) :
    TbC mo pre post (cs.take i ++ ([.int .i64 (q.kind : Int), .bool q.opp] ++ cs.drop (i + 2))) ag { t with st := setQ t.st s o q } := by
  have hl := h.len
  rw [set2_eq _ _ _ _ (by omega)]
  have key : ∀ j, (j ≠ i ∧ j ≠ i + 1) → ((cs.set i (.int .i64 (q.kind : Int))).set (i + 1) (.bool q.opp))[j]? = cs[j]? := fun j hj => by
    rw [List.getElem?_set_ne (by omega), List.getElem?_set_ne (by omega)]
  have k0 : ((cs.set i (.int .i64 (q.kind : Int))).set (i + 1) (.bool q.opp))[i]? = some (.int .i64 (q.kind : Int)) := by
    rw [List.getElem?_set_ne (by omega), List.getElem?_set_self (by omega)]
  have k1 : ((cs.set i (.int .i64 (q.kind : Int))).set (i + 1) (.bool q.opp))[i + 1]? = some (.bool q.opp) := by
    rw [List.getElem?_set_self (by simp; omega)]
  refine ⟨by simp [hl], by rw [take_setIn (by omega), take_setIn (by omega), h.front], by rw [drop_setIn (by omega), drop_setIn (by omega), h.back], fun j s' o' hs' ho' hj => ?_, fun j s' o' hs' ho' hj => ?_, fun j s' o' hs' ho' hj => ?_, ?_, ?_, ?_⟩
  · show _ = some (Value.int .i64 ((setQ t.st s o q s' o').kind : Int))
    unfold setQ
    by_cases e : s' = s ∧ o' = o
    · rw [if_pos e]
      obtain rfl : j = i := by obtain ⟨rfl, rfl⟩ := e; omega
      exact k0
    · rw [if_neg e, key j (by omega)]
      exact h.kind j s' o' hs' ho' hj
  · show _ = some (Value.bool (setQ t.st s o q s' o').opp)
    unfold setQ
    by_cases e : s' = s ∧ o' = o
    · rw [if_pos e]
      obtain rfl : j = i + 1 := by obtain ⟨rfl, rfl⟩ := e; omega
      exact k1
    · rw [if_neg e, key j (by omega)]
      exact h.opp j s' o' hs' ho' hj
  · rw [key j (by omega)]; exact h.agr j s' o' hs' ho' hj
  · rw [key _ (by omega)]; exact h.heard
  · rw [key _ (by omega)]; exact h.asked
  · rw [key _ (by omega)]; exact h.sent
theorem TbC.setAg (h : TbC mo pre post cs ag t) {s o i : Nat} (hs : s < 2) (ho : o < 256) (hi : i = mo + 1024 + s * 256 + o) (b : Bool) :
    TbC mo pre post (cs.set i (.bool b)) (fun x y => if x = s ∧ y = o then b else ag x y) t := by
  have hl := h.len
  have key : ∀ j, j ≠ i → (cs.set i (.bool b))[j]? = cs[j]? := fun j hj => List.getElem?_set_ne (by omega)
  refine ⟨by simp [hl], by rw [take_setIn (by omega), h.front], by rw [drop_setIn (by omega), h.back], fun j s' o' hs' ho' hj => ?_, fun j s' o' hs' ho' hj => ?_, fun j s' o' hs' ho' hj => ?_, ?_, ?_, ?_⟩
  · rw [key j (by omega)]; exact h.kind j s' o' hs' ho' hj
  · rw [key j (by omega)]; exact h.opp j s' o' hs' ho' hj
  · by_cases e : s' = s ∧ o' = o
    · rw [if_pos e]
      obtain rfl : j = i := by obtain ⟨rfl, rfl⟩ := e; omega
      rw [List.getElem?_set_self (by omega)]
    · rw [if_neg e, key j (by omega)]; exact h.agr j s' o' hs' ho' hj
  · rw [key _ (by omega)]; exact h.heard
  · rw [key _ (by omega)]; exact h.asked
  · rw [key _ (by omega)]; exact h.sent
theorem TbC.setHeard (h : TbC mo pre post cs ag t) (n : Nat) : TbC mo pre post (cs.set (mo + 1536) (.int .i64 (n : Int))) ag { t with heard := n } := by
  have hl := h.len
  have key : ∀ j, j ≠ mo + 1536 → (cs.set (mo + 1536) (.int .i64 (n : Int)))[j]? = cs[j]? := fun j hj => List.getElem?_set_ne (by omega)
  exact ⟨by simp [hl], by rw [take_setIn (by omega), h.front], by rw [drop_setIn (by omega), h.back], fun j s' o' hs' ho' hj => by rw [key j (by omega)]; exact h.kind j s' o' hs' ho' hj, fun j s' o' hs' ho' hj => by rw [key j (by omega)]; exact h.opp j s' o' hs' ho' hj, fun j s' o' hs' ho' hj => by rw [key j (by omega)]; exact h.agr j s' o' hs' ho' hj, List.getElem?_set_self (by omega), by rw [key _ (by omega)]; exact h.asked, by rw [key _ (by omega)]; exact h.sent⟩
theorem TbC.setAsked (h : TbC mo pre post cs ag t) (n : Nat) : TbC mo pre post (cs.set (mo + 1537) (.int .i64 (n : Int))) ag { t with asked := n } := by
  have hl := h.len
  have key : ∀ j, j ≠ mo + 1537 → (cs.set (mo + 1537) (.int .i64 (n : Int)))[j]? = cs[j]? := fun j hj => List.getElem?_set_ne (by omega)
  exact ⟨by simp [hl], by rw [take_setIn (by omega), h.front], by rw [drop_setIn (by omega), h.back], fun j s' o' hs' ho' hj => by rw [key j (by omega)]; exact h.kind j s' o' hs' ho' hj, fun j s' o' hs' ho' hj => by rw [key j (by omega)]; exact h.opp j s' o' hs' ho' hj, fun j s' o' hs' ho' hj => by rw [key j (by omega)]; exact h.agr j s' o' hs' ho' hj, by rw [key _ (by omega)]; exact h.heard, List.getElem?_set_self (by omega), by rw [key _ (by omega)]; exact h.sent⟩
theorem TbC.setSent (h : TbC mo pre post cs ag t) (n : Nat) : TbC mo pre post (cs.set (mo + 1538) (.int .i64 (n : Int))) ag { t with sent := n } := by
  have hl := h.len
  have key : ∀ j, j ≠ mo + 1538 → (cs.set (mo + 1538) (.int .i64 (n : Int)))[j]? = cs[j]? := fun j hj => List.getElem?_set_ne (by omega)
  exact ⟨by simp [hl], by rw [take_setIn (by omega), h.front], by rw [drop_setIn (by omega), h.back], fun j s' o' hs' ho' hj => by rw [key j (by omega)]; exact h.kind j s' o' hs' ho' hj, fun j s' o' hs' ho' hj => by rw [key j (by omega)]; exact h.opp j s' o' hs' ho' hj, fun j s' o' hs' ho' hj => by rw [key j (by omega)]; exact h.agr j s' o' hs' ho' hj, by rw [key _ (by omega)]; exact h.heard, by rw [key _ (by omega)]; exact h.asked, List.getElem?_set_self (by omega)⟩
end
/-- A table that lies in block p. -/
def TbAt (w : World) (p mo : Nat) (tp : TypeId) (pre post : List Value) (ag : Nat → Nat → Bool) (t : Tb) : Prop := ∃ cs, Blk w p tp cs ∧ TbC mo pre post cs ag t
section
variable {w w' : World} {p mo : Nat} {tp : TypeId} {pre post : List Value} {ag : Nat → Nat → Bool} {t : Tb}
theorem TbAt.lt (h : TbAt w p mo tp pre post ag t) : p < w.heap.size := by obtain ⟨cs, h, _⟩ := h; exact h.lt
theorem TbAt.only {S : Nat → Prop} (h : TbAt w p mo tp pre post ag t) (ho : Only S w w') (hS : ¬ S p) : TbAt w' p mo tp pre post ag t := by
  obtain ⟨cs, h, hc⟩ := h
  exact ⟨cs, h.only ho hS, hc⟩
theorem TbAt.same (h : TbAt w p mo tp pre post ag t) (ho : Only (fun _ => False) w w') : TbAt w' p mo tp pre post ag t := h.only ho (fun h => h)
end
/-- A state's cells, where they lie. -/
theorem st_range {w : World} {p mo : Nat} {tp : TypeId} {pre post : List Value} {cs : List Value} {ag : Nat → Nat → Bool} {t : Tb} (h : Blk w p tp cs) (hc : TbC mo pre post cs ag t) {s o i : Nat} (hs : s < 2) (ho : o < 256) (hi : i = mo + s * 512 + o * 2) : w.rangeAt p i (qsC (t.st s o)) := by
  intro j v hj
  rw [h.cell]
  rcases j with _ | _ | j
  · rw [← hj, Nat.add_zero, hc.kind i s o hs ho hi]; rfl
  · rw [← hj, hc.opp (i + 1) s o hs ho (by omega)]; rfl
  · simp [qsC] at hj

theorem zero_table : (Tryz.prog.info? 99).map (fun i => (i.zero, i.size)) = some (some (.agg tb0.toArray), 1539) := by kernel_rfl
theorem built_table : Tryz.prog.built 99 [] = some tb0.toArray := by
  unfold Program.built
  have h := zero_table
  cases hi : Tryz.prog.info? 99 with
  | none => rw [hi] at h; cases h
  | some i =>
    rw [hi] at h
    simp only [Option.map_some, Option.some.injEq, Prod.mk.injEq] at h
    simp only [Tryz.underlying99, h.1]
    rfl

end Go.Proofs.YtbnfhklpobephaaGreatDoor
/- Package codes: is a number a verb? -/
namespace Go.Proofs.YtbnfhklpobephaaGreatDoor
open Go Go.RowKit

theorem verb_any (W : World) (c : Int) : Calls Tryz.prog 158 #[.int .i64 c] W fun e w' => e = .returned (.bool (decide (251 ≤ c ∧ c ≤ 254))) ∧ w' = W := by
  by_cases h1 : c < 251
  · go_enter Tryz.func158, Tryz.ntmps158
    go_wp2
    go_ret
    refine ⟨congrArg (fun b => Ending.returned (Value.bool b)) ?_, rfl⟩
    first | (simp; done) | (simp; omega)
  · go_enter Tryz.func158, Tryz.ntmps158
    go_wp2
    go_ret
    refine ⟨congrArg (fun b => Ending.returned (Value.bool b)) ?_, rfl⟩
    first | (simp; done) | (simp; omega)
end Go.Proofs.YtbnfhklpobephaaGreatDoor
/- Package table: which numbers are sides and options, of which side a verb speaks, move. -/
namespace Go.Proofs.YtbnfhklpobephaaGreatDoor
open Go Go.RowKit
set_option maxRecDepth 100000
set_option maxHeartbeats 4000000

theorem isOption_any (W : World) (c : Int) : Calls Tryz.prog 83 #[.int .i64 c] W fun e w' => e = .returned (.bool (decide (0 ≤ c ∧ c ≤ 255))) ∧ w' = W := by
  by_cases h0 : 0 ≤ c <;> by_cases h1 : c < 256
  all_goals
    have d0 : decide ((0 : Int) ≤ c) = decide (0 ≤ c) := rfl
    go_enter Tryz.func83, Tryz.ntmps83
    go_wp2
    go_ret
    refine ⟨?_, rfl⟩
    congr 2
    simp
    try omega
theorem isSide_any (W : World) (c : Int) : Calls Tryz.prog 100 #[.int .i64 c] W fun e w' => e = .returned (.bool (decide (c = 0 ∨ c = 1))) ∧ w' = W := by
  by_cases h0 : 0 ≤ c <;> by_cases h1 : c < 2
  all_goals
    go_enter Tryz.func100, Tryz.ntmps100
    go_wp2
    go_ret
    refine ⟨?_, rfl⟩
    congr 2
    simp
    try omega
theorem own_any (W : World) (c : Int) : Calls Tryz.prog 207 #[.int .i64 c] W fun e w' => e = .returned (.bool (decide (c = 251 ∨ c = 252))) ∧ w' = W := by
  by_cases h1 : c = 251
  · go_enter Tryz.func207, Tryz.ntmps207
    go_wp2
    go_ret
    refine ⟨congrArg (fun b => Ending.returned (Value.bool b)) ?_, rfl⟩
    exact Bool.eq_iff_iff.2 (by simp [h1])
  · go_enter Tryz.func207, Tryz.ntmps207
    go_wp2
    go_ret
    refine ⟨congrArg (fun b => Ending.returned (Value.bool b)) ?_, rfl⟩
    exact Bool.eq_iff_iff.2 (by simp [h1])
theorem for_any (W : World) (c : Int) : Calls Tryz.prog 194 #[.int .i64 c] W fun e w' => e = .returned (.bool (decide (c = 251 ∨ c = 253))) ∧ w' = W := by
  by_cases h1 : c = 251
  · go_enter Tryz.func194, Tryz.ntmps194
    go_wp2
    go_ret
    refine ⟨congrArg (fun b => Ending.returned (Value.bool b)) ?_, rfl⟩
    exact Bool.eq_iff_iff.2 (by simp [h1])
  · go_enter Tryz.func194, Tryz.ntmps194
    go_wp2
    go_ret
    refine ⟨congrArg (fun b => Ending.returned (Value.bool b)) ?_, rfl⟩
    exact Bool.eq_iff_iff.2 (by simp [h1])
theorem sideOf_any (W : World) (v : Nat) (hv : 251 ≤ v ∧ v ≤ 254) : Calls Tryz.prog 192 #[.int .i64 (v : Int)] W fun e w' => e = .returned (.int .i64 (sideV v : Int)) ∧ w' = W := by
  obtain ⟨b, hb⟩ : ∃ b, b = decide ((v : Int) = 251 ∨ (v : Int) = 252) := ⟨_, rfl⟩
  have hs : (sideV v : Int) = if b then 1 else 0 := by
    unfold sideV
    by_cases h : v < 253
    · rw [if_pos h, hb, decide_eq_true (by omega)]; rfl
    · rw [if_neg h, hb, decide_eq_false (by omega)]; rfl
  have HO := own_any W (v : Int)
  rw [← hb] at HO
  rw [hs]
  clear hb hs
  cases b
  all_goals
    go_enter Tryz.func192, Tryz.ntmps192
    go_wp2_with (go_at_call 207; refine HO.mono ?_; rintro e w' ⟨rfl, rfl⟩)
    go_ret
    exact ⟨rfl, rfl⟩

/-- The verbs that are sent. -/
def verbsC : List Value := [.int .i64 0, .int .i64 251, .int .i64 252, .int .i64 0, .int .i64 253, .int .i64 254]
def VerbsAt (W : World) : Prop := W.rangeAt 16 0 verbsC
theorem VerbsAt.only {W W' : World} (h : VerbsAt W) (ho : Only (fun _ => False) W W') : VerbsAt W' := fun j v hj => ho.cellv (h j v hj) (fun h => h)
theorem VerbsAt.at_ {W : World} (h : VerbsAt W) {s k : Nat} (hs : s < 2) (hk : k ≤ 2) : W.cell? ⟨16, s * 3 + k, none⟩ = some (.int .i64 (toldV s k : Int)) := by
  have := h (s * 3 + k) (.int .i64 (toldV s k : Int)) (by
    rcases s with _ | _ | s
    · rcases k with _ | _ | _ | k
      · rfl
      · rfl
      · rfl
      · omega
    · rcases k with _ | _ | _ | k
      · rfl
      · rfl
      · rfl
      · omega
    · omega)
  rwa [Nat.zero_add] at this

theorem move_any {W : World} (hV : VerbsAt W) {p mo : Nat} {tp : TypeId} {pre post : List Value} {ag : Nat → Nat → Bool} {t : Tb} (h : TbAt W p mo tp pre post ag t) {s o : Nat} (hs : s < 2) (ho : o < 256) (q : Qs) (k : Nat) (hk : k ≤ 2) (b : Bool) (hn : t.sent ≤ 1000000) (hgp : 16 ≠ p) :
    Calls Tryz.prog 120 #[.pointer (some ⟨p, mo, none⟩), .int .i64 (s : Int), .int .i64 (o : Int), .agg #[.int .i64 (q.kind : Int), .bool q.opp, .int .i64 (k : Int), .bool b]] W fun e w' =>
      e = .returned (.int .i64 (toldV s k : Int)) ∧ TbAt w' p mo tp pre post ag { t with st := setQ t.st s o q, sent := t.sent + sentN k } ∧ Only (· = p) W w' := by
  obtain ⟨cs, hB, hC⟩ := h
  have HB := Lib.hid hB
  have HC := Lib.hid hC
  have HV := Lib.hid hV
  have hp := hB.lt
  obtain ⟨sk, hsk⟩ : ∃ sk, sk = (q.kind : Int) := ⟨_, rfl⟩
  obtain ⟨so, hso⟩ : ∃ so, so = q.opp := ⟨_, rfl⟩
  have HSK := Lib.hid hsk
  have HSO := Lib.hid hso
  have hs2 : (s : Int) < 2 := by omega
  have ho2 : (o : Int) < 256 := by omega
  rw [← hsk, ← hso]
  clear hV hB hC hsk hso
  go_enter Tryz.func120, Tryz.ntmps120
  go_wp2
  refine region_tail 9 (by kernel_rfl) (by kernel_rfl) ?_
  simp only [List.take_succ_cons, List.take_zero, List.drop_succ_cons, List.drop_zero]
  repeat still_step
  refine wpStill_nil ?_
  refine step_store2 rfl 65 _ _ rfl p (mo + s * 512 + o * 2) rfl (.int .i64 sk) (.bool so) rfl _ cs ((HB.out.alloc _).drew) (by rw [HC.out.len]; omega) size_state rfl rfl ?_
  intro w4 hB4 hz4 ho4
  have HC4 := Lib.hid (HSO.out ▸ HSK.out ▸ HC.out.setSt hs ho rfl q)
  have HO4 := Lib.hid ((((Only.refl (· = p) W).alloc (.cells #[.int .i64 sk, .bool so, .int .i64 (k : Int), .bool b] 245)).drew).trans ho4 (fun i hi => .inl hi))
  have hx4 : w4.cell? ⟨W.heap.size, 2, none⟩ = some (.int .i64 (k : Int)) := ((Blk.new W 245 [.int .i64 sk, .bool so, .int .i64 (k : Int), .bool b]).drew.only ho4 (by omega)).cell 2
  obtain ⟨z, hz⟩ : ∃ z, z = (toldV s k : Int) := ⟨_, rfl⟩
  have hv4 : w4.cell? ⟨16, s * 3 + k, none⟩ = some (.int .i64 z) := by
    rw [hz]
    exact HO4.out.cellv (HV.out.at_ hs hk) hgp
  have c38 : w4.cell? ⟨p, mo + 1538, none⟩ = some (.int .i64 (t.sent : Int)) := by
    rw [hB4.out.cell]
    exact HC4.out.sent
  have f38 := hB4.out.frozen (mo + 1538)
  have hk3 : (k : Int) < 3 := by omega
  obtain ⟨n, hnn⟩ : ∃ n, n = t.sent := ⟨_, rfl⟩
  rw [← hnn] at c38 hn
  have HN := Lib.hid hnn
  have HZ := Lib.hid hz
  clear ho4 hz4 hz hnn
  by_cases hk0 : k = 0
  · have hz0 : (z != 0) = false := by rw [HZ.out]; unfold toldV; rw [if_pos hk0]; rfl
    have HK0 := Lib.hid hk0
    clear hk0
    go_wp2
    go_quiet (fail)
    go_wp2
    go_ret
    refine ⟨by rw [HZ.out]; rfl, ⟨_, hB4.out.drewN _, ?_⟩, HO4.out.drewN _⟩
    have e : sentN k = 0 := by unfold sentN; rw [if_pos HK0.out]
    rw [e]
    exact HC4.out
  · have hz0 : (z != 0) = true := by rw [HZ.out]; unfold toldV; rw [if_neg hk0]; simp; omega
    have HK0 := Lib.hid hk0
    clear hk0
    go_wp2
    go_quiet (fail)
    go_wp2
    go_ret
    have e : sentN k = 1 := by unfold sentN; rw [if_neg HK0.out]
    refine ⟨by rw [HZ.out]; rfl, ⟨_, (hB4.out.drewN _).setCell (mo + 1538) _, ?_⟩, (HO4.out.drewN _).setCell (.inl rfl) _⟩
    rw [e, ← HN.out]
    have := HC4.out.setSent (n + 1)
    exact this
end Go.Proofs.YtbnfhklpobephaaGreatDoor
/- Package table: State, On, Counts. -/
namespace Go.Proofs.YtbnfhklpobephaaGreatDoor
open Go Go.RowKit
set_option maxRecDepth 100000
set_option maxHeartbeats 4000000

theorem Tb.get_st (t : Tb) {a b : Nat} (ha : a < 2) (hb : b < 256) : t.get (a : Int) (b : Int) = t.st a b := by
  unfold Tb.get
  rw [if_pos ⟨by omega, by omega, by omega⟩]
  simp
theorem Tb.get_no (t : Tb) {s o : Int} (h : ¬ ((s = 0 ∨ s = 1) ∧ 0 ≤ o ∧ o ≤ 255)) : t.get s o = .no := by
  unfold Tb.get
  rw [if_neg h]
/-- A state as a value. -/
@[reducible] def qsV (q : Qs) : Value := .agg #[.int .i64 (q.kind : Int), .bool q.opp]

theorem state_in {W : World} {p mo : Nat} {tp : TypeId} {pre post : List Value} {ag : Nat → Nat → Bool} {t : Tb} (h : TbAt W p mo tp pre post ag t) {s o : Nat} (hs : s < 2) (ho : o < 256) : Calls Tryz.prog 48 #[.pointer (some ⟨p, mo, none⟩), .int .i64 (s : Int), .int .i64 (o : Int)] W fun e w' =>
    e = .returned (qsV (t.st s o)) ∧ Only (fun _ => False) W w' := by
  obtain ⟨cs, hB, hC⟩ := h
  have HB := Lib.hid hB
  have HC := Lib.hid hC
  have hp := hB.lt
  have hs2 : (s : Int) < 2 := by omega
  have ho2 : (o : Int) < 256 := by omega
  have H1 : Hid (∀ W, Calls Tryz.prog 100 #[.int .i64 (s : Int)] W fun e w' => e = .returned (.bool true) ∧ w' = W) := fun W => by
    have := isSide_any W (s : Int)
    rwa [decide_eq_true (by omega)] at this
  have H2 : Hid (∀ W, Calls Tryz.prog 83 #[.int .i64 (o : Int)] W fun e w' => e = .returned (.bool true) ∧ w' = W) := fun W => by
    have := isOption_any W (o : Int)
    rwa [decide_eq_true (by omega)] at this
  clear hB hC
  go_enter Tryz.func48, Tryz.ntmps48
  go_wp2_with (first
    | (go_at_call 100; refine (H1.out _).mono ?_; rintro e w' ⟨rfl, rfl⟩)
    | (go_at_call 83; refine (H2.out _).mono ?_; rintro e w' ⟨rfl, rfl⟩)
    | ((with_reducible show wpList _ _ _ (⟨some 23, _, _, _, _, _⟩ :: _) _ _); refine wpList_load_mid rfl 65 _ rfl p (mo + s * 512 + o * 2) rfl (qsC (t.st s o)) _ (st_range (HB.out.alloc _) HC.out hs ho rfl) Tryz.underlying65 rfl size_state ?_)
    | ((with_reducible show wpList _ _ _ (⟨none, .store 65 _ _, _, _, _, _⟩ :: _) _ _); refine step_store rfl 65 _ _ rfl W.heap.size rfl (qsC (t.st s o)) rfl _ [.int .i64 0, .bool false] (Blk.new W _ _) size_state rfl (fun v hv => by simp [qsC] at hv; rcases hv with rfl | rfl <;> rfl) ?_; intro w4 hB4 hz4 ho4))
  refine ret_cell1 rfl W.heap.size rfl _ (qsC (t.st s o)) _ hB4.out Tryz.underlying65 rfl size_state rfl ?_
  exact ⟨rfl, ((Only.refl _ _).alloc _).trans ho4 (fun i hi => .inr (by omega))⟩
theorem state_no {W : World} {p mo : Nat} (_ : Tb) {s o : Int} (h : ¬ ((s = 0 ∨ s = 1) ∧ 0 ≤ o ∧ o ≤ 255)) : Calls Tryz.prog 48 #[.pointer (some ⟨p, mo, none⟩), .int .i64 s, .int .i64 o] W fun e w' =>
    e = .returned (qsV .no) ∧ Only (fun _ => False) W w' := by
  obtain ⟨b1, hb1⟩ : ∃ b, b = decide (s = 0 ∨ s = 1) := ⟨_, rfl⟩
  obtain ⟨b2, hb2⟩ : ∃ b, b = decide (0 ≤ o ∧ o ≤ 255) := ⟨_, rfl⟩
  have H1 := fun W => isSide_any W s
  have H2 := fun W => isOption_any W o
  rw [← hb1] at H1
  rw [← hb2] at H2
  have hh : ¬ (b1 = true ∧ b2 = true) := by
    rintro ⟨rfl, rfl⟩
    exact h ⟨of_decide_eq_true hb1.symm, of_decide_eq_true hb2.symm⟩
  have H1 := Lib.hid H1
  have H2 := Lib.hid H2
  clear hb1 hb2 h
  cases b1
  · clear hh
    go_enter Tryz.func48, Tryz.ntmps48
    go_wp2_with (first
      | (go_at_call 100; refine (H1.out _).mono ?_; rintro e w' ⟨rfl, rfl⟩)
      | ((with_reducible show wpList _ _ _ (⟨none, .store 65 _ _, _, _, _, _⟩ :: _) _ _); refine step_store rfl 65 _ _ rfl W.heap.size rfl (qsC .no) rfl _ [.int .i64 0, .bool false] (Blk.new W _ _) size_state rfl (fun v hv => by simp [qsC] at hv; rcases hv with rfl | rfl <;> rfl) ?_; intro w4 hB4 hz4 ho4))
    refine ret_cell1 rfl W.heap.size rfl _ (qsC .no) _ hB4.out Tryz.underlying65 rfl size_state rfl ?_
    exact ⟨rfl, ((Only.refl _ _).alloc _).trans ho4 (fun i hi => .inr (by omega))⟩
  · cases b2
    · clear hh
      go_enter Tryz.func48, Tryz.ntmps48
      go_wp2_with (first
        | (go_at_call 100; refine (H1.out _).mono ?_; rintro e w' ⟨rfl, rfl⟩)
        | (go_at_call 83; refine (H2.out _).mono ?_; rintro e w' ⟨rfl, rfl⟩)
        | ((with_reducible show wpList _ _ _ (⟨none, .store 65 _ _, _, _, _, _⟩ :: _) _ _); refine step_store rfl 65 _ _ rfl W.heap.size rfl (qsC .no) rfl _ [.int .i64 0, .bool false] (Blk.new W _ _) size_state rfl (fun v hv => by simp [qsC] at hv; rcases hv with rfl | rfl <;> rfl) ?_; intro w4 hB4 hz4 ho4))
      refine ret_cell1 rfl W.heap.size rfl _ (qsC .no) _ hB4.out Tryz.underlying65 rfl size_state rfl ?_
      exact ⟨rfl, ((Only.refl _ _).alloc _).trans ho4 (fun i hi => .inr (by omega))⟩
    · exact absurd ⟨rfl, rfl⟩ hh
theorem state_any {W : World} {p mo : Nat} {tp : TypeId} {pre post : List Value} {ag : Nat → Nat → Bool} {t : Tb} (h : TbAt W p mo tp pre post ag t) (s o : Int) : Calls Tryz.prog 48 #[.pointer (some ⟨p, mo, none⟩), .int .i64 s, .int .i64 o] W fun e w' =>
    e = .returned (qsV (t.get s o)) ∧ Only (fun _ => False) W w' := by
  by_cases hv : (s = 0 ∨ s = 1) ∧ 0 ≤ o ∧ o ≤ 255
  · obtain ⟨a, rfl⟩ : ∃ a : Nat, s = (a : Int) := ⟨s.toNat, by omega⟩
    obtain ⟨b, rfl⟩ : ∃ b : Nat, o = (b : Int) := ⟨o.toNat, by omega⟩
    rw [t.get_st (by omega) (by omega)]
    exact state_in h (by omega) (by omega)
  · rw [t.get_no hv]
    exact state_no t hv
theorem kind_one (q : Qs) : decide ((q.kind : Int) = 1) = decide (q = .yes) := by cases q <;> rfl
theorem ton_any {W : World} {p mo : Nat} {tp : TypeId} {pre post : List Value} {ag : Nat → Nat → Bool} {t : Tb} (h : TbAt W p mo tp pre post ag t) (s o : Int) : Calls Tryz.prog 49 #[.pointer (some ⟨p, mo, none⟩), .int .i64 s, .int .i64 o] W fun e w' =>
    e = .returned (.bool (decide (t.get s o = .yes))) ∧ Only (fun _ => False) W w' := by
  have H1 := Lib.hid (state_any h s o)
  have H2 : Hid (∀ w, Calls Tryz.prog 101 #[qsV (t.get s o)] w fun e w' => e = .returned (.bool (decide (t.get s o = .yes))) ∧ Only (fun _ => False) w w') := fun w => by
    have := on_any w ((t.get s o).kind : Int) (t.get s o).opp
    rwa [kind_one] at this
  obtain ⟨q, hq⟩ : ∃ q, q = t.get s o := ⟨_, rfl⟩
  rw [← hq] at H1 H2 ⊢
  obtain ⟨r, hr⟩ : ∃ r, r = decide (q = .yes) := ⟨_, rfl⟩
  rw [← hr] at H2 ⊢
  clear h hq hr
  go_enter Tryz.func49, Tryz.ntmps49
  go_wp2_with (first
    | (go_at_call 48; refine H1.out.mono ?_; rintro e w1 ⟨rfl, ho1⟩)
    | (go_at_call 101; refine (H2.out _).mono ?_; rintro e w2 ⟨rfl, ho2⟩))
  go_ret
  exact ⟨rfl, ho1.trans ho2 (fun _ h => h.elim)⟩
end Go.Proofs.YtbnfhklpobephaaGreatDoor
