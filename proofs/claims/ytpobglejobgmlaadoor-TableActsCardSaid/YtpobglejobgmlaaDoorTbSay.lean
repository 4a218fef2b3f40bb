/- Layer 11 as plain functions: a table; two tables joined by rows of verbs: each option's two sides are two sides joined (layer 10). -/
import Derived.Test.YtpobglejobgmlaaDoorQsSay
namespace Go.Proofs.YtpobglejobgmlaaDoor

/-- How many verbs two sides joined still hear till they rest. -/
def Jo.hears (ax ay : Bool) : Nat → Jo → Nat
  | 0, _ => 0
  | n + 1, t => match t.hearX ax with
    | some r => Jo.hears ax ay n r.1 + 1
    | none => match t.hearY ay with
      | some r => Jo.hears ax ay n r.1 + 1
      | none => 0
def Jo.okH (ax ay : Bool) (t : Jo) : Bool :=
  ((t.hearX ax).all fun r => decide (r.1.hears ax ay 6 + 1 = t.hears ax ay 6)) && ((t.hearY ay).all fun r => decide (r.1.hears ax ay 6 + 1 = t.hears ax ay 6)) &&
    ((t.askX true).all fun u => decide (u.hears ax ay 6 ≤ t.hears ax ay 6 + 2)) && ((t.askX false).all fun u => decide (u.hears ax ay 6 ≤ t.hears ax ay 6 + 2)) &&
    ((t.askY true).all fun u => decide (u.hears ax ay 6 ≤ t.hears ax ay 6 + 2)) && ((t.askY false).all fun u => decide (u.hears ax ay 6 ≤ t.hears ax ay 6 + 2))
theorem joints_okH (ax ay : Bool) : (joints ax ay).all (Jo.okH ax ay) = true := by
  cases ax <;> cases ay <;> decide +kernel
section
variable {ax ay : Bool} {t u : Jo}
theorem Can.okH (h : Can ax ay t) : Jo.okH ax ay t = true := List.all_eq_true.1 (joints_okH ax ay) t (List.contains_iff_mem.1 h)
theorem Can.hearsX {b : Bool} (h : Can ax ay t) (hu : t.hearX ax = some (u, b)) : u.hears ax ay 6 + 1 = t.hears ax ay 6 := by
  have := h.okH
  simp only [Jo.okH, Bool.and_eq_true] at this
  simpa [hu] using this.1.1.1.1.1
theorem Can.hearsY {b : Bool} (h : Can ax ay t) (hu : t.hearY ay = some (u, b)) : u.hears ax ay 6 + 1 = t.hears ax ay 6 := by
  have := h.okH
  simp only [Jo.okH, Bool.and_eq_true] at this
  simpa [hu] using this.1.1.1.1.2
theorem Can.asksX {on : Bool} (h : Can ax ay t) (hu : t.askX on = some u) : u.hears ax ay 6 ≤ t.hears ax ay 6 + 2 := by
  have := h.okH
  simp only [Jo.okH, Bool.and_eq_true] at this
  cases on
  · simpa [hu] using this.1.1.2
  · simpa [hu] using this.1.1.1.2
theorem Can.asksY {on : Bool} (h : Can ax ay t) (hu : t.askY on = some u) : u.hears ax ay 6 ≤ t.hears ax ay 6 + 2 := by
  have := h.okH
  simp only [Jo.okH, Bool.and_eq_true] at this
  cases on
  · simpa [hu] using this.2
  · simpa [hu] using this.1.2
end

/-- A table: of each side (0, 1) and option the state; what was heard, asked for, sent. -/
structure Tb where
  st : Nat → Nat → Qs
  heard : Nat
  asked : Nat
  sent : Nat
def Tb.zero : Tb := ⟨fun _ _ => .no, 0, 0, 0⟩
/-- A state of a side and an option that may not be there. -/
def Tb.get (t : Tb) (s o : Int) : Qs := if (s = 0 ∨ s = 1) ∧ 0 ≤ o ∧ o ≤ 255 then t.st s.toNat o.toNat else .no
def setQ (f : Nat → Nat → Qs) (s o : Nat) (q : Qs) : Nat → Nat → Qs := fun a b => if a = s ∧ b = o then q else f a b
/-- The verb that is sent of a side. -/
def toldV (s k : Nat) : Nat := if k = 0 then 0 else 250 + 2 * s + k
/-- Of which side a verb speaks that is heard. -/
def sideV (v : Nat) : Nat := if v < 253 then 1 else 0
/-- Whether a verb is for. -/
def forV (v : Nat) : Bool := decide (v % 2 = 1)
def sentN (k : Nat) : Nat := if k = 0 then 0 else 1
/-- A verb (251 to 254) of an option (0 to 255) is heard. -/
def Tb.hear (ag : Nat → Nat → Bool) (t : Tb) (v o : Nat) : Tb × Qs × Nat × Bool :=
  let m := hearQ (t.st (sideV v) o) (forV v) (ag (sideV v) o)
  (⟨setQ t.st (sideV v) o m.1, t.heard + 1, t.asked, t.sent + sentN m.2.1⟩, m)
/-- A side's option is asked for. -/
def Tb.ask (t : Tb) (s o : Nat) (on : Bool) : Option (Tb × Qs × Nat) :=
  (askQ (t.st s o) on).map fun m => (⟨setQ t.st s o m.1, t.heard, t.asked + 1, t.sent + sentN m.2⟩, m)

/-! Two tables joined. -/
/-- Of a row of verbs and options those that speak of a side of an option: whether each is for. -/
def partV (l : List (Nat × Nat)) (s o : Nat) : List Bool := (l.filter fun e => decide (sideV e.1 = s ∧ e.2 = o)).map fun e => forV e.1
theorem partV_append (l m : List (Nat × Nat)) (s o : Nat) : partV (l ++ m) s o = partV l s o ++ partV m s o := by simp [partV]
theorem partV_nil (s o : Nat) : partV [] s o = [] := rfl
theorem partV_cons (e : Nat × Nat) (l : List (Nat × Nat)) (s o : Nat) : partV (e :: l) s o = (if sideV e.1 = s ∧ e.2 = o then [forV e.1] else []) ++ partV l s o := by
  unfold partV
  by_cases h : sideV e.1 = s ∧ e.2 = o <;> simp [h]
/-- What a table sends: no verb, or one. -/
def sendV (s k o : Nat) : List (Nat × Nat) := if k = 0 then [] else [(toldV s k, o)]
theorem sideV_told {s k : Nat} (hs : s < 2) (hk : k = 1 ∨ k = 2) : sideV (toldV s k) = 1 - s := by
  unfold sideV toldV
  rcases hk with rfl | rfl <;> (rcases s with _ | _ | s <;> simp <;> omega)
theorem forV_told {s k : Nat} (hk : k = 1 ∨ k = 2) : forV (toldV s k) = decide (k = 1) := by
  unfold forV toldV
  rcases hk with rfl | rfl <;> simp <;> omega
theorem partV_send {s k o : Nat} (hs : s < 2) (hk : k ≤ 2) (s' o' : Nat) : partV (sendV s k o) s' o' = if s' = 1 - s ∧ o' = o then sentQ k else [] := by
  unfold sendV
  by_cases h0 : k = 0
  · subst h0
    simp [partV, sentQ]
  · have hk' : k = 1 ∨ k = 2 := by omega
    rw [if_neg h0, partV_cons, partV_nil, List.append_nil]
    simp only [sideV_told hs hk', forV_told hk']
    have : sentQ k = [decide (k = 1)] := by rcases hk' with rfl | rfl <;> rfl
    rw [this]
    by_cases h : 1 - s = s' ∧ o = o'
    · rw [if_pos h, if_pos ⟨h.1.symm, h.2.symm⟩]
    · rw [if_neg h, if_neg (fun h' => h ⟨h'.1.symm, h'.2.symm⟩)]

/-- Two tables, and of each what it sent that the other one hasn't heard. -/
structure Tj where
  a : Nat → Nat → Qs
  p : List (Nat × Nat)
  b : Nat → Nat → Qs
  q : List (Nat × Nat)
/-- One side of one option on the one (d), and what answers to it on the other one. -/
def Tj.jo (t : Tj) (d o : Nat) : Jo := ⟨t.a d o, partV t.p (1 - d) o, t.b (1 - d) o, partV t.q d o⟩
structure Tj.Ok (ga gb : Nat → Nat → Bool) (t : Tj) : Prop where
  can : ∀ d o, d < 2 → o < 256 → Can (ga d o) (gb (1 - d) o) (t.jo d o)
  vp : ∀ e ∈ t.p, (251 ≤ e.1 ∧ e.1 ≤ 254) ∧ e.2 < 256
  vq : ∀ e ∈ t.q, (251 ≤ e.1 ∧ e.1 ≤ 254) ∧ e.2 < 256

theorem hearQ_sends (s : Qs) (b a : Bool) : (hearQ s b a).2.1 ≤ 2 := by cases s <;> cases b <;> cases a <;> decide
theorem askQ_sends {s : Qs} {on : Bool} {r : Qs × Nat} (h : askQ s on = some r) : r.2 ≤ 2 := by
  cases s <;> cases on <;> simp only [askQ, Option.some.injEq, reduceCtorEq] at h
  all_goals (subst h; decide)
theorem sideV_lt (v : Nat) : sideV v < 2 := by unfold sideV; split <;> omega
theorem told_valid {s k : Nat} (hs : s < 2) (hk : k = 1 ∨ k = 2) : 251 ≤ toldV s k ∧ toldV s k ≤ 254 := by
  unfold toldV
  rcases hk with rfl | rfl <;> simp <;> omega
theorem sendV_valid {s k o : Nat} (hs : s < 2) (hk : k ≤ 2) (ho : o < 256) : ∀ e ∈ sendV s k o, (251 ≤ e.1 ∧ e.1 ≤ 254) ∧ e.2 < 256 := by
  intro e he
  unfold sendV at he
  split at he
  · cases he
  · simp only [List.mem_cons, List.not_mem_nil, or_false] at he
    subst he
    exact ⟨told_valid hs (by omega), ho⟩
theorem sum_change {f g : Nat → Nat} {j : Nat} : ∀ (n : Nat), j < n → (∀ i, i < n → i ≠ j → f i = g i) → ((List.range n).map f).sum + g j = ((List.range n).map g).sum + f j
  | 0, h, _ => absurd h (by omega)
  | n + 1, h, hf => by
    simp only [List.range_succ, List.map_append, List.sum_append, List.map_cons, List.map_nil, List.sum_cons, List.sum_nil]
    by_cases e : j = n
    · subst e
      have : (List.range j).map f = (List.range j).map g := List.map_congr_left fun i hi => hf i (by have := List.mem_range.1 hi; omega) (by have := List.mem_range.1 hi; omega)
      rw [this]
      omega
    · have := sum_change n (by omega) (fun i hi hij => hf i (by omega) hij)
      have h1 := hf n (by omega) (fun h => e h.symm)
      omega
/-- How many verbs are still heard till all rests. -/
def Tj.pot (ga gb : Nat → Nat → Bool) (t : Tj) : Nat := ((List.range 512).map fun i => (t.jo (i / 256) (i % 256)).hears (ga (i / 256) (i % 256)) (gb (1 - i / 256) (i % 256)) 6).sum
section
variable {ga gb : Nat → Nat → Bool} {t u : Tj}
/-- But one pair of sides has turned. -/
def Tj.But (t u : Tj) (d o : Nat) : Prop := ∀ d' o', d' < 2 → ¬ (d' = d ∧ o' = o) → u.jo d' o' = t.jo d' o'
theorem Tj.But.pot {d o : Nat} (h : t.But u d o) (hd : d < 2) (ho : o < 256) : u.pot ga gb + (t.jo d o).hears (ga d o) (gb (1 - d) o) 6 = t.pot ga gb + (u.jo d o).hears (ga d o) (gb (1 - d) o) 6 := by
  have := sum_change (f := fun i => (u.jo (i / 256) (i % 256)).hears (ga (i / 256) (i % 256)) (gb (1 - i / 256) (i % 256)) 6) (g := fun i => (t.jo (i / 256) (i % 256)).hears (ga (i / 256) (i % 256)) (gb (1 - i / 256) (i % 256)) 6) (j := d * 256 + o) 512 (by omega) (fun i hi hij => by
    show (u.jo _ _).hears _ _ 6 = (t.jo _ _).hears _ _ 6
    rw [h (i / 256) (i % 256) (by omega) (by omega)])
  simp only [show (d * 256 + o) / 256 = d by omega, show (d * 256 + o) % 256 = o by omega] at this
  exact this
theorem Tj.But.can {d o : Nat} (h : t.But u d o) (ht : t.Ok ga gb) (hc : Can (ga d o) (gb (1 - d) o) (u.jo d o)) : ∀ d' o', d' < 2 → o' < 256 → Can (ga d' o') (gb (1 - d') o') (u.jo d' o') := fun d' o' hd ho => by
  by_cases e : d' = d ∧ o' = o
  · rw [e.1, e.2]; exact hc
  · rw [h d' o' hd e]; exact ht.can d' o' hd ho

/-- The one asks. -/
def Tj.asksA (t : Tj) (d o : Nat) (m : Qs × Nat) : Tj := { t with a := setQ t.a d o m.1, p := t.p ++ sendV d m.2 o }
def Tj.asksB (t : Tj) (d o : Nat) (m : Qs × Nat) : Tj := { t with b := setQ t.b d o m.1, q := t.q ++ sendV d m.2 o }
theorem Tj.Ok.asksA (ht : t.Ok ga gb) {d o : Nat} (hd : d < 2) (ho : o < 256) {on : Bool} {m : Qs × Nat} (hm : askQ (t.a d o) on = some m) : (t.asksA d o m).Ok ga gb ∧ (t.asksA d o m).pot ga gb ≤ t.pot ga gb + 2 := by
  have hk := askQ_sends hm
  have hb : t.But (t.asksA d o m) d o := fun d' o' hd' e => by
    simp only [Tj.jo, Tj.asksA, partV_append, partV_send hd hk, setQ]
    rw [if_neg e, if_neg (fun e' => e ⟨by omega, e'.2⟩), List.append_nil]
  have hj : (t.jo d o).askX on = some ((t.asksA d o m).jo d o) := by
    simp only [Jo.askX, Tj.jo, Tj.asksA, partV_append, partV_send hd hk, setQ, hm]
    simp
  have hc := ht.can d o hd ho
  refine ⟨⟨hb.can ht (hc.askX hj), fun e he => ?_, ht.vq⟩, ?_⟩
  · rcases List.mem_append.1 he with he | he
    · exact ht.vp e he
    · exact sendV_valid hd hk ho e he
  · have h1 := hb.pot (ga := ga) (gb := gb) hd ho
    have h2 := hc.asksX hj
    omega
theorem Tj.Ok.asksB (ht : t.Ok ga gb) {d o : Nat} (hd : d < 2) (ho : o < 256) {on : Bool} {m : Qs × Nat} (hm : askQ (t.b d o) on = some m) : (t.asksB d o m).Ok ga gb ∧ (t.asksB d o m).pot ga gb ≤ t.pot ga gb + 2 := by
  have hk := askQ_sends hm
  have e1 : 1 - (1 - d) = d := by omega
  have hb : t.But (t.asksB d o m) (1 - d) o := fun d' o' hd' e => by
    simp only [Tj.jo, Tj.asksB, partV_append, partV_send hd hk, setQ]
    rw [if_neg (fun e' => e ⟨by omega, e'.2⟩), if_neg (fun e' => e ⟨by omega, e'.2⟩), List.append_nil]
  have hj : (t.jo (1 - d) o).askY on = some ((t.asksB d o m).jo (1 - d) o) := by
    simp only [Jo.askY, Tj.jo, Tj.asksB, partV_append, partV_send hd hk, setQ, e1, hm]
    simp
  have hc := ht.can (1 - d) o (by omega) ho
  refine ⟨⟨hb.can ht (hc.askY hj), ht.vp, fun e he => ?_⟩, ?_⟩
  · rcases List.mem_append.1 he with he | he
    · exact ht.vq e he
    · exact sendV_valid hd hk ho e he
  · have h1 := hb.pot (ga := ga) (gb := gb) (by omega) ho
    have h2 := hc.asksY hj
    omega
/-- The one hears what the other one sent first. -/
def Tj.hearsA (ga : Nat → Nat → Bool) (t : Tj) (v o : Nat) (q : List (Nat × Nat)) : Tj :=
  { t with a := setQ t.a (sideV v) o (hearQ (t.a (sideV v) o) (forV v) (ga (sideV v) o)).1, p := t.p ++ sendV (sideV v) (hearQ (t.a (sideV v) o) (forV v) (ga (sideV v) o)).2.1 o, q := q }
def Tj.hearsB (gb : Nat → Nat → Bool) (t : Tj) (v o : Nat) (p : List (Nat × Nat)) : Tj :=
  { t with b := setQ t.b (sideV v) o (hearQ (t.b (sideV v) o) (forV v) (gb (sideV v) o)).1, q := t.q ++ sendV (sideV v) (hearQ (t.b (sideV v) o) (forV v) (gb (sideV v) o)).2.1 o, p := p }
theorem Tj.Ok.hearsA (ht : t.Ok ga gb) {v o : Nat} {q : List (Nat × Nat)} (hq : t.q = (v, o) :: q) :
    (t.hearsA ga v o q).Ok ga gb ∧ (t.hearsA ga v o q).pot ga gb + 1 = t.pot ga gb ∧ (hearQ (t.a (sideV v) o) (forV v) (ga (sideV v) o)).2.2 = false := by
  obtain ⟨_, ho⟩ := ht.vq (v, o) (by rw [hq]; exact List.mem_cons_self ..)
  have hd := sideV_lt v
  have hk := hearQ_sends (t.a (sideV v) o) (forV v) (ga (sideV v) o)
  have hb : t.But (t.hearsA ga v o q) (sideV v) o := fun d' o' hd' e => by
    simp only [Tj.jo, Tj.hearsA, partV_append, partV_send hd hk, setQ, hq, partV_cons]
    rw [if_neg e, if_neg (fun e' => e ⟨by omega, e'.2⟩), List.append_nil, if_neg (fun e' => e ⟨e'.1.symm, e'.2.symm⟩), List.nil_append]
  have hj : (t.jo (sideV v) o).hearX (ga (sideV v) o) = some ((t.hearsA ga v o q).jo (sideV v) o, (hearQ (t.a (sideV v) o) (forV v) (ga (sideV v) o)).2.2) := by
    simp only [Jo.hearX, Tj.jo, Tj.hearsA, partV_append, partV_send hd hk, setQ, hq, partV_cons]
    simp
  have hc := ht.can (sideV v) o hd ho
  refine ⟨⟨hb.can ht (hc.hearX hj).1, fun e he => ?_, fun e he => ht.vq e (by rw [hq]; exact List.mem_cons_of_mem _ he)⟩, ?_, (hc.hearX hj).2⟩
  · rcases List.mem_append.1 he with he | he
    · exact ht.vp e he
    · exact sendV_valid hd hk ho e he
  · have h1 := hb.pot (ga := ga) (gb := gb) hd ho
    have h2 := hc.hearsX hj
    omega
theorem Tj.Ok.hearsB (ht : t.Ok ga gb) {v o : Nat} {p : List (Nat × Nat)} (hp : t.p = (v, o) :: p) :
    (t.hearsB gb v o p).Ok ga gb ∧ (t.hearsB gb v o p).pot ga gb + 1 = t.pot ga gb ∧ (hearQ (t.b (sideV v) o) (forV v) (gb (sideV v) o)).2.2 = false := by
  obtain ⟨_, ho⟩ := ht.vp (v, o) (by rw [hp]; exact List.mem_cons_self ..)
  have hd := sideV_lt v
  have e1 : 1 - (1 - sideV v) = sideV v := by omega
  have hk := hearQ_sends (t.b (sideV v) o) (forV v) (gb (sideV v) o)
  have hb : t.But (t.hearsB gb v o p) (1 - sideV v) o := fun d' o' hd' e => by
    simp only [Tj.jo, Tj.hearsB, partV_append, partV_send hd hk, setQ, hp, partV_cons]
    rw [if_neg (fun e' => e ⟨by omega, e'.2⟩), if_neg (fun e' => e ⟨by omega, e'.2⟩), List.append_nil, if_neg (fun e' => e ⟨by omega, e'.2.symm⟩), List.nil_append]
  have hj : (t.jo (1 - sideV v) o).hearY (gb (sideV v) o) = some ((t.hearsB gb v o p).jo (1 - sideV v) o, (hearQ (t.b (sideV v) o) (forV v) (gb (sideV v) o)).2.2) := by
    simp only [Jo.hearY, Tj.jo, Tj.hearsB, partV_append, partV_send hd hk, setQ, hp, partV_cons, e1]
    simp
  have hc := ht.can (1 - sideV v) o (by omega) ho
  rw [e1] at hc
  have hh := hc.hearY hj
  refine ⟨⟨hb.can ht (by rw [e1]; exact hh.1), fun e he => ht.vp e (by rw [hp]; exact List.mem_cons_of_mem _ he), fun e he => ?_⟩, ?_, hh.2⟩
  · rcases List.mem_append.1 he with he | he
    · exact ht.vq e he
    · exact sendV_valid hd hk ho e he
  · have h1 := hb.pot (ga := ga) (gb := gb) (by omega) ho
    have h2 := hc.hearsY hj
    rw [e1] at h1
    omega
/-- At first. -/
def Tj.zero : Tj := ⟨fun _ _ => .no, [], fun _ _ => .no, []⟩
theorem Tj.zero_ok : Tj.zero.Ok ga gb := ⟨fun _ _ _ _ => can_zero _ _, fun _ h => (by cases h), fun _ h => (by cases h)⟩
theorem Tj.zero_pot : Tj.zero.pot ga gb = 0 := by
  have : ∀ (ax ay : Bool), Jo.hears ax ay 6 .zero = 0 := by decide
  unfold Tj.pot
  rw [show (fun i => (Tj.zero.jo (i / 256) (i % 256)).hears (ga (i / 256) (i % 256)) (gb (1 - i / 256) (i % 256)) 6) = fun _ => 0 from funext fun i => this _ _]
  generalize 512 = n
  induction n with
  | zero => rfl
  | succ n ih => rw [List.range_succ, List.map_append, List.sum_append, ih]; rfl
/-- At rest. -/
theorem Tj.Ok.rest (ht : t.Ok ga gb) (hp : t.p = []) (hq : t.q = []) {d o : Nat} (hd : d < 2) (ho : o < 256) : calmQ (t.a d o) = true ∧ t.a d o = t.b (1 - d) o :=
  (ht.can d o hd ho).rest (by simp only [Tj.jo, hp, partV_nil]) (by simp only [Tj.jo, hq, partV_nil])
end
end Go.Proofs.YtpobglejobgmlaaDoor
