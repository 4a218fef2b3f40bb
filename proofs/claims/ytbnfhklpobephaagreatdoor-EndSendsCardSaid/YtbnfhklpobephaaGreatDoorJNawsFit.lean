/- Several texts in one. -/
import Derived.Test.YtbnfhklpobephaaGreatDoorJRefuse
import Derived.Test.YtbnfhklpobephaaGreatDoorJSnIn
import Derived.LaidLaws
import Derived.Lib.LaidTab
import Derived.Deep.MidRow
import Derived.Test.YtbnfhklpobephaaGreatDoorJBase
import Derived.Laws.StructEq
/- Package naws: Parse of four bytes, and Fit. -/
namespace Go.Proofs.YtbnfhklpobephaaGreatDoor
open Go Go.RowKit
set_option maxRecDepth 100000
set_option maxHeartbeats 4000000

theorem nparse_ok {w : World} {A : Option Addr} {a b c d : UInt8} (h : Src w A 4 [a, b, c, d]) (cap : Nat) :
    Calls Tryz.prog 218 #[.slice A 4 cap] w fun e w' => e = .returned (.tuple #[szVal (two a b) (two c d), .nilIface]) ∧ Only (fun _ => False) w w' := by
  obtain ⟨_, hx⟩ := h
  obtain ⟨ad, rfl, hs⟩ := hx (by omega)
  have c0 := hs 0 a rfl
  have c1 := hs 1 b rfl
  have c2 := hs 2 c rfl
  have c3 := hs 3 d rfl
  have add_k : ∀ k, 0 < k → ad.add k = ⟨ad.block, ad.off + k, none⟩ := fun k hk => by simp [Addr.add]; omega
  rw [show ad.add 0 = ad from by simp [Addr.add]] at c0
  rw [add_k 1 (by omega)] at c1
  rw [add_k 2 (by omega)] at c2
  rw [add_k 3 (by omega)] at c3
  have hlt := World.block_lt_of_cell? w _ c0
  have HN1 := Lib.hid (fun W => number_any W a b)
  have HN2 := Lib.hid (fun W => number_any W c d)
  have hne : ad.block ≠ w.heap.size := by omega
  clear hs hx add_k
  unfold szVal
  unfold B8 at *
  generalize two a b = x at *
  generalize two c d = y at *
  have b1 : (1 : Int) < (4 : Int) := by omega
  go_enter Tryz.func218, Tryz.ntmps218
  go_wp2_with fail
  go_region_held3 (fun W => W.cell? ad = some (.int .u8 (a.toNat : Int)) ∧ W.cell? ⟨ad.block, ad.off + 1, none⟩ = some (.int .u8 (b.toNat : Int)) ∧ W.cell? ⟨ad.block, ad.off + 2, none⟩ = some (.int .u8 (c.toNat : Int)) ∧ W.cell? ⟨ad.block, ad.off + 3, none⟩ = some (.int .u8 (d.toNat : Int)))
    (go_keep)
    (first
      | (go_at_call 229; (with_reducible refine (HN1.out _).mono ?_); rintro e w' ⟨rfl, e2⟩; subst w')
      | (go_at_call 229; (with_reducible refine (HN2.out _).mono ?_); rintro e w' ⟨rfl, e2⟩; subst w'))
  all_goals
    go_wp2
    refine ret_cell2 rfl w.heap.size rfl 26 [.int .i64 x, .int .i64 y] _ (Blk.new' _ _ _ rfl).drew Tryz.underlying26 rfl size_sz rfl ?_
    exact ⟨rfl, ((Only.refl _ _).alloc _).drew⟩

end Go.Proofs.YtbnfhklpobephaaGreatDoor
/- Tables at package level: what a row's list of them gives a walk: a table of texts, a table of numbers, an error of the library's; and that all stay where nothing old turns. -/
namespace Go.Proofs.YtbnfhklpobephaaGreatDoor
open Go Go.RowKit

/-- Block g holds these texts, one a cell. -/
def TextsAt (W : World) (g : Nat) (ws : List (List UInt8)) : Prop := ∀ (i : Nat) (s : List UInt8), ws[i]? = some s → W.cell? ⟨g, i, none⟩ = some (.string ⟨s.toArray⟩)
theorem TextsAt.only {W W' : World} {g : Nat} {ws : List (List UInt8)} (h : TextsAt W g ws) (ho : Only (fun _ => False) W W') : TextsAt W' g ws := fun i s hs => ho.cellv (h i s hs) (fun h => h)

/-- A variable that is listed, wherever it stands. -/
theorem listed {P : Program} {W : World} : ∀ {l : List (String × DataW Unit)} {ps : List MemPlace}, DataW.LaidVars P W l ps → ∀ {n : String} {d : DataW Unit}, (n, d) ∈ l →
    ∃ g t cs fuel p, P.globalNamed n = some g ∧ (P.globals[g]?).map (·.type) = some t ∧ W.var? P n = some cs ∧ DataW.trod (fun _ => ()) P W 0 (fun _ => true) false fuel t cs.toList = some (d, p)
  | [], _, _, _, _, hm => by cases hm
  | (_, _) :: r, _, h, n, d, hm => by
    obtain ⟨g, t, cs, fuel, p, q, h1, h2, h3, h4, h5, _⟩ := h
    rcases List.mem_cons.1 hm with e | hm
    · cases e
      exact ⟨g, t, cs, fuel, p, h1, h2, h3, h4⟩
    · exact listed h5 hm

/-- The datum of a table of texts. -/
def texts {H : Type} (ws : List (List UInt8)) : DataW H := .agg (ws.map fun s => .lit (.string s))

/-- A variable that holds an interface's value that is not nil. -/
def ErrAt (P : Program) (W : World) (n : String) : Prop := ∃ u v, W.var? P n = some #[.iface u v]
theorem err_of {P : Program} {W : World} {l : List (String × DataW Unit)} (h : laidMet P l W) {n nm : String} {d : DataW Unit} (hm : (n, .iface nm d) ∈ l) {g : Nat} {t : TypeId} {ms : Array (String × TypeId)}
    (hg : P.globalNamed n = some g) (hty : (P.globals[g]?).map (·.type) = some t) (ht : P.underlying t = some (.interface ms)) : ErrAt P W n := by
  obtain ⟨ps, hv, _, _⟩ := h
  obtain ⟨g', t', cs, fuel, p, hg', hty', hvar, hd⟩ := listed hv hm
  obtain rfl := Option.some.inj (hg.symm.trans hg')
  obtain rfl := Option.some.inj (hty.symm.trans hty')
  obtain ⟨_, u, v, e, _, _⟩ := iface_of_trod ht hd
  obtain ⟨cs⟩ := cs
  simp only at e
  subst e
  exact ⟨u, v, hvar⟩

theorem var_only {P : Program} {W W' : World} {n : String} {cs : Array Value} (h : W.var? P n = some cs) (ho : Only (fun _ => False) W W') : W'.var? P n = some cs := by
  unfold World.var? at h ⊢
  cases hg : P.globalNamed n with
  | none => simp [hg] at h
  | some g =>
    simp only [hg, Option.bind_some] at h ⊢
    have hlt : g < W.heap.size := by
      rcases Nat.lt_or_ge g W.heap.size with h' | h'
      · exact h'
      · simp [Array.getElem?_eq_none h'] at h
    rw [ho.block g hlt (fun h => h)]
    exact h
theorem ErrAt.only {P : Program} {W W' : World} {n : String} (h : ErrAt P W n) (ho : Only (fun _ => False) W W') : ErrAt P W' n := by
  obtain ⟨u, v, h⟩ := h
  exact ⟨u, v, var_only h ho⟩
end Go.Proofs.YtbnfhklpobephaaGreatDoor
/- A variable at package level that holds numbers, texts, bools, and structs and arrays of these: its cells, as its row's datum has them. -/
namespace Go.Proofs.YtbnfhklpobephaaGreatDoor
open Go Go.RowKit

mutual
/-- The cells of such a datum. -/
def flatD : DataW Unit → List Value
  | .lit (.int k n) => [.int k n]
  | .lit (.bool b) => [.bool b]
  | .lit (.string s) => [.string ⟨s.toArray⟩]
  | .agg ds => flatDs ds
  | _ => []
def flatDs : List (DataW Unit) → List Value
  | [] => []
  | d :: r => flatD d ++ flatDs r
end
/-- Fields that stand one behind the other. -/
def tightFs (P : Program) (ok : TypeId → Bool) : List Field → Nat → Nat → Bool
  | [], off, tot => off == tot
  | f :: r, off, tot => f.offset == off && ok f.type && tightFs P ok r (off + P.cellsOf f.type) tot
/-- A type of such data. -/
def tightB (P : Program) : Nat → TypeId → Bool
  | 0, _ => false
  | n + 1, t => match P.underlying t with
    | some .bool | some (.int _) | some .string => true
    | some (.struct fs) => tightFs P (tightB P n) fs.toList 0 (P.cellsOf t)
    | some (.array k e) => tightB P n e && P.cellsOf t == k * P.cellsOf e
    | _ => false

section
variable {P : Program} {W : World} {spare : Nat → Bool} {held : Bool}
theorem flat_fields {ok : TypeId → Bool} {m : Nat} {cs : List Value} (hok : ∀ t, ok t = true → ∀ (cs : List Value) (x : DataW Unit × List MemPlace), DataW.trod (fun _ => ()) P W 0 spare held m t cs = some x → cs = flatD x.1) :
    ∀ (fs : List Field) (off : Nat) (xs : List (DataW Unit × List MemPlace)), tightFs P ok fs off cs.length = true → xs.length = fs.length →
      (∀ (i : Nat) (f : Field), fs[i]? = some f → DataW.trod (fun _ => ()) P W 0 spare held m f.type ((cs.drop f.offset).take (P.cellsOf f.type)) = xs[i]?) → cs.drop off = flatDs (xs.map (·.1))
  | [], off, xs, h, hl, _ => by
    obtain rfl : xs = [] := List.eq_nil_of_length_eq_zero (by simpa using hl)
    have h : off = cs.length := by simpa [tightFs] using h
    simp [h, flatDs]
  | f :: r, off, [], _, hl, _ => by simp at hl
  | f :: r, off, x :: xs, h, hl, hx => by
    simp only [tightFs, Bool.and_eq_true, beq_iff_eq] at h
    obtain ⟨⟨h1, h2⟩, h3⟩ := h
    have h4 := hok _ h2 _ _ ((hx 0 f rfl).trans rfl)
    have h5 := flat_fields hok r _ xs h3 (by simpa using hl) (fun i g hg => hx (i + 1) g (by simpa using hg))
    rw [List.map_cons, flatDs, ← h5, ← h4, h1, ← List.drop_drop, List.take_append_drop]

theorem flat_array {m k c : Nat} {e : TypeId} {cs : List Value} (hok : ∀ (cs : List Value) (x : DataW Unit × List MemPlace), DataW.trod (fun _ => ()) P W 0 spare held m e cs = some x → cs = flatD x.1) :
    ∀ (j i : Nat) (xs : List (DataW Unit × List MemPlace)), i + j = k → cs.length = k * c → xs.length = j →
      (∀ q, q < j → DataW.trod (fun _ => ()) P W 0 spare held m e ((cs.drop ((i + q) * c)).take c) = xs[q]?) → cs.drop (i * c) = flatDs (xs.map (·.1))
  | 0, i, xs, hi, hc, hl, _ => by
    obtain rfl : xs = [] := List.eq_nil_of_length_eq_zero hl
    obtain rfl : i = k := by omega
    simp [← hc, flatDs]
  | j + 1, i, [], _, _, hl, _ => by simp at hl
  | j + 1, i, x :: xs, hi, hc, hl, hx => by
    have h4 := hok _ _ ((hx 0 (by omega)).trans rfl)
    have h5 := flat_array hok j (i + 1) xs (by omega) hc (by simpa using hl) (fun q hq => by
      have := hx (q + 1) (by omega)
      rw [show i + (q + 1) = i + 1 + q by omega] at this
      simpa using this)
    rw [Nat.add_zero] at h4
    rw [List.map_cons, flatDs, ← h5, ← h4, Nat.add_mul, Nat.one_mul, ← List.drop_drop, List.take_append_drop]

theorem flat_of_trod : ∀ (n : Nat) (t : TypeId), tightB P n t = true → ∀ (fuel : Nat) (cs : List Value) (x : DataW Unit × List MemPlace), DataW.trod (fun _ => ()) P W 0 spare held fuel t cs = some x → cs = flatD x.1
  | 0, t, h, _, _, _, _ => by simp [tightB] at h
  | n + 1, t, h, fuel, cs, x, hx => by
    unfold tightB at h
    split at h
    · next hu =>
      obtain ⟨b, rfl, rfl⟩ := DataW.trod_bool hu hx
      simp [flatD]
    · next hu =>
      obtain ⟨z, rfl, rfl, _⟩ := DataW.trod_int hu hx
      simp [flatD]
    · next hu =>
      obtain ⟨s, rfl, rfl, _⟩ := DataW.trod_string hu hx
      simp [flatD]
    · next fs hu =>
      obtain ⟨xs, m, rfl, rfl, hl, hxl, hf⟩ := DataW.trod_struct hu hx
      have := flat_fields (W := W) (spare := spare) (held := held) (m := m) (cs := cs) (ok := tightB P n) (fun t ht cs x => flat_of_trod n t ht m cs x) fs.toList 0 xs (by rw [hl]; exact h) (by simpa using hxl) (fun i f hi => hf i f (by simpa using hi))
      simpa [flatD] using this
    · next k e hu =>
      simp only [Bool.and_eq_true, beq_iff_eq] at h
      obtain ⟨xs, m, rfl, rfl, hl, hxl, hf⟩ := DataW.trod_array hu hx
      have := flat_array (W := W) (spare := spare) (held := held) (m := m) (cs := cs) (e := e) (k := k) (c := P.cellsOf e) (fun cs x => flat_of_trod n e h.1 m cs x) k 0 xs (by omega) (by rw [hl, h.2]) hxl (fun q hq => by rw [Nat.zero_add]; exact hf q hq)
      simpa [flatD] using this
    · cases h
end

/-- A listed variable of such a type: its cells. -/
theorem plain_of {P : Program} {W : World} {l : List (String × DataW Unit)} (h : laidMet P l W) {n : String} {d : DataW Unit} (hm : (n, d) ∈ l) {g : Nat} {t : TypeId} (k : Nat)
    (hg : P.globalNamed n = some g) (hty : (P.globals[g]?).map (·.type) = some t) (ht : tightB P k t = true) : W.rangeAt g 0 (flatD d) := by
  obtain ⟨ps, hv, _, _⟩ := h
  obtain ⟨g', t', cs, fuel, p, hg', hty', hvar, hd⟩ := listed hv hm
  obtain rfl := Option.some.inj (hg.symm.trans hg')
  obtain rfl := Option.some.inj (hty.symm.trans hty')
  have := flat_of_trod k t ht _ _ _ hd
  intro j v hj
  rw [Nat.zero_add, World.var?_cell hg hvar j, ← hj]
  simp only at this
  rw [← this]
  simp
theorem range_only {W W' : World} {g o : Nat} {cs : List Value} (h : W.rangeAt g o cs) (ho : Only (fun _ => False) W W') : W'.rangeAt g o cs := fun j v hj => ho.cellv (h j v hj) (fun h => h)
end Go.Proofs.YtbnfhklpobephaaGreatDoor
/- Layer 10 as plain functions: one side of one option; two sides joined by rows: from the first state on, whoever asks for what meanwhile, so many joint states can be, and from each they come to rest. -/
namespace Go.Proofs.YtbnfhklpobephaaGreatDoor

/-- A right state: its kind, and whether it is Opposite. -/
inductive Qs where
  | no | yes | wn | wnO | wy | wyO
  deriving DecidableEq
def Qs.kind : Qs → Nat
  | .no => 0 | .yes => 1 | .wn => 2 | .wnO => 2 | .wy => 3 | .wyO => 3
def Qs.opp : Qs → Bool
  | .wnO => true | .wyO => true | _ => false
/-- Which one it is, if it is right. -/
def qsOf (k : Int) (o : Bool) : Option Qs :=
  if k = 0 ∧ o = false then some .no else if k = 1 ∧ o = false then some .yes
  else if k = 2 then some (if o then .wnO else .wn) else if k = 3 then some (if o then .wyO else .wy) else none
theorem qsOf_kind (s : Qs) : qsOf (s.kind : Int) s.opp = some s := by cases s <;> rfl
theorem qsOf_some {k : Int} {o : Bool} {s : Qs} (h : qsOf k o = some s) : k = (s.kind : Int) ∧ o = s.opp := by
  unfold qsOf at h
  split at h
  · next e => obtain ⟨rfl, rfl⟩ := e; injection h with h; subst h; exact ⟨rfl, rfl⟩
  · split at h
    · next e => obtain ⟨rfl, rfl⟩ := e; injection h with h; subst h; exact ⟨rfl, rfl⟩
    · split at h
      · next e => subst e; injection h with h; subst h; cases o <;> exact ⟨rfl, rfl⟩
      · split at h
        · next e => subst e; injection h with h; subst h; cases o <;> exact ⟨rfl, rfl⟩
        · cases h
/-- A verb is heard, for (is) or against: the state behind it, what is sent (0: nothing, 1: for, 2: against), whether it was wrong. -/
def hearQ : Qs → Bool → Bool → Qs × Nat × Bool
  | .no, true, true => (.yes, 1, false)
  | .no, true, false => (.no, 2, false)
  | .yes, true, _ => (.yes, 0, false)
  | .wn, true, _ => (.no, 0, true)
  | .wnO, true, _ => (.yes, 0, true)
  | .wy, true, _ => (.yes, 0, false)
  | .wyO, true, _ => (.wn, 2, false)
  | .no, false, _ => (.no, 0, false)
  | .yes, false, _ => (.no, 2, false)
  | .wn, false, _ => (.no, 0, false)
  | .wnO, false, _ => (.wy, 1, false)
  | .wy, false, _ => (.no, 0, false)
  | .wyO, false, _ => (.no, 0, false)
/-- We ask. -/
def askQ : Qs → Bool → Option (Qs × Nat)
  | .no, true => some (.wy, 1)
  | .wn, true => some (.wnO, 0)
  | .wyO, true => some (.wy, 0)
  | .yes, false => some (.wn, 2)
  | .wnO, false => some (.wn, 0)
  | .wy, false => some (.wyO, 0)
  | _, _ => none
def calmQ (s : Qs) : Bool := decide (s = .no) || decide (s = .yes)
/-- What is sent, as the other side hears it. -/
def sentQ : Nat → List Bool
  | 0 => []
  | n => [decide (n = 1)]

/-- Two sides, and of each what it sent that the other one hasn't heard. -/
structure Jo where
  x : Qs
  p : List Bool
  y : Qs
  q : List Bool
  deriving DecidableEq
/-- The one asks; the other one asks; the one hears; the other one hears. -/
def Jo.askX (t : Jo) (on : Bool) : Option Jo := (askQ t.x on).map fun r => { t with x := r.1, p := t.p ++ sentQ r.2 }
def Jo.askY (t : Jo) (on : Bool) : Option Jo := (askQ t.y on).map fun r => { t with y := r.1, q := t.q ++ sentQ r.2 }
def Jo.hearX (ax : Bool) (t : Jo) : Option (Jo × Bool) :=
  match t.q with
  | [] => none
  | b :: q => some ({ t with x := (hearQ t.x b ax).1, p := t.p ++ sentQ (hearQ t.x b ax).2.1, q := q }, (hearQ t.x b ax).2.2)
def Jo.hearY (ay : Bool) (t : Jo) : Option (Jo × Bool) :=
  match t.p with
  | [] => none
  | b :: p => some ({ t with y := (hearQ t.y b ay).1, q := t.q ++ sentQ (hearQ t.y b ay).2.1, p := p }, (hearQ t.y b ay).2.2)
def Jo.next (ax ay : Bool) (t : Jo) : List Jo :=
  (t.askX true).toList ++ (t.askX false).toList ++ (t.askY true).toList ++ (t.askY false).toList ++ ((t.hearX ax).toList.map Prod.fst) ++ ((t.hearY ay).toList.map Prod.fst)
def closeQ (ax ay : Bool) : Nat → List Jo → List Jo → List Jo
  | 0, _, seen => seen
  | n + 1, new, seen =>
    let fresh := (new.flatMap (Jo.next ax ay)).foldl (fun (acc : List Jo) t => if seen.contains t || acc.contains t then acc else t :: acc) []
    closeQ ax ay n fresh (seen ++ fresh)
def Jo.zero : Jo := ⟨.no, [], .no, []⟩
/-- All joint states that can be. -/
def joints (ax ay : Bool) : List Jo := closeQ ax ay 12 [.zero] [.zero]
/-- A turn: the one hears, if something was sent; then the other one. -/
def Jo.turn (ax ay : Bool) (t : Jo) : Jo :=
  let t := match t.hearX ax with | some r => r.1 | none => t
  match t.hearY ay with | some r => r.1 | none => t
/-- So many turns till nothing is left unheard. -/
def Jo.turns (ax ay : Bool) : Nat → Jo → Nat
  | 0, _ => 0
  | n + 1, t => if t.p.isEmpty && t.q.isEmpty then 0 else (Jo.turns ax ay n (t.turn ax ay)) + 1
def Jo.ok (ax ay : Bool) (l : List Jo) (t : Jo) : Bool :=
  (t.next ax ay).all (fun u => l.contains u) && ((t.hearX ax).all fun r => !r.2) && ((t.hearY ay).all fun r => !r.2) &&
    decide (t.turns ax ay 6 ≤ 4) && (if t.p.isEmpty && t.q.isEmpty then calmQ t.x && decide (t.x = t.y) else decide ((t.turn ax ay).turns ax ay 6 + 1 = t.turns ax ay 6))
theorem joints_ok (ax ay : Bool) : (joints ax ay).all (Jo.ok ax ay (joints ax ay)) = true := by
  cases ax <;> cases ay <;> decide +kernel

/-- It can be. -/
def Can (ax ay : Bool) (t : Jo) : Prop := (joints ax ay).contains t = true
theorem can_zero (ax ay : Bool) : Can ax ay .zero := by cases ax <;> cases ay <;> (unfold Can; decide +kernel)
section
variable {ax ay : Bool} {t u : Jo}
theorem Can.ok (h : Can ax ay t) : Jo.ok ax ay (joints ax ay) t = true := List.all_eq_true.1 (joints_ok ax ay) t (List.contains_iff_mem.1 h)
theorem Can.next (h : Can ax ay t) (hu : u ∈ t.next ax ay) : Can ax ay u := by
  have := h.ok
  simp only [Jo.ok, Bool.and_eq_true] at this
  exact List.all_eq_true.1 this.1.1.1.1 u hu
theorem Can.askX {on : Bool} (h : Can ax ay t) (hu : t.askX on = some u) : Can ax ay u := h.next (by unfold Jo.next; cases on <;> simp [hu])
theorem Can.askY {on : Bool} (h : Can ax ay t) (hu : t.askY on = some u) : Can ax ay u := h.next (by unfold Jo.next; cases on <;> simp [hu])
theorem Can.hearX {b : Bool} (h : Can ax ay t) (hu : t.hearX ax = some (u, b)) : Can ax ay u ∧ b = false := by
  refine ⟨h.next (by unfold Jo.next; simp [hu]), ?_⟩
  have := h.ok
  simp only [Jo.ok, Bool.and_eq_true] at this
  simpa [hu] using this.1.1.1.2
theorem Can.hearY {b : Bool} (h : Can ax ay t) (hu : t.hearY ay = some (u, b)) : Can ax ay u ∧ b = false := by
  refine ⟨h.next (by unfold Jo.next; simp [hu]), ?_⟩
  have := h.ok
  simp only [Jo.ok, Bool.and_eq_true] at this
  simpa [hu] using this.1.1.2
/-- How many turns it still takes. -/
theorem Can.few (h : Can ax ay t) : t.turns ax ay 6 ≤ 4 := by
  have := h.ok
  simp only [Jo.ok, Bool.and_eq_true, decide_eq_true_eq] at this
  exact this.1.2
theorem Can.rest (h : Can ax ay t) (hp : t.p = []) (hq : t.q = []) : calmQ t.x = true ∧ t.x = t.y := by
  have := h.ok
  simp only [Jo.ok, Bool.and_eq_true] at this
  have h2 := this.2
  rw [hp, hq] at h2
  simpa using h2
theorem Can.less (h : Can ax ay t) (hn : ¬ (t.p = [] ∧ t.q = [])) : (t.turn ax ay).turns ax ay 6 + 1 = t.turns ax ay 6 := by
  have := h.ok
  simp only [Jo.ok, Bool.and_eq_true] at this
  have h2 := this.2
  rw [if_neg (by simpa using hn)] at h2
  simpa using h2
end
end Go.Proofs.YtbnfhklpobephaaGreatDoor
/- Package qstate: the table of right states; which row a state has. -/
namespace Go.Proofs.YtbnfhklpobephaaGreatDoor
open Go Go.RowKit
set_option maxRecDepth 100000
set_option maxHeartbeats 4000000

/-- A state's cells; a move's. -/
def qsC (s : Qs) : List Value := [.int .i64 (s.kind : Int), .bool s.opp]
def mvC (s : Qs) (n : Nat) (b : Bool) : List Value := [.int .i64 (s.kind : Int), .bool s.opp, .int .i64 (n : Int), .bool b]
def mv0 : List Value := mvC .no 0 false
/-- What comes of asking; nothing where it can't be asked for. -/
def askC (s : Qs) (on : Bool) : List Value := match askQ s on with | some r => mvC r.1 r.2 false | none => mv0
def hearC (s : Qs) (is agree : Bool) : List Value := mvC (hearQ s is agree).1 (hearQ s is agree).2.1 (hearQ s is agree).2.2
def qsWord : Qs → List UInt8
  | .no => [110, 111] | .yes => [121, 101, 115] | .wn => [119, 97, 110, 116, 110, 111] | .wnO => [119, 97, 110, 116, 110, 111, 33] | .wy => [119, 97, 110, 116, 121, 101, 115] | .wyO => [119, 97, 110, 116, 121, 101, 115, 33]
/-- A row's cells. -/
def rowC (s : Qs) : List Value := qsC s ++ [.string ⟨(qsWord s).toArray⟩] ++ hearC s true true ++ hearC s false true ++ askC s true ++ askC s false
def row0 : List Value := [.int .i64 0, .bool false, .string ⟨#[]⟩] ++ mv0 ++ mv0 ++ mv0 ++ mv0
def rowOfC : Option Qs → List Value
  | some s => rowC s
  | none => row0
def qsAll : List Qs := [.no, .yes, .wn, .wnO, .wy, .wyO]
def tabC : List Value := qsAll.flatMap rowC
theorem rowC_length (s : Qs) : (rowC s).length = 19 := by cases s <;> rfl
theorem rowC_one (s : Qs) : ∀ v ∈ rowC s, v.oneCell' = true := by
  have h : (rowC s).all Value.oneCell' = true := by cases s <;> rfl
  exact fun v hv => List.all_eq_true.1 h v hv
/-- The table is there. -/
def QsAt (W : World) : Prop := W.rangeAt 17 0 tabC
theorem QsAt.only {W W' : World} (h : QsAt W) (ho : Only (fun _ => False) W W') : QsAt W' := range_only h ho

theorem size_state : (Tryz.prog.info? 65).map (·.size) = some 2 := by kernel_rfl
theorem size_move : (Tryz.prog.info? 245).map (·.size) = some 4 := by kernel_rfl
theorem size_qrow : (Tryz.prog.info? 316).map (·.size) = some 19 := by kernel_rfl
theorem size_qtab : (Tryz.prog.info? 368).map (·.size) = some 114 := by kernel_rfl
theorem zero_qrow : (Tryz.prog.info? 316).map (fun i => (i.zero, i.size)) = some (some (.agg row0.toArray), 19) := by kernel_rfl
theorem guard_state : Tryz.prog.eqGuardType Tryz.prog.depth 65 = false := by kernel_rfl
theorem eq_state (W : World) (a c : Int) (b d : Bool) : (Op.equalIn 10000 65 (.agg #[.int .i64 a, .bool b]) (.agg #[.int .i64 c, .bool d])).run Tryz.prog W = .ok (decide (a = c ∧ b = d)) W := by
  rw [show (10000 : Nat) = 9999 + 1 from rfl, run_equalIn_struct W 9999 _ _ _ (by kernel_rfl) (by kernel_rfl)]
  have u3 : Tryz.prog.underlying 3 = some (.int .i64) := Tryz.underlying3
  have u4 : Tryz.prog.underlying 4 = some .bool := Tryz.underlying4
  simp only [Program.fieldsOf, Tryz.underlying65, Op.eqFields]
  simp [go_sem, u3, u4, Result.andThen]
  by_cases h1 : a = c <;> by_cases h2 : b = d <;> simp [h1, h2]

theorem qsOf_at {k : Int} {o : Bool} {s : Qs} (h : (s.kind : Int) = k ∧ s.opp = o) : qsOf k o = some s := by
  obtain ⟨rfl, rfl⟩ := h
  exact qsOf_kind s
theorem qsOf_none {k : Int} {o : Bool} (h : ∀ i, i < 6 → ∀ s, qsAll[i]? = some s → ¬ ((s.kind : Int) = k ∧ s.opp = o)) : qsOf k o = none := by
  cases e : qsOf k o with
  | none => rfl
  | some s =>
    obtain ⟨h1, h2⟩ := qsOf_some e
    have key : ∃ i, i < 6 ∧ qsAll[i]? = some s := by
      cases s
      · exact ⟨0, by omega, rfl⟩
      · exact ⟨1, by omega, rfl⟩
      · exact ⟨2, by omega, rfl⟩
      · exact ⟨3, by omega, rfl⟩
      · exact ⟨4, by omega, rfl⟩
      · exact ⟨5, by omega, rfl⟩
    obtain ⟨i, hi, hs⟩ := key
    exact absurd ⟨h1.symm, h2.symm⟩ (h i hi s hs)

theorem index_tab (W : World) {k : Nat} {s : Qs} (h : qsAll[k]? = some s) : (Instr.index 368 (.agg tabC.toArray) (.int .i64 (k : Int))).run Tryz.prog W = .ok (.agg (rowC s).toArray) W := by
  rcases k with _ | _ | _ | _ | _ | _ | k <;> simp only [qsAll, List.getElem?_cons_zero, List.getElem?_cons_succ, Option.some.injEq, List.getElem?_nil, reduceCtorEq] at h
  all_goals (subst h; kernel_rfl)

theorem row_state {w : World} {b : Nat} {t : TypeId} {rc : List Value} {s : Qs} {sk : Int} {so : Bool} (h1 : rc = rowC s) (h2 : sk = (s.kind : Int)) (h3 : so = s.opp) (h : Blk w b t rc) : w.rangeAt b 0 [.int .i64 sk, .bool so] := by
  subst h1 h2 h3
  intro j v hj
  rw [Nat.zero_add, h.cell]
  rcases j with _ | _ | j
  · exact hj
  · exact hj
  · simp at hj
theorem rowOf_any {W : World} (hT : QsAt W) (k : Int) (o : Bool) : Calls Tryz.prog 166 #[.agg #[.int .i64 k, .bool o]] W fun e w' =>
    e = .returned (.tuple #[.agg (rowOfC (qsOf k o)).toArray, .bool (qsOf k o).isSome]) ∧ Only (fun _ => False) W w' := by
  have HT := Lib.hid hT
  clear hT
  obtain ⟨tab, htab⟩ : ∃ tab, tab = tabC := ⟨_, rfl⟩
  have HTab := Lib.hid htab
  have HT0 : Hid (∀ w, Only (fun _ => False) W w → w.rangeAt 17 0 tab) := fun w ho => by rw [HTab.out]; exact HT.out.only ho
  clear htab
  go_enter Tryz.func166, Tryz.ntmps166
  go_wp2_with (first
    | ((with_reducible show wpList _ _ _ (⟨some 2, _, _, _, _, _⟩ :: _) _ _); refine step_alloc rfl 316 rfl row0 _ zero_qrow ?_)
    | ((with_reducible show wpList _ _ _ (⟨some 6, _, _, _, _, _⟩ :: _) _ _); refine wpList_load_mid rfl 368 _ rfl 17 0 rfl tab _ (HT0.out _ (((Only.refl _ _).alloc _).alloc _)) Tryz.underlying368 rfl (by rw [HTab.out]; exact size_qtab) ?_))
  obtain ⟨N, hN⟩ : ∃ N, N = W.heap.size := ⟨_, rfl⟩
  obtain ⟨W0, hW0⟩ : ∃ W0, W0 = (W.alloc (.cells #[.int .i64 k, .bool o] 65)).alloc (.cells row0.toArray 316) := ⟨_, rfl⟩
  have HB1 : Blk W0 N 65 [.int .i64 k, .bool o] := by rw [hW0, hN]; exact (Blk.new W _ [.int .i64 k, .bool o]).alloc _
  have HB2 : Blk W0 (N + 1) 316 row0 := by rw [hW0, hN]; exact Blk.new' _ _ _ (by simp)
  have HO0 : Hid (Only (fun _ => False) W W0) := by rw [hW0]; exact ((Only.refl _ _).alloc _).alloc _
  have HZ : Hid (W0.heap.size = N + 2) := by rw [hW0, hN]; simp [Hid]
  have HNW : Hid (W.heap.size = N) := hN.symm
  rw [← hW0, ← hN]
  have HB1 := Lib.hid HB1
  have HB2 := Lib.hid HB2
  clear hW0 hN
  go_loopw [7] (fun i w => ∃ j : Nat, j ≤ 6 ∧ i = .int .i64 (j : Int) ∧ Hid (∀ i, i < j → ∀ s, qsAll[i]? = some s → ¬ ((s.kind : Int) = k ∧ s.opp = o)) ∧ Hid (Only (fun _ => False) W0 w)) (fun i _ => 6 - (intOf i).toNat)
  case atStart => exact ⟨0, Nat.zero_le _, rfl, (fun i hi => absurd hi (by omega)), Only.refl _ _⟩
  case round =>
    obtain ⟨j, hj, rfl, hno, ho⟩ := hrel
    by_cases hlt : j < 6
    · obtain ⟨s, hs⟩ : ∃ s, qsAll[j]? = some s := ⟨_, List.getElem?_eq_getElem (by exact hlt)⟩
      have HS := Lib.hid hs
      obtain ⟨rc, hrc⟩ : ∃ rc, rc = rowC s := ⟨_, rfl⟩
      have HRC := Lib.hid hrc
      have hidx : (Instr.index 368 (.agg tab.toArray) (.int .i64 (j : Int))).run Tryz.prog wr = .ok (.agg rc.toArray) wr := by rw [HTab.out, hrc]; exact index_tab wr hs
      obtain ⟨same, hsame⟩ : ∃ same, same = decide ((s.kind : Int) = k ∧ s.opp = o) := ⟨_, rfl⟩
      have heq : ∀ W, (Op.equalIn 10000 65 (.agg #[.int .i64 (s.kind : Int), .bool s.opp]) (.agg #[.int .i64 k, .bool o])).run Tryz.prog W = .ok same W := fun W => by rw [hsame]; exact eq_state W _ _ _ _
      have HSame := Lib.hid hsame
      have hgr := guard_state
      obtain ⟨sk, hsk⟩ : ∃ sk, sk = (s.kind : Int) := ⟨_, rfl⟩
      obtain ⟨so, hso⟩ : ∃ so, so = s.opp := ⟨_, rfl⟩
      rw [← hsk, ← hso] at heq
      have HSK := Lib.hid hsk
      have HSO := Lib.hid hso
      have HB1' := Lib.hid (HB1.out.only ho.out (fun h => h))
      have HB2' := Lib.hid (HB2.out.only ho.out (fun h => h))
      have hlN := HB2'.out.lt
      clear hs hrc hsame hsk hso
      cases same
      · go_wp2_with (first
          | ((with_reducible show wpList _ _ _ (⟨some 5, _, _, _, _, _⟩ :: _) _ _); refine step_alloc rfl 316 rfl row0 _ zero_qrow ?_)
          | ((with_reducible show wpList _ _ _ (⟨none, .store 316 (.tmp 5) _, _, _, _, _⟩ :: _) _ _); refine step_store rfl 316 _ _ rfl wr.heap.size rfl rc rfl _ row0 (Blk.new _ _ _) (by rw [HRC.out, rowC_length]; exact size_qrow) (by rw [HRC.out, rowC_length]; rfl) (by rw [HRC.out]; exact rowC_one s) ?_; intro w4 hB4 hz4 ho4)
          | ((with_reducible show wpList _ _ _ (⟨some 11, _, _, _, _, _⟩ :: _) _ _); refine wpList_load_mid rfl 65 _ rfl wr.heap.size 0 rfl [.int .i64 sk, .bool so] _ (row_state HRC.out HSK.out HSO.out hB4.out) Tryz.underlying65 rfl size_state ?_)
          | ((with_reducible show wpList _ _ _ (⟨some 12, _, _, _, _, _⟩ :: _) _ _); refine wpList_load_mid rfl 65 _ rfl N 0 rfl [.int .i64 k, .bool o] _ (range_of ((HB1'.out.alloc _).only ho4 (by have := HB1'.out.lt; omega))) Tryz.underlying65 rfl size_state ?_))
        go_roundw
        case rel =>
          refine ⟨j + 1, by omega, by go_num, fun i hi s' hs' => ?_, ho.out.trans ((((Only.refl (fun i => wr.heap.size ≤ i) wr).alloc _).trans ho4 (fun i hi => .inl (by omega))).mono (T := fun _ => False) (fun i hi => .inr hi)) (fun _ h => h.elim)⟩
          rcases Nat.lt_or_ge i j with h1 | h1
          · exact hno.out i h1 s' hs'
          · obtain rfl : i = j := by omega
            rw [HS.out] at hs'
            cases hs'
            exact of_decide_eq_false HSame.out.symm
        case measure => simp [intOf]; omega
      · go_wp2_with (first
          | ((with_reducible show wpList _ _ _ (⟨some 5, _, _, _, _, _⟩ :: _) _ _); refine step_alloc rfl 316 rfl row0 _ zero_qrow ?_)
          | ((with_reducible show wpList _ _ _ (⟨none, .store 316 (.tmp 5) _, _, _, _, _⟩ :: _) _ _); refine step_store rfl 316 _ _ rfl wr.heap.size rfl rc rfl _ row0 (Blk.new _ _ _) (by rw [HRC.out, rowC_length]; exact size_qrow) (by rw [HRC.out, rowC_length]; rfl) (by rw [HRC.out]; exact rowC_one s) ?_; intro w4 hB4 hz4 ho4)
          | ((with_reducible show wpList _ _ _ (⟨some 11, _, _, _, _, _⟩ :: _) _ _); refine wpList_load_mid rfl 65 _ rfl wr.heap.size 0 rfl [.int .i64 sk, .bool so] _ (row_state HRC.out HSK.out HSO.out hB4.out) Tryz.underlying65 rfl size_state ?_)
          | ((with_reducible show wpList _ _ _ (⟨some 12, _, _, _, _, _⟩ :: _) _ _); refine wpList_load_mid rfl 65 _ rfl N 0 rfl [.int .i64 k, .bool o] _ (range_of ((HB1'.out.alloc _).only ho4 (by have := HB1'.out.lt; omega))) Tryz.underlying65 rfl size_state ?_)
          | ((with_reducible show wpList _ _ _ (⟨some 14, _, _, _, _, _⟩ :: _) _ _); refine wpList_load_mid rfl 316 _ rfl wr.heap.size 0 rfl rc _ (range_of hB4.out) Tryz.underlying316 rfl (by rw [HRC.out, rowC_length]; exact size_qrow) ?_)
          | ((with_reducible show wpList _ _ _ (⟨none, .store 316 (.tmp 2) _, _, _, _, _⟩ :: _) _ _); refine step_store rfl 316 _ _ rfl (N + 1) rfl rc rfl _ row0 ((HB2'.out.alloc _).only ho4 (by omega)) (by rw [HRC.out, rowC_length]; exact size_qrow) (by rw [HRC.out, rowC_length]; rfl) (by rw [HRC.out]; exact rowC_one s) ?_; intro w5 hB5 hz5 ho5))
        refine ret_cell2 rfl (N + 1) rfl _ rc _ hB5.out Tryz.underlying316 rfl (by rw [HRC.out, rowC_length]; exact size_qrow) rfl ?_
        have e := qsOf_at (of_decide_eq_true HSame.out.symm)
        rw [e]
        refine ⟨by rw [HRC.out]; rfl, ?_⟩
        have h4 := ((((Only.refl (fun i => wr.heap.size ≤ i) wr).alloc (.cells row0.toArray 316)).trans ho4 (fun i hi => .inl (by omega))).mono (T := fun i => N ≤ i) (fun i hi => .inr hi))
        exact (HO0.out.trans ho.out (fun _ h => h.elim)).trans (h4.trans ho5 (fun i hi => .inl (by omega))) (fun i hi => .inr (by have := HNW.out; omega))
    · have HB2' := Lib.hid (HB2.out.only ho.out (fun h => h))
      go_wp2_with (first
        | ((with_reducible show wpList _ _ _ (⟨none, .store 316 (.tmp 2) _, _, _, _, _⟩ :: _) _ _); refine step_store rfl 316 _ _ rfl (N + 1) rfl row0 rfl _ row0 HB2'.out size_qrow rfl (fun v hv => List.all_eq_true.1 (show row0.all Value.oneCell' = true from rfl) v hv) ?_; intro w5 hB5 hz5 ho5))
      refine ret_cell2 rfl (N + 1) rfl _ row0 _ hB5.out Tryz.underlying316 rfl size_qrow rfl ?_
      obtain rfl : j = 6 := by omega
      rw [qsOf_none hno.out]
      exact ⟨rfl, (HO0.out.trans ho.out (fun _ h => h.elim)).trans ho5 (fun i hi => .inr (by have := HNW.out; omega))⟩
end Go.Proofs.YtbnfhklpobephaaGreatDoor
