
/- A variable at package level that holds numbers, texts, bools, and structs and arrays of these: its cells, as its row's datum has them. -/
import Derived.Test.YtlmkpembccehkaaGreatDoorTabs
import Derived.Deep.MidRow
namespace Go.Proofs.YtlmkpembccehkaaGreatDoor
open Go Go.RowKit

mutual
/-- The cells of such a datum. -/
def flatD : DataW Unit → List Value
  | .lit (.int k n) => [.int k n]
  | .lit (.bool b) => [.bool b]
  | .lit (.string s) => [.string ⟨s.toArray⟩]
  | .agg ds => flatDs ds
  | _ => []
def flatDs : List (DataW Unit) → List Value
  | [] => []
  | d :: r => flatD d ++ flatDs r
end
/-- Fields that stand one behind the other. -/
def tightFs (P : Program) (ok : TypeId → Bool) : List Field → Nat → Nat → Bool
  | [], off, tot => off == tot
  | f :: r, off, tot => f.offset == off && ok f.type && tightFs P ok r (off + P.cellsOf f.type) tot
/-- A type of such data. -/
def tightB (P : Program) : Nat → TypeId → Bool
  | 0, _ => false
  | n + 1, t => match P.underlying t with
    | some .bool | some (.int _) | some .string => true
    | some (.struct fs) => tightFs P (tightB P n) fs.toList 0 (P.cellsOf t)
    | some (.array k e) => tightB P n e && P.cellsOf t == k * P.cellsOf e
    | _ => false

section
variable {P : Program} {W : World} {spare : Nat → Bool} {held : Bool}
theorem flat_fields {ok : TypeId → Bool} {m : Nat} {cs : List Value} (hok : ∀ t, ok t = true → ∀ (cs : List Value) (x : DataW Unit × List MemPlace), DataW.trod (fun _ => ()) P W 0 spare held m t cs = some x → cs = flatD x.1) :
    ∀ (fs : List Field) (off : Nat) (xs : List (DataW Unit × List MemPlace)), tightFs P ok fs off cs.length = true → xs.length = fs.length →
      (∀ (i : Nat) (f : Field), fs[i]? = some f → DataW.trod (fun _ => ()) P W 0 spare held m f.type ((cs.drop f.offset).take (P.cellsOf f.type)) = xs[i]?) → cs.drop off = flatDs (xs.map (·.1))
  | [], off, xs, h, hl, _ => by
    obtain rfl : xs = [] := List.eq_nil_of_length_eq_zero (by simpa using hl)
    have h : off = cs.length := by simpa [tightFs] using h
    simp [h, flatDs]
  | f :: r, off, [], _, hl, _ => by simp at hl
  | f :: r, off, x :: xs, h, hl, hx => by
    simp only [tightFs, Bool.and_eq_true, beq_iff_eq] at h
    obtain ⟨⟨h1, h2⟩, h3⟩ := h
    have h4 := hok _ h2 _ _ ((hx 0 f rfl).trans rfl)
    have h5 := flat_fields hok r _ xs h3 (by simpa using hl) (fun i g hg => hx (i + 1) g (by simpa using hg))
    rw [List.map_cons, flatDs, ← h5, ← h4, h1, ← List.drop_drop, List.take_append_drop]

theorem flat_array {m k c : Nat} {e : TypeId} {cs : List Value} (hok : ∀ (cs : List Value) (x : DataW Unit × List MemPlace), DataW.trod (fun _ => ()) P W 0 spare held m e cs = some x → cs = flatD x.1) :
    ∀ (j i : Nat) (xs : List (DataW Unit × List MemPlace)), i + j = k → cs.length = k * c → xs.length = j →
      (∀ q, q < j → DataW.trod (fun _ => ()) P W 0 spare held m e ((cs.drop ((i + q) * c)).take c) = xs[q]?) → cs.drop (i * c) = flatDs (xs.map (·.1))
  | 0, i, xs, hi, hc, hl, _ => by
    obtain rfl : xs = [] := List.eq_nil_of_length_eq_zero hl
    obtain rfl : i = k := by omega
    simp [← hc, flatDs]
  | j + 1, i, [], _, _, hl, _ => by simp at hl
  | j + 1, i, x :: xs, hi, hc, hl, hx => by
    have h4 := hok _ _ ((hx 0 (by omega)).trans rfl)
    have h5 := flat_array hok j (i + 1) xs (by omega) hc (by simpa using hl) (fun q hq => by
      have := hx (q + 1) (by omega)
      rw [show i + (q + 1) = i + 1 + q by omega] at this
      simpa using this)
    rw [Nat.add_zero] at h4
    rw [List.map_cons, flatDs, ← h5, ← h4, Nat.add_mul, Nat.one_mul, ← List.drop_drop, List.take_append_drop]

theorem flat_of_trod : ∀ (n : Nat) (t : TypeId), tightB P n t = true → ∀ (fuel : Nat) (cs : List Value) (x : DataW Unit × List MemPlace), DataW.trod (fun _ => ()) P W 0 spare held fuel t cs = some x → cs = flatD x.1
  | 0, t, h, _, _, _, _ => by simp [tightB] at h
  | n + 1, t, h, fuel, cs, x, hx => by
    unfold tightB at h
    split at h
    · next hu =>
      obtain ⟨b, rfl, rfl⟩ := DataW.trod_bool hu hx
      simp [flatD]
    · next hu =>
      obtain ⟨z, rfl, rfl, _⟩ := DataW.trod_int hu hx
      simp [flatD]
    · next hu =>
      obtain ⟨s, rfl, rfl, _⟩ := DataW.trod_string hu hx
      simp [flatD]
    · next fs hu =>
      obtain ⟨xs, m, rfl, rfl, hl, hxl, hf⟩ := DataW.trod_struct hu hx
      have := flat_fields (W := W) (spare := spare) (held := held) (m := m) (cs := cs) (ok := tightB P n) (fun t ht cs x => flat_of_trod n t ht m cs x) fs.toList 0 xs (by rw [hl]; exact h) (by simpa using hxl) (fun i f hi => hf i f (by simpa using hi))
      simpa [flatD] using this
    · next k e hu =>
      simp only [Bool.and_eq_true, beq_iff_eq] at h
      obtain ⟨xs, m, rfl, rfl, hl, hxl, hf⟩ := DataW.trod_array hu hx
      have := flat_array (W := W) (spare := spare) (held := held) (m := m) (cs := cs) (e := e) (k := k) (c := P.cellsOf e) (fun cs x => flat_of_trod n e h.1 m cs x) k 0 xs (by omega) (by rw [hl, h.2]) hxl (fun q hq => by rw [Nat.zero_add]; exact hf q hq)
      simpa [flatD] using this
    · cases h
end

/-- A listed variable of such a type: its cells. -/
theorem plain_of {P : Program} {W : World} {l : List (String × DataW Unit)} (h : laidMet P l W) {n : String} {d : DataW Unit} (hm : (n, d) ∈ l) {g : Nat} {t : TypeId} (k : Nat)
    (hg : P.globalNamed n = some g) (hty : (P.globals[g]?).map (·.type) = some t) (ht : tightB P k t = true) : W.rangeAt g 0 (flatD d) := by
  obtain ⟨ps, hv, _, _⟩ := h
  obtain ⟨g', t', cs, fuel, p, hg', hty', hvar, hd⟩ := listed hv hm
  obtain rfl := Option.some.inj (hg.symm.trans hg')
  obtain rfl := Option.some.inj (hty.symm.trans hty')
  have := flat_of_trod k t ht _ _ _ hd
  intro j v hj
  rw [Nat.zero_add, World.var?_cell hg hvar j, ← hj]
  simp only at this
  rw [← this]
  simp
theorem range_only {W W' : World} {g o : Nat} {cs : List Value} (h : W.rangeAt g o cs) (ho : Only (fun _ => False) W W') : W'.rangeAt g o cs := fun j v hj => ho.cellv (h j v hj) (fun h => h)
end Go.Proofs.YtlmkpembccehkaaGreatDoor
