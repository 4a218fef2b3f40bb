/- Several texts in one. -/
import Derived.Test.YtlmkpembccehkaaGreatDoorJSnKeep
import Derived.Test.YtlmkpembccehkaaGreatDoorJMdParse
import Derived.Test.YtlmkpembccehkaaGreatDoorJBody
import Derived.Deep.Fields
import Derived.Test.YtlmkpembccehkaaGreatDoorJInfo
import Derived.Test.YtlmkpembccehkaaGreatDoorJScNew
/- A hub hears of the modes. -/
namespace Go.Proofs.YtlmkpembccehkaaGreatDoor
open Go Go.RowKit
set_option maxRecDepth 100000
set_option maxHeartbeats 4000000

section
variable {w : World} {es : List Addr} {A : Option Addr} {n c : Nat} {b : List UInt8} {p q : Nat} {h : Hb} {ag : Nat → Nat → Bool} {T : Tb}
theorem keepMode (hE : ErrsAt w es) (k : HkAt w p h) (hT : TbAt w q ag T) (hs : Src w A n b) : HearsB 75 w p q h 34 A n c := by
  have HU : Hid (∀ W, Only (fun _ => False) w W → Calls Tryz.prog 66 #[.pointer (some ⟨q, 0, none⟩), .int .i64 0, .int .i64 34] W fun e w' => e = .returned (.bool (onAt T true 34)) ∧ Only (fun _ => False) W w') := fun W ho => on_at hT true 34 W ho
  have HH : Hid (∀ W, Only (fun _ => False) w W → Calls Tryz.prog 66 #[.pointer (some ⟨q, 0, none⟩), .int .i64 1, .int .i64 34] W fun e w' => e = .returned (.bool (onAt T false 34)) ∧ Only (fun _ => False) W w') := fun W ho => on_at hT false 34 W ho
  have HTl := Lib.hid (fun W A n c => tell_any W 34 A n c)
  obtain ⟨a, ha, hst⟩ := (hE.of [9]).get 9 8 (by decide) rfl
  unfold errV at hst
  have HC : Hid (∀ W, Only (fun _ => False) w W → W.cell? ⟨8, 0, none⟩ = some (.iface 191 (.pointer (some a)))) := fun W ho => ho.cellv hst (fun h => h)
  have HK := Lib.hid k
  cases hu : onAt T true 34 with
  | true =>
    rw [hu] at HU
    by_cases hn : takeNum b = 0
    · have HTa : Hid (∀ W, Only (fun _ => False) w W → _) := fun W ho => taHear_ok ((hE.only ho).of mdSel) (k.hub.same ho).tail k.tc c (hs.only ho (fun _ _ _ h => h)) hn
      generalize both (saysM b).1 h.tc = bo at *
      clear hE k hT hs ha hst hn hu HH
      go_enter Tryz.func75, Tryz.ntmps75
      go_wp2_with (first
        | (go_at_call 66; (with_reducible refine (HU.out _ (Only.refl _ _)).mono ?_); rintro e w1 ⟨rfl, ho1⟩)
        | (go_at_call 92; (with_reducible refine (HTa.out _ ho1).mono ?_); rintro e w2 ⟨N, rfl, hN, hs2, ht2, ho2⟩)
        | (go_at_call 71; (with_reducible refine (HTl.out _ _ _ _).mono ?_); rintro e w3 ⟨rfl, hb3, ho3⟩))
      go_ret2
      have hO := ho2.out.trans ho3.out (fun _ h => h.elim)
      exact ⟨_, _, rfl, Heard.from_ (W := w1) ⟨.inl ⟨rfl, .inr ⟨_, _, 2, _, _, rfl, hb3.out, hs2.out.only ho3.out (fun _ _ _ h => h), by omega⟩, _, (HK.out.same ho1).next hO ((HuAt.of_tail HK.out.hub.ok ht2.out).same ho3.out) rfl rfl HK.out.tc⟩, hO⟩ ho1⟩
    · have HTa : Hid (∀ W, Only (fun _ => False) w W → Calls Tryz.prog 92 #[.pointer (some ⟨p, 110, none⟩), .slice A n c] W fun e w' => ∃ a, e = .returned (.tuple #[.slice none 0 0, .iface 191 (.pointer (some a))]) ∧ Only (fun _ => False) W w') := fun W ho => (taHear_bad ((hE.only ho).of mdSel) c (hs.only ho (fun _ _ _ h => h)) hn).mono (fun e w' ⟨E, h1, h2, h3⟩ => by
        rcases h1.ways with ⟨h0, _⟩ | ⟨_, a, rfl⟩
        · exact absurd h0 hn
        · exact ⟨a, h2, h3⟩)
      clear hE k hT hs ha hst hn hu HH HTl
      go_enter Tryz.func75, Tryz.ntmps75
      go_wp2_with (first
        | (go_at_call 66; (with_reducible refine (HU.out _ (Only.refl _ _)).mono ?_); rintro e w1 ⟨rfl, ho1⟩)
        | (go_at_call 92; (with_reducible refine (HTa.out _ ho1).mono ?_); rintro e w2 ⟨a2, rfl, ho2⟩))
      go_ret2
      exact ⟨_, _, rfl, Heard.err HK.out (ho1.trans ho2 (fun _ h => h.elim))⟩
  | false =>
    rw [hu] at HU
    cases hh : onAt T false 34 with
    | false =>
      rw [hh] at HH
      clear hE k hT hs ha hst hu hh HTl
      go_enter Tryz.func75, Tryz.ntmps75
      go_wp2_with (first
        | (go_at_call 66; (with_reducible refine (HU.out _ (Only.refl _ _)).mono ?_); rintro e w1 ⟨rfl, ho1⟩)
        | (go_at_call 66; (with_reducible refine (HH.out _ ho1).mono ?_); rintro e w2 ⟨rfl, ho2⟩; have HO2 := Lib.hid (ho1.trans ho2 (fun _ h => h.elim)); have hc2 := HC.out _ HO2.out))
      go_quiet (fail)
      go_wp2
      go_ret2
      exact ⟨_, _, rfl, Heard.err HK.out (HO2.out.drewN _)⟩
    | true =>
      rw [hh] at HH
      by_cases hn : hearNum b h.hw = 0
      · have HHe : Hid (∀ W, Only (fun _ => False) w W → _) := fun W ho => heHear_ok ((hE.only ho).of mdSel) (k.hub.same ho).head c (hs.only ho (fun _ _ _ h => h)) hn
        clear hE k hT hs ha hst hn hu hh HTl HC
        go_enter Tryz.func75, Tryz.ntmps75
        go_wp2_with (first
          | (go_at_call 66; (with_reducible refine (HU.out _ (Only.refl _ _)).mono ?_); rintro e w1 ⟨rfl, ho1⟩)
          | (go_at_call 66; (with_reducible refine (HH.out _ ho1).mono ?_); rintro e w2 ⟨rfl, ho2⟩; have HO2 := Lib.hid (ho1.trans ho2 (fun _ h => h.elim)))
          | (go_at_call 93; (with_reducible refine (HHe.out _ HO2.out).mono ?_); rintro e w3 ⟨rfl, ht3, ho3⟩))
        go_ret2
        exact ⟨_, _, rfl, Heard.from_ (W := w2) ⟨.inl ⟨rfl, .inl rfl, _, (HK.out.same HO2.out).next ho3.out (HuAt.of_head HK.out.hub.ok ht3.out) rfl rfl HK.out.tc⟩, ho3.out⟩ HO2.out⟩
      · have HHe : Hid (∀ W, Only (fun _ => False) w W → Calls Tryz.prog 93 #[.pointer (some ⟨p, 108, none⟩), .slice A n c] W fun e w' => ∃ a, e = .returned (.iface 191 (.pointer (some a))) ∧ Only (fun _ => False) W w') := fun W ho => (heHear_bad ((hE.only ho).of mdSel) (k.hub.same ho).head c (hs.only ho (fun _ _ _ h => h)) hn).mono (fun e w' ⟨E, h1, h2, h3⟩ => by
          rcases h1.ways with ⟨h0, _⟩ | ⟨_, a, rfl⟩
          · exact absurd h0 hn
          · exact ⟨a, h2, h3⟩)
        clear hE k hT hs ha hst hn hu hh HTl HC
        go_enter Tryz.func75, Tryz.ntmps75
        go_wp2_with (first
          | (go_at_call 66; (with_reducible refine (HU.out _ (Only.refl _ _)).mono ?_); rintro e w1 ⟨rfl, ho1⟩)
          | (go_at_call 66; (with_reducible refine (HH.out _ ho1).mono ?_); rintro e w2 ⟨rfl, ho2⟩; have HO2 := Lib.hid (ho1.trans ho2 (fun _ h => h.elim)))
          | (go_at_call 93; (with_reducible refine (HHe.out _ HO2.out).mono ?_); rintro e w3 ⟨a3, rfl, ho3⟩))
        go_ret2
        exact ⟨_, _, rfl, Heard.err HK.out (HO2.out.trans ho3 (fun _ h => h.elim))⟩
end
end Go.Proofs.YtlmkpembccehkaaGreatDoor
/- A slice of structs that came in, opened to its cells; a struct loaded whole out of memory. -/
namespace Go.Proofs.YtlmkpembccehkaaGreatDoor
open Go Go.ChangeShapes Go.WideShapes Go.ChangeAt Go.RowKit

/-- A slice of structs whose fields are one cell each: of each element its cells, and of each field its own reading. -/
theorem open_structs {H : Type} {enc : TypeId × Value → H} {P : Program} {t e : TypeId} {fs : Array Field} (ht : P.underlying t = some (.slice e)) (he : P.underlying e = some (.struct fs)) (hone : Go.Deep.oneCellFields P fs = true) (hC : P.cellsOf e = fs.size)
    {W : World} {spare : Nat → Bool} {held : Bool} {fuel : Nat} {a0 : Option Addr} {len cap : Nat} {x : DataW H × List MemPlace} (h : DataW.trod enc P W 0 spare held fuel t [.slice a0 len cap] = some x) :
    len ≤ cap ∧ cap ≤ 9223372036854775807 ∧ ∀ i, i < len → ∃ a, a0 = some a ∧ ∃ (vs : List Value) (n : Nat), vs.length = fs.size ∧ (∀ (j : Nat) (v : Value), vs[j]? = some v → W.cell? (a.add (i * fs.size + j)) = some v) ∧
      ∀ (j : Nat) (f : Field), fs[j]? = some f → ∃ v y, vs[j]? = some v ∧ DataW.trod enc P W 0 spare held n f.type [v] = some y := by
  rcases Go.Deep.open_slice ht h with ⟨h0, _⟩ | ⟨a, l, c, m, n, D, Pl, h0, _, hl, hm, hmm, _, hel⟩
  · simp at h0
    obtain ⟨rfl, rfl, rfl⟩ := h0
    exact ⟨Nat.le_refl _, by omega, fun i hi => absurd hi (by omega)⟩
  · simp at h0
    obtain ⟨rfl, rfl, rfl⟩ := h0
    refine ⟨hl, by unfold maxLen at hm; omega, fun i hi => ⟨a, rfl, ?_⟩⟩
    obtain ⟨cs, hc, htr⟩ := hel i (by split at hmm <;> omega)
    obtain ⟨_, hcl, hat⟩ := World.cells?_some hc
    obtain ⟨ys, k, _, _, _, hyl, hf⟩ := DataW.trod_struct he htr
    rw [hC] at hcl hat
    refine ⟨cs, k, hcl, fun j v hv => ?_, fun j f hj => ?_⟩
    · have hj : j < fs.size := by have := (List.getElem?_eq_some_iff.1 hv).1; omega
      have := hat j hj
      rw [Go.Deep.add_add] at this
      rw [this, hv]
    · obtain ⟨ho, hk⟩ := Go.Deep.hone_of hone j f hj
      have hjl : j < fs.size := (Array.getElem?_eq_some_iff.1 hj).1
      have h1 := hf j f hj
      rw [ho, hk] at h1
      have hv : cs[j]? = some (cs[j]'(by omega)) := List.getElem?_eq_getElem (by omega)
      have e1 : (cs.drop j).take 1 = [cs[j]'(by omega)] := by
        rw [List.drop_eq_getElem_cons (by omega)]
        rfl
      rw [e1] at h1
      have hy : ys[j]? = some (ys[j]'(by omega)) := List.getElem?_eq_getElem (by omega)
      exact ⟨_, _, hv, h1.trans hy⟩

theorem list_of {α : Type} {Q : Nat → α → Prop} : ∀ {n : Nat}, (∀ i, i < n → ∃ y, Q i y) → ∃ l : List α, l.length = n ∧ ∀ (i : Nat) (y : α), l[i]? = some y → Q i y
  | 0, _ => ⟨[], rfl, fun i y h => by cases h⟩
  | n + 1, h => by
    obtain ⟨l, hl, hq⟩ := list_of (n := n) (fun i hi => h i (by omega))
    obtain ⟨y, hy⟩ := h n (by omega)
    refine ⟨l ++ [y], by simp [hl], fun i z hz => ?_⟩
    rw [List.getElem?_append] at hz
    split at hz
    · exact hq i z hz
    · have hi : i = n := by
        have := (List.getElem?_eq_some_iff.1 hz).1
        simp at this
        omega
      subst hi
      rw [hl, Nat.sub_self] at hz
      simp only [List.getElem?_cons_zero, Option.some.injEq] at hz
      subst hz
      exact hy
end Go.Proofs.YtlmkpembccehkaaGreatDoor
/- Slices of structs: what came in, and what a call laid. -/
namespace Go.Proofs.YtlmkpembccehkaaGreatDoor
open Go Go.ChangeShapes Go.WideShapes Go.ChangeAt Go.RowKit
set_option maxRecDepth 100000
set_option maxHeartbeats 4000000

/-- A slice of structs of m cells each, of which each is one of α. -/
def LsOf {α : Type} (cs : α → List Value) (m : Nat) (W : World) (a : Option Addr) (len : Nat) (l : List α) : Prop :=
  l.length = len ∧ ∀ (i : Nat) (x : α), l[i]? = some x → ∃ b off, a = some ⟨b, off, none⟩ ∧ b < W.heap.size ∧ W.rangeAt b (off + i * m) (cs x)
theorem LsOf.same {α : Type} {cs : α → List Value} {m : Nat} {W W' : World} {a : Option Addr} {len : Nat} {l : List α} (h : LsOf cs m W a len l) (ho : Only (fun _ => False) W W') : LsOf cs m W' a len l :=
  ⟨h.1, fun i x hx => by
    obtain ⟨b, off, e, hb, h1⟩ := h.2 i x hx
    exact ⟨b, off, e, Nat.lt_of_lt_of_le hb ho.size, fun j v hv => ho.cellv (h1 j v hv) (fun h => h)⟩⟩
theorem open_ls {α : Type} {cs : α → List Value} {m : Nat} {t e : TypeId} (hm : 0 < m) (ht : Tryz.prog.underlying t = some (.slice e)) (hC : Tryz.prog.cellsOf e = m) (hcl : ∀ x, (cs x).length = m)
    {H : Type} {enc : TypeId × Value → H} {W : World} {spare : Nat → Bool} {held : Bool} {fuel : Nat} {a0 : Option Addr} {len cap : Nat} {x : DataW H × List MemPlace}
    (hone : ∀ {n : Nat} {vs : List Value} {y : DataW H × List MemPlace}, vs.length = m → DataW.trod enc Tryz.prog W 0 spare held n e vs = some y → ∃ x : α, vs = cs x)
    (h : DataW.trod enc Tryz.prog W 0 spare held fuel t [.slice a0 len cap] = some x) : len ≤ cap ∧ cap ≤ 9223372036854775807 ∧ ∃ l, LsOf cs m W a0 len l := by
  rcases Go.Deep.open_slice ht h with ⟨h0, _⟩ | ⟨a, l, c, mm, n, D, Pl, h0, _, hl, hmx, hmm, _, hel⟩
  · simp at h0
    obtain ⟨rfl, rfl, rfl⟩ := h0
    exact ⟨Nat.le_refl _, by omega, [], rfl, fun i x hx => by simp at hx⟩
  · simp at h0
    obtain ⟨rfl, rfl, rfl⟩ := h0
    refine ⟨hl, by unfold maxLen at hmx; omega, ?_⟩
    have each : ∀ i, i < len → ∃ y : α, ∃ b off, (some a : Option Addr) = some ⟨b, off, none⟩ ∧ b < W.heap.size ∧ W.rangeAt b (off + i * m) (cs y) := by
      intro i hi
      have part : ∀ i, i < len → ∃ y : α, ∀ (j : Nat) (v : Value), (cs y)[j]? = some v → W.cell? (a.add (i * m + j)) = some v := fun i hi => by
        obtain ⟨vs, hc, htr⟩ := hel i (by split at hmm <;> omega)
        obtain ⟨_, hvl, hat⟩ := World.cells?_some hc
        rw [hC] at hvl hat
        obtain ⟨y, rfl⟩ := hone hvl htr
        refine ⟨y, fun j v hv => ?_⟩
        have hj : j < m := by have := (List.getElem?_eq_some_iff.1 hv).1; rw [hcl] at this; exact this
        have := hat j hj
        rw [Go.Deep.add_add] at this
        rw [this, hv]
      obtain ⟨y, hy⟩ := part i hi
      obtain ⟨b, off, spot⟩ := a
      have h0' : 0 < (cs y).length := by rw [hcl]; exact hm
      have hv0 : (cs y)[0]? = some ((cs y)[0]'h0') := List.getElem?_eq_getElem _
      obtain rfl : spot = none := by
        obtain ⟨y', hy'⟩ := part 0 (by omega)
        have h0'' : 0 < (cs y').length := by rw [hcl]; exact hm
        have := World.cell?_spot (hy' 0 _ (List.getElem?_eq_getElem h0''))
        simpa [Addr.add] using this
      have hadd : ∀ q, (⟨b, off, none⟩ : Addr).add q = ⟨b, off + q, none⟩ := fun q => by unfold Addr.add; split <;> simp_all
      refine ⟨y, b, off, rfl, ?_, fun j v hv => ?_⟩
      · have := World.block_lt_of_cell? W _ (hy 0 _ hv0)
        rwa [block_add] at this
      · rw [Nat.add_assoc, ← hadd]
        exact hy j v hv
    obtain ⟨l, h1, h2⟩ := list_of each
    exact ⟨l, h1, h2⟩
theorem flat_at {α : Type} {cs : α → List Value} {m : Nat} (hm : ∀ x, (cs x).length = m) {x : α} {i : Nat} {v : Value} (hv : (cs x)[i]? = some v) : ∀ {l : List α} {k : Nat}, l[k]? = some x → (l.flatMap cs)[k * m + i]? = some v
  | [], k, h => by simp at h
  | r :: l, 0, h => by
    simp only [List.getElem?_cons_zero, Option.some.injEq] at h
    subst h
    rw [List.flatMap_cons, Nat.zero_mul, Nat.zero_add, List.getElem?_append_left (List.getElem?_eq_some_iff.1 hv).1]
    exact hv
  | r :: l, k + 1, h => by
    simp only [List.getElem?_cons_succ] at h
    have := flat_at hm hv h
    rw [List.flatMap_cons, List.getElem?_append_right (by rw [hm, Nat.add_mul]; omega), hm, ← this]
    congr 1
    rw [Nat.add_mul]
    omega
theorem LsOf.of_own {α : Type} {cs : α → List Value} {m : Nat} (hm : ∀ x, (cs x).length = m) {w : World} {B n c : Nat} {A : Option Addr} {l : List α} {e : TypeId} (h : w.ownsRow B e m (.slice A n c) n (l.flatMap cs)) (hl : l.length = n) : LsOf cs m w A n l :=
  ⟨hl, fun i x hx => by
    have hi := (List.getElem?_eq_some_iff.1 hx).1
    obtain ⟨g, e, _, hg, hc⟩ := own_at h (by omega)
    refine ⟨g, 0, e, hg, fun j v hv => ?_⟩
    rw [Nat.zero_add]
    exact hc _ v (flat_at hm hv hx)⟩
theorem LsOf.old {α : Type} {cs : α → List Value} {m : Nat} {W W' : World} {a : Option Addr} {len : Nat} {l : List α} {S : Nat → Prop} (h : LsOf cs m W a len l) (ho : Only S W W') (hS : ∀ k, k < W.heap.size → ¬ S k) : LsOf cs m W' a len l :=
  ⟨h.1, fun i x hx => by
    obtain ⟨b, off, e, hb, h1⟩ := h.2 i x hx
    exact ⟨b, off, e, Nat.lt_of_lt_of_le hb ho.size, fun j v hv => ho.cellv (h1 j v hv) (hS b hb)⟩⟩
theorem LsOf.nil {α : Type} (cs : α → List Value) (m : Nat) (W : World) (A : Option Addr) : LsOf cs m W A 0 [] := ⟨rfl, fun i x h => by simp at h⟩
end Go.Proofs.YtlmkpembccehkaaGreatDoor
/- Settings, triples and acts that came in. -/
namespace Go.Proofs.YtlmkpembccehkaaGreatDoor
open Go Go.ChangeShapes Go.WideShapes Go.ChangeAt Go.RowKit
set_option maxRecDepth 100000
set_option maxHeartbeats 4000000

section
variable {H : Type} {enc : TypeId × Value → H} {W : World} {spare : Nat → Bool} {held : Bool} {n : Nat}
theorem trod_set {vs : List Value} {y : DataW H × List MemPlace} (hl : vs.length = 2) (h : DataW.trod enc Tryz.prog W 0 spare held n 75 vs = some y) : ∃ x : Se, vs = x.cs := by
  obtain ⟨ys, k, _, _, _, hyl, hel⟩ := DataW.trod_struct Tryz.underlying75 h
  match vs, hl, hel with
  | [v0, v1], _, hel =>
    have hy : ∀ i, i < 2 → ∃ y, ys[i]? = some y := fun i hi => ⟨_, List.getElem?_eq_getElem (by rw [hyl]; exact hi)⟩
    have h0 := hel 0 _ rfl
    have h1 := hel 1 _ rfl
    obtain ⟨y0, e0⟩ := hy 0 (by omega)
    obtain ⟨y1, e1⟩ := hy 1 (by omega)
    rw [e0] at h0
    rw [e1] at h1
    replace h0 : DataW.trod enc Tryz.prog W 0 spare held k 3 [v0] = some y0 := h0
    replace h1 : DataW.trod enc Tryz.prog W 0 spare held k 3 [v1] = some y1 := h1
    obtain ⟨z0, q0, _, _⟩ := DataW.trod_int Tryz.underlying3 h0
    obtain ⟨z1, q1, _, _⟩ := DataW.trod_int Tryz.underlying3 h1
    obtain rfl : v0 = .int .i64 z0 := by simpa using q0
    obtain rfl : v1 = .int .i64 z1 := by simpa using q1
    exact ⟨⟨z0, z1⟩, rfl⟩
theorem trod_tri {vs : List Value} {y : DataW H × List MemPlace} (hl : vs.length = 4) (h : DataW.trod enc Tryz.prog W 0 spare held n 126 vs = some y) : ∃ x : Tr, vs = x.cs := by
  obtain ⟨ys, k, _, _, _, hyl, hel⟩ := DataW.trod_struct Tryz.underlying126 h
  match vs, hl, hel with
  | [v0, v1, v2, v3], _, hel =>
    have hy : ∀ i, i < 3 → ∃ y, ys[i]? = some y := fun i hi => ⟨_, List.getElem?_eq_getElem (by rw [hyl]; exact hi)⟩
    have h0 := hel 0 _ rfl
    have h1 := hel 1 _ rfl
    have h2 := hel 2 _ rfl
    obtain ⟨y0, e0⟩ := hy 0 (by omega)
    obtain ⟨y1, e1⟩ := hy 1 (by omega)
    obtain ⟨y2, e2⟩ := hy 2 (by omega)
    rw [e0] at h0
    rw [e1] at h1
    rw [e2] at h2
    replace h0 : DataW.trod enc Tryz.prog W 0 spare held k 3 [v0] = some y0 := h0
    replace h1 : DataW.trod enc Tryz.prog W 0 spare held k 75 [v1, v2] = some y1 := h1
    replace h2 : DataW.trod enc Tryz.prog W 0 spare held k 4 [v3] = some y2 := h2
    obtain ⟨z0, q0, _, _⟩ := DataW.trod_int Tryz.underlying3 h0
    obtain ⟨x, hx⟩ := trod_set rfl h1
    obtain ⟨b, q2, _⟩ := DataW.trod_bool Tryz.underlying4 h2
    obtain rfl : v0 = .int .i64 z0 := by simpa using q0
    obtain rfl : v3 = .bool b := by simpa using q2
    simp only [Se.cs, List.cons.injEq, and_true] at hx
    obtain ⟨rfl, rfl⟩ := hx
    exact ⟨⟨z0, x, b⟩, rfl⟩
end

/-- An act. -/
structure ScAc where
  k : Int
  t : Tr
section
variable {H : Type} {enc : TypeId × Value → H} {W : World} {spare : Nat → Bool} {fuel : Nat} {a0 : Option Addr} {len cap : Nat} {x : DataW H × List MemPlace}
theorem open_sets (h : DataW.trod enc Tryz.prog W 0 spare true fuel 25 [.slice a0 len cap] = some x) : len ≤ cap ∧ cap ≤ 9223372036854775807 ∧ ∃ l, StAt W a0 len l :=
  open_ls (cs := Se.cs) (m := 2) (by omega) Tryz.underlying25 (by kernel_rfl) (fun _ => rfl) (fun hl h => trod_set hl h) h
end
theorem open_tri {H : Type} {enc : TypeId × Value → H} {W : World} {r : Reach} {b0 : Nat} {v : Value} {d : DataW H} {p : List MemPlace}
    (hv : Value.okWide Tryz.prog W r b0 126 v) (h : DataW.Trod enc Tryz.prog W 0 (fun _ => true) true 126 v d p) : ∃ t : Tr, v = t.val ∧ True := by
  unfold Value.okWide at hv
  rw [Tryz.underlying126] at hv
  obtain ⟨cs, rfl, hsz, _⟩ := hv
  obtain ⟨fuel, hf⟩ := h
  obtain ⟨l⟩ := cs
  have hl : l.length = 4 := by
    have : Tryz.prog.cellsOf 126 = 4 := by kernel_rfl
    rw [this] at hsz
    simpa using hsz
  obtain ⟨t, ht⟩ := trod_tri hl hf
  exact ⟨t, by rw [show l = t.cs from ht], trivial⟩
end Go.Proofs.YtlmkpembccehkaaGreatDoor
