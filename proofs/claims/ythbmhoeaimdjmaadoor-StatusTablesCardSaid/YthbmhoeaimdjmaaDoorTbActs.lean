/- Layer 11's acts and policies that came in; what an act does to a table. -/
import Derived.Test.YthbmhoeaimdjmaaDoorTbAsk
import Derived.Test.YthbmhoeaimdjmaaDoorTbNew
import Derived.Test.YthbmhoeaimdjmaaDoorStructs
import Derived.Test.YthbmhoeaimdjmaaDoorQsFacts
namespace Go.Proofs.YthbmhoeaimdjmaaDoor
open Go Go.ChangeShapes Go.WideShapes Go.ChangeAt Go.RowKit
set_option maxRecDepth 100000
set_option maxHeartbeats 4000000

structure Ac where
  k : Int
  c : Int
  o : Int
def Ac.vals (x : Ac) : List Value := [.int .i64 x.k, .int .i64 x.c, .int .i64 x.o]
def Ac.small (x : Ac) : Prop := (-9223372036854775808 ≤ x.k ∧ x.k ≤ 9223372036854775807) ∧ (-9223372036854775808 ≤ x.c ∧ x.c ≤ 9223372036854775807) ∧ (-9223372036854775808 ≤ x.o ∧ x.o ≤ 9223372036854775807)
/-- A slice of them. -/
def AcAt (W : World) (a : Option Addr) (len : Nat) (l : List Ac) : Prop :=
  l.length = len ∧ ∀ (i : Nat) (x : Ac), l[i]? = some x → ∃ b off, a = some ⟨b, off, none⟩ ∧ b < W.heap.size ∧ W.rangeAt b (off + i * 3) x.vals ∧ x.small
theorem AcAt.same {W W' : World} {a : Option Addr} {len : Nat} {l : List Ac} (h : AcAt W a len l) (ho : Only (fun _ => False) W W') : AcAt W' a len l :=
  ⟨h.1, fun i x hx => by
    obtain ⟨b, off, e, hb, h1, h2⟩ := h.2 i x hx
    exact ⟨b, off, e, Nat.lt_of_lt_of_le hb ho.size, fun j v hv => ho.cellv (h1 j v hv) (fun h => h), h2⟩⟩
theorem wf_bounds {z : Int} (h : (Lit.int .i64 z).wf = true) : -9223372036854775808 ≤ z ∧ z ≤ 9223372036854775807 := bounds_i64 h
theorem open_acts {H : Type} {enc : TypeId × Value → H} {W : World} {spare : Nat → Bool} {fuel : Nat} {a0 : Option Addr} {len cap : Nat} {x : DataW H × List MemPlace}
    (h : DataW.trod enc Tryd.prog W 0 spare true fuel 46 [.slice a0 len cap] = some x) : len ≤ cap ∧ cap ≤ 9223372036854775807 ∧ ∃ l, AcAt W a0 len l := by
  obtain ⟨h1, h2, h3⟩ := open_structs Tryd.underlying46 Tryd.underlying54 (by kernel_rfl) (by kernel_rfl) h
  refine ⟨h1, h2, ?_⟩
  have each : ∀ i, i < len → ∃ y : Ac, ∃ b off, a0 = some ⟨b, off, none⟩ ∧ b < W.heap.size ∧ W.rangeAt b (off + i * 3) y.vals ∧ y.small := by
    intro i hi
    obtain ⟨a, rfl, vs, n, hl, hc, hf⟩ := h3 i hi
    obtain ⟨v0, y0, e0, t0⟩ := hf 0 _ rfl
    obtain ⟨v1, y1, e1, t1⟩ := hf 1 _ rfl
    obtain ⟨v2, y2, e2, t2⟩ := hf 2 _ rfl
    obtain ⟨k0, f0, _, hw0⟩ := DataW.trod_int Tryd.underlying3 t0
    obtain ⟨k1, f1, _, hw1⟩ := DataW.trod_int Tryd.underlying3 t1
    obtain ⟨k2, f2, _, hw2⟩ := DataW.trod_int Tryd.underlying3 t2
    simp only [List.cons.injEq, and_true] at f0 f1 f2
    subst f0 f1 f2
    obtain ⟨b, off, spot⟩ := a
    have hadd : ∀ q, (⟨b, off, none⟩ : Addr).add q = ⟨b, off + q, none⟩ := fun q => by unfold Addr.add; split <;> simp_all
    obtain rfl : spot = none := by
      obtain ⟨a', ea, vs', _, _, hc', hf'⟩ := h3 0 (by omega)
      injection ea with ea
      subst ea
      obtain ⟨_, _, e0', _⟩ := hf' 0 _ rfl
      have := World.cell?_spot (hc' 0 _ e0')
      simpa [Addr.add] using this
    refine ⟨⟨k0, k1, k2⟩, b, off, rfl, ?_, fun j v hv => ?_, wf_bounds hw0, wf_bounds hw1, wf_bounds hw2⟩
    · have := World.block_lt_of_cell? W _ (hc 0 _ e0)
      rwa [block_add] at this
    · rw [Nat.add_assoc, ← hadd]
      refine hc j v ?_
      match j, hv with
      | 0, hv => simp only [Ac.vals, List.getElem?_cons_zero, Option.some.injEq] at hv; rw [e0, hv]
      | 1, hv => simp only [Ac.vals, List.getElem?_cons_succ, List.getElem?_cons_zero, Option.some.injEq] at hv; rw [e1, hv]
      | 2, hv => simp only [Ac.vals, List.getElem?_cons_succ, List.getElem?_cons_zero, Option.some.injEq] at hv; rw [e2, hv]
  exact list_of each

/-- A policy. -/
structure Po where
  a1 : Option Addr
  n1 : Nat
  c1 : Nat
  a2 : Option Addr
  n2 : Nat
  c2 : Nat
  us : List Int
  hims : List Int
@[reducible] def Po.val (x : Po) : Value := .agg #[.slice x.a1 x.n1 x.c1, .slice x.a2 x.n2 x.c2]
def Po.At (W : World) (x : Po) : Prop := Ints W x.a1 x.n1 x.us ∧ Ints W x.a2 x.n2 x.hims
theorem open_policy {H : Type} {enc : TypeId × Value → H} {W : World} {r : Reach} {b0 : Nat} {v : Value} {d : DataW H} {p : List MemPlace}
    (hv : Value.okWide Tryd.prog W r b0 45 v) (h : DataW.Trod enc Tryd.prog W 0 (fun _ => true) true 45 v d p) :
    ∃ x : Po, v = x.val ∧ x.At W := by
  unfold Value.okWide at hv
  rw [Tryd.underlying45] at hv
  obtain ⟨cs, rfl, hsz, _⟩ := hv
  obtain ⟨fuel, hf⟩ := h
  obtain ⟨ys, k, _, _, _, hyl, hel⟩ := DataW.trod_struct Tryd.underlying45 hf
  obtain ⟨l⟩ := cs
  have hl2 : l.length = 2 := by
    have : Tryd.prog.cellsOf 45 = 2 := by kernel_rfl
    rw [this] at hsz
    simpa using hsz
  match l, hl2, hel with
  | [v0, v1], _, hel =>
    have hy : ∀ i, i < 2 → ∃ y, ys[i]? = some y := fun i hi => ⟨_, List.getElem?_eq_getElem (by rw [hyl]; exact hi)⟩
    have h0 := hel 0 _ rfl
    have h1 := hel 1 _ rfl
    obtain ⟨y0, e0⟩ := hy 0 (by omega)
    obtain ⟨y1, e1⟩ := hy 1 (by omega)
    rw [e0] at h0
    rw [e1] at h1
    replace h0 : DataW.trod enc Tryd.prog W 0 (fun _ => true) true k 43 [v0] = some y0 := h0
    replace h1 : DataW.trod enc Tryd.prog W 0 (fun _ => true) true k 43 [v1] = some y1 := h1
    obtain ⟨A, n, c, zs, rfl, hz, _⟩ := opened_ints h0
    obtain ⟨A', n', c', zs', rfl, hz', _⟩ := opened_ints h1
    exact ⟨⟨A, n, c, A', n', c', zs, zs'⟩, rfl, hz, hz'⟩

/-- What an act does. -/
def Tb.step (ag : Nat → Nat → Bool) (t : Tb) (a : Ac) : Tb :=
  if a.k = 0 then (if (251 ≤ a.c ∧ a.c ≤ 254) ∧ 0 ≤ a.o ∧ a.o ≤ 255 then (t.hear ag a.c.toNat a.o.toNat).1 else t)
  else if a.k = 1 ∨ a.k = 2 then (if (a.c = 0 ∨ a.c = 1) ∧ 0 ≤ a.o ∧ a.o ≤ 255 then (match t.ask a.c.toNat a.o.toNat (decide (a.k = 1)) with | some r => r.1 | none => t) else t)
  else t
theorem sentN_le (k : Nat) : sentN k ≤ 1 := by unfold sentN; split <;> omega
theorem Tb.step_counts (ag : Nat → Nat → Bool) (t : Tb) (a : Ac) (h : t.sent ≤ t.heard + t.asked) : (t.step ag a).sent ≤ (t.step ag a).heard + (t.step ag a).asked ∧ (t.step ag a).heard + (t.step ag a).asked ≤ t.heard + t.asked + 1 := by
  unfold Tb.step
  split
  · split
    · simp only [Tb.hear]
      have := sentN_le (hearQ (t.st (sideV a.c.toNat) a.o.toNat) (forV a.c.toNat) (ag (sideV a.c.toNat) a.o.toNat)).2.1
      omega
    · omega
  · split
    · split
      · simp only [Tb.ask]
        cases askQ (t.st a.c.toNat a.o.toNat) (decide (a.k = 1)) with
        | none => simp; omega
        | some m =>
          have := sentN_le m.2
          simp
          omega
      · omega
    · omega
theorem setQ_ne {f : Nat → Nat → Qs} {s o s' o' : Nat} {q : Qs} (h : o' ≠ o) : setQ f s o q s' o' = f s' o' := by unfold setQ; rw [if_neg (fun e => h e.2)]
theorem Tb.step_get (ag : Nat → Nat → Bool) (t : Tb) (a : Ac) (s : Int) (o : Int) (h : a.o ≠ o) : (t.step ag a).get s o = t.get s o := by
  unfold Tb.get
  split
  · next hv =>
    have hne : o.toNat ≠ a.o.toNat ∨ ¬ (0 ≤ a.o ∧ a.o ≤ 255) := by omega
    unfold Tb.step
    split
    · split
      · next h2 =>
        simp only [Tb.hear]
        exact setQ_ne (by omega)
      · rfl
    · split
      · split
        · next h2 =>
          simp only [Tb.ask]
          cases askQ (t.st a.c.toNat a.o.toNat) (decide (a.k = 1)) with
          | none => rfl
          | some m => exact setQ_ne (by omega)
        · rfl
      · rfl
  · rfl
theorem Tb.step_same (ag : Nat → Nat → Bool) (t u : Tb) (a : Ac) (h : ∀ s : Int, t.get s a.o = u.get s a.o) : ∀ s : Int, (t.step ag a).get s a.o = (u.step ag a).get s a.o := by
  intro s
  by_cases hv : 0 ≤ a.o ∧ a.o ≤ 255
  · have hst : ∀ s : Nat, s < 2 → t.st s a.o.toNat = u.st s a.o.toNat := fun s hs => by
      have := h (s : Int)
      unfold Tb.get at this
      rw [if_pos ⟨by omega, hv⟩, if_pos ⟨by omega, hv⟩] at this
      simpa using this
    unfold Tb.get
    by_cases hs : s = 0 ∨ s = 1
    · rw [if_pos ⟨hs, hv⟩, if_pos ⟨hs, hv⟩]
      have hs2 : s.toNat < 2 := by omega
      unfold Tb.step
      split
      · split
        · simp only [Tb.hear]
          have h1 := hst (sideV a.c.toNat) (sideV_lt _)
          unfold setQ
          split
          · rw [h1]
          · exact hst _ hs2
        · exact hst _ hs2
      · split
        · split
          · next hc =>
            simp only [Tb.ask]
            have h1 := hst a.c.toNat (by omega)
            rw [← h1]
            cases askQ (t.st a.c.toNat a.o.toNat) (decide (a.k = 1)) with
            | none => exact hst _ hs2
            | some m =>
              simp only [Option.map_some, setQ]
              split
              · rfl
              · exact hst _ hs2
          · exact hst _ hs2
        · exact hst _ hs2
    · rw [if_neg (fun h => hs h.1), if_neg (fun h => hs h.1)]
  · rw [Tb.get_no _ (fun h => hv h.2), Tb.get_no _ (fun h => hv h.2)]

theorem tb_facts {W : World} {l : List (String × DataW Unit)} (h : laidMet Tryd.prog l W) {nm1 nm2 nm3 nm4 : String} {d1 d2 d3 d4 : DataW Unit} (h1 : ("truchman/api.ErrForm", .iface nm1 d1) ∈ l) (h2 : ("truchman/api.ErrState", .iface nm2 d2) ∈ l)
    (h3 : ("truchman/qstate.rows", Rows.laid_truchman_qstate_rows) ∈ l) (h4 : ("truchman/api.ErrKind", .iface nm3 d3) ∈ l) (h5 : ("truchman/api.ErrRange", .iface nm4 d4) ∈ l) (h6 : ("truchman/table.verbs", Rows.laid_truchman_table_verbs) ∈ l) : TbW W := by
  refine ⟨qs_facts h h1 h2 h3, ?_, ?_, ?_⟩
  · have := plain_of h h6 (g := 18) (t := 128) 6 (by kernel_rfl) (by kernel_rfl) (by kernel_rfl)
    have e : flatD Rows.laid_truchman_table_verbs = verbsC := by
      simp only [Rows.laid_truchman_table_verbs, flatD, flatDs, verbsC]
      rfl
    rw [e] at this
    exact this
  · exact err_of h (g := 1) h4 (by kernel_rfl) (by kernel_rfl) Tryd.underlying28
  · exact err_of h (g := 2) h5 (by kernel_rfl) (by kernel_rfl) Tryd.underlying28
end Go.Proofs.YthbmhoeaimdjmaaDoor
