/- Several texts in one. -/
import Derived.Test.YtlmkpembccehkaaGreatDoorJOpenBytes
import Derived.Test.YtlmkpembccehkaaGreatDoorJRefuse
import Derived.Test.YtlmkpembccehkaaGreatDoorJSnModeK
import Derived.Test.YtlmkpembccehkaaGreatDoorSnKeepsL
import Derived.Test.YtlmkpembccehkaaGreatDoorJTexts
import Derived.Test.YtlmkpembccehkaaGreatDoorJSnTurned
/- What both laws' rows list; a size that came in. -/
namespace Go.Proofs.YtlmkpembccehkaaGreatDoor
open Go Go.ChangeShapes Go.WideShapes Go.ChangeAt Go.RowKit
set_option maxRecDepth 100000
set_option maxHeartbeats 4000000

theorem subnegTypes_facts {W : World} (h : laidMetH Tryz.prog Rows.subnegTypesRow.laid W) : TbW W ∧ ∃ es, ErrsAt W es := by
  rw [MakeChecks.laidMetH_plain _ _ _ (by kernel_rfl)] at h
  have h : laidMet Tryz.prog Rows.subnegTypesRow.laid W := h
  refine ⟨tb_facts (nm1 := "*errors.errorString") (nm2 := "*errors.errorString") (nm3 := "*errors.errorString") (nm4 := "*errors.errorString") h (by simp [Rows.subnegTypesRow, Rows.laid_truchman_api_ErrForm]; rfl) (by simp [Rows.subnegTypesRow, Rows.laid_truchman_api_ErrState]; rfl) (by simp [Rows.subnegTypesRow]) (by simp [Rows.subnegTypesRow, Rows.laid_truchman_api_ErrKind]; rfl) (by simp [Rows.subnegTypesRow, Rows.laid_truchman_api_ErrRange]; rfl) (by simp [Rows.subnegTypesRow]), ?_⟩
  have h9 : laidMet Tryz.prog (Rows.subnegTypesRow.laid.take 9) W := laid_front (l2 := Rows.subnegTypesRow.laid.drop 9) (by rw [List.take_append_drop]; exact h)
  obtain ⟨es, hes⟩ := errs_of_sel errSel (Rows.subnegTypesRow.laid.take 9) h9 (by kernel_rfl) (by decide) (by
    intro x hx
    simp only [Rows.subnegTypesRow, List.take_succ_cons, List.take_zero, List.mem_cons, List.not_mem_nil, or_false] at hx
    rcases hx with rfl | rfl | rfl | rfl | rfl | rfl | rfl | rfl | rfl <;> exact ⟨_, rfl⟩) (by kernel_rfl) (by decide)
  exact ⟨es, hes.all⟩
theorem subnegKeeps_facts {W : World} (h : laidMetH Tryz.prog Rows.subnegKeepsRow.laid W) : TbW W ∧ ∃ es, ErrsAt W es := by
  rw [MakeChecks.laidMetH_plain _ _ _ (by kernel_rfl)] at h
  have h : laidMet Tryz.prog Rows.subnegKeepsRow.laid W := h
  refine ⟨tb_facts (nm1 := "*errors.errorString") (nm2 := "*errors.errorString") (nm3 := "*errors.errorString") (nm4 := "*errors.errorString") h (by simp [Rows.subnegKeepsRow, Rows.laid_truchman_api_ErrForm]; rfl) (by simp [Rows.subnegKeepsRow, Rows.laid_truchman_api_ErrState]; rfl) (by simp [Rows.subnegKeepsRow]) (by simp [Rows.subnegKeepsRow, Rows.laid_truchman_api_ErrKind]; rfl) (by simp [Rows.subnegKeepsRow, Rows.laid_truchman_api_ErrRange]; rfl) (by simp [Rows.subnegKeepsRow]), ?_⟩
  have h9 : laidMet Tryz.prog (Rows.subnegKeepsRow.laid.take 9) W := laid_front (l2 := Rows.subnegKeepsRow.laid.drop 9) (by rw [List.take_append_drop]; exact h)
  obtain ⟨es, hes⟩ := errs_of_sel errSel (Rows.subnegKeepsRow.laid.take 9) h9 (by kernel_rfl) (by decide) (by
    intro x hx
    simp only [Rows.subnegKeepsRow, List.take_succ_cons, List.take_zero, List.mem_cons, List.not_mem_nil, or_false] at hx
    rcases hx with rfl | rfl | rfl | rfl | rfl | rfl | rfl | rfl | rfl <;> exact ⟨_, rfl⟩) (by kernel_rfl) (by decide)
  exact ⟨es, hes.all⟩
theorem open_size {H : Type} {enc : TypeId × Value → H} {W : World} {r : Reach} {b0 : Nat} {v : Value} {d : DataW H} {p : List MemPlace}
    (hv : Value.okWide Tryz.prog W r b0 23 v) (h : DataW.Trod enc Tryz.prog W 0 (fun _ => true) true 23 v d p) :
    ∃ (x y : Int), v = szVal x y ∧ True := by
  unfold Value.okWide at hv
  rw [Tryz.underlying23] at hv
  obtain ⟨cs, rfl, hsz, _⟩ := hv
  obtain ⟨fuel, hf⟩ := h
  obtain ⟨ys, k, _, _, _, hyl, hel⟩ := DataW.trod_struct Tryz.underlying23 hf
  obtain ⟨l⟩ := cs
  have hl2 : l.length = 2 := by
    have : Tryz.prog.cellsOf 23 = 2 := by kernel_rfl
    rw [this] at hsz
    simpa using hsz
  match l, hl2, hel with
  | [v0, v1], _, hel =>
    have hy : ∀ i, i < 2 → ∃ y, ys[i]? = some y := fun i hi => ⟨_, List.getElem?_eq_getElem (by rw [hyl]; exact hi)⟩
    have h0 := hel 0 _ rfl
    have h1 := hel 1 _ rfl
    obtain ⟨y0, e0⟩ := hy 0 (by omega)
    obtain ⟨y1, e1⟩ := hy 1 (by omega)
    rw [e0] at h0
    rw [e1] at h1
    replace h0 : DataW.trod enc Tryz.prog W 0 (fun _ => true) true k 3 [v0] = some y0 := h0
    replace h1 : DataW.trod enc Tryz.prog W 0 (fun _ => true) true k 3 [v1] = some y1 := h1
    obtain ⟨z0, q0, _, _⟩ := DataW.trod_int Tryz.underlying3 h0
    obtain ⟨z1, q1, _, _⟩ := DataW.trod_int Tryz.underlying3 h1
    obtain rfl : v0 = .int .i64 z0 := by simpa using q0
    obtain rfl : v1 = .int .i64 z1 := by simpa using q1
    exact ⟨z0, z1, rfl, trivial⟩

@[reducible] def fourVal (a b d e : UInt8) : Value := .agg #[B8 a, B8 b, B8 d, B8 e]
end Go.Proofs.YtlmkpembccehkaaGreatDoor
/- A config that came in; a slice of tokens that came in. -/
namespace Go.Proofs.YtlmkpembccehkaaGreatDoor
open Go Go.ChangeShapes Go.WideShapes Go.ChangeAt Go.RowKit
set_option maxRecDepth 100000

theorem cell_slice {H : Type} {enc : TypeId × Value → H} {W : World} {spare : Nat → Bool} {fuel : Nat} {t e : TypeId} {v : Value} {x : DataW H × List MemPlace} (ht : Tryz.prog.underlying t = some (.slice e)) (hf : DataW.trod enc Tryz.prog W 0 spare true fuel t [v] = some x) : ∃ A n c, v = .slice A n c := by
  obtain ⟨d, p⟩ := x
  rcases Go.Deep.open_slice ht hf with ⟨h, _⟩ | ⟨a, len, cap, _, _, _, _, h, _⟩
  all_goals
    simp only [List.cons.injEq, and_true] at h
    exact ⟨_, _, _, h⟩
theorem open_cfg {H : Type} {enc : TypeId × Value → H} {W : World} {r : Reach} {b0 : Nat} {v : Value} {d : DataW H} {p : List MemPlace}
    (hv : Value.okWide Tryz.prog W r b0 27 v) (h : DataW.Trod enc Tryz.prog W 0 (fun _ => true) true 27 v d p) :
    ∃ (cc cr : Int) (A : Option Addr) (n cA : Nat) (B : Option Addr) (m cB : Nat) (can : Int), v = cfV cc cr A n cA B m cB can ∧ ∃ ts l, TSrc W A n ts ∧ n ≤ cA ∧ cA ≤ 9223372036854775807 ∧ StAt W B m l ∧ m ≤ cB ∧ cB ≤ 9223372036854775807 := by
  unfold Value.okWide at hv
  rw [Tryz.underlying27] at hv
  obtain ⟨cs, rfl, hsz, _⟩ := hv
  obtain ⟨fuel, hf⟩ := h
  obtain ⟨ys, k, _, _, _, hyl, hel⟩ := DataW.trod_struct Tryz.underlying27 hf
  obtain ⟨l⟩ := cs
  have hl5 : l.length = 5 := by
    have : Tryz.prog.cellsOf 27 = 5 := by kernel_rfl
    rw [this] at hsz
    simpa using hsz
  match l, hl5, hel with
  | [v0, v1, v2, v3, v4], _, hel =>
    have hy : ∀ i, i < 4 → ∃ y, ys[i]? = some y := fun i hi => ⟨_, List.getElem?_eq_getElem (by rw [hyl]; exact hi)⟩
    have h0 := hel 0 _ rfl
    have h1 := hel 1 _ rfl
    have h2 := hel 2 _ rfl
    have h3 := hel 3 _ rfl
    obtain ⟨y0, e0⟩ := hy 0 (by omega)
    obtain ⟨y1, e1⟩ := hy 1 (by omega)
    obtain ⟨y2, e2⟩ := hy 2 (by omega)
    obtain ⟨y3, e3⟩ := hy 3 (by omega)
    rw [e0] at h0
    rw [e1] at h1
    rw [e2] at h2
    rw [e3] at h3
    replace h0 : DataW.trod enc Tryz.prog W 0 (fun _ => true) true k 23 [v0, v1] = some y0 := h0
    replace h1 : DataW.trod enc Tryz.prog W 0 (fun _ => true) true k 24 [v2] = some y1 := h1
    replace h2 : DataW.trod enc Tryz.prog W 0 (fun _ => true) true k 25 [v3] = some y2 := h2
    replace h3 : DataW.trod enc Tryz.prog W 0 (fun _ => true) true k 3 [v4] = some y3 := h3
    obtain ⟨yz, kz, _, _, _, hylz, helz⟩ := DataW.trod_struct Tryz.underlying23 h0
    have hyz : ∀ i, i < 2 → ∃ y, yz[i]? = some y := fun i hi => ⟨_, List.getElem?_eq_getElem (by rw [hylz]; exact hi)⟩
    have g0 := helz 0 _ rfl
    have g1 := helz 1 _ rfl
    obtain ⟨z0, f0⟩ := hyz 0 (by omega)
    obtain ⟨z1, f1⟩ := hyz 1 (by omega)
    rw [f0] at g0
    rw [f1] at g1
    replace g0 : DataW.trod enc Tryz.prog W 0 (fun _ => true) true kz 3 [v0] = some z0 := g0
    replace g1 : DataW.trod enc Tryz.prog W 0 (fun _ => true) true kz 3 [v1] = some z1 := g1
    obtain ⟨x0, q0, _, _⟩ := DataW.trod_int Tryz.underlying3 g0
    obtain ⟨x1, q1, _, _⟩ := DataW.trod_int Tryz.underlying3 g1
    obtain ⟨x4, q4, _, _⟩ := DataW.trod_int Tryz.underlying3 h3
    obtain rfl : v0 = .int .i64 x0 := by simpa using q0
    obtain rfl : v1 = .int .i64 x1 := by simpa using q1
    obtain rfl : v4 = .int .i64 x4 := by simpa using q4
    obtain ⟨A, n, cA, rfl⟩ := cell_slice Tryz.underlying24 h1
    obtain ⟨B, m, cB, rfl⟩ := cell_slice Tryz.underlying25 h2
    obtain ⟨ts, ht1, ht2, ht3, _⟩ := opened_texts h1
    obtain ⟨hs1, hs2, sl, hs3⟩ := open_sets h2
    exact ⟨x0, x1, A, n, cA, B, m, cB, x4, rfl, ts, sl, ht1, ht2, ht3, hs3, hs1, hs2⟩

theorem tokS_cells {H : Type} {enc : TypeId × Value → H} {W : World} {fuel : Nat} {l : List Value} {y : DataW H × List MemPlace} (hl5 : l.length = 5) (hf : DataW.trod enc Tryz.prog W 0 (fun _ => true) true fuel 47 l = some y) :
    ∃ x : TkP, l = x.cells ∧ Src W x.ad x.t.body.length x.t.body ∧ x.t.body.length ≤ x.cap ∧ x.cap ≤ 9223372036854775807 := by
  obtain ⟨ys, k, _, _, _, hyl, hel⟩ := DataW.trod_struct Tryz.underlying47 hf
  match l, hl5, hel with
  | [v0, v1, v2, v3, v4], _, hel =>
    have hy : ∀ i, i < 5 → ∃ y, ys[i]? = some y := fun i hi => ⟨_, List.getElem?_eq_getElem (by rw [hyl]; exact hi)⟩
    have h0 := hel 0 _ rfl
    have h1 := hel 1 _ rfl
    have h2 := hel 2 _ rfl
    have h3 := hel 3 _ rfl
    have h4 := hel 4 _ rfl
    obtain ⟨y0, e0⟩ := hy 0 (by omega)
    obtain ⟨y1, e1⟩ := hy 1 (by omega)
    obtain ⟨y2, e2⟩ := hy 2 (by omega)
    obtain ⟨y3, e3⟩ := hy 3 (by omega)
    obtain ⟨y4, e4⟩ := hy 4 (by omega)
    rw [e0] at h0
    rw [e1] at h1
    rw [e2] at h2
    rw [e3] at h3
    rw [e4] at h4
    replace h0 : DataW.trod enc Tryz.prog W 0 (fun _ => true) true k 3 [v0] = some y0 := h0
    replace h1 : DataW.trod enc Tryz.prog W 0 (fun _ => true) true k 3 [v1] = some y1 := h1
    replace h2 : DataW.trod enc Tryz.prog W 0 (fun _ => true) true k 3 [v2] = some y2 := h2
    replace h3 : DataW.trod enc Tryz.prog W 0 (fun _ => true) true k 45 [v3] = some y3 := h3
    replace h4 : DataW.trod enc Tryz.prog W 0 (fun _ => true) true k 4 [v4] = some y4 := h4
    obtain ⟨z0, q0, _⟩ := DataW.trod_int Tryz.underlying3 h0
    obtain ⟨z1, q1, _⟩ := DataW.trod_int Tryz.underlying3 h1
    obtain ⟨z2, q2, _⟩ := DataW.trod_int Tryz.underlying3 h2
    obtain ⟨A, n, c, xs, q3, hs, hle, hmx⟩ := opened_cell (v := v3) h3
    obtain ⟨z4, q4, _⟩ := DataW.trod_bool Tryz.underlying4 h4
    obtain rfl : v0 = .int .i64 z0 := by simpa using q0
    obtain rfl : v1 = .int .i64 z1 := by simpa using q1
    obtain rfl : v2 = .int .i64 z2 := by simpa using q2
    obtain rfl : v4 = .bool z4 := by simpa using q4
    subst q3
    have hn := hs.1
    subst hn
    exact ⟨⟨⟨z0, z1, z2, xs, z4⟩, A, c⟩, rfl, hs, hle, hmx⟩

theorem opened_tokS {H : Type} {enc : TypeId × Value → H} {W : World} {fuel : Nat} {A : Option Addr} {n c : Nat} {x : DataW H × List MemPlace} (hf : DataW.trod enc Tryz.prog W 0 (fun _ => true) true fuel 29 [.slice A n c] = some x) :
    n ≤ c ∧ c ≤ 9223372036854775807 ∧ ∃ ps, TkS W A n ps := by
  rcases Go.Deep.open_slice Tryz.underlying29 hf with ⟨h, _⟩ | ⟨a, len, cap, m, q, D, Pl, h, _, hl, hm, hmm, _, hel⟩
  · simp at h
    obtain ⟨rfl, rfl, rfl⟩ := h
    exact ⟨Nat.le_refl _, by omega, [], rfl, fun j x hx => by cases hx⟩
  · simp at h
    obtain ⟨rfl, rfl, rfl⟩ := h
    refine ⟨hl, by unfold maxLen at hm; omega, ?_⟩
    have h5 : Tryz.prog.cellsOf 47 = 5 := by kernel_rfl
    have each : ∀ i, i < n → ∃ y : TkP, ∃ g off, some a = some ⟨g, off, none⟩ ∧ W.rangeAt g (off + i * 5) y.cells ∧ Src W y.ad y.t.body.length y.t.body ∧ y.t.body.length ≤ y.cap ∧ y.cap ≤ 9223372036854775807 := by
      intro i hi
      obtain ⟨cs, hc, htr⟩ := hel i (by split at hmm <;> omega)
      obtain ⟨_, hcl, hat⟩ := World.cells?_some hc
      rw [h5] at hcl hat
      obtain ⟨y, rfl, hr⟩ := tokS_cells hcl htr
      obtain ⟨b, off, spot⟩ := a
      obtain rfl : spot = none := by
        obtain ⟨cs0, hc0, htr0⟩ := hel 0 (by split at hmm <;> omega)
        obtain ⟨_, hcl0, hat0⟩ := World.cells?_some hc0
        rw [h5] at hcl0 hat0
        obtain ⟨y0, rfl, _⟩ := tokS_cells hcl0 htr0
        have h0 := hat0 0 (by omega)
        obtain ⟨v, hv⟩ : ∃ v, y0.cells[0]? = some v := ⟨_, rfl⟩
        rw [hv] at h0
        have := World.cell?_spot h0
        simpa [Addr.add] using this
      refine ⟨y, b, off, rfl, fun j v hv => ?_, hr⟩
      have hj : j < 5 := by have := (List.getElem?_eq_some_iff.1 hv).1; rw [hcl] at this; exact this
      have := hat j hj
      rw [hv, Go.Deep.add_add, add_none] at this
      rw [show off + i * 5 + j = off + (i * 5 + j) by omega]
      exact this
    obtain ⟨l, h1, h2⟩ := list_of each
    exact ⟨l, h1, h2⟩
theorem subnegKeeps_walk (W : World) {H : Type} {enc : TypeId × Value → H} {cc cr : Int} {A : Option Addr} {n cA : Nat} {B : Option Addr} {m cB : Nat} {can : Int}
    (hc : ∃ ts l, TSrc W A n ts ∧ n ≤ cA ∧ cA ≤ 9223372036854775807 ∧ StAt W B m l ∧ m ≤ cB ∧ cB ≤ 9223372036854775807)
    {f1 f2 : Nat} {IA KA : Option Addr} {ni ic nk kc : Nat} {x1 x2 : DataW H × List MemPlace} (h1 : DataW.trod enc Tryz.prog W 0 (fun _ => true) true f1 28 [.slice IA ni ic] = some x1) (h2 : DataW.trod enc Tryz.prog W 0 (fun _ => true) true f2 29 [.slice KA nk kc] = some x2)
    (hF : TbW W ∧ ∃ es, ErrsAt W es) : Calls Tryz.prog 3 #[cfV cc cr A n cA B m cB can, .slice IA ni ic, .slice KA nk kc] W (Fine W) := by
  obtain ⟨hT, es, hE⟩ := hF
  obtain ⟨ts, l, hts, hnc, hcA, hst, hm, hcB⟩ := hc
  obtain ⟨IA', ni', ic', zs, e, hz, _, _⟩ := opened_ints h1
  injection e with e1 e2 e3
  subst e1 e2 e3
  obtain ⟨_, _, ps, hks⟩ := opened_tokS h2
  by_cases h : snLong ts m = true ∨ 40 < ni ∨ 20 < nk
  · exact keeps_long hts (by omega) h
  · simp only [not_or, Bool.not_eq_true] at h
    cases hg : cfGood cc cr ts with
    | false => exact keeps_bad hE hts (by omega) h.1 (by omega) (by omega) hg
    | true => exact keeps_main hE hT hts (by omega) hst hm hcB hz hks h.1 (by omega) (by omega) hg
end Go.Proofs.YtlmkpembccehkaaGreatDoor
