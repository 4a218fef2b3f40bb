/- QstateRests: what came in, opened; the walk. -/
import Derived.Test.YthfancfmmphakaaDoorQsRests
import Derived.Test.YthfancfmmphakaaDoorQsStillL
namespace Go.Proofs.YthfancfmmphakaaDoor
open Go Go.ChangeShapes Go.WideShapes Go.ChangeAt Go.RowKit
set_option maxRecDepth 100000

theorem open_agree {H : Type} {enc : TypeId × Value → H} {W : World} {r : Reach} {b0 : Nat} {v : Value} {d : DataW H} {p : List MemPlace}
    (hv : Value.okWide Tryd.prog W r b0 35 v) (h : DataW.Trod enc Tryd.prog W 0 (fun _ => true) true 35 v d p) :
    ∃ (a b : Bool), v = agVal a b ∧ True := by
  unfold Value.okWide at hv
  rw [Tryd.underlying35] at hv
  obtain ⟨cs, rfl, hsz, _⟩ := hv
  obtain ⟨fuel, hf⟩ := h
  obtain ⟨ys, k, _, _, _, hyl, hel⟩ := DataW.trod_array Tryd.underlying35 hf
  obtain ⟨l⟩ := cs
  have hl2 : l.length = 2 := by
    have : Tryd.prog.cellsOf 35 = 2 := by kernel_rfl
    rw [this] at hsz
    simpa using hsz
  match l, hl2, hel with
  | [v0, v1], _, hel =>
    have hc : Tryd.prog.cellsOf 4 = 1 := by kernel_rfl
    have hy : ∀ i, i < 2 → ∃ y, ys[i]? = some y := fun i hi => ⟨_, List.getElem?_eq_getElem (by rw [hyl]; exact hi)⟩
    obtain ⟨y0, e0⟩ := hy 0 (by omega)
    obtain ⟨y1, e1⟩ := hy 1 (by omega)
    have h0 := hel 0 (by omega)
    have h1 := hel 1 (by omega)
    rw [hc, e0] at h0
    rw [hc, e1] at h1
    replace h0 : DataW.trod enc Tryd.prog W 0 (fun _ => true) true k 4 [v0] = some y0 := h0
    replace h1 : DataW.trod enc Tryd.prog W 0 (fun _ => true) true k 4 [v1] = some y1 := h1
    obtain ⟨z0, q0, _⟩ := DataW.trod_bool Tryd.underlying4 h0
    obtain ⟨z1, q1, _⟩ := DataW.trod_bool Tryd.underlying4 h1
    obtain rfl : v0 = .bool z0 := by simpa using q0
    obtain rfl : v1 = .bool z1 := by simpa using q1
    exact ⟨z0, z1, rfl, trivial⟩

theorem qstateRests_facts {W : World} (h : laidMetH Tryd.prog Rows.qstateRestsRow.laid W) : QsW W := by
  rw [MakeChecks.laidMetH_plain _ _ _ (by kernel_rfl)] at h
  exact qs_facts (nm1 := "*errors.errorString") (nm2 := "*errors.errorString") h (by simp [Rows.qstateRestsRow, Rows.laid_truchman_api_ErrForm]; rfl) (by simp [Rows.qstateRestsRow, Rows.laid_truchman_api_ErrState]; rfl) (by simp [Rows.qstateRestsRow])

theorem qstateRests_walk (W : World) {H : Type} {enc : TypeId × Value → H} {f0 : Nat} {A : Option Addr} {n c : Nat} {x : DataW H × List MemPlace} (hf : DataW.trod enc Tryd.prog W 0 (fun _ => true) true f0 34 [.slice A n c] = some x)
    {a b : Bool} (_ : True) (hT : QsW W) : Calls Tryd.prog 4 #[.slice A n c, agVal a b] W (Fine W) := by
  obtain ⟨A', n', c', zs, e1, h1, h2, h3⟩ := opened_ints hf
  injection e1 with e1 e2 e3
  subst e1 e2 e3
  by_cases h : 60 < n
  · exact rests_long hT A n c a b h
  · exact rests_ok hT A n c zs h1 a b (by omega)
end Go.Proofs.YthfancfmmphakaaDoor
