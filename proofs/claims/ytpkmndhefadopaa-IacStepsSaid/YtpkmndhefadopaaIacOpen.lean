/- A token that came in by value; IacSteps, whatever it is called with. -/
import Derived.Test.YtpkmndhefadopaaIacSteps
namespace Go.Proofs.Ytpkmndhefadopaa
open Go Go.ChangeShapes Go.WideShapes Go.ChangeAt Go.RowKit
set_option maxRecDepth 100000

theorem open_tok {H : Type} {enc : TypeId × Value → H} {W : World} {r : Reach} {b0 : Nat} {v : Value} {d : DataW H} {p : List MemPlace}
    (hv : Value.okWide Try.prog W r b0 35 v) (h : DataW.Trod enc Try.prog W 0 (fun _ => true) true 35 v d p) :
    ∃ (X : Tk) (A : Option Addr) (n cap : Nat), v = tkVal X.kind X.code X.opt A n cap X.cut ∧ Reads W (.slice A n cap) X.body := by
  unfold Value.okWide at hv
  rw [Try.underlying35] at hv
  obtain ⟨cs, rfl, hsz, _⟩ := hv
  obtain ⟨fuel, hf⟩ := h
  obtain ⟨ys, k, _, _, _, hyl, hel⟩ := DataW.trod_struct Try.underlying35 hf
  obtain ⟨l⟩ := cs
  have hl5 : l.length = 5 := by
    have : Try.prog.cellsOf 35 = 5 := by kernel_rfl
    rw [this] at hsz
    simpa using hsz
  match l, hl5, hel with
  | [v0, v1, v2, v3, v4], _, hel =>
    have hy : ∀ i, i < 5 → ∃ y, ys[i]? = some y := fun i hi => ⟨_, List.getElem?_eq_getElem (by rw [hyl]; exact hi)⟩
    have h0 := hel 0 _ rfl
    have h1 := hel 1 _ rfl
    have h2 := hel 2 _ rfl
    have h3 := hel 3 _ rfl
    have h4 := hel 4 _ rfl
    obtain ⟨y0, e0⟩ := hy 0 (by omega)
    obtain ⟨y1, e1⟩ := hy 1 (by omega)
    obtain ⟨y2, e2⟩ := hy 2 (by omega)
    obtain ⟨y3, e3⟩ := hy 3 (by omega)
    obtain ⟨y4, e4⟩ := hy 4 (by omega)
    rw [e0] at h0
    rw [e1] at h1
    rw [e2] at h2
    rw [e3] at h3
    rw [e4] at h4
    replace h0 : DataW.trod enc Try.prog W 0 (fun _ => true) true k 3 [v0] = some y0 := h0
    replace h1 : DataW.trod enc Try.prog W 0 (fun _ => true) true k 3 [v1] = some y1 := h1
    replace h2 : DataW.trod enc Try.prog W 0 (fun _ => true) true k 3 [v2] = some y2 := h2
    replace h3 : DataW.trod enc Try.prog W 0 (fun _ => true) true k 22 [v3] = some y3 := h3
    replace h4 : DataW.trod enc Try.prog W 0 (fun _ => true) true k 4 [v4] = some y4 := h4
    obtain ⟨z0, q0, _⟩ := DataW.trod_int Try.underlying3 h0
    obtain ⟨z1, q1, _⟩ := DataW.trod_int Try.underlying3 h1
    obtain ⟨z2, q2, _⟩ := DataW.trod_int Try.underlying3 h2
    obtain ⟨A, n, c, xs, q3, hs, hle, _⟩ := opened_cell (v := v3) h3
    obtain ⟨z4, q4, _⟩ := DataW.trod_bool Try.underlying4 h4
    obtain rfl : v0 = .int .i64 z0 := by simpa using q0
    obtain rfl : v1 = .int .i64 z1 := by simpa using q1
    obtain rfl : v2 = .int .i64 z2 := by simpa using q2
    obtain rfl : v4 = .bool z4 := by simpa using q4
    subst q3
    have hn := hs.1
    subst hn
    exact ⟨⟨z0, z1, z2, xs, z4⟩, A, _, c, rfl, A, c, rfl, hs, hle⟩

theorem iacSteps_walk (W : World) {H : Type} {enc : TypeId × Value → H} {fuel : Nat} {A : Option Addr} {n c : Nat} {x : DataW H × List MemPlace} (hf : DataW.trod enc Try.prog W 0 (fun _ => true) true fuel 22 [.slice A n c] = some x)
    {X Y : Tk} {xA yA : Option Addr} {xn xcap yn ycap : Nat} (hX : Reads W (.slice xA xn xcap) X.body) (hY : Reads W (.slice yA yn ycap) Y.body) :
    Calls Try.prog 4 #[.slice A n c, tkVal X.kind X.code X.opt xA xn xcap X.cut, tkVal Y.kind Y.code Y.opt yA yn ycap Y.cut] W (Fine W) := by
  obtain ⟨A', n', c', xs, e, h1, h2, h3⟩ := opened_cell hf
  injection e with e1 e2 e3
  subst e1 e2 e3
  by_cases h : 400 < n ∨ 300 < xn ∨ 300 < yn
  · exact steps_long W A n c _ _ _ _ _ _ xA yA xn xcap yn ycap _ _ h
  · exact steps_ok W A n c xs h1 h2 h3 X Y xA yA xn xcap yn ycap hX hY (by omega) (by omega) (by omega)
end Go.Proofs.Ytpkmndhefadopaa
