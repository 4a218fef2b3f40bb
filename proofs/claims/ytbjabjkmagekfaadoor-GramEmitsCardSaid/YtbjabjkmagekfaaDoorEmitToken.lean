/- Package emit: Token. -/
import Derived.Test.YtbjabjkmagekfaaDoorEmitOne
namespace Go.Proofs.YtbjabjkmagekfaaDoor
open Go Go.RowKit
set_option maxRecDepth 100000
set_option maxHeartbeats 4000000

theorem Told.from_ {w w1 w' : World} {es : List Addr} {e : Ending} {bs : List UInt8} {num : Nat} (h : Told w1 w' es e bs num) (ho : Only (fun _ => False) w w1) : Told w w' es e bs num := by
  obtain ⟨A, c, E, he, hb, hE, ho1⟩ := h
  exact ⟨A, c, E, he, own_mono hb.out ho.size, hE, ho.trans ho1.out (fun _ h => h.elim)⟩

/-- What a token's kind answers. -/
theorem token_any {w : World} {es : List Addr} (hes : ErrsOf w [0, 3, 8] es) (k c o : Int) (b : List UInt8) (cut : Bool) {A : Option Addr} {n cap : Nat} (hs : Src w A n b) :
    Calls Tryd.prog 28 #[.agg #[.int .i64 k, .int .i64 c, .int .i64 o, .slice A n cap, .bool cut]] w fun e w' => Told w w' es e (tkBytes ⟨k, c, o, b, cut⟩) (tkNum ⟨k, c, o, b, cut⟩) := by
  have hO : Only (fun _ => False) w (w.alloc (.cells #[.int .i64 k, .int .i64 c, .int .i64 o, .slice A n cap, .bool cut] 48)) := (Only.refl _ w).alloc _
  have he := hes.only hO
  have hs' := hs.only hO (fun _ _ _ h => h)
  by_cases h1 : k = 1
  · subst h1
    have C := Lib.hid (one_any he c o b cut)
    clear hes hs he hs'
    go_enter Tryd.func28, Tryd.ntmps28
    go_wp2_with (go_at_call 35; refine C.out.mono ?_; rintro e w2 ⟨A1, c1, E1, rfl, hb1, he1, ho1⟩)
    go_ret2
    exact Told.from_ ⟨A1, c1, E1, rfl, hb1, he1, ho1⟩ hO
  · by_cases h2 : k = 2
    · subst h2
      have C := Lib.hid (plain_any he c o b cut)
      clear hes hs he hs' h1
      go_enter Tryd.func28, Tryd.ntmps28
      go_wp2_with (go_at_call 36; refine C.out.mono ?_; rintro e w2 ⟨A1, c1, E1, rfl, hb1, he1, ho1⟩)
      go_ret2
      exact Told.from_ ⟨A1, c1, E1, rfl, hb1, he1, ho1⟩ hO
    · by_cases h3 : k = 3
      · subst h3
        have C := Lib.hid (verb3_any he c o b cut)
        clear hes hs he hs' h1 h2
        go_enter Tryd.func28, Tryd.ntmps28
        go_wp2_with (go_at_call 37; refine C.out.mono ?_; rintro e w2 ⟨A1, c1, E1, rfl, hb1, he1, ho1⟩)
        go_ret2
        exact Told.from_ ⟨A1, c1, E1, rfl, hb1, he1, ho1⟩ hO
      · by_cases h4 : k = 4
        · subst h4
          have C := Lib.hid (tsub_any he c o b cut (cap := cap) hs')
          clear hes hs he hs' h1 h2 h3
          go_enter Tryd.func28, Tryd.ntmps28
          go_wp2_with (go_at_call 38; refine C.out.mono ?_; rintro e w2 ⟨A1, c1, E1, rfl, hb1, he1, ho1⟩)
          go_ret2
          exact Told.from_ ⟨A1, c1, E1, rfl, hb1, he1, ho1⟩ hO
        · have hn : tkNum ⟨k, c, o, b, cut⟩ = 9 := by simp [tkNum, h1, h2, h3, h4]
          have hb : tkBytes ⟨k, c, o, b, cut⟩ = [] := by simp [tkBytes, hn]
          rw [hn, hb]
          obtain ⟨a, ha, hc⟩ := errKind_at he
          unfold errV at hc
          have d1 : (k == 1) = false := by simpa using h1
          have d2 : (k == 2) = false := by simpa using h2
          have d3 : (k == 3) = false := by simpa using h3
          have d4 : (k == 4) = false := by simpa using h4
          clear hes hs he hs' h1 h2 h3 h4 hn hb
          go_enter Tryd.func28, Tryd.ntmps28
          go_wp2_with fail
          go_quiet (fail)
          go_wp2
          go_ret2
          exact Told.none_ ha 9 rfl (hO.drewN _)
end Go.Proofs.YtbjabjkmagekfaaDoor
