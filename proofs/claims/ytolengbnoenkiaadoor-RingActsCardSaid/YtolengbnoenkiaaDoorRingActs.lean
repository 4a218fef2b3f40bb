/- RingActs, walked: it answers true, whatever it is called with, where the sixteen errors lie as they were laid. -/
import Derived.Test.YtolengbnoenkiaaDoorRef
import Derived.Test.YtolengbnoenkiaaDoorBytes
import Derived.Deep.RegionLaw
namespace Go.Proofs.YtolengbnoenkiaaDoor
open Go Go.RowKit
set_option maxRecDepth 100000

theorem racts_many (w : World) (room : Int) (a : Option Addr) (len cap : Nat) (hc : len ≤ 9223372036854775807) (h : 60 < len) :
    Calls Tryd.prog 3 #[.int .i64 room, .slice a len cap] w (Fine w) := by
  go_enter Tryd.func3, Tryd.ntmps3
  go_wp2_with fail
  refine (alive_any _).mono ?_
  rintro e w1 ⟨rfl, ho1⟩
  go_wp2_with fail
  refine (long_many _ a len cap hc h).mono ?_
  rintro e w2 ⟨rfl, ho2⟩
  go_wp2
  go_ret
  exact ⟨rfl, ho1.trans ho2 (fun i hi => hi.elim)⟩

theorem racts_long (w : World) (room : Int) (a : Option Addr) (len cap : Nat) (l : List ActV) (ha : Acts w a len l) (hn : len ≤ 60) (h : (l.any fun x => decide (100 < x.len)) = true) :
    Calls Tryd.prog 3 #[.int .i64 room, .slice a len cap] w (Fine w) := by
  go_enter Tryd.func3, Tryd.ntmps3
  go_wp2_with fail
  refine (alive_any _).mono ?_
  rintro e w1 ⟨rfl, ho1⟩
  go_wp2_with fail
  refine (long_few _ a len cap l (ha.only ho1) hn).mono ?_
  rw [h]
  rintro e w2 ⟨rfl, ho2⟩
  clear h ha
  go_wp2
  go_ret
  exact ⟨rfl, ho1.trans ho2 (fun i hi => hi.elim)⟩

/-- New, where the room is not right. -/
theorem new_bad {w : World} {es : List Addr} (h : ErrsAt w es) (room : Int) (hr : room < 1 ∨ 4096 < room) : ∃ a, es[0]? = some a ∧
    Calls Tryd.prog 8 #[.int .i64 room] w fun e w' => e = .returned (.tuple #[.pointer none, errV a]) ∧ ∃ q, w' = w.drewN q := by
  have h0 : es[0]? = some (es[0]'(by rw [h.len]; omega)) := List.getElem?_eq_getElem (by rw [h.len]; omega)
  refine ⟨_, h0, ?_⟩
  have c := h.at_ 0 _ _ rfl h0
  generalize es[0]'(by rw [h.len]; omega) = a at *
  unfold errV at *
  clear h0 h
  have hr' : room < 1 ∨ (1 ≤ room ∧ 4096 < room) := by omega
  rcases hr' with h1 | ⟨h1, h2⟩
  all_goals
    go_enter Tryd.func8, Tryd.ntmps8
    go_wp2_with fail
    go_quiet (fail)
    go_wp2
    go_ret2
    exact ⟨rfl, _, rfl⟩

theorem racts_bad (w : World) (room : Int) (a : Option Addr) (len cap : Nat) (l : List ActV) (ha : Acts w a len l) (hn : len ≤ 60) (h : (l.any fun x => decide (100 < x.len)) = false) {es : List Addr} (hes : ErrsAt w es) (hr : room < 1 ∨ 4096 < room) :
    Calls Tryd.prog 3 #[.int .i64 room, .slice a len cap] w (Fine w) := by
  have hr' : room < 1 ∨ (1 ≤ room ∧ 4096 < room) := by omega
  have HR := Lib.hid hr
  clear hr
  rcases hr' with h1 | ⟨h1, h2⟩
  all_goals
    go_enter Tryd.func3, Tryd.ntmps3
    go_wp2_with fail
    refine (alive_any _).mono ?_
    rintro e w1 ⟨rfl, ho1⟩
    have HO1 := Lib.hid ho1
    have HE := Lib.hid hes
    have HA := Lib.hid ha
    have HL := Lib.hid h
    clear ho1 hes ha h
    go_wp2_with fail
    refine (long_few _ a len cap l (HA.out.only HO1.out) hn).mono ?_
    rw [HL.out]
    rintro e w2 ⟨rfl, ho2⟩
    have HO2 := Lib.hid (HO1.out.trans ho2 (fun i hi => hi.elim))
    clear ho2 HO1
    go_wp2_with fail
    have hes2 := HE.out.only HO2.out
    obtain ⟨b, hb, C⟩ := new_bad hes2 room HR.out
    refine C.mono ?_
    rintro e w3 ⟨rfl, q, rfl⟩
    have N := Lib.hid (num_err (hes2.only ((Only.refl (fun _ => False) w2).drewN q)) 0 b hb)
    clear hes2 hb C
    unfold errV at *
    go_wp2_with fail
    refine N.out.mono ?_
    rintro e w4 ⟨rfl, ho4⟩
    go_wp2
    go_ret
    exact ⟨rfl, (HO2.out.drewN q).trans ho4 (fun i hi => hi.elim)⟩
end Go.Proofs.YtolengbnoenkiaaDoor
