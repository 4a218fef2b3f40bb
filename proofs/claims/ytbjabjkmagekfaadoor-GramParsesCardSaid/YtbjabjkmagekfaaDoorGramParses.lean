/- GramParses answers true, whatever it is called with. -/
import Derived.Test.YtbjabjkmagekfaaDoorGramRefT
import Derived.Test.YtbjabjkmagekfaaDoorGramLaw
import Derived.Test.YtbjabjkmagekfaaDoorOpenBytes
import Derived.Test.YtbjabjkmagekfaaDoorByt
import Derived.Deep.RegionHeldLaw
namespace Go.Proofs.YtbjabjkmagekfaaDoor
open Go Go.RowKit
set_option maxRecDepth 100000
set_option maxHeartbeats 8000000

/-- A border, as the document has it. -/
theorem border_is {raw : Bool} {xs : List UInt8} {l : List Pl} {r : Nat} (hp : parseFrom raw 0 xs = some (l, r)) (at_ : Int) :
    borderOf raw xs at_ = ((decide (0 ≤ at_) && decide (at_ ≤ (xs.length : Int))) && (decide (at_ = 0) || decide (at_ = (xs.length : Int)) || edge l at_)) := by
  obtain ⟨e, hc, he⟩ := parse_chain hp
  have hle := hc.le
  have hends := hc.ends
  have hr := (parse_rest hp).1
  rw [Bool.eq_iff_iff]
  unfold borderOf edge
  rw [hp]
  simp only [Bool.or_eq_true, Bool.and_eq_true, decide_eq_true_eq, List.any_eq_true]
  constructor
  · rintro ((h | ⟨x, hx, h⟩) | h)
    · exact ⟨by omega, .inl (.inr h)⟩
    · have := hle.2 x hx
      exact ⟨by omega, .inr ⟨x, hx, .inl h.symm⟩⟩
    · refine ⟨by omega, ?_⟩
      rcases (hends e).1 (.inl rfl) with h1 | ⟨x, hx, h1⟩
      · exact .inl (.inl (by omega))
      · exact .inr ⟨x, hx, .inr (by omega)⟩
  · rintro ⟨_, (h | h) | ⟨x, hx, h | h⟩⟩
    · rcases (hends 0).2 (.inl rfl) with h1 | ⟨x, hx, h1⟩
      · exact .inr (by omega)
      · exact .inl (.inr ⟨x, hx, by omega⟩)
    · exact .inl (.inl h)
    · exact .inl (.inr ⟨x, hx, h.symm⟩)
    · rcases (hends x.to_).2 (.inr ⟨x, hx, rfl⟩) with h1 | ⟨y, hy, h1⟩
      · exact .inr (by omega)
      · exact .inl (.inr ⟨y, hy, by omega⟩)

/-- string(b) of bytes, in every world that only grew. -/
def Saids (w : World) (A : Option Addr) (n c : Nat) (b : List UInt8) : Prop := ∀ W : World, Only (fun _ => False) w W → (convert 22 9 (.slice A n c)).run Tryd.prog W = .ok (.string ⟨b.toArray⟩) W
theorem Src.saids {w : World} {A : Option Addr} {n : Nat} {b : List UInt8} (h : Src w A n b) (c : Nat) : Saids w A n c b := fun _ ho =>
  text_of (P := Tryd.prog) (h.only ho (fun _ _ _ h => h)) c 22 9 5 Tryd.underlying22 Tryd.underlying5 Tryd.underlying9

theorem parses_long {w : World} {es : List Addr} (hes : ErrsAt w es) (A : Option Addr) (n c : Nat) (raw : Bool) (at_ : Int) (h : 900 < n) :
    Calls Tryd.prog 3 #[.slice A n c, .bool raw, .int .i64 at_] w (Fine w) := by
  have HA := Lib.hid (galive_any (hes.is_ [2, 4]))
  have d : decide ((900 : Int) < (n : Int)) = true := by simp; omega
  clear hes
  go_enter Tryd.func3, Tryd.ntmps3
  go_wp2_with (first | (go_at_call 7; refine HA.out.mono ?_; rintro e w1 ⟨rfl, ho1⟩))
  go_ret
  exact ⟨rfl, ho1⟩

theorem parses_wrong {w : World} {es : List Addr} (hes : ErrsAt w es) (A : Option Addr) (n c : Nat) (xs : List UInt8) (hs : Src w A n xs) (raw : Bool) (at_ : Int) (hn : n ≤ 900) (hp : parseFrom raw 0 xs = .none) :
    Calls Tryd.prog 3 #[.slice A n c, .bool raw, .int .i64 at_] w (Fine w) := by
  have HA := Lib.hid (galive_any (hes.is_ [2, 4]))
  have d : decide ((900 : Int) < (n : Int)) = false := by simp; omega
  have HE := Lib.hid hes
  have HS := Lib.hid hs
  have HPF := Lib.hid hp
  clear hes hs hp
  go_enter Tryd.func3, Tryd.ntmps3
  go_wp2_with (first
    | (go_at_call 7; refine HA.out.mono ?_; rintro e w1 ⟨rfl, ho1⟩; have HO1 := Lib.hid ho1; clear ho1)
    | (go_at_call 8; refine (bytes_any (HS.out.only HO1.out (fun _ _ _ h => h)) c (by omega)).mono ?_; rintro e w2 ⟨rfl, hB2, ho2⟩; have HB2 := Lib.hid hB2; have HO2 : Hid (Only (fun _ => False) w w2) := HO1.out.trans ho2 (fun _ h => h.elim); clear hB2 ho2))
  obtain ⟨N, hN⟩ : ∃ N, N = w1.heap.size := ⟨_, rfl⟩
  rw [← hN] at HB2 ⊢
  have HBk : Hid (∀ W, Only (fun _ => False) w2 W → Blk W N 5 (xs.map B8 ++ marks 5)) := fun W ho => HB2.out.only ho (fun h => h)
  have HIn : Hid (∀ W, Only (fun _ => False) w2 W → Src W (some ⟨N, 0, none⟩) n xs) := fun W ho => by
    refine (HBk.out W ho).src HS.out.1 (fun j x hj => ?_)
    rw [Nat.zero_add, List.getElem?_append_left (by rw [List.length_map]; exact (List.getElem?_eq_some_iff.1 hj).1), List.getElem?_map, hj]
    rfl
  have HSw : Hid (∀ W, Only (fun _ => False) w2 W → Src W A n xs) := fun W ho => HS.out.only (HO2.out.trans ho (fun _ h => h.elim)) (fun _ _ _ h => h)
  have HEw : Hid (∀ W, Only (fun _ => False) w2 W → ErrsAt W es) := fun W ho => HE.out.only (HO2.out.trans ho (fun _ h => h.elim))
  have HP : Hid (∀ W, Only (fun _ => False) w2 W → Calls Tryd.prog 9 #[.slice (some ⟨N, 0, none⟩) n (n + 5), .bool raw] W fun e w' => ∃ A' c' a, e = .returned (.tuple #[.slice A' 0 c', .iface 88 (.pointer (some a))]) ∧ Hid (es[4]? = some a) ∧ Hid (Only (fun _ => False) W w')) := fun W ho => parse_wrong ((HEw.out W ho).is_ [2, 4]) (HIn.out W ho) (n + 5) raw (by omega) (by omega) HPF.out
  have HT : Hid (∀ W, Only (fun _ => False) w2 W → Calls Tryd.prog 10 #[.slice (some ⟨N, 0, none⟩) n (n + 5), .bool raw] W fun e w' => ∃ A' c' a, e = .returned (.tuple #[.slice A' 0 c', .iface 88 (.pointer (some a))]) ∧ Hid (es[4]? = some a) ∧ Hid (Only (fun _ => False) W w')) := fun W ho => by
    refine (text_any (c := n + 5) ((HEw.out W ho).is_ [2, 4]) (HIn.out W ho) raw (by omega) (by omega)).mono ?_
    rintro e w' ⟨A', c', E, rfl, hE, _, ho'⟩
    have e1 : textOf raw xs = [] := by unfold textOf; rw [HPF.out]
    have e2 : gramOk raw xs = false := by unfold gramOk; rw [HPF.out]; rfl
    obtain ⟨a, ha, rfl⟩ := hE.bad e2
    rw [e1]
    exact ⟨A', c', a, rfl, ha, ho'⟩
  have HRP : Hid (∀ W, Calls Tryd.prog 11 #[.string ⟨xs.toArray⟩, .bool raw] W fun e w' => e = .returned (.tuple #[.slice none 0 0, .int .i64 0, .bool false]) ∧ Hid (Only (fun _ => False) W w')) := fun W => by
    have := gparse_ref W xs raw (by rw [HS.out.1]; omega)
    unfold RpSays at this
    rw [HPF.out] at this
    exact this
  have HR : Hid (∀ W, Only (fun _ => False) w2 W → Calls Tryd.prog 13 #[.slice (some ⟨N, 0, none⟩) n (n + 5), .bool raw] W fun e w' => e = .returned (.int .i64 0) ∧ Hid (Only (fun _ => False) W w')) := fun W ho => by
    have := rest_any (c := n + 5) ((HEw.out W ho).is_ [2, 4]) (HIn.out W ho) raw (by omega) (by omega)
    rw [rest_wrong HPF.out] at this
    exact this
  have HB : Hid (∀ W, Only (fun _ => False) w2 W → Calls Tryd.prog 14 #[.slice (some ⟨N, 0, none⟩) n (n + 5), .bool raw, .int .i64 at_] W fun e w' => e = .returned (.bool false) ∧ Hid (Only (fun _ => False) W w')) := fun W ho => by
    have := border_any (c := n + 5) ((HEw.out W ho).is_ [2, 4]) (HIn.out W ho) raw (by omega) (by omega) at_
    rw [show borderOf raw xs at_ = false by unfold borderOf; rw [HPF.out]] at this
    exact this
  have HNum : Hid (∀ (W : World) (a : Addr), Only (fun _ => False) w2 W → es[4]? = some a → Calls Tryd.prog 16 #[.iface 88 (.pointer (some a))] W fun e w' => e = .returned (.int .i64 5) ∧ Hid (Only (fun _ => False) W w')) := fun W a ho ha => num_any (HEw.out W ho) (ErrV.err ha 5 rfl)
  clear hN HA
  go_wp2_with (first
    | (go_at_call 9; refine (HP.out w2 (Only.refl _ _)).mono ?_; rintro e w3 ⟨A3, c3, a3, rfl, ha3, ho3⟩; have HC3 : Hid (Only (fun _ => False) w2 w3) := ho3)
    | (go_at_call 10; refine (HT.out w3 HC3.out).mono ?_; rintro e w4 ⟨A4, c4, a4, rfl, ha4, ho4⟩; have HC4 : Hid (Only (fun _ => False) w2 w4) := HC3.out.trans ho4.out (fun _ h => h.elim); have hcx := (HSw.out w2 (Only.refl _ _)).saids c w4 HC4.out)
    | (go_at_call 11; refine (HRP.out w4).mono ?_; rintro e w5 ⟨rfl, ho5⟩; have HC5 : Hid (Only (fun _ => False) w2 w5) := HC4.out.trans ho5.out (fun _ h => h.elim))
    | (go_at_call 13; refine (HR.out w5 HC5.out).mono ?_; rintro e w7 ⟨rfl, ho7⟩; have HC7 : Hid (Only (fun _ => False) w2 w7) := HC5.out.trans ho7.out (fun _ h => h.elim))
    | (go_at_call 14; refine (HB.out w7 HC7.out).mono ?_; rintro e w8 ⟨rfl, ho8⟩; have HC8 : Hid (Only (fun _ => False) w2 w8) := HC7.out.trans ho8.out (fun _ h => h.elim))
    | (go_at_call 15; refine (kept_any (HSw.out w8 HC8.out) c (by omega) (HBk.out w8 HC8.out)).mono ?_; rintro e w9 ⟨rfl, e9⟩; subst w9)
    | (go_at_call 16; (with_reducible refine (HNum.out w8 a3 HC8.out ha3.out).mono ?_); rintro e w10 ⟨rfl, ho10⟩; have HC10 : Hid (Only (fun _ => False) w2 w10) := HC8.out.trans ho10.out (fun _ h => h.elim))
    | (go_at_call 16; (with_reducible refine (HNum.out w10 a4 HC10.out ha4.out).mono ?_); rintro e w11 ⟨rfl, ho11⟩; have HC11 : Hid (Only (fun _ => False) w2 w11) := HC10.out.trans ho11.out (fun _ h => h.elim)))
  go_ret
  exact ⟨rfl, HO2.out.trans HC11.out (fun _ h => h.elim)⟩
end Go.Proofs.YtbjabjkmagekfaaDoor
