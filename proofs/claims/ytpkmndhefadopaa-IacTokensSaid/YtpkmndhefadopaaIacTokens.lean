/- IacTokens, walked. -/
import Derived.Test.YtpkmndhefadopaaIacOf
import Derived.Test.YtpkmndhefadopaaIacAlive
import Derived.Test.YtpkmndhefadopaaSlices
import Derived.Test.YtpkmndhefadopaaByt
namespace Go.Proofs.Ytpkmndhefadopaa
open Go Go.RowKit
set_option maxRecDepth 100000
set_option maxHeartbeats 4000000

theorem tokens_long (w : World) (A : Option Addr) (n c : Nat) (h : 900 < n) : Calls Try.prog 3 #[.slice A n c] w (Fine w) := by
  have hd : decide ((900 : Int) < (n : Int)) = true := by simp; omega
  go_enter Try.func3, Try.ntmps3
  go_wp2_with (first
    | (go_at_call 7; refine (alive_any _).mono ?_; rintro e w1 ⟨rfl, ho1⟩))
  go_ret
  exact ⟨rfl, ho1⟩

theorem tokens_ok (w : World) (A : Option Addr) (n c : Nat) (xs : List UInt8) (hx : Src w A n xs) (hn : n ≤ 900) : Calls Try.prog 3 #[.slice A n c] w (Fine w) := by
  have hd : decide ((900 : Int) < (n : Int)) = false := by simp; omega
  have HX := Lib.hid hx
  obtain ⟨T, hT⟩ : ∃ T, T = (feeds .zero xs).1 := ⟨_, rfl⟩
  obtain ⟨b, hb⟩ : ∃ b, b = decide ((feeds .zero xs).2.st = 0) := ⟨_, rfl⟩
  obtain ⟨k, hk⟩ : ∃ k, k = T.length := ⟨_, rfl⟩
  have hT' := hT
  -- the program's
  have HA : Hid (∀ (w0 w1 : World), Only (fun _ => False) w w0 → Blk w1 w0.heap.size 5 (xs.map B8 ++ marks 5) → Only (fun _ => False) w w1 → Calls Try.prog 9 #[.slice (some ⟨w0.heap.size, 0, none⟩) n (n + 5)] w1 fun e w' =>
      ∃ A' c' ps, e = .returned (.tuple #[.slice A' k c', .bool b]) ∧ k ≤ c' ∧ c' ≤ 9223372036854775807 ∧ Hid (ps.length = k) ∧ Hid (Toks w' w1.heap.size (.slice A' k c') ps) ∧ Hid (ps.map TkP.t = T) ∧ Hid (Only (fun _ => False) w1 w')) := fun w0 w1 h0 hB h1 => by
    have hs : Src w1 (some ⟨w0.heap.size, 0, none⟩) n xs := hB.src hx.1 (fun j x hj => by
      rw [Nat.zero_add, List.getElem?_append_left (by rw [List.length_map]; exact (List.getElem?_eq_some_iff.1 hj).1), List.getElem?_map, hj]
      rfl)
    refine (all_any hs (by omega) (by omega) (by omega)).mono ?_
    rintro e w' ⟨v, ps, rfl, ht, hm, ho⟩
    obtain ⟨A', c', rfl, h1, h2⟩ := ht.form
    have hl : ps.length = k := by rw [hk, hT, ← hm, List.length_map]
    rw [hl] at h1 ht ⊢
    exact ⟨A', c', ps, by rw [hb], h1, h2, hl, ht, hm.trans hT.symm, ho⟩
  have HR : Hid (∀ w1, Calls Try.prog 10 #[.string ⟨xs.toArray⟩] w1 fun e w' => ∃ (A' : Option Addr) (c' : Nat) (r : List UInt8), e = .returned (.tuple #[.slice A' k c', .string ⟨r.toArray⟩]) ∧ k ≤ c' ∧ c' ≤ 9223372036854775807 ∧ Hid (RRow w' w1.heap.size (.slice A' k c') T) ∧ (b == ((r.length : Int) == 0)) = true ∧ Hid (Only (fun _ => False) w1 w')) := fun w1 => by
    refine (refAll_any w1 xs (by rw [hx.1]; omega)).mono ?_
    rintro e w' ⟨A', c', r, rfl, h1, h2, h3, h4, h5⟩
    rw [← hT, ← hk] at h1 h3 ⊢
    refine ⟨A', c', r, rfl, h1, h2, h3, ?_, h5⟩
    rw [beq_iff_eq, hb]
    have h6 : ((r.length : Int) == 0) = decide (r = []) := by
      cases r with
      | nil => rfl
      | cons x r => simp; omega
    rw [h6]
    exact decide_eq_decide.2 h4.out
  clear hx hT hb hk hT'
  go_enter Try.func3, Try.ntmps3
  go_wp2_with (first
    | (go_at_call 7; refine (alive_any _).mono ?_; rintro e w1 ⟨rfl, ho1⟩; have hcv := text_of (P := Try.prog) (HX.out.only ho1 (fun _ _ _ h => h)) c 22 9 5 Try.underlying22 Try.underlying5 Try.underlying9)
    | (go_at_call 8; refine (bytes_any (HX.out.only ho1 (fun _ _ _ h => h)) c (by omega)).mono ?_; rintro e w2 ⟨rfl, hB2, ho2⟩; have HB2 := Lib.hid hB2; have hO2 : Hid (Only (fun _ => False) w w2) := ho1.trans ho2 (fun _ h => h.elim); clear hB2 ho2)
    | (go_at_call 9; refine (HA.out w1 w2 ho1 HB2.out hO2.out).mono ?_; rintro e w3 ⟨A3, c3, ps, rfl, hk3, hc3, hl3, ht3, hm3, ho3⟩; have hO3 : Hid (Only (fun _ => False) w w3) := hO2.out.trans ho3.out (fun _ h => h.elim); have hcv3 := text_of (P := Try.prog) (HX.out.only hO3.out (fun _ _ _ h => h)) c 22 9 5 Try.underlying22 Try.underlying5 Try.underlying9)
    | (go_at_call 10; refine (HR.out w3).mono ?_; rintro e w4 ⟨A4, c4, r, rfl, hk4, hc4, hr4, hbr, ho4⟩; have hO4 : Hid (Only (fun _ => False) w w4) := hO3.out.trans ho4.out (fun _ h => h.elim))
    | (go_at_call 11; refine (lsame_any (ht3.out.same ho4.out) hr4.out hl3.out hm3.out).mono ?_; rintro e w5 ⟨rfl, ho5⟩)
    | (go_at_call 12; refine (kept_any (HX.out.only (hO4.out.trans ho5 (fun _ h => h.elim)) (fun _ _ _ h => h)) c (by omega) (((HB2.out.only ho3.out (fun h => h)).only ho4.out (fun h => h)).only ho5 (fun h => h))).mono ?_; rintro e w6 ⟨rfl, rfl⟩))
  go_ret
  exact ⟨rfl, hO4.out.trans ho5 (fun _ h => h.elim)⟩

theorem iacTokens_walk (W : World) {H : Type} {enc : TypeId × Value → H} {fuel : Nat} {A : Option Addr} {n c : Nat} {x : DataW H × List MemPlace} (hf : DataW.trod enc Try.prog W 0 (fun _ => true) true fuel 22 [.slice A n c] = some x) :
    Calls Try.prog 3 #[.slice A n c] W (Fine W) := by
  obtain ⟨A', n', c', xs, e, h1, h2, h3⟩ := opened_cell hf
  injection e with e1 e2 e3
  subst e1 e2 e3
  by_cases h : 900 < n
  · exact tokens_long W A n c h
  · exact tokens_ok W A n c xs h1 (by omega)
end Go.Proofs.Ytpkmndhefadopaa
