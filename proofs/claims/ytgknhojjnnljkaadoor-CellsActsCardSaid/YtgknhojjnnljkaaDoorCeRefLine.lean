/- The document: a row's line. -/
import Derived.Test.YtgknhojjnnljkaaDoorCeRefN
namespace Go.Proofs.YtgknhojjnnljkaaDoor
open Go Go.RowKit
set_option maxRecDepth 100000
set_option maxHeartbeats 4000000

section
variable {w : World} {G : Nat → Prop} {p : Nat} {s : Sc}
theorem rline_in (h : DAt w p G s) {i : Nat} (hi : i < s.rows.length) : Calls Tryd.prog 16 #[.pointer (some ⟨p, 0, none⟩), .int .i64 (i : Int)] w fun e w' => e = .returned (S8 (s.line (i : Int))) ∧ w' = w := by
  obtain ⟨ad, cap, h1, h2, h3, h4, h5, h6⟩ := h.ex
  have hr : s.rows[i]? = some s.rows[i] := List.getElem?_eq_getElem hi
  have hrl := h.ok.hr _ (List.getElem_mem hi)
  have hc2 := h.ok.c2
  rw [line_at hr]
  generalize s.rows[i] = r at *
  have c3 : w.cell? ⟨p, 3, none⟩ = some (.slice (some ad) s.rows.length cap) := h1.cell 3
  have c4 : w.cell? (ad.add i) = some (.string ⟨r.toArray⟩) := by
    obtain ⟨ad', e, hc⟩ := h4.2 (by omega)
    injection e with e
    subst e
    exact hc i r hr
  generalize s.rows.length = R at *
  have hi1 : (i : Int) < (R : Int) := by omega
  have hi0 : ¬ (i : Int) < 0 := by omega
  obtain ⟨L, hL⟩ : ∃ L, L = r.length := ⟨_, rfl⟩
  have HL := Lib.hid hL
  have hL60 : L ≤ 60 := by omega
  have HLn : Hid (lineOf r = r.take (trimN r L)) := by show _ = _; rw [hL]; rfl
  clear h h1 h4 hr hrl hc2 hL
  go_enter Tryd.func16, Tryd.ntmps16
  go_wp2
  go_loop [5] (fun v => ∃ k : Nat, k ≤ L ∧ v = .string ⟨(r.take k).toArray⟩ ∧ Hid (trimN r k = trimN r L)) (fun v => match v with | .string b => b.size | _ => 0)
  case atStart => exact ⟨L, Nat.le_refl _, by rw [HL.out, List.take_length], rfl⟩
  case round =>
    obtain ⟨k, hk, rfl, HT⟩ := hrel
    have hz : (ByteArray.mk (r.take k).toArray).size = k := by show (r.take k).length = k; rw [List.length_take]; have := HL.out; omega
    cases k with
    | zero =>
      go_wp2
      go_ret
      rw [HLn.out, ← HT.out]
      exact ⟨rfl, rfl⟩
    | succ k =>
      obtain ⟨x, hx⟩ : ∃ x, r[k]? = some x := ⟨_, List.getElem?_eq_getElem (by have := HL.out; omega)⟩
      have hg := str_get (s := r.take (k + 1)) (k := k) (x := x) (by rw [List.getElem?_take, if_pos (by omega)]; exact hx)
      have hcut : (ByteArray.mk (r.take (k + 1)).toArray).extract 0 k = ⟨(r.take k).toArray⟩ := by rw [str_take, List.take_take, Nat.min_eq_left (by omega)]
      by_cases h32 : x = 32
      · subst h32
        have HT2 : Hid (trimN r k = trimN r L) := by show _ = _; rw [← HT.out, trimN_step r k hx]
        have HZ : Hid ((ByteArray.mk (r.take k).toArray).size < (ByteArray.mk (r.take (k + 1)).toArray).size) := by
          show (r.take k).length < (r.take (k + 1)).length
          rw [List.length_take, List.length_take]; have := HL.out; omega
        have e32 : (((32 : UInt8).toNat : Int) == 32) = true := rfl
        clear hx HT
        trace_state
        go_wp2
        go_round
        case rel => exact ⟨k, by omega, rfl, HT2⟩
        case measure => exact HZ.out
      · have HT2 : Hid (k + 1 = trimN r L) := by show _ = _; rw [← HT.out, trimN_stop r k (by rw [hx]; simpa using h32)]
        have hne : ((x.toNat : Int) == 32) = false := beq_eq_false_iff_ne.2 fun e => h32 (UInt8.toNat_inj.1 (by have : x.toNat = 32 := by omega
                                                                                                                rw [this]; rfl))
        clear hx HT h32
        go_wp2
        go_ret
        rw [HLn.out, ← HT2.out]
        exact ⟨rfl, rfl⟩
theorem rline_any (h : DAt w p G s) (i : Int) : Calls Tryd.prog 16 #[.pointer (some ⟨p, 0, none⟩), .int .i64 i] w fun e w' => e = .returned (S8 (s.line i)) ∧ w' = w := by
  by_cases hi : 0 ≤ i ∧ i < s.rows.length
  · have := rline_in h (i := i.toNat) (by omega)
    rw [Int.toNat_of_nonneg hi.1] at this
    exact this
  · have e : s.line i = [] := by unfold Sc.line; rw [if_neg hi]
    rw [e]
    obtain ⟨A, cap, c0, c1, c2, c3, f1, f2, f3, _⟩ := h.cells
    clear e h c0 c1 c2 f1 f2 f3
    by_cases h0 : i < 0
    · clear hi
      go_enter Tryd.func16, Tryd.ntmps16
      go_wp2
      go_ret
      exact ⟨rfl, rfl⟩
    · have h1 : ¬ i < (s.rows.length : Int) := by omega
      clear hi
      go_enter Tryd.func16, Tryd.ntmps16
      go_wp2
      go_ret
      exact ⟨rfl, rfl⟩
end
end Go.Proofs.YtgknhojjnnljkaaDoor
