/- Package emit: a byte's, a Sub's, a token's bytes. -/
import Derived.Test.YtbjabjkmagekfaaDoorEmitTok
namespace Go.Proofs.YtbjabjkmagekfaaDoor
open Go Go.RowKit
set_option maxRecDepth 100000
set_option maxHeartbeats 4000000

theorem one_any {w : World} {es : List Addr} (hes : ErrsOf w [0, 3, 8] es) (c o : Int) (b : List UInt8) (cut : Bool) :
    Calls Tryd.prog 35 #[.int .i64 c] w fun e w' => Told w w' es e (tkBytes ⟨1, c, o, b, cut⟩) (tkNum ⟨1, c, o, b, cut⟩) := by
  have hp := fun W => isByte_any W c
  by_cases h : 0 ≤ c ∧ c ≤ 255
  · have hn : tkNum ⟨1, c, o, b, cut⟩ = 0 := by simp [tkNum, h]
    have hb : tkBytes ⟨1, c, o, b, cut⟩ = dbl [b8 c] := by simp [tkBytes, hn, tkRaw]
    rw [hn, hb]
    have hw : IntKind.u8.wrap c = c := by rw [IntKind.wrap_u8]; omega
    rw [decide_eq_true h] at hp
    have HC : #[Value.int .u8 c] = ([b8 c].map B8).toArray := by
      have := b8_int (z := c) (by omega) (by omega)
      simp only [List.map_cons, List.map_nil, B8, this]
    have HD := Lib.hid (data_any (c := 1) (src_new w [b8 c] #[Value.int .u8 c] 5 (0, 0) 1 HC rfl) (by omega))
    obtain ⟨L, hL⟩ : ∃ L, L = dbl [b8 c] := ⟨_, rfl⟩
    rw [← hL] at HD ⊢
    obtain ⟨N, hN⟩ : ∃ N, N = L.length := ⟨_, rfl⟩
    rw [← hN] at HD
    clear hn hb h hes hL HC
    go_enter Tryd.func35, Tryd.ntmps35
    go_wp2_with (first
      | (go_at_call 43; refine (hp _).mono ?_; rintro e w' ⟨rfl, e2⟩; subst w')
      | (go_at_call 44; refine HD.out.mono ?_; rintro e w1 ⟨A1, c1, rfl, hb1, ho1⟩))
    go_ret2
    subst hN
    exact ⟨A1, c1, _, rfl, own_mono hb1.out (by simp), ErrV.nil _, ((Only.refl (fun _ => False) w).alloc _).trans ho1.out (fun _ h => h.elim)⟩
  · have hn : tkNum ⟨1, c, o, b, cut⟩ = 1 := by simp [tkNum, h]
    have hb : tkBytes ⟨1, c, o, b, cut⟩ = [] := by simp [tkBytes, hn]
    rw [hn, hb]
    rw [decide_eq_false h] at hp
    obtain ⟨a, ha, hc⟩ := errRange_at hes
    unfold errV at hc
    clear hn hb h hes
    go_enter Tryd.func35, Tryd.ntmps35
    go_wp2_with (go_at_call 43; refine (hp _).mono ?_; rintro e w' ⟨rfl, e2⟩; subst w')
    go_quiet (fail)
    go_wp2
    go_ret2
    exact Told.none_ ha 1 rfl ((Only.refl _ _).drewN _)

/-- A Sub's bytes by its cells. -/
theorem tsub_any {w : World} {es : List Addr} (hes : ErrsOf w [0, 3, 8] es) (c o : Int) (b : List UInt8) (cut : Bool) {A : Option Addr} {n cap : Nat} (hs : Src w A n b) :
    Calls Tryd.prog 38 #[.agg #[.int .i64 4, .int .i64 c, .int .i64 o, .slice A n cap, .bool cut]] w fun e w' => Told w w' es e (tkBytes ⟨4, c, o, b, cut⟩) (tkNum ⟨4, c, o, b, cut⟩) := by
  have hO : Only (fun _ => False) w (w.alloc (.cells #[.int .i64 4, .int .i64 c, .int .i64 o, .slice A n cap, .bool cut] 48)) := (Only.refl _ w).alloc _
  have HS := Lib.hid (esub_any (hes.only hO) c o (cap := cap) (hs.only hO (fun _ _ _ h => h)))
  obtain ⟨a, ha, hc⟩ := errLong_at hes
  unfold errV at hc
  have HQ : Hid ((w.alloc (.cells #[.int .i64 4, .int .i64 c, .int .i64 o, .slice A n cap, .bool cut] 48)).cell? ⟨w.heap.size, 4, none⟩ = some (.bool cut)) := (Blk.new w 48 [.int .i64 4, .int .i64 c, .int .i64 o, .slice A n cap, .bool cut]).cell 4
  obtain ⟨bs, hbs⟩ : ∃ bs, bs = tkBytes ⟨4, c, o, b, false⟩ := ⟨_, rfl⟩
  obtain ⟨num, hnum⟩ : ∃ num, num = tkNum ⟨4, c, o, b, false⟩ := ⟨_, rfl⟩
  rw [← hbs, ← hnum] at HS
  have hcl : ∀ w1, Only (fun _ => False) w w1 → w1.cell? ⟨3, 0, none⟩ = some (.iface 88 (.pointer (some a))) := fun w1 ho => ho.cellv hc (fun h => h)
  have HCL := Lib.hid hcl
  have hcut : tkNum ⟨4, c, o, b, cut⟩ = (if num = 0 ∧ cut = true then 4 else num) := by
    rw [hnum]
    simp only [tkNum]
    cases cut <;> simp
    split
    · split <;> simp_all
    · simp
  have hbcut : tkBytes ⟨4, c, o, b, cut⟩ = (if num = 0 ∧ cut = true then [] else bs) := by
    rw [tkBytes, hcut, hbs, tkBytes, ← hnum]
    split
    · rename_i h
      rw [if_neg (by omega)]
    · rfl
  rw [hcut, hbcut]
  obtain ⟨N, hN⟩ : ∃ N, N = bs.length := ⟨_, rfl⟩
  have hz : num ≠ 0 → bs = [] := fun h => by rw [hbs, tkBytes, ← hnum, if_neg h]
  have HZ := Lib.hid hz
  have HN := Lib.hid hN
  clear hes hs hc hbs hnum hcut hbcut hcl hz hN
  have hN' := HN.out
  rcases Nat.eq_zero_or_pos num with h0 | h0
  · subst h0
    cases cut with
    | false =>
      rw [if_neg (by decide), if_neg (by decide)]
      go_enter Tryd.func38, Tryd.ntmps38
      go_wp2_with (first
        | (go_at_call 45; refine HS.out.mono ?_; rintro e w1 ⟨A1, c1, E1, rfl, hb1, he1, ho1⟩; obtain rfl : E1 = .nilIface := (by rcases he1 with ⟨_, h⟩ | ⟨i, a, h, _⟩; exact h; omega); (rw [← HN.out] at hb1 ⊢); have q4 := ho1.out.cellv HQ.out (fun h => h); clear he1))
      go_ret2
      subst hN'
      exact ⟨A1, c1, _, rfl, own_mono hb1.out (by simp), ErrV.nil _, hO.trans ho1.out (fun _ h => h.elim)⟩
    | true =>
      rw [if_pos (by decide), if_pos (by decide)]
      go_enter Tryd.func38, Tryd.ntmps38
      go_wp2_with (first
        | (go_at_call 45; refine HS.out.mono ?_; rintro e w1 ⟨A1, c1, E1, rfl, hb1, he1, ho1⟩; obtain rfl : E1 = .nilIface := (by rcases he1 with ⟨_, h⟩ | ⟨i, a, h, _⟩; exact h; omega); (rw [← HN.out] at hb1 ⊢); have q4 := ho1.out.cellv HQ.out (fun h => h); have qe := HCL.out w1 (hO.trans ho1.out (fun _ h => h.elim)); clear he1))
      go_quiet (fail)
      go_wp2
      go_ret2
      exact Told.none_ ha 4 rfl ((hO.trans ho1.out (fun _ h => h.elim)).drewN _)
  · rw [if_neg (by omega), if_neg (by omega)]
    obtain rfl := HZ.out (by omega)
    obtain rfl : N = 0 := HN.out
    clear hN'
    go_enter Tryd.func38, Tryd.ntmps38
    go_wp2_with (first
      | (go_at_call 45; refine HS.out.mono ?_; rintro e w1 ⟨A1, c1, E1, rfl, hb1, he1, ho1⟩; obtain ⟨i, a1, hi, ha1, rfl⟩ : ∃ i a1, num = i + 1 ∧ es[i]? = some a1 ∧ E1 = .iface 88 (.pointer (some a1)) := (by rcases he1 with ⟨h, _⟩ | h; omega; exact h); have q4 := ho1.out.cellv HQ.out (fun h => h); (simp only [List.length_nil] at hb1 ⊢); clear he1))
    go_ret2
    exact ⟨A1, c1, _, rfl, own_mono hb1.out (by simp), ErrV.err ha1 _ (by first | rfl | exact hi), hO.trans ho1.out (fun _ h => h.elim)⟩
end Go.Proofs.YtbjabjkmagekfaaDoor
