/- The law's back: tokens that were told are read as they were. -/
import Derived.Test.YtgahamdfgjijkaaDoorEmitAlive
import Derived.Test.YtgahamdfgjijkaaDoorTkOpen
import Derived.Deep.RegionHeld3
namespace Go.Proofs.YtgahamdfgjijkaaDoor
open Go Go.RowKit
set_option maxRecDepth 100000
set_option maxHeartbeats 4000000

theorem back_bad {w : World} {es : List Addr} (hes : ErrsOf w [0, 3, 8] es) (A : Option Addr) (n c : Nat) (ps : List TkP) (hr : RdTk w A n ps) (hn : n ≤ 600) (h : numL (ps.map TkP.t) ≠ 0) : Calls Tryd.prog 20 #[.slice A n c] w (Fine w) := by
  have C : Calls Tryd.prog 11 #[.slice A n c] w fun e w' => ∃ A1 c1 a1, e = .returned (.tuple #[.slice A1 0 c1, .iface 81 (.pointer (some a1))]) ∧ Only (fun _ => False) w w' := by
    refine (eall_any (c := c) hes hr (by omega)).mono ?_
    rintro e w' ⟨A1, c1, E, rfl, hb, hE, ho⟩
    rw [allB, if_neg h] at hb ⊢
    obtain ⟨i, a, _, _, rfl⟩ : ∃ i a, numL (ps.map TkP.t) = i + 1 ∧ es[i]? = some a ∧ E = errV a := by
      rcases hE with ⟨h1, _⟩ | h1
      · exact absurd h1 h
      · exact h1
    exact ⟨A1, c1, a, rfl, ho.out⟩
  have HC := Lib.hid C
  clear C hes hr h
  go_enter Tryd.func20, Tryd.ntmps20
  go_wp2_with (go_at_call 11; refine HC.out.mono ?_; rintro e w1 ⟨A1, c1, a1, rfl, ho1⟩)
  go_ret
  exact ⟨rfl, ho1⟩

/-- A token that has bytes is of one of four kinds. -/
theorem tk_kinds {t : Tk} (h : tkNum t = 0) : t.kind = 1 ∨ t.kind = 2 ∨ t.kind = 3 ∨ t.kind = 4 := by
  unfold tkNum at h
  by_cases h1 : t.kind = 1
  · exact .inl h1
  · by_cases h2 : t.kind = 2
    · exact .inr (.inl h2)
    · by_cases h3 : t.kind = 3
      · exact .inr (.inr (.inl h3))
      · by_cases h4 : t.kind = 4
        · exact .inr (.inr (.inr h4))
        · rw [if_neg h1, if_neg h2, if_neg h3, if_neg h4] at h
          omega
theorem numL_all : ∀ {l : List Tk}, numL l = 0 → ∀ t ∈ l, tkNum t = 0
  | [], _, t, ht => by cases ht
  | a :: l, h, t, ht => by
    simp only [numL] at h
    by_cases h0 : tkNum a = 0
    · rw [if_pos h0] at h
      rcases List.mem_cons.1 ht with rfl | ht
      · exact h0
      · exact numL_all h t ht
    · rw [if_neg h0] at h
      exact absurd h h0

theorem back_good {w : World} {es : List Addr} (hes : ErrsOf w [0, 3, 8] es) (A : Option Addr) (n c : Nat) (ps : List TkP) (hr : RdTk w A n ps) (hn : n ≤ 600) (h : numL (ps.map TkP.t) = 0) : Calls Tryd.prog 20 #[.slice A n c] w (Fine w) := by
  obtain ⟨ts, hts⟩ : ∃ ts, ts = ps.map TkP.t := ⟨_, rfl⟩
  have HT := Lib.hid hts
  rw [← hts] at h
  have HTl : Hid (ts.length = n) := by rw [hts, List.length_map]; exact hr.len
  obtain ⟨T, hT⟩ : ∃ T, T = accB ts := ⟨_, rfl⟩
  obtain ⟨M, hM⟩ : ∃ M, M = T.length := ⟨_, rfl⟩
  have hMl : M ≤ 600 * n := by rw [hM, hT, ← HTl.out]; exact accB_length ts
  have HEm : Hid (Calls Tryd.prog 11 #[.slice A n c] w fun e w' => ∃ A1 c1, e = .returned (.tuple #[.slice A1 M c1, .nilIface]) ∧ Hid (Body w' w.heap.size (.slice A1 M c1) T) ∧ Hid (Only (fun _ => False) w w')) := by
    refine (eall_any (c := c) hes hr (by omega)).mono ?_
    rintro e w' ⟨A1, c1, E, rfl, hb, hE, ho⟩
    rw [← hts] at hb hE
    rw [allB, if_pos h] at hb
    rw [h] at hE
    obtain rfl : E = .nilIface := by rcases hE with ⟨_, h⟩ | ⟨i, a, h, _⟩; exact h; omega
    rw [← hts, hM, hT, allB, if_pos h]
    exact ⟨A1, c1, rfl, hb, ho⟩
  have HFe : Hid (feeds .zero T = (ts.map canon, .zero)) := by rw [hT]; exact feeds_all ts h
  have HAl : Hid (∀ (W : World) (A1 : Option Addr) (c1 : Nat), Body W w.heap.size (.slice A1 M c1) T → Calls Tryd.prog 19 #[.slice A1 M c1] W fun e w' => ∃ A2 c2 qs, e = .returned (.tuple #[.slice A2 n c2, .bool true]) ∧ Hid (List.length qs = n ∧ qs.map TkP.t = ts.map canon ∧ Toks w' W.heap.size (.slice A2 n c2) qs) ∧ Hid (n ≤ c2 ∧ c2 ≤ 9223372036854775807) ∧ Hid (Only (fun _ => False) W w')) := fun W A1 c1 hb => by
    obtain ⟨A', c', e, h1, h2⟩ := hb.form
    injection e with e1 e2 e3
    subst e1 e3
    refine (all_any (hb.src hM) (by omega) h2 (by omega)).mono ?_
    rintro e w' ⟨v, qs, rfl, ht, hm, ho⟩
    rw [HFe.out] at hm ⊢
    obtain ⟨A2, c2, rfl, h3, h4⟩ := ht.form
    have hl : qs.length = n := by
      have := congrArg List.length hm
      rw [List.length_map, List.length_map, HTl.out] at this
      exact this
    rw [hl] at ht h3 ⊢
    exact ⟨A2, c2, qs, rfl, ⟨hl, hm, ht⟩, ⟨h3, h4⟩, ho⟩
  have HAllG := Lib.hid (numL_all h)
  have HR := Lib.hid hr
  have hne : ((n : Int) != (n : Int)) = false := by simp
  clear hes hr hts h hT hM
  go_enter Tryd.func20, Tryd.ntmps20
  go_wp2_with (first
    | (go_at_call 11; refine HEm.out.mono ?_; rintro e w1 ⟨A1, c1, rfl, hb1, ho1⟩)
    | (go_at_call 19; refine (HAl.out w1 A1 c1 hb1.out).mono ?_; rintro e w2 ⟨A2, c2, qs, rfl, hq, hc2, ho2⟩; have HO2 : Hid (Only (fun _ => False) w w2) := ho1.out.trans ho2.out (fun _ h => h.elim)))
  go_loopw [36] (fun i W => ∃ k : Nat, k ≤ n ∧ i = .int .i64 (k : Int) ∧ Hid (Only (fun _ => False) w2 W)) (fun i _ => n - (intOf i).toNat)
  case atStart => exact ⟨0, Nat.zero_le _, rfl, Only.refl _ _⟩
  case round =>
    obtain ⟨k, hk, rfl, HO⟩ := hrel
    by_cases hlt : k < n
    · obtain ⟨x, hx⟩ : ∃ x, ps[k]? = some x := ⟨_, List.getElem?_eq_getElem (by rw [HR.out.len]; exact hlt)⟩
      obtain ⟨y, hy⟩ : ∃ y, qs[k]? = some y := ⟨_, List.getElem?_eq_getElem (by rw [hq.out.1]; exact hlt)⟩
      have htx : ts[k]? = some x.t := by rw [HT.out, List.getElem?_map, hx]; rfl
      have hyt : y.t = canon x.t := by
        have h1 : (qs.map TkP.t)[k]? = some y.t := by rw [List.getElem?_map, hy]; rfl
        rw [hq.out.2.1, List.getElem?_map, htx] at h1
        exact (Option.some.inj h1).symm
      have hk4 := tk_kinds (HAllG.out _ (List.mem_of_getElem? htx))
      obtain ⟨g, off, rfl, hra, hrd⟩ := (HR.out.same (HO2.out.trans HO.out (fun _ h => h.elim))).at_ k x hx
      obtain ⟨gb, rfl, _, hgb, hrb, hbb⟩ := (hq.out.2.2.same HO.out).at_ hy
      have hrdy := hbb.reads
      obtain ⟨⟨xk, xc, xo, xb, xt⟩, xad, xcap⟩ := x
      obtain ⟨yt, yad, ycap⟩ := y
      simp only at hyt hk4
      subst hyt
      obtain ⟨xn, hxn⟩ : ∃ xn, xn = xb.length := ⟨_, rfl⟩
      obtain ⟨cs, hcs⟩ : ∃ cs, cs = tkCells ⟨xk, xc, xo, xb, xt⟩ (.slice xad xn xcap) := ⟨_, rfl⟩
      have HRA : Hid (wr.rangeAt g (off + k * 5) cs) := by rw [hcs, hxn]; exact hra
      have hcl : cs.length = 5 := by rw [hcs]; rfl
      have HCL := Lib.hid hcl
      have HCO := Lib.hid (show ∀ v ∈ cs, v.oneCell' = true by rw [hcs]; exact tk_one _ _ _ _)
      have HCS := Lib.hid hcs
      have HXN := Lib.hid hxn
      have HRD : Hid (Reads wr (.slice xad xn xcap) xb) := by rw [hxn]; exact hrd
      clear hra hrd hcs hcl htx hx hy hbb hxn
      rcases hk4 with rfl | rfl | rfl | rfl
      · have HY : Hid (∀ (j : Nat) (u : Value), [Value.int .i64 1, .int .i64 xc, .int .i64 0, .slice yad 0 ycap, .bool false][j]? = some u → wr.cell? ⟨gb, k * 5 + j, none⟩ = some u) := fun j u hj => hrb j u hj
        have HYR : Hid (Reads wr (.slice yad 0 ycap) []) := hrdy
        clear hrb hrdy
        go_wp2_with (first
          | ((with_reducible show wpList _ _ _ (⟨some 40, _, _, _, _, _⟩ :: _) _ _); refine wpList_load_mid rfl 26 (.tmp 39) rfl g (off + k * 5) rfl cs _ HRA.out Tryd.underlying26 rfl (by rw [HCL.out]; exact size_tok) ?_)
          | ((with_reducible show wpList _ _ _ (⟨none, .store 26 _ _, _, _, _, _⟩ :: _) _ _); refine step_store rfl 26 _ _ rfl wr.heap.size rfl cs rfl _ (tkCells Tk.none (.slice none 0 0)) (Blk.new _ _ _) (by rw [HCL.out]; exact size_tok) HCL.out.symm HCO.out ?_; intro w4 hB4 hz4 ho4; have HO4 : Hid (Only (fun _ => False) wr w4) := (((Only.refl (fun _ => False) wr).alloc _).trans ho4 (fun i hi => .inr (by omega))); have q := hB4.out; (rw [HCS.out] at q); have q0 := q.cell 0; have q1 := q.cell 1; have q2 := q.cell 2; have q3 := q.cell 3; (simp only [tkCells, List.getElem?_cons_succ, List.getElem?_cons_zero] at q0 q1 q2 q3); have hzz : wr.heap.size < w4.heap.size := (q.lt); clear q ho4))
        have hB5 : Blk (w4.alloc (.cells #[.int .i64 1, .int .i64 xc, .int .i64 0, .slice none 0 0, .bool false] 26)) w4.heap.size 26 [.int .i64 1, .int .i64 xc, .int .i64 0, .slice none 0 0, .bool false] := Blk.new w4 _ _
        have hO5 : Only (fun _ => False) wr (w4.alloc (.cells #[.int .i64 1, .int .i64 xc, .int .i64 0, .slice none 0 0, .bool false] 26)) := HO4.out.alloc _
        obtain ⟨W5, hW5⟩ : ∃ W5, W5 = w4.alloc (.cells #[.int .i64 1, .int .i64 xc, .int .i64 0, .slice none 0 0, .bool false] 26) := ⟨_, rfl⟩
        obtain ⟨N, hN⟩ : ∃ N, N = w4.heap.size := ⟨_, rfl⟩
        rw [← hW5] at hB5 hO5 ⊢
        rw [← hN] at hB5 ⊢
        have HSame : Hid (Calls Tryd.prog 33 #[.agg #[.int .i64 1, .int .i64 xc, .int .i64 0, .slice yad 0 ycap, .bool false], .agg #[.int .i64 1, .int .i64 xc, .int .i64 0, .slice none 0 0, .bool false]] W5.drew fun e w' => e = .returned (.bool true) ∧ Only (fun _ => False) W5.drew w') := same_flat 1 xc 0 [] false yad none 0 ycap 0 rfl ((HYR.out.same hO5).same ((Only.refl _ W5).drew)) ⟨none, 0, rfl, Go.Proofs.YtgahamdfgjijkaaDoor.Src.nil _ _, Nat.le_refl _⟩
        have Q0 : Hid ((W5.drew.cell? ⟨N, 0, none⟩ = some (.int .i64 1) ∧ W5.drew.cell? ⟨N, 1, none⟩ = some (.int .i64 xc) ∧ W5.drew.cell? ⟨N, 2, none⟩ = some (.int .i64 0) ∧ W5.drew.cell? ⟨N, 3, none⟩ = some (.slice none 0 0) ∧ W5.drew.cell? ⟨N, 4, none⟩ = some (.bool false)) ∧ W5.drew.cell? ⟨gb, k * 5, none⟩ = some (.int .i64 1) ∧ W5.drew.cell? ⟨gb, k * 5 + 1, none⟩ = some (.int .i64 xc) ∧ W5.drew.cell? ⟨gb, k * 5 + 2, none⟩ = some (.int .i64 0) ∧ W5.drew.cell? ⟨gb, k * 5 + 3, none⟩ = some (.slice yad 0 ycap) ∧ W5.drew.cell? ⟨gb, k * 5 + 4, none⟩ = some (.bool false)) := by
          have hy : ∀ (j : Nat) (u : Value), [Value.int .i64 1, .int .i64 xc, .int .i64 0, .slice yad 0 ycap, .bool false][j]? = some u → W5.drew.cell? ⟨gb, k * 5 + j, none⟩ = some u := fun j u hj => hO5.cellv (HY.out j u hj) (fun h => h)
          exact ⟨⟨hB5.cell 0, hB5.cell 1, hB5.cell 2, hB5.cell 3, hB5.cell 4⟩, hy 0 _ rfl, hy 1 _ rfl, hy 2 _ rfl, hy 3 _ rfl, hy 4 _ rfl⟩
        have HO5 := Lib.hid hO5
        clear hB5 hO5 hW5 hN q0 q1 q2 q3 hzz HY HYR
        go_region_held3 (fun W => (W.cell? ⟨N, 0, none⟩ = some (.int .i64 1) ∧ W.cell? ⟨N, 1, none⟩ = some (.int .i64 xc) ∧ W.cell? ⟨N, 2, none⟩ = some (.int .i64 0) ∧ W.cell? ⟨N, 3, none⟩ = some (.slice none 0 0) ∧ W.cell? ⟨N, 4, none⟩ = some (.bool false)) ∧ W.cell? ⟨gb, k * 5, none⟩ = some (.int .i64 1) ∧ W.cell? ⟨gb, k * 5 + 1, none⟩ = some (.int .i64 xc) ∧ W.cell? ⟨gb, k * 5 + 2, none⟩ = some (.int .i64 0) ∧ W.cell? ⟨gb, k * 5 + 3, none⟩ = some (.slice yad 0 ycap) ∧ W.cell? ⟨gb, k * 5 + 4, none⟩ = some (.bool false))
          (first | exact Q0.out | exact Q5.out)
          (first
            | (go_at_call 33; (with_reducible refine HSame.out.mono ?_); rintro e w6 ⟨rfl, ho6⟩; have Q5 : Hid ((w6.cell? ⟨N, 0, none⟩ = some (.int .i64 1) ∧ w6.cell? ⟨N, 1, none⟩ = some (.int .i64 xc) ∧ w6.cell? ⟨N, 2, none⟩ = some (.int .i64 0) ∧ w6.cell? ⟨N, 3, none⟩ = some (.slice none 0 0) ∧ w6.cell? ⟨N, 4, none⟩ = some (.bool false)) ∧ w6.cell? ⟨gb, k * 5, none⟩ = some (.int .i64 1) ∧ w6.cell? ⟨gb, k * 5 + 1, none⟩ = some (.int .i64 xc) ∧ w6.cell? ⟨gb, k * 5 + 2, none⟩ = some (.int .i64 0) ∧ w6.cell? ⟨gb, k * 5 + 3, none⟩ = some (.slice yad 0 ycap) ∧ w6.cell? ⟨gb, k * 5 + 4, none⟩ = some (.bool false)) := ⟨⟨ho6.cellv Q0.out.1.1 (fun h => h), ho6.cellv Q0.out.1.2.1 (fun h => h), ho6.cellv Q0.out.1.2.2.1 (fun h => h), ho6.cellv Q0.out.1.2.2.2.1 (fun h => h), ho6.cellv Q0.out.1.2.2.2.2 (fun h => h)⟩, ho6.cellv Q0.out.2.1 (fun h => h), ho6.cellv Q0.out.2.2.1 (fun h => h), ho6.cellv Q0.out.2.2.2.1 (fun h => h), ho6.cellv Q0.out.2.2.2.2.1 (fun h => h), ho6.cellv Q0.out.2.2.2.2.2 (fun h => h)⟩; have HO6 := Lib.hid ho6; clear ho6))
        clear Q0 Q5
        go_wp2
        go_roundw
        case rel => exact ⟨k + 1, by omega, by go_num, (HO.out.trans HO5.out (fun _ h => h.elim)).drew.trans HO6.out (fun _ h => h.elim)⟩
        case measure => simp [intOf]; omega
      · have HY : Hid (∀ (j : Nat) (u : Value), [Value.int .i64 2, .int .i64 xc, .int .i64 0, .slice yad 0 ycap, .bool false][j]? = some u → wr.cell? ⟨gb, k * 5 + j, none⟩ = some u) := fun j u hj => hrb j u hj
        have HYR : Hid (Reads wr (.slice yad 0 ycap) []) := hrdy
        clear hrb hrdy
        go_wp2_with (first
          | ((with_reducible show wpList _ _ _ (⟨some 40, _, _, _, _, _⟩ :: _) _ _); refine wpList_load_mid rfl 26 (.tmp 39) rfl g (off + k * 5) rfl cs _ HRA.out Tryd.underlying26 rfl (by rw [HCL.out]; exact size_tok) ?_)
          | ((with_reducible show wpList _ _ _ (⟨none, .store 26 _ _, _, _, _, _⟩ :: _) _ _); refine step_store rfl 26 _ _ rfl wr.heap.size rfl cs rfl _ (tkCells Tk.none (.slice none 0 0)) (Blk.new _ _ _) (by rw [HCL.out]; exact size_tok) HCL.out.symm HCO.out ?_; intro w4 hB4 hz4 ho4; have HO4 : Hid (Only (fun _ => False) wr w4) := (((Only.refl (fun _ => False) wr).alloc _).trans ho4 (fun i hi => .inr (by omega))); have q := hB4.out; (rw [HCS.out] at q); have q0 := q.cell 0; have q1 := q.cell 1; have q2 := q.cell 2; have q3 := q.cell 3; (simp only [tkCells, List.getElem?_cons_succ, List.getElem?_cons_zero] at q0 q1 q2 q3); have hzz : wr.heap.size < w4.heap.size := (q.lt); clear q ho4))
        have hB5 : Blk (w4.alloc (.cells #[.int .i64 2, .int .i64 xc, .int .i64 0, .slice none 0 0, .bool false] 26)) w4.heap.size 26 [.int .i64 2, .int .i64 xc, .int .i64 0, .slice none 0 0, .bool false] := Blk.new w4 _ _
        have hO5 : Only (fun _ => False) wr (w4.alloc (.cells #[.int .i64 2, .int .i64 xc, .int .i64 0, .slice none 0 0, .bool false] 26)) := HO4.out.alloc _
        obtain ⟨W5, hW5⟩ : ∃ W5, W5 = w4.alloc (.cells #[.int .i64 2, .int .i64 xc, .int .i64 0, .slice none 0 0, .bool false] 26) := ⟨_, rfl⟩
        obtain ⟨N, hN⟩ : ∃ N, N = w4.heap.size := ⟨_, rfl⟩
        rw [← hW5] at hB5 hO5 ⊢
        rw [← hN] at hB5 ⊢
        have HSame : Hid (Calls Tryd.prog 33 #[.agg #[.int .i64 2, .int .i64 xc, .int .i64 0, .slice yad 0 ycap, .bool false], .agg #[.int .i64 2, .int .i64 xc, .int .i64 0, .slice none 0 0, .bool false]] W5.drew fun e w' => e = .returned (.bool true) ∧ Only (fun _ => False) W5.drew w') := same_flat 2 xc 0 [] false yad none 0 ycap 0 rfl ((HYR.out.same hO5).same ((Only.refl _ W5).drew)) ⟨none, 0, rfl, Go.Proofs.YtgahamdfgjijkaaDoor.Src.nil _ _, Nat.le_refl _⟩
        have Q0 : Hid ((W5.drew.cell? ⟨N, 0, none⟩ = some (.int .i64 2) ∧ W5.drew.cell? ⟨N, 1, none⟩ = some (.int .i64 xc) ∧ W5.drew.cell? ⟨N, 2, none⟩ = some (.int .i64 0) ∧ W5.drew.cell? ⟨N, 3, none⟩ = some (.slice none 0 0) ∧ W5.drew.cell? ⟨N, 4, none⟩ = some (.bool false)) ∧ W5.drew.cell? ⟨gb, k * 5, none⟩ = some (.int .i64 2) ∧ W5.drew.cell? ⟨gb, k * 5 + 1, none⟩ = some (.int .i64 xc) ∧ W5.drew.cell? ⟨gb, k * 5 + 2, none⟩ = some (.int .i64 0) ∧ W5.drew.cell? ⟨gb, k * 5 + 3, none⟩ = some (.slice yad 0 ycap) ∧ W5.drew.cell? ⟨gb, k * 5 + 4, none⟩ = some (.bool false)) := by
          have hy : ∀ (j : Nat) (u : Value), [Value.int .i64 2, .int .i64 xc, .int .i64 0, .slice yad 0 ycap, .bool false][j]? = some u → W5.drew.cell? ⟨gb, k * 5 + j, none⟩ = some u := fun j u hj => hO5.cellv (HY.out j u hj) (fun h => h)
          exact ⟨⟨hB5.cell 0, hB5.cell 1, hB5.cell 2, hB5.cell 3, hB5.cell 4⟩, hy 0 _ rfl, hy 1 _ rfl, hy 2 _ rfl, hy 3 _ rfl, hy 4 _ rfl⟩
        have HO5 := Lib.hid hO5
        clear hB5 hO5 hW5 hN q0 q1 q2 q3 hzz HY HYR
        go_region_held3 (fun W => (W.cell? ⟨N, 0, none⟩ = some (.int .i64 2) ∧ W.cell? ⟨N, 1, none⟩ = some (.int .i64 xc) ∧ W.cell? ⟨N, 2, none⟩ = some (.int .i64 0) ∧ W.cell? ⟨N, 3, none⟩ = some (.slice none 0 0) ∧ W.cell? ⟨N, 4, none⟩ = some (.bool false)) ∧ W.cell? ⟨gb, k * 5, none⟩ = some (.int .i64 2) ∧ W.cell? ⟨gb, k * 5 + 1, none⟩ = some (.int .i64 xc) ∧ W.cell? ⟨gb, k * 5 + 2, none⟩ = some (.int .i64 0) ∧ W.cell? ⟨gb, k * 5 + 3, none⟩ = some (.slice yad 0 ycap) ∧ W.cell? ⟨gb, k * 5 + 4, none⟩ = some (.bool false))
          (first | exact Q0.out | exact Q5.out)
          (first
            | (go_at_call 33; (with_reducible refine HSame.out.mono ?_); rintro e w6 ⟨rfl, ho6⟩; have Q5 : Hid ((w6.cell? ⟨N, 0, none⟩ = some (.int .i64 2) ∧ w6.cell? ⟨N, 1, none⟩ = some (.int .i64 xc) ∧ w6.cell? ⟨N, 2, none⟩ = some (.int .i64 0) ∧ w6.cell? ⟨N, 3, none⟩ = some (.slice none 0 0) ∧ w6.cell? ⟨N, 4, none⟩ = some (.bool false)) ∧ w6.cell? ⟨gb, k * 5, none⟩ = some (.int .i64 2) ∧ w6.cell? ⟨gb, k * 5 + 1, none⟩ = some (.int .i64 xc) ∧ w6.cell? ⟨gb, k * 5 + 2, none⟩ = some (.int .i64 0) ∧ w6.cell? ⟨gb, k * 5 + 3, none⟩ = some (.slice yad 0 ycap) ∧ w6.cell? ⟨gb, k * 5 + 4, none⟩ = some (.bool false)) := ⟨⟨ho6.cellv Q0.out.1.1 (fun h => h), ho6.cellv Q0.out.1.2.1 (fun h => h), ho6.cellv Q0.out.1.2.2.1 (fun h => h), ho6.cellv Q0.out.1.2.2.2.1 (fun h => h), ho6.cellv Q0.out.1.2.2.2.2 (fun h => h)⟩, ho6.cellv Q0.out.2.1 (fun h => h), ho6.cellv Q0.out.2.2.1 (fun h => h), ho6.cellv Q0.out.2.2.2.1 (fun h => h), ho6.cellv Q0.out.2.2.2.2.1 (fun h => h), ho6.cellv Q0.out.2.2.2.2.2 (fun h => h)⟩; have HO6 := Lib.hid ho6; clear ho6))
        clear Q0 Q5
        go_wp2
        go_roundw
        case rel => exact ⟨k + 1, by omega, by go_num, (HO.out.trans HO5.out (fun _ h => h.elim)).drew.trans HO6.out (fun _ h => h.elim)⟩
        case measure => simp [intOf]; omega
      · have HY : Hid (∀ (j : Nat) (u : Value), [Value.int .i64 3, .int .i64 xc, .int .i64 xo, .slice yad 0 ycap, .bool false][j]? = some u → wr.cell? ⟨gb, k * 5 + j, none⟩ = some u) := fun j u hj => hrb j u hj
        have HYR : Hid (Reads wr (.slice yad 0 ycap) []) := hrdy
        clear hrb hrdy
        go_wp2_with (first
          | ((with_reducible show wpList _ _ _ (⟨some 40, _, _, _, _, _⟩ :: _) _ _); refine wpList_load_mid rfl 26 (.tmp 39) rfl g (off + k * 5) rfl cs _ HRA.out Tryd.underlying26 rfl (by rw [HCL.out]; exact size_tok) ?_)
          | ((with_reducible show wpList _ _ _ (⟨none, .store 26 _ _, _, _, _, _⟩ :: _) _ _); refine step_store rfl 26 _ _ rfl wr.heap.size rfl cs rfl _ (tkCells Tk.none (.slice none 0 0)) (Blk.new _ _ _) (by rw [HCL.out]; exact size_tok) HCL.out.symm HCO.out ?_; intro w4 hB4 hz4 ho4; have HO4 : Hid (Only (fun _ => False) wr w4) := (((Only.refl (fun _ => False) wr).alloc _).trans ho4 (fun i hi => .inr (by omega))); have q := hB4.out; (rw [HCS.out] at q); have q0 := q.cell 0; have q1 := q.cell 1; have q2 := q.cell 2; have q3 := q.cell 3; (simp only [tkCells, List.getElem?_cons_succ, List.getElem?_cons_zero] at q0 q1 q2 q3); have hzz : wr.heap.size < w4.heap.size := (q.lt); clear q ho4))
        have hB5 : Blk (w4.alloc (.cells #[.int .i64 3, .int .i64 xc, .int .i64 xo, .slice none 0 0, .bool false] 26)) w4.heap.size 26 [.int .i64 3, .int .i64 xc, .int .i64 xo, .slice none 0 0, .bool false] := Blk.new w4 _ _
        have hO5 : Only (fun _ => False) wr (w4.alloc (.cells #[.int .i64 3, .int .i64 xc, .int .i64 xo, .slice none 0 0, .bool false] 26)) := HO4.out.alloc _
        obtain ⟨W5, hW5⟩ : ∃ W5, W5 = w4.alloc (.cells #[.int .i64 3, .int .i64 xc, .int .i64 xo, .slice none 0 0, .bool false] 26) := ⟨_, rfl⟩
        obtain ⟨N, hN⟩ : ∃ N, N = w4.heap.size := ⟨_, rfl⟩
        rw [← hW5] at hB5 hO5 ⊢
        rw [← hN] at hB5 ⊢
        have HSame : Hid (Calls Tryd.prog 33 #[.agg #[.int .i64 3, .int .i64 xc, .int .i64 xo, .slice yad 0 ycap, .bool false], .agg #[.int .i64 3, .int .i64 xc, .int .i64 xo, .slice none 0 0, .bool false]] W5.drew fun e w' => e = .returned (.bool true) ∧ Only (fun _ => False) W5.drew w') := same_flat 3 xc xo [] false yad none 0 ycap 0 rfl ((HYR.out.same hO5).same ((Only.refl _ W5).drew)) ⟨none, 0, rfl, Go.Proofs.YtgahamdfgjijkaaDoor.Src.nil _ _, Nat.le_refl _⟩
        have Q0 : Hid ((W5.drew.cell? ⟨N, 0, none⟩ = some (.int .i64 3) ∧ W5.drew.cell? ⟨N, 1, none⟩ = some (.int .i64 xc) ∧ W5.drew.cell? ⟨N, 2, none⟩ = some (.int .i64 xo) ∧ W5.drew.cell? ⟨N, 3, none⟩ = some (.slice none 0 0) ∧ W5.drew.cell? ⟨N, 4, none⟩ = some (.bool false)) ∧ W5.drew.cell? ⟨gb, k * 5, none⟩ = some (.int .i64 3) ∧ W5.drew.cell? ⟨gb, k * 5 + 1, none⟩ = some (.int .i64 xc) ∧ W5.drew.cell? ⟨gb, k * 5 + 2, none⟩ = some (.int .i64 xo) ∧ W5.drew.cell? ⟨gb, k * 5 + 3, none⟩ = some (.slice yad 0 ycap) ∧ W5.drew.cell? ⟨gb, k * 5 + 4, none⟩ = some (.bool false)) := by
          have hy : ∀ (j : Nat) (u : Value), [Value.int .i64 3, .int .i64 xc, .int .i64 xo, .slice yad 0 ycap, .bool false][j]? = some u → W5.drew.cell? ⟨gb, k * 5 + j, none⟩ = some u := fun j u hj => hO5.cellv (HY.out j u hj) (fun h => h)
          exact ⟨⟨hB5.cell 0, hB5.cell 1, hB5.cell 2, hB5.cell 3, hB5.cell 4⟩, hy 0 _ rfl, hy 1 _ rfl, hy 2 _ rfl, hy 3 _ rfl, hy 4 _ rfl⟩
        have HO5 := Lib.hid hO5
        clear hB5 hO5 hW5 hN q0 q1 q2 q3 hzz HY HYR
        go_region_held3 (fun W => (W.cell? ⟨N, 0, none⟩ = some (.int .i64 3) ∧ W.cell? ⟨N, 1, none⟩ = some (.int .i64 xc) ∧ W.cell? ⟨N, 2, none⟩ = some (.int .i64 xo) ∧ W.cell? ⟨N, 3, none⟩ = some (.slice none 0 0) ∧ W.cell? ⟨N, 4, none⟩ = some (.bool false)) ∧ W.cell? ⟨gb, k * 5, none⟩ = some (.int .i64 3) ∧ W.cell? ⟨gb, k * 5 + 1, none⟩ = some (.int .i64 xc) ∧ W.cell? ⟨gb, k * 5 + 2, none⟩ = some (.int .i64 xo) ∧ W.cell? ⟨gb, k * 5 + 3, none⟩ = some (.slice yad 0 ycap) ∧ W.cell? ⟨gb, k * 5 + 4, none⟩ = some (.bool false))
          (first | exact Q0.out | exact Q5.out)
          (first
            | (go_at_call 33; (with_reducible refine HSame.out.mono ?_); rintro e w6 ⟨rfl, ho6⟩; have Q5 : Hid ((w6.cell? ⟨N, 0, none⟩ = some (.int .i64 3) ∧ w6.cell? ⟨N, 1, none⟩ = some (.int .i64 xc) ∧ w6.cell? ⟨N, 2, none⟩ = some (.int .i64 xo) ∧ w6.cell? ⟨N, 3, none⟩ = some (.slice none 0 0) ∧ w6.cell? ⟨N, 4, none⟩ = some (.bool false)) ∧ w6.cell? ⟨gb, k * 5, none⟩ = some (.int .i64 3) ∧ w6.cell? ⟨gb, k * 5 + 1, none⟩ = some (.int .i64 xc) ∧ w6.cell? ⟨gb, k * 5 + 2, none⟩ = some (.int .i64 xo) ∧ w6.cell? ⟨gb, k * 5 + 3, none⟩ = some (.slice yad 0 ycap) ∧ w6.cell? ⟨gb, k * 5 + 4, none⟩ = some (.bool false)) := ⟨⟨ho6.cellv Q0.out.1.1 (fun h => h), ho6.cellv Q0.out.1.2.1 (fun h => h), ho6.cellv Q0.out.1.2.2.1 (fun h => h), ho6.cellv Q0.out.1.2.2.2.1 (fun h => h), ho6.cellv Q0.out.1.2.2.2.2 (fun h => h)⟩, ho6.cellv Q0.out.2.1 (fun h => h), ho6.cellv Q0.out.2.2.1 (fun h => h), ho6.cellv Q0.out.2.2.2.1 (fun h => h), ho6.cellv Q0.out.2.2.2.2.1 (fun h => h), ho6.cellv Q0.out.2.2.2.2.2 (fun h => h)⟩; have HO6 := Lib.hid ho6; clear ho6))
        clear Q0 Q5
        go_wp2
        go_roundw
        case rel => exact ⟨k + 1, by omega, by go_num, (HO.out.trans HO5.out (fun _ h => h.elim)).drew.trans HO6.out (fun _ h => h.elim)⟩
        case measure => simp [intOf]; omega
      · have HY : Hid (∀ (j : Nat) (u : Value), [Value.int .i64 4, .int .i64 0, .int .i64 xo, .slice yad xn ycap, .bool false][j]? = some u → wr.cell? ⟨gb, k * 5 + j, none⟩ = some u) := fun j u hj => hrb j u (by rw [HXN.out] at hj; exact hj)
        have HYR : Hid (Reads wr (.slice yad xn ycap) xb) := by rw [HXN.out]; exact hrdy
        clear hrb hrdy
        go_wp2_with (first
          | ((with_reducible show wpList _ _ _ (⟨some 40, _, _, _, _, _⟩ :: _) _ _); refine wpList_load_mid rfl 26 (.tmp 39) rfl g (off + k * 5) rfl cs _ HRA.out Tryd.underlying26 rfl (by rw [HCL.out]; exact size_tok) ?_)
          | ((with_reducible show wpList _ _ _ (⟨none, .store 26 _ _, _, _, _, _⟩ :: _) _ _); refine step_store rfl 26 _ _ rfl wr.heap.size rfl cs rfl _ (tkCells Tk.none (.slice none 0 0)) (Blk.new _ _ _) (by rw [HCL.out]; exact size_tok) HCL.out.symm HCO.out ?_; intro w4 hB4 hz4 ho4; have HO4 : Hid (Only (fun _ => False) wr w4) := (((Only.refl (fun _ => False) wr).alloc _).trans ho4 (fun i hi => .inr (by omega))); have q := hB4.out; (rw [HCS.out] at q); have q0 := q.cell 0; have q1 := q.cell 1; have q2 := q.cell 2; have q3 := q.cell 3; (simp only [tkCells, List.getElem?_cons_succ, List.getElem?_cons_zero] at q0 q1 q2 q3); have hzz : wr.heap.size < w4.heap.size := (q.lt); clear q ho4))
        have hB5 : Blk (w4.alloc (.cells #[.int .i64 4, .int .i64 0, .int .i64 xo, .slice xad xn xcap, .bool false] 26)) w4.heap.size 26 [.int .i64 4, .int .i64 0, .int .i64 xo, .slice xad xn xcap, .bool false] := Blk.new w4 _ _
        have hO5 : Only (fun _ => False) wr (w4.alloc (.cells #[.int .i64 4, .int .i64 0, .int .i64 xo, .slice xad xn xcap, .bool false] 26)) := HO4.out.alloc _
        obtain ⟨W5, hW5⟩ : ∃ W5, W5 = w4.alloc (.cells #[.int .i64 4, .int .i64 0, .int .i64 xo, .slice xad xn xcap, .bool false] 26) := ⟨_, rfl⟩
        obtain ⟨N, hN⟩ : ∃ N, N = w4.heap.size := ⟨_, rfl⟩
        rw [← hW5] at hB5 hO5 ⊢
        rw [← hN] at hB5 ⊢
        have HSame : Hid (Calls Tryd.prog 33 #[.agg #[.int .i64 4, .int .i64 0, .int .i64 xo, .slice yad xn ycap, .bool false], .agg #[.int .i64 4, .int .i64 0, .int .i64 xo, .slice xad xn xcap, .bool false]] W5.drew fun e w' => e = .returned (.bool true) ∧ Only (fun _ => False) W5.drew w') := same_flat 4 0 xo xb false yad xad xn ycap xcap HXN.out ((HYR.out.same hO5).same ((Only.refl _ W5).drew)) ((HRD.out.same hO5).same ((Only.refl _ W5).drew))
        have Q0 : Hid ((W5.drew.cell? ⟨N, 0, none⟩ = some (.int .i64 4) ∧ W5.drew.cell? ⟨N, 1, none⟩ = some (.int .i64 0) ∧ W5.drew.cell? ⟨N, 2, none⟩ = some (.int .i64 xo) ∧ W5.drew.cell? ⟨N, 3, none⟩ = some (.slice xad xn xcap) ∧ W5.drew.cell? ⟨N, 4, none⟩ = some (.bool false)) ∧ W5.drew.cell? ⟨gb, k * 5, none⟩ = some (.int .i64 4) ∧ W5.drew.cell? ⟨gb, k * 5 + 1, none⟩ = some (.int .i64 0) ∧ W5.drew.cell? ⟨gb, k * 5 + 2, none⟩ = some (.int .i64 xo) ∧ W5.drew.cell? ⟨gb, k * 5 + 3, none⟩ = some (.slice yad xn ycap) ∧ W5.drew.cell? ⟨gb, k * 5 + 4, none⟩ = some (.bool false)) := by
          have hy : ∀ (j : Nat) (u : Value), [Value.int .i64 4, .int .i64 0, .int .i64 xo, .slice yad xn ycap, .bool false][j]? = some u → W5.drew.cell? ⟨gb, k * 5 + j, none⟩ = some u := fun j u hj => hO5.cellv (HY.out j u hj) (fun h => h)
          exact ⟨⟨hB5.cell 0, hB5.cell 1, hB5.cell 2, hB5.cell 3, hB5.cell 4⟩, hy 0 _ rfl, hy 1 _ rfl, hy 2 _ rfl, hy 3 _ rfl, hy 4 _ rfl⟩
        have HO5 := Lib.hid hO5
        clear hB5 hO5 hW5 hN q0 q1 q2 q3 hzz HY HYR
        go_region_held3 (fun W => (W.cell? ⟨N, 0, none⟩ = some (.int .i64 4) ∧ W.cell? ⟨N, 1, none⟩ = some (.int .i64 0) ∧ W.cell? ⟨N, 2, none⟩ = some (.int .i64 xo) ∧ W.cell? ⟨N, 3, none⟩ = some (.slice xad xn xcap) ∧ W.cell? ⟨N, 4, none⟩ = some (.bool false)) ∧ W.cell? ⟨gb, k * 5, none⟩ = some (.int .i64 4) ∧ W.cell? ⟨gb, k * 5 + 1, none⟩ = some (.int .i64 0) ∧ W.cell? ⟨gb, k * 5 + 2, none⟩ = some (.int .i64 xo) ∧ W.cell? ⟨gb, k * 5 + 3, none⟩ = some (.slice yad xn ycap) ∧ W.cell? ⟨gb, k * 5 + 4, none⟩ = some (.bool false))
          (first | exact Q0.out | exact Q5.out)
          (first
            | (go_at_call 33; (with_reducible refine HSame.out.mono ?_); rintro e w6 ⟨rfl, ho6⟩; have Q5 : Hid ((w6.cell? ⟨N, 0, none⟩ = some (.int .i64 4) ∧ w6.cell? ⟨N, 1, none⟩ = some (.int .i64 0) ∧ w6.cell? ⟨N, 2, none⟩ = some (.int .i64 xo) ∧ w6.cell? ⟨N, 3, none⟩ = some (.slice xad xn xcap) ∧ w6.cell? ⟨N, 4, none⟩ = some (.bool false)) ∧ w6.cell? ⟨gb, k * 5, none⟩ = some (.int .i64 4) ∧ w6.cell? ⟨gb, k * 5 + 1, none⟩ = some (.int .i64 0) ∧ w6.cell? ⟨gb, k * 5 + 2, none⟩ = some (.int .i64 xo) ∧ w6.cell? ⟨gb, k * 5 + 3, none⟩ = some (.slice yad xn ycap) ∧ w6.cell? ⟨gb, k * 5 + 4, none⟩ = some (.bool false)) := ⟨⟨ho6.cellv Q0.out.1.1 (fun h => h), ho6.cellv Q0.out.1.2.1 (fun h => h), ho6.cellv Q0.out.1.2.2.1 (fun h => h), ho6.cellv Q0.out.1.2.2.2.1 (fun h => h), ho6.cellv Q0.out.1.2.2.2.2 (fun h => h)⟩, ho6.cellv Q0.out.2.1 (fun h => h), ho6.cellv Q0.out.2.2.1 (fun h => h), ho6.cellv Q0.out.2.2.2.1 (fun h => h), ho6.cellv Q0.out.2.2.2.2.1 (fun h => h), ho6.cellv Q0.out.2.2.2.2.2 (fun h => h)⟩; have HO6 := Lib.hid ho6; clear ho6))
        clear Q0 Q5
        go_wp2
        go_roundw
        case rel => exact ⟨k + 1, by omega, by go_num, (HO.out.trans HO5.out (fun _ h => h.elim)).drew.trans HO6.out (fun _ h => h.elim)⟩
        case measure => simp [intOf]; omega
    · go_wp2
      go_ret
      exact ⟨rfl, HO2.out.trans HO.out (fun _ h => h.elim)⟩

theorem back_any {w : World} {es : List Addr} (hes : ErrsOf w [0, 3, 8] es) (A : Option Addr) (n c : Nat) (ps : List TkP) (hr : RdTk w A n ps) (hn : n ≤ 600) : Calls Tryd.prog 20 #[.slice A n c] w (Fine w) := by
  by_cases h : numL (ps.map TkP.t) = 0
  · exact back_good hes A n c ps hr hn h
  · exact back_bad hes A n c ps hr hn h
end Go.Proofs.YtgahamdfgjijkaaDoor
