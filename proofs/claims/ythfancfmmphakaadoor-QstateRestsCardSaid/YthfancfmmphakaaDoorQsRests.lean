/- QstateRests, walked. -/
import Derived.Test.YthfancfmmphakaaDoorQsOwn
import Derived.Deep.RegionHeldLaw
import Derived.BigQuiet
namespace Go.Proofs.YthfancfmmphakaaDoor
open Go Go.ChangeShapes Go.WideShapes Go.ChangeAt Go.RowKit
set_option maxRecDepth 100000
set_option maxHeartbeats 4000000

@[reducible] def agVal (ax ay : Bool) : Value := .agg #[.bool ax, .bool ay]
theorem rests_long {w : World} (hT : QsW w) (A : Option Addr) (n c : Nat) (ax ay : Bool) (h : 60 < n) : Calls Tryd.prog 4 #[.slice A n c, agVal ax ay] w (Fine w) := by
  have hd : decide ((60 : Int) < (n : Int)) = true := by simp; omega
  have HT := Lib.hid hT
  clear h hT
  go_enter Tryd.func4, Tryd.ntmps4
  go_wp2_with (first
    | (go_at_call 5; refine (alive_any (HT.out.only (alloc_only _))).mono ?_; rintro e w1 ⟨rfl, ho1⟩))
  go_ret
  exact ⟨rfl, (alloc_only _).trans ho1 (fun _ h => h.elim)⟩

/-- Both sides, just made, in either order. -/
theorem Two.start {w w0 w1 : World} {ax ay : Bool} (ho : Only (fun _ => False) w w0) (p q : Nat) (hp : Blk w1 p 39 [.int .i64 0, .bool false, .slice none 0 0, .bool ax]) (hq : Blk w1 q 39 [.int .i64 0, .bool false, .slice none 0 0, .bool ay]) (hne : p ≠ q) (h1 : w0.heap.size ≤ p) (h2 : w0.heap.size ≤ q) (ho1 : Only (fun _ => False) w0 w1) :
    Two w w1 p q .zero ax ay :=
  ⟨⟨none, 0, 0, hp, rfl, by omega, fun h => absurd h (by omega)⟩, ⟨none, 0, 0, hq, rfl, by omega, fun h => absurd h (by omega)⟩, hne, ⟨by have := ho.size; omega, by have := ho.size; omega⟩, ho.trans ho1 (fun _ h => h.elim)⟩

/-- Two ways that come to the same: what follows is walked once. -/
theorem twice {P : Prop} {C G : Nat → Nat → World → Prop} (k : (∀ p q W, C p q W → G p q W) → P) (h : ∀ p q W, C p q W → G p q W) : P := k h
theorem kept {w W W' : World} {p q : Nat} {ax ay : Bool} (h : ∃ t, Can ax ay t ∧ Two w W p q t ax ay) (ho : Only (fun _ => False) W W') : Hid (∃ t, Can ax ay t ∧ Two w W' p q t ax ay) := by
  obtain ⟨t, hc, ht⟩ := h
  exact ⟨t, hc, ht.same ho⟩

theorem rests_ok {w : World} (hT : QsW w) (A : Option Addr) (n c : Nat) (zs : List Int) (hs : Ints w A n zs) (ax ay : Bool) (hn : n ≤ 60) : Calls Tryd.prog 4 #[.slice A n c, agVal ax ay] w (Fine w) := by
  have hd : decide ((60 : Int) < (n : Int)) = false := by simp; omega
  have HT := Lib.hid hT
  have HS := Lib.hid hs
  clear hs hT
  go_enter Tryd.func4, Tryd.ntmps4
  go_wp2_with (first
    | (go_at_call 5; refine (alive_any (HT.out.only (alloc_only _))).mono ?_; rintro e w1 ⟨rfl, ho1⟩; have HO1 := Lib.hid ((alloc_only (W := w) _).trans ho1 (fun _ h => h.elim)); have HB1 := Lib.hid ((Blk.new w 35 [.bool ax, .bool ay]).only ho1 (fun h => h)); have g0 := HB1.out.cell 0; have g1 := HB1.out.cell 1; have g0' := fun o => (HB1.out.alloc o).cell 0; have g1' := fun o => (HB1.out.alloc o).cell 1; simp only [List.getElem?_cons_zero, List.getElem?_cons_succ] at g0 g1 g0' g1'; clear ho1))
  apply twice (C := fun p q W0 => Hid (Two w W0 p q .zero ax ay))
  case k =>
    intro key
    go_region
    all_goals (first
      | (obtain ⟨W0, hW0⟩ : ∃ W0, W0 = ((w1.alloc (.cells #[.int .i64 0, .bool false, .slice none 0 0, .bool ay] 39)).alloc (.cells #[.int .i64 0, .bool false, .slice none 0 0, .bool ax] 39)).drew := ⟨_, rfl⟩
         rw [← hW0]
         have H0 : Hid (Two w W0 (w1.heap.size + 1) w1.heap.size .zero ax ay) := hW0 ▸ Two.start HO1.out _ _ (Blk.new' _ _ [.int .i64 0, .bool false, .slice none 0 0, .bool ax] (by simp)).drew ((Blk.new w1 _ [.int .i64 0, .bool false, .slice none 0 0, .bool ay]).alloc _).drew (by omega) (by omega) (Nat.le_refl _) (FAt.o2 w1 _ _)
         obtain ⟨p, hp⟩ : ∃ p, p = w1.heap.size + 1 := ⟨_, rfl⟩
         rw [← hp] at H0 ⊢
         obtain ⟨q, hq⟩ : ∃ q, q = w1.heap.size := ⟨_, rfl⟩
         rw [← hq] at H0 ⊢
         exact key p q W0 H0)
      | (obtain ⟨W0, hW0⟩ : ∃ W0, W0 = ((w1.alloc (.cells #[.int .i64 0, .bool false, .slice none 0 0, .bool ax] 39)).alloc (.cells #[.int .i64 0, .bool false, .slice none 0 0, .bool ay] 39)).drew := ⟨_, rfl⟩
         rw [← hW0]
         have H0 : Hid (Two w W0 w1.heap.size (w1.heap.size + 1) .zero ax ay) := hW0 ▸ Two.start HO1.out _ _ ((Blk.new w1 _ [.int .i64 0, .bool false, .slice none 0 0, .bool ax]).alloc _).drew (Blk.new' _ _ [.int .i64 0, .bool false, .slice none 0 0, .bool ay] (by simp)).drew (by omega) (Nat.le_refl _) (by omega) (FAt.o2 w1 _ _)
         obtain ⟨q, hq⟩ : ∃ q, q = w1.heap.size + 1 := ⟨_, rfl⟩
         rw [← hq] at H0 ⊢
         obtain ⟨p, hp⟩ : ∃ p, p = w1.heap.size := ⟨_, rfl⟩
         rw [← hp] at H0 ⊢
         exact key p q W0 H0))
  case h =>
    intro p q W0 H0
    clear g0 g1 g0' g1'
    go_wp2
    go_loopw [7, 8, 9, 32] (fun av hv sv iv' W => ∃ (k a h s : Nat), k ≤ n ∧ iv' = .int .i64 (k : Int) ∧ av = .int .i64 (a : Int) ∧ hv = .int .i64 (h : Int) ∧ sv = .int .i64 (s : Int) ∧ a ≤ k ∧ h ≤ k ∧ s ≤ h + a ∧ Hid (∃ t, Can ax ay t ∧ Two w W p q t ax ay)) (fun _ _ _ iv' _ => n - (intOf iv').toNat)
    case atStart => exact ⟨0, 0, 0, 0, Nat.zero_le _, rfl, rfl, rfl, rfl, Nat.le_refl _, Nat.le_refl _, Nat.le_refl _, .zero, can_zero _ _, H0.out⟩
    case round =>
      clear H0
      obtain ⟨k, a, h, s, hk, rfl, rfl, rfl, rfl, hak, hhk, hsk, hrel⟩ := hrel
      obtain ⟨t, hC, hTw⟩ := hrel.out
      have HC := Lib.hid hC
      have HTw := Lib.hid hTw
      obtain ⟨n1, n2, A1, A2, c1, c2, ⟨⟨_, _, p2⟩, _, _, q2⟩, hl1, hl2, _, _⟩ := hTw.cells
      have hsm := hC.small
      rw [hl1, hl2] at hsm
      by_cases hlt : k < n
      · obtain ⟨ad, rfl, hcell⟩ := (HS.out.only hTw.only (fun _ _ _ h => h)).2 (by omega)
        obtain ⟨z, hz⟩ : ∃ z, zs[k]? = some z := ⟨_, List.getElem?_eq_getElem (by rw [HS.out.1]; exact hlt)⟩
        have c0 := hcell k z hz
        go_wp2
        go_quiet (fail)
        have hT2 : Two w (wr.drewN nq) p q t ax ay := HTw.out.same ((Only.refl _ _).drewN _)
        have p2' : (wr.drewN nq).cell? ⟨p, 2, none⟩ = some (.slice A1 n1 c1) := p2
        have q2' : (wr.drewN nq).cell? ⟨q, 2, none⟩ = some (.slice A2 n2 c2) := q2
        obtain ⟨W2, hW2⟩ : ∃ W2, W2 = wr.drewN nq := ⟨_, rfl⟩
        rw [← hW2] at hT2 p2' q2' ⊢
        have HT2 : Hid (QsW W2) := HT.out.only hT2.only
        have HTW2 := Lib.hid hT2
        have HL1 := Lib.hid hl1
        have HL2 := Lib.hid hl2
        clear hW2 p2 q2 c0 hcell hTw HTw hT2 hrel hz hl1 hl2
        by_cases h03 : 0 ≤ z ∧ z < 4
        · obtain ⟨o, on, hzo, HOw⟩ : ∃ (o : Nat) (on : Bool), (z = 0 ∧ p = o ∧ on = false ∨ z = 1 ∧ p = o ∧ on = true ∨ z = 2 ∧ q = o ∧ on = false ∨ z = 3 ∧ q = o ∧ on = true) ∧ Hid (OwnAsk w W2 p q o ax ay on (n1 + n2)) := by
            rw [← HL1.out, ← HL2.out]
            rcases (show z = 0 ∨ z = 1 ∨ z = 2 ∨ z = 3 by omega) with rfl | rfl | rfl | rfl
            · exact ⟨p, false, .inl ⟨rfl, rfl, rfl⟩, HTW2.out.askX HT2.out HC.out false⟩
            · exact ⟨p, true, .inr (.inl ⟨rfl, rfl, rfl⟩), HTW2.out.askX HT2.out HC.out true⟩
            · exact ⟨q, false, .inr (.inr (.inl ⟨rfl, rfl, rfl⟩)), HTW2.out.askY HT2.out HC.out false⟩
            · exact ⟨q, true, .inr (.inr (.inr ⟨rfl, rfl, rfl⟩)), HTW2.out.askY HT2.out HC.out true⟩
          obtain ⟨sk, so, ⟨o0, o1⟩, HA⟩ := HOw.out
          clear HOw h03
          rcases HA with ⟨zk, zo, zm, HAsk, HSend⟩ | HAsk
          · clear p2' q2'
            rcases hzo with ⟨rfl, rfl, rfl⟩ | ⟨rfl, rfl, rfl⟩ | ⟨rfl, rfl, rfl⟩ | ⟨rfl, rfl, rfl⟩
            all_goals
              go_wp2_with (first
                | (go_at_call 8; refine (HAsk.out _ (Only.refl _ _)).mono ?_; rintro e w5 ⟨rfl, ho5⟩; have HO5 := Lib.hid (ho5.alloc (.cells #[.int .i64 zk, .bool zo, .int .i64 zm, .bool false] 26)); clear ho5)
                | (go_at_call 11; refine (HSend.out _ HO5.out).mono ?_; rintro e w9 ⟨rfl, hw9⟩; obtain ⟨u, d, hd1, hcu, htu, hlen⟩ := hw9.out; obtain ⟨m1, m2, B1, B2, e1, e2, ⟨⟨_, _, p3⟩, _, _, q3⟩, hm1, hm2, _, _⟩ := htu.cells; rw [hm1, hm2] at hlen; have HU : Hid (∃ t, Can ax ay t ∧ Two w w9 p q t ax ay) := ⟨u, hcu, htu⟩; have hus := hcu.small; rw [hm1, hm2] at hus; clear hcu htu hm1 hm2 hw9)
                | fail)
              go_quiet (fail)
              go_wp2
              go_roundw
              case rel => exact ⟨k + 1, a + 1, h, s + d, by omega, by go_num, by go_num, rfl, (by congr 1 <;> omega), by omega, by omega, by omega, kept HU.out (Only.drewN (Only.refl _ _) _)⟩
              case measure => simp [intOf]; omega
          · rcases hzo with ⟨rfl, rfl, rfl⟩ | ⟨rfl, rfl, rfl⟩ | ⟨rfl, rfl, rfl⟩ | ⟨rfl, rfl, rfl⟩
            all_goals
              go_wp2_with (first
                | (go_at_call 8; refine (HAsk.out _ (Only.refl _ _)).mono ?_; rintro e w5 ⟨⟨eu, ev, rfl⟩, ho5⟩; have HO5 := Lib.hid (ho5.alloc (.cells #[.int .i64 0, .bool false, .int .i64 0, .bool false] 26)); have p3 := HO5.out.cellv p2' (fun h => h); have q3 := HO5.out.cellv q2' (fun h => h); clear ho5)
                | fail)
              go_quiet (fail)
              go_wp2
              go_roundw
              case rel => exact ⟨k + 1, a, h, s, by omega, by go_num, rfl, rfl, (by congr 1 <;> omega), by omega, by omega, by omega, kept ⟨t, HC.out, HTW2.out⟩ (HO5.out.drewN _)⟩
              case measure => simp [intOf]; omega
        · by_cases h4 : z = 4 ∧ 0 < n2
          · obtain ⟨rfl, h4⟩ := h4
            clear h03
            have HHr := Lib.hid (HTW2.out.hearsX HT2.out HC.out (by rw [HL2.out]; exact h4))
            have h4' : (0 : Int) < (n2 : Int) := by omega
            go_wp2_with (first
              | (go_at_call 12; refine HHr.out.mono ?_; rintro e w9 ⟨rfl, hw9⟩; obtain ⟨u, d, hd1, hcu, htu, hlen⟩ := hw9.out; obtain ⟨m1, m2, B1, B2, e1, e2, ⟨⟨_, _, p3⟩, _, _, q3⟩, hm1, hm2, _, _⟩ := htu.cells; rw [hm1, hm2, HL1.out, HL2.out] at hlen; have HU : Hid (∃ t, Can ax ay t ∧ Two w w9 p q t ax ay) := ⟨u, hcu, htu⟩; have hus := hcu.small; rw [hm1, hm2] at hus; clear hcu htu hm1 hm2 hw9)
              | fail)
            go_quiet (fail)
            go_wp2
            go_roundw
            case rel => exact ⟨k + 1, a, h + 1, s + d, by omega, by go_num, rfl, by go_num, (by congr 1 <;> omega), by omega, by omega, by omega, kept HU.out (Only.drewN (Only.refl _ _) _)⟩
            case measure => simp [intOf]; omega
          · by_cases h5 : z = 5 ∧ 0 < n1
            · obtain ⟨rfl, h5⟩ := h5
              clear h03 h4
              have HHr := Lib.hid (HTW2.out.hearsY HT2.out HC.out (by rw [HL1.out]; exact h5))
              have h5' : (0 : Int) < (n1 : Int) := by omega
              go_wp2_with (first
                | (go_at_call 12; refine HHr.out.mono ?_; rintro e w9 ⟨rfl, hw9⟩; obtain ⟨u, d, hd1, hcu, htu, hlen⟩ := hw9.out; obtain ⟨m1, m2, B1, B2, e1, e2, ⟨⟨_, _, p3⟩, _, _, q3⟩, hm1, hm2, _, _⟩ := htu.cells; rw [hm1, hm2, HL1.out, HL2.out] at hlen; have HU : Hid (∃ t, Can ax ay t ∧ Two w w9 p q t ax ay) := ⟨u, hcu, htu⟩; have hus := hcu.small; rw [hm1, hm2] at hus; clear hcu htu hm1 hm2 hw9)
                | fail)
              go_quiet (fail)
              go_wp2
              go_roundw
              case rel => exact ⟨k + 1, a, h + 1, s + d, by omega, by go_num, rfl, by go_num, (by congr 1 <;> omega), by omega, by omega, by omega, kept HU.out (Only.drewN (Only.refl _ _) _)⟩
              case measure => simp [intOf]; omega
            · have hz4 : (z = 4 ∧ n2 = 0) ∨ (z = 5 ∧ n1 = 0) ∨ (z < 0 ∨ 5 < z) := by omega
              clear h03 h4 h5
              rcases hz4 with ⟨rfl, rfl⟩ | ⟨rfl, rfl⟩ | hz4 | hz4
              all_goals
                go_wp2
                go_quiet (fail)
                go_wp2
                go_roundw
                case rel => exact ⟨k + 1, a, h, s, by omega, by go_num, rfl, rfl, (by congr 1 <;> omega), by omega, by omega, by omega, kept ⟨t, HC.out, HTW2.out⟩ (Only.drewN (Only.refl _ _) _)⟩
                case measure => simp [intOf]; omega
      · obtain rfl : k = n := by omega
        obtain ⟨W1, hW1⟩ : ∃ W1, W1 = wr := ⟨_, rfl⟩
        subst hW1
        clear hlt hsk hak hhk hsm hl1 hl2 p2 q2 hC hTw
        have hk60 := hn
        go_wp2
        go_loopw [16] (fun tv W => ∃ j : Nat, tv = .int .i64 (j : Int) ∧ j ≤ 4 ∧ Hid (∃ t, Can ax ay t ∧ Two w W p q t ax ay ∧ j + t.turns ax ay 6 ≤ 4)) (fun tv _ => 5 - (intOf tv).toNat)
        case atStart => exact ⟨0, rfl, by omega, t, HC.out, HTw.out, by have := HC.out.few; omega⟩
        case round =>
          clear HC HTw
          obtain ⟨j, rfl, hj, hrel⟩ := hrel
          obtain ⟨t, hC, hTw, hjt⟩ := hrel.out
          obtain ⟨n1, n2, A1, A2, c1, c2, ⟨⟨_, _, p2⟩, _, _, q2⟩, hl1, hl2, _, _⟩ := hTw.cells
          have hsm := hC.small
          rw [hl1, hl2] at hsm
          have HC := Lib.hid hC
          have HTw := Lib.hid hTw
          have HL1 := Lib.hid hl1
          have HL2 := Lib.hid hl2
          have HJ := Lib.hid hjt
          clear hrel hTw hC hl1 hl2 hjt
          by_cases h00 : n1 = 0 ∧ n2 = 0
          · obtain ⟨rfl, rfl⟩ := h00
            obtain ⟨sk, so, hcells, hcalm⟩ := HTw.out.rests HC.out HL1.out HL2.out
            have HCl := Lib.hid hcells
            have HCm := Lib.hid hcalm
            have heq : ∀ W, (Op.equalIn 10000 23 (.agg #[.int .i64 sk, .bool so]) (.agg #[.int .i64 sk, .bool so])).run Tryd.prog W = .ok true W := fun W => by
              have := eq_state W sk sk so so
              rw [decide_eq_true ⟨rfl, rfl⟩] at this
              exact this
            have hgr := guard_state
            clear hcells hcalm
            go_wp2
            go_quiet (fail)
            go_wp2
            have HCl3 : Hid (∀ W, Only (fun _ => False) (wr.drewN nq) W → (W.cell? ⟨p, 0, none⟩ = some (.int .i64 sk) ∧ W.cell? ⟨p, 1, none⟩ = some (.bool so)) ∧ W.cell? ⟨q, 0, none⟩ = some (.int .i64 sk) ∧ W.cell? ⟨q, 1, none⟩ = some (.bool so)) := fun W ho => HCl.out W (((Only.refl (fun _ => False) wr).drewN nq).trans ho (fun _ h => h.elim))
            have HO3 : Hid (Only (fun _ => False) w (wr.drewN nq)) := HTw.out.only.drewN nq
            obtain ⟨W3, hW3⟩ : ∃ W3, W3 = wr.drewN nq := ⟨_, rfl⟩
            rw [← hW3] at HCl3 HO3 ⊢
            clear hW3 HCl
            go_region_held3 (fun W => (W.cell? ⟨p, 0, none⟩ = some (.int .i64 sk) ∧ W.cell? ⟨p, 1, none⟩ = some (.bool so)) ∧ W.cell? ⟨q, 0, none⟩ = some (.int .i64 sk) ∧ W.cell? ⟨q, 1, none⟩ = some (.bool so))
              (first | exact HCl3.out _ (Only.refl _ _).drew | exact HCl3.out _ ho5.out)
              (first
                | ((with_reducible show Calls _ _ _ (World.drew W3) _); refine (HCm.out _).mono ?_; rintro e w5 ⟨rfl, ho⟩; have ho5 := Lib.hid (((Only.refl (fun _ => False) W3).drew).trans ho (fun _ h => h.elim)); clear ho))
            go_wp2
            go_ret
            exact ⟨rfl, HO3.out.trans ho5.out (fun _ h => h.elim)⟩
          · have hj4 : decide (4 * (k : Int) + 8 < (j : Int)) = false := by simp; omega
            go_wp2
            go_quiet (fail)
            have hT2 : Two w (wr.drewN nq) p q t ax ay := HTw.out.same ((Only.refl _ _).drewN _)
            have p2' : (wr.drewN nq).cell? ⟨p, 2, none⟩ = some (.slice A1 n1 c1) := p2
            have q2' : (wr.drewN nq).cell? ⟨q, 2, none⟩ = some (.slice A2 n2 c2) := q2
            obtain ⟨W2, hW2⟩ : ∃ W2, W2 = wr.drewN nq := ⟨_, rfl⟩
            rw [← hW2] at hT2 p2' q2' ⊢
            have HT2 : Hid (QsW W2) := HT.out.only hT2.only
            have HTW2 := Lib.hid hT2
            have hless := HC.out.less (fun ⟨h1, h2⟩ => h00 ⟨by rw [← HL1.out, h1]; rfl, by rw [← HL2.out, h2]; rfl⟩)
            have hj1 : j + 1 ≤ 4 := by have := HJ.out; omega
            have HEnd : Hid (∀ W, Two w W p q ((t.halfX ax).halfY ay) ax ay → Hid (∃ t, Can ax ay t ∧ Two w W p q t ax ay ∧ j + 1 + t.turns ax ay 6 ≤ 4)) := fun W h => by
              refine ⟨_, HC.out.halfX.halfY, h, ?_⟩
              have := HJ.out
              rw [← turn_halves]
              omega
            clear hW2 p2 q2 hT2 hless HTw
            by_cases h2 : n2 = 0
            · subst h2
              have e1 : t.halfX ax = t := halfX_none HL2.out
              rw [e1] at HEnd
              have h1 : (0 : Int) < (n1 : Int) := by omega
              have HHr := Lib.hid (HTW2.out.halfY HT2.out HC.out (by rw [HL1.out]; omega))
              clear e1 h00
              go_wp2_with (first
                | (go_at_call 12; refine HHr.out.mono ?_; rintro e w9 ⟨rfl, hw9⟩)
                | fail)
              go_roundw
              case rel => exact ⟨j + 1, by go_num, hj1, HEnd.out _ hw9.out⟩
              case measure => simp [intOf]; omega
            · have h2' : (0 : Int) < (n2 : Int) := by omega
              have HHx := Lib.hid (HTW2.out.halfX HT2.out HC.out (by rw [HL2.out]; omega))
              obtain ⟨t1, ht1⟩ : ∃ t1, t1 = t.halfX ax := ⟨_, rfl⟩
              have hc1 : Can ax ay t1 := ht1 ▸ HC.out.halfX
              rw [← ht1] at HHx HEnd
              obtain ⟨m1, hm1⟩ : ∃ m1, t1.p.length = m1 := ⟨_, rfl⟩
              have HC1 := Lib.hid hc1
              have HM1 := Lib.hid hm1
              clear ht1 hc1 hm1 h00
              by_cases hm0 : m1 = 0
              · subst hm0
                have e1 : t1.halfY ay = t1 := halfY_none HM1.out
                rw [e1] at HEnd
                clear e1
                go_wp2_with (first
                  | (go_at_call 12; refine HHx.out.mono ?_; rintro e w9 ⟨rfl, hw9⟩; obtain ⟨m1, m2, B1, B2, e1, e2, ⟨⟨_, _, p3⟩, _, _, q3⟩, hm1, _, _, _⟩ := hw9.out.cells; obtain rfl : m1 = 0 := hm1.symm.trans HM1.out; clear hm1)
                  | fail)
                go_roundw
                case rel => exact ⟨j + 1, by go_num, hj1, HEnd.out _ hw9.out⟩
                case measure => simp [intOf]; omega
              · have h3 : (0 : Int) < (m1 : Int) := by omega
                go_wp2_with (first
                  | ((with_reducible show Calls _ _ _ W2 _); refine HHx.out.mono ?_; rintro e w9 ⟨rfl, hw9⟩; obtain ⟨mm, m2, B1, B2, e1, e2, ⟨⟨_, _, p3⟩, _, _, q3⟩, hmm, _, _, _⟩ := hw9.out.cells; obtain rfl : mm = m1 := hmm.symm.trans HM1.out; clear hmm)
                  | ((with_reducible show Calls _ _ _ w9 _); refine (hw9.out.halfY (HT.out.only hw9.out.only) HC1.out (by rw [HM1.out]; omega)).mono ?_; rintro e w10 ⟨rfl, hw10⟩)
                  | fail)
                go_roundw
                case rel => exact ⟨j + 1, by go_num, hj1, HEnd.out _ hw10.out⟩
                case measure => simp [intOf]; omega
end Go.Proofs.YthfancfmmphakaaDoor
