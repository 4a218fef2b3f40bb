/- CleanMarks, walked. -/
import Derived.Test.YtelmfncdamakfaaCleanOth
import Derived.Test.YtelmfncdamakfaaCleanIdle
import Derived.Test.YtelmfncdamakfaaTkOf
import Derived.Test.YtelmfncdamakfaaOpenBytes
import Derived.Deep.RegionHeld3
namespace Go.Proofs.Ytelmfncdamakfaa
open Go Go.ChangeShapes Go.WideShapes Go.ChangeAt Go.RowKit
set_option maxRecDepth 100000
set_option maxHeartbeats 4000000

theorem cmarks_long (w : World) (A : Option Addr) (n c : Nat) (f m : Int) (h : 200 < n ∨ n = 0) : Calls Try.prog 5 #[.slice A n c, .int .i64 f, .int .i64 m] w (Fine w) := by
  rcases h with h | rfl
  · have hd : decide ((200 : Int) < (n : Int)) = true := by simp; omega
    clear h
    go_enter Try.func5, Try.ntmps5
    go_wp2_with (first
      | (go_at_call 6; refine (clive_any _).mono ?_; rintro e w1 ⟨rfl, ho1⟩))
    go_ret
    exact ⟨rfl, ho1⟩
  · go_enter Try.func5, Try.ntmps5
    go_wp2_with (first
      | (go_at_call 6; refine (clive_any _).mono ?_; rintro e w1 ⟨rfl, ho1⟩))
    go_ret
    exact ⟨rfl, ho1⟩

/-- A new block of ints. -/
theorem ints_new {w : World} (g : Nat) (zs : List Int) (h : Blk w g 3 (zs.map (.int .i64))) : Ints w (some ⟨g, 0, none⟩) zs.length zs :=
  ⟨rfl, fun _ => ⟨_, rfl, fun j z hj => by rw [at_add, h.cell, List.getElem?_map, hj]; rfl⟩⟩

/-- A row of such tokens. -/
def TokR (W : World) (A : Option Addr) (K c : Nat) (T : List Tk) : Prop := ∃ (B0 : Nat) (ps : List TkP), ps.length = K ∧ ps.map TkP.t = T ∧ Toks W B0 (.slice A K c) ps
theorem TokR.same {W W' : World} {A : Option Addr} {K c : Nat} {T : List Tk} (h : TokR W A K c T) (ho : Only (fun _ => False) W W') : TokR W' A K c T := by
  obtain ⟨B0, ps, h1, h2, h3⟩ := h
  exact ⟨B0, ps, h1, h2, h3.same ho⟩
/-- Where the first loop stands. -/
structure MkAt (w1 : World) (l : List Bt) (p : Nat) (W : World) (k : Nat) (kk : Cl) : Prop where
  only : Only (fun i => w1.heap.size ≤ i) w1 W
  cl : ClAt W p 0 50 [] kk []
  told : kk = (feeds9 .zero 0 (l.take k)).2

theorem cmarks_ok (w : World) (A : Option Addr) (n c : Nat) (xs : List UInt8) (hs : Src w A n xs) (f m : Int) (h0 : 0 < n) (hn : n ≤ 200) (hnc : n ≤ c) : Calls Try.prog 5 #[.slice A n c, .int .i64 f, .int .i64 m] w (Fine w) := by
  have hd : decide ((200 : Int) < (n : Int)) = false := by simp; omega
  have hd0 : ((n : Int) == 0) = false := beq_eq_false_iff_ne.2 (by omega)
  have hd0' : decide ((n : Int) = 0) = false := by simp; omega
  obtain ⟨i, hi, hi1⟩ := u64_rem f n h0
  obtain ⟨j, hj, hj1⟩ := u64_rem m n h0
  have hi2 := wrap64_nat i (by omega)
  have hj2 := wrap64_nat j (by omega)
  have HS := Lib.hid hs
  have hxl := hs.1
  have HXl := Lib.hid hxl
  clear hs
  go_enter Try.func5, Try.ntmps5
  go_wp2_with (first
    | (go_at_call 6; refine (clive_any _).mono ?_; rintro e w1 ⟨rfl, ho1⟩; have HO1 := Lib.hid ho1; clear ho1)
    | ((with_reducible show wpList _ _ _ (⟨some 42, _, _, _, _, _⟩ :: _) _ _); refine step_build rfl 50 #[] rfl (msCells Ms.zero (zeros 256) ++ [Value.bool false, Value.bool false]) (by kernel_rfl) ?_)
    | ((with_reducible show wpList _ _ _ (⟨some 43, _, _, _, _, _⟩ :: _) _ _); refine wpList_boxTo rfl 50 (.tmp 42) rfl _ rfl _ rfl (msCells Ms.zero (zeros 256) ++ [Value.bool false, Value.bool false]).toArray rfl ?_))
  obtain ⟨l, hl⟩ : ∃ l, l = bts xs (mkd n [(i : Int)]) false := ⟨_, rfl⟩
  have hlen : l.length = n := by rw [hl, bts_length (by rw [mkd_length, hxl]), hxl]
  obtain ⟨W0, hW0⟩ : ∃ W0, W0 = w1.alloc (.cells (msCells Ms.zero (zeros 256) ++ [Value.bool false, Value.bool false]).toArray 50) := ⟨_, rfl⟩
  have hCl : ClAt W0 w1.heap.size 0 50 [] .zero [] := by
    rw [hW0]
    exact ⟨Ms.zero_ok, rfl, zeros 256, by simpa [List.append_assoc, Cl.zero] using Blk.new w1 50 (msCells Ms.zero (zeros 256) ++ [Value.bool false, Value.bool false]), rfl, fun v hv => by rw [List.eq_of_mem_replicate hv]; rfl⟩
  have H0 : Hid (MkAt w1 l w1.heap.size W0 0 .zero) := ⟨by rw [hW0]; exact (Only.refl _ _).alloc _, hCl, by simp [feeds9]⟩
  obtain ⟨p, hp⟩ : ∃ p, p = w1.heap.size := ⟨_, rfl⟩
  rw [← hW0, ← hp]
  rw [← hp] at H0
  have HP := Lib.hid hp
  have HL := Lib.hid hl
  have HLn := Lib.hid hlen
  clear hW0 hCl hp hl hlen hi1 hj1 hi2 hj2 hxl
  go_loopw [10, 48] (fun dv iv' W => ∃ (k : Nat) (dd : Bool), k ≤ j ∧ iv' = .int .i64 (k : Int) ∧ dv = .bool dd ∧ Hid (∃ kk, kk.deaf = dd ∧ MkAt w1 l p W k kk)) (fun _ iv' _ => j - (intOf iv').toNat)
  case atStart => exact ⟨0, false, Nat.zero_le _, rfl, rfl, .zero, rfl, H0.out⟩
  case round =>
    clear H0
    obtain ⟨k, dd, hk, rfl, rfl, hrel⟩ := hrel
    obtain ⟨kk, hkd, hM⟩ := hrel.out
    have HM := Lib.hid hM
    by_cases hlt : k < j
    · obtain ⟨x, hx⟩ : ∃ x, xs[k]? = some x := ⟨_, List.getElem?_eq_getElem (by rw [HXl.out]; omega)⟩
      have hO : Only (fun _ => False) w wr := HO1.out.trans hM.only (fun q hq => .inr (by have := HO1.out.size; omega))
      obtain ⟨ad, rfl, hcell⟩ := (HS.out.only hO (fun _ _ _ h => h)).2 (by omega)
      have c0 := hcell k x hx
      unfold B8 at c0
      obtain ⟨mk, hmk⟩ : ∃ mk, mk = decide ((k : Int) ∈ [(i : Int)]) := ⟨_, rfl⟩
      have e1 : ((k : Int) == (i : Int)) = mk := by rw [hmk, Bool.eq_iff_iff]; simp
      have e1' : decide ((k : Int) = (i : Int)) = mk := by rw [hmk]; simp
      have hlk : l[k]? = some ⟨x, mk, false⟩ := by rw [HL.out, hmk]; exact bts_at hx (mkd_at _ (by omega))
      have hF := cfeed_in (by decide) (by decide) hM.cl ⟨x, mk, false⟩ wr.heap.size (Nat.le_refl _)
      obtain ⟨k', o, hfe⟩ : ∃ k' o, feed9 kk ⟨x, mk, false⟩ = (k', o) := ⟨_, _, rfl⟩
      rw [hfe] at hF
      have HF : Hid (Calls Try.prog 16 #[.pointer (some ⟨p, 0, none⟩), .int .u8 (x.toNat : Int), .bool mk, .bool false] wr (FedCl wr p 0 50 [] [] wr.heap.size (k', o))) := hF
      unfold FedCl at HF
      have hnext : k' = (feeds9 .zero 0 (l.take (k + 1))).2 := by
        rw [take_snoc hlk, feeds9_append, ← hM.told]
        simp only [feeds9]
        rw [hfe]
      have HNx := Lib.hid hnext
      have hsz := hM.only.size
      clear hcell hO hx hmk hlk hF hfe hnext hM hrel
      go_wp2_with (first
        | (go_at_call 16; (with_reducible refine HF.out.mono ?_); rintro e w3 ⟨cs, rfl, hcl, hco, hcx, hm3, ho3⟩)
        | (go_at_call 20; (with_reducible refine (cdeaf_in hm3.out).mono ?_); rintro e w4 ⟨rfl, e4⟩; subst w4))
      go_roundw
      case rel =>
        refine ⟨k + 1, _, by omega, by go_num, rfl, k', rfl, HM.out.only.trans ho3.out (fun q hq => .inl (by rw [hq, HP.out]; exact Nat.le_refl _)), hm3.out, HNx.out⟩
      case measure => simp [intOf]; omega
    · obtain rfl : k = j := by omega
      obtain ⟨T1, hT1⟩ : ∃ T1, T1 = (feeds9 .zero 0 l).1.map Prod.fst := ⟨_, rfl⟩
      obtain ⟨T2, hT2⟩ : ∃ T2, T2 = (feeds9 .zero 0 (bts xs (mkd n [(i : Int), (k : Int)]) false)).1.map Prod.fst := ⟨_, rfl⟩
      obtain ⟨T0, hT0⟩ : ∃ T0, T0 = (feeds9 .zero 0 (bts xs (mkd n []) false)).1.map Prod.fst := ⟨_, rfl⟩
      obtain ⟨K1, hK1⟩ : ∃ K1, K1 = T1.length := ⟨_, rfl⟩
      obtain ⟨K2, hK2⟩ : ∃ K2, K2 = T2.length := ⟨_, rfl⟩
      obtain ⟨K0, hK0⟩ : ∃ K0, K0 = T0.length := ⟨_, rfl⟩
      have hc0 : ∀ zs, (bts xs (mkd n zs) false).map Bt.c = xs := fun zs => bts_c (by rw [mkd_length, HXl.out])
      have hl0 : ∀ zs, ((feeds9 .zero 0 (bts xs (mkd n zs) false)).1.map Prod.fst).length ≤ n := fun zs => by
        have h1 := feeds9_length (bts xs (mkd n zs) false) .zero 0
        rw [bts_length (by rw [mkd_length, HXl.out]), HXl.out] at h1
        rw [List.length_map]
        exact h1
      have ho1 : othersN T1 = othersN T0 := by rw [hT1, hT0, HL.out]; exact others_same (by rw [hc0, hc0])
      have ho2 : othersN T2 = othersN T0 := by rw [hT2, hT0]; exact others_same (by rw [hc0, hc0])
      have hsame : dd = true ∨ i = k → T1 = T2 := fun h => by
        have := marks_same (xs := xs) (i := i) (j := k) (by rw [HXl.out]; omega) (by rw [HXl.out, ← HL.out, ← hM.told, hkd]; exact h)
        rw [HXl.out, ← HL.out] at this
        rw [hT1, hT2, this]
      obtain ⟨O, hOe⟩ : ∃ O, O = othersN T0 := ⟨_, rfl⟩
      have hKl1 : K1 ≤ 200 := by rw [hK1, hT1, HL.out]; exact Nat.le_trans (hl0 _) hn
      have hKl2 : K2 ≤ 200 := by rw [hK2, hT2]; exact Nat.le_trans (hl0 _) hn
      have hKl0 : K0 ≤ 200 := by rw [hK0, hT0]; exact Nat.le_trans (hl0 _) hn
      have HAll : ∀ (W : World) (B : Option Addr) (mn md : Nat) (zs : List Int), Only (fun _ => False) w W → Ints W B mn zs → mn ≤ 1000 → Calls Try.prog 12 #[.slice A n c, .slice B mn md, .bool false] W fun e w' => ∃ A' c', e = .returned (.slice A' ((feeds9 .zero 0 (bts xs (mkd n zs) false)).1.map Prod.fst).length c') ∧ Hid (TokR w' A' ((feeds9 .zero 0 (bts xs (mkd n zs) false)).1.map Prod.fst).length c' ((feeds9 .zero 0 (bts xs (mkd n zs) false)).1.map Prod.fst)) ∧ Hid (Only (fun _ => False) W w') := fun W B mn md zs ho hz hmn => by
        refine (clean_all_any (c := c) (d := md) (HS.out.only ho (fun _ _ _ h => h)) hz false (by omega) (by omega)).mono ?_
        rintro e w' ⟨A', c', ps, rfl, hp, ht, _, _, ho⟩
        have hpl : ps.length = ((feeds9 .zero 0 (bts xs (mkd n zs) false)).1.map Prod.fst).length := by rw [← hp.out, List.length_map]
        rw [hpl] at ht ⊢
        exact ⟨A', c', rfl, ⟨_, ps, hpl, hp.out, ht.out⟩, ho⟩
      have HA1 : Hid (∀ (W : World) (g : Nat), Only (fun _ => False) w W → Blk W g 3 [.int .i64 (i : Int)] → Calls Try.prog 12 #[.slice A n c, .slice (some ⟨g, 0, none⟩) 1 1, .bool false] W fun e w' => ∃ A' c', e = .returned (.slice A' K1 c') ∧ Hid (TokR w' A' K1 c' T1) ∧ Hid (Only (fun _ => False) W w')) := fun W g ho hb => by
        have := HAll W (some ⟨g, 0, none⟩) 1 1 [(i : Int)] ho (ints_new g [(i : Int)] hb) (by omega)
        rw [← HL.out, ← hT1, ← hK1] at this
        exact this
      have HA2 : Hid (∀ (W : World) (g : Nat), Only (fun _ => False) w W → Blk W g 3 [.int .i64 (i : Int), .int .i64 (k : Int)] → Calls Try.prog 12 #[.slice A n c, .slice (some ⟨g, 0, none⟩) 2 2, .bool false] W fun e w' => ∃ A' c', e = .returned (.slice A' K2 c') ∧ Hid (TokR w' A' K2 c' T2) ∧ Hid (Only (fun _ => False) W w')) := fun W g ho hb => by
        have := HAll W (some ⟨g, 0, none⟩) 2 2 [(i : Int), (k : Int)] ho (ints_new g [(i : Int), (k : Int)] hb) (by omega)
        rw [← hT2, ← hK2] at this
        exact this
      have HA0 : Hid (∀ (W : World), Only (fun _ => False) w W → Calls Try.prog 12 #[.slice A n c, .slice none 0 0, .bool false] W fun e w' => ∃ A' c', e = .returned (.slice A' K0 c') ∧ Hid (TokR w' A' K0 c' T0) ∧ Hid (Only (fun _ => False) W w')) := fun W ho => by
        have := HAll W none 0 0 [] ho (Ints.nil _ _) (by omega)
        rw [← hT0, ← hK0] at this
        exact this
      have HOth : ∀ (W : World) (A' : Option Addr) (K c' : Nat) (T : List Tk), K ≤ 200 → othersN T = O → TokR W A' K c' T → Calls Try.prog 21 #[.slice A' K c'] W fun e w' => e = .returned (.int .i64 (O : Int)) ∧ Hid (Only (fun _ => False) W w') := fun W A' K c' T hK hO ⟨B0, ps, h1, h2, h3⟩ => by
        have := others_any h3 h1 (by omega)
        rw [h2, hO] at this
        exact this
      have HOt1 : Hid (∀ (W : World) (A' : Option Addr) (c' : Nat), TokR W A' K1 c' T1 → Calls Try.prog 21 #[.slice A' K1 c'] W fun e w' => e = .returned (.int .i64 (O : Int)) ∧ Hid (Only (fun _ => False) W w')) := fun W A' c' h => HOth W A' K1 c' T1 hKl1 (by rw [ho1, hOe]) h
      have HOt2 : Hid (∀ (W : World) (A' : Option Addr) (c' : Nat), TokR W A' K2 c' T2 → Calls Try.prog 21 #[.slice A' K2 c'] W fun e w' => e = .returned (.int .i64 (O : Int)) ∧ Hid (Only (fun _ => False) W w')) := fun W A' c' h => HOth W A' K2 c' T2 hKl2 (by rw [ho2, hOe]) h
      have HOt0 : Hid (∀ (W : World) (A' : Option Addr) (c' : Nat), TokR W A' K0 c' T0 → Calls Try.prog 21 #[.slice A' K0 c'] W fun e w' => e = .returned (.int .i64 (O : Int)) ∧ Hid (Only (fun _ => False) W w')) := fun W A' c' h => HOth W A' K0 c' T0 hKl0 hOe.symm h
      have hOO : ((O : Int) == (O : Int)) = true := by simp
      have hOO' : decide ((O : Int) = (O : Int)) = true := by simp
      have HOr := Lib.hid (HO1.out.trans hM.only (fun q hq => .inr (by have := HO1.out.size; omega)))
      obtain ⟨W9, hW9⟩ : ∃ W9, W9 = wr := ⟨_, rfl⟩
      subst hW9
      obtain ⟨w5, hw5⟩ : ∃ w5, w5 = W9.alloc (.cells #[.int .i64 (i : Int)] 3) := ⟨_, rfl⟩
      have HB5 : Hid (Blk w5 W9.heap.size 3 [.int .i64 (i : Int)]) := by rw [hw5]; exact Blk.new W9 _ [.int .i64 (i : Int)]
      have HO5 : Hid (Only (fun _ => False) w w5) := by rw [hw5]; exact HOr.out.alloc _
      have hww5 := hw5.symm
      have hik : ((i : Int) == (k : Int)) = decide (i = k) := by rw [Bool.eq_iff_iff]; simp; omega
      have hik' : decide ((i : Int) = (k : Int)) = decide (i = k) := decide_eq_decide.2 (by omega)
      clear hT1 hT2 hT0 hK0 hc0 hl0 ho1 ho2 hKl2 hKl0 HAll HOth hOe hw5 hM hrel hkd hlt
      by_cases hcond : dd = true ∨ i = k
      · have hT12 := hsame hcond
        have hK12 : K1 = K2 := by rw [hK1, hK2, hT12]
        clear hK1 hK2 hsame
        subst hK12
        have hKK : ((K1 : Int) != (K1 : Int)) = false := by simp
        have hcd : (dd || decide (i = k)) = true := by simpa using hcond
        subst hT12
        have HKl1 := Lib.hid hKl1
        clear hcond
        cases dd
        all_goals
          simp only [Bool.true_or, Bool.false_or] at hcd
          try rw [hcd] at hik hik'
          go_wp2_with (first
            | (go_at_call 12; (with_reducible refine (HA1.out w5 W9.heap.size HO5.out HB5.out).mono ?_); rintro e w6 ⟨A6, c6, rfl, ht6, ho6⟩; have HO7 : Hid (Only (fun _ => False) w (w6.alloc (.cells #[.int .i64 (i : Int), .int .i64 (k : Int)] 3))) := (HO5.out.trans ho6.out (fun _ h => h.elim)).alloc _)
            | (go_at_call 12; (with_reducible refine (HA2.out (w6.alloc (.cells #[.int .i64 (i : Int), .int .i64 (k : Int)] 3)) w6.heap.size HO7.out (Blk.new w6 _ [.int .i64 (i : Int), .int .i64 (k : Int)])).mono ?_); rintro e w8 ⟨A8, c8, rfl, ht8, ho8⟩; have HOW8 : Hid (Only (fun _ => False) w w8) := HO7.out.trans ho8.out (fun _ h => h.elim); have HR18 : Hid (TokR w8 A6 K1 c6 T1) := (ht6.out.same ((Only.refl _ w6).alloc _)).same ho8.out))
          go_loopw [87] (fun iv' W => ∃ q : Nat, q ≤ K1 ∧ iv' = .int .i64 (q : Int) ∧ Hid (Only (fun _ => False) w8 W)) (fun iv' _ => K1 - (intOf iv').toNat)
          case atStart => exact ⟨0, Nat.zero_le _, rfl, Only.refl _ _⟩
          case round =>
            obtain ⟨q, hq, rfl, ho⟩ := hrel
            by_cases hlt : q < K1
            · obtain ⟨_, ps1, hl1, hm1, hT1⟩ := HR18.out.same ho.out
              obtain ⟨_, ps2, hl2, hm2, hT2⟩ := ht8.out.same ho.out
              obtain ⟨a, ha⟩ : ∃ a, ps1[q]? = some a := ⟨_, List.getElem?_eq_getElem (by rw [hl1]; exact hlt)⟩
              obtain ⟨b, hb⟩ : ∃ b, ps2[q]? = some b := ⟨_, List.getElem?_eq_getElem (by rw [hl2]; exact hlt)⟩
              have hab : a.t = b.t := by
                have h1 : (ps1.map TkP.t)[q]? = some a.t := by rw [List.getElem?_map, ha]; rfl
                have h2 : (ps2.map TkP.t)[q]? = some b.t := by rw [List.getElem?_map, hb]; rfl
                rw [hm1, ← hm2, h2] at h1
                exact (Option.some.inj h1).symm
              obtain ⟨ga, rfl, _, hga, hra, hba⟩ := hT1.at_ ha
              obtain ⟨gb, rfl, _, hgb, hrb, hbb⟩ := hT2.at_ hb
              obtain ⟨⟨tk, tc, to_, tb, tcut⟩, aad, acap⟩ := a
              obtain ⟨⟨bk, bc, bo, bb, bcut⟩, bad, bcap⟩ := b
              obtain ⟨rfl, rfl, rfl, rfl, rfl⟩ : tk = bk ∧ tc = bc ∧ to_ = bo ∧ tb = bb ∧ tcut = bcut := by
                simp only at hab
                injection hab with h1 h2 h3 h4 h5
                exact ⟨h1, h2, h3, h4, h5⟩
              obtain ⟨tn, htn⟩ : ∃ tn, tn = tb.length := ⟨_, rfl⟩
              have hfb := five_of hrb
              have HFb := Lib.hid hfb
              have HRA := Lib.hid hba.reads
              have HRB := Lib.hid hbb.reads
              have HTN := Lib.hid htn
              obtain ⟨cs, hcs⟩ : ∃ cs, cs = tkCells ⟨tk, tc, to_, tb, tcut⟩ (.slice aad tn acap) := ⟨_, rfl⟩
              have HCS := Lib.hid hcs
              have HR' : Hid (wr.rangeAt ga (q * 5) cs) := by
                rw [hcs, htn]
                exact hra
              have hcl : cs.length = 5 := by rw [hcs]; rfl
              have HCL' := Lib.hid hcl
              have HCO := Lib.hid (show ∀ v ∈ cs, v.oneCell' = true by rw [hcs]; exact tk_one _ _ _ _)
              clear hra hrb hba hbb ha hb htn hcs hcl hfb hT1 hT2 hm1 hm2 hl1 hl2 hab
              go_wp2_with (first
                | ((with_reducible show wpList _ _ _ (⟨some 91, _, _, _, _, _⟩ :: _) _ _); refine wpList_load_mid rfl 52 (.tmp 90) rfl ga (q * 5) rfl cs _ HR'.out Try.underlying52 rfl (by rw [HCL'.out]; exact size_tok) ?_)
                | ((with_reducible show wpList _ _ _ (⟨none, .store 52 _ _, _, _, _, _⟩ :: _) _ _); refine step_store rfl 52 _ _ rfl wr.heap.size rfl cs rfl _ (tkCells Tk.none (.slice none 0 0)) (Blk.new _ _ _) (by rw [HCL'.out]; exact size_tok) HCL'.out.symm HCO.out ?_; intro w4 hB4 hz4 ho4))
              have ho4' : Only (fun i => wr.heap.size ≤ i) wr w4 := ((Only.refl (fun i => wr.heap.size ≤ i) wr).alloc _).trans ho4 (fun i hi => .inl (by omega))
              obtain ⟨N, hN⟩ : ∃ N, N = wr.heap.size := ⟨_, rfl⟩
              have HB4 : Hid (Blk w4 N 52 (tkCells ⟨tk, tc, to_, tb, tcut⟩ (.slice aad tn acap))) := by
                have h := hB4.out
                rw [HCS.out, ← hN] at h
                exact h
              have hf4 : FiveAt w4 gb (q * 5) ⟨tk, tc, to_, tb, tcut⟩ bad tn bcap := by
                have := HFb.out.only ho4' (by omega)
                rw [HTN.out]
                exact this
              have HF4 := Lib.hid hf4
              have HOfA : Hid (∀ W, Only (fun _ => False) w4 W → Calls Try.prog 17 #[.agg #[.int .i64 tk, .int .i64 tc, .int .i64 to_, .slice aad tn acap, .bool tcut]] W fun e w' => e = .returned (.agg #[.int .i64 tk, .int .i64 tc, .int .i64 to_, .string ⟨tb.toArray⟩, .bool tcut]) ∧ Hid (Only (fun _ => False) W w')) := fun W ho => of_flat tk tc to_ tb tcut aad tn acap HTN.out (by rw [HTN.out]; obtain ⟨A', c', e, h1, h2⟩ := HRA.out; exact ⟨A', c', e, (h1.only ho4' (fun hn ad hA => by have := h1.lt hn ad hA; omega)).only ho (fun _ _ _ h => h), h2⟩)
              have HOfB : Hid (∀ W, Only (fun _ => False) w4 W → Calls Try.prog 17 #[.agg #[.int .i64 tk, .int .i64 tc, .int .i64 to_, .slice bad tn bcap, .bool tcut]] W fun e w' => e = .returned (.agg #[.int .i64 tk, .int .i64 tc, .int .i64 to_, .string ⟨tb.toArray⟩, .bool tcut]) ∧ Hid (Only (fun _ => False) W w')) := fun W ho => of_flat tk tc to_ tb tcut bad tn bcap HTN.out (by rw [HTN.out]; obtain ⟨A', c', e, h1, h2⟩ := HRB.out; exact ⟨A', c', e, (h1.only ho4' (fun hn ad hA => by have := h1.lt hn ad hA; omega)).only ho (fun _ _ _ h => h), h2⟩)
              have heq : ∀ W, (Op.equalIn 10000 56 (.agg #[.int .i64 tk, .int .i64 tc, .int .i64 to_, .string ⟨tb.toArray⟩, .bool tcut]) (.agg #[.int .i64 tk, .int .i64 tc, .int .i64 to_, .string ⟨tb.toArray⟩, .bool tcut])).run Try.prog W = .ok true W := fun W => by
                have := eq_rtok W ⟨tk, tc, to_, tb, tcut⟩ ⟨tk, tc, to_, tb, tcut⟩
                rw [decide_eq_true rfl] at this
                exact this
              have hgr := guard_rtok
              have HO84 := Lib.hid (ho.out.trans ho4' (fun i hi => .inr (by have := ho.out.size; omega)))
              have HAl : Hid (∀ W, Only (fun _ => False) w4 W → (W.cell? ⟨N, 0, none⟩ = some (.int .i64 tk) ∧ W.cell? ⟨N, 1, none⟩ = some (.int .i64 tc) ∧ W.cell? ⟨N, 2, none⟩ = some (.int .i64 to_) ∧ W.cell? ⟨N, 3, none⟩ = some (.slice aad tn acap) ∧ W.cell? ⟨N, 4, none⟩ = some (.bool tcut)) ∧ W.cell? ⟨gb, q * 5, none⟩ = some (.int .i64 tk) ∧ W.cell? ⟨gb, q * 5 + 1, none⟩ = some (.int .i64 tc) ∧ W.cell? ⟨gb, q * 5 + 2, none⟩ = some (.int .i64 to_) ∧ W.cell? ⟨gb, q * 5 + 3, none⟩ = some (.slice bad tn bcap) ∧ W.cell? ⟨gb, q * 5 + 4, none⟩ = some (.bool tcut)) := fun W ho => by
                have h1 := HB4.out.only ho (fun h => h)
                obtain ⟨y0, y1, y2, y3, y4⟩ := HF4.out
                exact ⟨⟨by rw [h1.cell]; rfl, by rw [h1.cell]; rfl, by rw [h1.cell]; rfl, by rw [h1.cell]; rfl, by rw [h1.cell]; rfl⟩, ho.cellv y0 (fun h => h), ho.cellv y1 (fun h => h), ho.cellv y2 (fun h => h), ho.cellv y3 (fun h => h), ho.cellv y4 (fun h => h)⟩
              have hD4 : Only (fun _ => False) w4 w4.drew := (Only.refl _ w4).drew
              rw [← hN]
              clear hf4 hN ho4' ho4 hz4 hB4 HRA HRB HFb HR'
              go_region_held3 (fun W => (W.cell? ⟨N, 0, none⟩ = some (.int .i64 tk) ∧ W.cell? ⟨N, 1, none⟩ = some (.int .i64 tc) ∧ W.cell? ⟨N, 2, none⟩ = some (.int .i64 to_) ∧ W.cell? ⟨N, 3, none⟩ = some (.slice aad tn acap) ∧ W.cell? ⟨N, 4, none⟩ = some (.bool tcut)) ∧ W.cell? ⟨gb, q * 5, none⟩ = some (.int .i64 tk) ∧ W.cell? ⟨gb, q * 5 + 1, none⟩ = some (.int .i64 tc) ∧ W.cell? ⟨gb, q * 5 + 2, none⟩ = some (.int .i64 to_) ∧ W.cell? ⟨gb, q * 5 + 3, none⟩ = some (.slice bad tn bcap) ∧ W.cell? ⟨gb, q * 5 + 4, none⟩ = some (.bool tcut))
                (exact HAl.out _ (by assumption))
                (first
                  | (go_at_call 17; (with_reducible refine (HOfA.out _ (by assumption)).mono ?_); rintro e w5' ⟨rfl, ho5⟩; have hD5 : Only (fun _ => False) w4 w5' := hD4.trans ho5.out (fun _ h => h.elim))
                  | (go_at_call 17; (with_reducible refine (HOfB.out _ (by assumption)).mono ?_); rintro e w6' ⟨rfl, ho6'⟩; have hD6 : Only (fun _ => False) w4 w6' := hD5.trans ho6'.out (fun _ h => h.elim)))
              go_wp2
              go_roundw
              case rel => exact ⟨q + 1, by omega, by go_num, HO84.out.trans hD6 (fun _ h => h.elim)⟩
              case measure => simp [intOf]; omega
            · obtain rfl : q = K1 := by omega
              have HOW := Lib.hid (HOW8.out.trans ho.out (fun _ h => h.elim))
              have HR1 := Lib.hid (HR18.out.same ho.out)
              have HR2 := Lib.hid (ht8.out.same ho.out)
              clear hlt
              go_wp2_with (first
                | (go_at_call 12; (with_reducible refine (HA0.out _ HOW.out).mono ?_); rintro e w11 ⟨A11, c11, rfl, ht11, ho11⟩; have hR1 := HR1.out.same ho11.out; have hR2 := HR2.out.same ho11.out)
                | (go_at_call 21; (with_reducible refine (HOt1.out w11 A6 c6 hR1).mono ?_); rintro e w12 ⟨rfl, ho12⟩)
                | (go_at_call 21; (with_reducible refine (HOt0.out w12 A11 c11 (ht11.out.same ho12.out)).mono ?_); rintro e w13 ⟨rfl, ho13⟩)
                | (go_at_call 21; (with_reducible refine (HOt2.out w13 A8 c8 ((hR2.same ho12.out).same ho13.out)).mono ?_); rintro e w14 ⟨rfl, ho14⟩)
                | (go_at_call 21; (with_reducible refine (HOt0.out w14 A11 c11 (((ht11.out.same ho12.out).same ho13.out).same ho14.out)).mono ?_); rintro e w15 ⟨rfl, ho15⟩))
              go_ret
              exact ⟨rfl, ((((HOW.out.trans ho11.out (fun _ h => h.elim)).trans ho12.out (fun _ h => h.elim)).trans ho13.out (fun _ h => h.elim)).trans ho14.out (fun _ h => h.elim)).trans ho15.out (fun _ h => h.elim)⟩
      · have hdd : dd = false := by simpa using fun h => hcond (.inl h)
        have hikf : decide (i = k) = false := by simpa using fun h => hcond (.inr h)
        subst hdd
        rw [hikf] at hik hik'
        clear hcond hsame hK1 hK2 hikf
        go_wp2_with (first
          | (go_at_call 12; (with_reducible refine (HA1.out w5 W9.heap.size HO5.out HB5.out).mono ?_); rintro e w6 ⟨A6, c6, rfl, ht6, ho6⟩; have HO7 : Hid (Only (fun _ => False) w (w6.alloc (.cells #[.int .i64 (i : Int), .int .i64 (k : Int)] 3))) := (HO5.out.trans ho6.out (fun _ h => h.elim)).alloc _)
          | (go_at_call 12; (with_reducible refine (HA2.out (w6.alloc (.cells #[.int .i64 (i : Int), .int .i64 (k : Int)] 3)) w6.heap.size HO7.out (Blk.new w6 _ [.int .i64 (i : Int), .int .i64 (k : Int)])).mono ?_); rintro e w8 ⟨A8, c8, rfl, ht8, ho8⟩; have HOW : Hid (Only (fun _ => False) w w8) := HO7.out.trans ho8.out (fun _ h => h.elim); have HR1 : Hid (TokR w8 A6 K1 c6 T1) := (ht6.out.same ((Only.refl _ w6).alloc _)).same ho8.out; have HR2 := ht8)
          | (go_at_call 12; (with_reducible refine (HA0.out _ HOW.out).mono ?_); rintro e w11 ⟨A11, c11, rfl, ht11, ho11⟩; have hR1 := HR1.out.same ho11.out; have hR2 := HR2.out.same ho11.out)
          | (go_at_call 21; (with_reducible refine (HOt1.out w11 A6 c6 hR1).mono ?_); rintro e w12 ⟨rfl, ho12⟩)
          | (go_at_call 21; (with_reducible refine (HOt0.out w12 A11 c11 (ht11.out.same ho12.out)).mono ?_); rintro e w13 ⟨rfl, ho13⟩)
          | (go_at_call 21; (with_reducible refine (HOt2.out w13 A8 c8 ((hR2.same ho12.out).same ho13.out)).mono ?_); rintro e w14 ⟨rfl, ho14⟩)
          | (go_at_call 21; (with_reducible refine (HOt0.out w14 A11 c11 (((ht11.out.same ho12.out).same ho13.out).same ho14.out)).mono ?_); rintro e w15 ⟨rfl, ho15⟩))
        go_ret
        exact ⟨rfl, ((((HOW.out.trans ho11.out (fun _ h => h.elim)).trans ho12.out (fun _ h => h.elim)).trans ho13.out (fun _ h => h.elim)).trans ho14.out (fun _ h => h.elim)).trans ho15.out (fun _ h => h.elim)⟩

theorem cleanMarks_walk (W : World) {H : Type} {enc : TypeId × Value → H} {f0 : Nat} {A : Option Addr} {n c : Nat} {x : DataW H × List MemPlace} (hf : DataW.trod enc Try.prog W 0 (fun _ => true) true f0 22 [.slice A n c] = some x) (f m : Int) :
    Calls Try.prog 5 #[.slice A n c, .int .i64 f, .int .i64 m] W (Fine W) := by
  obtain ⟨A', n', c', xs, e1, h1, h2, h3⟩ := opened_cell hf
  injection e1 with e1 e2 e3
  subst e1 e2 e3
  by_cases h : 200 < n ∨ n = 0
  · exact cmarks_long W A n c f m h
  · exact cmarks_ok W A n c xs h1 f m (by omega) (by omega) h2
end Go.Proofs.Ytelmfncdamakfaa
