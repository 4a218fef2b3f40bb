/- Package mask: its calls on bytes and on masks. -/
import Derived.Test.YtedaldkfflogkaaMkSay
import Derived.BigQuiet
import Derived.Lib.SliceRun
namespace Go.Proofs.Ytedaldkfflogkaa
open Go Go.RowKit
set_option maxRecDepth 100000
set_option maxHeartbeats 4000000

/-- A mask's value. -/
def mkV (m : List UInt8) : Value := .agg (m.map B8).toArray
theorem mkV_one (m : List UInt8) : ∀ v ∈ m.map B8, v.oneCell' = true := fun v hv => by
  obtain ⟨x, _, rfl⟩ := List.mem_map.1 hv
  rfl

/-- A load of a whole row that a guard lets be. -/
theorem wpList_load_g {P : Program} {ops : Array Oper} {rest : List Oper} {o : Oper} {a : Act} {w : World} {Q : Exit → Act → World → Prop} (hw : Region.wanted o (yielded ops a.tmps) = true) (ty : TypeId) (x : Operand) (ho : o.op = .load ty x) (b : Nat) (hx : a.eval x = .pointer (some ⟨b, 0, none⟩))
    (cs : List Value) (d : TypeDesc) (hc : w.rangeAt b 0 cs) (hu : P.underlying ty = some d) (hd : d.isRow = true) (hi : (P.info? ty).map (·.size) = some cs.length)
    (h : wpList P ops Q rest (a.put o.dst (.agg cs.toArray)) w) : wpList P ops Q (o :: rest) a w :=
  wpList_step fun K hK => by rw [if_pos hw]; exact wp_load_mid ty x ho b 0 hx cs d hc hu hd hi (hK _ _ h)

theorem bit_any (w : World) (c : UInt8) : Calls Try.prog 12 #[B8 c] w fun e w' => e = .returned (.int .u8 ((2 ^ (7 - c.toNat % 8) : Nat) : Int)) ∧ w = w' := by
  have hc := c.toNat_lt
  unfold B8
  generalize c.toNat = z at *
  obtain ⟨k, hk⟩ : ∃ k, k = z % 8 := ⟨_, rfl⟩
  have hq : (z : Int).tmod 8 = (k : Int) := by rw [Int.tmod_eq_emod_of_nonneg (by omega)]; omega
  have h8 : k < 8 := by omega
  rw [← hk]
  clear hk
  rcases (by omega : k = 0 ∨ k = 1 ∨ k = 2 ∨ k = 3 ∨ k = 4 ∨ k = 5 ∨ k = 6 ∨ k = 7) with rfl | rfl | rfl | rfl | rfl | rfl | rfl | rfl
  all_goals
    go_enter Try.func12, Try.ntmps12
    go_wp2
    go_ret
    exact ⟨rfl, rfl⟩

theorem and_bit (x k : Nat) (hx : x < 256) (hk : k < 8) : (bits .and .u8 (x : Int) ((2 ^ k : Nat) : Int) != 0) = x.testBit k := by
  have key : ∀ (x : Fin 256) (k : Fin 8), (bits .and .u8 (x.val : Int) ((2 ^ k.val : Nat) : Int) != 0) = x.val.testBit k.val := by decide +kernel
  exact key ⟨x, hx⟩ ⟨k, hk⟩
theorem or_bit (x k : Nat) (hx : x < 256) (hk : k < 8) : bits .or .u8 (x : Int) ((2 ^ k : Nat) : Int) = ((x ||| 2 ^ k : Nat) : Int) := by
  have key : ∀ (x : Fin 256) (k : Fin 8), bits .or .u8 (x.val : Int) ((2 ^ k.val : Nat) : Int) = ((x.val ||| 2 ^ k.val : Nat) : Int) := by decide +kernel
  exact key ⟨x, hx⟩ ⟨k, hk⟩

/-- The place of a mask's byte. -/
theorem at_mask (W : World) (N i : Nat) (k : IntKind) (hi : i < 32) : (Instr.indexAt 24 (.pointer (some ⟨N, 0, none⟩)) (.int k (i : Int))).run Try.prog W = .ok (.pointer (some ⟨N, i, none⟩)) W := by
  have hu := Try.underlying24
  have hs : ∀ W, (sizeOf 5).run Try.prog W = .ok 1 W := fun W => by kernel_rfl
  have hlt : (0 : Int) ≤ (i : Int) ∧ (i : Int) < 32 := by omega
  simp [Instr.indexAt, run_underlying hu, Instr.sureAddr, asIntOf, hs, hlt, at_add, hi]
theorem cut_mask (W : World) (N k : Nat) (z : Int) (hz : z = (k : Int)) (hk : k ≤ 32) : (Instr.sliceAt 24 (.pointer (some ⟨N, 0, none⟩)) none (some (.int .i64 z)) none).run Try.prog W = .ok (.slice (some ⟨N, 0, none⟩) k 32) W := by
  subst hz
  have hu := Try.underlying24
  have h := run_sliceAt_array_h (P := Try.prog) (w := W) (a := ⟨N, 0, none⟩) (t := 24) hu .i64 (k : Int) (by omega) (by show (k : Int) ≤ 32; omega)
  rw [h]
  simp
  rfl
/-- A copy of bytes. -/
theorem clone_bytes {w : World} {A : Option Addr} {n c : Nat} {xs : List UInt8} (hs : Src w A n xs) (hn : n ≤ 1048000) :
    Calls Try.prog 13 #[.slice A n c] w fun e w' => ∃ A' c', e = .returned (.slice A' n c') ∧ Src w' A' n xs ∧ n ≤ c' ∧ c' ≤ 9223372036854775807 ∧ Only (fun _ => False) w w' := by
  have qn : ∀ (w : World) (a : Option Addr) (n c n' c' : Nat), (binOp .eql 22 (.slice a n c) (.slice none n' c')).run Try.prog w = .ok (.bool a.isNone) w := fun w a n c n' c' => Lib.run_eql_slice_nil w _ _ a n c n' c' Try.underlying22
  have HO := Lib.hid (((Only.refl (fun _ => False) w).alloc (.cells #[] 5)))
  have HE := Lib.hid (show Body (w.alloc (.cells #[] 5)) 0 (.slice (some ⟨w.heap.size, 0, none⟩) 0 0) [] from own_of_blk (B := 0) (c := 0) (s := 1) (n := 0) (xs := []) (Blk.new w 5 []) rfl rfl (by omega) (by omega) (Nat.zero_le _))
  have HS := Lib.hid hs
  clear hs
  cases A with
  | none =>
    have h0 : n = 0 := by
      rcases Nat.eq_zero_or_pos n with h | h
      · exact h
      · obtain ⟨_, h, _⟩ := HS.out.2 h
        cases h
    subst h0
    go_enter Try.func13, Try.ntmps13
    go_wp2
    go_ret
    exact ⟨_, _, rfl, HS.out, Nat.le_refl _, by omega, Only.refl _ _⟩
  | some ad =>
    go_enter Try.func13, Try.ntmps13
    go_wp2_with (at_builtin; refine step_bytesG rfl (.tmp 5) (.tmp 6) rfl 0 _ _ _ [] rfl HE.out rfl (some ad) n c xs rfl (HS.out.only HO.out (fun _ _ _ h => h)) (by omega) (Nat.zero_le _) ?_; intro A' c' w2 hb hg)
    go_ret
    have hown := hb.out
    rw [Nat.zero_add, List.nil_append] at hown
    obtain ⟨A2, c2, e, h1, h2⟩ := hown.form
    injection e with e1 e2 e3
    subst e1 e3
    refine ⟨A', c', rfl, hown.src HS.out.1.symm, by rw [← HS.out.1]; exact h1, h2, HO.out.grown hg.out (fun q hq => .inr (by cases hq; exact Nat.le_refl _))⟩

theorem mhas_any (w : World) {m : List UInt8} (hl : m.length = 32) (c : UInt8) :
    Calls Try.prog 9 #[mkV m, B8 c] w fun e w' => e = .returned (.bool (mkHas m c.toNat)) ∧ Only (fun _ => False) w w' := by
  have hc := c.toNat_lt
  have HB := Lib.hid (fun W => bit_any W c)
  obtain ⟨i, hi⟩ : ∃ i, i = c.toNat / 8 := ⟨_, rfl⟩
  have hi32 : i < 32 := by omega
  obtain ⟨x, hx⟩ : ∃ x, m[i]? = some x := ⟨_, List.getElem?_eq_getElem (by omega)⟩
  have hq : ((c.toNat : Nat) : Int) / 8 = (i : Int) := by omega
  have hwi : IntKind.u8.wrap (i : Int) = (i : Int) := IntWalk.u8_in _ (by omega)
  have hand := and_bit x.toNat (7 - c.toNat % 8) x.toNat_lt (by omega)
  have e0 : mkHas m c.toNat = x.toNat.testBit (7 - c.toNat % 8) := by rw [mkHas, ← hi, mkAt_of hx]
  rw [e0, ← hand]
  have hcell : (w.alloc (.cells (m.map B8).toArray 24)).cell? ⟨w.heap.size, i, none⟩ = some (.int .u8 (x.toNat : Int)) := by
    rw [(Blk.new w 24 (m.map B8)).cell, List.getElem?_map, hx]
    rfl
  have hle := x.toNat_lt
  clear hand e0 hi hx
  unfold mkV B8 at *
  generalize 2 ^ (7 - c.toNat % 8) = y at *
  generalize x.toNat = xn at *
  generalize c.toNat = z at *
  obtain ⟨cs, hcs⟩ : ∃ cs, cs = m.map fun x => Value.int .u8 (x.toNat : Int) := ⟨_, rfl⟩
  have hcl : cs.length = 32 := by rw [hcs, List.length_map, hl]
  rw [← hcs] at hcell ⊢
  have hix := fun W => at_mask W w.heap.size i .u8 hi32
  clear hcs hl
  go_enter Try.func9, Try.ntmps9
  go_wp2
  go_quiet ((go_at_call 12; exact Calls.quiet_of_same (still_of (HB.out _))))
  go_wp2
  go_ret
  exact ⟨rfl, ((Only.refl _ w).alloc _).drewN _⟩

/-- Where Row stands. -/
theorem mrow_any (w : World) {m : List UInt8} (hl : m.length = 32) :
    Calls Try.prog 6 #[mkV m] w fun e w' => ∃ A' c', e = .returned (.slice A' (mkCut m).length c') ∧ Hid (Src w' A' (mkCut m).length (mkCut m)) ∧ Hid (Only (fun _ => False) w w') := by
  have HB := Lib.hid (Blk.new w 24 (m.map B8))
  have HL := Lib.hid hl
  have HO : Hid (Only (fun _ => False) w (w.alloc (.cells (m.map B8).toArray 24))) := (Only.refl _ w).alloc _
  unfold mkV
  obtain ⟨cs, hcs⟩ : ∃ cs, cs = m.map B8 := ⟨_, rfl⟩
  have hcl : cs.length = 32 := by rw [hcs, List.length_map, hl]
  have HM := Lib.hid hcs
  rw [← hcs] at HB HO ⊢
  have HS : Hid (Src (w.alloc (.cells cs.toArray 24)) (some ⟨w.heap.size, 0, none⟩) 32 m) := HB.out.src hl (fun j x hj => by rw [Nat.zero_add, HM.out, List.getElem?_map, hj]; rfl)
  clear hcs hl
  go_enter Try.func6, Try.ntmps6
  go_wp2
  go_loop [3] (fun i => ∃ k : Nat, k ≤ 32 ∧ i = .int .i64 (k : Int) ∧ Hid (cutLen m k = cutLen m 32)) (fun i => (intOf i).toNat)
  case atStart => exact ⟨32, by omega, rfl, rfl⟩
  case round =>
    obtain ⟨k, hk, rfl, HD⟩ := hrel
    have out : Hid (cutLen m k = k → (mkCut m).length = k ∧ mkCut m = m.take k) := fun h => by
      rw [mkCut_len, mkCut, HL.out, ← HD.out, h]
      exact ⟨rfl, rfl⟩
    cases k with
    | zero =>
      have HT := HS.out.piece 0 0 (Nat.le_refl _) (by omega) (some ⟨w.heap.size, 0, none⟩) (by intro h; omega)
      have HC := Lib.hid (clone_bytes (c := 32) HT (by omega))
      clear HT
      go_wp2_with (first | (go_at_call 13; (with_reducible refine HC.out.mono ?_); rintro e w1 ⟨A', c', rfl, h1, h2, h3, h4⟩) | fail)
      go_ret
      obtain ⟨e1, e2⟩ := out.out rfl
      rw [e1, e2]
      exact ⟨A', c', rfl, h1, HO.out.trans h4 (fun _ h => h.elim)⟩
    | succ k =>
      obtain ⟨x, hx⟩ : ∃ x, m[k]? = some x := ⟨_, List.getElem?_eq_getElem (by rw [HL.out]; omega)⟩
      have hcell : (w.alloc (.cells cs.toArray 24)).cell? ⟨w.heap.size, k, none⟩ = some (.int .u8 (x.toNat : Int)) := by
        rw [HB.out.cell, HM.out, List.getElem?_map, hx]
        rfl
      have hix := fun W => at_mask W w.heap.size k .i64 (by omega)
      have HX := Lib.hid hx
      clear hx
      by_cases h0 : x.toNat = 0
      · have hz : ((x.toNat : Int) == 0) = true := by simp [h0]
        go_wp2
        go_round
        case rel => exact ⟨k, by omega, by go_num, by rw [Hid, ← HD.out, cutLen, if_pos (by rw [mkAt_of HX.out]; exact h0)]⟩
        case measure => simp [intOf]
      · have hz : ((x.toNat : Int) == 0) = false := by simp [h0]
        have HT := HS.out.piece 0 (k + 1) (by omega) (by omega) (some ⟨w.heap.size, 0, none⟩) (by intro _ ad h; injection h with h; subst h; rw [at_add])
        rw [Nat.sub_zero, List.drop_zero] at HT
        have HC := Lib.hid (clone_bytes (c := 32) HT (by omega))
        clear HT
        have hct := fun W => cut_mask W w.heap.size (k + 1) ((k : Int) + 1) (by omega) (by omega)
        go_wp2_with (first | (go_at_call 13; (with_reducible refine HC.out.mono ?_); rintro e w1 ⟨A', c', rfl, h1, h2, h3, h4⟩) | fail)
        go_ret
        obtain ⟨e1, e2⟩ := out.out (by rw [cutLen, if_neg (by rw [mkAt_of HX.out]; exact h0)])
        rw [e1, e2]
        exact ⟨A', c', rfl, h1, HO.out.trans h4 (fun _ h => h.elim)⟩

/-- Where Bytes stands. -/
structure BysAt (w : World) (m : List UInt8) (W : World) (k n : Nat) (V : Value) : Prop where
  len : n = (mkTo m k).length
  row : Body W w.heap.size V (mkTo m k)
  blk : Blk W w.heap.size 24 (m.map B8)
  only : Only (fun _ => False) w W
theorem size_mask : (Try.prog.info? 24).map (·.size) = some 32 := by kernel_rfl
theorem mbytes_any (w : World) {m : List UInt8} (hl : m.length = 32) :
    Calls Try.prog 10 #[mkV m] w fun e w' => ∃ A' c', e = .returned (.slice A' (mkTo m 256).length c') ∧ Hid (Body w' w.heap.size (.slice A' (mkTo m 256).length c') (mkTo m 256)) ∧ Hid (Only (fun _ => False) w w') := by
  have H0 : Hid (BysAt w m (w.alloc (.cells (m.map B8).toArray 24)) 0 0 (.slice none 0 0)) := ⟨rfl, nil_body _ _, Blk.new _ _ _, (Only.refl _ w).alloc _⟩
  have HL := Lib.hid hl
  have HM := Lib.hid (fun W c => mhas_any W hl c)
  unfold mkV at *
  obtain ⟨cs, hcs⟩ : ∃ cs, cs = m.map B8 := ⟨_, rfl⟩
  have hcl : cs.length = 32 := by rw [hcs, List.length_map, hl]
  have HC := Lib.hid hcs
  rw [← hcs] at H0 HM ⊢
  clear hcs hl
  go_enter Try.func10, Try.ntmps10
  go_wp2
  go_loopw [3, 6] (fun v i W => ∃ (k n c : Nat) (A : Option Addr), k ≤ 256 ∧ n ≤ k ∧ v = .slice A n c ∧ i = .int .i64 (k : Int) ∧ Hid (BysAt w m W k n (.slice A n c))) (fun _ i _ => 256 - (intOf i).toNat)
  case atStart => exact ⟨0, 0, 0, none, by omega, by omega, rfl, rfl, H0.out⟩
  case round =>
    clear H0
    obtain ⟨k, n, c, A, hk, hn, rfl, rfl, HD⟩ := hrel
    by_cases hlt : k < 256
    · have hw8 : IntKind.u8.wrap (k : Int) = (k : Int) := IntWalk.u8_in _ (by omega)
      have hB8 : Hid (B8 (UInt8.ofNat k) = .int .u8 (k : Int)) := by
        unfold B8
        rw [UInt8.toNat_ofNat', Nat.mod_eq_of_lt (by omega)]
        rfl
      have HH := HM.out wr (UInt8.ofNat k)
      rw [hB8.out, UInt8.toNat_ofNat', Nat.mod_eq_of_lt (by omega)] at HH
      have hr := range_of HD.out.blk
      rw [← HC.out] at hr
      have HR := Lib.hid hr
      have HS := Lib.hid size_mask
      rw [← hcl] at HS
      have HX := Lib.hid HH
      clear hr HH
      cases hp : mkHas m k with
      | false =>
        rw [hp] at HX
        have HP := Lib.hid (mkTo_skip hp)
        clear hp
        go_wp2_with (first
          | (refine wpList_load_mid rfl 24 _ rfl w.heap.size 0 rfl cs _ HR.out Try.underlying24 rfl HS.out ?_)
          | (go_at_call 9; (with_reducible refine HX.out.mono ?_); rintro e w1 ⟨rfl, ho1⟩)
          | fail)
        go_roundw
        case rel => exact ⟨k + 1, n, c, A, by omega, by omega, rfl, by go_num, by rw [HP.out]; exact HD.out.len, by rw [HP.out]; exact HD.out.row.same ho1, HD.out.blk.only ho1 (fun h => h), HD.out.only.trans ho1 (fun _ h => h.elim)⟩
        case measure => simp [intOf]; omega
      | true =>
        rw [hp] at HX
        have HP := Lib.hid (mkTo_more hp)
        have HT := Lib.hid (mkTo_len m k)
        clear hp
        go_wp2_with (first
          | (refine wpList_load_mid rfl 24 _ rfl w.heap.size 0 rfl cs _ HR.out Try.underlying24 rfl HS.out ?_)
          | (go_at_call 9; (with_reducible refine HX.out.mono ?_); rintro e w1 ⟨rfl, ho1⟩)
          | (at_builtin; refine step_bytesG rfl (.tmp 14) (.tmp 16) rfl w.heap.size A n c (mkTo m k) rfl ((HD.out.row.same ho1).same ((Only.refl _ _).alloc _)) HD.out.len (some ⟨w1.heap.size, 0, none⟩) 1 1 [UInt8.ofNat k] rfl (src_new w1 [UInt8.ofNat k] _ _ _ 1 (by rw [List.map_cons, hB8.out]; rfl) rfl) (by omega) (by have := HD.out.only.size; have := ho1.size; simp; omega) ?_; intro A' c' w2 hb2 hg2)
          | fail)
        go_roundw
        case rel =>
          refine ⟨k + 1, n + 1, c', A', by omega, by omega, rfl, by go_num, ?_, ?_, ?_, ?_⟩
          · rw [HP.out, List.length_append, ← HD.out.len]
            rfl
          · rw [HP.out]
            exact hb2.out
          · exact ((HD.out.blk.only ho1 (fun h => h)).alloc _).grown hg2.out (fun e => own_ne (HD.out.row.same ho1) (HD.out.blk.only ho1 (fun h => h)) (by decide) w.heap.size e rfl)
          · exact ((HD.out.only.trans ho1 (fun _ h => h.elim)).alloc _).grown hg2.out (fun q hq => .inr (own_lt (HD.out.row.same ho1) q hq).1)
        case measure => simp [intOf]; omega
    · obtain rfl : k = 256 := by omega
      have he := HD.out.len
      subst he
      go_wp2
      go_ret
      exact ⟨A, c, rfl, HD.out.row, HD.out.only⟩
end Go.Proofs.Ytedaldkfflogkaa
