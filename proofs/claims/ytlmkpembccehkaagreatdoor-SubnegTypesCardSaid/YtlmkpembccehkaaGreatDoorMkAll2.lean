/- Several texts in one. -/
import Derived.Test.YtlmkpembccehkaaGreatDoorText
import Derived.BigQuiet
import Derived.Lib.SliceRun
import Derived.StillTailTactics
import Derived.Test.YtlmkpembccehkaaGreatDoorErAll
import Derived.Test.YtlmkpembccehkaaGreatDoorVerb
/- Masks of bytes: which bytes are in, what is added, all that are in, a row's noughts cut off: as plain functions of rows of 32 bytes. -/
namespace Go.Proofs.YtlmkpembccehkaaGreatDoor
open Go Go.RowKit
set_option maxRecDepth 100000
set_option maxHeartbeats 4000000

/-- A byte of a row; 0 behind its end. -/
def mkAt (m : List UInt8) (i : Nat) : Nat := ((m[i]?).getD 0).toNat
theorem mkAt_lt (m : List UInt8) (i : Nat) : mkAt m i < 256 := UInt8.toNat_lt _
theorem mkAt_of {m : List UInt8} {i : Nat} {x : UInt8} (h : m[i]? = some x) : mkAt m i = x.toNat := by simp [mkAt, h]
/-- Whether a byte is in. -/
def mkHas (m : List UInt8) (c : Nat) : Bool := (mkAt m (c / 8)).testBit (7 - c % 8)
theorem mkHas_div (m : List UInt8) (c : Nat) : mkHas m c = decide (mkAt m (c / 8) / 2 ^ (7 - c % 8) % 2 = 1) := Nat.testBit_eq_decide_div_mod_eq
/-- A row with one more byte. -/
def mkAdd (m : List UInt8) (x : UInt8) : List UInt8 := m.set (x.toNat / 8) (UInt8.ofNat (mkAt m (x.toNat / 8) ||| 2 ^ (7 - x.toNat % 8)))
theorem mkAdd_len (m : List UInt8) (x : UInt8) : (mkAdd m x).length = m.length := by simp [mkAdd]
theorem two_pow_lt {k : Nat} (h : k < 8) : 2 ^ k < 256 := by
  have := Nat.pow_lt_pow_right (a := 2) (by omega) h
  simpa using this
theorem or_lt {x k : Nat} (hx : x < 256) (hk : k < 8) : x ||| 2 ^ k < 256 := Nat.or_lt_two_pow (n := 8) hx (two_pow_lt hk)
theorem mkAdd_has {m : List UInt8} (hl : m.length = 32) (x : UInt8) (c : Nat) (hc : c < 256) : mkHas (mkAdd m x) c = (mkHas m c || decide (x.toNat = c)) := by
  have hx := x.toNat_lt
  have hlt := mkAt_lt m (x.toNat / 8)
  unfold mkHas
  by_cases h : x.toNat / 8 = c / 8
  · have e : mkAt (mkAdd m x) (c / 8) = mkAt m (c / 8) ||| 2 ^ (7 - x.toNat % 8) := by
      unfold mkAdd
      rw [← h]
      rw [mkAt_of (x := UInt8.ofNat (mkAt m (x.toNat / 8) ||| 2 ^ (7 - x.toNat % 8))) (by rw [List.getElem?_set_self]; omega)]
      rw [UInt8.toNat_ofNat']
      exact Nat.mod_eq_of_lt (or_lt hlt (by omega))
    rw [e, Nat.testBit_or, Nat.testBit_two_pow]
    congr 1
    rw [decide_eq_decide]
    omega
  · have e : mkAt (mkAdd m x) (c / 8) = mkAt m (c / 8) := by
      unfold mkAdd mkAt
      rw [List.getElem?_set_ne h]
    rw [e, decide_eq_false (p := x.toNat = c) (by rintro rfl; exact h rfl), Bool.or_false]
/-- The row of bytes. -/
def mkOf (xs : List UInt8) : List UInt8 := xs.foldl mkAdd (List.replicate 32 0)
theorem mkFold_len (xs : List UInt8) : ∀ m : List UInt8, (xs.foldl mkAdd m).length = m.length := by
  induction xs with
  | nil => intro m; rfl
  | cons x xs ih => intro m; rw [List.foldl_cons, ih, mkAdd_len]
theorem mkOf_len (xs : List UInt8) : (mkOf xs).length = 32 := by rw [mkOf, mkFold_len, List.length_replicate]
theorem mkFold_has (xs : List UInt8) (c : Nat) (hc : c < 256) : ∀ m : List UInt8, m.length = 32 → mkHas (xs.foldl mkAdd m) c = (mkHas m c || xs.any fun x => decide (x.toNat = c)) := by
  induction xs with
  | nil => intro m _; simp
  | cons x xs ih =>
    intro m hl
    rw [List.foldl_cons, ih _ (by rw [mkAdd_len]; exact hl), mkAdd_has hl x c hc, List.any_cons, Bool.or_assoc]
theorem mkNone (c : Nat) : mkHas (List.replicate 32 0) c = false := by
  have : mkAt (List.replicate 32 0) (c / 8) = 0 := by
    unfold mkAt
    rw [List.getElem?_replicate]
    split <;> rfl
  rw [mkHas, this, Nat.zero_testBit]
theorem mkOf_has (xs : List UInt8) (c : Nat) (hc : c < 256) : mkHas (mkOf xs) c = xs.any fun x => decide (x.toNat = c) := by
  rw [mkOf, mkFold_has xs c hc _ (by simp), mkNone, Bool.false_or]
/-- Two rows that have the same bytes are one. -/
theorem mk_ext {m m' : List UInt8} (h1 : m.length = 32) (h2 : m'.length = 32) (h : ∀ c, c < 256 → mkHas m c = mkHas m' c) : m = m' := by
  refine List.ext_getElem (by omega) fun i hi hi' => ?_
  have e1 : mkAt m i = (m[i]).toNat := mkAt_of (List.getElem?_eq_getElem hi)
  have e2 : mkAt m' i = (m'[i]).toNat := mkAt_of (List.getElem?_eq_getElem hi')
  apply UInt8.toNat_inj.1
  rw [← e1, ← e2]
  apply Nat.eq_of_testBit_eq
  intro j
  by_cases hj : j < 8
  · have := h (8 * i + (7 - j)) (by omega)
    unfold mkHas at this
    rwa [show (8 * i + (7 - j)) / 8 = i from by omega, show 7 - (8 * i + (7 - j)) % 8 = j from by omega] at this
  · rw [Nat.testBit_lt_two_pow (Nat.lt_of_lt_of_le (mkAt_lt m i) (by have := Nat.pow_le_pow_right (n := 2) (by omega) (show 8 ≤ j by omega); simpa using this)),
      Nat.testBit_lt_two_pow (Nat.lt_of_lt_of_le (mkAt_lt m' i) (by have := Nat.pow_le_pow_right (n := 2) (by omega) (show 8 ≤ j by omega); simpa using this))]

/-- All that are in, below a number. -/
def mkTo (m : List UInt8) (k : Nat) : List UInt8 := ((List.range k).filter (mkHas m)).map UInt8.ofNat
theorem mkTo_skip {m : List UInt8} {k : Nat} (h : mkHas m k = false) : mkTo m (k + 1) = mkTo m k := by simp [mkTo, List.range_succ, h]
theorem mkTo_more {m : List UInt8} {k : Nat} (h : mkHas m k = true) : mkTo m (k + 1) = mkTo m k ++ [UInt8.ofNat k] := by simp [mkTo, List.range_succ, h]
theorem mkTo_len (m : List UInt8) (k : Nat) : (mkTo m k).length ≤ k := by
  rw [mkTo, List.length_map]
  exact Nat.le_trans (List.length_filter_le _ _) (by simp)
/-- The bytes of a mask make the mask. -/
theorem mkOf_back {m : List UInt8} (hl : m.length = 32) : mkOf (mkTo m 256) = m := by
  refine mk_ext (mkOf_len _) hl fun c hc => ?_
  rw [mkOf_has _ c hc, Bool.eq_iff_iff, List.any_eq_true]
  constructor
  · rintro ⟨x, hx, he⟩
    obtain ⟨k, hk, rfl⟩ := List.mem_map.1 hx
    obtain ⟨hk1, hk2⟩ := List.mem_filter.1 hk
    rw [List.mem_range] at hk1
    rw [decide_eq_true_eq, UInt8.toNat_ofNat', Nat.mod_eq_of_lt (by omega)] at he
    subst he
    exact hk2
  · intro h
    refine ⟨UInt8.ofNat c, List.mem_map.2 ⟨c, List.mem_filter.2 ⟨List.mem_range.2 hc, h⟩, rfl⟩, ?_⟩
    rw [decide_eq_true_eq, UInt8.toNat_ofNat', Nat.mod_eq_of_lt (by omega)]

/-- How many bytes are left of the first so many, without the noughts at their end. -/
def cutLen (m : List UInt8) : Nat → Nat
  | 0 => 0
  | k + 1 => if mkAt m k = 0 then cutLen m k else k + 1
theorem cutLen_le (m : List UInt8) : ∀ k, cutLen m k ≤ k
  | 0 => Nat.le_refl _
  | k + 1 => by
    have := cutLen_le m k
    rw [cutLen]
    split <;> omega
/-- A row without noughts at its end. -/
def mkCut (m : List UInt8) : List UInt8 := m.take (cutLen m m.length)
theorem mkCut_len (m : List UInt8) : (mkCut m).length = cutLen m m.length := by
  rw [mkCut, List.length_take, Nat.min_eq_left (cutLen_le _ _)]
theorem mkCut_le (m : List UInt8) : (mkCut m).length ≤ m.length := by
  rw [mkCut_len]
  exact cutLen_le _ _
theorem cut_pad (m : List UInt8) : ∀ k, k ≤ m.length → m.take (cutLen m k) ++ List.replicate (k - cutLen m k) 0 = m.take k
  | 0, _ => by simp [cutLen]
  | k + 1, h => by
    have ih := cut_pad m k (by omega)
    have hle := cutLen_le m k
    rw [cutLen]
    split
    · rename_i h0
      rw [show k + 1 - cutLen m k = (k - cutLen m k) + 1 from by omega, List.replicate_succ', ← List.append_assoc, ih]
      have hg : m[k]? = some 0 := by
        have e : m[k]? = some m[k] := List.getElem?_eq_getElem (by omega)
        rw [mkAt_of e] at h0
        rw [e]
        congr 1
        exact UInt8.toNat_inj.1 h0
      rw [take_snoc hg]
    · simp
/-- A mask's row, with noughts behind it, is the mask. -/
theorem mkCut_pad {m : List UInt8} : mkCut m ++ List.replicate (m.length - (mkCut m).length) 0 = m := by
  have := cut_pad m m.length (Nat.le_refl _)
  rw [List.take_length] at this
  rw [mkCut_len]
  exact this
theorem cutLen_front (xs zs : List UInt8) : ∀ k, k ≤ xs.length → cutLen (xs ++ zs) k = cutLen xs k
  | 0, _ => rfl
  | k + 1, h => by
    have e : mkAt (xs ++ zs) k = mkAt xs k := by
      unfold mkAt
      rw [List.getElem?_append_left (by omega)]
    rw [cutLen, cutLen, e, cutLen_front xs zs k (by omega)]
theorem cutLen_zeros (xs : List UInt8) (n : Nat) : ∀ j, j ≤ n → cutLen (xs ++ List.replicate n 0) (xs.length + j) = cutLen xs xs.length
  | 0, _ => cutLen_front xs _ _ (Nat.le_refl _)
  | j + 1, h => by
    have e : mkAt (xs ++ List.replicate n 0) (xs.length + j) = 0 := by
      unfold mkAt
      rw [List.getElem?_append_right (by omega), show xs.length + j - xs.length = j from by omega, List.getElem?_replicate, if_pos (by omega)]
      rfl
    rw [show xs.length + (j + 1) = (xs.length + j) + 1 from by omega, cutLen, if_pos e]
    exact cutLen_zeros xs n j (by omega)
theorem mkCut_zeros (xs : List UInt8) (n : Nat) : mkCut (xs ++ List.replicate n 0) = mkCut xs := by
  unfold mkCut
  rw [List.length_append, List.length_replicate, cutLen_zeros xs n n (Nat.le_refl _), List.take_append_of_le_length (cutLen_le _ _)]

/-- The number of a row's byte, bit by bit, as far as so many. -/
def rowX (xs : List UInt8) (i : Nat) : Nat → Nat
  | 0 => 0
  | k + 1 => 2 * rowX xs i k + (if xs.any (fun x => decide (x.toNat = 8 * i + k)) then 1 else 0)
theorem rowX_lt (xs : List UInt8) (i : Nat) : ∀ k, rowX xs i k < 2 ^ k
  | 0 => by simp [rowX]
  | k + 1 => by
    have := rowX_lt xs i k
    rw [rowX, Nat.pow_succ]
    split <;> omega
theorem rowX_bit (xs : List UInt8) (i : Nat) : ∀ k j, j < k → (rowX xs i k).testBit j = xs.any (fun x => decide (x.toNat = 8 * i + (k - 1 - j)))
  | k + 1, 0, _ => by
    rw [rowX, Nat.testBit_zero]
    simp only [Nat.add_sub_cancel, Nat.sub_zero]
    cases xs.any (fun x => decide (x.toNat = 8 * i + k)) <;> simp <;> omega
  | k + 1, j + 1, h => by
    have ih := rowX_bit xs i k j (by omega)
    rw [rowX, Nat.testBit_succ]
    have e : (2 * rowX xs i k + (if xs.any (fun x => decide (x.toNat = 8 * i + k)) then 1 else 0)) / 2 = rowX xs i k := by split <;> omega
    rw [e, ih]
    congr 1
    funext x
    rw [show k + 1 - 1 - (j + 1) = k - 1 - j from by omega]
/-- The row, byte by byte, as far as so many. -/
def rowTo (xs : List UInt8) (n : Nat) : List UInt8 := (List.range n).map fun i => UInt8.ofNat (rowX xs i 8)
theorem rowTo_succ (xs : List UInt8) (n : Nat) : rowTo xs (n + 1) = rowTo xs n ++ [UInt8.ofNat (rowX xs n 8)] := by simp [rowTo, List.range_succ]
theorem rowTo_len (xs : List UInt8) (n : Nat) : (rowTo xs n).length = n := by simp [rowTo]
/-- The document's row is the mask's. -/
theorem rowTo_of (xs : List UInt8) : rowTo xs 32 = mkOf xs := by
  refine mk_ext (rowTo_len _ _) (mkOf_len _) fun c hc => ?_
  rw [mkOf_has xs c hc, mkHas]
  have e : (rowTo xs 32)[c / 8]? = some (UInt8.ofNat (rowX xs (c / 8) 8)) := by
    rw [rowTo, List.getElem?_map, List.getElem?_range (by omega)]
    rfl
  have hlt := rowX_lt xs (c / 8) 8
  rw [mkAt_of e, UInt8.toNat_ofNat', Nat.mod_eq_of_lt (by simpa using hlt), rowX_bit xs (c / 8) 8 _ (by omega)]
  congr 1
  funext x
  rw [show 8 * (c / 8) + (8 - 1 - (7 - c % 8)) = c from by omega]
end Go.Proofs.YtlmkpembccehkaaGreatDoor
/- Package mask: its calls on bytes and on masks. -/
namespace Go.Proofs.YtlmkpembccehkaaGreatDoor
open Go Go.RowKit
set_option maxRecDepth 100000
set_option maxHeartbeats 4000000

/-- A mask's value. -/
def mkV (m : List UInt8) : Value := .agg (m.map B8).toArray
theorem mkV_one (m : List UInt8) : ∀ v ∈ m.map B8, v.oneCell' = true := fun v hv => by
  obtain ⟨x, _, rfl⟩ := List.mem_map.1 hv
  rfl

/-- A load of a whole row that a guard lets be. -/
theorem wpList_load_g {P : Program} {ops : Array Oper} {rest : List Oper} {o : Oper} {a : Act} {w : World} {Q : Exit → Act → World → Prop} (hw : Region.wanted o (yielded ops a.tmps) = true) (ty : TypeId) (x : Operand) (ho : o.op = .load ty x) (b : Nat) (hx : a.eval x = .pointer (some ⟨b, 0, none⟩))
    (cs : List Value) (d : TypeDesc) (hc : w.rangeAt b 0 cs) (hu : P.underlying ty = some d) (hd : d.isRow = true) (hi : (P.info? ty).map (·.size) = some cs.length)
    (h : wpList P ops Q rest (a.put o.dst (.agg cs.toArray)) w) : wpList P ops Q (o :: rest) a w :=
  wpList_step fun K hK => by rw [if_pos hw]; exact wp_load_mid ty x ho b 0 hx cs d hc hu hd hi (hK _ _ h)

theorem and_bit (x k : Nat) (hx : x < 256) (hk : k < 8) : (bits .and .u8 (x : Int) ((2 ^ k : Nat) : Int) != 0) = x.testBit k := by
  have key : ∀ (x : Fin 256) (k : Fin 8), (bits .and .u8 (x.val : Int) ((2 ^ k.val : Nat) : Int) != 0) = x.val.testBit k.val := by decide +kernel
  exact key ⟨x, hx⟩ ⟨k, hk⟩
theorem or_bit (x k : Nat) (hx : x < 256) (hk : k < 8) : bits .or .u8 (x : Int) ((2 ^ k : Nat) : Int) = ((x ||| 2 ^ k : Nat) : Int) := by
  have key : ∀ (x : Fin 256) (k : Fin 8), bits .or .u8 (x.val : Int) ((2 ^ k.val : Nat) : Int) = ((x.val ||| 2 ^ k.val : Nat) : Int) := by decide +kernel
  exact key ⟨x, hx⟩ ⟨k, hk⟩

/-- The place of a mask's byte. -/
theorem at_mask (W : World) (N i : Nat) (k : IntKind) (hi : i < 32) : (Instr.indexAt 86 (.pointer (some ⟨N, 0, none⟩)) (.int k (i : Int))).run Tryz.prog W = .ok (.pointer (some ⟨N, i, none⟩)) W := by
  have hu := Tryz.underlying86
  have hs : ∀ W, (sizeOf 5).run Tryz.prog W = .ok 1 W := fun W => by kernel_rfl
  have hlt : (0 : Int) ≤ (i : Int) ∧ (i : Int) < 32 := by omega
  simp [Instr.indexAt, run_underlying hu, Instr.sureAddr, asIntOf, hs, hlt, at_add, hi]
theorem cut_mask (W : World) (N k : Nat) (z : Int) (hz : z = (k : Int)) (hk : k ≤ 32) : (Instr.sliceAt 86 (.pointer (some ⟨N, 0, none⟩)) none (some (.int .i64 z)) none).run Tryz.prog W = .ok (.slice (some ⟨N, 0, none⟩) k 32) W := by
  subst hz
  have hu := Tryz.underlying86
  have h := run_sliceAt_array_h (P := Tryz.prog) (w := W) (a := ⟨N, 0, none⟩) (t := 86) hu .i64 (k : Int) (by omega) (by show (k : Int) ≤ 32; omega)
  rw [h]
  simp
  rfl
/-- A copy of bytes. -/
theorem clone_bytes {w : World} {A : Option Addr} {n c : Nat} {xs : List UInt8} (hs : Src w A n xs) (hn : n ≤ 1048000) :
    Calls Tryz.prog 78 #[.slice A n c] w fun e w' => ∃ A' c', e = .returned (.slice A' n c') ∧ Src w' A' n xs ∧ n ≤ c' ∧ c' ≤ 9223372036854775807 ∧ Only (fun _ => False) w w' := by
  have qn : ∀ (w : World) (a : Option Addr) (n c n' c' : Nat), (binOp .eql 45 (.slice a n c) (.slice none n' c')).run Tryz.prog w = .ok (.bool a.isNone) w := fun w a n c n' c' => Lib.run_eql_slice_nil w _ _ a n c n' c' Tryz.underlying45
  have HO := Lib.hid (((Only.refl (fun _ => False) w).alloc (.cells #[] 5)))
  have HE := Lib.hid (show Body (w.alloc (.cells #[] 5)) 0 (.slice (some ⟨w.heap.size, 0, none⟩) 0 0) [] from own_of_blk (B := 0) (c := 0) (s := 1) (n := 0) (xs := []) (Blk.new w 5 []) rfl rfl (by omega) (by omega) (Nat.zero_le _))
  have HS := Lib.hid hs
  clear hs
  cases A with
  | none =>
    have h0 : n = 0 := by
      rcases Nat.eq_zero_or_pos n with h | h
      · exact h
      · obtain ⟨_, h, _⟩ := HS.out.2 h
        cases h
    subst h0
    go_enter Tryz.func78, Tryz.ntmps78
    go_wp2
    go_ret
    exact ⟨_, _, rfl, HS.out, Nat.le_refl _, by omega, Only.refl _ _⟩
  | some ad =>
    go_enter Tryz.func78, Tryz.ntmps78
    go_wp2_with (at_builtin; refine step_bytesG rfl (.tmp 5) (.tmp 6) rfl 0 _ _ _ [] rfl HE.out rfl (some ad) n c xs rfl (HS.out.only HO.out (fun _ _ _ h => h)) (by omega) (Nat.zero_le _) ?_; intro A' c' w2 hb hg)
    go_ret
    have hown := hb.out
    rw [Nat.zero_add, List.nil_append] at hown
    obtain ⟨A2, c2, e, h1, h2⟩ := hown.form
    injection e with e1 e2 e3
    subst e1 e3
    refine ⟨A', c', rfl, hown.src HS.out.1.symm, by rw [← HS.out.1]; exact h1, h2, HO.out.grown hg.out (fun q hq => .inr (by cases hq; exact Nat.le_refl _))⟩

/-- Where Row stands. -/
theorem mrow_any (w : World) {m : List UInt8} (hl : m.length = 32) :
    Calls Tryz.prog 107 #[mkV m] w fun e w' => ∃ A' c', e = .returned (.slice A' (mkCut m).length c') ∧ Hid (Src w' A' (mkCut m).length (mkCut m)) ∧ Hid (Only (fun _ => False) w w') := by
  have HB := Lib.hid (Blk.new w 86 (m.map B8))
  have HL := Lib.hid hl
  have HO : Hid (Only (fun _ => False) w (w.alloc (.cells (m.map B8).toArray 86))) := (Only.refl _ w).alloc _
  unfold mkV
  obtain ⟨cs, hcs⟩ : ∃ cs, cs = m.map B8 := ⟨_, rfl⟩
  have hcl : cs.length = 32 := by rw [hcs, List.length_map, hl]
  have HM := Lib.hid hcs
  rw [← hcs] at HB HO ⊢
  have HS : Hid (Src (w.alloc (.cells cs.toArray 86)) (some ⟨w.heap.size, 0, none⟩) 32 m) := HB.out.src hl (fun j x hj => by rw [Nat.zero_add, HM.out, List.getElem?_map, hj]; rfl)
  clear hcs hl
  go_enter Tryz.func107, Tryz.ntmps107
  go_wp2
  go_loop [3] (fun i => ∃ k : Nat, k ≤ 32 ∧ i = .int .i64 (k : Int) ∧ Hid (cutLen m k = cutLen m 32)) (fun i => (intOf i).toNat)
  case atStart => exact ⟨32, by omega, rfl, rfl⟩
  case round =>
    obtain ⟨k, hk, rfl, HD⟩ := hrel
    have out : Hid (cutLen m k = k → (mkCut m).length = k ∧ mkCut m = m.take k) := fun h => by
      rw [mkCut_len, mkCut, HL.out, ← HD.out, h]
      exact ⟨rfl, rfl⟩
    cases k with
    | zero =>
      have HT := HS.out.piece 0 0 (Nat.le_refl _) (by omega) (some ⟨w.heap.size, 0, none⟩) (by intro h; omega)
      have HC := Lib.hid (clone_bytes (c := 32) HT (by omega))
      clear HT
      go_wp2_with (first | (go_at_call 78; (with_reducible refine HC.out.mono ?_); rintro e w1 ⟨A', c', rfl, h1, h2, h3, h4⟩) | fail)
      go_ret
      obtain ⟨e1, e2⟩ := out.out rfl
      rw [e1, e2]
      exact ⟨A', c', rfl, h1, HO.out.trans h4 (fun _ h => h.elim)⟩
    | succ k =>
      obtain ⟨x, hx⟩ : ∃ x, m[k]? = some x := ⟨_, List.getElem?_eq_getElem (by rw [HL.out]; omega)⟩
      have hcell : (w.alloc (.cells cs.toArray 86)).cell? ⟨w.heap.size, k, none⟩ = some (.int .u8 (x.toNat : Int)) := by
        rw [HB.out.cell, HM.out, List.getElem?_map, hx]
        rfl
      have hix := fun W => at_mask W w.heap.size k .i64 (by omega)
      have HX := Lib.hid hx
      clear hx
      by_cases h0 : x.toNat = 0
      · have hz : ((x.toNat : Int) == 0) = true := by simp [h0]
        go_wp2
        go_round
        case rel => exact ⟨k, by omega, by go_num, by rw [Hid, ← HD.out, cutLen, if_pos (by rw [mkAt_of HX.out]; exact h0)]⟩
        case measure => simp [intOf]
      · have hz : ((x.toNat : Int) == 0) = false := by simp [h0]
        have HT := HS.out.piece 0 (k + 1) (by omega) (by omega) (some ⟨w.heap.size, 0, none⟩) (by intro _ ad h; injection h with h; subst h; rw [at_add])
        rw [Nat.sub_zero, List.drop_zero] at HT
        have HC := Lib.hid (clone_bytes (c := 32) HT (by omega))
        clear HT
        have hct := fun W => cut_mask W w.heap.size (k + 1) ((k : Int) + 1) (by omega) (by omega)
        go_wp2_with (first | (go_at_call 78; (with_reducible refine HC.out.mono ?_); rintro e w1 ⟨A', c', rfl, h1, h2, h3, h4⟩) | fail)
        go_ret
        obtain ⟨e1, e2⟩ := out.out (by rw [cutLen, if_neg (by rw [mkAt_of HX.out]; exact h0)])
        rw [e1, e2]
        exact ⟨A', c', rfl, h1, HO.out.trans h4 (fun _ h => h.elim)⟩

/-- Where Bytes stands. -/
structure BysAt (w : World) (m : List UInt8) (W : World) (k n : Nat) (V : Value) : Prop where
  len : n = (mkTo m k).length
  row : Body W w.heap.size V (mkTo m k)
  blk : Blk W w.heap.size 86 (m.map B8)
  only : Only (fun _ => False) w W
theorem size_mask : (Tryz.prog.info? 86).map (·.size) = some 32 := by kernel_rfl
end Go.Proofs.YtlmkpembccehkaaGreatDoor
/- Package mask: Of. -/
namespace Go.Proofs.YtlmkpembccehkaaGreatDoor
open Go Go.RowKit
set_option maxRecDepth 100000
set_option maxHeartbeats 4000000

theorem mkOf_snoc (xs : List UInt8) (x : UInt8) : mkOf (xs ++ [x]) = mkAdd (mkOf xs) x := by simp [mkOf]
theorem mkAdd_cells (m : List UInt8) (x : UInt8) : (mkAdd m x).map B8 = (m.map B8).set (x.toNat / 8) (.int .u8 (bits .or .u8 (mkAt m (x.toNat / 8) : Int) ((2 ^ (7 - x.toNat % 8) : Nat) : Int))) := by
  rw [or_bit _ _ (mkAt_lt _ _) (by omega), mkAdd, List.map_set]
  congr 1
  unfold B8
  rw [UInt8.toNat_ofNat', Nat.mod_eq_of_lt (or_lt (mkAt_lt _ _) (by omega))]
theorem zero_mask : (Tryz.prog.info? 86).map (fun i => (i.zero, i.size)) = some (some (.agg ((List.replicate 32 0).map B8).toArray), 32) := by kernel_rfl

/-- Where Of stands. -/
structure OfAt (w : World) (xs : List UInt8) (W : World) (k : Nat) : Prop where
  res : Blk W w.heap.size 86 ((List.replicate 32 0).map B8)
  blk : Blk W (w.heap.size + 1) 86 ((mkOf (xs.take k)).map B8)
  only : Only (fun _ => False) w W

end Go.Proofs.YtlmkpembccehkaaGreatDoor
/- An error and its number, in every world that only grew. -/
namespace Go.Proofs.YtlmkpembccehkaaGreatDoor
open Go Go.RowKit

theorem ErrV.uniq {es : List Addr} {v v' : Value} {num : Nat} (h : ErrV es v num) (h' : ErrV es v' num) : v = v' := by
  rcases h with ⟨rfl, rfl⟩ | ⟨i, a, rfl, ha, rfl⟩
  · rcases h' with ⟨_, rfl⟩ | ⟨j, b, hj, _, _⟩
    · rfl
    · omega
  · rcases h' with ⟨h0, _⟩ | ⟨j, b, hj, hb, rfl⟩
    · omega
    · obtain rfl : i = j := by omega
      rw [ha] at hb
      injection hb with hb
      rw [hb]
end Go.Proofs.YtlmkpembccehkaaGreatDoor
/- Package mask: Body. -/
namespace Go.Proofs.YtlmkpembccehkaaGreatDoor
open Go Go.RowKit
set_option maxRecDepth 100000
set_option maxHeartbeats 4000000

/-- A verb's body. -/
def mkBody (v : Int) (m : List UInt8) : List UInt8 := [b8 v, 2] ++ (if v = 253 then mkCut m else [])

theorem mbody_bad {w : World} {es : List Addr} (hes : ErrsOf w [2, 3, 8] es) {v : Int} (hv : ¬ (251 ≤ v ∧ v ≤ 254)) (m : List UInt8) :
    Calls Tryz.prog 98 #[.int .i64 v, mkV m] w fun e w' => ∃ a, es[8]? = some a ∧ e = .returned (.tuple #[.slice none 0 0, errV a]) ∧ Only (fun _ => False) w w' := by
  obtain ⟨a, ha, hc⟩ := hes.get 8 0 (by decide) rfl
  unfold errV at hc
  have HA := Lib.hid ha
  have HV := Lib.hid (fun W => verb_any W v)
  rw [decide_eq_false hv] at HV
  have HO : Hid (Only (fun _ => False) w (w.alloc (.cells (m.map B8).toArray 86))) := (Only.refl _ w).alloc _
  have hc1 := HO.out.cellv hc (fun h => h)
  unfold mkV
  obtain ⟨cs, hcs⟩ : ∃ cs, cs = m.map B8 := ⟨_, rfl⟩
  rw [← hcs] at hc1 HO ⊢
  clear ha hes hc hcs hv
  go_enter Tryz.func98, Tryz.ntmps98
  go_wp2_with (first | (go_at_call 25; (with_reducible refine (HV.out _).mono ?_); rintro e w1 ⟨rfl, e1⟩; subst w1) | fail)
  go_quiet (fail)
  go_wp2
  go_ret2
  exact ⟨a, HA.out, rfl, HO.out.drewN _⟩

theorem mbody_ok {w : World} {v : Int} (hv : 251 ≤ v ∧ v ≤ 254) {m : List UInt8} (hl : m.length = 32) :
    Calls Tryz.prog 98 #[.int .i64 v, mkV m] w fun e w' => ∃ A n c, e = .returned (.tuple #[.slice A n c, .nilIface]) ∧ n ≤ c ∧ n ≤ 34 ∧ Hid (Src w' A n (mkBody v m)) ∧ Hid (Only (fun _ => False) w w') := by
  have HV := Lib.hid (fun W => verb_any W v)
  rw [decide_eq_true hv] at HV
  have HR := Lib.hid (fun W => mrow_any W hl)
  have hw8 : IntKind.u8.wrap v = v := IntWalk.u8_in _ (by omega)
  have HO : Hid (Only (fun _ => False) w (w.alloc (.cells (m.map B8).toArray 86))) := (Only.refl _ w).alloc _
  have HB : Hid (Blk (w.alloc (.cells (m.map B8).toArray 86)) w.heap.size 86 (m.map B8)) := Blk.new _ _ _
  have HP : Hid (∀ (W : World) (N : Nat), W.heap.size = N → Body (W.alloc (.cells #[.int .u8 v, .int .u8 2] 5)) N (.slice (some ⟨N, 0, none⟩) 2 2) [b8 v, 2]) := fun W N hN => by
    subst hN
    refine own_of_blk (cur := [.int .u8 v, .int .u8 2]) (Blk.new W 5 [.int .u8 v, .int .u8 2]) rfl ?_ (by simp) (by simp) (Nat.le_refl _)
    simp only [List.map_cons, List.map_nil, B8]
    rw [b8_int (by omega) (by omega)]
    rfl
  have HM : Hid (v ≠ 253 → mkBody v m = [b8 v, 2]) := fun h => by rw [mkBody, if_neg h, List.append_nil]
  have HM2 : Hid (v = 253 → mkBody v m = [b8 v, 2] ++ mkCut m) := fun h => by rw [mkBody, if_pos h]
  have HL := Lib.hid (mkCut_le m)
  rw [hl] at HL
  unfold mkV at *
  obtain ⟨cs, hcs⟩ : ∃ cs, cs = m.map B8 := ⟨_, rfl⟩
  have hcl : cs.length = 32 := by rw [hcs, List.length_map, hl]
  have HSz := Lib.hid size_mask
  rw [← hcl] at HSz
  rw [← hcs] at HR HO HB ⊢
  clear hcs hl hv
  by_cases h3 : v = 253
  · have HM := Lib.hid (HM2.out h3)
    have e1 : (v == 253) = true := by simp [h3]
    clear HM2
    have HRg := Lib.hid (range_of (HB.out.alloc (.cells #[.int .u8 v, .int .u8 2] 5)))
    have HPx := Lib.hid (HP.out (w.alloc (.cells cs.toArray 86)) (w.heap.size + 1) (by simp))
    clear h3
    go_enter Tryz.func98, Tryz.ntmps98
    go_wp2_with (first
      | (go_at_call 25; (with_reducible refine (HV.out _).mono ?_); rintro e w1 ⟨rfl, e1⟩; subst w1)
      | (refine wpList_load_mid rfl 86 _ rfl w.heap.size 0 rfl cs _ HRg.out Tryz.underlying86 rfl HSz.out ?_)
      | (go_at_call 107; (with_reducible refine (HR.out _).mono ?_); rintro e w2 ⟨A2, c2, rfl, hs2, ho2⟩)
      | (at_builtin; refine step_bytesG rfl (.tmp 16) (.tmp 18) rfl (w.heap.size + 1) _ 2 2 [b8 v, 2] rfl (HPx.out.same ho2.out) rfl A2 _ c2 (mkCut m) rfl hs2.out (by have := HL.out; omega) (by have := ho2.out.size; simp at this; omega) ?_; intro A3 c3 w3 hb3 hg3)
      | fail)
    go_ret2
    refine ⟨_, _, _, rfl, (by obtain ⟨_, _, e, h1, _⟩ := hb3.out.form; injection e with _ e2 e3; omega), by have := HL.out; omega, ?_, ?_⟩
    · rw [HM.out]
      exact hb3.out.src (by simp; omega)
    · exact ((HO.out.alloc _).trans ho2.out (fun _ h => h.elim)).grown hg3.out (fun q hq => .inr (by have := (own_lt (HPx.out.same ho2.out) q hq).1; omega))
  · have HM := Lib.hid (HM.out h3)
    have e1 : (v == 253) = false := by simp [h3]
    clear HM2
    have HPx := Lib.hid (HP.out (w.alloc (.cells cs.toArray 86)) (w.heap.size + 1) (by simp))
    clear h3
    go_enter Tryz.func98, Tryz.ntmps98
    go_wp2_with (first
      | (go_at_call 25; (with_reducible refine (HV.out _).mono ?_); rintro e w1 ⟨rfl, e1⟩; subst w1)
      | fail)
    go_ret2
    refine ⟨_, 2, _, rfl, by omega, by omega, ?_, HO.out.alloc _⟩
    rw [HM.out]
    exact HPx.out.src rfl
end Go.Proofs.YtlmkpembccehkaaGreatDoor
/- Package mask: Parse of any bytes. -/
namespace Go.Proofs.YtlmkpembccehkaaGreatDoor
open Go Go.RowKit
set_option maxRecDepth 100000
set_option maxHeartbeats 4000000

theorem ret_tct {P : Program} {fn : Func} {R : Ending → World → Prop} {a : Act} {w : World} {p1 p u : Tmp} {ty : TypeId} (h : fn.results = #[.tmp p1, .cell p ty, .tmp u]) (g : Nat) (hp : a.tmps.getD p undef = .pointer (some ⟨g, 0, none⟩))
    (t : TypeId) (cs : List Value) (d : TypeDesc) (hb : Blk w g t cs) (hu : P.underlying ty = some d) (hd : d.isRow = true) (hi : (P.info? ty).map (·.size) = some cs.length) (hdf : a.defers = [])
    (hR : R (.returned (.tuple #[a.tmps.getD p1 undef, .agg cs.toArray, a.tmps.getD u undef])) w) : bodyPost P fn R .ret a w := by
  refine bodyPost_ret (v := .tuple #[a.tmps.getD p1 undef, .agg cs.toArray, a.tmps.getD u undef]) ?_ hdf hR
  have hres : (results fn a.tmps).run P w = ((asAddr (a.tmps.getD p undef)).run P w).andThen fun x w₁ => ((loadVar ty x).run P w₁).andThen fun v w₂ => .ok (.tuple #[a.tmps.getD p1 undef, v, a.tmps.getD u undef]) w₂ := by
    simp only [results, h]
    simp [Sem.run_bind, Result.andThen]
  rw [hres, hp]
  have := run_loadVar_mid (P := P) w g 0 ty cs d (fun j v hv => by rw [Nat.zero_add, hb.cell]; exact hv) hu hd hi
  simp [asAddr, Result.andThen, this]

/-- The mask of no byte. -/
@[reducible] def mkZ : List UInt8 := List.replicate 32 0
/-- A mask's cells as a letter: what the walk asks of them. -/
structure MkCells (cs : List Value) : Prop where
  len : cs.length = 32
  one : ∀ v ∈ cs, v.oneCell' = true
theorem MkCells.of {m : List UInt8} (hl : m.length = 32) : MkCells (m.map B8) := ⟨by rw [List.length_map, hl], mkV_one m⟩
theorem MkCells.size {cs : List Value} (h : MkCells cs) : (Tryz.prog.info? 86).map (·.size) = some cs.length := by rw [h.len]; exact size_mask
theorem built_mask : Tryz.prog.built 86 [] = some (mkZ.map B8).toArray := by kernel_rfl

theorem step_build0 {P : Program} {ops : Array Oper} {rest : List Oper} {o : Oper} {a : Act} {w : World} {Q : Exit → Act → World → Prop} (hgd : o.guard = none) (t : TypeId) (ho : o.op = .build t #[]) (cells : List Value) (hc : P.built t [] = some cells.toArray)
    (h : wpList P ops Q rest (a.put o.dst (.agg cells.toArray)) w) : wpList P ops Q (o :: rest) a w := step_build hgd t #[] ho cells (by simpa using hc) h

theorem mparse_short {w : World} {es : List Addr} (hes : ErrsOf w [2, 3, 8] es) (A : Option Addr) (n cap : Nat) (h : n < 2) :
    Calls Tryz.prog 96 #[.slice A n cap] w fun e w' => ∃ a, es[2]? = some a ∧ e = .returned (.tuple #[.int .i64 0, mkV mkZ, errV a]) ∧ Only (fun _ => False) w w' := by
  obtain ⟨a, ha, hc⟩ := hes.get 2 9 (by decide) rfl
  unfold errV at hc
  have HA := Lib.hid ha
  have hd : decide ((n : Int) < 2) = true := by simp; omega
  have HZ := Lib.hid zero_mask
  have HC := Lib.hid (MkCells.of (m := mkZ) (by simp))
  have HBt := Lib.hid built_mask
  unfold mkV
  obtain ⟨zs, hzs⟩ : ∃ zs : List Value, zs = mkZ.map B8 := ⟨_, rfl⟩
  unfold mkZ at *
  rw [← hzs] at HZ HC HBt ⊢
  have HO : Hid (Only (fun _ => False) w (w.alloc (.cells zs.toArray 86))) := (Only.refl _ w).alloc _
  have hc1 := HO.out.cellv hc (fun h => h)
  have HB : Hid (Blk (w.alloc (.cells zs.toArray 86)) w.heap.size 86 zs) := Blk.new _ _ _
  clear ha hes hc hzs h
  go_enter Tryz.func96, Tryz.ntmps96
  go_wp2_with (first
    | ((with_reducible show wpList _ _ _ (⟨some 3, .alloc _, _, _, _, _⟩ :: _) _ _); refine step_alloc rfl 86 rfl zs 32 HZ.out ?_)
    | ((with_reducible show wpList _ _ _ (⟨some 9, .build _ _, _, _, _, _⟩ :: _) _ _); refine step_build0 rfl 86 rfl zs HBt.out ?_)
    | ((with_reducible show wpList _ _ _ (⟨none, .store _ _ _, _, _, _, _⟩ :: _) _ _); refine step_store rfl 86 _ _ rfl w.heap.size rfl zs rfl 86 zs HB.out HC.out.size rfl HC.out.one ?_; intro w2 hb2 hz2 ho2)
    | fail)
  refine ret_tct rfl w.heap.size rfl 86 zs _ hb2.out Tryz.underlying86 rfl HC.out.size rfl ?_
  exact ⟨a, HA.out, rfl, HO.out.trans ho2 (fun i hi => .inr (by omega))⟩

/-- How many bytes a verb's row has at most. -/
def mostOf (v : Int) : Int := if v = 253 then 32 else 0
theorem most_any (W : World) (v : Int) : Calls Tryz.prog 106 #[.int .i64 v] W fun e w' => e = .returned (.int .i64 (mostOf v)) ∧ w' = W := by
  unfold mostOf
  by_cases h : v = 253
  · rw [if_pos h]
    have e1 : (v == 253) = true := by simp [h]
    clear h
    go_enter Tryz.func106, Tryz.ntmps106
    go_wp2
    go_ret
    exact ⟨rfl, rfl⟩
  · rw [if_neg h]
    have e1 : (v == 253) = false := by simp [h]
    clear h
    go_enter Tryz.func106, Tryz.ntmps106
    go_wp2
    go_ret
    exact ⟨rfl, rfl⟩

theorem mparse_kind {w : World} {es : List Addr} (hes : ErrsOf w [2, 3, 8] es) {A : Option Addr} {n : Nat} (cap : Nat) {xs : List UInt8} {x y : UInt8} {r : List UInt8} (hs : Src w A n xs) (hx : xs = x :: y :: r) (hb : ¬ ((251 ≤ x.toNat ∧ x.toNat ≤ 254) ∧ y.toNat = 2)) :
    Calls Tryz.prog 96 #[.slice A n cap] w fun e w' => ∃ a, es[8]? = some a ∧ e = .returned (.tuple #[.int .i64 0, mkV mkZ, errV a]) ∧ Only (fun _ => False) w w' := by
  obtain ⟨a, ha, hc⟩ := hes.get 8 0 (by decide) rfl
  unfold errV at hc
  have HA := Lib.hid ha
  have hn : 2 ≤ n := by have := hs.1; rw [hx] at this; simp at this; omega
  obtain ⟨ad, rfl, hcell⟩ := hs.2 (by omega)
  have c0 := hcell 0 x (by rw [hx]; rfl)
  have c1 := hcell 1 y (by rw [hx]; rfl)
  rw [show ad.add 0 = ad from by simp [Addr.add]] at c0
  rw [show ad.add 1 = ⟨ad.block, ad.off + 1, none⟩ from by simp [Addr.add]] at c1
  have hd : decide ((n : Int) < 2) = false := by simp; omega
  have hd2 : (1 : Int) < (n : Int) := by omega
  have HZ := Lib.hid zero_mask
  have HC := Lib.hid (MkCells.of (m := mkZ) (by simp))
  have HBt := Lib.hid built_mask
  obtain ⟨D, hD⟩ : ∃ D, (if cap = 2 then some ad else some ⟨ad.block, ad.off + 2, none⟩) = D := ⟨_, rfl⟩
  unfold mkV
  obtain ⟨zs, hzs⟩ : ∃ zs : List Value, zs = mkZ.map B8 := ⟨_, rfl⟩
  unfold mkZ at *
  rw [← hzs] at HZ HC HBt ⊢
  have HO : Hid (Only (fun _ => False) w (w.alloc (.cells zs.toArray 86))) := (Only.refl _ w).alloc _
  have hc1 := HO.out.cellv hc (fun h => h)
  have c01 := HO.out.cellv c0 (fun h => h)
  have c11 := HO.out.cellv c1 (fun h => h)
  have HB : Hid (Blk (w.alloc (.cells zs.toArray 86)) w.heap.size 86 zs) := Blk.new _ _ _
  have HV := Lib.hid (fun W => verb_any W (x.toNat : Int))
  unfold B8 at *
  have hy := y.toNat_lt
  have hxl := x.toNat_lt
  clear ha hes hc hzs hs hx c0 c1 hcell
  generalize x.toNat = xn at *
  generalize y.toNat = yn at *
  by_cases hv : (251 : Int) ≤ xn ∧ (xn : Int) ≤ 254
  · rw [decide_eq_true hv] at HV
    have e1 : ((yn : Int) != 2) = true := by simp; omega
    have e2 : ((yn : Int) == 2) = false := by simp; omega
    clear hb hv
    go_enter Tryz.func96, Tryz.ntmps96
    go_wp2_with (first
      | ((with_reducible show wpList _ _ _ (⟨some 3, .alloc _, _, _, _, _⟩ :: _) _ _); refine step_alloc rfl 86 rfl zs 32 HZ.out ?_)
      | (go_at_call 25; (with_reducible refine (HV.out _).mono ?_); rintro e w1 ⟨rfl, e1⟩; subst w1)
      | ((with_reducible show wpList _ _ _ (⟨some 27, .build _ _, _, _, _, _⟩ :: _) _ _); refine step_build0 rfl 86 rfl zs HBt.out ?_)
      | ((with_reducible show wpList _ _ _ (⟨none, .store _ _ _, _, _, _, _⟩ :: _) _ _); refine step_store rfl 86 _ _ rfl w.heap.size rfl zs rfl 86 zs HB.out HC.out.size rfl HC.out.one ?_; intro w2 hb2 hz2 ho2)
      | fail)
    refine ret_tct rfl w.heap.size rfl 86 zs _ hb2.out Tryz.underlying86 rfl HC.out.size rfl ?_
    exact ⟨a, HA.out, rfl, HO.out.trans ho2 (fun i hi => .inr (by omega))⟩
  · rw [decide_eq_false hv] at HV
    clear hb hv
    go_enter Tryz.func96, Tryz.ntmps96
    go_wp2_with (first
      | ((with_reducible show wpList _ _ _ (⟨some 3, .alloc _, _, _, _, _⟩ :: _) _ _); refine step_alloc rfl 86 rfl zs 32 HZ.out ?_)
      | (go_at_call 25; (with_reducible refine (HV.out _).mono ?_); rintro e w1 ⟨rfl, e1⟩; subst w1)
      | ((with_reducible show wpList _ _ _ (⟨some 27, .build _ _, _, _, _, _⟩ :: _) _ _); refine step_build0 rfl 86 rfl zs HBt.out ?_)
      | ((with_reducible show wpList _ _ _ (⟨none, .store _ _ _, _, _, _, _⟩ :: _) _ _); refine step_store rfl 86 _ _ rfl w.heap.size rfl zs rfl 86 zs HB.out HC.out.size rfl HC.out.one ?_; intro w2 hb2 hz2 ho2)
      | fail)
    refine ret_tct rfl w.heap.size rfl 86 zs _ hb2.out Tryz.underlying86 rfl HC.out.size rfl ?_
    exact ⟨a, HA.out, rfl, HO.out.trans ho2 (fun i hi => .inr (by omega))⟩

theorem mparse_long {w : World} {es : List Addr} (hes : ErrsOf w [2, 3, 8] es) {A : Option Addr} {n : Nat} (cap : Nat) {xs : List UInt8} {x y : UInt8} {r : List UInt8} (hs : Src w A n xs) (hx : xs = x :: y :: r) (hv : 251 ≤ x.toNat ∧ x.toNat ≤ 254) (hy : y.toNat = 2)
    (hlong : mostOf (x.toNat : Int) < (n : Int) - 2) :
    Calls Tryz.prog 96 #[.slice A n cap] w fun e w' => ∃ a, es[3]? = some a ∧ e = .returned (.tuple #[.int .i64 0, mkV mkZ, errV a]) ∧ Only (fun _ => False) w w' := by
  obtain ⟨a, ha, hc⟩ := hes.get 3 3 (by decide) rfl
  unfold errV at hc
  have HA := Lib.hid ha
  have hn : 2 ≤ n := by have := hs.1; rw [hx] at this; simp at this; omega
  obtain ⟨ad, rfl, hcell⟩ := hs.2 (by omega)
  have c0 := hcell 0 x (by rw [hx]; rfl)
  have c1 := hcell 1 y (by rw [hx]; rfl)
  rw [show ad.add 0 = ad from by simp [Addr.add]] at c0
  rw [show ad.add 1 = ⟨ad.block, ad.off + 1, none⟩ from by simp [Addr.add]] at c1
  have hd : decide ((n : Int) < 2) = false := by simp; omega
  have hd2 : (1 : Int) < (n : Int) := by omega
  have HZ := Lib.hid zero_mask
  have HC := Lib.hid (MkCells.of (m := mkZ) (by simp))
  have HBt := Lib.hid built_mask
  obtain ⟨D, hD⟩ : ∃ D, (if cap = 2 then some ad else some ⟨ad.block, ad.off + 2, none⟩) = D := ⟨_, rfl⟩
  unfold mkV
  obtain ⟨zs, hzs⟩ : ∃ zs : List Value, zs = mkZ.map B8 := ⟨_, rfl⟩
  unfold mkZ at *
  rw [← hzs] at HZ HC HBt ⊢
  have HO : Hid (Only (fun _ => False) w (w.alloc (.cells zs.toArray 86))) := (Only.refl _ w).alloc _
  have hc1 := HO.out.cellv hc (fun h => h)
  have c01 := HO.out.cellv c0 (fun h => h)
  have c11 := HO.out.cellv c1 (fun h => h)
  have HB : Hid (Blk (w.alloc (.cells zs.toArray 86)) w.heap.size 86 zs) := Blk.new _ _ _
  have HV := Lib.hid (fun W => verb_any W (x.toNat : Int))
  rw [decide_eq_true (by omega : (251 : Int) ≤ (x.toNat : Int) ∧ (x.toNat : Int) ≤ 254)] at HV
  have HM := Lib.hid (fun W => most_any W (x.toNat : Int))
  unfold B8 at *
  rw [hy] at c11
  have hm0 : 0 ≤ mostOf (x.toNat : Int) := by unfold mostOf; split <;> omega
  clear ha hes hc hzs hs hx c0 c1 hcell hy
  have hxl := x.toNat_lt
  generalize mostOf (x.toNat : Int) = mo at *
  generalize x.toNat = xn at *
  obtain ⟨k, rfl⟩ : ∃ k, n = k + 2 := ⟨n - 2, by omega⟩
  have hk : decide (mo < (k : Int)) = true := by simp; omega
  clear hlong hv
  go_enter Tryz.func96, Tryz.ntmps96
  go_wp2_with (first
    | ((with_reducible show wpList _ _ _ (⟨some 3, .alloc _, _, _, _, _⟩ :: _) _ _); refine step_alloc rfl 86 rfl zs 32 HZ.out ?_)
    | (go_at_call 25; (with_reducible refine (HV.out _).mono ?_); rintro e w1 ⟨rfl, e1⟩; subst w1)
    | (go_at_call 106; (with_reducible refine (HM.out _).mono ?_); rintro e w1 ⟨rfl, e1⟩; subst w1)
    | ((with_reducible show wpList _ _ _ (⟨some 35, .build _ _, _, _, _, _⟩ :: _) _ _); refine step_build0 rfl 86 rfl zs HBt.out ?_)
    | ((with_reducible show wpList _ _ _ (⟨none, .store _ _ _, _, _, _, _⟩ :: _) _ _); refine step_store rfl 86 _ _ rfl w.heap.size rfl zs rfl 86 zs HB.out HC.out.size rfl HC.out.one ?_; intro w2 hb2 hz2 ho2)
    | fail)
  refine ret_tct rfl w.heap.size rfl 86 zs _ hb2.out Tryz.underlying86 rfl HC.out.size rfl ?_
  exact ⟨a, HA.out, rfl, HO.out.trans ho2 (fun i hi => .inr (by omega))⟩
end Go.Proofs.YtlmkpembccehkaaGreatDoor
