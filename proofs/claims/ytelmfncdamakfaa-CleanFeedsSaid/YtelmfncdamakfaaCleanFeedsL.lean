/- CleanFeeds, walked. -/
import Derived.Test.YtelmfncdamakfaaCleanAlive
import Derived.Test.YtelmfncdamakfaaCleanIdle
import Derived.Test.YtelmfncdamakfaaCleanRef
import Derived.Test.YtelmfncdamakfaaIacAll
import Derived.Test.YtelmfncdamakfaaTkOf
import Derived.Test.YtelmfncdamakfaaTextBytes
import Derived.Test.YtelmfncdamakfaaBt
import Derived.Deep.RegionHeld3
namespace Go.Proofs.Ytelmfncdamakfaa
open Go Go.ChangeShapes Go.WideShapes Go.ChangeAt Go.RowKit
set_option maxRecDepth 100000
set_option maxHeartbeats 4000000

theorem cfeeds_long (w : World) (A : Option Addr) (n c : Nat) (h : 200 < n) : Calls Try.prog 4 #[.slice A n c] w (Fine w) := by
  have hd : decide ((200 : Int) < (n : Int)) = true := by simp; omega
  go_enter Try.func4, Try.ntmps4
  go_wp2_with (first
    | (go_at_call 6; refine (clive_any _).mono ?_; rintro e w1 ⟨rfl, ho1⟩))
  go_ret
  exact ⟨rfl, ho1⟩

theorem size_bt : (Try.prog.info? 41).map (·.size) = some 3 := by kernel_rfl
theorem bt_one (x : Bt) : ∀ v ∈ x.vals, v.oneCell' = true := by
  intro v hv
  simp only [Bt.vals, List.mem_cons, List.not_mem_nil, or_false] at hv
  rcases hv with rfl | rfl | rfl <;> rfl

/-- Where the first loop stands: the text, the marks, the raws of so many. -/
structure FAt (w1 : World) (B : Nat) (l : List Bt) (W : World) (k : Nat) (M R : Value) : Prop where
  only : Only (fun i => B ≤ i) w1 W
  marks : W.ownsRow B 4 1 M k ((l.take k).map fun x => .bool x.mark)
  raws : W.ownsRow B 4 1 R k ((l.take k).map fun x => .bool x.raw)
  ne : ∀ z, R.ownBlock = some z → M.ownBlock ≠ some z

/-- One byte more, both rows. -/
theorem FAt.more {w1 W w4 : World} {B k : Nat} {l : List Bt} {M R : Value} (h : FAt w1 B l W k M R) (hB : B ≤ W.heap.size) (ho : Only (fun i => W.heap.size ≤ i) W w4) : FAt w1 B l w4 k M R :=
  ⟨h.only.trans ho (fun i hi => .inl (by omega)), own_only h.marks ho (fun z hz => by have := (own_lt h.marks z hz).2; omega), own_only h.raws ho (fun z hz => by have := (own_lt h.raws z hz).2; omega), h.ne⟩

/-- .. and with one mark more. -/
structure FMid (w1 : World) (B : Nat) (l : List Bt) (W : World) (k : Nat) (M R : Value) : Prop where
  only : Only (fun i => B ≤ i) w1 W
  marks : W.ownsRow B 4 1 M (k + 1) ((l.take (k + 1)).map fun x => .bool x.mark)
  raws : W.ownsRow B 4 1 R k ((l.take k).map fun x => .bool x.raw)
  ne : ∀ z, R.ownBlock = some z → M.ownBlock ≠ some z
theorem FAt.mark {w1 W w7 : World} {B k mc mc' : Nat} {mA mA' : Option Addr} {l : List Bt} {R : Value} {x : Bt} (h : FAt w1 B l W k (.slice mA k mc) R) (hB : B ≤ w1.heap.size) (hx : l.take (k + 1) = l.take k ++ [x])
    (hI : w7.ownsRow B 4 1 (.slice mA' (k + 1) mc') (k + 1) (((l.take k).map fun x => .bool x.mark) ++ [.bool x.mark])) (hG : W.grownBy w7 (Value.slice mA k mc).ownBlock) (hQ : ∀ z, (Value.slice mA' (k + 1) mc').ownBlock = some z → (Value.slice mA k mc).ownBlock = some z ∨ W.heap.size ≤ z) : FMid w1 B l w7 k (.slice mA' (k + 1) mc') R := by
  refine ⟨h.only.grown hG (fun z hz => .inl (own_lt h.marks z hz).1), by rw [hx]; simpa using hI, own_beside h.raws hG h.ne, fun z hz e => ?_⟩
  rcases hQ z e with h1 | h1
  · exact h.ne z hz h1
  · have := (own_lt h.raws z hz).2
    omega
theorem FAt.kept {w1 W W' : World} {B k : Nat} {l : List Bt} {M R : Value} (h : FAt w1 B l W k M R) (ho : Only (fun _ => False) W W') : FAt w1 B l W' k M R :=
  ⟨h.only.trans ho (fun i hi => hi.elim), own_same h.marks ho, own_same h.raws ho, h.ne⟩
theorem FMid.kept {w1 W W' : World} {B k : Nat} {l : List Bt} {M R : Value} (h : FMid w1 B l W k M R) (ho : Only (fun _ => False) W W') : FMid w1 B l W' k M R :=
  ⟨h.only.trans ho (fun i hi => hi.elim), own_same h.marks ho, own_same h.raws ho, h.ne⟩
theorem FMid.raw {w1 W w8 : World} {B k rc rc' : Nat} {rA rA' : Option Addr} {l : List Bt} {M : Value} {x : Bt} (h : FMid w1 B l W k M (.slice rA k rc)) (hx : l.take (k + 1) = l.take k ++ [x])
    (hI : w8.ownsRow B 4 1 (.slice rA' (k + 1) rc') (k + 1) (((l.take k).map fun x => .bool x.raw) ++ [.bool x.raw])) (hG : W.grownBy w8 (Value.slice rA k rc).ownBlock) (hQ : ∀ z, (Value.slice rA' (k + 1) rc').ownBlock = some z → (Value.slice rA k rc).ownBlock = some z ∨ W.heap.size ≤ z) : FAt w1 B l w8 (k + 1) M (.slice rA' (k + 1) rc') := by
  refine ⟨h.only.grown hG (fun z hz => .inl (own_lt h.raws z hz).1), own_beside h.marks hG (fun z hz e => h.ne z e hz), by rw [hx]; simpa using hI, fun z hz e => ?_⟩
  rcases hQ z hz with h1 | h1
  · exact h.ne z h1 e
  · have := (own_lt h.marks z e).2
    omega

/-- Where the second loop stands. -/
structure F2 (W2 : World) (p : Nat) (l : List Bt) (out : List (Tk × Nat)) (W : World) (k q : Nat) (kk : Cl) : Prop where
  only : Only (fun i => p ≤ i) W2 W
  cl : ClAt W p 0 50 [] kk []
  told : kk = (feeds9 .zero 0 (l.take k)).2
  rest : out.drop q = (feeds9 kk k (l.drop k)).1
theorem feeds9_ge : ∀ (l : List Bt) (k : Cl) (p : Nat), ∀ q ∈ (feeds9 k p l).1, p ≤ q.2
  | [], _, _ => fun q h => by cases h
  | x :: l, k, p => by
    have h1 := feeds9_ge l (feed9 k x).1 (p + 1)
    intro q hq
    simp only [feeds9, List.mem_append, List.mem_map] at hq
    rcases hq with ⟨t, _, rfl⟩ | hq
    · exact Nat.le_refl _
    · have := h1 q hq
      omega
/-- A mark leaves it deaf, or was a DM's. -/
theorem feed9_mark {k k' : Cl} {x : Bt} {o : Option Tk} (h : feed9 k x = (k', o)) (hx : x.mark = true) (hd : k'.deaf = false) : ∃ t, o = some t ∧ t.kind = 2 ∧ t.code = 242 := by
  unfold feed9 at h
  cases hf : feed k.m x.c with
  | mk m o' =>
    rw [hf] at h
    cases o' with
    | none =>
      simp only [Prod.mk.injEq] at h
      obtain ⟨rfl, _⟩ := h
      simp [hx] at hd
    | some t =>
      simp only [Prod.mk.injEq] at h
      obtain ⟨rfl, h2⟩ := h
      simp only [hx, Bool.or_true, Bool.true_and, Bool.not_eq_false'] at hd
      have hdm := hd
      simp only [isDM, Bool.and_eq_true, decide_eq_true_eq] at hd
      refine ⟨t, ?_, hd.1, hd.2⟩
      rw [← h2]
      simp [stays9, isData, hd.1]

theorem cfeeds_ok (w : World) (A : Option Addr) (n c : Nat) (l : List Bt) (hl : BtAt w A n l) (hn : n ≤ 200) : Calls Try.prog 4 #[.slice A n c] w (Fine w) := by
  have hd : decide ((200 : Int) < (n : Int)) = false := by simp; omega
  have HL := Lib.hid hl
  clear hl
  go_enter Try.func4, Try.ntmps4
  go_wp2_with (first
    | (go_at_call 6; refine (clive_any _).mono ?_; rintro e w1 ⟨rfl, ho1⟩; have HO1 := Lib.hid ho1; clear ho1))
  have h0 : FAt w1 w1.heap.size l ((w1.alloc (.cells #[] 4)).alloc (.cells #[] 4)) 0 (.slice (some ⟨w1.heap.size, 0, none⟩) 0 0) (.slice (some ⟨w1.heap.size + 1, 0, none⟩) 0 0) :=
    ⟨((Only.refl _ _).alloc _).alloc _, own_same (own_of_blk (cur := []) (Blk.new w1 _ []) rfl rfl (Nat.le_refl _) (by omega) (Nat.le_refl _)) ((Only.refl _ _).alloc _), own_of_blk (cur := []) (Blk.new' (n := w1.heap.size + 1) (w1.alloc (.cells #[] 4)) 4 [] (by simp)) rfl rfl (Nat.le_refl _) (by omega) (by omega), fun z hz e => by simp [Value.ownBlock] at hz e; omega⟩
  have H0 := Lib.hid h0
  obtain ⟨B, hB⟩ : ∃ B, B = w1.heap.size := ⟨_, rfl⟩
  rw [← hB] at H0 ⊢
  have HB := Lib.hid hB
  clear h0 hB
  go_loopw [3, 4, 5, 28] (fun sv mv rv iv' W => ∃ (k : Nat) (s : List UInt8) (mA : Option Addr) (mc : Nat) (rA : Option Addr) (rc : Nat), k ≤ n ∧ iv' = .int .i64 (k : Int) ∧ sv = .string ⟨s.toArray⟩ ∧ mv = .slice mA k mc ∧ rv = .slice rA k rc ∧ s.length ≤ k ∧ Hid (s = (l.take k).map Bt.c) ∧ Hid (FAt w1 B l W k (.slice mA k mc) (.slice rA k rc))) (fun _ _ _ iv' _ => n - (intOf iv').toNat)
  case atStart => exact ⟨0, [], _, _, _, _, Nat.zero_le _, rfl, rfl, rfl, rfl, Nat.le_refl _, rfl, H0.out⟩
  case round =>
    clear H0
    obtain ⟨k, s, mA, mc, rA, rc, hk, rfl, rfl, rfl, rfl, hsk, hS, hF⟩ := hrel
    by_cases hlt : k < n
    · obtain ⟨x, hx⟩ : ∃ x, l[k]? = some x := ⟨_, List.getElem?_eq_getElem (by rw [HL.out.1]; exact hlt)⟩
      have hO : Only (fun _ => False) w wr := HO1.out.trans hF.out.only (fun i hi => .inr (by have := HO1.out.size; have := HB.out; omega))
      obtain ⟨b, off, rfl, hbl, hrng⟩ := (HL.out.same hO).2 k x hx
      obtain ⟨cs, hcs⟩ : ∃ cs, cs = x.vals := ⟨_, rfl⟩
      rw [← hcs] at hrng
      have HRg := Lib.hid hrng
      have HCl : Hid (cs.length = 3) := by rw [hcs]; rfl
      have HCo : Hid (∀ v ∈ cs, v.oneCell' = true) := by rw [hcs]; exact bt_one x
      have HCS := Lib.hid hcs
      have hBW : B ≤ wr.heap.size := by rw [HB.out]; exact hF.out.only.size
      obtain ⟨s', hs'⟩ : ∃ s', s' = s ++ [x.c] := ⟨_, rfl⟩
      have hsum : ∀ W, (Op.stringOp .add (ByteArray.mk s.toArray) (ByteArray.mk #[x.c])).run Try.prog W = .ok (.string (ByteArray.mk s'.toArray)) W := fun W => sum_texts s [x.c] s' hs'.symm (by simp; omega)
      have HS' := Lib.hid hs'
      have HTk := Lib.hid (take_snoc hx)
      clear hrng hcs hO hx hs'
      go_wp2_with (first
        | ((with_reducible show wpList _ _ _ (⟨some 31, _, _, _, _, _⟩ :: _) _ _); refine wpList_load_mid rfl 41 (.tmp 30) rfl b (off + k * 3) rfl cs _ HRg.out Try.underlying41 rfl (by rw [HCl.out]; exact size_bt) ?_)
        | ((with_reducible show wpList _ _ _ (⟨none, .store 41 _ _, _, _, _, _⟩ :: _) _ _); refine step_store rfl 41 _ _ rfl wr.heap.size rfl cs rfl _ [.int .u8 0, .bool false, .bool false] (Blk.new _ _ _) (by rw [HCl.out]; exact size_bt) HCl.out.symm HCo.out ?_; intro w3 hB3 hz3 ho3; have hO3 : Hid (Only (fun i => wr.heap.size ≤ i) wr w3) := ((Only.refl (fun i => wr.heap.size ≤ i) wr).alloc _).trans ho3 (fun i hi => .inl (by omega)); have q0 : w3.cell? ⟨wr.heap.size, 0, none⟩ = some (.int .u8 (x.c.toNat : Int)) := (by rw [hB3.out.cell, HCS.out]; rfl); have hcv : (convert 22 9 (.slice (some ⟨w3.heap.size, 0, none⟩) 1 1)).run Try.prog (w3.alloc (.cells #[.int .u8 (x.c.toNat : Int)] 5)) = .ok (.string ⟨#[x.c]⟩) (w3.alloc (.cells #[.int .u8 (x.c.toNat : Int)] 5)) := text_new w3 [x.c] 1 rfl _ rfl _ rfl))
      obtain ⟨w4, hw4⟩ : ∃ w4, w4 = w3.alloc (.cells #[.int .u8 (x.c.toNat : Int)] 5) := ⟨_, rfl⟩
      rw [← hw4]
      have hO4 : Only (fun i => wr.heap.size ≤ i) wr w4 := by rw [hw4]; exact hO3.out.alloc _
      have hX4 : Blk w4 wr.heap.size 41 cs := by rw [hw4]; exact hB3.out.alloc _
      have hF4 := hF.out.more hBW hO4
      have hB4 : B ≤ w4.heap.size := Nat.le_trans hBW hO4.size
      rw [HCS.out] at hX4
      clear hw4 hB3 hz3 ho3 hO3 q0 hcv
      have oA : Only (fun _ => False) w4 (w4.alloc (.cells #[.bool x.mark] 4)).drew := ((Only.refl _ w4).alloc _).drew
      have oB : Only (fun _ => False) w4 ((w4.alloc (.cells #[.bool x.mark] 4)).alloc (.cells #[.bool x.raw] 4)).drew := (((Only.refl _ w4).alloc _).alloc _).drew
      have oC : Only (fun _ => False) w4 ((w4.alloc (.cells #[.bool x.raw] 4)).alloc (.cells #[.bool x.mark] 4)).drew := (((Only.refl _ w4).alloc _).alloc _).drew
      have HA := Lib.hid (hF4.kept oA)
      have HB' := Lib.hid (hF4.kept oB)
      have HC := Lib.hid (hF4.kept oC)
      have HAz := Lib.hid (Nat.le_trans hB4 oA.size)
      have HBz := Lib.hid (Nat.le_trans hB4 oB.size)
      have HCz := Lib.hid (Nat.le_trans hB4 oC.size)
      have HAx := Lib.hid (hX4.only oA (fun h => h))
      have HAb : Hid (Blk (w4.alloc (.cells #[.bool x.mark] 4)).drew w4.heap.size 4 [.bool x.mark]) := (Blk.new' w4 _ [.bool x.mark] rfl).drew
      have HBb : Hid (Blk ((w4.alloc (.cells #[.bool x.mark] 4)).alloc (.cells #[.bool x.raw] 4)).drew w4.heap.size 4 [.bool x.mark]) := ((Blk.new' w4 _ [.bool x.mark] rfl).alloc _).drew
      have HCb : Hid (Blk ((w4.alloc (.cells #[.bool x.raw] 4)).alloc (.cells #[.bool x.mark] 4)).drew (w4.heap.size + 1) 4 [.bool x.mark]) := (Blk.new' (w4.alloc _) _ [.bool x.mark] (by simp)).drew
      have HBr : Hid (Blk ((w4.alloc (.cells #[.bool x.mark] 4)).alloc (.cells #[.bool x.raw] 4)).drew (w4.heap.size + 1) 4 [.bool x.raw]) := (Blk.new' (w4.alloc _) _ [.bool x.raw] (by simp)).drew
      have HCr : Hid (Blk ((w4.alloc (.cells #[.bool x.raw] 4)).alloc (.cells #[.bool x.mark] 4)).drew w4.heap.size 4 [.bool x.raw]) := ((Blk.new' w4 _ [.bool x.raw] rfl).alloc _).drew
      have hMlt : Hid (∀ z, (Value.slice mA k mc).ownBlock = some z → z < wr.heap.size) := fun z hz => (own_lt hF.out.marks z hz).2
      have hMx : Hid ((Value.slice mA k mc).ownBlock ≠ some wr.heap.size) := fun e => by have := hMlt.out _ e; omega
      have hMa : Hid ((Value.slice mA k mc).ownBlock ≠ some w4.heap.size) := fun e => by have := hMlt.out _ e; have := hO4.size; omega
      have hMb : Hid ((Value.slice mA k mc).ownBlock ≠ some (w4.heap.size + 1)) := fun e => by have := hMlt.out _ e; have := hO4.size; omega
      have k1 : w4.cell? ⟨wr.heap.size, 1, none⟩ = some (.bool x.mark) := by rw [hX4.cell]; rfl
      have k2 : w4.cell? ⟨wr.heap.size, 2, none⟩ = some (.bool x.raw) := by rw [hX4.cell]; rfl
      have k1c := ((Only.refl (fun _ => False) w4).alloc (.cells #[.bool x.raw] 4)).cellv k1 (fun h => h)
      have k2b := ((Only.refl (fun _ => False) w4).alloc (.cells #[.bool x.mark] 4)).cellv k2 (fun h => h)
      have HB1 : Hid (B ≤ w1.heap.size) := by rw [HB.out]; exact Nat.le_refl _
      clear hF4 hX4 oA oB oC
      go_region_law (first
        | (refine step_oneRS rfl (.tmp 38) (.tmp 41) 29 rfl 4 _ 1 Try.underlying29 info_bool1 rfl (by omega) B mA k mc _ rfl HA.out.marks w4.heap.size (.bool x.mark) rfl (HAb.out.cell 0) rfl (by omega) HAz.out ?_; intro mA' mc' w7 hI7 hG7 hQ7; have hM7 := Lib.hid (HA.out.mark HB1.out HTk.out hI7.out hG7.out hQ7.out); have hX7 := HAx.out.grown hG7.out hMx.out; have k7 : w7.cell? ⟨wr.heap.size, 2, none⟩ = some (.bool x.raw) := (by rw [hX7.cell]; rfl); have hz7 := Nat.le_trans HAz.out hG7.out.size; clear hI7 hG7 hQ7)
        | (refine step_oneRS rfl (.tmp 38) (.tmp 41) 29 rfl 4 _ 1 Try.underlying29 info_bool1 rfl (by omega) B mA k mc _ rfl HB'.out.marks w4.heap.size (.bool x.mark) rfl (HBb.out.cell 0) rfl (by omega) HBz.out ?_; intro mA' mc' w7 hI7 hG7 hQ7; have hM7 := Lib.hid (HB'.out.mark HB1.out HTk.out hI7.out hG7.out hQ7.out); have hIB7 := Lib.hid (HBr.out.grown hG7.out hMb.out); have hz7 := Nat.le_trans HBz.out hG7.out.size; clear hI7 hG7 hQ7)
        | (refine step_oneRS rfl (.tmp 38) (.tmp 41) 29 rfl 4 _ 1 Try.underlying29 info_bool1 rfl (by omega) B mA k mc _ rfl HC.out.marks (w4.heap.size + 1) (.bool x.mark) rfl (HCb.out.cell 0) rfl (by omega) HCz.out ?_; intro mA' mc' w7 hI7 hG7 hQ7; have hM7 := Lib.hid (HC.out.mark HB1.out HTk.out hI7.out hG7.out hQ7.out); have hIB7 := Lib.hid (HCr.out.grown hG7.out hMa.out); have hz7 := Nat.le_trans HCz.out hG7.out.size; clear hI7 hG7 hQ7)
        | (refine step_oneRS rfl (.tmp 43) (.tmp 46) 29 rfl 4 _ 1 Try.underlying29 info_bool1 rfl (by omega) B rA k rc _ rfl (hM7.out.kept ((Only.refl _ w7).alloc (.cells #[.bool x.raw] 4))).raws w7.heap.size (.bool x.raw) rfl ((Blk.new' w7 4 [.bool x.raw] rfl).cell 0) rfl (by omega) (Nat.le_trans hz7 ((Only.refl (fun _ => False) w7).alloc (.cells #[.bool x.raw] 4)).size) ?_; intro rA' rc' w8 hI8 hG8 hQ8; have hF8 := Lib.hid ((hM7.out.kept ((Only.refl _ w7).alloc (.cells #[.bool x.raw] 4))).raw HTk.out hI8.out hG8.out hQ8.out))
        | (refine step_oneRS rfl (.tmp 43) (.tmp 46) 29 rfl 4 _ 1 Try.underlying29 info_bool1 rfl (by omega) B rA k rc _ rfl hM7.out.raws (w4.heap.size + 1) (.bool x.raw) rfl (hIB7.out.cell 0) rfl (by omega) hz7 ?_; intro rA' rc' w8 hI8 hG8 hQ8; have hF8 := Lib.hid (hM7.out.raw HTk.out hI8.out hG8.out hQ8.out))
        | (refine step_oneRS rfl (.tmp 43) (.tmp 46) 29 rfl 4 _ 1 Try.underlying29 info_bool1 rfl (by omega) B rA k rc _ rfl hM7.out.raws w4.heap.size (.bool x.raw) rfl (hIB7.out.cell 0) rfl (by omega) hz7 ?_; intro rA' rc' w8 hI8 hG8 hQ8; have hF8 := Lib.hid (hM7.out.raw HTk.out hI8.out hG8.out hQ8.out)))
      all_goals
        go_wp2
        go_roundw
        case rel => exact ⟨k + 1, s', mA', mc', rA', rc', by omega, by go_num, rfl, rfl, rfl, by rw [HS'.out]; simp; omega, Lib.hid (by rw [HS'.out, HTk.out, List.map_append, hS.out]; rfl), hF8⟩
        case measure => simp [intOf]; omega
    · obtain rfl : k = n := by omega
      have hlk : l.take k = l := List.take_of_length_le (by rw [HL.out.1]; exact Nat.le_refl _)
      have hsl : s = l.map Bt.c := by rw [hS.out, hlk]
      have hFl := hF.out
      have hmk := hFl.marks
      have hrw := hFl.raws
      rw [hlk, show (fun x : Bt => Value.bool x.mark) = (Value.bool ∘ Bt.mark) from rfl, ← List.map_map] at hmk
      rw [hlk, show (fun x : Bt => Value.bool x.raw) = (Value.bool ∘ Bt.raw) from rfl, ← List.map_map] at hrw
      have HM := Lib.hid (own_flg hmk (by rw [List.length_map]; exact HL.out.1))
      have HR := Lib.hid (own_flg hrw (by rw [List.length_map]; exact HL.out.1))
      obtain ⟨out, hout⟩ : ∃ out, out = (feeds9 .zero 0 l).1 := ⟨_, rfl⟩
      have hout9 : out = clean9 l 0 false false (ends9 .zero 0 s) := by rw [hout, clean_all, hsl]
      have HCl := Lib.hid (refClean_any l s hsl (c1 := mc) (c2 := rc) HM.out HR.out (by omega) out hout9)
      have HO' := Lib.hid (HO1.out.trans hFl.only (fun i hi => .inr (by have := HO1.out.size; have := HB.out; omega)))
      have hol : out.length ≤ k := by rw [hout, ← HL.out.1]; exact feeds9_length l .zero 0
      have HOut := Lib.hid hout
      have HSl := Lib.hid hsl
      clear hlk hmk hrw hFl hF hS hout hout9 hsl HM HR hlt hsk
      go_wp2_with (first
        | (go_at_call 8; (with_reducible refine HCl.out.mono ?_); rintro e W2 ⟨Ar, cr, Br, dr, N, rfl, hN, hRR, hIR, ho2⟩)
        | ((with_reducible show wpList _ _ _ (⟨some 56, _, _, _, _, _⟩ :: _) _ _); refine step_build rfl 50 #[] rfl (msCells Ms.zero (zeros 256) ++ [Value.bool false, Value.bool false]) (by kernel_rfl) ?_)
        | ((with_reducible show wpList _ _ _ (⟨some 57, _, _, _, _, _⟩ :: _) _ _); refine wpList_boxTo rfl 50 (.tmp 56) rfl _ rfl _ rfl (msCells Ms.zero (zeros 256) ++ [Value.bool false, Value.bool false]).toArray rfl ?_))
      have hNk : N ≤ k := by rw [hN.out]; exact hol
      obtain ⟨W0, hW0⟩ : ∃ W0, W0 = W2.alloc (.cells (msCells Ms.zero (zeros 256) ++ [Value.bool false, Value.bool false]).toArray 50) := ⟨_, rfl⟩
      have hCl : ClAt W0 W2.heap.size 0 50 [] .zero [] := by
        rw [hW0]
        exact ⟨Ms.zero_ok, rfl, zeros 256, by simpa [List.append_assoc, Cl.zero] using Blk.new W2 50 (msCells Ms.zero (zeros 256) ++ [Value.bool false, Value.bool false]), rfl, fun v hv => by rw [List.eq_of_mem_replicate hv]; rfl⟩
      have H0 : Hid (F2 W2 W2.heap.size l out W0 0 0 .zero) := ⟨by rw [hW0]; exact (Only.refl _ _).alloc _, hCl, by simp [feeds9], by rw [HOut.out]; rfl⟩
      obtain ⟨p, hp⟩ : ∃ p, p = W2.heap.size := ⟨_, rfl⟩
      rw [← hW0, ← hp]
      rw [← hp] at H0
      have HP := Lib.hid hp
      have HOW2 := Lib.hid (HO'.out.trans ho2.out (fun _ h => h.elim))
      have HCP : Hid (∀ j, j ≤ k → (ByteArray.mk s.toArray).extract 0 j = ⟨(s.take j).toArray⟩) := fun j _ => by rw [str_cut, List.drop_zero]
      clear hW0 hCl hp hol HO' HCl ho2
      go_loopw [11, 60] (fun nv iv' W => ∃ (j q : Nat), j ≤ k ∧ q ≤ N ∧ nv = .int .i64 (q : Int) ∧ iv' = .int .i64 (j : Int) ∧ Hid (∃ kk, F2 W2 p l out W j q kk)) (fun _ iv' _ => k - (intOf iv').toNat)
      case atStart => exact ⟨0, 0, Nat.zero_le _, Nat.zero_le _, rfl, rfl, .zero, H0.out⟩
      case round =>
        clear H0
        obtain ⟨j, q, hj, hq, rfl, rfl, hrel⟩ := hrel
        obtain ⟨kk, hM⟩ := hrel.out
        by_cases hlt : j < k
        · obtain ⟨x, hx⟩ : ∃ x, l[j]? = some x := ⟨_, List.getElem?_eq_getElem (by rw [HL.out.1]; exact hlt)⟩
          have hO2 : Only (fun _ => False) w wr := HOW2.out.trans hM.only (fun i hi => .inr (by have := HOW2.out.size; have := HP.out; omega))
          obtain ⟨b, off, rfl, hbl, hrng⟩ := (HL.out.same hO2).2 j x hx
          obtain ⟨cs, hcs⟩ : ∃ cs, cs = x.vals := ⟨_, rfl⟩
          rw [← hcs] at hrng
          have HRg := Lib.hid hrng
          have HCl : Hid (cs.length = 3) := by rw [hcs]; rfl
          have HCo : Hid (∀ v ∈ cs, v.oneCell' = true) := by rw [hcs]; exact bt_one x
          have hpN2 : p < wr.heap.size := hM.cl.lt
          have hpW : p = W2.heap.size := HP.out
          obtain ⟨k', o, hfe⟩ : ∃ k' o, feed9 kk x = (k', o) := ⟨_, _, rfl⟩
          have HFd : Hid (∀ W, Only (fun i => wr.heap.size ≤ i) wr W → Calls Try.prog 16 #[.pointer (some ⟨p, 0, none⟩), .int .u8 (x.c.toNat : Int), .bool x.mark, .bool x.raw] W fun e w' => ∃ ts : List Value, e = .returned (.tuple #[.agg ts.toArray, .bool o.isSome]) ∧ Hid (ts.length = 5) ∧ Hid (∀ v ∈ ts, v.oneCell' = true) ∧
              Hid (∃ y : TkP, ts = y.cells ∧ y.t = tokOf o ∧ Body w' W.heap.size y.val y.t.body) ∧ Hid (ClAt w' p 0 50 [] k' []) ∧ Hid (Only (· = p) W w')) := fun W ho => by
            have h := cfeed_in (by decide) (by decide) (hM.cl.only ho (by omega)) x W.heap.size (Nat.le_refl _)
            rw [hfe] at h
            exact h
          have hk9 : k' = (feeds9 .zero 0 (l.take (j + 1))).2 := by
            rw [take_snoc hx, feeds9_append, ← hM.told]
            simp only [feeds9]
            rw [hfe]
          have hrest : out.drop q = o.toList.map (fun t => (t, j)) ++ (feeds9 k' (j + 1) (l.drop (j + 1))).1 := by
            rw [hM.rest, at_drop hx]
            simp only [feeds9]
            rw [hfe]
          obtain ⟨id', hid'⟩ : ∃ b, b = decide (k'.m.st = 0) := ⟨_, rfl⟩
          have hidl : decide ((feeds .zero (s.take (j + 1))).2.st = 0) = id' := by
            rw [hid', hk9, feeds9_m, HSl.out, List.map_take]
            rfl
          have hii : (id' != id') = false := by cases id' <;> rfl
          have hmark := @feed9_mark kk k' x o hfe
          have HK9 := Lib.hid hk9
          have HIdl := Lib.hid hidl
          have HId := Lib.hid hid'
          have HOnly := Lib.hid hM.only
          have hcut := HCP.out (j + 1) (by omega)
          obtain ⟨s1, hs1⟩ : ∃ s1, s1 = s.take (j + 1) := ⟨_, rfl⟩
          rw [← hs1] at hcut HIdl
          have hs1l : s1.length = j + 1 := by
            rw [hs1, List.length_take, HSl.out, List.length_map, HL.out.1]
            omega
          obtain ⟨cpf, Wf, hcv⟩ : ∃ (cpf : World → Nat) (Wf : World → World), ∀ W, (convert 9 22 (.string ⟨s1.toArray⟩)).run Try.prog W = .ok (.slice (some ⟨W.heap.size, 0, none⟩) s1.length (cpf W)) (Wf W) ∧ s1.length ≤ cpf W ∧ cpf W ≤ 9223372036854775807 ∧ Hid (Src (Wf W) (some ⟨W.heap.size, 0, none⟩) s1.length s1) ∧ Hid (Only (fun _ => False) W (Wf W)) :=
            ⟨fun W => Classical.choose (text_bytes W s1 (by omega)), fun W => Classical.choose (Classical.choose_spec (text_bytes W s1 (by omega))), fun W => Classical.choose_spec (Classical.choose_spec (text_bytes W s1 (by omega)))⟩
          have hcv1 : ∀ W, (convert 9 22 (.string ⟨s1.toArray⟩)).run Try.prog W = .ok (.slice (some ⟨W.heap.size, 0, none⟩) (j + 1) (cpf W)) (Wf W) := fun W => by have := (hcv W).1; rwa [hs1l] at this
          have HAl : Hid (∀ W, Calls Try.prog 18 #[.slice (some ⟨W.heap.size, 0, none⟩) (j + 1) (cpf W)] (Wf W) fun e w' => ∃ v, e = .returned (.tuple #[v, .bool id']) ∧ Hid (Only (fun _ => False) W w')) := fun W => by
            obtain ⟨_, h2, h3, h4, h5⟩ := hcv W
            have h := all_any h4.out h2 h3 (by omega)
            rw [HIdl.out, hs1l] at h
            refine h.mono ?_
            rintro e w' ⟨v, ps, rfl, _, _, ho⟩
            exact ⟨v, rfl, h5.out.trans ho (fun _ h => h.elim)⟩
          have hsz1 : j + 1 ≤ s.length := by rw [HSl.out, List.length_map, HL.out.1]; omega
          have HS1 := Lib.hid hs1
          obtain ⟨c0, mk, rw0⟩ := x
          have HIdle : Hid (∀ W, ClAt W p 0 50 [] k' [] → Calls Try.prog 19 #[.pointer (some ⟨p, 0, none⟩)] W fun e w' => e = .returned (.bool id') ∧ w' = W) := fun W h => by
            have := cidle_in h
            rwa [← hid'] at this
          have HAt : Hid (∀ t e, out[q]? = some (t, e) → ∃ ge gr, Br = some ⟨ge, 0, none⟩ ∧ Ar = some ⟨gr, 0, none⟩ ∧ ge < p ∧ gr < p ∧ Hid (W2.cell? ⟨ge, q, none⟩ = some (.int .i64 (e : Int))) ∧ Hid (∀ (i : Nat) (u : Value), (rkCells t)[i]? = some u → W2.cell? ⟨gr, q * 5 + i, none⟩ = some u)) := fun t e h => by
            have hql : q < N := by rw [hN.out]; exact (List.getElem?_eq_some_iff.1 h).1
            have h1 := hIR.out
            unfold IRow at h1
            rw [List.length_map, ← hN.out] at h1
            have h2 := hRR.out
            unfold RRow at h2
            rw [List.length_map, ← hN.out] at h2
            obtain ⟨ge, e1, _, hg1, hc1⟩ := own_at h1 (by omega)
            obtain ⟨gr, e2, _, hg2, hc2⟩ := own_at h2 (by omega)
            refine ⟨ge, gr, e1, e2, by omega, by omega, hc1 q _ ?_, fun i u hi => hc2 _ _ (flatR_get (by rw [List.getElem?_map, h]; rfl) i u hi)⟩
            rw [List.getElem?_map, List.getElem?_map, h]
            rfl
          have HCS := Lib.hid hcs
          have HpW := Lib.hid hpW
          clear hcv hs1 hs1l hidl hid' hk9 hfe hrng hO2 hrel hM hx hcs hpW
          cases o with
          | none =>
            simp only [Option.isSome_none] at HFd
            simp only [Option.toList_none, List.map_nil, List.nil_append] at hrest
            have HRest := Lib.hid hrest
            have hnd : mk = true → k'.deaf = true := fun h => by
              cases hd : k'.deaf with
              | true => rfl
              | false =>
                obtain ⟨_, h1, _⟩ := hmark h hd
                cases h1
            have HDeaf : Hid (mk = true → ∀ W, ClAt W p 0 50 [] k' [] → Calls Try.prog 20 #[.pointer (some ⟨p, 0, none⟩)] W fun e w' => e = .returned (.bool true) ∧ w' = W) := fun hm W h => by
              have := cdeaf_in h
              rwa [hnd hm] at this
            clear hmark hnd hrest
            by_cases hqN : q < N
            · obtain ⟨⟨t, e⟩, hte⟩ : ∃ y, out[q]? = some y := ⟨_, List.getElem?_eq_getElem (by rw [← hN.out]; exact hqN)⟩
              have hej : j + 1 ≤ e := by
                have h1 : (t, e) ∈ out.drop q := by rw [at_drop hte]; exact List.mem_cons_self
                rw [HRest.out] at h1
                exact feeds9_ge _ _ _ _ h1
              obtain ⟨ge, gr, rfl, rfl, hge, hgr0, HCe, _⟩ := HAt.out t e hte
              have hd1 : decide ((q : Int) < (N : Int)) = true := by simp; omega
              have hd2 : ((e : Int) == (j : Int)) = false := beq_eq_false_iff_ne.2 (by omega)
              have hd2' : decide ((e : Int) = (j : Int)) = false := by simp; omega
              clear hte HAt
              cases mk with
              | false =>
                go_wp2_with (first
                  | ((with_reducible show wpList _ _ _ (⟨some 64, _, _, _, _, _⟩ :: _) _ _); refine wpList_load_mid rfl 41 (.tmp 63) rfl b (off + j * 3) rfl cs _ HRg.out Try.underlying41 rfl (by rw [HCl.out]; exact size_bt) ?_)
                  | ((with_reducible show wpList _ _ _ (⟨none, .store 41 _ _, _, _, _, _⟩ :: _) _ _); refine step_store rfl 41 _ _ rfl wr.heap.size rfl cs rfl _ [.int .u8 0, .bool false, .bool false] (Blk.new _ _ _) (by rw [HCl.out]; exact size_bt) HCl.out.symm HCo.out ?_; intro w3 hB3 hz3 ho3; have hO3 : Hid (Only (fun i => wr.heap.size ≤ i) wr w3) := ((Only.refl (fun i => wr.heap.size ≤ i) wr).alloc _).trans ho3 (fun i hi => .inl (by omega)); have hs3 : wr.heap.size < w3.heap.size := (by rw [hz3.out]; simp); have q0 : w3.cell? ⟨wr.heap.size, 0, none⟩ = some (.int .u8 (c0.toNat : Int)) := (by rw [hB3.out.cell, HCS.out]; rfl); have q1 : w3.cell? ⟨wr.heap.size, 1, none⟩ = some (.bool false) := (by rw [hB3.out.cell, HCS.out]; rfl); have q2 : w3.cell? ⟨wr.heap.size, 2, none⟩ = some (.bool rw0) := (by rw [hB3.out.cell, HCS.out]; rfl))
                  | (go_at_call 16; (with_reducible refine (HFd.out w3 hO3.out).mono ?_); rintro e' w5 ⟨ts, rfl, htl, hto, htx, hm5, ho5⟩)
                  | ((with_reducible show wpList _ _ _ (⟨none, .store 52 _ _, _, _, _, _⟩ :: _) _ _); refine step_store rfl 52 _ _ rfl w5.heap.size rfl ts rfl _ (tkCells Tk.none (.slice none 0 0)) (Blk.new _ _ _) (by rw [htl.out]; exact size_tok) htl.out.symm hto.out ?_; intro w6 hB6 hz6 ho6; have hO6 : Hid (Only (fun i => w5.heap.size ≤ i) w5 w6) := ((Only.refl (fun i => w5.heap.size ≤ i) w5).alloc _).trans ho6 (fun i hi => .inl (by omega)); have hs5 := ho5.out.size; have hOW6 : Hid (Only (fun i => p ≤ i) W2 w6) := ((HOnly.out.trans hO3.out (fun i hi => .inl (by omega))).trans ho5.out (fun i hi => .inl (by omega))).trans hO6.out (fun i hi => .inl (by omega)); have hm6 : Hid (ClAt w6 p 0 50 [] k' []) := hm5.out.only hO6.out (by have := hm5.out.lt; omega); have hk6 : Hid (w6.cell? ⟨wr.heap.size, 1, none⟩ = some (.bool false)) := hO6.out.cellv (ho5.out.cellv q1 (by show ¬ wr.heap.size = p; omega)) (by show ¬ w5.heap.size ≤ wr.heap.size; omega); have qe : w6.cell? ⟨ge, q, none⟩ = some (.int .i64 (e : Int)) := hOW6.out.cellv HCe.out (by show ¬ p ≤ ge; omega))
                  | (go_at_call 18; (with_reducible refine (HAl.out _).mono ?_); rintro e' w8 ⟨v8, rfl, ho8⟩; have hm8 : Hid (ClAt w8 p 0 50 [] k' []) := hm6.out.only ho8.out (fun h => h); have k8 : w8.cell? ⟨wr.heap.size, 1, none⟩ = some (.bool false) := ho8.out.cellv hk6.out (fun h => h))
                  | (go_at_call 19; (with_reducible refine (HIdle.out w8 hm8.out).mono ?_); rintro e' w9 ⟨rfl, e9⟩; subst w9))
                go_roundw
                case rel => exact ⟨j + 1, q, by omega, hq, by go_num, by go_num, k', hOW6.out.trans ho8.out (fun _ h => h.elim), hm8.out, HK9.out, HRest.out⟩
                case measure => simp [intOf]; omega
              | true =>
                go_wp2_with (first
                  | ((with_reducible show wpList _ _ _ (⟨some 64, _, _, _, _, _⟩ :: _) _ _); refine wpList_load_mid rfl 41 (.tmp 63) rfl b (off + j * 3) rfl cs _ HRg.out Try.underlying41 rfl (by rw [HCl.out]; exact size_bt) ?_)
                  | ((with_reducible show wpList _ _ _ (⟨none, .store 41 _ _, _, _, _, _⟩ :: _) _ _); refine step_store rfl 41 _ _ rfl wr.heap.size rfl cs rfl _ [.int .u8 0, .bool false, .bool false] (Blk.new _ _ _) (by rw [HCl.out]; exact size_bt) HCl.out.symm HCo.out ?_; intro w3 hB3 hz3 ho3; have hO3 : Hid (Only (fun i => wr.heap.size ≤ i) wr w3) := ((Only.refl (fun i => wr.heap.size ≤ i) wr).alloc _).trans ho3 (fun i hi => .inl (by omega)); have hs3 : wr.heap.size < w3.heap.size := (by rw [hz3.out]; simp); have q0 : w3.cell? ⟨wr.heap.size, 0, none⟩ = some (.int .u8 (c0.toNat : Int)) := (by rw [hB3.out.cell, HCS.out]; rfl); have q1 : w3.cell? ⟨wr.heap.size, 1, none⟩ = some (.bool true) := (by rw [hB3.out.cell, HCS.out]; rfl); have q2 : w3.cell? ⟨wr.heap.size, 2, none⟩ = some (.bool rw0) := (by rw [hB3.out.cell, HCS.out]; rfl))
                  | (go_at_call 16; (with_reducible refine (HFd.out w3 hO3.out).mono ?_); rintro e' w5 ⟨ts, rfl, htl, hto, htx, hm5, ho5⟩)
                  | ((with_reducible show wpList _ _ _ (⟨none, .store 52 _ _, _, _, _, _⟩ :: _) _ _); refine step_store rfl 52 _ _ rfl w5.heap.size rfl ts rfl _ (tkCells Tk.none (.slice none 0 0)) (Blk.new _ _ _) (by rw [htl.out]; exact size_tok) htl.out.symm hto.out ?_; intro w6 hB6 hz6 ho6; have hO6 : Hid (Only (fun i => w5.heap.size ≤ i) w5 w6) := ((Only.refl (fun i => w5.heap.size ≤ i) w5).alloc _).trans ho6 (fun i hi => .inl (by omega)); have hs5 := ho5.out.size; have hOW6 : Hid (Only (fun i => p ≤ i) W2 w6) := ((HOnly.out.trans hO3.out (fun i hi => .inl (by omega))).trans ho5.out (fun i hi => .inl (by omega))).trans hO6.out (fun i hi => .inl (by omega)); have hm6 : Hid (ClAt w6 p 0 50 [] k' []) := hm5.out.only hO6.out (by have := hm5.out.lt; omega); have hk6 : Hid (w6.cell? ⟨wr.heap.size, 1, none⟩ = some (.bool true)) := hO6.out.cellv (ho5.out.cellv q1 (by show ¬ wr.heap.size = p; omega)) (by show ¬ w5.heap.size ≤ wr.heap.size; omega); have qe : w6.cell? ⟨ge, q, none⟩ = some (.int .i64 (e : Int)) := hOW6.out.cellv HCe.out (by show ¬ p ≤ ge; omega))
                  | (go_at_call 18; (with_reducible refine (HAl.out _).mono ?_); rintro e' w8 ⟨v8, rfl, ho8⟩; have hm8 : Hid (ClAt w8 p 0 50 [] k' []) := hm6.out.only ho8.out (fun h => h); have k8 : w8.cell? ⟨wr.heap.size, 1, none⟩ = some (.bool true) := ho8.out.cellv hk6.out (fun h => h))
                  | (go_at_call 19; (with_reducible refine (HIdle.out w8 hm8.out).mono ?_); rintro e' w9 ⟨rfl, e9⟩; subst w9)
                  | (go_at_call 20; (with_reducible refine (HDeaf.out (by first | rfl | trivial) w8 hm8.out).mono ?_); rintro e' w9 ⟨rfl, e9⟩; subst w9))
                go_roundw
                case rel => exact ⟨j + 1, q, by omega, hq, by go_num, by go_num, k', hOW6.out.trans ho8.out (fun _ h => h.elim), hm8.out, HK9.out, HRest.out⟩
                case measure => simp [intOf]; omega
            · have hd1 : decide ((q : Int) < (N : Int)) = false := by simp; omega
              clear HAt
              cases mk with
              | false =>
                go_wp2_with (first
                  | ((with_reducible show wpList _ _ _ (⟨some 64, _, _, _, _, _⟩ :: _) _ _); refine wpList_load_mid rfl 41 (.tmp 63) rfl b (off + j * 3) rfl cs _ HRg.out Try.underlying41 rfl (by rw [HCl.out]; exact size_bt) ?_)
                  | ((with_reducible show wpList _ _ _ (⟨none, .store 41 _ _, _, _, _, _⟩ :: _) _ _); refine step_store rfl 41 _ _ rfl wr.heap.size rfl cs rfl _ [.int .u8 0, .bool false, .bool false] (Blk.new _ _ _) (by rw [HCl.out]; exact size_bt) HCl.out.symm HCo.out ?_; intro w3 hB3 hz3 ho3; have hO3 : Hid (Only (fun i => wr.heap.size ≤ i) wr w3) := ((Only.refl (fun i => wr.heap.size ≤ i) wr).alloc _).trans ho3 (fun i hi => .inl (by omega)); have hs3 : wr.heap.size < w3.heap.size := (by rw [hz3.out]; simp); have q0 : w3.cell? ⟨wr.heap.size, 0, none⟩ = some (.int .u8 (c0.toNat : Int)) := (by rw [hB3.out.cell, HCS.out]; rfl); have q1 : w3.cell? ⟨wr.heap.size, 1, none⟩ = some (.bool false) := (by rw [hB3.out.cell, HCS.out]; rfl); have q2 : w3.cell? ⟨wr.heap.size, 2, none⟩ = some (.bool rw0) := (by rw [hB3.out.cell, HCS.out]; rfl))
                  | (go_at_call 16; (with_reducible refine (HFd.out w3 hO3.out).mono ?_); rintro e' w5 ⟨ts, rfl, htl, hto, htx, hm5, ho5⟩)
                  | ((with_reducible show wpList _ _ _ (⟨none, .store 52 _ _, _, _, _, _⟩ :: _) _ _); refine step_store rfl 52 _ _ rfl w5.heap.size rfl ts rfl _ (tkCells Tk.none (.slice none 0 0)) (Blk.new _ _ _) (by rw [htl.out]; exact size_tok) htl.out.symm hto.out ?_; intro w6 hB6 hz6 ho6; have hO6 : Hid (Only (fun i => w5.heap.size ≤ i) w5 w6) := ((Only.refl (fun i => w5.heap.size ≤ i) w5).alloc _).trans ho6 (fun i hi => .inl (by omega)); have hs5 := ho5.out.size; have hOW6 : Hid (Only (fun i => p ≤ i) W2 w6) := ((HOnly.out.trans hO3.out (fun i hi => .inl (by omega))).trans ho5.out (fun i hi => .inl (by omega))).trans hO6.out (fun i hi => .inl (by omega)); have hm6 : Hid (ClAt w6 p 0 50 [] k' []) := hm5.out.only hO6.out (by have := hm5.out.lt; omega); have hk6 : Hid (w6.cell? ⟨wr.heap.size, 1, none⟩ = some (.bool false)) := hO6.out.cellv (ho5.out.cellv q1 (by show ¬ wr.heap.size = p; omega)) (by show ¬ w5.heap.size ≤ wr.heap.size; omega))
                  | (go_at_call 18; (with_reducible refine (HAl.out _).mono ?_); rintro e' w8 ⟨v8, rfl, ho8⟩; have hm8 : Hid (ClAt w8 p 0 50 [] k' []) := hm6.out.only ho8.out (fun h => h); have k8 : w8.cell? ⟨wr.heap.size, 1, none⟩ = some (.bool false) := ho8.out.cellv hk6.out (fun h => h))
                  | (go_at_call 19; (with_reducible refine (HIdle.out w8 hm8.out).mono ?_); rintro e' w9 ⟨rfl, e9⟩; subst w9))
                go_roundw
                case rel => exact ⟨j + 1, q, by omega, hq, by go_num, by go_num, k', hOW6.out.trans ho8.out (fun _ h => h.elim), hm8.out, HK9.out, HRest.out⟩
                case measure => simp [intOf]; omega
              | true =>
                go_wp2_with (first
                  | ((with_reducible show wpList _ _ _ (⟨some 64, _, _, _, _, _⟩ :: _) _ _); refine wpList_load_mid rfl 41 (.tmp 63) rfl b (off + j * 3) rfl cs _ HRg.out Try.underlying41 rfl (by rw [HCl.out]; exact size_bt) ?_)
                  | ((with_reducible show wpList _ _ _ (⟨none, .store 41 _ _, _, _, _, _⟩ :: _) _ _); refine step_store rfl 41 _ _ rfl wr.heap.size rfl cs rfl _ [.int .u8 0, .bool false, .bool false] (Blk.new _ _ _) (by rw [HCl.out]; exact size_bt) HCl.out.symm HCo.out ?_; intro w3 hB3 hz3 ho3; have hO3 : Hid (Only (fun i => wr.heap.size ≤ i) wr w3) := ((Only.refl (fun i => wr.heap.size ≤ i) wr).alloc _).trans ho3 (fun i hi => .inl (by omega)); have hs3 : wr.heap.size < w3.heap.size := (by rw [hz3.out]; simp); have q0 : w3.cell? ⟨wr.heap.size, 0, none⟩ = some (.int .u8 (c0.toNat : Int)) := (by rw [hB3.out.cell, HCS.out]; rfl); have q1 : w3.cell? ⟨wr.heap.size, 1, none⟩ = some (.bool true) := (by rw [hB3.out.cell, HCS.out]; rfl); have q2 : w3.cell? ⟨wr.heap.size, 2, none⟩ = some (.bool rw0) := (by rw [hB3.out.cell, HCS.out]; rfl))
                  | (go_at_call 16; (with_reducible refine (HFd.out w3 hO3.out).mono ?_); rintro e' w5 ⟨ts, rfl, htl, hto, htx, hm5, ho5⟩)
                  | ((with_reducible show wpList _ _ _ (⟨none, .store 52 _ _, _, _, _, _⟩ :: _) _ _); refine step_store rfl 52 _ _ rfl w5.heap.size rfl ts rfl _ (tkCells Tk.none (.slice none 0 0)) (Blk.new _ _ _) (by rw [htl.out]; exact size_tok) htl.out.symm hto.out ?_; intro w6 hB6 hz6 ho6; have hO6 : Hid (Only (fun i => w5.heap.size ≤ i) w5 w6) := ((Only.refl (fun i => w5.heap.size ≤ i) w5).alloc _).trans ho6 (fun i hi => .inl (by omega)); have hs5 := ho5.out.size; have hOW6 : Hid (Only (fun i => p ≤ i) W2 w6) := ((HOnly.out.trans hO3.out (fun i hi => .inl (by omega))).trans ho5.out (fun i hi => .inl (by omega))).trans hO6.out (fun i hi => .inl (by omega)); have hm6 : Hid (ClAt w6 p 0 50 [] k' []) := hm5.out.only hO6.out (by have := hm5.out.lt; omega); have hk6 : Hid (w6.cell? ⟨wr.heap.size, 1, none⟩ = some (.bool true)) := hO6.out.cellv (ho5.out.cellv q1 (by show ¬ wr.heap.size = p; omega)) (by show ¬ w5.heap.size ≤ wr.heap.size; omega))
                  | (go_at_call 18; (with_reducible refine (HAl.out _).mono ?_); rintro e' w8 ⟨v8, rfl, ho8⟩; have hm8 : Hid (ClAt w8 p 0 50 [] k' []) := hm6.out.only ho8.out (fun h => h); have k8 : w8.cell? ⟨wr.heap.size, 1, none⟩ = some (.bool true) := ho8.out.cellv hk6.out (fun h => h))
                  | (go_at_call 19; (with_reducible refine (HIdle.out w8 hm8.out).mono ?_); rintro e' w9 ⟨rfl, e9⟩; subst w9)
                  | (go_at_call 20; (with_reducible refine (HDeaf.out (by first | rfl | trivial) w8 hm8.out).mono ?_); rintro e' w9 ⟨rfl, e9⟩; subst w9))
                go_roundw
                case rel => exact ⟨j + 1, q, by omega, hq, by go_num, by go_num, k', hOW6.out.trans ho8.out (fun _ h => h.elim), hm8.out, HK9.out, HRest.out⟩
                case measure => simp [intOf]; omega
          | some t =>
            simp only [Option.isSome_some] at HFd
            simp only [Option.toList_some, List.map_cons, List.map_nil, List.singleton_append] at hrest
            have hte : out[q]? = some (t, j) := by
              have := congrArg (fun z => z[0]?) hrest
              simpa using this
            have hqN : q < N := by rw [hN.out]; exact (List.getElem?_eq_some_iff.1 hte).1
            have hrest1 : out.drop (q + 1) = (feeds9 k' (j + 1) (l.drop (j + 1))).1 := by
              have := congrArg (List.drop 1) hrest
              simpa [List.drop_drop] using this
            have HRest := Lib.hid hrest1
            have HMark := Lib.hid hmark
            obtain ⟨ge, gr, rfl, rfl, hge, hgr0, HCe, HCr⟩ := HAt.out t j hte
            have hd1 : decide ((q : Int) < (N : Int)) = true := by simp; omega
            have hd2 : ((j : Int) == (j : Int)) = true := by simp
            have hd2' : decide ((j : Int) = (j : Int)) = true := by simp
            clear hte HAt hmark hrest hrest1
            go_wp2_with (first
              | ((with_reducible show wpList _ _ _ (⟨some 64, _, _, _, _, _⟩ :: _) _ _); refine wpList_load_mid rfl 41 (.tmp 63) rfl b (off + j * 3) rfl cs _ HRg.out Try.underlying41 rfl (by rw [HCl.out]; exact size_bt) ?_)
              | ((with_reducible show wpList _ _ _ (⟨none, .store 41 _ _, _, _, _, _⟩ :: _) _ _); refine step_store rfl 41 _ _ rfl wr.heap.size rfl cs rfl _ [.int .u8 0, .bool false, .bool false] (Blk.new _ _ _) (by rw [HCl.out]; exact size_bt) HCl.out.symm HCo.out ?_; intro w3 hB3 hz3 ho3; have hO3 : Hid (Only (fun i => wr.heap.size ≤ i) wr w3) := ((Only.refl (fun i => wr.heap.size ≤ i) wr).alloc _).trans ho3 (fun i hi => .inl (by omega)); have hs3 : wr.heap.size < w3.heap.size := (by rw [hz3.out]; simp); have q0 : w3.cell? ⟨wr.heap.size, 0, none⟩ = some (.int .u8 (c0.toNat : Int)) := (by rw [hB3.out.cell, HCS.out]; rfl); have q1 : w3.cell? ⟨wr.heap.size, 1, none⟩ = some (.bool mk) := (by rw [hB3.out.cell, HCS.out]; rfl); have q2 : w3.cell? ⟨wr.heap.size, 2, none⟩ = some (.bool rw0) := (by rw [hB3.out.cell, HCS.out]; rfl))
              | (go_at_call 16; (with_reducible refine (HFd.out w3 hO3.out).mono ?_); rintro e' w5 ⟨ts, rfl, htl, hto, htx, hm5, ho5⟩)
              | ((with_reducible show wpList _ _ _ (⟨none, .store 52 _ _, _, _, _, _⟩ :: _) _ _); refine step_store rfl 52 _ _ rfl w5.heap.size rfl ts rfl _ (tkCells Tk.none (.slice none 0 0)) (Blk.new _ _ _) (by rw [htl.out]; exact size_tok) htl.out.symm hto.out ?_; intro w6 hB6 hz6 ho6; have hO6 : Hid (Only (fun i => w5.heap.size ≤ i) w5 w6) := ((Only.refl (fun i => w5.heap.size ≤ i) w5).alloc _).trans ho6 (fun i hi => .inl (by omega)); have hs5 := ho5.out.size; have hOW6 : Hid (Only (fun i => p ≤ i) W2 w6) := ((HOnly.out.trans hO3.out (fun i hi => .inl (by omega))).trans ho5.out (fun i hi => .inl (by omega))).trans hO6.out (fun i hi => .inl (by omega)); have hm6 : Hid (ClAt w6 p 0 50 [] k' []) := hm5.out.only hO6.out (by have := hm5.out.lt; omega); have hk6 : Hid (w6.cell? ⟨wr.heap.size, 1, none⟩ = some (.bool mk)) := hO6.out.cellv (ho5.out.cellv q1 (by show ¬ wr.heap.size = p; omega)) (by show ¬ w5.heap.size ≤ wr.heap.size; omega); have qe : w6.cell? ⟨ge, q, none⟩ = some (.int .i64 (j : Int)) := hOW6.out.cellv HCe.out (by show ¬ p ≤ ge; omega)))
            obtain ⟨⟨yt, aad, acap⟩, hy1, hy2, hy3⟩ := htx.out
            simp only [tokOf] at hy2
            subst hy2
            obtain ⟨tk, tc, to_, tb, tcut⟩ := yt
            obtain ⟨tn, htn⟩ : ∃ tn, tn = tb.length := ⟨_, rfl⟩
            have HB6 : Hid (Blk w6 w5.heap.size 52 (tkCells ⟨tk, tc, to_, tb, tcut⟩ (.slice aad tn acap))) := by
              have h := hB6.out
              rw [hy1] at h
              rw [htn]
              exact h
            have HRD := Lib.hid hy3.reads
            have HTN := Lib.hid htn
            have HOf : Hid (∀ W, Only (fun _ => False) w6 W → Calls Try.prog 17 #[.agg #[.int .i64 tk, .int .i64 tc, .int .i64 to_, .slice aad tn acap, .bool tcut]] W fun e w' => e = .returned (.agg #[.int .i64 tk, .int .i64 tc, .int .i64 to_, .string ⟨tb.toArray⟩, .bool tcut]) ∧ Hid (Only (fun _ => False) W w')) := fun W ho => of_flat tk tc to_ tb tcut aad tn acap HTN.out (by rw [HTN.out]; obtain ⟨A', c', e, h1, h2⟩ := HRD.out; exact ⟨A', c', e, (h1.only hO6.out (fun hn ad hA => by have := h1.lt hn ad hA; omega)).only ho (fun _ _ _ h => h), h2⟩)
            have heq : ∀ W, (Op.equalIn 10000 56 (.agg #[.int .i64 tk, .int .i64 tc, .int .i64 to_, .string ⟨tb.toArray⟩, .bool tcut]) (.agg #[.int .i64 tk, .int .i64 tc, .int .i64 to_, .string ⟨tb.toArray⟩, .bool tcut])).run Try.prog W = .ok true W := fun W => by
              have := eq_rtok W ⟨tk, tc, to_, tb, tcut⟩ ⟨tk, tc, to_, tb, tcut⟩
              rw [decide_eq_true rfl] at this
              exact this
            have hgr := guard_rtok
            have HA2 : Hid (∀ W, Only (fun _ => False) w6 W → (W.cell? ⟨w5.heap.size, 0, none⟩ = some (.int .i64 tk) ∧ W.cell? ⟨w5.heap.size, 1, none⟩ = some (.int .i64 tc) ∧ W.cell? ⟨w5.heap.size, 2, none⟩ = some (.int .i64 to_) ∧ W.cell? ⟨w5.heap.size, 3, none⟩ = some (.slice aad tn acap) ∧ W.cell? ⟨w5.heap.size, 4, none⟩ = some (.bool tcut)) ∧ W.cell? ⟨gr, q * 5, none⟩ = some (.int .i64 tk) ∧ W.cell? ⟨gr, q * 5 + 1, none⟩ = some (.int .i64 tc) ∧ W.cell? ⟨gr, q * 5 + 2, none⟩ = some (.int .i64 to_) ∧ W.cell? ⟨gr, q * 5 + 3, none⟩ = some (.string ⟨tb.toArray⟩) ∧ W.cell? ⟨gr, q * 5 + 4, none⟩ = some (.bool tcut)) := fun W ho => by
              have h1 := HB6.out.only ho (fun h => h)
              have h2 : ∀ (i : Nat) (u : Value), (rkCells ⟨tk, tc, to_, tb, tcut⟩)[i]? = some u → W.cell? ⟨gr, q * 5 + i, none⟩ = some u := fun i u hi => ho.cellv (hOW6.out.cellv (HCr.out i u hi) (by show ¬ p ≤ gr; omega)) (fun h => h)
              exact ⟨⟨by rw [h1.cell]; rfl, by rw [h1.cell]; rfl, by rw [h1.cell]; rfl, by rw [h1.cell]; rfl, by rw [h1.cell]; rfl⟩, h2 0 _ rfl, h2 1 _ rfl, h2 2 _ rfl, h2 3 _ rfl, h2 4 _ rfl⟩
            have hD6 : Only (fun _ => False) w6 w6.drew := (Only.refl _ w6).drew
            clear hB6 htn hy1 hy3
            go_region_held3 (fun W => (W.cell? ⟨w5.heap.size, 0, none⟩ = some (.int .i64 tk) ∧ W.cell? ⟨w5.heap.size, 1, none⟩ = some (.int .i64 tc) ∧ W.cell? ⟨w5.heap.size, 2, none⟩ = some (.int .i64 to_) ∧ W.cell? ⟨w5.heap.size, 3, none⟩ = some (.slice aad tn acap) ∧ W.cell? ⟨w5.heap.size, 4, none⟩ = some (.bool tcut)) ∧ W.cell? ⟨gr, q * 5, none⟩ = some (.int .i64 tk) ∧ W.cell? ⟨gr, q * 5 + 1, none⟩ = some (.int .i64 tc) ∧ W.cell? ⟨gr, q * 5 + 2, none⟩ = some (.int .i64 to_) ∧ W.cell? ⟨gr, q * 5 + 3, none⟩ = some (.string ⟨tb.toArray⟩) ∧ W.cell? ⟨gr, q * 5 + 4, none⟩ = some (.bool tcut))
              (exact HA2.out _ (by assumption))
              (first | (go_at_call 17; (with_reducible refine (HOf.out _ (by assumption)).mono ?_); rintro e' w7 ⟨rfl, ho7⟩; have hD7 : Only (fun _ => False) w6 w7 := hD6.trans ho7.out (fun _ h => h.elim)))
            have hm7 : Hid (ClAt w7 p 0 50 [] k' []) := hm6.out.only hD7 (fun h => h)
            have hk7 := Lib.hid (hD7.cellv hk6.out (fun h => h))
            have hz7 : Hid (w7.cell? ⟨w5.heap.size, 0, none⟩ = some (.int .i64 tk) ∧ w7.cell? ⟨w5.heap.size, 1, none⟩ = some (.int .i64 tc)) := ⟨(HA2.out w7 hD7).1.1, (HA2.out w7 hD7).1.2.1⟩
            clear HA2
            cases mk with
            | false =>
              go_wp2_with (first
                | (go_at_call 18; (with_reducible refine (HAl.out _).mono ?_); rintro e' w8 ⟨v8, rfl, ho8⟩; have hm8 : Hid (ClAt w8 p 0 50 [] k' []) := hm7.out.only ho8.out (fun h => h); have k8 : w8.cell? ⟨wr.heap.size, 1, none⟩ = some (.bool false) := ho8.out.cellv hk7.out (fun h => h); have z0 : w8.cell? ⟨w5.heap.size, 0, none⟩ = some (.int .i64 tk) := ho8.out.cellv hz7.out.1 (fun h => h); have z1 : w8.cell? ⟨w5.heap.size, 1, none⟩ = some (.int .i64 tc) := ho8.out.cellv hz7.out.2 (fun h => h))
                | (go_at_call 19; (with_reducible refine (HIdle.out w8 hm8.out).mono ?_); rintro e' w9 ⟨rfl, e9⟩; subst w9))
              go_roundw
              case rel => exact ⟨j + 1, q + 1, by omega, by omega, by go_num, by go_num, k', (hOW6.out.trans hD7 (fun _ h => h.elim)).trans ho8.out (fun _ h => h.elim), hm8.out, HK9.out, HRest.out⟩
              case measure => simp [intOf]; omega
            | true =>
              cases hdd : k'.deaf with
              | true =>
                have HDeaf : Hid (∀ W, ClAt W p 0 50 [] k' [] → Calls Try.prog 20 #[.pointer (some ⟨p, 0, none⟩)] W fun e w' => e = .returned (.bool true) ∧ w' = W) := fun W h => by have := cdeaf_in h; rwa [hdd] at this
                go_wp2_with (first
                  | (go_at_call 18; (with_reducible refine (HAl.out _).mono ?_); rintro e' w8 ⟨v8, rfl, ho8⟩; have hm8 : Hid (ClAt w8 p 0 50 [] k' []) := hm7.out.only ho8.out (fun h => h); have k8 : w8.cell? ⟨wr.heap.size, 1, none⟩ = some (.bool true) := ho8.out.cellv hk7.out (fun h => h); have z0 : w8.cell? ⟨w5.heap.size, 0, none⟩ = some (.int .i64 tk) := ho8.out.cellv hz7.out.1 (fun h => h); have z1 : w8.cell? ⟨w5.heap.size, 1, none⟩ = some (.int .i64 tc) := ho8.out.cellv hz7.out.2 (fun h => h))
                  | (go_at_call 19; (with_reducible refine (HIdle.out w8 hm8.out).mono ?_); rintro e' w9 ⟨rfl, e9⟩; subst w9)
                  | (go_at_call 20; (with_reducible refine (HDeaf.out w8 hm8.out).mono ?_); rintro e' w9 ⟨rfl, e9⟩; subst w9))
                go_roundw
                case rel => exact ⟨j + 1, q + 1, by omega, by omega, by go_num, by go_num, k', (hOW6.out.trans hD7 (fun _ h => h.elim)).trans ho8.out (fun _ h => h.elim), hm8.out, HK9.out, HRest.out⟩
                case measure => simp [intOf]; omega
              | false =>
                have HDeaf : Hid (∀ W, ClAt W p 0 50 [] k' [] → Calls Try.prog 20 #[.pointer (some ⟨p, 0, none⟩)] W fun e w' => e = .returned (.bool false) ∧ w' = W) := fun W h => by have := cdeaf_in h; rwa [hdd] at this
                obtain ⟨t', e1, e2, e3⟩ := HMark.out (by first | rfl | trivial) hdd
                injection e1 with e1
                rw [← e1] at e2 e3
                simp only at e2 e3
                subst e2 e3
                go_wp2_with (first
                  | (go_at_call 18; (with_reducible refine (HAl.out _).mono ?_); rintro e' w8 ⟨v8, rfl, ho8⟩; have hm8 : Hid (ClAt w8 p 0 50 [] k' []) := hm7.out.only ho8.out (fun h => h); have k8 : w8.cell? ⟨wr.heap.size, 1, none⟩ = some (.bool true) := ho8.out.cellv hk7.out (fun h => h); have z0 : w8.cell? ⟨w5.heap.size, 0, none⟩ = some (.int .i64 2) := ho8.out.cellv hz7.out.1 (fun h => h); have z1 : w8.cell? ⟨w5.heap.size, 1, none⟩ = some (.int .i64 242) := ho8.out.cellv hz7.out.2 (fun h => h))
                  | (go_at_call 19; (with_reducible refine (HIdle.out w8 hm8.out).mono ?_); rintro e' w9 ⟨rfl, e9⟩; subst w9)
                  | (go_at_call 20; (with_reducible refine (HDeaf.out w8 hm8.out).mono ?_); rintro e' w9 ⟨rfl, e9⟩; subst w9))
                go_roundw
                case rel => exact ⟨j + 1, q + 1, by omega, by omega, by go_num, by go_num, k', (hOW6.out.trans hD7 (fun _ h => h.elim)).trans ho8.out (fun _ h => h.elim), hm8.out, HK9.out, HRest.out⟩
                case measure => simp [intOf]; omega
        · obtain rfl : j = k := by omega
          have hqN : q = N := by
            have h1 := hM.rest
            rw [show l.drop j = [] from List.drop_eq_nil_of_le (by rw [HL.out.1]; exact Nat.le_refl _)] at h1
            have h2 := congrArg List.length h1
            simp only [feeds9, List.length_drop, List.length_nil] at h2
            have := hN.out
            omega
          subst hqN
          have HOe := Lib.hid (HOW2.out.trans hM.only (fun i hi => .inr (by have := HOW2.out.size; have := HP.out; omega)))
          have hqq : ((q : Int) == (q : Int)) = true := by simp
          have hqq' : decide ((q : Int) = (q : Int)) = true := by simp
          clear hM hrel hlt
          go_wp2
          go_ret
          exact ⟨rfl, HOe.out⟩

theorem cleanFeeds_walk (W : World) {H : Type} {enc : TypeId × Value → H} {f0 : Nat} {A : Option Addr} {n c : Nat} {x : DataW H × List MemPlace} (hf : DataW.trod enc Try.prog W 0 (fun _ => true) true f0 39 [.slice A n c] = some x) :
    Calls Try.prog 4 #[.slice A n c] W (Fine W) := by
  obtain ⟨_, _, l, hl⟩ := open_bts hf
  by_cases h : 200 < n
  · exact cfeeds_long W A n c h
  · exact cfeeds_ok W A n c l hl (by omega)
end Go.Proofs.Ytelmfncdamakfaa
