/- Several texts in one. -/
import Derived.Test.YtlmkpembccehkaaGreatDoorJIacSay
import Derived.BigQuiet
import Derived.Test.YtlmkpembccehkaaGreatDoorJTbSay
import Derived.Test.YtlmkpembccehkaaGreatDoorJTbHear
import Derived.Test.YtlmkpembccehkaaGreatDoorJErrs
import Derived.Test.YtlmkpembccehkaaGreatDoorNawsBody
import Derived.Test.YtlmkpembccehkaaGreatDoorJBody
import Derived.Laws.StructEq
import Derived.Deep.RegionHeld3
/- Package emit: one contract for each of its calls. -/
namespace Go.Proofs.YtlmkpembccehkaaGreatDoor
open Go Go.RowKit
set_option maxRecDepth 100000
set_option maxHeartbeats 4000000

/-- Where double stands. -/
structure DAt (w : World) (B : Nat) (ys xs : List UInt8) (W : World) (k : Nat) (V : Value) (n : Nat) : Prop where
  len : n = (xs ++ dbl (ys.take k)).length
  row : Body W B V (xs ++ dbl (ys.take k))
  only : Only (fun i => B ≤ i) w W

theorem double_any {w : World} {B : Nat} (hB : B ≤ w.heap.size) {VA : Option Addr} {n vc : Nat} {xs : List UInt8} (hrow : Body w B (.slice VA n vc) xs) (hn : n = xs.length)
    {A : Option Addr} {m c : Nat} {ys : List UInt8} (hs : Src w A m ys) (hold : 0 < m → ∀ ad, A = some ad → ad.block < B) (hbd : n + 2 * m ≤ 1048576) :
    Calls Tryz.prog 38 #[.slice VA n vc, .slice A m c] w fun e w' => ∃ V, e = .returned V ∧ Body w' B V (xs ++ dbl ys) ∧ Only (fun i => B ≤ i) w w' := by
  have HS := Lib.hid hs
  have HO := Lib.hid hold
  have H0 : Hid (DAt w B ys xs w 0 (.slice VA n vc) n) := ⟨by simp [dbl, hn], by simpa [dbl] using hrow, Only.refl _ _⟩
  have HN := Lib.hid hn
  clear hs hold hrow hn
  go_enter Tryz.func38, Tryz.ntmps38
  go_wp2
  go_loopw [0, 9] (fun v i W => ∃ (k : Nat) (A' : Option Addr) (n' c' : Nat), k ≤ m ∧ i = .int .i64 (k : Int) ∧ v = .slice A' n' c' ∧ Hid (DAt w B ys xs W k (.slice A' n' c') n')) (fun _ i _ => m - (intOf i).toNat)
  case atStart => exact ⟨0, _, _, _, Nat.zero_le _, rfl, rfl, H0.out⟩
  case round =>
    clear H0
    obtain ⟨k, A', n', c', hk, rfl, rfl, HD⟩ := hrel
    by_cases hlt : k < m
    · obtain ⟨x, hx⟩ : ∃ x, ys[k]? = some x := ⟨_, List.getElem?_eq_getElem (by rw [HS.out.1]; exact hlt)⟩
      have hsW := HS.out.only HD.out.only (fun h0 ad e hb => by have := HO.out h0 ad e; omega)
      obtain ⟨ad, rfl, hcell⟩ := hsW.2 (by omega)
      have c0 := hcell k x hx
      unfold B8 at c0
      have hkk : (ys.take k).length = k := by rw [List.length_take, HS.out.1]; omega
      have hb' : n' + 2 ≤ 1048576 := by
        have h1 := HD.out.len
        have h2 := (dbl_length (ys.take k)).2
        rw [List.length_append] at h1
        have := HN.out
        omega
      have hBW : B ≤ wr.heap.size := Nat.le_trans hB HD.out.only.size
      have HT := Lib.hid (take_snoc hx)
      obtain ⟨z, hz⟩ : ∃ z : Int, z = (x.toNat : Int) := ⟨_, rfl⟩
      rw [← hz] at c0
      have HZ : Hid (#[Value.int .u8 z] = ([x].map B8).toArray) := by rw [hz]; rfl
      by_cases h5 : x.toNat = 255
      · have d1 : (z == 255) = true := by rw [hz]; simp; omega
        have d2 : decide (z = 255) = true := by rw [hz]; simp; omega
        have H5 := Lib.hid h5
        clear hcell hsW hz hx hkk h5
        go_wp2_with (first
          | (at_builtin; refine step_bytes rfl (.tmp 15) (.tmp 17) rfl B _ _ _ (xs ++ dbl (ys.take k)) rfl (own_same HD.out.row ((Only.refl _ wr).alloc _)) HD.out.len (some ⟨wr.heap.size, 0, none⟩) 1 1 [x] rfl (src_new wr [x] _ _ _ 1 HZ.out rfl) (by omega) (by simp; omega) ?_; intro A1 c1 w1 hb1 ho1; have HO1 : Hid (Only (fun i => B ≤ i) w w1) := ((HD.out.only.alloc _).trans ho1.out (fun i hi => .inl hi)); clear ho1)
          | (at_builtin; refine step_bytes rfl (.tmp 19) (.tmp 21) rfl B _ _ _ (xs ++ dbl (ys.take k) ++ [x]) rfl (own_same hb1.out ((Only.refl _ w1).alloc _)) (by rw [HD.out.len]; exact (len_snoc _ _).symm) (some ⟨w1.heap.size, 0, none⟩) 1 1 [x] rfl (src_new w1 [x] _ _ _ 1 HZ.out rfl) (by omega) (by have := HO1.out.size; simp; omega) ?_; intro A2 c2 w2 hb2 ho2))
        go_roundw
        case rel =>
          refine ⟨k + 1, _, _, _, by omega, by go_num, rfl, ?_⟩
          have e : xs ++ dbl (ys.take (k + 1)) = xs ++ dbl (ys.take k) ++ [x] ++ [x] := by rw [HT.out, dbl_two _ _ H5.out]; simp only [List.append_assoc]
          refine ⟨?_, ?_, (HO1.out.alloc _).trans ho2.out (fun i hi => .inl hi)⟩
          · rw [e]
            have := HD.out.len
            simp only [List.length_append, List.length_singleton] at this ⊢
            omega
          · rw [e]
            exact hb2.out
        case measure => simp [intOf]; omega
      · have d1 : (z == 255) = false := by rw [hz]; simp; omega
        have d2 : decide (z = 255) = false := by rw [hz]; simp; omega
        have H5 := Lib.hid h5
        clear hcell hsW hz hx hkk h5
        go_wp2_with (first
          | (at_builtin; refine step_bytes rfl (.tmp 19) (.tmp 21) rfl B _ _ _ (xs ++ dbl (ys.take k)) rfl (own_same HD.out.row ((Only.refl _ wr).alloc _)) HD.out.len (some ⟨wr.heap.size, 0, none⟩) 1 1 [x] rfl (src_new wr [x] _ _ _ 1 HZ.out rfl) (by omega) (by simp; omega) ?_; intro A2 c2 w2 hb2 ho2))
        go_roundw
        case rel =>
          refine ⟨k + 1, _, _, _, by omega, by go_num, rfl, ?_⟩
          have e : xs ++ dbl (ys.take (k + 1)) = xs ++ dbl (ys.take k) ++ [x] := by rw [HT.out, dbl_one _ _ H5.out]; simp only [List.append_assoc]
          refine ⟨?_, ?_, (HD.out.only.alloc _).trans ho2.out (fun i hi => .inl hi)⟩
          · rw [e]
            have := HD.out.len
            simp only [List.length_append, List.length_singleton] at this ⊢
            omega
          · rw [e]
            exact hb2.out
        case measure => simp [intOf]; omega
    · go_wp2
      go_ret
      obtain rfl : k = m := by omega
      have h1 := HD.out.row
      rw [List.take_of_length_le (by rw [HS.out.1]; omega)] at h1
      exact ⟨_, rfl, h1, HD.out.only⟩

end Go.Proofs.YtlmkpembccehkaaGreatDoor
/- Package emit: a verb's bytes, where its numbers are a verb's. -/
namespace Go.Proofs.YtlmkpembccehkaaGreatDoor
open Go Go.RowKit
set_option maxRecDepth 100000
set_option maxHeartbeats 4000000

theorem isByte_any (W : World) (c : Int) : Calls Tryz.prog 37 #[.int .i64 c] W fun e w' => e = .returned (.bool (decide (0 ≤ c ∧ c ≤ 255))) ∧ w' = W := by
  by_cases h1 : c < 0
  · go_enter Tryz.func37, Tryz.ntmps37
    go_wp2
    go_ret
    refine ⟨congrArg (fun b => Ending.returned (Value.bool b)) ?_, rfl⟩
    first | (simp; done) | (simp; omega)
  · go_enter Tryz.func37, Tryz.ntmps37
    go_wp2
    go_ret
    refine ⟨congrArg (fun b => Ending.returned (Value.bool b)) ?_, rfl⟩
    first | (simp; done) | (simp; omega)
/-- Bytes that lie in one new block. -/
theorem body_new (w : World) (xs : List UInt8) (n : Nat) (hn : n = xs.length) (cs : Array Value) (hc : cs = (xs.map B8).toArray) (hb : n ≤ 1048576) : Body (w.alloc (.cells cs 5)) w.heap.size (.slice (some ⟨w.heap.size, 0, none⟩) n n) xs := by
  subst hn hc
  exact own_of_blk (Blk.new w 5 (xs.map B8)) (by simp) (by rw [Nat.mul_one, List.take_of_length_le (by simp)]) (Nat.le_refl _) (by omega) (Nat.le_refl _)

end Go.Proofs.YtlmkpembccehkaaGreatDoor
/- Package emit: a plain command's, a verb's, a subnegotiation's bytes. -/
namespace Go.Proofs.YtlmkpembccehkaaGreatDoor
open Go Go.RowKit
set_option maxRecDepth 100000
set_option maxHeartbeats 4000000

/-- What a call of package emit answers: bytes of its own and no error, or an error. -/
def Told (w w' : World) (es : List Addr) (e : Ending) (bs : List UInt8) (num : Nat) : Prop :=
  ∃ A c E, e = .returned (.tuple #[.slice A bs.length c, E]) ∧ Hid (Body w' w.heap.size (.slice A bs.length c) bs) ∧ ErrV es E num ∧ Hid (Only (fun _ => False) w w')
theorem Told.none_ {w w' : World} {es : List Addr} {i : Nat} {a : Addr} (h : es[i]? = some a) (k : Nat) (hk : k = i + 1) (ho : Only (fun _ => False) w w') : Told w w' es (.returned (.tuple #[.slice none 0 0, errV a])) [] k :=
  ⟨none, 0, _, rfl, own_nil w' _ _ _, ErrV.err h k hk, ho⟩
theorem errKind_at {w : World} {es : List Addr} (h : ErrsOf w [0, 3, 8] es) : ∃ a, es[8]? = some a ∧ w.cell? ⟨0, 0, none⟩ = some (errV a) := h.get 8 _ (by decide) rfl
theorem errRange_at {w : World} {es : List Addr} (h : ErrsOf w [0, 3, 8] es) : ∃ a, es[0]? = some a ∧ w.cell? ⟨1, 0, none⟩ = some (errV a) := h.get 0 _ (by decide) rfl
theorem errLong_at {w : World} {es : List Addr} (h : ErrsOf w [0, 3, 8] es) : ∃ a, es[3]? = some a ∧ w.cell? ⟨3, 0, none⟩ = some (errV a) := h.get 3 _ (by decide) rfl

def plNum (c : Int) : Nat := tkNum ⟨2, c, 0, [], false⟩
theorem esub_any {w : World} {es : List Addr} (hes : ErrsOf w [0, 3, 8] es) (c o : Int) {A : Option Addr} {n cap : Nat} {b : List UInt8} (hs : Src w A n b) :
    Calls Tryz.prog 16 #[.int .i64 o, .slice A n cap] w fun e w' => Told w w' es e (tkBytes ⟨4, c, o, b, false⟩) (tkNum ⟨4, c, o, b, false⟩) := by
  have hq := fun W => isByte_any W o
  have hl := hs.1
  by_cases h2 : 0 ≤ o ∧ o ≤ 255
  · rw [decide_eq_true h2] at hq
    by_cases h3 : 256 < n
    · have hn : tkNum ⟨4, c, o, b, false⟩ = 4 := by simp [tkNum, h2, hl, h3]
      have hb : tkBytes ⟨4, c, o, b, false⟩ = [] := by simp [tkBytes, hn]
      rw [hn, hb]
      have d : decide ((256 : Int) < (n : Int)) = true := by simp; omega
      obtain ⟨a, ha, hc⟩ := errLong_at hes
      unfold errV at hc
      clear hn hb hes h2 hs hl h3
      go_enter Tryz.func16, Tryz.ntmps16
      go_wp2_with (first
        | (go_at_call 37; refine (hq _).mono ?_; rintro e w' ⟨rfl, e2⟩; subst w'))
      go_quiet (fail)
      go_wp2
      go_ret2
      exact Told.none_ ha 4 rfl ((Only.refl _ _).drewN _)
    · have hn : tkNum ⟨4, c, o, b, false⟩ = 0 := by simp [tkNum, h2, hl]; omega
      have hb : tkBytes ⟨4, c, o, b, false⟩ = [255, 250, b8 o] ++ dbl b ++ [255, 240] := by simp [tkBytes, hn, tkRaw]
      rw [hn, hb]
      have d : decide ((256 : Int) < (n : Int)) = false := by simp; omega
      have hw2 : IntKind.u8.wrap o = o := by rw [IntKind.wrap_u8]; omega
      have HC : Hid (#[Value.int .u8 255, Value.int .u8 250, Value.int .u8 o] = ([255, 250, b8 o].map B8).toArray) := by
        have := b8_int (z := o) (by omega) (by omega)
        simp only [List.map_cons, List.map_nil, B8, *]
        rfl
      have hO : Only (fun _ => False) w (w.alloc (.cells #[Value.int .u8 255, Value.int .u8 250, Value.int .u8 o] 5)) := (Only.refl _ w).alloc _
      have HD := Lib.hid (double_any (w := w.alloc (.cells #[Value.int .u8 255, Value.int .u8 250, Value.int .u8 o] 5)) (B := w.heap.size) (c := cap) hO.size (body_new w [255, 250, b8 o] 3 rfl _ HC.out (by omega)) rfl (hs.only hO (fun _ _ _ h => h)) (fun hm ad e => hs.lt hm ad e) (by omega))
      have hdl := (dbl_length b).2
      obtain ⟨L, hL⟩ : ∃ L, L = [255, 250, b8 o] ++ dbl b := ⟨_, rfl⟩
      rw [← hL] at HD ⊢
      have hLl : L.length ≤ 1048000 := by rw [hL]; simp only [List.length_append, List.length_cons, List.length_nil]; omega
      obtain ⟨N, hN⟩ : ∃ N, N = L.length := ⟨_, rfl⟩
      rw [← hN] at hLl
      have HN := Lib.hid hN
      clear hn hb hes h2 hs hl h3 hO hdl hL hN
      go_enter Tryz.func16, Tryz.ntmps16
      go_wp2_with (first
        | (go_at_call 37; refine (hq _).mono ?_; rintro e w' ⟨rfl, e2⟩; subst w')
        | (go_at_call 38; refine HD.out.mono ?_; rintro e w1 ⟨V, rfl, hb1, ho1⟩; obtain ⟨A1, c1, rfl, _⟩ := hb1.form; (rw [← HN.out] at hb1 ⊢); have HB1 := Lib.hid hb1; have HO1 := Lib.hid ho1; clear hb1 ho1)
        | (at_builtin; refine step_bytes rfl (.tmp 22) (.tmp 23) rfl w.heap.size _ _ _ L rfl (own_same HB1.out ((Only.refl _ w1).alloc _)) HN.out (some ⟨w1.heap.size, 0, none⟩) 2 2 [255, 240] rfl (src_new w1 [255, 240] _ _ _ 2 rfl rfl) (by omega) (by have := HO1.out.size; simp at this ⊢; omega) ?_; intro A2 c2 w2 hb2 ho2))
      go_ret2
      have e : (L ++ [255, 240]).length = N + 2 := by rw [HN.out]; simp
      refine ⟨A2, c2, _, by rw [e]; rfl, by rw [e]; exact hb2, ErrV.nil _, ?_⟩
      · exact ((((Only.refl (fun _ => False) w).alloc _).trans HO1.out (fun i hi => .inr hi)).alloc _).trans ho2.out (fun i hi => .inr hi)
  · rw [decide_eq_false h2] at hq
    have hn : tkNum ⟨4, c, o, b, false⟩ = 1 := by simp [tkNum, h2]
    have hb : tkBytes ⟨4, c, o, b, false⟩ = [] := by simp [tkBytes, hn]
    rw [hn, hb]
    obtain ⟨a, ha, hc⟩ := errRange_at hes
    unfold errV at hc
    clear hn hb hes h2 hs hl
    go_enter Tryz.func16, Tryz.ntmps16
    go_wp2_with (first
      | (go_at_call 37; refine (hq _).mono ?_; rintro e w' ⟨rfl, e2⟩; subst w'))
    go_quiet (fail)
    go_wp2
    go_ret2
    exact Told.none_ ha 1 rfl ((Only.refl _ _).drewN _)
end Go.Proofs.YtlmkpembccehkaaGreatDoor
/- The chapter's example; sizes and bodies that came in; NawsBack, walked. -/
namespace Go.Proofs.YtlmkpembccehkaaGreatDoor
open Go Go.ChangeShapes Go.WideShapes Go.ChangeAt Go.RowKit
set_option maxRecDepth 100000
set_option maxHeartbeats 4000000

theorem eq_sz (W : World) (a b c d : Int) : (Op.equalIn 10000 23 (.agg #[.int .i64 a, .int .i64 b]) (.agg #[.int .i64 c, .int .i64 d])).run Tryz.prog W = .ok (decide (a = c ∧ b = d)) W := by
  rw [show (10000 : Nat) = 9999 + 1 from rfl, run_equalIn_struct W 9999 _ _ _ (by kernel_rfl) (by kernel_rfl)]
  have u3 : Tryz.prog.underlying 3 = some (.int .i64) := Tryz.underlying3
  simp only [Program.fieldsOf, Tryz.underlying23, Op.eqFields]
  simp [go_sem, u3, Result.andThen]
  by_cases h1 : a = c <;> by_cases h2 : b = d <;> simp [h1, h2]
theorem same_sz (W : World) (a b : Int) : (Op.equalIn 10000 23 (.agg #[.int .i64 a, .int .i64 b]) (.agg #[.int .i64 a, .int .i64 b])).run Tryz.prog W = .ok true W := by
  rw [eq_sz]
  simp
theorem guard_sz : Tryz.prog.eqGuardType Tryz.prog.depth 23 = false := by kernel_rfl
theorem less_comm (a b : Int) : less a b = less b a := by
  unfold less
  repeat' split
  all_goals omega
theorem less_self {a : Int} (h : fitsN a = true) : less a a = a := by
  rw [fitsN_iff] at h
  unfold less
  repeat' split
  all_goals omega
theorem less_zero {a : Int} (h : fitsN a = true) : less a 0 = a := by
  rw [fitsN_iff] at h
  unfold less
  repeat' split
  all_goals omega
theorem two_of {n : Int} (h : fitsN n = true) : two (UInt8.ofNat (n / 256).toNat) (UInt8.ofNat (n % 256).toNat) = n := by
  rw [fitsN_iff] at h
  unfold two
  rw [b8_of (by omega) (by omega), b8_of (by omega) (by omega)]
  omega
theorem two_fits (a b : UInt8) : fitsN (two a b) = true := by
  have := a.toNat_lt
  have := b.toNat_lt
  rw [fitsN_iff]
  unfold two
  omega
theorem bodyOf_two (a b c d : UInt8) : bodyOf (two a b) (two c d) = [a, b, c, d] := by
  have ha := a.toNat_lt
  have hb := b.toNat_lt
  have hc := c.toNat_lt
  have hd := d.toNat_lt
  have k : ∀ x y : UInt8, UInt8.ofNat (two x y / 256).toNat = x ∧ UInt8.ofNat (two x y % 256).toNat = y := fun x y => by
    have hx := x.toNat_lt
    have hy := y.toNat_lt
    unfold two
    rw [show ((256 * (x.toNat : Int) + (y.toNat : Int)) / 256).toNat = x.toNat from by omega, show ((256 * (x.toNat : Int) + (y.toNat : Int)) % 256).toNat = y.toNat from by omega]
    exact ⟨UInt8.ofNat_toNat, UInt8.ofNat_toNat⟩
  unfold bodyOf
  rw [(k a b).1, (k a b).2, (k c d).1, (k c d).2]
end Go.Proofs.YtlmkpembccehkaaGreatDoor
