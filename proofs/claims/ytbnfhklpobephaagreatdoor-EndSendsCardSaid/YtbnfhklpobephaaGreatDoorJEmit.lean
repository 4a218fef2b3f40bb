/- Several texts in one. -/
import Derived.Test.YtbnfhklpobephaaGreatDoorJIacSay
import Derived.Test.YtbnfhklpobephaaGreatDoorJTk
import Derived.BigQuiet
import Derived.Test.YtbnfhklpobephaaGreatDoorJTbSay
import Derived.Test.YtbnfhklpobephaaGreatDoorJTbRefSay
import Derived.Test.YtbnfhklpobephaaGreatDoorJSnList
import Derived.Test.YtbnfhklpobephaaGreatDoorJSnTurned
import Derived.Test.YtbnfhklpobephaaGreatDoorSnTurn
/- Package emit: one contract for each of its calls. -/
namespace Go.Proofs.YtbnfhklpobephaaGreatDoor
open Go Go.RowKit
set_option maxRecDepth 100000
set_option maxHeartbeats 4000000

/-- Where double stands. -/
structure DAt (w : World) (B : Nat) (ys xs : List UInt8) (W : World) (k : Nat) (V : Value) (n : Nat) : Prop where
  len : n = (xs ++ dbl (ys.take k)).length
  row : Body W B V (xs ++ dbl (ys.take k))
  only : Only (fun i => B ≤ i) w W

theorem double_any {w : World} {B : Nat} (hB : B ≤ w.heap.size) {VA : Option Addr} {n vc : Nat} {xs : List UInt8} (hrow : Body w B (.slice VA n vc) xs) (hn : n = xs.length)
    {A : Option Addr} {m c : Nat} {ys : List UInt8} (hs : Src w A m ys) (hold : 0 < m → ∀ ad, A = some ad → ad.block < B) (hbd : n + 2 * m ≤ 1048576) :
    Calls Tryz.prog 125 #[.slice VA n vc, .slice A m c] w fun e w' => ∃ V, e = .returned V ∧ Body w' B V (xs ++ dbl ys) ∧ Only (fun i => B ≤ i) w w' := by
  have HS := Lib.hid hs
  have HO := Lib.hid hold
  have H0 : Hid (DAt w B ys xs w 0 (.slice VA n vc) n) := ⟨by simp [dbl, hn], by simpa [dbl] using hrow, Only.refl _ _⟩
  have HN := Lib.hid hn
  clear hs hold hrow hn
  go_enter Tryz.func125, Tryz.ntmps125
  go_wp2
  go_loopw [0, 9] (fun v i W => ∃ (k : Nat) (A' : Option Addr) (n' c' : Nat), k ≤ m ∧ i = .int .i64 (k : Int) ∧ v = .slice A' n' c' ∧ Hid (DAt w B ys xs W k (.slice A' n' c') n')) (fun _ i _ => m - (intOf i).toNat)
  case atStart => exact ⟨0, _, _, _, Nat.zero_le _, rfl, rfl, H0.out⟩
  case round =>
    clear H0
    obtain ⟨k, A', n', c', hk, rfl, rfl, HD⟩ := hrel
    by_cases hlt : k < m
    · obtain ⟨x, hx⟩ : ∃ x, ys[k]? = some x := ⟨_, List.getElem?_eq_getElem (by rw [HS.out.1]; exact hlt)⟩
      have hsW := HS.out.only HD.out.only (fun h0 ad e hb => by have := HO.out h0 ad e; omega)
      obtain ⟨ad, rfl, hcell⟩ := hsW.2 (by omega)
      have c0 := hcell k x hx
      unfold B8 at c0
      have hkk : (ys.take k).length = k := by rw [List.length_take, HS.out.1]; omega
      have hb' : n' + 2 ≤ 1048576 := by
        have h1 := HD.out.len
        have h2 := (dbl_length (ys.take k)).2
        rw [List.length_append] at h1
        have := HN.out
        omega
      have hBW : B ≤ wr.heap.size := Nat.le_trans hB HD.out.only.size
      have HT := Lib.hid (take_snoc hx)
      obtain ⟨z, hz⟩ : ∃ z : Int, z = (x.toNat : Int) := ⟨_, rfl⟩
      rw [← hz] at c0
      have HZ : Hid (#[Value.int .u8 z] = ([x].map B8).toArray) := by rw [hz]; rfl
      by_cases h5 : x.toNat = 255
      · have d1 : (z == 255) = true := by rw [hz]; simp; omega
        have d2 : decide (z = 255) = true := by rw [hz]; simp; omega
        have H5 := Lib.hid h5
        clear hcell hsW hz hx hkk h5
        go_wp2_with (first
          | (at_builtin; refine step_bytes rfl (.tmp 15) (.tmp 17) rfl B _ _ _ (xs ++ dbl (ys.take k)) rfl (own_same HD.out.row ((Only.refl _ wr).alloc _)) HD.out.len (some ⟨wr.heap.size, 0, none⟩) 1 1 [x] rfl (src_new wr [x] _ _ _ 1 HZ.out rfl) (by omega) (by simp; omega) ?_; intro A1 c1 w1 hb1 ho1; have HO1 : Hid (Only (fun i => B ≤ i) w w1) := ((HD.out.only.alloc _).trans ho1.out (fun i hi => .inl hi)); clear ho1)
          | (at_builtin; refine step_bytes rfl (.tmp 19) (.tmp 21) rfl B _ _ _ (xs ++ dbl (ys.take k) ++ [x]) rfl (own_same hb1.out ((Only.refl _ w1).alloc _)) (by rw [HD.out.len]; exact (len_snoc _ _).symm) (some ⟨w1.heap.size, 0, none⟩) 1 1 [x] rfl (src_new w1 [x] _ _ _ 1 HZ.out rfl) (by omega) (by have := HO1.out.size; simp; omega) ?_; intro A2 c2 w2 hb2 ho2))
        go_roundw
        case rel =>
          refine ⟨k + 1, _, _, _, by omega, by go_num, rfl, ?_⟩
          have e : xs ++ dbl (ys.take (k + 1)) = xs ++ dbl (ys.take k) ++ [x] ++ [x] := by rw [HT.out, dbl_two _ _ H5.out]; simp only [List.append_assoc]
          refine ⟨?_, ?_, (HO1.out.alloc _).trans ho2.out (fun i hi => .inl hi)⟩
          · rw [e]
            have := HD.out.len
            simp only [List.length_append, List.length_singleton] at this ⊢
            omega
          · rw [e]
            exact hb2.out
        case measure => simp [intOf]; omega
      · have d1 : (z == 255) = false := by rw [hz]; simp; omega
        have d2 : decide (z = 255) = false := by rw [hz]; simp; omega
        have H5 := Lib.hid h5
        clear hcell hsW hz hx hkk h5
        go_wp2_with (first
          | (at_builtin; refine step_bytes rfl (.tmp 19) (.tmp 21) rfl B _ _ _ (xs ++ dbl (ys.take k)) rfl (own_same HD.out.row ((Only.refl _ wr).alloc _)) HD.out.len (some ⟨wr.heap.size, 0, none⟩) 1 1 [x] rfl (src_new wr [x] _ _ _ 1 HZ.out rfl) (by omega) (by simp; omega) ?_; intro A2 c2 w2 hb2 ho2))
        go_roundw
        case rel =>
          refine ⟨k + 1, _, _, _, by omega, by go_num, rfl, ?_⟩
          have e : xs ++ dbl (ys.take (k + 1)) = xs ++ dbl (ys.take k) ++ [x] := by rw [HT.out, dbl_one _ _ H5.out]; simp only [List.append_assoc]
          refine ⟨?_, ?_, (HD.out.only.alloc _).trans ho2.out (fun i hi => .inl hi)⟩
          · rw [e]
            have := HD.out.len
            simp only [List.length_append, List.length_singleton] at this ⊢
            omega
          · rw [e]
            exact hb2.out
        case measure => simp [intOf]; omega
    · go_wp2
      go_ret
      obtain rfl : k = m := by omega
      have h1 := HD.out.row
      rw [List.take_of_length_le (by rw [HS.out.1]; omega)] at h1
      exact ⟨_, rfl, h1, HD.out.only⟩

/-- Data. -/
theorem data_any {w : World} {A : Option Addr} {m c : Nat} {ys : List UInt8} (hs : Src w A m ys) (hbd : 2 * m ≤ 1048576) :
    Calls Tryz.prog 71 #[.slice A m c] w fun e w' => ∃ A' c', e = .returned (.slice A' (dbl ys).length c') ∧ Hid (Body w' w.heap.size (.slice A' (dbl ys).length c') (dbl ys)) ∧ Hid (Only (fun _ => False) w w') := by
  have C := Lib.hid (double_any (w := w) (B := w.heap.size) (c := c) (Nat.le_refl _) (VA := none) (n := 0) (vc := 0) (xs := []) (own_nil w _ _ _) rfl hs (fun hm ad e => hs.lt hm ad e) (by omega))
  go_enter Tryz.func71, Tryz.ntmps71
  go_wp2_with (go_at_call 125; refine C.out.mono ?_; rintro e w' ⟨V, rfl, hb, ho⟩)
  go_ret
  rw [List.nil_append] at hb
  obtain ⟨A', c', rfl, _⟩ := hb.form
  exact ⟨A', c', rfl, hb, (ho.mono (fun i hi => .inr hi))⟩
end Go.Proofs.YtbnfhklpobephaaGreatDoor
/- Package emit: a verb's bytes, where its numbers are a verb's. -/
namespace Go.Proofs.YtbnfhklpobephaaGreatDoor
open Go Go.RowKit
set_option maxRecDepth 100000
set_option maxHeartbeats 4000000

theorem isByte_any (W : World) (c : Int) : Calls Tryz.prog 167 #[.int .i64 c] W fun e w' => e = .returned (.bool (decide (0 ≤ c ∧ c ≤ 255))) ∧ w' = W := by
  by_cases h1 : c < 0
  · go_enter Tryz.func167, Tryz.ntmps167
    go_wp2
    go_ret
    refine ⟨congrArg (fun b => Ending.returned (Value.bool b)) ?_, rfl⟩
    first | (simp; done) | (simp; omega)
  · go_enter Tryz.func167, Tryz.ntmps167
    go_wp2
    go_ret
    refine ⟨congrArg (fun b => Ending.returned (Value.bool b)) ?_, rfl⟩
    first | (simp; done) | (simp; omega)
/-- Bytes that lie in one new block. -/
theorem body_new (w : World) (xs : List UInt8) (n : Nat) (hn : n = xs.length) (cs : Array Value) (hc : cs = (xs.map B8).toArray) (hb : n ≤ 1048576) : Body (w.alloc (.cells cs 5)) w.heap.size (.slice (some ⟨w.heap.size, 0, none⟩) n n) xs := by
  subst hn hc
  exact own_of_blk (Blk.new w 5 (xs.map B8)) (by simp) (by rw [Nat.mul_one, List.take_of_length_le (by simp)]) (Nat.le_refl _) (by omega) (Nat.le_refl _)

end Go.Proofs.YtbnfhklpobephaaGreatDoor
/- Package emit: a plain command's, a verb's, a subnegotiation's bytes. -/
namespace Go.Proofs.YtbnfhklpobephaaGreatDoor
open Go Go.RowKit
set_option maxRecDepth 100000
set_option maxHeartbeats 4000000

/-- What a call of package emit answers: bytes of its own and no error, or an error. -/
def Told (w w' : World) (es : List Addr) (e : Ending) (bs : List UInt8) (num : Nat) : Prop :=
  ∃ A c E, e = .returned (.tuple #[.slice A bs.length c, E]) ∧ Hid (Body w' w.heap.size (.slice A bs.length c) bs) ∧ ErrV es E num ∧ Hid (Only (fun _ => False) w w')
theorem Told.none_ {w w' : World} {es : List Addr} {i : Nat} {a : Addr} (h : es[i]? = some a) (k : Nat) (hk : k = i + 1) (ho : Only (fun _ => False) w w') : Told w w' es (.returned (.tuple #[.slice none 0 0, errV a])) [] k :=
  ⟨none, 0, _, rfl, own_nil w' _ _ _, ErrV.err h k hk, ho⟩
theorem errKind_at {w : World} {es : List Addr} (h : ErrsOf w [0, 3, 8] es) : ∃ a, es[8]? = some a ∧ w.cell? ⟨8, 0, none⟩ = some (errV a) := h.get 8 _ (by decide) rfl
theorem errRange_at {w : World} {es : List Addr} (h : ErrsOf w [0, 3, 8] es) : ∃ a, es[0]? = some a ∧ w.cell? ⟨0, 0, none⟩ = some (errV a) := h.get 0 _ (by decide) rfl
theorem errLong_at {w : World} {es : List Addr} (h : ErrsOf w [0, 3, 8] es) : ∃ a, es[3]? = some a ∧ w.cell? ⟨3, 0, none⟩ = some (errV a) := h.get 3 _ (by decide) rfl

theorem plain_any {w : World} {es : List Addr} (hes : ErrsOf w [0, 3, 8] es) (c o : Int) (b : List UInt8) (cut : Bool) :
    Calls Tryz.prog 73 #[.int .i64 c] w fun e w' => Told w w' es e (tkBytes ⟨2, c, o, b, cut⟩) (tkNum ⟨2, c, o, b, cut⟩) := by
  have hp := fun W => cplain_any W c
  by_cases h : 241 ≤ c ∧ c ≤ 249
  · have hn : tkNum ⟨2, c, o, b, cut⟩ = 0 := by simp [tkNum, h]
    have hb : tkBytes ⟨2, c, o, b, cut⟩ = [255, b8 c] := by simp [tkBytes, hn, tkRaw]
    rw [hn, hb]
    have hw : IntKind.u8.wrap c = c := by rw [IntKind.wrap_u8]; omega
    rw [decide_eq_true h] at hp
    have HC : Hid (#[Value.int .u8 255, Value.int .u8 c] = ([255, b8 c].map B8).toArray) := by
      have := b8_int (z := c) (by omega) (by omega)
      simp only [List.map_cons, List.map_nil, B8, this]
      rfl
    clear hn hb h hes
    go_enter Tryz.func73, Tryz.ntmps73
    go_wp2_with (go_at_call 127; refine (hp _).mono ?_; rintro e w' ⟨rfl, e2⟩; subst w')
    go_ret2
    exact ⟨_, _, _, rfl, body_new _ _ 2 rfl _ HC.out (by omega), ErrV.nil _, (Only.refl _ _).alloc _⟩
  · have hn : tkNum ⟨2, c, o, b, cut⟩ = 9 := by simp [tkNum, h]
    have hb : tkBytes ⟨2, c, o, b, cut⟩ = [] := by simp [tkBytes, hn]
    rw [hn, hb]
    rw [decide_eq_false h] at hp
    obtain ⟨a, ha, hc⟩ := errKind_at hes
    unfold errV at hc
    clear hn hb h hes
    go_enter Tryz.func73, Tryz.ntmps73
    go_wp2_with (go_at_call 127; refine (hp _).mono ?_; rintro e w' ⟨rfl, e2⟩; subst w')
    go_quiet (fail)
    go_wp2
    go_ret2
    exact Told.none_ ha 9 rfl ((Only.refl _ _).drewN _)

theorem verb3_any {w : World} {es : List Addr} (hes : ErrsOf w [0, 3, 8] es) (c o : Int) (b : List UInt8) (cut : Bool) :
    Calls Tryz.prog 121 #[.int .i64 c, .int .i64 o] w fun e w' => Told w w' es e (tkBytes ⟨3, c, o, b, cut⟩) (tkNum ⟨3, c, o, b, cut⟩) := by
  have hp := fun W => verb_any W c
  have hq := fun W => isByte_any W o
  by_cases h : 251 ≤ c ∧ c ≤ 254
  · rw [decide_eq_true h] at hp
    by_cases h2 : 0 ≤ o ∧ o ≤ 255
    · rw [decide_eq_true h2] at hq
      have hn : tkNum ⟨3, c, o, b, cut⟩ = 0 := by simp [tkNum, h, h2]
      have hb : tkBytes ⟨3, c, o, b, cut⟩ = [255, b8 c, b8 o] := by simp [tkBytes, hn, tkRaw]
      rw [hn, hb]
      have hw : IntKind.u8.wrap c = c := by rw [IntKind.wrap_u8]; omega
      have hw2 : IntKind.u8.wrap o = o := by rw [IntKind.wrap_u8]; omega
      have HC : Hid (#[Value.int .u8 255, Value.int .u8 c, Value.int .u8 o] = ([255, b8 c, b8 o].map B8).toArray) := by
        have := b8_int (z := c) (by omega) (by omega)
        have := b8_int (z := o) (by omega) (by omega)
        simp only [List.map_cons, List.map_nil, B8, *]
        rfl
      clear hn hb h hes h2
      go_enter Tryz.func121, Tryz.ntmps121
      go_wp2_with (first
        | (go_at_call 158; refine (hp _).mono ?_; rintro e w' ⟨rfl, e2⟩; subst w')
        | (go_at_call 167; refine (hq _).mono ?_; rintro e w' ⟨rfl, e2⟩; subst w'))
      go_ret2
      exact ⟨_, _, _, rfl, body_new _ _ 3 rfl _ HC.out (by omega), ErrV.nil _, (Only.refl _ _).alloc _⟩
    · rw [decide_eq_false h2] at hq
      have hn : tkNum ⟨3, c, o, b, cut⟩ = 1 := by simp [tkNum, h, h2]
      have hb : tkBytes ⟨3, c, o, b, cut⟩ = [] := by simp [tkBytes, hn]
      rw [hn, hb]
      obtain ⟨a, ha, hc⟩ := errRange_at hes
      unfold errV at hc
      clear hn hb h hes h2
      go_enter Tryz.func121, Tryz.ntmps121
      go_wp2_with (first
        | (go_at_call 158; refine (hp _).mono ?_; rintro e w' ⟨rfl, e2⟩; subst w')
        | (go_at_call 167; refine (hq _).mono ?_; rintro e w' ⟨rfl, e2⟩; subst w'))
      go_quiet (fail)
      go_wp2
      go_ret2
      exact Told.none_ ha 1 rfl ((Only.refl _ _).drewN _)
  · have hn : tkNum ⟨3, c, o, b, cut⟩ = 9 := by simp [tkNum, h]
    have hb : tkBytes ⟨3, c, o, b, cut⟩ = [] := by simp [tkBytes, hn]
    rw [hn, hb]
    rw [decide_eq_false h] at hp
    obtain ⟨a, ha, hc⟩ := errKind_at hes
    unfold errV at hc
    clear hn hb h hes hq
    go_enter Tryz.func121, Tryz.ntmps121
    go_wp2_with (first
      | (go_at_call 158; refine (hp _).mono ?_; rintro e w' ⟨rfl, e2⟩; subst w'))
    go_quiet (fail)
    go_wp2
    go_ret2
    exact Told.none_ ha 9 rfl ((Only.refl _ _).drewN _)

theorem esub_any {w : World} {es : List Addr} (hes : ErrsOf w [0, 3, 8] es) (c o : Int) {A : Option Addr} {n cap : Nat} {b : List UInt8} (hs : Src w A n b) :
    Calls Tryz.prog 124 #[.int .i64 o, .slice A n cap] w fun e w' => Told w w' es e (tkBytes ⟨4, c, o, b, false⟩) (tkNum ⟨4, c, o, b, false⟩) := by
  have hq := fun W => isByte_any W o
  have hl := hs.1
  by_cases h2 : 0 ≤ o ∧ o ≤ 255
  · rw [decide_eq_true h2] at hq
    by_cases h3 : 256 < n
    · have hn : tkNum ⟨4, c, o, b, false⟩ = 4 := by simp [tkNum, h2, hl, h3]
      have hb : tkBytes ⟨4, c, o, b, false⟩ = [] := by simp [tkBytes, hn]
      rw [hn, hb]
      have d : decide ((256 : Int) < (n : Int)) = true := by simp; omega
      obtain ⟨a, ha, hc⟩ := errLong_at hes
      unfold errV at hc
      clear hn hb hes h2 hs hl h3
      go_enter Tryz.func124, Tryz.ntmps124
      go_wp2_with (first
        | (go_at_call 167; refine (hq _).mono ?_; rintro e w' ⟨rfl, e2⟩; subst w'))
      go_quiet (fail)
      go_wp2
      go_ret2
      exact Told.none_ ha 4 rfl ((Only.refl _ _).drewN _)
    · have hn : tkNum ⟨4, c, o, b, false⟩ = 0 := by simp [tkNum, h2, hl]; omega
      have hb : tkBytes ⟨4, c, o, b, false⟩ = [255, 250, b8 o] ++ dbl b ++ [255, 240] := by simp [tkBytes, hn, tkRaw]
      rw [hn, hb]
      have d : decide ((256 : Int) < (n : Int)) = false := by simp; omega
      have hw2 : IntKind.u8.wrap o = o := by rw [IntKind.wrap_u8]; omega
      have HC : Hid (#[Value.int .u8 255, Value.int .u8 250, Value.int .u8 o] = ([255, 250, b8 o].map B8).toArray) := by
        have := b8_int (z := o) (by omega) (by omega)
        simp only [List.map_cons, List.map_nil, B8, *]
        rfl
      have hO : Only (fun _ => False) w (w.alloc (.cells #[Value.int .u8 255, Value.int .u8 250, Value.int .u8 o] 5)) := (Only.refl _ w).alloc _
      have HD := Lib.hid (double_any (w := w.alloc (.cells #[Value.int .u8 255, Value.int .u8 250, Value.int .u8 o] 5)) (B := w.heap.size) (c := cap) hO.size (body_new w [255, 250, b8 o] 3 rfl _ HC.out (by omega)) rfl (hs.only hO (fun _ _ _ h => h)) (fun hm ad e => hs.lt hm ad e) (by omega))
      have hdl := (dbl_length b).2
      obtain ⟨L, hL⟩ : ∃ L, L = [255, 250, b8 o] ++ dbl b := ⟨_, rfl⟩
      rw [← hL] at HD ⊢
      have hLl : L.length ≤ 1048000 := by rw [hL]; simp only [List.length_append, List.length_cons, List.length_nil]; omega
      obtain ⟨N, hN⟩ : ∃ N, N = L.length := ⟨_, rfl⟩
      rw [← hN] at hLl
      have HN := Lib.hid hN
      clear hn hb hes h2 hs hl h3 hO hdl hL hN
      go_enter Tryz.func124, Tryz.ntmps124
      go_wp2_with (first
        | (go_at_call 167; refine (hq _).mono ?_; rintro e w' ⟨rfl, e2⟩; subst w')
        | (go_at_call 125; refine HD.out.mono ?_; rintro e w1 ⟨V, rfl, hb1, ho1⟩; obtain ⟨A1, c1, rfl, _⟩ := hb1.form; (rw [← HN.out] at hb1 ⊢); have HB1 := Lib.hid hb1; have HO1 := Lib.hid ho1; clear hb1 ho1)
        | (at_builtin; refine step_bytes rfl (.tmp 22) (.tmp 23) rfl w.heap.size _ _ _ L rfl (own_same HB1.out ((Only.refl _ w1).alloc _)) HN.out (some ⟨w1.heap.size, 0, none⟩) 2 2 [255, 240] rfl (src_new w1 [255, 240] _ _ _ 2 rfl rfl) (by omega) (by have := HO1.out.size; simp at this ⊢; omega) ?_; intro A2 c2 w2 hb2 ho2))
      go_ret2
      have e : (L ++ [255, 240]).length = N + 2 := by rw [HN.out]; simp
      refine ⟨A2, c2, _, by rw [e]; rfl, by rw [e]; exact hb2, ErrV.nil _, ?_⟩
      · exact ((((Only.refl (fun _ => False) w).alloc _).trans HO1.out (fun i hi => .inr hi)).alloc _).trans ho2.out (fun i hi => .inr hi)
  · rw [decide_eq_false h2] at hq
    have hn : tkNum ⟨4, c, o, b, false⟩ = 1 := by simp [tkNum, h2]
    have hb : tkBytes ⟨4, c, o, b, false⟩ = [] := by simp [tkBytes, hn]
    rw [hn, hb]
    obtain ⟨a, ha, hc⟩ := errRange_at hes
    unfold errV at hc
    clear hn hb hes h2 hs hl
    go_enter Tryz.func124, Tryz.ntmps124
    go_wp2_with (first
      | (go_at_call 167; refine (hq _).mono ?_; rintro e w' ⟨rfl, e2⟩; subst w'))
    go_quiet (fail)
    go_wp2
    go_ret2
    exact Told.none_ ha 1 rfl ((Only.refl _ _).drewN _)
end Go.Proofs.YtbnfhklpobephaaGreatDoor
/- What a hub tells when an option turns, whatever side and option. -/
namespace Go.Proofs.YtbnfhklpobephaaGreatDoor
open Go Go.RowKit
set_option maxRecDepth 100000
set_option maxHeartbeats 4000000

theorem fnd_none {p : Addr} {s o : Int} (h : ∀ k, k < 6 → ¬ (s = plS k ∧ o = plO k)) : ∀ {D : List Nat} (j : Nat), (∀ k ∈ D, k < 6) → fndD p s o D j = none
  | [], _, _ => rfl
  | k :: D, j, hD => by
    unfold fndD
    rw [if_neg (h k (hD k List.mem_cons_self))]
    exact fnd_none h (j + 1) (fun x hx => hD x (List.mem_cons_of_mem _ hx))
theorem look_noplace {w : World} {M : Nat} {p : Addr} {s o : Int} (hn : ∀ k, k < 6 → ¬ (s = plS k ∧ o = plO k)) (h : FullAt w M p) : (Instr.lookup 323 (.map (some M)) (pk s o) true).run Tryz.prog w = .ok (.tuple #[.nilFunc, .bool false]) w := by
  obtain ⟨es, c, D, h1, h2, h3, h4⟩ := h
  refine run_look_none Tryz.underlying323 h1 (fun e => chk_place _ _ _ e) ?_ (by kernel_rfl)
  rw [find_place w _ _ h2, fnd_none hn 0 h3]
section
variable {w : World} {es : List Addr} {p mo : Nat} {tp : TypeId} {pre post : List Value} {G : Nat → Prop} {h : Hb} {H : Hs}
theorem TAns.from_ {W w' : World} {o : Int} {r : Option (List UInt8) × Hs} {v : Value} (h1 : TAns W p mo tp pre post G o r v w') (ho : Only (fun _ => False) w W) : TAns w p mo tp pre post G o r v w' := Ans.from_ h1 ho
theorem turned_0 (hE : ErrsAt w es) (h18 : 18 ≤ p) (k : HsAt w p mo tp pre post G h H) (on : Bool) : Calls Tryz.prog 122 #[.pointer (some ⟨p, mo, none⟩), .int .i64 0, .int .i64 31, .bool on] w fun e w' => ∃ v, e = .returned v ∧ Hid (TAns w p mo tp pre post G 31 (H.turned 0 31 on) v w') := by
  have HF : Hid (∀ W, Only (fun _ => False) w W → TurnsF 196 W p mo tp pre post G 31 on (H.turned 0 31 on)) := fun W ho => hsOurSize (k.same ho) on
  have HM := Lib.hid (fun W => turnings_any W ⟨p, mo, none⟩)
  have HL : Hid (∀ W M, FullAt W M ⟨p, mo, none⟩ → (Instr.lookup 323 (.map (some M)) (.agg #[.int .i64 0, .int .i64 31]) true).run Tryz.prog W = .ok (.tuple #[.func (.func 196) #[.pointer (some ⟨p, mo, none⟩)] #[], .bool true]) W) := fun W M hM => look_place (i := 0) (by omega) hM
  generalize H.turned 0 31 on = r at *
  clear k hE h18
  go_enter Tryz.func122, Tryz.ntmps122
  go_wp2_with (first
    | (go_at_call 168; (with_reducible refine (HM.out _).mono ?_); rintro e w1 ⟨rfl, hm1, ho1⟩; have hlk := HL.out w1 _ hm1.out)
    | (go_at_call 196; (with_reducible refine (HF.out _ ho1.out).mono ?_); rintro e w2 ⟨v, rfl, h1⟩))
  go_ret
  exact ⟨v, rfl, TAns.from_ h1.out ho1.out⟩
theorem turned_1 (hE : ErrsAt w es) (h18 : 18 ≤ p) (k : HsAt w p mo tp pre post G h H) (on : Bool) : Calls Tryz.prog 122 #[.pointer (some ⟨p, mo, none⟩), .int .i64 0, .int .i64 24, .bool on] w fun e w' => ∃ v, e = .returned v ∧ Hid (TAns w p mo tp pre post G 24 (H.turned 0 24 on) v w') := by
  have HF : Hid (∀ W, Only (fun _ => False) w W → TurnsF 197 W p mo tp pre post G 24 on (H.turned 0 24 on)) := fun W ho => hsOurTypes (k.same ho) on
  have HM := Lib.hid (fun W => turnings_any W ⟨p, mo, none⟩)
  have HL : Hid (∀ W M, FullAt W M ⟨p, mo, none⟩ → (Instr.lookup 323 (.map (some M)) (.agg #[.int .i64 0, .int .i64 24]) true).run Tryz.prog W = .ok (.tuple #[.func (.func 197) #[.pointer (some ⟨p, mo, none⟩)] #[], .bool true]) W) := fun W M hM => look_place (i := 1) (by omega) hM
  generalize H.turned 0 24 on = r at *
  clear k hE h18
  go_enter Tryz.func122, Tryz.ntmps122
  go_wp2_with (first
    | (go_at_call 168; (with_reducible refine (HM.out _).mono ?_); rintro e w1 ⟨rfl, hm1, ho1⟩; have hlk := HL.out w1 _ hm1.out)
    | (go_at_call 197; (with_reducible refine (HF.out _ ho1.out).mono ?_); rintro e w2 ⟨v, rfl, h1⟩))
  go_ret
  exact ⟨v, rfl, TAns.from_ h1.out ho1.out⟩
theorem turned_2 (hE : ErrsAt w es) (h18 : 18 ≤ p) (k : HsAt w p mo tp pre post G h H) (on : Bool) : Calls Tryz.prog 122 #[.pointer (some ⟨p, mo, none⟩), .int .i64 0, .int .i64 34, .bool on] w fun e w' => ∃ v, e = .returned v ∧ Hid (TAns w p mo tp pre post G 34 (H.turned 0 34 on) v w') := by
  have HF : Hid (∀ W, Only (fun _ => False) w W → TurnsF 198 W p mo tp pre post G 34 on (H.turned 0 34 on)) := fun W ho => hsOurLines (hE.only ho) h18 (k.same ho) on
  have HM := Lib.hid (fun W => turnings_any W ⟨p, mo, none⟩)
  have HL : Hid (∀ W M, FullAt W M ⟨p, mo, none⟩ → (Instr.lookup 323 (.map (some M)) (.agg #[.int .i64 0, .int .i64 34]) true).run Tryz.prog W = .ok (.tuple #[.func (.func 198) #[.pointer (some ⟨p, mo, none⟩)] #[], .bool true]) W) := fun W M hM => look_place (i := 2) (by omega) hM
  generalize H.turned 0 34 on = r at *
  clear k hE h18
  go_enter Tryz.func122, Tryz.ntmps122
  go_wp2_with (first
    | (go_at_call 168; (with_reducible refine (HM.out _).mono ?_); rintro e w1 ⟨rfl, hm1, ho1⟩; have hlk := HL.out w1 _ hm1.out)
    | (go_at_call 198; (with_reducible refine (HF.out _ ho1.out).mono ?_); rintro e w2 ⟨v, rfl, h1⟩))
  go_ret
  exact ⟨v, rfl, TAns.from_ h1.out ho1.out⟩
theorem turned_3 (hE : ErrsAt w es) (h18 : 18 ≤ p) (k : HsAt w p mo tp pre post G h H) (on : Bool) : Calls Tryz.prog 122 #[.pointer (some ⟨p, mo, none⟩), .int .i64 1, .int .i64 31, .bool on] w fun e w' => ∃ v, e = .returned v ∧ Hid (TAns w p mo tp pre post G 31 (H.turned 1 31 on) v w') := by
  have HF : Hid (∀ W, Only (fun _ => False) w W → TurnsF 199 W p mo tp pre post G 31 on (H.turned 1 31 on)) := fun W ho => hsHisSize (k.same ho) on
  have HM := Lib.hid (fun W => turnings_any W ⟨p, mo, none⟩)
  have HL : Hid (∀ W M, FullAt W M ⟨p, mo, none⟩ → (Instr.lookup 323 (.map (some M)) (.agg #[.int .i64 1, .int .i64 31]) true).run Tryz.prog W = .ok (.tuple #[.func (.func 199) #[.pointer (some ⟨p, mo, none⟩)] #[], .bool true]) W) := fun W M hM => look_place (i := 3) (by omega) hM
  generalize H.turned 1 31 on = r at *
  clear k hE h18
  go_enter Tryz.func122, Tryz.ntmps122
  go_wp2_with (first
    | (go_at_call 168; (with_reducible refine (HM.out _).mono ?_); rintro e w1 ⟨rfl, hm1, ho1⟩; have hlk := HL.out w1 _ hm1.out)
    | (go_at_call 199; (with_reducible refine (HF.out _ ho1.out).mono ?_); rintro e w2 ⟨v, rfl, h1⟩))
  go_ret
  exact ⟨v, rfl, TAns.from_ h1.out ho1.out⟩
theorem turned_4 (hE : ErrsAt w es) (h18 : 18 ≤ p) (k : HsAt w p mo tp pre post G h H) (on : Bool) : Calls Tryz.prog 122 #[.pointer (some ⟨p, mo, none⟩), .int .i64 1, .int .i64 24, .bool on] w fun e w' => ∃ v, e = .returned v ∧ Hid (TAns w p mo tp pre post G 24 (H.turned 1 24 on) v w') := by
  have HF : Hid (∀ W, Only (fun _ => False) w W → TurnsF 200 W p mo tp pre post G 24 on (H.turned 1 24 on)) := fun W ho => hsHisTypes (k.same ho) on
  have HM := Lib.hid (fun W => turnings_any W ⟨p, mo, none⟩)
  have HL : Hid (∀ W M, FullAt W M ⟨p, mo, none⟩ → (Instr.lookup 323 (.map (some M)) (.agg #[.int .i64 1, .int .i64 24]) true).run Tryz.prog W = .ok (.tuple #[.func (.func 200) #[.pointer (some ⟨p, mo, none⟩)] #[], .bool true]) W) := fun W M hM => look_place (i := 4) (by omega) hM
  generalize H.turned 1 24 on = r at *
  clear k hE h18
  go_enter Tryz.func122, Tryz.ntmps122
  go_wp2_with (first
    | (go_at_call 168; (with_reducible refine (HM.out _).mono ?_); rintro e w1 ⟨rfl, hm1, ho1⟩; have hlk := HL.out w1 _ hm1.out)
    | (go_at_call 200; (with_reducible refine (HF.out _ ho1.out).mono ?_); rintro e w2 ⟨v, rfl, h1⟩))
  go_ret
  exact ⟨v, rfl, TAns.from_ h1.out ho1.out⟩
theorem turned_5 (hE : ErrsAt w es) (h18 : 18 ≤ p) (k : HsAt w p mo tp pre post G h H) (on : Bool) : Calls Tryz.prog 122 #[.pointer (some ⟨p, mo, none⟩), .int .i64 1, .int .i64 34, .bool on] w fun e w' => ∃ v, e = .returned v ∧ Hid (TAns w p mo tp pre post G 34 (H.turned 1 34 on) v w') := by
  have HF : Hid (∀ W, Only (fun _ => False) w W → TurnsF 201 W p mo tp pre post G 34 on (H.turned 1 34 on)) := fun W ho => hsHisLines (k.same ho) on
  have HM := Lib.hid (fun W => turnings_any W ⟨p, mo, none⟩)
  have HL : Hid (∀ W M, FullAt W M ⟨p, mo, none⟩ → (Instr.lookup 323 (.map (some M)) (.agg #[.int .i64 1, .int .i64 34]) true).run Tryz.prog W = .ok (.tuple #[.func (.func 201) #[.pointer (some ⟨p, mo, none⟩)] #[], .bool true]) W) := fun W M hM => look_place (i := 5) (by omega) hM
  generalize H.turned 1 34 on = r at *
  clear k hE h18
  go_enter Tryz.func122, Tryz.ntmps122
  go_wp2_with (first
    | (go_at_call 168; (with_reducible refine (HM.out _).mono ?_); rintro e w1 ⟨rfl, hm1, ho1⟩; have hlk := HL.out w1 _ hm1.out)
    | (go_at_call 201; (with_reducible refine (HF.out _ ho1.out).mono ?_); rintro e w2 ⟨v, rfl, h1⟩))
  go_ret
  exact ⟨v, rfl, TAns.from_ h1.out ho1.out⟩
theorem turned_not (k : HsAt w p mo tp pre post G h H) {s o : Int} (hn : ∀ k, k < 6 → ¬ (s = plS k ∧ o = plO k)) (on : Bool) : Calls Tryz.prog 122 #[.pointer (some ⟨p, mo, none⟩), .int .i64 s, .int .i64 o, .bool on] w fun e w' => ∃ v, e = .returned v ∧ Hid (TAns w p mo tp pre post G o (none, H) v w') := by
  have HM := Lib.hid (fun W => turnings_any W ⟨p, mo, none⟩)
  have HL := Lib.hid (fun W M (hM : FullAt W M ⟨p, mo, none⟩) => look_noplace hn hM)
  have HK := Lib.hid k
  clear k hn
  go_enter Tryz.func122, Tryz.ntmps122
  go_wp2_with (go_at_call 168; (with_reducible refine (HM.out _).mono ?_); rintro e w1 ⟨rfl, hm1, ho1⟩; have hlk := HL.out w1 _ hm1.out)
  go_ret
  exact ⟨_, rfl, TAns.none (HK.out.same ho1.out) (ho1.out.mono (fun _ h => h.elim))⟩
theorem hsTurned (hE : ErrsAt w es) (h18 : 18 ≤ p) (k : HsAt w p mo tp pre post G h H) (s o : Int) (on : Bool) : Calls Tryz.prog 122 #[.pointer (some ⟨p, mo, none⟩), .int .i64 s, .int .i64 o, .bool on] w fun e w' => ∃ v, e = .returned v ∧ Hid (TAns w p mo tp pre post G o (H.turned s o on) v w') := by
  by_cases h0 : s = 0 ∧ o = 31
  · obtain ⟨rfl, rfl⟩ := h0
    exact turned_0 hE h18 k on
  by_cases h1 : s = 0 ∧ o = 24
  · obtain ⟨rfl, rfl⟩ := h1
    exact turned_1 hE h18 k on
  by_cases h2 : s = 0 ∧ o = 34
  · obtain ⟨rfl, rfl⟩ := h2
    exact turned_2 hE h18 k on
  by_cases h3 : s = 1 ∧ o = 31
  · obtain ⟨rfl, rfl⟩ := h3
    exact turned_3 hE h18 k on
  by_cases h4 : s = 1 ∧ o = 24
  · obtain ⟨rfl, rfl⟩ := h4
    exact turned_4 hE h18 k on
  by_cases h5 : s = 1 ∧ o = 34
  · obtain ⟨rfl, rfl⟩ := h5
    exact turned_5 hE h18 k on
  have e : H.turned s o on = (none, H) := by
    unfold Hs.turned
    rw [if_neg h0, if_neg h1, if_neg h2, if_neg h3, if_neg h4, if_neg h5]
  rw [e]
  refine turned_not k (fun k hk => ?_) on
  rcases k with _ | _ | _ | _ | _ | _ | k
  · exact h0
  · exact h1
  · exact h2
  · exact h3
  · exact h4
  · exact h5
  · omega
end
end Go.Proofs.YtbnfhklpobephaaGreatDoor
/- An end lets a verb be sent; what a hub tells; an option has turned. -/
namespace Go.Proofs.YtbnfhklpobephaaGreatDoor
open Go Go.RowKit
set_option maxRecDepth 100000
set_option maxHeartbeats 4000000

/-- The last four cells are others. -/
theorem EeAt.ofTl {w w' : World} {p mo : Nat} {tp : TypeId} {pre post : List Value} {M R : Nat → Prop} {ag : Nat → Nat → Bool} {E E' : Ee} {ccs tcs : List Value} {h : Hb} {A : Option Addr} {n c : Nat} {xs : List Pc}
    (k : EeAt w p mo tp pre post M R ag E ccs tcs h A n c xs) (ho : Only (· = p) w w') (e1 : E'.k = E.k) (e2 : E'.T = E.T) (e3 : E'.H = E.H) (e4 : E'.out = E.out)
    (hI : InB w' p tp (pre ++ (ccs ++ (tcs ++ h.cs))) post (mo + 1947) (enTail (.slice A n c) E')) : EeAt w' p mo tp pre post M R ag E' ccs tcs h A n c xs := by
  obtain ⟨b1, b2, b3, b4, b5⟩ := k.body ho
  exact ⟨⟨by have := hI.blk; simpa only [enCs, List.append_assoc] using this, k.blk.len⟩, by rw [e1]; exact k.cl, by rw [e2]; exact k.tb, k.ok, by rw [e3]; exact b1, b2, k.len, by rw [e4]; exact k.out, b3, k.own, k.m18, k.mp, b4, b5, k.dis, k.tpu, k.tpt⟩
section
variable {B : Nat} {w : World} {es : List Addr} {p mo : Nat} {tp : TypeId} {pre post : List Value} {M R : Nat → Prop} {ag : Nat → Nat → Bool} {E : Ee}
/-- A count is one more. -/
theorem IsEe.setSent (k : IsEe w p mo tp pre post M R ag E) (n : Nat) : IsEe (w.setCell ⟨p, mo + 1950, none⟩ (.int .i64 (n : Int))) p mo tp pre post M R ag { E with sent := n } := by
  obtain ⟨a1, a2, a3, a4, a5, a6, a7, k⟩ := k
  exact ⟨a1, a2, a3, a4, a5, a6, a7, k.ofTl ((Only.refl (· = p) w).setCell (p := ⟨p, mo + 1950, none⟩) (.inl rfl) _) rfl rfl rfl rfl (k.tlIn.setCell (i := 3) (by simp) _)⟩
theorem IsEe.setHeard (k : IsEe w p mo tp pre post M R ag E) (n : Nat) : IsEe (w.setCell ⟨p, mo + 1948, none⟩ (.int .i64 (n : Int))) p mo tp pre post M R ag { E with heard := n } := by
  obtain ⟨a1, a2, a3, a4, a5, a6, a7, k⟩ := k
  exact ⟨a1, a2, a3, a4, a5, a6, a7, k.ofTl ((Only.refl (· = p) w).setCell (p := ⟨p, mo + 1948, none⟩) (.inl rfl) _) rfl rfl rfl rfl (k.tlIn.setCell (i := 1) (by simp) _)⟩
theorem IsEe.setAsked (k : IsEe w p mo tp pre post M R ag E) (n : Nat) : IsEe (w.setCell ⟨p, mo + 1949, none⟩ (.int .i64 (n : Int))) p mo tp pre post M R ag { E with asked := n } := by
  obtain ⟨a1, a2, a3, a4, a5, a6, a7, k⟩ := k
  exact ⟨a1, a2, a3, a4, a5, a6, a7, k.ofTl ((Only.refl (· = p) w).setCell (p := ⟨p, mo + 1949, none⟩) (.inl rfl) _) rfl rfl rfl rfl (k.tlIn.setCell (i := 2) (by simp) _)⟩
theorem IsEe.incSent (k : IsEe w p mo tp pre post M R ag E) : IsEe (w.setCell ⟨p, mo + 1950, none⟩ (.int .i64 ((E.sent : Int) + 1))) p mo tp pre post M R ag { E with sent := E.sent + 1 } := k.setSent (E.sent + 1)
theorem IsEe.incHeard (k : IsEe w p mo tp pre post M R ag E) : IsEe (w.setCell ⟨p, mo + 1948, none⟩ (.int .i64 ((E.heard : Int) + 1))) p mo tp pre post M R ag { E with heard := E.heard + 1 } := k.setHeard (E.heard + 1)
theorem IsEe.incAsked (k : IsEe w p mo tp pre post M R ag E) : IsEe (w.setCell ⟨p, mo + 1949, none⟩ (.int .i64 ((E.asked : Int) + 1))) p mo tp pre post M R ag { E with asked := E.asked + 1 } := k.setAsked (E.asked + 1)
theorem IsEe.cells (k : IsEe w p mo tp pre post M R ag E) : (w.cell? ⟨p, mo + 1948, none⟩ = some (.int .i64 (E.heard : Int)) ∧ w.cell? ⟨p, mo + 1949, none⟩ = some (.int .i64 (E.asked : Int)) ∧ w.cell? ⟨p, mo + 1950, none⟩ = some (.int .i64 (E.sent : Int))) ∧ ∀ i, w.frozen? ⟨p, i, none⟩ = false := by
  obtain ⟨_, _, _, _, _, _, _, k⟩ := k
  exact ⟨⟨k.tlIn.val (i := 1) rfl, k.tlIn.val (i := 2) rfl, k.tlIn.val (i := 3) rfl⟩, fun i => k.frozen i⟩
/-- A change of the end's own cells alone. -/
theorem EnGoes.own {w' : World} {E' : Ee} (k : IsEe w p mo tp pre post M R ag E) (k' : IsEe w' p mo tp pre post M R ag E') (ho : Only (· = p) w w') : EnGoes B w p mo tp pre post M R ag E' w' := ⟨M, R, k', ⟨ho.mono (fun i hi => .inl (hi ▸ k.mp)), fun _ h => .inl h, fun _ h => .inl h⟩⟩
theorem EnGoes.trans {w1 w2 : World} {E1 E2 : Ee} (h : EnGoes B w p mo tp pre post M R ag E1 w1) (hB : B = w.heap.size) (k : ∀ M R, IsEe w1 p mo tp pre post M R ag E1 → EnGoes B w1 p mo tp pre post M R ag E2 w2) : EnGoes B w p mo tp pre post M R ag E2 w2 := by
  obtain ⟨M1, R1, h1, h2⟩ := h
  obtain ⟨M2, R2, h3, h4⟩ := k M1 R1 h1
  exact ⟨M2, R2, h3, h2.trans h4 hB⟩
theorem enSendV (k : IsEe w p mo tp pre post M R ag E) (hes : ErrsAt w es) (hbd : E.out.length ≤ 100000) (hcn : E.sent ≤ 1000000) (v o : Int) :
    Calls Tryz.prog 66 #[.pointer (some ⟨p, mo, none⟩), .int .i64 v, .int .i64 o] w fun e w' => e = .returned (.tuple #[]) ∧ Hid (EnGoes w.heap.size w p mo tp pre post M R ag (E.sendV v o) w') := by
  have HV := Lib.hid (verb3_any (hes.of [0, 3, 8]) v o [] false)
  obtain ⟨bs, hbs⟩ : ∃ bs, bs = tkBytes (tk3 v o) := ⟨_, rfl⟩
  obtain ⟨z, hz⟩ : ∃ z, z = tkNum (tk3 v o) := ⟨_, rfl⟩
  have e1 : tkBytes ⟨3, v, o, [], false⟩ = bs := hbs.symm
  have e2 : tkNum ⟨3, v, o, [], false⟩ = z := hz.symm
  rw [e1, e2] at HV
  unfold Told at HV
  have HK := Lib.hid k
  by_cases h0 : z = 0
  · have HE : Hid (E.sendV v o = ({ E with sent := E.sent + 1 } : Ee).send 3 bs) := by show _ = _; unfold Ee.sendV; rw [← hz, if_pos h0, hbs]
    have HV0 : Hid (Calls Tryz.prog 121 #[.int .i64 v, .int .i64 o] w fun e w' => ∃ A c, e = .returned (.tuple #[.slice A bs.length c, .nilIface]) ∧ Hid (Body w' w.heap.size (.slice A bs.length c) bs) ∧ Hid (Only (fun _ => False) w w')) := HV.out.mono (fun e w' ⟨A, c, E, h1, h2, h3, h4⟩ => by
      rcases h3.ways with ⟨_, rfl⟩ | ⟨h, _⟩
      · exact ⟨A, c, h1, h2, h4⟩
      · exact absurd h0 h)
    have HSd : Hid (∀ W A n c, IsEe W p mo tp pre post M R ag { E with sent := E.sent + 1 } → w.heap.size ≤ W.heap.size → Body W w.heap.size (.slice A n c) bs → n = bs.length → Calls Tryz.prog 70 #[.pointer (some ⟨p, mo, none⟩), .int .i64 3, .slice A n c] W fun e w' => e = .returned (.tuple #[]) ∧ Hid (EnGoes w.heap.size W p mo tp pre post M R ag (({ E with sent := E.sent + 1 } : Ee).send 3 bs) w')) := fun W A n c hk hz hb hn => by
      exact enSend hk hz (hb.src hn) (hb.caps hn).1 (hb.caps hn).2 (fun h0 ad e => by
        have h1 := hb.newer hn h0 ad e
        exact ⟨h1, fun hm => by have := HK.out.mlt _ hm; omega⟩) hbd 3
    clear k hes HV hbs hz h0 e1 e2 hbd
    rw [HE.out]
    go_enter Tryz.func66, Tryz.ntmps66
    go_wp2_with (first
      | (go_at_call 121; (with_reducible refine HV0.out.mono ?_); rintro e w1 ⟨A1, c1, rfl, hb1, ho1⟩; have HB1 := hb1; have HO1 := ho1; have HK1 := Lib.hid (HK.out.same ho1.out); have c50 := HK1.out.cells.1.2.2; have f50 := HK1.out.cells.2 (mo + 1950); clear hb1 ho1)
      | (go_at_call 70; (with_reducible refine (HSd.out _ _ _ _ HK1.out.incSent (by rw [setCell_size]; exact HO1.out.size) (HB1.out.far ((Only.refl (· = p) w1).setCell (p := ⟨p, mo + 1950, none⟩) (.inl rfl) _) (fun g hg e => by have h2 := HK.out.lt; omega)) rfl).mono ?_); rintro e w3 ⟨rfl, hg3⟩))
    refine bodyPost_end (results_none rfl _ _ _) rfl ?_
    have ho2 : Only (· = p) w1 (w1.setCell ⟨p, mo + 1950, none⟩ (.int .i64 ((E.sent : Int) + 1))) := (Only.refl (· = p) w1).setCell (p := ⟨p, mo + 1950, none⟩) (.inl rfl) _
    have h1 : EnGoes w.heap.size w1 p mo tp pre post M R ag { E with sent := E.sent + 1 } (w1.setCell ⟨p, mo + 1950, none⟩ (.int .i64 ((E.sent : Int) + 1))) := EnGoes.own HK1.out HK1.out.incSent ho2
    obtain ⟨M3, R3, g1, g2⟩ := hg3.out
    refine ⟨rfl, EnGoes.from_ (w1 := w1) ⟨M3, R3, g1, ⟨(ho2.mono (fun i hi => .inl (hi ▸ HK.out.mp))).trans g2.only (fun _ h => .inl h), g2.gm, g2.gr⟩⟩ HO1.out⟩
  · have HE : Hid (E.sendV v o = E) := by show _ = _; unfold Ee.sendV; rw [← hz, if_neg h0]
    have HV0 : Hid (Calls Tryz.prog 121 #[.int .i64 v, .int .i64 o] w fun e w' => ∃ A n c a, e = .returned (.tuple #[.slice A n c, .iface 409 (.pointer (some a))]) ∧ Hid (Only (fun _ => False) w w')) := HV.out.mono (fun e w' ⟨A, c, E, h1, h2, h3, h4⟩ => by
      rcases h3.ways with ⟨h, _⟩ | ⟨_, a, rfl⟩
      · exact absurd h h0
      · exact ⟨A, _, c, a, h1, h4⟩)
    clear k hes HV hbs hz h0 e1 e2 hbd
    rw [HE.out]
    go_enter Tryz.func66, Tryz.ntmps66
    go_wp2_with (go_at_call 121; (with_reducible refine HV0.out.mono ?_); rintro e w1 ⟨A1, n1, c1, a1, rfl, ho1⟩)
    refine bodyPost_ret (v := .tuple #[]) (results_none rfl _ _ _) rfl ?_
    exact ⟨rfl, EnGoes.still HK.out ho1.out⟩
end
end Go.Proofs.YtbnfhklpobephaaGreatDoor
