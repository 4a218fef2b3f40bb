/- Package emit: a plain command's, a verb's, a subnegotiation's bytes. -/
import Derived.Test.YtbjabjkmagekfaaDoorEmit
import Derived.Test.YtbjabjkmagekfaaDoorVerb
namespace Go.Proofs.YtbjabjkmagekfaaDoor
open Go Go.RowKit
set_option maxRecDepth 100000
set_option maxHeartbeats 4000000

theorem isByte_any (W : World) (c : Int) : Calls Tryd.prog 43 #[.int .i64 c] W fun e w' => e = .returned (.bool (decide (0 ≤ c ∧ c ≤ 255))) ∧ w' = W := by
  by_cases h1 : c < 0
  · go_enter Tryd.func43, Tryd.ntmps43
    go_wp2
    go_ret
    refine ⟨congrArg (fun b => Ending.returned (Value.bool b)) ?_, rfl⟩
    first | (simp; done) | (simp; omega)
  · go_enter Tryd.func43, Tryd.ntmps43
    go_wp2
    go_ret
    refine ⟨congrArg (fun b => Ending.returned (Value.bool b)) ?_, rfl⟩
    first | (simp; done) | (simp; omega)
/-- What a call of package emit answers: bytes of its own and no error, or an error. -/
def Told (w w' : World) (es : List Addr) (e : Ending) (bs : List UInt8) (num : Nat) : Prop :=
  ∃ A c E, e = .returned (.tuple #[.slice A bs.length c, E]) ∧ Hid (Body w' w.heap.size (.slice A bs.length c) bs) ∧ ErrV es E num ∧ Hid (Only (fun _ => False) w w')
theorem Told.none_ {w w' : World} {es : List Addr} {i : Nat} {a : Addr} (h : es[i]? = some a) (k : Nat) (hk : k = i + 1) (ho : Only (fun _ => False) w w') : Told w w' es (.returned (.tuple #[.slice none 0 0, errV a])) [] k :=
  ⟨none, 0, _, rfl, own_nil w' _ _ _, ErrV.err h k hk, ho⟩
/-- Bytes that lie in one new block. -/
theorem body_new (w : World) (xs : List UInt8) (n : Nat) (hn : n = xs.length) (cs : Array Value) (hc : cs = (xs.map B8).toArray) (hb : n ≤ 1048576) : Body (w.alloc (.cells cs 5)) w.heap.size (.slice (some ⟨w.heap.size, 0, none⟩) n n) xs := by
  subst hn hc
  exact own_of_blk (Blk.new w 5 (xs.map B8)) (by simp) (by rw [Nat.mul_one, List.take_of_length_le (by simp)]) (Nat.le_refl _) (by omega) (Nat.le_refl _)

theorem errKind_at {w : World} {es : List Addr} (h : ErrsOf w [0, 3, 8] es) : ∃ a, es[8]? = some a ∧ w.cell? ⟨8, 0, none⟩ = some (errV a) := h.get 8 _ (by decide) rfl
theorem errRange_at {w : World} {es : List Addr} (h : ErrsOf w [0, 3, 8] es) : ∃ a, es[0]? = some a ∧ w.cell? ⟨1, 0, none⟩ = some (errV a) := h.get 0 _ (by decide) rfl
theorem errLong_at {w : World} {es : List Addr} (h : ErrsOf w [0, 3, 8] es) : ∃ a, es[3]? = some a ∧ w.cell? ⟨3, 0, none⟩ = some (errV a) := h.get 3 _ (by decide) rfl

def plNum (c : Int) : Nat := tkNum ⟨2, c, 0, [], false⟩
theorem plain_any {w : World} {es : List Addr} (hes : ErrsOf w [0, 3, 8] es) (c o : Int) (b : List UInt8) (cut : Bool) :
    Calls Tryd.prog 36 #[.int .i64 c] w fun e w' => Told w w' es e (tkBytes ⟨2, c, o, b, cut⟩) (tkNum ⟨2, c, o, b, cut⟩) := by
  have hp := fun W => cplain_any W c
  by_cases h : 241 ≤ c ∧ c ≤ 249
  · have hn : tkNum ⟨2, c, o, b, cut⟩ = 0 := by simp [tkNum, h]
    have hb : tkBytes ⟨2, c, o, b, cut⟩ = [255, b8 c] := by simp [tkBytes, hn, tkRaw]
    rw [hn, hb]
    have hw : IntKind.u8.wrap c = c := by rw [IntKind.wrap_u8]; omega
    rw [decide_eq_true h] at hp
    have HC : Hid (#[Value.int .u8 255, Value.int .u8 c] = ([255, b8 c].map B8).toArray) := by
      have := b8_int (z := c) (by omega) (by omega)
      simp only [List.map_cons, List.map_nil, B8, this]
      rfl
    clear hn hb h hes
    go_enter Tryd.func36, Tryd.ntmps36
    go_wp2_with (go_at_call 41; refine (hp _).mono ?_; rintro e w' ⟨rfl, e2⟩; subst w')
    go_ret2
    exact ⟨_, _, _, rfl, body_new _ _ 2 rfl _ HC.out (by omega), ErrV.nil _, (Only.refl _ _).alloc _⟩
  · have hn : tkNum ⟨2, c, o, b, cut⟩ = 9 := by simp [tkNum, h]
    have hb : tkBytes ⟨2, c, o, b, cut⟩ = [] := by simp [tkBytes, hn]
    rw [hn, hb]
    rw [decide_eq_false h] at hp
    obtain ⟨a, ha, hc⟩ := errKind_at hes
    unfold errV at hc
    clear hn hb h hes
    go_enter Tryd.func36, Tryd.ntmps36
    go_wp2_with (go_at_call 41; refine (hp _).mono ?_; rintro e w' ⟨rfl, e2⟩; subst w')
    go_quiet (fail)
    go_wp2
    go_ret2
    exact Told.none_ ha 9 rfl ((Only.refl _ _).drewN _)

theorem verb3_any {w : World} {es : List Addr} (hes : ErrsOf w [0, 3, 8] es) (c o : Int) (b : List UInt8) (cut : Bool) :
    Calls Tryd.prog 37 #[.int .i64 c, .int .i64 o] w fun e w' => Told w w' es e (tkBytes ⟨3, c, o, b, cut⟩) (tkNum ⟨3, c, o, b, cut⟩) := by
  have hp := fun W => verb_any W c
  have hq := fun W => isByte_any W o
  by_cases h : 251 ≤ c ∧ c ≤ 254
  · rw [decide_eq_true h] at hp
    by_cases h2 : 0 ≤ o ∧ o ≤ 255
    · rw [decide_eq_true h2] at hq
      have hn : tkNum ⟨3, c, o, b, cut⟩ = 0 := by simp [tkNum, h, h2]
      have hb : tkBytes ⟨3, c, o, b, cut⟩ = [255, b8 c, b8 o] := by simp [tkBytes, hn, tkRaw]
      rw [hn, hb]
      have hw : IntKind.u8.wrap c = c := by rw [IntKind.wrap_u8]; omega
      have hw2 : IntKind.u8.wrap o = o := by rw [IntKind.wrap_u8]; omega
      have HC : Hid (#[Value.int .u8 255, Value.int .u8 c, Value.int .u8 o] = ([255, b8 c, b8 o].map B8).toArray) := by
        have := b8_int (z := c) (by omega) (by omega)
        have := b8_int (z := o) (by omega) (by omega)
        simp only [List.map_cons, List.map_nil, B8, *]
        rfl
      clear hn hb h hes h2
      go_enter Tryd.func37, Tryd.ntmps37
      go_wp2_with (first
        | (go_at_call 40; refine (hp _).mono ?_; rintro e w' ⟨rfl, e2⟩; subst w')
        | (go_at_call 43; refine (hq _).mono ?_; rintro e w' ⟨rfl, e2⟩; subst w'))
      go_ret2
      exact ⟨_, _, _, rfl, body_new _ _ 3 rfl _ HC.out (by omega), ErrV.nil _, (Only.refl _ _).alloc _⟩
    · rw [decide_eq_false h2] at hq
      have hn : tkNum ⟨3, c, o, b, cut⟩ = 1 := by simp [tkNum, h, h2]
      have hb : tkBytes ⟨3, c, o, b, cut⟩ = [] := by simp [tkBytes, hn]
      rw [hn, hb]
      obtain ⟨a, ha, hc⟩ := errRange_at hes
      unfold errV at hc
      clear hn hb h hes h2
      go_enter Tryd.func37, Tryd.ntmps37
      go_wp2_with (first
        | (go_at_call 40; refine (hp _).mono ?_; rintro e w' ⟨rfl, e2⟩; subst w')
        | (go_at_call 43; refine (hq _).mono ?_; rintro e w' ⟨rfl, e2⟩; subst w'))
      go_quiet (fail)
      go_wp2
      go_ret2
      exact Told.none_ ha 1 rfl ((Only.refl _ _).drewN _)
  · have hn : tkNum ⟨3, c, o, b, cut⟩ = 9 := by simp [tkNum, h]
    have hb : tkBytes ⟨3, c, o, b, cut⟩ = [] := by simp [tkBytes, hn]
    rw [hn, hb]
    rw [decide_eq_false h] at hp
    obtain ⟨a, ha, hc⟩ := errKind_at hes
    unfold errV at hc
    clear hn hb h hes hq
    go_enter Tryd.func37, Tryd.ntmps37
    go_wp2_with (first
      | (go_at_call 40; refine (hp _).mono ?_; rintro e w' ⟨rfl, e2⟩; subst w'))
    go_quiet (fail)
    go_wp2
    go_ret2
    exact Told.none_ ha 9 rfl ((Only.refl _ _).drewN _)

theorem esub_any {w : World} {es : List Addr} (hes : ErrsOf w [0, 3, 8] es) (c o : Int) {A : Option Addr} {n cap : Nat} {b : List UInt8} (hs : Src w A n b) :
    Calls Tryd.prog 45 #[.int .i64 o, .slice A n cap] w fun e w' => Told w w' es e (tkBytes ⟨4, c, o, b, false⟩) (tkNum ⟨4, c, o, b, false⟩) := by
  have hq := fun W => isByte_any W o
  have hl := hs.1
  by_cases h2 : 0 ≤ o ∧ o ≤ 255
  · rw [decide_eq_true h2] at hq
    by_cases h3 : 256 < n
    · have hn : tkNum ⟨4, c, o, b, false⟩ = 4 := by simp [tkNum, h2, hl, h3]
      have hb : tkBytes ⟨4, c, o, b, false⟩ = [] := by simp [tkBytes, hn]
      rw [hn, hb]
      have d : decide ((256 : Int) < (n : Int)) = true := by simp; omega
      obtain ⟨a, ha, hc⟩ := errLong_at hes
      unfold errV at hc
      clear hn hb hes h2 hs hl h3
      go_enter Tryd.func45, Tryd.ntmps45
      go_wp2_with (first
        | (go_at_call 43; refine (hq _).mono ?_; rintro e w' ⟨rfl, e2⟩; subst w'))
      go_quiet (fail)
      go_wp2
      go_ret2
      exact Told.none_ ha 4 rfl ((Only.refl _ _).drewN _)
    · have hn : tkNum ⟨4, c, o, b, false⟩ = 0 := by simp [tkNum, h2, hl]; omega
      have hb : tkBytes ⟨4, c, o, b, false⟩ = [255, 250, b8 o] ++ dbl b ++ [255, 240] := by simp [tkBytes, hn, tkRaw]
      rw [hn, hb]
      have d : decide ((256 : Int) < (n : Int)) = false := by simp; omega
      have hw2 : IntKind.u8.wrap o = o := by rw [IntKind.wrap_u8]; omega
      have HC : Hid (#[Value.int .u8 255, Value.int .u8 250, Value.int .u8 o] = ([255, 250, b8 o].map B8).toArray) := by
        have := b8_int (z := o) (by omega) (by omega)
        simp only [List.map_cons, List.map_nil, B8, *]
        rfl
      have hO : Only (fun _ => False) w (w.alloc (.cells #[Value.int .u8 255, Value.int .u8 250, Value.int .u8 o] 5)) := (Only.refl _ w).alloc _
      have HD := Lib.hid (double_any (w := w.alloc (.cells #[Value.int .u8 255, Value.int .u8 250, Value.int .u8 o] 5)) (B := w.heap.size) (c := cap) hO.size (body_new w [255, 250, b8 o] 3 rfl _ HC.out (by omega)) rfl (hs.only hO (fun _ _ _ h => h)) (fun hm ad e => hs.lt hm ad e) (by omega))
      have hdl := (dbl_length b).2
      obtain ⟨L, hL⟩ : ∃ L, L = [255, 250, b8 o] ++ dbl b := ⟨_, rfl⟩
      rw [← hL] at HD ⊢
      have hLl : L.length ≤ 1048000 := by rw [hL]; simp only [List.length_append, List.length_cons, List.length_nil]; omega
      obtain ⟨N, hN⟩ : ∃ N, N = L.length := ⟨_, rfl⟩
      rw [← hN] at hLl
      have HN := Lib.hid hN
      clear hn hb hes h2 hs hl h3 hO hdl hL hN
      go_enter Tryd.func45, Tryd.ntmps45
      go_wp2_with (first
        | (go_at_call 43; refine (hq _).mono ?_; rintro e w' ⟨rfl, e2⟩; subst w')
        | (go_at_call 46; refine HD.out.mono ?_; rintro e w1 ⟨V, rfl, hb1, ho1⟩; obtain ⟨A1, c1, rfl, _⟩ := hb1.form; (rw [← HN.out] at hb1 ⊢); have HB1 := Lib.hid hb1; have HO1 := Lib.hid ho1; clear hb1 ho1)
        | (at_builtin; refine step_bytes rfl (.tmp 22) (.tmp 23) rfl w.heap.size _ _ _ L rfl (own_same HB1.out ((Only.refl _ w1).alloc _)) HN.out (some ⟨w1.heap.size, 0, none⟩) 2 2 [255, 240] rfl (src_new w1 [255, 240] _ _ _ 2 rfl rfl) (by omega) (by have := HO1.out.size; simp at this ⊢; omega) ?_; intro A2 c2 w2 hb2 ho2))
      go_ret2
      have e : (L ++ [255, 240]).length = N + 2 := by rw [HN.out]; simp
      refine ⟨A2, c2, _, by rw [e]; rfl, by rw [e]; exact hb2, ErrV.nil _, ?_⟩
      · exact ((((Only.refl (fun _ => False) w).alloc _).trans HO1.out (fun i hi => .inr hi)).alloc _).trans ho2.out (fun i hi => .inr hi)
  · rw [decide_eq_false h2] at hq
    have hn : tkNum ⟨4, c, o, b, false⟩ = 1 := by simp [tkNum, h2]
    have hb : tkBytes ⟨4, c, o, b, false⟩ = [] := by simp [tkBytes, hn]
    rw [hn, hb]
    obtain ⟨a, ha, hc⟩ := errRange_at hes
    unfold errV at hc
    clear hn hb hes h2 hs hl
    go_enter Tryd.func45, Tryd.ntmps45
    go_wp2_with (first
      | (go_at_call 43; refine (hq _).mono ?_; rintro e w' ⟨rfl, e2⟩; subst w'))
    go_quiet (fail)
    go_wp2
    go_ret2
    exact Told.none_ ha 1 rfl ((Only.refl _ _).drewN _)
end Go.Proofs.YtbjabjkmagekfaaDoor
