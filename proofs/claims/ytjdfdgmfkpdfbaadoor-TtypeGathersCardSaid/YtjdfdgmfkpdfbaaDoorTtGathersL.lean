/- TtypeGathers, walked. -/
import Derived.Test.YtjdfdgmfkpdfbaaDoorTtBodiesL
import Derived.Test.YtjdfdgmfkpdfbaaDoorTtList
namespace Go.Proofs.YtjdfdgmfkpdfbaaDoor
open Go Go.ChangeShapes Go.WideShapes Go.ChangeAt Go.RowKit
set_option maxRecDepth 100000
set_option maxHeartbeats 4000000

theorem tgathers_many (w : World) {A : Option Addr} {n cap : Nat} {ts : List (List UInt8)} (hs : TSrc w A n ts) (hn : n ≤ 9223372036854775807) (h : fewT ts 20 60 = false) :
    Calls Tryd.prog 5 #[.slice A n cap] w (Fine w) := by
  have HA := Lib.hid (fun W => tt_alive W)
  have HF : Hid (∀ W, Only (fun _ => False) w W → Calls Tryd.prog 7 #[.slice A n cap, .int .i64 20, .int .i64 60] W fun e w' => e = .returned (.bool false) ∧ w' = W) := fun W ho => by
    rw [← h]
    exact few_any (hs.same ho) hn 20 60
  clear hs h
  go_enter Tryd.func5, Tryd.ntmps5
  go_wp2_with (first
    | (go_at_call 6; refine (HA.out _).mono ?_; rintro e w1 ⟨rfl, ho1⟩; have HO1 := Lib.hid ho1; clear ho1)
    | (go_at_call 7; (with_reducible refine (HF.out _ HO1.out).mono ?_); rintro e w' ⟨rfl, e1⟩; subst w'))
  go_ret
  exact ⟨rfl, HO1.out⟩

/-- No two that follow each other are the same, so far. -/
def Apart (ts : List (List UInt8)) (k : Nat) : Prop := ∀ (i : Nat) (x y : List UInt8), i + 1 < k → ts[i]? = some x → ts[i + 1]? = some y → x ≠ y

theorem tgathers_none {w : World} {es : List Addr} (hes : ErrsOf w [0, 2, 3, 4, 5] es) {A : Option Addr} {n : Nat} (cap : Nat) {ts : List (List UInt8)} (hs : TSrc w A n ts) (h : fewT ts 20 60 = true) (hb : n < 1 ∨ 8 < n ∨ ts.all okT = false) :
    Calls Tryd.prog 5 #[.slice A n cap] w (Fine w) := by
  have hn20 : n ≤ 20 := by have := (fewT_iff.1 h).1; rw [hs.1] at this; exact this
  have HA := Lib.hid (fun W => tt_alive W)
  have HF : Hid (∀ W, Only (fun _ => False) w W → Calls Tryd.prog 7 #[.slice A n cap, .int .i64 20, .int .i64 60] W fun e w' => e = .returned (.bool true) ∧ w' = W) := fun W ho => by
    rw [← h]
    exact few_any (hs.same ho) (by omega) 20 60
  have HN : Hid (∀ W, Only (fun _ => False) w W → Calls Tryd.prog 13 #[.slice A n cap] W fun e w' => ∃ a, e = .returned (.tuple #[.pointer none, errV a]) ∧ Only (fun _ => False) W w') := fun W ho => by
    by_cases h1 : n < 1 ∨ 8 < n
    · exact (new_range (hes.only ho) A n cap h1).mono fun e w' ⟨a, _, he, hw⟩ => ⟨a, he, hw⟩
    · have hb : ts.all okT = false := by
        rcases hb with h | h | h
        · exact absurd (.inl h) h1
        · exact absurd (.inr h) h1
        · exact h
      exact (new_name (hes.only ho) cap (hs.same ho) (by omega) (by omega) hb).mono fun e w' ⟨a, _, he, hw⟩ => ⟨a, he, hw⟩
  clear hs h hes hb
  unfold errV at *
  go_enter Tryd.func5, Tryd.ntmps5
  go_wp2_with (first
    | (go_at_call 6; refine (HA.out _).mono ?_; rintro e w1 ⟨rfl, ho1⟩; have HO1 := Lib.hid ho1; clear ho1)
    | (go_at_call 7; (with_reducible refine (HF.out _ HO1.out).mono ?_); rintro e w' ⟨rfl, e1⟩; subst w')
    | (go_at_call 13; (with_reducible refine (HN.out _ HO1.out).mono ?_); rintro e w2 ⟨a, rfl, ho2⟩; have HO2 : Hid (Only (fun _ => False) w w2) := HO1.out.trans ho2 (fun _ h => h.elim); clear ho2))
  go_ret
  exact ⟨rfl, HO2.out⟩

/-- What is gathered of a cycle's first k answers. -/
def toldL (ts : List (List UInt8)) (k : Nat) : Ls := if k ≤ ts.length then ⟨ts.take k, decide (k = 8)⟩ else ⟨ts, true⟩
theorem toldL_take {ts : List (List UInt8)} (hok : ∀ t ∈ ts, okT t = true) (hne : Apart ts ts.length) (h1 : 1 ≤ ts.length) (h8 : ts.length ≤ 8) {k : Nat} (hk : k ≤ ts.length) : (toldL ts k).take (ansT ts k) = toldL ts (k + 1) := by
  have hne' : ∀ (i : Nat) (x y : List UInt8), ts[i]? = some x → ts[i + 1]? = some y → x ≠ y := fun i x y hx hy => hne i x y (List.getElem?_eq_some_iff.1 hy).1 hx hy
  have hg := ansT_get (ts := ts) (by omega) k
  unfold toldL
  rw [if_pos hk]
  rcases Nat.lt_or_ge k ts.length with h | h
  · rw [if_pos (by omega)]
    rw [Nat.mod_eq_of_lt (by omega), show min k (ts.length - 1) = k from by omega] at hg
    have e1 := gatherT_all hok hne' h8 k (by omega)
    have e2 := gatherT_all hok hne' h8 (k + 1) (by omega)
    rw [gatherT_snoc hg, e1] at e2
    exact e2
  · obtain rfl : k = ts.length := by omega
    rw [if_neg (by omega), List.take_length]
    rw [Nat.mod_eq_of_lt (by omega), show min ts.length (ts.length - 1) = ts.length - 1 from by omega] at hg
    by_cases h8' : ts.length = 8
    · rw [decide_eq_true h8', Ls.take_full rfl]
    · rw [decide_eq_false h8', Ls.take_end rfl (hok _ (List.mem_of_getElem? hg)) (by rw [List.getLast?_eq_getElem?]; exact hg)]
theorem toldL_whole {ts : List (List UInt8)} {k : Nat} (hk : k ≤ ts.length) : (toldL ts k).whole = decide (k = 8) := by
  unfold toldL
  rw [if_pos hk]

/-- A cycle whose types do not lie in block q. -/
def CycQ (w : World) (p q : Nat) (ts : List (List UInt8)) (k : Nat) : Prop :=
  ∃ (A : Option Addr) (c : Nat), Blk w p 55 [.slice A ts.length c, .int .i64 (k : Int)] ∧ TSrc w A ts.length ts ∧ (0 < ts.length → ∀ ad, A = some ad → ad.block ≠ p ∧ ad.block ≠ q) ∧ p ≠ q
theorem CycAt.beside {w : World} {p k : Nat} {ts : List (List UInt8)} (h : CycAt w p ts k) (o : Obj) : CycQ (w.alloc o) p w.heap.size ts k := by
  obtain ⟨A, c, hb, hs, hn⟩ := h
  exact ⟨A, c, hb.alloc o, hs.same ((Only.refl _ _).alloc o), fun h1 ad e => ⟨hn h1 ad e, Nat.ne_of_lt (hs.lt h1 ad e)⟩, Nat.ne_of_lt hb.lt⟩
theorem CycQ.same {w w' : World} {p q k : Nat} {ts : List (List UInt8)} (h : CycQ w p q ts k) (ho : Only (fun _ => False) w w') : CycQ w' p q ts k := by
  obtain ⟨A, c, hb, hs, hn, hpq⟩ := h
  exact ⟨A, c, hb.only ho (fun h => h), hs.same ho, hn, hpq⟩
theorem CycQ.other {w w' : World} {p q k : Nat} {ts : List (List UInt8)} (h : CycQ w p q ts k) (ho : Only (· = q) w w') : CycQ w' p q ts k := by
  obtain ⟨A, c, hb, hs, hn, hpq⟩ := h
  exact ⟨A, c, hb.only ho hpq, hs.only ho (fun h1 ad e => (hn h1 ad e).2), hn, hpq⟩
theorem nextQ_any {w : World} {p q k : Nat} {ts : List (List UInt8)} (h : CycQ w p q ts (k % (ts.length + 1))) (h1 : 1 ≤ ts.length) (h8 : ts.length ≤ 8) : Calls Tryd.prog 17 #[.pointer (some ⟨p, 0, none⟩)] w fun e w' => e = .returned (.string ⟨(ansT ts k).toArray⟩) ∧ CycQ w' p q ts ((k + 1) % (ts.length + 1)) ∧ Only (· = p) w w' := by
  have hg := ansT_get h1 k
  obtain ⟨A, c, hb, hs, hne, hpq⟩ := h
  obtain ⟨ad, hA, hc⟩ := hs.2 (by omega)
  subst hA
  have hm : k % (ts.length + 1) ≤ ts.length := by have := Nat.mod_lt k (show 0 < ts.length + 1 by omega); omega
  refine (next_walk (c := c) h1 h8 hm (hb.cell 0) (hb.cell 1) (hb.frozen 1) (hc _ _ hg)).mono ?_
  rintro e w' ⟨rfl, N, rfl⟩
  rw [Nat.mod_add_mod]
  have ho : Only (· = p) w ((w.drewN N).setCell ⟨p, 1, none⟩ (.int .i64 (((k + 1) % (ts.length + 1) : Nat) : Int))) := ((Only.refl (· = p) w).drewN N).setCell (p := ⟨p, 1, none⟩) (.inl rfl) _
  exact ⟨rfl, ⟨_, c, (hb.drewN N).setCell 1 _, hs.only ho (fun hn ad e => (hne hn ad e).1), hne, hpq⟩, ho⟩

/-- A type told and read. -/
theorem body_cap (w : World) {s : List UInt8} (h : okT s = true) :
    Calls Tryd.prog 19 #[.string ⟨s.toArray⟩] w fun e w' => ∃ A n c, e = .returned (.tuple #[.slice A n c, .nilIface]) ∧ Hid (Src w' A n (0 :: s) ∧ n ≤ 1048576 ∧ n ≤ c ∧ c ≤ 9223372036854775807) ∧ Hid (Only (fun _ => False) w w') := by
  have HR := Lib.hid (fun W => right_any W s)
  rw [h] at HR
  have hl := (okT_iff.1 h).2.1
  obtain ⟨i, hi, hz, h1, h2⟩ := info_parts info_byte
  have HE := Lib.hid (own_of_blk (B := w.heap.size) (c := 1) (s := 1) (n := 1) (xs := [.int .u8 0]) (Blk.new w 5 [.int .u8 0]) rfl rfl (by omega) (by omega) (Nat.le_refl _))
  obtain ⟨n, hn⟩ : ∃ n, n = s.length := ⟨_, rfl⟩
  have hsz : (ByteArray.mk s.toArray).size = n := by rw [hn]; rfl
  have HN := Lib.hid hn
  rw [← hn] at hl
  clear h hn
  go_enter Tryd.func19, Tryd.ntmps19
  go_wp2_with (first
    | (go_at_call 20; (with_reducible refine (HR.out _).mono ?_); rintro e w1 ⟨rfl, e1⟩; subst w1)
    | (at_builtin; refine Lib.wpList_append_own_string _ rfl _ _ 43 9 rfl w.heap.size 5 i Tryd.underlying43 Tryd.underlying9 hi hz h1 h2 _ 1 [.int .u8 0] rfl HE.out ⟨s.toArray⟩ rfl (by rw [hsz]; unfold maxLen; omega) (by rw [hsz]; omega) (by simp) ?_; intro v2 w2 hown hgr _; rw [hsz] at hown; obtain ⟨A2, c2, rfl, hle2, hm2⟩ := own_form hown; have HOw := Lib.hid hown; have HG := Lib.hid hgr; clear hown hgr))
  go_ret2
  rw [strCells_map] at HOw
  have hb : Body w2 w.heap.size (.slice A2 (1 + n) c2) (0 :: s) := by
    unfold Body
    have := HOw.out
    rw [List.length_cons, ← HN.out, Nat.add_comm n 1]
    exact this
  exact ⟨A2, 1 + n, c2, rfl, ⟨hb.src (by rw [List.length_cons, ← HN.out]; omega), by omega, hle2, hm2⟩, ((Only.refl _ _).alloc _).grown HG.out (fun q hq => .inr (by cases hq; exact Nat.le_refl _))⟩

theorem tgathers_ok {w : World} {A : Option Addr} {n : Nat} (cap : Nat) {ts : List (List UInt8)} (hs : TSrc w A n ts) (h : fewT ts 20 60 = true) (h1 : 1 ≤ n) (h8 : n ≤ 8) (hok : ts.all okT = true) :
    Calls Tryd.prog 5 #[.slice A n cap] w (Fine w) := by
  have HA := Lib.hid (fun W => tt_alive W)
  have HF : Hid (∀ W, Only (fun _ => False) w W → Calls Tryd.prog 7 #[.slice A n cap, .int .i64 20, .int .i64 60] W fun e w' => e = .returned (.bool true) ∧ w' = W) := fun W ho => by
    rw [← h]
    exact few_any (hs.same ho) (by omega) 20 60
  have HN : Hid (∀ W, Only (fun _ => False) w W → Calls Tryd.prog 13 #[.slice A n cap] W fun e w' => ∃ p, e = .returned (.tuple #[.pointer (some ⟨p, 0, none⟩), .nilIface]) ∧ CycAt w' p ts 0 ∧ W.heap.size ≤ p ∧ Only (fun _ => False) W w') := fun W ho => new_ok cap (hs.same ho) h1 h8 hok
  have HS := Lib.hid hs
  have HOK : Hid (∀ t ∈ ts, okT t = true) := by rw [Hid]; rwa [List.all_eq_true] at hok
  have hl : ts.length = n := hs.1
  clear hs h hok
  go_enter Tryd.func5, Tryd.ntmps5
  have HL := Lib.hid hl
  clear hl
  go_wp2_with (first
    | (go_at_call 6; refine (HA.out _).mono ?_; rintro e w1 ⟨rfl, ho1⟩; have HO1 := Lib.hid ho1; clear ho1)
    | (go_at_call 7; (with_reducible refine (HF.out _ HO1.out).mono ?_); rintro e w' ⟨rfl, e1⟩; subst w')
    | (go_at_call 13; (with_reducible refine (HN.out _ HO1.out).mono ?_); rintro e w2 ⟨p, rfl, hc2, hp2, ho2⟩; have HO2 : Hid (Only (fun _ => False) w w2) := HO1.out.trans ho2 (fun _ h => h.elim); have HP2 : Hid (w.heap.size ≤ p) := Nat.le_trans HO1.out.size hp2; have HC2 := Lib.hid hc2; clear hc2 ho2 hp2))
  go_loop [30] (fun i => ∃ k : Nat, k ≤ n ∧ i = .int .i64 (k : Int) ∧ Hid (Apart ts k)) (fun i => n - (intOf i).toNat)
  case atStart => exact ⟨0, Nat.zero_le _, rfl, fun i x y hi => by omega⟩
  case round =>
    obtain ⟨k, hk, rfl, HD⟩ := hrel
    by_cases hlt : k < n
    · obtain ⟨ad, s, rfl, hx, hc⟩ := (HS.out.same HO2.out).get hlt
      have HX := Lib.hid hx
      clear hx
      rcases Nat.eq_zero_or_pos k with h0 | h0
      · subst h0
        rw [show ad.add 0 = ad from by simp [Addr.add]] at hc
        go_wp2
        go_round
        case rel => exact ⟨1, by omega, rfl, fun i x y hi => by omega⟩
        case measure => simp [intOf]; omega
      · obtain ⟨j, hj⟩ : ∃ j, j = k - 1 := ⟨_, rfl⟩
        obtain ⟨ad', y, e', hy, hcy⟩ := (HS.out.same HO2.out).get (show j < n by omega)
        injection e' with e'
        subst e'
        have HY := Lib.hid hy
        have hkj : (k : Int) - 1 = (j : Int) := by omega
        have hk0 : decide (0 < k) = true := by simp; omega
        have hjn : j < n := by omega
        have HJ := Lib.hid hj
        clear hy hj
        by_cases he : y = s
        · subst he
          have eb : (y == y) = true := by simp
          go_wp2
          go_ret
          exact ⟨rfl, HO2.out⟩
        · have eb : (y == s) = false := by simp [he]
          have HNe := Lib.hid he
          clear he
          go_wp2
          go_round
          case rel =>
            refine ⟨k + 1, by omega, by go_num, fun i x z hi hx hz => ?_⟩
            rcases Nat.lt_or_ge (i + 1) k with h | h
            · exact HD.out i x z h hx hz
            · have hj := HJ.out
              obtain rfl : i = j := by omega
              rw [show i + 1 = k from by omega, HX.out] at hz
              rw [HY.out] at hx
              injection hz with hz
              injection hx with hx
              rw [← hx, ← hz]
              exact HNe.out
          case measure => simp [intOf]; omega
    · obtain rfl : n = k := by omega
      have HD0 := HD
      clear hlt hk HF HN HA HD
      go_wp2_with fail
      obtain ⟨q, hq⟩ : ∃ q, q = w2.heap.size := ⟨_, rfl⟩
      have hB : Hid (LsAt (w2.alloc (.cells #[.string ⟨#[]⟩, .string ⟨#[]⟩, .string ⟨#[]⟩, .string ⟨#[]⟩, .string ⟨#[]⟩, .string ⟨#[]⟩, .string ⟨#[]⟩, .string ⟨#[]⟩, .int .i64 0, .bool false] 28)) q (toldL ts 0)) := by
        rw [hq]
        exact ⟨Ls.none_ok, Blk.new w2 28 (cellsL Ls.none)⟩
      have hC : Hid (CycQ (w2.alloc (.cells #[.string ⟨#[]⟩, .string ⟨#[]⟩, .string ⟨#[]⟩, .string ⟨#[]⟩, .string ⟨#[]⟩, .string ⟨#[]⟩, .string ⟨#[]⟩, .string ⟨#[]⟩, .int .i64 0, .bool false] 28)) p q ts 0) := by
        rw [hq]
        exact HC2.out.beside _
      have hO : Hid (Only (fun _ => False) w (w2.alloc (.cells #[.string ⟨#[]⟩, .string ⟨#[]⟩, .string ⟨#[]⟩, .string ⟨#[]⟩, .string ⟨#[]⟩, .string ⟨#[]⟩, .string ⟨#[]⟩, .string ⟨#[]⟩, .int .i64 0, .bool false] 28))) := HO2.out.alloc _
      have HQ : Hid (w.heap.size ≤ q) := by rw [hq]; exact HO2.out.size
      rw [← hq]
      clear hq
      generalize w2.alloc (.cells #[.string ⟨#[]⟩, .string ⟨#[]⟩, .string ⟨#[]⟩, .string ⟨#[]⟩, .string ⟨#[]⟩, .string ⟨#[]⟩, .string ⟨#[]⟩, .string ⟨#[]⟩, .int .i64 0, .bool false] 28) = w3 at *
      go_loopw [52] (fun i W => ∃ k : Nat, k ≤ n + 1 ∧ i = .int .i64 (k : Int) ∧ Hid (CycQ W p q ts (k % (ts.length + 1)) ∧ LsAt W q (toldL ts k) ∧ Only (fun _ => False) w W)) (fun i _ => n + 1 - (intOf i).toNat)
      case atStart => exact ⟨0, Nat.zero_le _, rfl, by rw [Nat.zero_mod]; exact hC.out, hB.out, hO.out⟩
      case round =>
        clear hB hC hO
        obtain ⟨k, hk, rfl, HD⟩ := hrel
        have HPQ : Hid (p ≠ q) := HD.out.1.choose_spec.choose_spec.2.2.2
        by_cases hlt : k < n + 1
        · have hkn : k ≤ ts.length := by rw [HL.out]; omega
          obtain ⟨s, hs⟩ : ∃ s, s = ansT ts k := ⟨_, rfl⟩
          have HOs : Hid (okT s = true) := by
            rw [hs]
            exact HOK.out _ (List.mem_of_getElem? (ansT_get (by rw [HL.out]; exact h1) k))
          have HNx : Hid (∀ W, CycQ W p q ts (k % (ts.length + 1)) → Calls Tryd.prog 17 #[.pointer (some ⟨p, 0, none⟩)] W fun e w' => e = .returned (.string ⟨s.toArray⟩) ∧ CycQ w' p q ts ((k + 1) % (ts.length + 1)) ∧ Only (· = p) W w') := fun W h => by
            rw [hs]
            exact nextQ_any h (by rw [HL.out]; exact h1) (by rw [HL.out]; exact h8)
          have HBd := Lib.hid (fun W => body_cap W HOs.out)
          have HPa : Hid (∀ (W : World) (A : Option Addr) (n c : Nat), (Src W A n (0 :: s) ∧ n ≤ 1048576 ∧ n ≤ c ∧ c ≤ 9223372036854775807) → Calls Tryd.prog 21 #[.slice A n c] W fun e w' => e = .returned (.tuple #[.string ⟨s.toArray⟩, .bool false, .nilIface]) ∧ Only (fun _ => False) W w') := fun W A n c h => parse_name c h.1 h.2.1 h.2.2.1 h.2.2.2 rfl HOs.out
          obtain ⟨b1, hb1⟩ : ∃ b1, decide (n = 8) = b1 := ⟨_, rfl⟩
          obtain ⟨b2, hb2⟩ : ∃ b2, decide (k = 8) = b2 := ⟨_, rfl⟩
          have HWh : Hid (∀ W, LsAt W q (toldL ts k) → Calls Tryd.prog 10 #[.pointer (some ⟨q, 0, none⟩)] W fun e w' => e = .returned (.bool (b1 && b2)) ∧ w' = W) := fun W h => by
            have := whole_any h
            rw [toldL_whole hkn, hb2] at this
            have e : (b1 && b2) = b2 := by
              rw [← hb1, ← hb2]
              by_cases h : k = 8
              · rw [decide_eq_true h, decide_eq_true (by omega)]; rfl
              · rw [decide_eq_false h]; simp
            rw [e]
            exact this
          have HTk : Hid (∀ W, LsAt W q (toldL ts k) → Calls Tryd.prog 8 #[.pointer (some ⟨q, 0, none⟩), .string ⟨s.toArray⟩] W fun e w' => ∃ b, e = .returned (.bool b) ∧ LsAt w' q (toldL ts (k + 1)) ∧ Only (· = q) W w') := fun W h => by
            have := take_any h s
            have e : (toldL ts k).take s = toldL ts (k + 1) := by
              rw [hs]
              have hd := HD0.out
              rw [← HL.out] at hd
              exact toldL_take HOK.out hd (by rw [HL.out]; exact h1) (by rw [HL.out]; exact h8) hkn
            rw [e] at this
            exact this.mono fun e w' ⟨he, h1, h2⟩ => ⟨_, he, h1, h2⟩
          have e1 : ((n : Int) == 8) = b1 := by rw [← hb1]; by_cases h : n = 8; · simp [h]
                                                · rw [decide_eq_false h]; simp; omega
          have e2 : ((k : Int) == 8) = b2 := by rw [← hb2]; by_cases h : k = 8; · simp [h]
                                                · rw [decide_eq_false h]; simp; omega
          clear hs hkn hb1 hb2
          have hlt2 : (k : Int) < (n : Int) + 1 := by omega
          cases b1 <;> cases b2
          all_goals
            go_wp2_with (first
              | (go_at_call 17; (with_reducible refine (HNx.out _ HD.out.1).mono ?_); rintro e w4 ⟨rfl, hc4, ho4⟩; have HC4 := Lib.hid hc4; have HL4 := Lib.hid (HD.out.2.1.only ho4 (fun h => HPQ.out h.symm)); have HO4 : Hid (Only (fun _ => False) w w4) := HD.out.2.2.trans ho4 (fun i hi => .inr (by have := HP2.out; omega)); clear hc4 ho4)
              | (go_at_call 19; (with_reducible refine (HBd.out _).mono ?_); rintro e w5 ⟨A5, n5, c5, rfl, h5, ho5⟩; have HL5 := Lib.hid (HL4.out.same ho5.out); have HC5 := Lib.hid (HC4.out.same ho5.out); have HO5 : Hid (Only (fun _ => False) w w5) := HO4.out.trans ho5.out (fun _ h => h.elim); clear ho5 HL4 HC4 HO4)
              | (go_at_call 21; (with_reducible refine (HPa.out _ _ _ _ h5.out).mono ?_); rintro e w6 ⟨rfl, ho6⟩; have HL6 := Lib.hid (HL5.out.same ho6); have HC6 := Lib.hid (HC5.out.same ho6); have HO6 : Hid (Only (fun _ => False) w w6) := HO5.out.trans ho6 (fun _ h => h.elim); clear ho6 HL5 HC5 HO5)
              | (go_at_call 10; (with_reducible refine (HWh.out _ HL6.out).mono ?_); rintro e w' ⟨rfl, e1⟩; subst w')
              | (go_at_call 8; (with_reducible refine (HTk.out _ HL6.out).mono ?_); rintro e w7 ⟨b7, rfl, hl7, ho7⟩; have HL7 := Lib.hid hl7; have HC7 := Lib.hid (HC6.out.other ho7); have HO7 : Hid (Only (fun _ => False) w w7) := HO6.out.trans ho7 (fun i hi => .inr (by have := HQ.out; omega)); clear ho7 hl7))
            go_roundw
            case rel => exact ⟨k + 1, by omega, by go_num, HC7.out, HL7.out, HO7.out⟩
            case measure => simp [intOf]; omega
        · obtain rfl : k = n + 1 := by omega
          have htold : toldL ts (n + 1) = ⟨ts, true⟩ := by
            unfold toldL
            rw [if_neg (by rw [HL.out]; omega)]
          rw [htold] at HD
          have HWh : Hid (∀ W, LsAt W q ⟨ts, true⟩ → Calls Tryd.prog 10 #[.pointer (some ⟨q, 0, none⟩)] W fun e w' => e = .returned (.bool true) ∧ w' = W) := fun W h => whole_any h
          have HNm : Hid (∀ W, LsAt W q ⟨ts, true⟩ → Calls Tryd.prog 12 #[.pointer (some ⟨q, 0, none⟩)] W fun e w' => ∃ A c, e = .returned (.slice A n c) ∧ Hid (TSrc w' A n ts) ∧ Hid (Only (fun _ => False) W w')) := fun W h => by
            have := names_any h
            rw [show (Ls.mk ts true).names.length = n from HL.out] at this
            exact this
          have HSm : Hid (∀ (W : World) (A' : Option Addr) (c' : Nat), TSrc W A' n ts → TSrc W A n ts → Calls Tryd.prog 11 #[.slice A' n c', .slice A n cap] W fun e w' => e = .returned (.bool true) ∧ w' = W) := fun W A' c' h h' => by
            have := sameTexts_any (ca := c') (cb := cap) h h' (by omega)
            rw [decide_eq_true rfl] at this
            exact this
          clear htold
          go_wp2_with (first
            | (go_at_call 10; (with_reducible refine (HWh.out _ HD.out.2.1).mono ?_); rintro e w' ⟨rfl, e1⟩; subst w')
            | (go_at_call 12; (with_reducible refine (HNm.out _ HD.out.2.1).mono ?_); rintro e w8 ⟨A8, c8, rfl, hs8, ho8⟩; have HO8 : Hid (Only (fun _ => False) w w8) := HD.out.2.2.trans ho8.out (fun _ h => h.elim))
            | (go_at_call 11; (with_reducible refine (HSm.out _ _ _ hs8.out (HS.out.same HO8.out)).mono ?_); rintro e w' ⟨rfl, e1⟩; subst w'))
          go_ret
          exact ⟨rfl, HO8.out⟩

theorem ttypeGathers_walk (W : World) {A : Option Addr} {n cap fuel : Nat} {H : Type} {enc : TypeId × Value → H} {x : DataW H × List MemPlace} (hf : DataW.trod enc Tryd.prog W 0 (fun _ => true) true fuel 22 [.slice A n cap] = some x) {es : List Addr} (hes : ErrsOf W [0, 2, 3, 4, 5] es) :
    Calls Tryd.prog 5 #[.slice A n cap] W (Fine W) := by
  obtain ⟨ts, hs, hnc, hcap, _⟩ := opened_texts hf
  cases h : fewT ts 20 60 with
  | false => exact tgathers_many W hs (by omega) h
  | true =>
    by_cases hb : n < 1 ∨ 8 < n ∨ ts.all okT = false
    · exact tgathers_none hes cap hs h hb
    · refine tgathers_ok cap hs h (by omega) (by omega) ?_
      cases ho : ts.all okT with
      | true => rfl
      | false => exact absurd (.inr (.inr ho)) hb
end Go.Proofs.YtjdfdgmfkpdfbaaDoor
