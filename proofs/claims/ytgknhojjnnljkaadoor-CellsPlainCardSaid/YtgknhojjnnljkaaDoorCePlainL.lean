/- CellsPlain: plain texts, a line each, stand as they are. -/
import Derived.Test.YtgknhojjnnljkaaDoorCePlainS
import Derived.Test.YtgknhojjnnljkaaDoorCeAlive
import Derived.Test.YtgknhojjnnljkaaDoorTextBytes
namespace Go.Proofs.YtgknhojjnnljkaaDoor
open Go Go.RowKit
set_option maxRecDepth 100000
set_option maxHeartbeats 4000000

/-- A screen made behind w. -/
structure LAt (w : World) (p : Nat) (S : Sc) (W : World) : Prop where
  s : ∃ F, ScAt W p F S ∧ ∀ k, F k → w.heap.size ≤ k
  o : Only (fun _ => False) w W
section
variable {w W W' : World} {p : Nat} {S S' : Sc}
theorem LAt.same (h : LAt w p S W) (ho : Only (fun _ => False) W W') : LAt w p S W' := by
  obtain ⟨F, h1, h2⟩ := h.s
  exact ⟨⟨F, h1.same ho, h2⟩, h.o.trans ho (fun _ h => h.elim)⟩
theorem LAt.gone {F : Nat → Prop} (h : LAt w p S W) (hf : ∀ k, F k → w.heap.size ≤ k) (hg : Goes p F S' W W') : LAt w p S' W' := by
  obtain ⟨F', h1, h2, h3⟩ := hg
  refine ⟨⟨F', h1, fun k hk => ?_⟩, h.o.trans h2 (fun i hi => .inr (hf i hi))⟩
  rcases h3 k hk with h4 | h4
  · exact hf k h4
  · exact Nat.le_trans h.o.size h4
theorem LAt.ok (h : LAt w p S W) : S.Ok := by obtain ⟨F, h1, _⟩ := h.s; exact h1.ok
/-- New bytes are written. -/
theorem lat_write (h : LAt w p S W) (ho : Only (fun _ => False) W W') {A : Option Addr} {n : Nat} (c : Nat) {xs : List UInt8} (hs : Src W' A n xs) (hn : n ≤ 1048576) (hA : ∀ ad, A = some ad → W.heap.size ≤ ad.block) :
    Calls Tryd.prog 11 #[.pointer (some ⟨p, 0, none⟩), .slice A n c] W' fun e w' => e = .returned (.tuple #[]) ∧ Hid (LAt w p (S.puts xs) w') := by
  obtain ⟨F, h1, h2⟩ := h.s
  refine (write_any (h1.same ho) c hs hn (fun _ ad e hf => ?_)).mono fun e w' ⟨e1, e2⟩ => ⟨e1, (h.same ho).gone h2 e2.out⟩
  have h3 := hA ad e
  have h4 := h1.lt _ hf
  omega
theorem lat_line (h : LAt w p S W) (i : Int) : Calls Tryd.prog 21 #[.pointer (some ⟨p, 0, none⟩), .int .i64 i] W fun e w' => e = .returned (S8 (S.line i)) ∧ w' = W := by
  obtain ⟨F, h1, _⟩ := h.s
  exact line_any h1 i
theorem lat_cursor (h : LAt w p S W) : Calls Tryd.prog 20 #[.pointer (some ⟨p, 0, none⟩)] W fun e w' => e = .returned (.complex .f64 (fl (S.x : Int)) (fl (S.y : Int))) ∧ w' = W := by
  obtain ⟨F, h1, _⟩ := h.s
  exact cursor_any h1
theorem lat_ff (h : LAt w p S W) : Calls Tryd.prog 23 #[.pointer (some ⟨p, 0, none⟩), .int .u8 12] W fun e w' => e = .returned (.tuple #[]) ∧ Hid (LAt w p (S.put 12) w') := by
  obtain ⟨F, h1, h2⟩ := h.s
  exact (put_any h1 12).mono fun e w' ⟨e1, e2⟩ => ⟨e1, h.gone h2 e2.out⟩
end

theorem plain_out (w : World) (A : Option Addr) (m d : Nat) (c : Int) (h : m < 1 ∨ 20 < m ∨ c < 1 ∨ 60 < c) : Calls Tryd.prog 5 #[.slice A m d, .int .i64 c] w (Fine w) := by
  have HA := Lib.hid (fun W => ce_alive W)
  by_cases h1 : m < 1
  · have i1 : (m : Int) < 1 := by omega
    clear h
    go_enter Tryd.func5, Tryd.ntmps5
    go_wp2_with (go_at_call 6; (with_reducible refine (HA.out _).mono ?_); rintro e w1 ⟨rfl, ho1⟩)
    go_ret
    exact ⟨rfl, ho1.out⟩
  have i1 : ¬ (m : Int) < 1 := by omega
  by_cases h2 : 20 < m
  · have i2 : (20 : Int) < (m : Int) := by omega
    clear h
    go_enter Tryd.func5, Tryd.ntmps5
    go_wp2_with (go_at_call 6; (with_reducible refine (HA.out _).mono ?_); rintro e w1 ⟨rfl, ho1⟩)
    go_ret
    exact ⟨rfl, ho1.out⟩
  have i2 : ¬ (20 : Int) < (m : Int) := by omega
  by_cases h3 : c < 1
  · clear h
    go_enter Tryd.func5, Tryd.ntmps5
    go_wp2_with (go_at_call 6; (with_reducible refine (HA.out _).mono ?_); rintro e w1 ⟨rfl, ho1⟩)
    go_ret
    exact ⟨rfl, ho1.out⟩
  have h4 : 60 < c := by omega
  clear h
  go_enter Tryd.func5, Tryd.ntmps5
  go_wp2_with (go_at_call 6; (with_reducible refine (HA.out _).mono ?_); rintro e w1 ⟨rfl, ho1⟩)
  go_ret
  exact ⟨rfl, ho1.out⟩

theorem plain_in {w : World} {A : Option Addr} {m d : Nat} {ls : List (List UInt8)} (hs : TSrc w A m ls) (h1 : 1 ≤ m) (h2 : m ≤ 20) {c : Nat} (hc1 : 1 ≤ c) (hc2 : c ≤ 60) :
    Calls Tryd.prog 5 #[.slice A m d, .int .i64 (c : Int)] w (Fine w) := by
  have HA := Lib.hid (fun W => ce_alive W)
  have HN := Lib.hid (fun W => new_ok (w := W) hc1 hc2 h1 (show m ≤ 60 by omega))
  have HS := Lib.hid hs
  have i1 : ¬ (m : Int) < 1 := by omega
  have i2 : ¬ (20 : Int) < (m : Int) := by omega
  have i3 : ¬ (c : Int) < 1 := by omega
  have i4 : ¬ (60 : Int) < (c : Int) := by omega
  have kc := fun (w : World) (C : Array Value) (n c : Nat) => Lib.run_convert_bytes_const (P := Tryd.prog) w 34 5 C n c Tryd.underlying34 Tryd.underlying5
  clear hs
  go_enter Tryd.func5, Tryd.ntmps5
  go_wp2_with (first
    | (go_at_call 6; (with_reducible refine (HA.out _).mono ?_); rintro e w1 ⟨rfl, ho1⟩)
    | (go_at_call 7; (with_reducible refine (HN.out _).mono ?_); rintro e w2 ⟨p, F, rfl, hs2, hF2, ho2⟩; have HL2 : Hid (LAt w p (newSc c m) w2) := ⟨⟨F, hs2.out, fun k hk => Nat.le_trans ho1.out.size (hF2.out k hk)⟩, ho1.out.trans ho2.out (fun _ h => h.elim)⟩; clear hs2 hF2 ho2))
  clear i1 i2 i3 i4 HA HN ho1
  go_loopw [7, 8, 9, 46] (fun _ _ _ i W => ∃ k : Nat, k ≤ m ∧ i = .int .i64 (k : Int) ∧ Hid (LAt w p (stP c m ls k) W) ∧ Hid (∀ (i : Nat) (l : List UInt8), i < k → ls[i]? = some l → Plain c l)) (fun _ _ _ i _ => m - (intOf i).toNat)
  case atStart => exact ⟨0, Nat.zero_le _, rfl, HL2, fun i l h => absurd h (by omega)⟩
  case round =>
    clear HL2
    obtain ⟨k, hk, rfl, HL, HP⟩ := hrel
    by_cases hlt : k < m
    · obtain ⟨ad, l, rfl, hl, hcell⟩ := (HS.out.same HL.out.o).get hlt
      have HLk := Lib.hid hl
      clear hl
      obtain ⟨L, hL⟩ : ∃ L, L = l.length := ⟨_, rfl⟩
      have hz : (ByteArray.mk l.toArray).size = L := by rw [hL]; rfl
      have HLen := Lib.hid hL
      clear hL
      by_cases hlong : c ≤ L
      · have j1 : (c : Int) ≤ (L : Int) := by omega
        go_wp2
        go_ret
        exact ⟨rfl, HL.out.o⟩
      have j1 : ¬ (c : Int) ≤ (L : Int) := by omega
      by_cases hbl : ∃ b : Nat, L = b + 1 ∧ l[b]? = some 32
      · obtain ⟨b, rfl, hb⟩ := hbl
        have hg := str_get hb
        have j2 : (0 : Int) < ((b + 1 : Nat) : Int) := by omega
        clear hb
        go_wp2
        go_ret
        exact ⟨rfl, HL.out.o⟩
      have hlast : L = 0 ∨ ∃ (b : Nat) (x : UInt8), L = b + 1 ∧ l[b]? = some x ∧ x ≠ 32 := by
        cases L with
        | zero => exact .inl rfl
        | succ b =>
          obtain ⟨x, hx⟩ : ∃ x, l[b]? = some x := ⟨_, List.getElem?_eq_getElem (by have := HLen.out; omega)⟩
          exact .inr ⟨b, x, rfl, hx, fun e => hbl ⟨b, rfl, by rw [hx, e]⟩⟩
      have HLast := Lib.hid hlast
      clear hbl
      rcases hlast with hlast | ⟨b, x, hb1, hb2, hb3⟩
      focus
        have j2 : ¬ (0 : Int) < (L : Int) := by omega
        clear hlast
        go_wp2
      rotate_left
      focus
        have j2 : (0 : Int) < (L : Int) := by omega
        have j3 : ((L : Int) - 1) = (b : Int) := by omega
        have j4 : (0 : Int) ≤ (b : Int) := by omega
        have j5 : (b : Int) < (L : Int) := by omega
        have hg := str_get hb2
        have hne : ((x.toNat : Int) == 32) = false := beq_eq_false_iff_ne.2 fun e =>
          hb3 (UInt8.toNat_inj.1 (by have : x.toNat = 32 := by omega
                                     rw [this]; rfl))
        clear hb1 hb2 hb3
        go_wp2
      all_goals
        go_loop [9] (fun j => ∃ q : Nat, q ≤ L ∧ j = .int .i64 (q : Int) ∧ Hid (∀ (i : Nat) (b : UInt8), i < q → l[i]? = some b → shown b)) (fun j => L - (intOf j).toNat)
        case atStart => exact ⟨0, Nat.zero_le _, rfl, fun i b h => absurd h (by omega)⟩
        case round =>
          obtain ⟨q, hq, rfl, HSh⟩ := hrel
          by_cases hlt2 : q < L
          · obtain ⟨y, hy⟩ : ∃ y, l[q]? = some y := ⟨_, List.getElem?_eq_getElem (by rw [← HLen.out]; exact hlt2)⟩
            have hgy := str_get hy
            have HY := Lib.hid hy
            have hyb := y.toNat_lt
            clear hy
            have q1 : (q : Int) < (L : Int) := by omega
            rcases (by omega : y.toNat < 32 ∨ 126 < y.toNat ∨ (32 ≤ y.toNat ∧ y.toNat ≤ 126)) with h3 | h3 | ⟨h3, h4⟩
            · have hd3 : decide ((y.toNat : Int) < 32) = true := by simp; omega
              go_wp2
              go_ret
              exact ⟨rfl, HL.out.o⟩
            · have hd3 : decide ((y.toNat : Int) < 32) = false := by simp; omega
              have hd4 : decide ((126 : Int) < (y.toNat : Int)) = true := by simp; omega
              go_wp2
              go_ret
              exact ⟨rfl, HL.out.o⟩
            · have hd3 : decide ((y.toNat : Int) < 32) = false := by simp; omega
              have hd4 : decide ((126 : Int) < (y.toNat : Int)) = false := by simp; omega
              have HB : Hid (shown y) := ⟨h3, h4⟩
              clear h3 h4
              go_wp2
              go_round
              case rel =>
                refine ⟨q + 1, by omega, by go_num, fun i b hi hb => ?_⟩
                rcases Nat.lt_or_ge i q with h5 | h5
                · exact HSh.out i b h5 hb
                · obtain rfl : i = q := by omega
                  have h6 := HY.out
                  rw [h6] at hb
                  injection hb with hb
                  rw [← hb]
                  exact HB.out
              case measure => simp [intOf]; omega
          · obtain rfl : q = L := by omega
            have hpl : Plain c l := by
              refine ⟨by rw [← HLen.out]; omega, fun b hb e => ?_, fun b hb => ?_⟩
              · rcases HLast.out with h5 | ⟨b', x', e1, e2, e3⟩
                · have := (List.getElem?_eq_some_iff.1 hb).1
                  have := HLen.out
                  omega
                · rw [← HLen.out, e1, Nat.add_sub_cancel, e2] at hb
                  injection hb with hb
                  exact e3 (hb.trans e)
              · obtain ⟨i, hi⟩ := List.getElem?_of_mem hb
                exact HSh.out i b (by rw [HLen.out]; exact (List.getElem?_eq_some_iff.1 hi).1) hi
            have HPl := Lib.hid hpl
            have HNx : Hid (∀ (i : Nat) (l : List UInt8), i < k + 1 → ls[i]? = some l → Plain c l) := fun i l' hi hl' => by
              rcases Nat.lt_or_ge i k with h5 | h5
              · exact HP.out i l' h5 hl'
              · obtain rfl : i = k := by omega
                rw [HLk.out] at hl'
                injection hl' with hl'
                rw [← hl']
                exact HPl.out
            have hl20 : l.length ≤ 1048576 := by rw [← HLen.out]; omega
            clear HSh HLast hpl hcell
            by_cases hk0 : k = 0
            · subst hk0
              obtain ⟨cp, W', hcv, hcp1, hcp2, hsrc, hoW⟩ := text_bytes wr l hl20
              have HW2 := lat_write HL.out hoW.out cp hsrc.out hl20 (fun ad e => by injection e with e; subst e; exact Nat.le_refl _)
              rw [stP_first HLk.out HPl.out hlt] at HW2
              have HW2 := Lib.hid HW2
              clear hsrc hoW hcp1 hcp2 hl20
              go_wp2_with (go_at_call 11; (with_reducible refine HW2.out.mono ?_); rintro e w6 ⟨rfl, h6⟩)
              go_roundw
              case rel => exact ⟨1, by omega, by go_num, h6, HNx⟩
              case measure => simp [intOf]; omega
            · have hk1 : (0 : Int) < (k : Int) := by omega
              have HW1 : Hid (∀ fr : Nat × Nat, Calls Tryd.prog 11 #[.pointer (some ⟨p, 0, none⟩), .slice (some ⟨wr.heap.size, 0, none⟩) 2 2] (wr.alloc (.cells #[.int .u8 13, .int .u8 10] 5 fr)) fun e w' => e = .returned (.tuple #[]) ∧ Hid (LAt w p ⟨c, 0, k, cutRows ls c m k⟩ w')) := fun fr => by
                have := lat_write HL.out ((Only.refl (fun _ => False) wr).alloc (.cells #[.int .u8 13, .int .u8 10] 5 fr)) 2 (src_new wr [13, 10] _ _ _ 2 rfl rfl) (by omega) (fun ad e => by injection e with e; subst e; exact Nat.le_refl _)
                rw [stP_crlf (by omega) hlt HS.out.1.symm] at this
                exact this
              have HStp := Lib.hid (stP_line (R := m) HLk.out HPl.out hlt)
              have HW2 : Hid (∀ W W' A cp, LAt w p ⟨c, 0, k, cutRows ls c m k⟩ W → Only (fun _ => False) W W' → Src W' A l.length l → (∀ ad, A = some ad → W.heap.size ≤ ad.block) → Calls Tryd.prog 11 #[.pointer (some ⟨p, 0, none⟩), .slice A l.length cp] W' fun e w' => e = .returned (.tuple #[]) ∧ Hid (LAt w p (stP c m ls (k + 1)) w')) := fun W W' A cp h ho hs hA => by
                have := lat_write h ho cp hs hl20 hA
                rw [HStp.out] at this
                exact this
              have HL20 := Lib.hid hl20
              clear hl20
              go_wp2_with (first
                | (go_at_call 11; (with_reducible refine (HW1.out _).mono ?_); rintro e w5 ⟨rfl, h5⟩; obtain ⟨cp, W', hcv, hcp1, hcp2, hsrc, hoW⟩ := text_bytes w5 l HL20.out; have HW3 := Lib.hid (HW2.out _ _ _ cp h5.out hoW.out hsrc.out (fun ad e => by injection e with e; subst e; exact Nat.le_refl _)); clear hsrc hoW hcp1 hcp2 HW1)
                | (go_at_call 11; (with_reducible refine HW3.out.mono ?_); rintro e w6 ⟨rfl, h6⟩))
              go_roundw
              case rel => exact ⟨k + 1, by omega, by go_num, h6, HNx⟩
              case measure => simp [intOf]; omega
    · obtain rfl : k = m := by omega
      go_wp2
      have hall : ∀ l ∈ ls, Plain c l := fun l hl => by
        obtain ⟨i, hi⟩ := List.getElem?_of_mem hl
        exact HP.out i l (by rw [← HS.out.1]; exact (List.getElem?_eq_some_iff.1 hi).1) hi
      have HAll := Lib.hid hall
      have HLn := Lib.hid (stP_lines (R := k) HS.out.1.symm h1 hall)
      clear hall HP
      obtain ⟨S, hS⟩ : ∃ S, S = stP c k ls k := ⟨_, rfl⟩
      rw [← hS] at HL HLn
      have HSd := Lib.hid hS
      clear hS
      go_loop [10, 11, 97] (fun _ _ i => ∃ j : Nat, j ≤ k ∧ i = .int .i64 (j : Int)) (fun _ _ i => k - (intOf i).toNat)
      case atStart => exact ⟨0, Nat.zero_le _, rfl⟩
      case round =>
        obtain ⟨j, hj, rfl⟩ := hrel
        by_cases hlt : j < k
        · obtain ⟨ad, l, rfl, hl, hcell⟩ := (HS.out.same HL.out.o).get hlt
          have HC := lat_line HL.out (j : Int)
          rw [HLn.out j l hl] at HC
          have HC := Lib.hid HC
          clear hl
          go_wp2_with (go_at_call 21; (with_reducible refine HC.out.mono ?_); rintro e w6 ⟨rfl, e2⟩; subst w6)
          go_round
          case rel => exact ⟨j + 1, by omega, by go_num⟩
          case measure => simp [intOf]; omega
        · obtain rfl : j = k := by omega
          obtain ⟨J, hJ⟩ : ∃ J, J = j - 1 := ⟨_, rfl⟩
          obtain ⟨ad, l, rfl, hl, hcell⟩ := (HS.out.same HL.out.o).get (k := J) (by omega)
          have hdim := stP_dim (c := c) (R := j) (ls := ls) HS.out.1.symm h1
          rw [← HSd.out, ← hJ, List.getD_eq_getElem?_getD, hl, Option.getD_some] at hdim
          obtain ⟨d1, d2, d3, d4⟩ := hdim
          obtain ⟨L, hL⟩ : ∃ L, L = l.length := ⟨_, rfl⟩
          have hz : (ByteArray.mk l.toArray).size = L := by rw [hL]; rfl
          have HC : Hid (∀ W, Only (fun _ => False) wr W → Calls Tryd.prog 20 #[.pointer (some ⟨p, 0, none⟩)] W fun e w' => e = .returned (.complex .f64 (fl (L : Int)) (fl (J : Int))) ∧ w' = W) := fun W ho => by
            have := lat_cursor (HL.out.same ho)
            rw [d3, d4, ← hL] at this
            exact this
          have hLc : L < c := by rw [hL]; exact (HAll.out l (List.mem_of_getElem? hl)).len
          have e1 : (FloatKind.f64.format.order (fl (L : Int)) (fl (L : Int)) == some .eq) = true := by rw [fl_eq (by omega) (by omega) (by omega) (by omega), decide_eq_true rfl]
          have e2 : (FloatKind.f64.format.order (fl (J : Int)) (fl (J : Int)) == some .eq) = true := by rw [fl_eq (by omega) (by omega) (by omega) (by omega), decide_eq_true rfl]
          have q1 : (j : Int) - 1 = (J : Int) := by omega
          have q2 : (J : Int) < (j : Int) := by omega
          have q3 : IntKind.i64.wrap (J : Int) = (J : Int) := IntWalk.i64_in _ (by omega)
          have HD := Lib.hid (And.intro d1 d2)
          clear hl hL d1 d2 d3 d4 hJ
          go_wp2_with fail
          have HCd := Lib.hid (HC.out _ ((Only.refl (fun _ => False) wr).drew))
          refine region_tail 15 (by kernel_rfl) (by kernel_rfl) ?_
          simp only [List.take_succ_cons, List.take_zero, List.drop_succ_cons, List.drop_zero]
          repeat (first | still_step | still_call HCd.out)
          refine wpStill_nil ?_
          have HLd := Lib.hid (HL.out.same ((Only.refl (fun _ => False) wr).drew))
          have HFf := lat_ff HLd.out
          rw [put_ff, HD.out.1, HD.out.2] at HFf
          have HFf := Lib.hid HFf
          clear HC HCd hcell
          go_wp2_with (first
            | (go_at_call 23; (with_reducible refine HFf.out.mono ?_); rintro e w7 ⟨rfl, h7⟩)
            | fail)
          have HCl : Hid (∀ i : Nat, Calls Tryd.prog 21 #[.pointer (some ⟨p, 0, none⟩), .int .i64 (i : Int)] w7 fun e w' => e = .returned (.string ⟨#[]⟩) ∧ w' = w7) := fun i => by
            have := lat_line h7.out (i : Int)
            rw [clear_line] at this
            exact this
          have HCu : Hid (Calls Tryd.prog 20 #[.pointer (some ⟨p, 0, none⟩)] w7 fun e w' => e = .returned (.complex .f64 0 0) ∧ w' = w7) := by
            have := lat_cursor h7.out
            rw [show ((⟨c, 0, 0, List.replicate j (blank c)⟩ : Sc).x : Int) = 0 from rfl, fl_zero] at this
            exact this
          have hz0 : (FloatKind.f64.format.order 0 0 == some .eq) = true := by decide +kernel
          clear HFf e1 e2 q1 q2 hz
          go_loop [12, 128] (fun _ i => ∃ q : Nat, q ≤ j ∧ i = .int .i64 (q : Int)) (fun _ i => j - (intOf i).toNat)
          case atStart => exact ⟨0, Nat.zero_le _, rfl⟩
          case round =>
            obtain ⟨q, hq, rfl⟩ := hrel
            by_cases hlt2 : q < j
            · go_wp2_with (go_at_call 21; (with_reducible refine (HCl.out _).mono ?_); rintro e w8 ⟨rfl, e2⟩; subst w8)
              go_round
              case rel => exact ⟨q + 1, by omega, by go_num⟩
              case measure => simp [intOf]; omega
            · go_wp2_with (go_at_call 20; (with_reducible refine HCu.out.mono ?_); rintro e w8 ⟨rfl, e2⟩; subst w8)
              go_ret
              exact ⟨rfl, h7.out.o⟩
end Go.Proofs.YtgknhojjnnljkaaDoor
