/- Package ring of the program, where a ring lies inside a larger block (a field of a struct): one contract for each of its functions. -/
import Derived.Test.YtpabhgkamekcnaaDoorErrSel
import Derived.Outline
import Derived.Deep.Slices
namespace Go.Proofs.YtpabhgkamekcnaaDoor
open Go Go.RowKit
set_option maxRecDepth 100000

/-- The cells from ko on of block p are a ring over block g, with so much room: all that ever came, and how much of it went. -/
structure InRing (w : World) (p ko : Nat) (tp : TypeId) (fs : List Value) (g room : Nat) (all : List UInt8) (went : Nat) : Prop where
  head : Blk w p tp fs
  f0 : fs[ko]? = some (.slice (some ⟨g, 0, none⟩) room room)
  f1 : fs[ko + 1]? = some (.int .i64 (all.length : Int))
  f2 : fs[ko + 2]? = some (.int .i64 (went : Int))
  body : ∃ cs, Blk w g 5 cs ∧ cs.length = room ∧ ∀ (i : Nat) (x : UInt8), went ≤ i → all[i]? = some x → cs[i % room]? = some (B8 x)
  ne : p ≠ g
  pos : 1 ≤ room
  top : room ≤ 4096
  back : went ≤ all.length
  fits : all.length ≤ went + room
  far : all.length ≤ 1099511627776

section
variable {w w' : World} {p ko : Nat} {tp : TypeId} {fs : List Value} {g room went : Nat} {all : List UInt8}
theorem InRing.keep (h : InRing w p ko tp fs g room all went) (hp : ∀ i t cs, (i = p ∨ i = g) → Blk w i t cs → Blk w' i t cs) : InRing w' p ko tp fs g room all went :=
  ⟨hp _ _ _ (.inl rfl) h.head, h.f0, h.f1, h.f2, by obtain ⟨cs, h1, h2⟩ := h.body; exact ⟨cs, hp _ _ _ (.inr rfl) h1, h2⟩, h.ne, h.pos, h.top, h.back, h.fits, h.far⟩
theorem InRing.only {S : Nat → Prop} (h : InRing w p ko tp fs g room all went) (ho : Only S w w') (h1 : ¬ S p) (h2 : ¬ S g) : InRing w' p ko tp fs g room all went :=
  h.keep fun i t cs hi hb => hb.only ho (by rcases hi with rfl | rfl <;> assumption)
/-- A cell of the block that isn't the ring's has turned. -/
theorem InRing.beside (h : InRing w p ko tp fs g room all went) {fs' : List Value} (hB : Blk w' p tp fs') (hg : ∀ t cs, Blk w g t cs → Blk w' g t cs) (h0 : fs'[ko]? = fs[ko]?) (h1 : fs'[ko + 1]? = fs[ko + 1]?) (h2 : fs'[ko + 2]? = fs[ko + 2]?) : InRing w' p ko tp fs' g room all went :=
  ⟨hB, h0.trans h.f0, h1.trans h.f1, h2.trans h.f2, by obtain ⟨cs, h1, h2⟩ := h.body; exact ⟨cs, hg _ _ h1, h2⟩, h.ne, h.pos, h.top, h.back, h.fits, h.far⟩
theorem InRing.c0 (h : InRing w p ko tp fs g room all went) : w.cell? ⟨p, ko, none⟩ = some (.slice (some ⟨g, 0, none⟩) room room) := by rw [h.head.cell ko]; exact h.f0
theorem InRing.c1 (h : InRing w p ko tp fs g room all went) : w.cell? ⟨p, ko + 1, none⟩ = some (.int .i64 (all.length : Int)) := by rw [h.head.cell (ko + 1)]; exact h.f1
theorem InRing.c2 (h : InRing w p ko tp fs g room all went) : w.cell? ⟨p, ko + 2, none⟩ = some (.int .i64 (went : Int)) := by rw [h.head.cell (ko + 2)]; exact h.f2
theorem InRing.g_lt (h : InRing w p ko tp fs g room all went) : g < w.heap.size := by obtain ⟨cs, h1, _⟩ := h.body; exact h1.lt
end
theorem get_set_eq {fs : List Value} {i : Nat} {u v : Value} (h : fs[i]? = some u) : (fs.set i v)[i]? = some v := by
  have := (List.getElem?_eq_some_iff.1 h).1
  simp [this]
theorem get_set_ne {fs : List Value} {i j : Nat} {v : Value} (h : i ≠ j) : (fs.set i v)[j]? = fs[j]? := List.getElem?_set_ne h

theorem info_byte : (Tryd.prog.info? 5).map (fun i => (i.zero, i.size, i.bytes)) = some (some (.int .u8 0), 1, 1) := by kernel_rfl
theorem make_bytes (m : Nat) (hm : m ≤ 281474976710656) (W : World) : (Instr.makeSlice 35 (.int .i64 (m : Int)) (.int .i64 (m : Int))).run Tryd.prog W = .ok (.slice (some ⟨W.heap.size, 0, none⟩) m m) (W.alloc (.cells (zeros m).toArray 5)) := by
  obtain ⟨i, hi, hz, h1, h2⟩ := info_parts info_byte
  exact run_make_bytes _ _ i Tryd.underlying35 hi hz h1 h2 _ _ m hm W
theorem ret_int {k : IntKind} {a b : Int} (h : a = b) : Ending.returned (.int k a) = .returned (.int k b) := by rw [h]

/-- What only reads. -/
theorem len_any {w : World} {p ko : Nat} {tp : TypeId} {fs : List Value} {g room went : Nat} {all : List UInt8} (h : InRing w p ko tp fs g room all went) :
    Calls Tryd.prog 31 #[.pointer (some ⟨p, ko, none⟩)] w fun e w' => e = .returned (.int .i64 ((all.length - went : Nat) : Int)) ∧ ∃ n, w' = w.drewN n := by
  have c1 := h.c1
  have c2 := h.c2
  have hb := h.back
  have hf := h.far
  have e : ((all.length - went : Nat) : Int) = (all.length : Int) - (went : Int) := by omega
  rw [e]
  generalize all.length = came at *
  clear e h
  go_enter Tryd.func31, Tryd.ntmps31
  go_wp2_with fail
  go_quiet (fail)
  go_wp2
  go_ret
  exact ⟨rfl, _, rfl⟩

theorem room_any {w : World} {p ko : Nat} {tp : TypeId} {fs : List Value} {g room went : Nat} {all : List UInt8} (h : InRing w p ko tp fs g room all went) :
    Calls Tryd.prog 33 #[.pointer (some ⟨p, ko, none⟩)] w fun e w' => e = .returned (.int .i64 ((room - (all.length - went) : Nat) : Int)) ∧ ∃ n, w' = w.drewN n := by
  have c0 := h.c0
  have hb := h.back
  have hf := h.far
  have hx := h.fits
  have ht := h.top
  have C : ∀ n, Calls Tryd.prog 31 #[.pointer (some ⟨p, ko, none⟩)] (w.drewN n) fun e w' => e = .returned (.int .i64 ((all.length - went : Nat) : Int)) ∧ ∃ m, w' = (w.drewN n).drewN m :=
    fun n => len_any (h.keep fun _ _ _ _ hb => hb.drewN n)
  have e : ((room - (all.length - went) : Nat) : Int) = (room : Int) - ((all.length - went : Nat) : Int) := by omega
  rw [e]
  have hk : all.length - went ≤ room := by omega
  generalize all.length - went = k at *
  have HC := Lib.hid C
  clear C e h hb hf hx
  go_enter Tryd.func33, Tryd.ntmps33
  go_wp2_with fail
  go_quiet ((go_at_call 31; exact Calls.quiet_of (HC.out _)))
  go_wp2
  go_ret
  exact ⟨rfl, _, rfl⟩

theorem cell_any {w : World} {p ko g room : Nat} (c0 : w.cell? ⟨p, ko, none⟩ = some (.slice (some ⟨g, 0, none⟩) room room)) (k : Nat) (hr : 1 ≤ room) (hr' : room ≤ 4096) (hk : k ≤ 1099511627776) :
    Calls Tryd.prog 40 #[.pointer (some ⟨p, ko, none⟩), .int .i64 (k : Int)] w fun e w' => e = .returned (.int .i64 ((k % room : Nat) : Int)) ∧ w = w' := by
  have hz : ((room : Int) == 0) = false := by rw [beq_eq_false_iff_ne]; omega
  go_enter Tryd.func40, Tryd.ntmps40
  go_wp2
  go_ret
  exact ⟨by first | rfl | simp, rfl⟩

/-- How many of n asked bytes there are. -/
def asked (n : Int) (k : Nat) : Nat := (max 0 (min n (k : Int))).toNat
theorem waiting_any {w : World} {p ko : Nat} {tp : TypeId} {fs : List Value} {g room went : Nat} {all : List UInt8} (h : InRing w p ko tp fs g room all went) (n : Int) :
    Calls Tryd.prog 42 #[.pointer (some ⟨p, ko, none⟩), .int .i64 n] w fun e w' => e = .returned (.int .i64 ((asked n (all.length - went) : Nat) : Int)) ∧ ∃ n, w' = w.drewN n := by
  have C := len_any h
  generalize all.length - went = k at *
  have HC := Lib.hid C
  clear C h
  go_enter Tryd.func42, Tryd.ntmps42
  go_wp2_with (go_at_call 31; refine HC.out.mono ?_; rintro e w' ⟨rfl, m, rfl⟩)
  all_goals
    go_ret
    refine ⟨ret_int ?_, _, rfl⟩
    unfold asked
    grind

theorem asked_le (n : Int) (k : Nat) : asked n k ≤ k := by unfold asked; omega
theorem counts_any {w : World} {p ko : Nat} {tp : TypeId} {fs : List Value} {g room went : Nat} {all : List UInt8} (h : InRing w p ko tp fs g room all went) :
    Calls Tryd.prog 32 #[.pointer (some ⟨p, ko, none⟩)] w fun e w' => e = .returned (.tuple #[.int .i64 (all.length : Int), .int .i64 (went : Int)]) ∧ ∃ n, w' = w.drewN n := by
  have c1 := h.c1
  have c2 := h.c2
  generalize all.length = came at *
  clear h
  go_enter Tryd.func32, Tryd.ntmps32
  go_wp2_with fail
  first | go_quiet (fail) | skip
  go_wp2
  go_ret2
  exact ⟨rfl, _, rfl⟩

/-- What is read of a ring: the first bytes that wait. -/
def first (all : List UInt8) (went m : Nat) : List UInt8 := (all.drop went).take m
theorem length_first (all : List UInt8) (went m : Nat) (h : went + m ≤ all.length) : (first all went m).length = m := by
  simp [first]; omega

theorem get_first {all : List UInt8} {went m j : Nat} {x : UInt8} (h : (first all went m)[j]? = some x) : j < m ∧ all[went + j]? = some x := by
  unfold first at h
  rw [List.getElem?_take] at h
  split at h
  · rw [List.getElem?_drop] at h
    exact ⟨by assumption, h⟩
  · cases h
/-- The bytes up to the end of the cells, and those from their beginning on. -/
theorem src_head {w : World} {p ko : Nat} {tp : TypeId} {fs : List Value} {g room went : Nat} {all : List UInt8} (h : InRing w p ko tp fs g room all went) (m n : Nat) (hn : ((first all went m).take (room - went % room)).length = n) :
    Src w (some ⟨g, went % room, none⟩) n ((first all went m).take (room - went % room)) := by
  refine ⟨hn, fun _ => ⟨_, rfl, fun j x hx => ?_⟩⟩
  rw [List.getElem?_take] at hx
  split at hx
  · obtain ⟨_, h2⟩ := get_first hx
    obtain ⟨cs, hb, hl, hc⟩ := h.body
    have hm : (went + j) % room = went % room + j := by
      rw [Nat.add_mod, Nat.mod_eq_of_lt (a := j) (by have := Nat.mod_lt went (y := room) h.pos; omega), Nat.mod_eq_of_lt (by omega)]
    have := hc (went + j) x (by omega) h2
    rw [hm] at this
    rw [show (⟨g, went % room, none⟩ : Addr).add j = ⟨g, went % room + j, none⟩ from by unfold Addr.add; split <;> simp_all]
    rw [hb.cell]
    exact this
  · cases hx
theorem src_rest {w : World} {p ko : Nat} {tp : TypeId} {fs : List Value} {g room went : Nat} {all : List UInt8} (h : InRing w p ko tp fs g room all went) (m n : Nat) (hm : m ≤ room) (hn : ((first all went m).drop (room - went % room)).length = n) :
    Src w (some ⟨g, 0, none⟩) n ((first all went m).drop (room - went % room)) := by
  refine ⟨hn, fun _ => ⟨_, rfl, fun j x hx => ?_⟩⟩
  rw [List.getElem?_drop] at hx
  obtain ⟨h1, h2⟩ := get_first hx
  obtain ⟨cs, hb, hl, hc⟩ := h.body
  have hlt := Nat.mod_lt went (y := room) h.pos
  have hmod : (went + (room - went % room + j)) % room = j := by
    have e : went + (room - went % room + j) = j + room * (went / room + 1) := by
      have := Nat.div_add_mod went room
      rw [Nat.mul_add, Nat.mul_one]
      omega
    rw [e, Nat.add_mul_mod_self_left, Nat.mod_eq_of_lt (by omega)]
  have := hc _ x (by omega) h2
  rw [hmod] at this
  rw [show (⟨g, 0, none⟩ : Addr).add j = ⟨g, j, none⟩ from by unfold Addr.add; split <;> simp_all]
  rw [hb.cell]
  exact this
theorem splice_two {α : Type} (Z X Y : List α) (d : Nat) (hd : X.length = d) (hz : Z.length = d + Y.length) : splice (splice Z 0 X) d Y = X ++ Y := by
  subst hd
  have e : splice Z 0 X = X ++ Z.drop X.length := by simp [splice]
  rw [e, splice]
  have e2 : (X ++ Z.drop X.length).drop (X.length + Y.length) = [] := by
    apply List.drop_eq_nil_of_le; simp; omega
  rw [e2]
  simp
theorem size_byte : (Tryd.prog.info? 5).map (·.size) = some 1 := by
  obtain ⟨i, hi, _, h1, _⟩ := info_parts info_byte
  rw [hi]
  simp [h1]

set_option maxHeartbeats 400000 in
/-- Peek. -/
theorem peek_some {w : World} {p ko : Nat} {tp : TypeId} {fs : List Value} {g room went : Nat} {all : List UInt8} (h : InRing w p ko tp fs g room all went) (n : Int) (hpos : 0 < asked n (all.length - went)) :
    Calls Tryd.prog 41 #[.pointer (some ⟨p, ko, none⟩), .int .i64 n] w fun e w' =>
      e = .returned (.slice (some ⟨w.heap.size, 0, none⟩) (asked n (all.length - went)) (asked n (all.length - went))) ∧
      Blk w' w.heap.size 5 ((first all went (asked n (all.length - went))).map B8) ∧ w.heap.size < w'.heap.size ∧ Only (fun _ => False) w w' := by
  have C := waiting_any h n
  have hle := asked_le n (all.length - went)
  generalize hm : asked n (all.length - went) = m at *
  have hb := h.back
  have hf := h.far
  have hp := h.pos
  have ht := h.top
  have hfit := h.fits
  have hmz : ((m : Int) == 0) = false := by rw [beq_eq_false_iff_ne]; omega
  have HC := Lib.hid C
  have hIs := Lib.hid h
  clear C hm h
  have hmk := make_bytes m (by omega)
  go_enter Tryd.func41, Tryd.ntmps41
  go_wp2_with (go_at_call 42; refine HC.out.mono ?_; rintro e w' ⟨rfl, q, rfl⟩)
  have HO := Lib.hid (((Only.refl (fun _ => False) w).drewN q).alloc (.cells (zeros m).toArray 5))
  have HN := Lib.hid (Blk.new (w.drewN q) 5 (zeros m))
  have HS := Lib.hid (show w.heap.size < ((w.drewN q).alloc (.cells (zeros m).toArray 5)).heap.size by simp)
  have h := hIs.out.only HO.out (fun h => h) (fun h => h)
  have hg : g < w.heap.size := by obtain ⟨cs, h1, _⟩ := hIs.out.body; exact h1.lt
  have hIs' := hIs
  clear hIs HC hmk
  generalize (w.drewN q).alloc (.cells (zeros m).toArray 5) = W at *
  have HI := Lib.hid h
  have c0 := h.c0
  have c2 := h.c2
  have hr : went % room < room := Nat.mod_lt _ (by omega)
  have C := still_of (cell_any (w := W.drew) h.c0 went hp ht (by omega))
  generalize hc : went % room = c at *
  have Hc := Lib.hid hc
  have HC := Lib.hid C
  clear h C hc
  have hr2 : (c : Int) ≤ (room : Int) := by omega
  have hne : ¬ room = c := by omega
  refine region_tail 12 (by kernel_rfl) (by kernel_rfl) ?_
  simp only [List.take_succ_cons, List.take_zero, List.drop_succ_cons, List.drop_zero]
  repeat (first | still_step | still_call HC.out)
  refine wpStill_nil ?_
  have hlen := length_first all went m (by omega)
  obtain ⟨X, hX⟩ : ∃ X, X = (first all went m).take (room - c) := ⟨_, rfl⟩
  obtain ⟨Y, hY⟩ : ∃ Y, Y = (first all went m).drop (room - c) := ⟨_, rfl⟩
  have hXl : X.length = min (room - c) m := by rw [hX, List.length_take, hlen]
  have hYl : Y.length = m - (room - c) := by rw [hY, List.length_drop, hlen]
  have hXs : Src W.drew (some ⟨g, c, none⟩) X.length X := by
    have := src_head (HI.out.keep fun _ _ _ _ hb => hb.drew) m X.length
    rw [Hc.out] at this
    rw [hX] at this ⊢
    exact this rfl
  have hYs : Src W (some ⟨g, 0, none⟩) Y.length Y := by
    have := src_rest HI.out m Y.length (by omega)
    rw [Hc.out] at this
    rw [hY] at this ⊢
    exact this rfl
  have hXY : X ++ Y = first all went m := by rw [hX, hY, List.take_append_drop]
  have HXY := Lib.hid hXY
  have h1 : X.length ≤ m := by omega
  have HL := Lib.hid (show Y.length = Nat.min room (m - X.length) by show _ = min _ _; omega)
  have HM := Lib.hid (show m = X.length + Y.length by omega)
  have HXl := Lib.hid hXl
  clear hXY hX hY hXl hYl hlen
  refine step_copy rfl (.tmp 14) (.tmp 25) 35 35 rfl 5 Tryd.underlying35 size_byte _ _ _ _ _ _ rfl rfl w.heap.size 0 (zeros m) 5 HN.out.drew X
    (by show _ = Nat.min _ _; rw [HXl.out]) (fun _ => ⟨rfl, hXs⟩) (by rw [length_zeros]; omega) ?_
  intro w1 hB1 hz1 ho1
  go_wp2
  have hgN : ¬ g = w.heap.size := by omega
  have hpN : ¬ p = w.heap.size := by have := hIs'.out.head.lt; omega
  have HI1 := Lib.hid ((HI.out.keep (w' := W.drew) fun _ _ _ _ hb => hb.drew).only ho1 hpN hgN)
  have c01 := HI1.out.c0
  have hYs1 := (show Src W.drew _ _ _ from hYs).only ho1 (by rintro _ ad ⟨⟩; exact hgN)
  have HO1 := Lib.hid (HO.out.drew.trans ho1 (fun i hi => .inr (by omega)))
  clear c0 c2 hXs hYs ho1 hgN hpN HC HXl hne
  refine region_tail 7 (by kernel_rfl) (by kernel_rfl) ?_
  simp only [List.take_succ_cons, List.take_zero, List.drop_succ_cons, List.drop_zero]
  repeat still_step
  refine wpStill_nil ?_
  generalize hD : (if m = X.length then some (⟨w.heap.size, 0, none⟩ : Addr) else some ⟨w.heap.size, X.length, none⟩) = D
  have HD := Lib.hid hD
  clear hD
  refine step_copy rfl (.tmp 29) (.tmp 33) 35 35 rfl 5 Tryd.underlying35 size_byte _ _ _ _ _ _ rfl rfl w.heap.size X.length _ 5 hB1.out.drew Y
    HL.out (fun hp => ⟨by rw [← HD.out, if_neg (by have := HM.out; omega)], hYs1⟩) (by rw [length_splice _ _ _ (by rw [length_zeros, List.length_map]; omega), length_zeros]; have := HM.out; omega) ?_
  intro w2 hB2 hz2 ho2
  go_wp2
  · go_ret
    refine ⟨rfl, ?_, ?_, HO1.out.drew.trans ho2 (fun i hi => .inr (by omega))⟩
    · have := hB2.out
      rw [splice_two _ _ _ _ (by simp) (by rw [length_zeros, List.length_map]; exact HM.out), ← List.map_append, HXY.out] at this
      exact this
    · have e1 : w2.heap.size = w1.heap.size := hz2.out
      have e2 : w1.heap.size = W.heap.size := hz1.out
      have := HS.out
      omega

theorem peek_none {w : World} {p ko : Nat} {tp : TypeId} {fs : List Value} {g room went : Nat} {all : List UInt8} (h : InRing w p ko tp fs g room all went) (n : Int) (hz : asked n (all.length - went) = 0) :
    Calls Tryd.prog 41 #[.pointer (some ⟨p, ko, none⟩), .int .i64 n] w fun e w' => e = .returned (.slice none 0 0) ∧ ∃ q, w' = w.drewN q := by
  have C := waiting_any h n
  rw [hz] at C
  have HC := Lib.hid C
  clear C hz h
  go_enter Tryd.func41, Tryd.ntmps41
  go_wp2_with (go_at_call 42; refine HC.out.mono ?_; rintro e w' ⟨rfl, q, rfl⟩)
  go_ret
  exact ⟨rfl, _, rfl⟩
theorem first_zero (all : List UInt8) (went : Nat) : first all went 0 = [] := by simp [first]
/-- Peek, whatever is asked. -/
theorem peek_any {w : World} {p ko : Nat} {tp : TypeId} {fs : List Value} {g room went : Nat} {all : List UInt8} (h : InRing w p ko tp fs g room all went) (n : Int) :
    Calls Tryd.prog 41 #[.pointer (some ⟨p, ko, none⟩), .int .i64 n] w fun e w' => ∃ A m,
      e = .returned (.slice A m m) ∧ m = asked n (all.length - went) ∧ Made w.heap.size 5 w' A m (first all went m) ∧ Only (fun _ => False) w w' := by
  by_cases hz : asked n (all.length - went) = 0
  · refine (peek_none h n hz).mono ?_
    rintro e w' ⟨rfl, q, rfl⟩
    refine ⟨none, 0, rfl, hz.symm, ?_, (Only.refl _ _).drewN _⟩
    rw [first_zero]
    exact ⟨rfl, .inl ⟨rfl, rfl⟩⟩
  · refine (peek_some h n (by omega)).mono ?_
    rintro e w' ⟨rfl, hb, hs, ho⟩
    exact ⟨_, _, rfl, rfl, ⟨length_first _ _ _ (by have := asked_le n (all.length - went); have := h.back; omega), .inr ⟨_, rfl, Nat.le_refl _, hb⟩⟩, ho⟩

/-- Take. -/
theorem take_any {w : World} {p ko : Nat} {tp : TypeId} {fs : List Value} {g room went : Nat} {all : List UInt8} (h : InRing w p ko tp fs g room all went) (n : Int) :
    Calls Tryd.prog 37 #[.pointer (some ⟨p, ko, none⟩), .int .i64 n] w fun e w' => ∃ A m,
      e = .returned (.slice A m m) ∧ m = asked n (all.length - went) ∧ Made w.heap.size 5 w' A m (first all went m) ∧ InRing w' p ko tp (fs.set (ko + 2) (.int .i64 ((went + m : Nat) : Int))) g room all (went + m) ∧ Only (· = p) w w' := by
  have C := peek_any h n
  have hle := asked_le n (all.length - went)
  have hpl := h.head.lt
  have hb := h.back
  have hf := h.far
  have HC := Lib.hid C
  have hIs := Lib.hid h
  clear C h
  go_enter Tryd.func37, Tryd.ntmps37
  go_wp2_with fail
  refine HC.out.mono ?_
  rintro e w1 ⟨A, m, rfl, hm, hmade, ho⟩
  have hle' : m ≤ all.length - went := by omega
  have HM := Lib.hid hm
  have h1 := hIs.out.only ho (fun h => h) (fun h => h)
  have HI := Lib.hid h1
  have c2 := h1.c2
  have hfz := h1.head.frozen (ko + 2)
  have HMade := Lib.hid hmade
  have HO := Lib.hid ho
  clear hm h1 hmade ho hle
  go_wp2
  go_ret
  have h := HI.out
  have hset : Only (· = p) w1 (w1.setCell ⟨p, ko + 2, none⟩ (.int .i64 ((went : Int) + (m : Int)))) := (Only.refl (· = p) w1).setCell (p := ⟨p, ko + 2, none⟩) (.inl rfl) _
  refine ⟨A, m, rfl, HM.out, HMade.out.only hset (fun i h1 h2 h3 => by omega), ?_, (HO.out.mono (fun i hi => hi.elim)).trans hset (fun i hi => .inl hi)⟩
  obtain ⟨cs, h1, h2, h3⟩ := h.body
  have hB := h.head.setCell (ko + 2) (.int .i64 ((went : Int) + (m : Int)))
  rw [show (went : Int) + (m : Int) = ((went + m : Nat) : Int) from by omega] at hB ⊢
  exact ⟨hB, (get_set_ne (by omega)).trans h.f0, (get_set_ne (by omega)).trans h.f1, get_set_eq h.f2, ⟨cs, h1.far (p := ⟨p, ko + 2, none⟩) (Ne.symm h.ne) _, h2, fun i x hi => h3 i x (by omega)⟩, h.ne, h.pos, h.top, by omega, by have := h.fits; omega, hf⟩

/-- New, where the room is right. -/
theorem rnew_ok (w : World) (room : Nat) (h1 : 1 ≤ room) (h2 : room ≤ 4096) :
    Calls Tryd.prog 21 #[.int .i64 (room : Int)] w fun e w' => ∃ p g, e = .returned (.tuple #[.pointer (some ⟨p, 0, none⟩), .nilIface]) ∧
      InRing w' p 0 56 [.slice (some ⟨g, 0, none⟩) room room, .int .i64 0, .int .i64 0] g room [] 0 ∧ w.heap.size ≤ p ∧ w.heap.size ≤ g ∧ Only (fun _ => False) w w' := by
  have hmk := make_bytes room (by omega)
  go_enter Tryd.func21, Tryd.ntmps21
  go_wp2
  go_ret2
  refine ⟨_, _, rfl, ⟨?_, rfl, rfl, rfl, ⟨_, (Blk.new w _ (zeros room)).alloc _, length_zeros _, fun i x _ hx => by cases hx⟩, ?_, h1, h2, Nat.le_refl _, Nat.zero_le _, by simp⟩, ?_, ?_, ((Only.refl _ _).alloc _).alloc _⟩
  · have := Blk.new (w.alloc (.cells (zeros room).toArray 5)) 56 [.slice (some ⟨w.heap.size, 0, none⟩) room room, .int .i64 0, .int .i64 0]
    simpa using this
  · simp
  · omega
  · omega
theorem rnew_bad {w : World} {es : List Addr} {sel : List Nat} (hes : ErrsOf w (0 :: sel) es) (room : Int) (h : room < 1 ∨ 4096 < room) :
    ∃ a, es[0]? = some a ∧ Calls Tryd.prog 21 #[.int .i64 room] w fun e w' => e = .returned (.tuple #[.pointer none, errV a]) ∧ ∃ q, w' = w.drewN q := by
  obtain ⟨a, ha, c⟩ := hes.get 0 _ (List.mem_cons_self ..) rfl
  refine ⟨a, ha, ?_⟩
  unfold errV at c ⊢
  clear ha hes
  rcases Int.lt_or_le room 1 with h1 | h1
  all_goals
    go_enter Tryd.func21, Tryd.ntmps21
    go_wp2_with fail
    go_quiet (fail)
    go_wp2
    go_ret2
    exact ⟨rfl, _, rfl⟩

theorem get_splice {α : Type} (L : List α) (off : Nat) (cs : List α) (i : Nat) (h : off + cs.length ≤ L.length) :
    (splice L off cs)[i]? = if off ≤ i ∧ i < off + cs.length then cs[i - off]? else L[i]? := by
  unfold splice
  rw [List.getElem?_append, List.length_take, Nat.min_eq_left (by omega)]
  split
  · rw [if_neg (by omega), List.getElem?_take, if_pos (by assumption)]
  · rw [List.getElem?_append]
    split
    · rw [if_pos (by omega)]
    · rw [if_neg (by omega), List.getElem?_drop]
      congr 1
      omega
/-- Where a byte with i ahead of it has its cell. -/
theorem mod_of {i room q r : Nat} (h : i = q * room + r) (hr : r < room) : i % room = r := by
  subst h
  rw [Nat.mul_comm, Nat.mul_add_mod, Nat.mod_eq_of_lt hr]
/-- The cells behind a Put. -/
theorem put_body {cs : List Value} {room went k d : Nat} {all ys : List UInt8} (hl : cs.length = room) (hpos : 1 ≤ room) (hb : went ≤ all.length) (hf : all.length + k ≤ went + room) (hy : ys.length = k) (hd : d = min (room - all.length % room) k)
    (hc : ∀ (i : Nat) (x : UInt8), went ≤ i → all[i]? = some x → cs[i % room]? = some (B8 x)) :
    ∀ (i : Nat) (x : UInt8), went ≤ i → (all ++ ys)[i]? = some x → (splice (splice cs (all.length % room) ((ys.take d).map B8)) 0 ((ys.drop d).map B8))[i % room]? = some (B8 x) := by
  intro i x hi hx
  have hlt := Nat.mod_lt all.length (y := room) hpos
  have hXl : ((ys.take d).map B8).length = d := by simp; omega
  have hYl : ((ys.drop d).map B8).length = k - d := by simp; omega
  have h1 : all.length % room + ((ys.take d).map B8).length ≤ cs.length := by omega
  rw [get_splice _ _ _ _ (by rw [length_splice _ _ _ h1]; omega), get_splice _ _ _ _ h1, hXl, hYl]
  have hq := Nat.div_add_mod all.length room
  rw [Nat.mul_comm] at hq
  generalize all.length / room = q at hq
  generalize hcc : all.length % room = c at *
  rw [List.getElem?_append] at hx
  split at hx
  · rename_i hia
    have hne : ¬ (0 ≤ i % room ∧ i % room < 0 + (k - d)) ∧ ¬ (c ≤ i % room ∧ i % room < c + d) := by
      rcases Nat.lt_or_ge i (q * room) with h2 | h2
      · have hq1 : 1 ≤ q := by
          rcases q with _ | q
          · omega
          · omega
        obtain ⟨q', rfl⟩ : ∃ q', q = q' + 1 := ⟨q - 1, by omega⟩
        rw [Nat.add_mul, Nat.one_mul] at *
        have hm : i % room = i - q' * room := mod_of (q := q') (by omega) (by omega)
        omega
      · have hm : i % room = i - q * room := mod_of (q := q) (by omega) (by omega)
        omega
    rw [if_neg hne.1, if_neg hne.2]
    exact hc i x hi hx
  · rename_i hia
    have hik : i - all.length < ys.length := (List.getElem?_eq_some_iff.1 hx).1
    rcases Nat.lt_or_ge (i - all.length) d with h2 | h2
    · have hm : i % room = c + (i - all.length) := mod_of (q := q) (by omega) (by omega)
      rw [hm, if_neg (by omega), if_pos (by omega), List.getElem?_map, List.getElem?_take, if_pos (by omega)]
      rw [show c + (i - all.length) - c = i - all.length from by omega, hx]
      rfl
    · have hm : i % room = i - all.length - d := mod_of (q := q + 1) (by rw [Nat.add_mul, Nat.one_mul]; omega) (by omega)
      rw [hm, if_pos (by omega), List.getElem?_map, List.getElem?_drop]
      rw [show d + (i - all.length - d - 0) = i - all.length from by omega, hx]
      rfl

theorem put_none {w : World} {p ko : Nat} {tp : TypeId} {fs : List Value} {g room went : Nat} {all : List UInt8} (h : InRing w p ko tp fs g room all went) (A : Option Addr) (n c : Nat) (hn : n ≤ 1099511627776) (hz : n = 0 ∨ room - (all.length - went) = 0) :
    Calls Tryd.prog 36 #[.pointer (some ⟨p, ko, none⟩), .slice A n c] w fun e w' => e = .returned (.int .i64 0) ∧ ∃ q, w' = w.drewN q := by
  have C := room_any h
  generalize room - (all.length - went) = R at *
  have HC := Lib.hid C
  clear C h
  have hz' : n = 0 ∧ R = 0 ∨ 0 < n ∧ R = 0 ∨ n = 0 ∧ 0 < R := by omega
  clear hz
  rcases hz' with ⟨rfl, rfl⟩ | ⟨hn, rfl⟩ | ⟨rfl, hn⟩
  all_goals
    go_enter Tryd.func36, Tryd.ntmps36
    go_wp2_with (go_at_call 33; refine HC.out.mono ?_; rintro e w' ⟨rfl, q, rfl⟩)
    go_ret
    exact ⟨rfl, _, rfl⟩

set_option maxHeartbeats 1000000 in
theorem put_some {w : World} {p ko : Nat} {tp : TypeId} {fs : List Value} {g room went : Nat} {all : List UInt8} (h : InRing w p ko tp fs g room all went) (ad : Addr) (n c k : Nat) (ys : List UInt8) (hs : Src w (some ad) k ys) (hnc : n ≤ c) (hc63 : c ≤ 9223372036854775807)
    (hag : ad.block ≠ g) (hfar : all.length + k ≤ 1099511627776) (hk : k = n ∧ n ≤ room - (all.length - went) ∨ k = room - (all.length - went) ∧ room - (all.length - went) < n) (hk0 : 0 < k) :
    Calls Tryd.prog 36 #[.pointer (some ⟨p, ko, none⟩), .slice (some ad) n c] w fun e w' =>
      e = .returned (.int .i64 (k : Int)) ∧ InRing w' p ko tp (fs.set (ko + 1) (.int .i64 (((all ++ ys).length : Nat) : Int))) g room (all ++ ys) went ∧ Only (fun i => i = p ∨ i = g) w w' := by
  have C := room_any h
  have hkn : k ≤ n := by omega
  have hkc : (k : Int) ≤ (c : Int) := by omega
  have hkR : all.length + k ≤ went + room := by have := h.fits; have := h.back; omega
  have hkroom : k ≤ room := by have := h.back; omega
  generalize hR : room - (all.length - went) = R at *
  have hb := h.back
  have hf := h.far
  have hp := h.pos
  have ht := h.top
  have HC := Lib.hid C
  have hIs := Lib.hid h
  have HS := Lib.hid hs
  have hkz : ((k : Int) == 0) = false := by rw [beq_eq_false_iff_ne]; omega
  clear C hR h hs
  rcases hk with ⟨rfl, hk⟩ | ⟨rfl, hk⟩
  all_goals
    go_enter Tryd.func36, Tryd.ntmps36
    go_wp2_with (go_at_call 33; refine HC.out.mono ?_; rintro e w' ⟨rfl, q, rfl⟩)
    have h : InRing (w.drewN q) p ko tp fs g room all went := hIs.out.keep fun _ _ _ _ hb => hb.drewN q
    have hs : Src (w.drewN q) (some ad) k ys := HS.out
    have HO := Lib.hid ((Only.refl (fun i => i = p ∨ i = g) w).drewN q)
    clear hIs HC HS
    generalize w.drewN q = W at *
    have HI := Lib.hid h
    have HS := Lib.hid hs
    have c0 := h.c0
    have c1 := h.c1
    have hr : all.length % room < room := Nat.mod_lt _ (by omega)
    have C := still_of (cell_any (w := W.drew) h.c0 all.length hp ht (by omega))
    obtain ⟨cs, hB0, hl0, hbody⟩ := h.body
    have HBd := Lib.hid (fun d hd => put_body (d := d) hl0 hp hb hkR hs.1 hd hbody)
    have HB0 := Lib.hid hB0
    have hpg : ¬ p = g := h.ne
    have HF0 := Lib.hid h.f0
    have HF1 := Lib.hid h.f1
    have HF2 := Lib.hid h.f2
    generalize hcc : all.length % room = cc at *
    have HC := Lib.hid C
    have Hl := Lib.hid hl0
    have Hc := Lib.hid hcc
    clear h hs C hbody hB0 hl0 hcc
    have hr2 : (cc : Int) ≤ (room : Int) := by omega
    have hne : ¬ room = cc := by omega
    refine region_tail 14 (by kernel_rfl) (by kernel_rfl) ?_
    simp only [List.take_succ_cons, List.take_zero, List.drop_succ_cons, List.drop_zero]
    repeat (first | still_step | still_call HC.out)
    refine wpStill_nil ?_
    have hyl := HS.out.1
    obtain ⟨X, hX⟩ : ∃ X, X = ys.take (min (room - cc) k) := ⟨_, rfl⟩
    obtain ⟨Y, hY⟩ : ∃ Y, Y = ys.drop (min (room - cc) k) := ⟨_, rfl⟩
    have hXl : X.length = min (room - cc) k := by rw [hX, List.length_take, hyl]; omega
    have hYl : Y.length = k - min (room - cc) k := by rw [hY, List.length_drop, hyl]
    have hXs : Src W.drew (some ad) X.length X := ⟨rfl, fun _ => by
      obtain ⟨_, e, h2⟩ := HS.out.2 hk0
      cases e
      refine ⟨_, rfl, fun j x hx => h2 j x ?_⟩
      rw [hX, List.getElem?_take] at hx
      split at hx
      · exact hx
      · cases hx⟩
    have hYs : Src W (some (ad.add X.length)) Y.length Y := ⟨rfl, fun _ => by
      obtain ⟨_, e, h2⟩ := HS.out.2 hk0
      cases e
      refine ⟨_, rfl, fun j x hx => ?_⟩
      rw [hY, List.getElem?_drop, ← hXl] at hx
      rw [Go.Deep.add_add]
      exact h2 _ x hx⟩
    have HXY := Lib.hid (HBd.out X.length hXl)
    rw [hXl, ← hX, ← hY] at HXY
    have hd1 : X.length ≤ k := by omega
    have hd2 : cc + X.length ≤ room := by omega
    have HYL := Lib.hid hyl
    have HL := Lib.hid (show Y.length = Nat.min (k - X.length) room by show _ = min _ _; omega)
    have HM := Lib.hid (show k = X.length + Y.length by omega)
    have HXl := Lib.hid hXl
    have HYl := Lib.hid hYl
    clear hX hY hXl hYl hyl HBd
    refine step_copy rfl (.tmp 24) (.tmp 27) 35 35 rfl 5 Tryd.underlying35 size_byte _ _ _ _ _ _ rfl rfl g cc cs 5 HB0.out.drew X
      (by show _ = Nat.min _ _; rw [HXl.out]; exact Nat.min_comm _ _) (fun _ => ⟨rfl, hXs⟩) (by rw [Hl.out, HXl.out]; omega) ?_
    intro w1 hB1 hz1 ho1
    go_wp2
    have HH1 := Lib.hid (HI.out.head.drew.only ho1 hpg)
    have c01 : w1.cell? ⟨p, ko, none⟩ = some (.slice (some ⟨g, 0, none⟩) room room) := by rw [HH1.out.cell ko]; exact HF0.out
    have hYs1 := (show Src W.drew _ _ _ from hYs).only ho1 (by rintro _ a' ⟨⟩; rw [block_add]; exact hag)
    have HO1 := Lib.hid (HO.out.drew.trans ho1 (fun i hi => .inl (.inr hi)))
    have hkX : (X.length : Int) ≤ (k : Int) := by omega
    clear c0 c1 hXs hYs ho1 HC HXl HYl hne HO hz1 HS HB0
    refine region_tail 8 (by kernel_rfl) (by kernel_rfl) ?_
    simp only [List.take_succ_cons, List.take_zero, List.drop_succ_cons, List.drop_zero]
    repeat still_step
    refine wpStill_nil ?_
    generalize hD : (if c = X.length then some ad else some (ad.add X.length)) = D
    have HD := Lib.hid hD
    clear hD
    refine step_copy rfl (.tmp 32) (.tmp 36) 35 35 rfl 5 Tryd.underlying35 size_byte _ _ _ _ _ _ rfl rfl g 0 _ 5 hB1.out.drew Y
      HL.out (fun hp => ⟨rfl, by rw [← HD.out, if_neg (by have := HM.out; omega)]; exact hYs1⟩) (by rw [length_splice _ _ _ (by rw [Hl.out, List.length_map]; omega), Hl.out]; have := HM.out; omega) ?_
    intro w2 hB2 hz2 ho2
    have HH2 := Lib.hid (HH1.out.drew.only ho2 hpg)
    have c12 : w2.cell? ⟨p, ko + 1, none⟩ = some (.int .i64 (all.length : Int)) := by rw [HH2.out.cell (ko + 1)]; exact HF1.out
    have hfz := HH2.out.frozen (ko + 1)
    have HO2 := Lib.hid (HO1.out.drew.trans ho2 (fun i hi => .inl (.inr hi)))
    clear c01 hYs1 ho2 hz2 HO1 HH1 hB1
    go_wp2
    go_ret
    have hyl := HYL.out
    have ek : (((all ++ ys).length : Nat) : Int) = (all.length : Int) + (k : Int) := by rw [List.length_append]; omega
    refine ⟨rfl, ⟨?_, (get_set_ne (by omega)).trans HF0.out, get_set_eq HF1.out, (get_set_ne (by omega)).trans HF2.out, ⟨_, hB2.out.far (p := ⟨p, ko + 1, none⟩) (Ne.symm hpg) _, ?_, HXY.out⟩, hpg, hp, ht, by simp; omega, ?_, ?_⟩, HO2.out.setCell (.inl (.inl rfl)) _⟩
    · rw [ek]
      exact HH2.out.setCell (ko + 1) (.int .i64 ((all.length : Int) + (k : Int)))
    · have h1 := Hl.out
      have h2 := HM.out
      rw [length_splice _ _ _ (by rw [length_splice _ _ _ (by rw [h1, List.length_map]; omega), h1, List.length_map]; omega), length_splice _ _ _ (by rw [h1, List.length_map]; omega), h1]
    · rw [List.length_append]; omega
    · rw [List.length_append]; omega

/-- How many of n bytes fit. -/
def fitting (n room waits : Nat) : Nat := min n (room - waits)
/-- Put, whatever comes. -/
theorem put_any {w : World} {p ko : Nat} {tp : TypeId} {fs : List Value} {g room went : Nat} {all : List UInt8} (h : InRing w p ko tp fs g room all went) (A : Option Addr) (n c : Nat) (xs : List UInt8) (hs : Src w A n xs) (hnc : n ≤ c) (hc63 : c ≤ 9223372036854775807)
    (hag : 0 < n → ∀ ad, A = some ad → ad.block ≠ g) (hfar : all.length + n ≤ 1099511627776) :
    Calls Tryd.prog 36 #[.pointer (some ⟨p, ko, none⟩), .slice A n c] w fun e w' => ∃ k : Nat,
      e = .returned (.int .i64 (k : Int)) ∧ k = fitting n room (all.length - went) ∧ InRing w' p ko tp (fs.set (ko + 1) (.int .i64 (((all ++ xs.take k).length : Nat) : Int))) g room (all ++ xs.take k) went ∧ Only (fun i => i = p ∨ i = g) w w' := by
  by_cases hz : n = 0 ∨ room - (all.length - went) = 0
  · refine (put_none h A n c (by omega) hz).mono ?_
    rintro e w' ⟨rfl, q, rfl⟩
    refine ⟨0, rfl, by unfold fitting; omega, ?_, (Only.refl _ _).drewN _⟩
    rw [List.take_zero, List.append_nil]
    have e : fs.set (ko + 1) (.int .i64 ((all.length : Nat) : Int)) = fs := by
      have h1 := (List.getElem?_eq_some_iff.1 h.f1).1
      have h2 := (List.getElem?_eq_some_iff.1 h.f1).2
      rw [← h2]
      exact List.set_getElem_self h1
    rw [e]
    exact h.keep fun _ _ _ _ hb => hb.drewN q
  · obtain ⟨ad, rfl, hc⟩ := hs.2 (by omega)
    have hl := hs.1
    have hk : fitting n room (all.length - went) = n ∧ n ≤ room - (all.length - went) ∨ fitting n room (all.length - went) = room - (all.length - went) ∧ room - (all.length - went) < n := by unfold fitting; omega
    have hs' : Src w (some ad) (fitting n room (all.length - went)) (xs.take (fitting n room (all.length - went))) :=
      ⟨by rw [List.length_take, hl]; unfold fitting; omega, fun _ => ⟨_, rfl, fun j x hx => hc j x (by
        rw [List.getElem?_take] at hx
        split at hx
        · exact hx
        · cases hx)⟩⟩
    refine (put_some h ad n c _ _ hs' hnc hc63 (hag (by omega) ad rfl) (by omega) hk (by omega)).mono ?_
    rintro e w' ⟨rfl, h1, h2⟩
    exact ⟨_, rfl, rfl, h1, h2⟩

/-- The contracts, with what comes back named. -/
theorem len_eq {w : World} {p ko : Nat} {tp : TypeId} {fs : List Value} {g room went : Nat} {all : List UInt8} (h : InRing w p ko tp fs g room all went) (L : Nat) (hL : all.length - went = L) :
    Calls Tryd.prog 31 #[.pointer (some ⟨p, ko, none⟩)] w fun e w' => e = .returned (.int .i64 (L : Int)) ∧ InRing w' p ko tp fs g room all went ∧ Only (fun _ => False) w w' := by
  subst hL
  refine (len_any h).mono ?_
  rintro e w' ⟨rfl, q, rfl⟩
  exact ⟨rfl, h.keep fun _ _ _ _ hb => hb.drewN q, (Only.refl _ _).drewN q⟩
theorem room_eq {w : World} {p ko : Nat} {tp : TypeId} {fs : List Value} {g room went : Nat} {all : List UInt8} (h : InRing w p ko tp fs g room all went) (L : Nat) (hL : room - (all.length - went) = L) :
    Calls Tryd.prog 33 #[.pointer (some ⟨p, ko, none⟩)] w fun e w' => e = .returned (.int .i64 (L : Int)) ∧ InRing w' p ko tp fs g room all went ∧ Only (fun _ => False) w w' := by
  subst hL
  refine (room_any h).mono ?_
  rintro e w' ⟨rfl, q, rfl⟩
  exact ⟨rfl, h.keep fun _ _ _ _ hb => hb.drewN q, (Only.refl _ _).drewN q⟩
theorem peek_eq {w : World} {p ko : Nat} {tp : TypeId} {fs : List Value} {g room went : Nat} {all : List UInt8} (h : InRing w p ko tp fs g room all went) (n : Int) (m : Nat) (hm : asked n (all.length - went) = m) (ys : List UInt8) (hy : first all went m = ys) :
    Calls Tryd.prog 41 #[.pointer (some ⟨p, ko, none⟩), .int .i64 n] w fun e w' => ∃ A,
      e = .returned (.slice A m m) ∧ Made w.heap.size 5 w' A m ys ∧ InRing w' p ko tp fs g room all went ∧ Only (fun _ => False) w w' := by
  subst hm hy
  refine (peek_any h n).mono ?_
  rintro e w' ⟨A, m, rfl, rfl, h1, h2⟩
  exact ⟨A, rfl, h1, h.only h2 (fun h => h) (fun h => h), h2⟩
theorem take_eq {w : World} {p ko : Nat} {tp : TypeId} {fs : List Value} {g room went : Nat} {all : List UInt8} (h : InRing w p ko tp fs g room all went) (n : Int) (m : Nat) (hm : asked n (all.length - went) = m) (ys : List UInt8) (hy : first all went m = ys) :
    Calls Tryd.prog 37 #[.pointer (some ⟨p, ko, none⟩), .int .i64 n] w fun e w' => ∃ A,
      e = .returned (.slice A m m) ∧ Made w.heap.size 5 w' A m ys ∧ InRing w' p ko tp (fs.set (ko + 2) (.int .i64 ((went + m : Nat) : Int))) g room all (went + m) ∧ Only (· = p) w w' := by
  subst hm hy
  refine (take_any h n).mono ?_
  rintro e w' ⟨A, m, rfl, rfl, h1, h2, h3⟩
  exact ⟨A, rfl, h1, h2, h3⟩
end Go.Proofs.YtpabhgkamekcnaaDoor
