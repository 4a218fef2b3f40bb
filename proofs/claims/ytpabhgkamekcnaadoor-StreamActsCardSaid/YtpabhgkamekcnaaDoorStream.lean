/- Package stream of the program: a stream in memory; what its calls that only read answer; New, Close. -/
import Derived.Test.YtpabhgkamekcnaaDoorRingIn
import Derived.Test.YtpabhgkamekcnaaDoorRow
import Derived.Test.YtpabhgkamekcnaaDoorErrSel
namespace Go.Proofs.YtpabhgkamekcnaaDoor
open Go Go.RowKit
set_option maxRecDepth 100000

/-- Where a stream lies: its block, those of its two rings, its row of marks, and what went out. -/
structure Me where
  (p g1 g2 : Nat)
  (M V : Value)
/-- What a stream has: the room for what goes out; all that came, how many were read, the places of the marks of those that weren't; is it closed; all that was sent, how many of them went out. -/
structure St where
  room : Nat
  came : List UInt8
  read : Nat
  ms : List Int
  closed : Bool
  sent : List UInt8
  out : Nat
def fsOf (m : Me) (s : St) : List Value :=
  [.slice (some ⟨m.g1, 0, none⟩) 4096 4096, .int .i64 (s.came.length : Int), .int .i64 (s.read : Int), m.M, .bool s.closed, .slice (some ⟨m.g2, 0, none⟩) s.room s.room, .int .i64 (s.sent.length : Int), .int .i64 (s.out : Int), m.V]
def ints (l : List Int) : List Value := l.map (Value.int .i64)
theorem ints_length (l : List Int) : (ints l).length = l.length := by simp [ints]
/-- The blocks that are a stream's own. -/
def Me.has (m : Me) (i : Nat) : Prop := i = m.p ∨ i = m.g1 ∨ i = m.g2 ∨ m.M.ownBlock = some i ∨ m.V.ownBlock = some i

structure IsStr (B : Nat) (w : World) (m : Me) (s : St) : Prop where
  inn : InRing w m.p 0 58 (fsOf m s) m.g1 4096 s.came s.read
  ou : InRing w m.p 5 58 (fsOf m s) m.g2 s.room s.sent s.out
  marks : RowAt w B 3 1 m.M s.ms.length (ints s.ms)
  wire : w.ownsRow B 5 1 m.V s.out ((s.sent.take s.out).map B8)
  g12 : m.g1 ≠ m.g2
  v12 : ∀ k, m.V.ownBlock = some k → k ≠ m.g1 ∧ k ≠ m.g2
  lo : B ≤ m.p ∧ B ≤ m.g1 ∧ B ≤ m.g2
  rising : s.ms.Pairwise (· < ·)
  inside : ∀ x ∈ s.ms, (s.read : Int) ≤ x ∧ x < (s.came.length : Int)

section
variable {B : Nat} {w w' : World} {m : Me} {s : St}
theorem IsStr.head (h : IsStr B w m s) : Blk w m.p 58 (fsOf m s) := h.inn.head
theorem IsStr.only {S : Nat → Prop} (h : IsStr B w m s) (ho : Only S w w') (hS : ∀ i, m.has i → ¬ S i) : IsStr B w' m s :=
  ⟨h.inn.only ho (hS _ (.inl rfl)) (hS _ (.inr (.inl rfl))), h.ou.only ho (hS _ (.inl rfl)) (hS _ (.inr (.inr (.inl rfl)))), h.marks.only ho (fun k hk => hS k (.inr (.inr (.inr (.inl hk))))), own_only h.wire ho (fun k hk => hS k (.inr (.inr (.inr (.inr hk))))),
    h.g12, h.v12, h.lo, h.rising, h.inside⟩
theorem IsStr.same (h : IsStr B w m s) (ho : Only (fun _ => False) w w') : IsStr B w' m s := h.only ho (fun _ _ h => h)
theorem IsStr.c (h : IsStr B w m s) (j : Nat) (v : Value) (hv : (fsOf m s)[j]? = some v) : w.cell? ⟨m.p, j, none⟩ = some v := by rw [h.head.cell j]; exact hv
theorem IsStr.has_lt (h : IsStr B w m s) : ∀ i, m.has i → B ≤ i ∧ i < w.heap.size := by
  rintro i (rfl | rfl | rfl | hi | hi)
  · exact ⟨h.lo.1, h.head.lt⟩
  · exact ⟨h.lo.2.1, h.inn.g_lt⟩
  · exact ⟨h.lo.2.2, h.ou.g_lt⟩
  · exact h.marks.lt i hi
  · exact own_lt h.wire i hi
theorem IsStr.m_ne (h : IsStr B w m s) : ∀ k, m.M.ownBlock = some k → k ≠ m.p ∧ k ≠ m.g1 ∧ k ≠ m.g2 ∧ m.V.ownBlock ≠ some k := by
  intro k hk
  obtain ⟨c1, b1, _⟩ := h.inn.body
  obtain ⟨c2, b2, _⟩ := h.ou.body
  refine ⟨h.marks.ne h.head (by decide) k hk, h.marks.ne b1 (by decide) k hk, h.marks.ne b2 (by decide) k hk, fun hv => ?_⟩
  rcases h.wire.2 with ⟨hn, _⟩ | ⟨g', cap, cur, hv', _, hg', _⟩
  · rw [hn] at hv; cases hv
  · rw [hv'] at hv
    cases hv
    exact h.marks.ne (g := g') (t := 5) (cs := cur.toList) (by unfold Blk; simpa using hg') (by decide) _ hk rfl
theorem IsStr.v_ne (h : IsStr B w m s) : ∀ k, m.V.ownBlock = some k → k ≠ m.p := own_ne h.wire h.head (by decide)

theorem strWaits (h : IsStr B w m s) : Calls Tryd.prog 11 #[.pointer (some ⟨m.p, 0, none⟩)] w fun e w' => e = .returned (.int .i64 ((s.came.length - s.read : Nat) : Int)) ∧ ∃ q, w' = w.drewN q := by
  have C := Lib.hid (len_any h.inn)
  clear h
  generalize s.came.length - s.read = k at *
  go_enter Tryd.func11, Tryd.ntmps11
  go_wp2_with (go_at_call 31; refine C.out.mono ?_; rintro e w' ⟨rfl, q, rfl⟩)
  go_ret
  exact ⟨rfl, _, rfl⟩
theorem strRoom (h : IsStr B w m s) : Calls Tryd.prog 15 #[.pointer (some ⟨m.p, 0, none⟩)] w fun e w' => e = .returned (.int .i64 ((s.room - (s.sent.length - s.out) : Nat) : Int)) ∧ ∃ q, w' = w.drewN q := by
  have C := Lib.hid (room_any h.ou)
  clear h
  generalize s.room - (s.sent.length - s.out) = k at *
  go_enter Tryd.func15, Tryd.ntmps15
  go_wp2_with (go_at_call 33; refine C.out.mono ?_; rintro e w' ⟨rfl, q, rfl⟩)
  go_ret
  exact ⟨rfl, _, rfl⟩
theorem strRead (h : IsStr B w m s) : Calls Tryd.prog 12 #[.pointer (some ⟨m.p, 0, none⟩)] w fun e w' => e = .returned (.int .i64 (s.read : Int)) ∧ ∃ q, w' = w.drewN q := by
  have C := Lib.hid (counts_any h.inn)
  clear h
  generalize s.came.length = k at *
  go_enter Tryd.func12, Tryd.ntmps12
  go_wp2_with (go_at_call 32; refine C.out.mono ?_; rintro e w' ⟨rfl, q, rfl⟩)
  go_ret
  exact ⟨rfl, _, rfl⟩
theorem strClosed (h : IsStr B w m s) : Calls Tryd.prog 13 #[.pointer (some ⟨m.p, 0, none⟩)] w fun e w' => e = .returned (.bool s.closed) ∧ ∃ q, w' = w.drewN q := by
  have c := h.c 4 _ rfl
  clear h
  go_enter Tryd.func13, Tryd.ntmps13
  go_wp2
  go_ret
  exact ⟨rfl, 0, rfl⟩
/-- Ended. -/
def ended (s : St) : Bool := s.closed && (s.came.length - s.read == 0)
theorem strEnded (h : IsStr B w m s) : Calls Tryd.prog 14 #[.pointer (some ⟨m.p, 0, none⟩)] w fun e w' => e = .returned (.bool (ended s)) ∧ ∃ q, w' = w.drewN q := by
  have c := h.c 4 _ rfl
  have C := Lib.hid (strWaits h)
  clear h
  unfold ended
  generalize s.came.length - s.read = k at *
  generalize s.closed = b at *
  cases b
  · go_enter Tryd.func14, Tryd.ntmps14
    go_wp2
    go_ret
    exact ⟨rfl, 0, rfl⟩
  · have e : ((k : Int) == 0) = (true && (k == 0)) := by rw [Bool.eq_iff_iff]; simp
    have E := Lib.hid e
    clear e
    go_enter Tryd.func14, Tryd.ntmps14
    go_wp2_with (go_at_call 11; refine C.out.mono ?_; rintro e w' ⟨rfl, q, rfl⟩)
    go_ret
    rw [← E.out]
    exact ⟨rfl, _, rfl⟩
end

/-- New, where the room is right. -/
def fresh (room : Nat) : St := ⟨room, [], 0, [], false, [], 0⟩
theorem strNew (w : World) (room : Nat) (h1 : 1 ≤ room) (h2 : room ≤ 4096) :
    Calls Tryd.prog 8 #[.int .i64 (room : Int)] w fun e w' => ∃ m, e = .returned (.tuple #[.pointer (some ⟨m.p, 0, none⟩), .nilIface]) ∧ IsStr w.heap.size w' m (fresh room) ∧ Only (fun _ => False) w w' := by
  go_enter Tryd.func8, Tryd.ntmps8
  go_wp2_with fail
  refine (rnew_ok w room h1 h2).mono ?_
  rintro e w1 ⟨p1, g1, rfl, r1, hp1, hg1, o1⟩
  have R1 := Lib.hid r1
  have O1 := Lib.hid o1
  clear r1 o1
  go_wp2_with fail
  refine (rnew_ok w1 4096 (by omega) (by omega)).mono ?_
  rintro e w2 ⟨p2, g2, rfl, r2, hp2, hg2, o2⟩
  have R2 := Lib.hid r2
  have R12 := Lib.hid (R1.out.only o2 (fun h => h) (fun h => h))
  have O2 := Lib.hid (O1.out.trans o2 (fun i hi => hi.elim))
  have c0 := R2.out.c0
  have c1 := R2.out.c1
  have c2 := R2.out.c2
  have d0 := R12.out.c0
  have d1 := R12.out.c1
  have d2 := R12.out.c2
  have G1 := Lib.hid R1.out.g_lt
  clear r2 o2
  go_wp2_with fail
  refine region_tail 7 (by kernel_rfl) (by kernel_rfl) ?_
  simp only [List.take_succ_cons, List.take_zero, List.drop_succ_cons, List.drop_zero]
  repeat still_step
  refine wpStill_nil ?_
  go_wp2
  go_ret2
  have b1 := R12.out
  have b2 := R2.out
  obtain ⟨m, hm⟩ : ∃ m : Me, m = ⟨w2.heap.size, g2, g1, .slice none 0 0, .slice none 0 0⟩ := ⟨_, rfl⟩
  have hB : Blk (w2.drew.alloc (.cells (fsOf m (fresh room)).toArray 58)) w2.heap.size 58 (fsOf m (fresh room)) := Blk.new w2.drew _ _
  obtain ⟨cs1, hc1, hl1, hx1⟩ := b1.body
  obtain ⟨cs2, hc2, hl2, hx2⟩ := b2.body
  have hz : w.heap.size ≤ w1.heap.size := O1.out.size
  have hz2 := O2.out.size
  have hg1 := b1.g_lt
  have hg2 := b2.g_lt
  have hg1' := G1.out
  subst hm
  refine ⟨⟨w2.heap.size, g2, g1, .slice none 0 0, .slice none 0 0⟩, rfl, ⟨⟨hB, rfl, rfl, rfl, ⟨cs2, hc2.drew.alloc _, hl2, hx2⟩, ?_, by omega, by omega, by simp [fresh], by simp [fresh], by simp [fresh]⟩, ⟨hB, rfl, rfl, rfl, ⟨cs1, hc1.drew.alloc _, hl1, hx1⟩, ?_, h1, h2, by simp [fresh], by simp [fresh], by simp [fresh]⟩, RowAt.nil _ _ _ _, own_nil _ _ _ _, ?_, (by rintro k ⟨⟩), ?_, List.Pairwise.nil, (by intro x hx; cases hx)⟩, (O2.out.drew).alloc _⟩
  · show w2.heap.size ≠ g2
    omega
  · show w2.heap.size ≠ g1
    omega
  · show g2 ≠ g1
    omega
  · show w.heap.size ≤ w2.heap.size ∧ w.heap.size ≤ g2 ∧ w.heap.size ≤ g1
    omega
theorem strNew_bad {w : World} {es : List Addr} (hes : ErrsOf w [0, 1, 13] es) (room : Int) (h : room < 1 ∨ 4096 < room) :
    Calls Tryd.prog 8 #[.int .i64 room] w fun e w' => ∃ v, e = .returned (.tuple #[.pointer none, v]) ∧ ErrV es v 1 ∧ Only (fun _ => False) w w' := by
  obtain ⟨a, ha, C⟩ := rnew_bad hes room h
  have HC := Lib.hid C
  have HV := Lib.hid (ErrV.err (k := 1) ha rfl)
  clear C ha hes
  unfold errV at HC HV
  go_enter Tryd.func8, Tryd.ntmps8
  go_wp2_with (go_at_call 21; refine HC.out.mono ?_; rintro e w' ⟨rfl, q, rfl⟩)
  go_ret2
  exact ⟨_, rfl, HV.out, (Only.refl _ _).drewN q⟩

section
variable {B : Nat} {w w' : World} {m : Me} {s : St}
/-- What a stream's own call leaves: its blocks may have turned, and new ones be there. -/
def Left (B : Nat) (w : World) (m : Me) (s' : St) (w' : World) : Prop :=
  ∃ m', m'.p = m.p ∧ IsStr B w' m' s' ∧ Only m.has w w' ∧ ∀ i, m'.has i → m.has i ∨ w.heap.size ≤ i
theorem Left.same (h : IsStr B w m s) (ho : Only (fun _ => False) w w') : Left B w m s w' := ⟨m, rfl, h.same ho, ho.mono (fun _ h => h.elim), fun _ h => .inl h⟩
def closeNum (s : St) : Nat := if s.closed then 14 else 0
theorem strClose (h : IsStr B w m s) {es : List Addr} (hes : ErrsOf w [0, 1, 13] es) :
    Calls Tryd.prog 30 #[.pointer (some ⟨m.p, 0, none⟩)] w fun e w' => ∃ v, e = .returned v ∧ ErrV es v (closeNum s) ∧ Left B w m { s with closed := true } w' := by
  have c := h.c 4 _ rfl
  cases hb : s.closed
  · rw [hb] at c
    have hfz := h.head.frozen 4
    have H := Lib.hid h
    have HB := Lib.hid hb
    clear h hb hes
    go_enter Tryd.func30, Tryd.ntmps30
    go_wp2
    go_ret
    refine ⟨_, rfl, .inl ⟨by simp [closeNum, HB.out], rfl⟩, m, rfl, ?_, (Only.refl m.has w).setCell (.inl (.inl rfl)) _, fun i h => .inl h⟩
    have h := H.out
    have hset : Only (· = m.p) w (w.setCell ⟨m.p, 4, none⟩ (.bool true)) := (Only.refl (· = m.p) w).setCell (p := ⟨m.p, 4, none⟩) (.inl rfl) _
    have hB : Blk (w.setCell ⟨m.p, 4, none⟩ (.bool true)) m.p _ (fsOf m { s with closed := true }) := h.head.setCell 4 (.bool true)
    exact ⟨h.inn.beside hB (fun t cs hb => hb.far (p := ⟨m.p, 4, none⟩) (Ne.symm h.inn.ne) _) rfl rfl rfl, h.ou.beside hB (fun t cs hb => hb.far (p := ⟨m.p, 4, none⟩) (Ne.symm h.ou.ne) _) rfl rfl rfl,
      h.marks.only hset (fun k hk => (h.m_ne k hk).1), own_only h.wire hset (fun k hk => h.v_ne k hk), h.g12, h.v12, h.lo, h.rising, h.inside⟩
  · rw [hb] at c
    obtain ⟨a, ha, d⟩ := hes.get 13 _ (by decide) rfl
    have HV := Lib.hid (ErrV.err (k := 14) ha rfl)
    have H := Lib.hid h
    have HB := Lib.hid hb
    clear h hb hes ha
    unfold errV at d HV
    go_enter Tryd.func30, Tryd.ntmps30
    go_wp2
    go_ret
    refine ⟨_, rfl, by simpa [closeNum, HB.out] using HV.out, ?_⟩
    have e : ({ s with closed := true } : St) = s := by have := HB.out; cases s; simp_all
    rw [e]
    exact Left.same H.out (Only.refl _ _)
end
end Go.Proofs.YtpabhgkamekcnaaDoor
