/- Package timers: its calls, each a contract. -/
import Derived.Test.YtdcjmfbdmejjjaaDoorPutIn
import Derived.Test.YtdcjmfbdmejjjaaDoorNum
namespace Go.Proofs.YtdcjmfbdmejjjaaDoor
open Go Go.RowKit
set_option maxRecDepth 100000

section
variable {B p c : Nat} {w : World} {now : Int} {A : Option Addr} {ts : List Tm}

theorem tmLen (h : IsTm B w p now A c ts) : Calls Tryd.prog 20 #[.pointer (some ⟨p, 0, none⟩)] w fun e w' => e = .returned (.int .i64 (ts.length : Int)) ∧ w = w' := by
  have c1 := h.c1
  have hle := own_le h.row
  clear h
  generalize ts.length = n at *
  go_enter Tryd.func20, Tryd.ntmps20
  go_wp2
  go_ret
  exact ⟨rfl, rfl⟩

theorem tmNow (h : IsTm B w p now A c ts) : Calls Tryd.prog 19 #[.pointer (some ⟨p, 0, none⟩)] w fun e w' => e = .returned (.int .i64 now) ∧ w = w' := by
  have c0 := h.c0
  clear h
  go_enter Tryd.func19, Tryd.ntmps19
  go_wp2
  go_ret
  exact ⟨rfl, rfl⟩

theorem tmNew (w : World) : Calls Tryd.prog 6 #[] w fun e w' => e = .returned (.pointer (some ⟨w.heap.size, 0, none⟩)) ∧ IsTm 0 w' w.heap.size 0 none 0 [] ∧ Only (fun _ => False) w w' := by
  go_enter Tryd.func6, Tryd.ntmps6
  go_wp2
  go_ret
  exact ⟨rfl, ⟨Blk.new w 53 [.int .i64 0, .slice none 0 0], own_nil _ _ _ _, by simp⟩, (Only.refl _ _).alloc _⟩

/-- Next, of none, and of some. -/
theorem tmNext_none (h : IsTm B w p now A c []) : Calls Tryd.prog 15 #[.pointer (some ⟨p, 0, none⟩)] w fun e w' => e = .returned (.tuple #[.int .i64 0, .int .i64 0, .bool false]) ∧ Only (fun _ => False) w w' := by
  have C := Lib.hid (tmLen h)
  have hle := own_le h.row
  clear h
  go_enter Tryd.func15, Tryd.ntmps15
  go_wp2_with (go_at_call 20; refine C.out.mono ?_; rintro e w' ⟨rfl, rfl⟩)
  go_ret3
  exact ⟨rfl, Only.refl _ _⟩
theorem tmNext_some {x : Tm} (h : IsTm B w p now A c (x :: ts)) : Calls Tryd.prog 15 #[.pointer (some ⟨p, 0, none⟩)] w fun e w' => e = .returned (.tuple #[.int .i64 x.1, .int .i64 x.2, .bool true]) ∧ Only (fun _ => False) w w' := by
  have C := Lib.hid (tmLen h)
  have hle := own_le h.row
  have hl : (x :: ts).length ≠ 0 := by simp
  have c1 := h.c1
  obtain ⟨g0, rfl, _, hg0, d0, d1⟩ := two_of (k := 0) (x := x) h.row rfl (by simp)
  clear h
  generalize (x :: ts).length = n at *
  have hn : 0 < n := by omega
  go_enter Tryd.func15, Tryd.ntmps15
  go_wp2_with (go_at_call 20; refine C.out.mono ?_; rintro e w' ⟨rfl, rfl⟩)
  go_quiet (fail)
  go_wp2
  go_ret3
  exact ⟨rfl, ((Only.refl _ _).alloc _).drewN _⟩
end

section
variable {B p c : Nat} {w : World} {now : Int} {A : Option Addr} {ts : List Tm}
theorem box_cell (w : World) (v : Value) (t : TypeId) : (w.alloc (.cells #[v] t)).cell? ⟨w.heap.size, 0, none⟩ = some v := (Blk.new w t [v]).cell 0
theorem eg_key : ∀ (args : Array Value) (w : World), (callFunc 32 args).run Tryd.prog w = .ok (.enter 32 args) w := enters_of Tryd.func32 (by kernel_rfl) rfl
theorem eg_due : ∀ (args : Array Value) (w : World), (callFunc 36 args).run Tryd.prog w = .ok (.enter 36 args) w := enters_of Tryd.func36 (by kernel_rfl) rfl

theorem keep2 {w W : World} {a : Addr} {v0 : Value} (h : W.cell? a = some v0 ∧ Hid (Only (fun _ => False) w W)) (o : Obj) : (W.alloc o).cell? a = some v0 ∧ Hid (Only (fun _ => False) w (W.alloc o)) :=
  ⟨((Only.refl (fun _ => False) W).alloc o).cellv h.1 (fun h => h), h.2.out.alloc o⟩
theorem keepO {w W W' : World} {a : Addr} {v0 : Value} (h : W.cell? a = some v0 ∧ Hid (Only (fun _ => False) w W)) (ho : Only (fun _ => False) W W') : W'.cell? a = some v0 ∧ Hid (Only (fun _ => False) w W') :=
  ⟨ho.cellv h.1 (fun h => h), h.2.out.trans ho (fun _ h => h.elim)⟩
/-- takeOut(ofKey(key)), takeOut(dueBy(tick)): behind the laying of the closure's box. -/
theorem takeKey (h : IsTm B w p now A c ts) (key : Int) : Calls Tryd.prog 26 #[.pointer (some ⟨p, 0, none⟩), .func (.func 32) #[] #[.pointer (some ⟨w.heap.size, 0, none⟩)]] (w.alloc (.cells #[.int .i64 key] 3))
    (TookOut w p now (ts.filter fun x => x.1 == key) (ts.filter fun x => !(x.1 == key))) := by
  refine (takeOut_any (h.same ((Only.refl _ w).alloc (.cells #[.int .i64 key] 3))) _ _ _ eg_key (ofKey_asks _ _ key (box_cell w _ _))).mono ?_
  rintro e w' ⟨K, kc, A', c', he, hk, ht, ho⟩
  exact ⟨K, kc, A', c', he, own_mono hk (by simp), ht.mono (by simp), ((Only.refl (· = p) w).alloc (.cells #[.int .i64 key] 3)).trans ho (fun i hi => .inl hi)⟩
theorem takeDue (h : IsTm B w p now A c ts) (tick : Int) : Calls Tryd.prog 26 #[.pointer (some ⟨p, 0, none⟩), .func (.func 36) #[] #[.pointer (some ⟨w.heap.size, 0, none⟩)]] (w.alloc (.cells #[.int .i64 tick] 3))
    (TookOut w p now (ts.filter fun x => decide (x.2 ≤ tick)) (ts.filter fun x => !decide (x.2 ≤ tick))) := by
  refine (takeOut_any (h.same ((Only.refl _ w).alloc (.cells #[.int .i64 tick] 3))) _ _ _ eg_due (dueBy_asks _ _ tick (box_cell w _ _))).mono ?_
  rintro e w' ⟨K, kc, A', c', he, hk, ht, ho⟩
  exact ⟨K, kc, A', c', he, own_mono hk (by simp), ht.mono (by simp), ((Only.refl (· = p) w).alloc (.cells #[.int .i64 tick] 3)).trans ho (fun i hi => .inl hi)⟩

/-- Clear. -/
def Cleared (w : World) (p : Nat) (now : Int) (b : Bool) (rest : List Tm) (e : Ending) (w' : World) : Prop :=
  ∃ A c, e = .returned (.bool b) ∧ IsTm w.heap.size w' p now A c rest ∧ Only (· = p) w w'
theorem tmClear (h : IsTm B w p now A c ts) (key : Int) : Calls Tryd.prog 10 #[.pointer (some ⟨p, 0, none⟩), .int .i64 key] w
    (Cleared w p now (ts.any fun x => x.1 == key) (ts.filter fun x => !(x.1 == key))) := by
  have C := Lib.hid (takeKey h key)
  have e : (ts.any fun x => x.1 == key) = decide (0 < (ts.filter fun x => x.1 == key).length) := by
    rw [Bool.eq_iff_iff, List.any_eq_true, decide_eq_true_eq, List.length_pos_iff_exists_mem]
    constructor
    · rintro ⟨x, h1, h2⟩; exact ⟨x, List.mem_filter.2 ⟨h1, h2⟩⟩
    · rintro ⟨x, h1⟩; exact ⟨x, (List.mem_filter.1 h1).1, (List.mem_filter.1 h1).2⟩
  rw [e]
  obtain ⟨m, hm⟩ : ∃ m, m = (ts.filter fun x => x.1 == key).length := ⟨_, rfl⟩
  rw [← hm]
  have Hm := Lib.hid hm
  clear e h hm
  go_enter Tryd.func10, Tryd.ntmps10
  go_wp2_with fail
  refine (ofKey_any _ key).mono ?_
  rintro e w1 ⟨rfl, rfl⟩
  go_wp2_with fail
  refine C.out.mono ?_
  rintro e w1 ⟨K, kc, A', c', rfl, hk, ht, ho⟩
  rw [← Hm.out] at hk ⊢
  have hkl := own_le hk
  have HT := Lib.hid ht
  have HO := Lib.hid ho
  clear hk ht ho C
  go_wp2
  go_ret
  exact ⟨A', c', by first | rfl | simp, HT.out, HO.out⟩

/-- At. -/
theorem tmAt_none (h : IsTm B w p now A c ts) (key : Int) (hno : ∀ x ∈ ts, (x.1 == key) = false) : Calls Tryd.prog 17 #[.pointer (some ⟨p, 0, none⟩), .int .i64 key] w
    fun e w' => e = .returned (.tuple #[.int .i64 0, .bool false]) ∧ Only (fun _ => False) w w' := by
  have c1 := h.c1
  have HI := Lib.hid h
  have HNo := Lib.hid hno
  clear h hno
  go_enter Tryd.func17, Tryd.ntmps17
  go_wp2_with fail
  go_region_held3 (fun W => W.cell? ⟨p, 1, none⟩ = some (.slice A ts.length c) ∧ Hid (Only (fun _ => False) w W))
    (first | exact ⟨c1, (Only.refl (fun _ => False) w).drew⟩ | exact hK)
    (first
      | (go_at_call 25; refine (ofKey_any _ key).mono ?_; rintro e w1 ⟨rfl, rfl⟩; have hK := keep2 (by first | exact ⟨c1, (Only.refl (fun _ => False) w).drew⟩ | assumption) (.cells #[.int .i64 key] 3))
      | (go_at_call 29; refine (index_none (B := B) (ts := ts) (own_same HI.out.row (And.right (by assumption))) _ _ _ eg_key (ofKey_asks _ _ key (by first | exact box_cell _ _ _ | assumption)) HNo.out).mono ?_; rintro e w2 ⟨rfl, ho2⟩; have hK := keepO (by assumption) ho2))
  all_goals
    go_wp2
    go_ret2
    exact ⟨rfl, hK.2.out⟩

theorem tmAt_some (h : IsTm B w p now A c ts) (key : Int) (m : Nat) (x : Tm) (hx : ts[m]? = some x) (hkx : (x.1 == key) = true) (hno : ∀ (j : Nat) (y : Tm), j < m → ts[j]? = some y → (y.1 == key) = false) :
    Calls Tryd.prog 17 #[.pointer (some ⟨p, 0, none⟩), .int .i64 key] w fun e w' => e = .returned (.tuple #[.int .i64 x.2, .bool true]) ∧ Only (fun _ => False) w w' := by
  have c1 := h.c1
  have hm : m < ts.length := (List.getElem?_eq_some_iff.1 hx).1
  have hle := own_le h.row
  obtain ⟨g0, rfl, _, hg0, d0, d1⟩ := two_of h.row hx hm
  have HI := Lib.hid h
  have HNo := Lib.hid hno
  have HX := Lib.hid hx
  have HKX := Lib.hid hkx
  have D1 := Lib.hid d1
  obtain ⟨n, hn⟩ : ∃ n, n = ts.length := ⟨_, rfl⟩
  rw [← hn] at c1 hm hle
  have HN := Lib.hid hn
  have hrow := h.row
  rw [← hn] at hrow
  have HRow := Lib.hid hrow
  clear h hno hx hkx d0 d1 hn hrow
  go_enter Tryd.func17, Tryd.ntmps17
  go_wp2_with fail
  go_region_held3 (fun W => W.cell? ⟨p, 1, none⟩ = some (.slice (some ⟨g0, 0, none⟩) n c) ∧ Hid (Only (fun _ => False) w W))
    (first | exact ⟨c1, (Only.refl (fun _ => False) w).drew⟩ | exact hK)
    (first
      | (go_at_call 25; refine (ofKey_any _ key).mono ?_; rintro e w1 ⟨rfl, rfl⟩; have hK := keep2 (by first | exact ⟨c1, (Only.refl (fun _ => False) w).drew⟩ | assumption) (.cells #[.int .i64 key] 3))
      | (go_at_call 29; refine (index_some (B := B) (ts := ts) (own_same HRow.out (And.right (by assumption))) _ _ _ eg_key (ofKey_asks _ _ key (by first | exact box_cell _ _ _ | assumption)) m x HX.out HKX.out HNo.out).mono ?_; rintro e w2 ⟨rfl, ho2⟩; have hK := keepO (by assumption) ho2))
  all_goals
    have c1 := hK.1
    have HO := hK.2
    have d1 := HO.out.cellv D1.out (fun h => h)
    clear hK
    go_wp2
    go_ret2
    exact ⟨rfl, HO.out⟩
end

section
variable {B p c : Nat} {w : World} {now : Int} {A : Option Addr} {ts : List Tm}
/-- Tick: refused, and let by. -/
theorem tmTick_bad {es : List Addr} (hes : ErrsIn w 2 es) (h : IsTm B w p now A c ts) (h0 : 0 ≤ now) (h1 : now ≤ 1099511627776) (n : Int) (hn : n < 0 ∨ 1099511627776 - now < n) : ∃ a, es[0]? = some a ∧
    Calls Tryd.prog 12 #[.pointer (some ⟨p, 0, none⟩), .int .i64 n] w fun e w' => e = .returned (.tuple #[.slice none 0 0, errV a]) ∧ Only (fun _ => False) w w' := by
  have e0 : es[0]? = some (es[0]'(by have := hes.len; omega)) := List.getElem?_eq_getElem (by have := hes.len; omega)
  refine ⟨_, e0, ?_⟩
  have c := hes.at_ 0 _ _ rfl e0
  generalize es[0]'(by have := hes.len; omega) = a at *
  unfold errV at *
  have c0 := h.c0
  have hn' : n < 0 ∨ (0 ≤ n ∧ 1099511627776 - now < n) := by omega
  clear e0 hes h hn
  rcases hn' with h1 | ⟨h1, h2⟩
  all_goals
    go_enter Tryd.func12, Tryd.ntmps12
    go_wp2_with fail
    go_quiet (fail)
    go_wp2
    go_ret2
    exact ⟨rfl, (Only.refl _ _).drewN _⟩

def Ticked (w : World) (p : Nat) (now : Int) (out rest : List Tm) (e : Ending) (w' : World) : Prop :=
  ∃ K kc A c, e = .returned (.tuple #[.slice K out.length kc, .nilIface]) ∧ w'.ownsRow w.heap.size 3 1 (.slice K out.length kc) out.length (keysOf out) ∧ IsTm w.heap.size w' p now A c rest ∧ Only (· = p) w w'
theorem tmTick (h : IsTm B w p now A c ts) (h0 : 0 ≤ now) (h1 : now ≤ 1099511627776) (n : Int) (hn0 : 0 ≤ n) (hn1 : n ≤ 1099511627776 - now) :
    Calls Tryd.prog 12 #[.pointer (some ⟨p, 0, none⟩), .int .i64 n] w (Ticked w p (now + n) (ts.filter fun x => decide (x.2 ≤ now + n)) (ts.filter fun x => !decide (x.2 ≤ now + n))) := by
  have c0 := h.c0
  have hfz := h.head.frozen 0
  have hB := h.head.setCell 0 (.int .i64 (now + n))
  have hset : Only (· = p) w (w.setCell ⟨p, 0, none⟩ (.int .i64 (now + n))) := (Only.refl (· = p) w).setCell (p := ⟨p, 0, none⟩) (.inl rfl) _
  have h' : IsTm B (w.setCell ⟨p, 0, none⟩ (.int .i64 (now + n))) p (now + n) A c ts := ⟨hB, own_only h.row hset (fun q hq => h.ne q hq), h.most⟩
  have c0' := h'.c0
  have h2 : 0 ≤ now + n := by omega
  have h3 : now + n ≤ 1099511627776 := by omega
  have hz : (w.setCell ⟨p, 0, none⟩ (.int .i64 (now + n))).heap.size = w.heap.size := by simp [World.setCell]
  obtain ⟨w1, hw1⟩ : ∃ w1, w1 = w.setCell ⟨p, 0, none⟩ (.int .i64 (now + n)) := ⟨_, rfl⟩
  rw [← hw1] at h' c0' hset hz
  have C := Lib.hid (takeDue h' (now + n))
  have HS := Lib.hid hset
  have HW := Lib.hid hw1
  have HZ := Lib.hid hz
  clear h h' hB hset hw1 hz
  go_enter Tryd.func12, Tryd.ntmps12
  go_wp2_with fail
  rw [← HW.out]
  refine (dueBy_any _ (now + n)).mono ?_
  rintro e w2 ⟨rfl, rfl⟩
  go_wp2_with fail
  refine C.out.mono ?_
  rintro e w2 ⟨K, kc, A', c', rfl, hk, ht, ho⟩
  rw [HZ.out] at hk ht
  have HT := Lib.hid ht
  have HK := Lib.hid hk
  have HO := Lib.hid (HS.out.trans ho (fun i hi => .inl hi))
  clear hk ht ho C
  go_wp2
  go_ret2
  exact ⟨K, kc, A', c', rfl, HK.out, HT.out, HO.out⟩
end
end Go.Proofs.YtdcjmfbdmejjjaaDoor
