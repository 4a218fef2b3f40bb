/- Package gram: Rest, Border. -/
import Derived.Test.YtbjabjkmagekfaaDoorGramWalk
namespace Go.Proofs.YtbjabjkmagekfaaDoor
open Go Go.RowKit
set_option maxRecDepth 100000
set_option maxHeartbeats 4000000

/-- How many bytes are left. -/
def restOf (raw : Bool) (xs : List UInt8) : Nat := match parseFrom raw 0 xs with
  | some (_, r) => r
  | .none => 0
/-- Is a place a border? -/
def borderOf (raw : Bool) (xs : List UInt8) (at_ : Int) : Bool := match parseFrom raw 0 xs with
  | some (l, r) => (decide (at_ = (xs.length : Int)) || l.any fun x => decide (at_ = (x.from_ : Int))) || decide (at_ = ((xs.length - r : Nat) : Int))
  | .none => false

theorem eg_rest : ∀ (args : Array Value) (w : World), (callFunc 24 args).run Tryd.prog w = .ok (.enter 24 args) w := enters_of Tryd.func24 (by kernel_rfl) rfl
theorem rest_tells (w : World) (raw : Bool) (xs : List UInt8) : Tells w raw xs 24 #[] (fun _ W => Only (fun _ => False) w W) where
  only := fun _ _ h => h
  stay := fun _ _ _ h ho => h.trans ho (fun _ h => h.elim)
  tell := fun ts W x k m h _ _ _ => by
    show Calls _ _ #[.int .i64 x.kind, .int .i64 (k : Int), .int .i64 ((k + m : Nat) : Int)] _ _
    go_enter Tryd.func24, Tryd.ntmps24
    go_wp2
    refine bodyPost_end (results_none rfl _ _ _) rfl ?_
    exact ⟨rfl, h⟩

theorem rest_any {w : World} {es : List Addr} (hes : ErrsIs w [2, 4] es) {A : Option Addr} {n c : Nat} {xs : List UInt8} (hs : Src w A n xs) (raw : Bool) (hn : n ≤ 1048576) (hc : n ≤ c) :
    Calls Tryd.prog 13 #[.slice A n c, .bool raw] w fun e w' => e = .returned (.int .i64 (restOf raw xs : Int)) ∧ Only (fun _ => False) w w' := by
  have HC := Lib.hid (walk_any hes hs raw hn hc _ #[] eg_rest (rest_tells w raw xs) (w1 := w) (Only.refl _ _))
  have hl := hs.1
  clear hes hs
  unfold WalkSays at HC
  unfold restOf
  cases hp : parseFrom raw 0 xs with
  | none =>
    rw [hp] at HC
    have HD : Hid (Calls Tryd.prog 19 #[.slice A n c, .bool raw, .func (.func 24) #[] #[]] w fun e w' => ∃ a, e = .returned (.tuple #[.int .i64 0, .iface 88 (.pointer (some a))]) ∧ Hid (Only (fun _ => False) w w')) := HC.out.mono fun e w' ⟨a, _, _, h1, h2⟩ => ⟨a, h1, h2⟩
    clear HC hp
    go_enter Tryd.func13, Tryd.ntmps13
    go_wp2_with (go_at_call 19; refine HD.out.mono ?_; rintro e w1 ⟨a, rfl, ho1⟩)
    go_ret
    exact ⟨rfl, ho1.out⟩
  | some q =>
    obtain ⟨l, r⟩ := q
    rw [hp] at HC
    have hr := (parse_rest hp).1
    obtain ⟨L, hL⟩ : ∃ L, L = xs.length - r := ⟨_, rfl⟩
    have HD : Hid (Calls Tryd.prog 19 #[.slice A n c, .bool raw, .func (.func 24) #[] #[]] w fun e w' => e = .returned (.tuple #[.int .i64 (L : Int), .nilIface]) ∧ Hid (Only (fun _ => False) w w')) := HC.out.mono fun e w' ⟨h1, h2⟩ => ⟨by rw [hL]; exact h1, h2⟩
    have e1 : wrap64 ((n : Int) - (L : Int)) = (r : Int) := by
      rw [show (n : Int) - (L : Int) = ((r : Nat) : Int) by omega]
      exact wrap64_nat r (by omega)
    have hLn : L ≤ n := by omega
    clear HC hp
    go_enter Tryd.func13, Tryd.ntmps13
    go_wp2_with (go_at_call 19; refine HD.out.mono ?_; rintro e w1 ⟨rfl, ho1⟩)
    go_ret
    exact ⟨congrArg (fun z => Ending.returned (Value.int .i64 z)) (by omega), ho1.out⟩

/-! Border -/
theorem eg_border : ∀ (args : Array Value) (w : World), (callFunc 25 args).run Tryd.prog w = .ok (.enter 25 args) w := enters_of Tryd.func25 (by kernel_rfl) rfl
/-- What Border has made of the items. -/
def BorderJ (w : World) (p q : Nat) (b0 : Bool) (at_ : Int) (ts : List Pl) (W : World) : Prop :=
  Only (fun _ => False) w W ∧ Blk W p 4 [.bool (b0 || ts.any fun x => decide (at_ = (x.from_ : Int)))] ∧ Blk W q 3 [.int .i64 at_]
theorem border_one {W : World} {p q : Nat} {b : Bool} {at_ : Int} (hp : Blk W p 4 [.bool b]) (hq : Blk W q 3 [.int .i64 at_]) (z f t : Int) :
    Calls Tryd.prog 25 #[.int .i64 z, .int .i64 f, .int .i64 t, .pointer (some ⟨p, 0, none⟩), .pointer (some ⟨q, 0, none⟩)] W fun e w' => e = .returned (.tuple #[]) ∧ Blk w' p 4 [.bool (b || decide (at_ = f))] ∧ Only (· = p) W w' := by
  have c0 : W.cell? ⟨p, 0, none⟩ = some (.bool b) := hp.cell 0
  have c1 : W.cell? ⟨q, 0, none⟩ = some (.int .i64 at_) := hq.cell 0
  have f0 := hp.frozen 0
  have HP := Lib.hid hp
  clear hp hq
  cases b with
  | true =>
    go_enter Tryd.func25, Tryd.ntmps25
    go_wp2
    refine bodyPost_end (results_none rfl _ _ _) rfl ?_
    exact ⟨rfl, by simpa using HP.out.setCell 0 (.bool true), (Only.refl (· = p) W).setCell (p := ⟨p, 0, none⟩) (.inl rfl) _⟩
  | false =>
    obtain ⟨d, hd⟩ : ∃ d, decide (at_ = f) = d := ⟨_, rfl⟩
    rw [hd]
    have hd2 : (at_ == f) = d := by rw [← hd]; rfl
    go_enter Tryd.func25, Tryd.ntmps25
    go_wp2
    refine bodyPost_end (results_none rfl _ _ _) rfl ?_
    exact ⟨rfl, by simpa using HP.out.setCell 0 (.bool d), (Only.refl (· = p) W).setCell (p := ⟨p, 0, none⟩) (.inl rfl) _⟩
theorem border_tells (w : World) (raw : Bool) (xs : List UInt8) (p q : Nat) (hp : w.heap.size ≤ p) (hpq : p ≠ q) (b0 : Bool) (at_ : Int) :
    Tells w raw xs 25 #[.pointer (some ⟨p, 0, none⟩), .pointer (some ⟨q, 0, none⟩)] (BorderJ w p q b0 at_) where
  only := fun _ _ h => h.1
  stay := fun _ _ _ h ho => ⟨h.1.trans ho (fun _ h => h.elim), h.2.1.only ho (fun h => h), h.2.2.only ho (fun h => h)⟩
  tell := fun ts W x k m h _ _ _ => by
    show Calls _ _ #[.int .i64 x.kind, .int .i64 (k : Int), .int .i64 ((k + m : Nat) : Int), .pointer (some ⟨p, 0, none⟩), .pointer (some ⟨q, 0, none⟩)] _ _
    refine (border_one h.2.1 h.2.2 _ _ _).mono ?_
    rintro e w' ⟨rfl, h1, h2⟩
    refine ⟨rfl, h.1.trans h2 (fun i hi => .inr (by omega)), ?_, h.2.2.only h2 (fun e => hpq e.symm)⟩
    rw [List.any_append, ← Bool.or_assoc]
    simpa using h1

theorem border_any {w : World} {es : List Addr} (hes : ErrsIs w [2, 4] es) {A : Option Addr} {n c : Nat} {xs : List UInt8} (hs : Src w A n xs) (raw : Bool) (hn : n ≤ 1048576) (hc : n ≤ c) (at_ : Int) :
    Calls Tryd.prog 14 #[.slice A n c, .bool raw, .int .i64 at_] w fun e w' => e = .returned (.bool (borderOf raw xs at_)) ∧ Only (fun _ => False) w w' := by
  obtain ⟨b0, hb0⟩ : ∃ b0, decide (at_ = (n : Int)) = b0 := ⟨_, rfl⟩
  have hb0' : (at_ == (n : Int)) = b0 := by rw [← hb0]; rfl
  have HC := Lib.hid (walk_any hes hs raw hn hc _ _ eg_border (border_tells w raw xs (w.heap.size + 1) w.heap.size (by omega) (by omega) b0 at_) (w1 := (w.alloc (.cells #[.int .i64 at_] 3)).alloc (.cells #[.bool b0] 4))
    ⟨((Only.refl _ w).alloc _).alloc _, by simpa using Blk.new' (n := w.heap.size + 1) (w.alloc (.cells #[.int .i64 at_] 3)) 4 [.bool b0] (by simp), (Blk.new' w 3 [.int .i64 at_] rfl).alloc _⟩)
  have hl := hs.1
  have HB := Lib.hid hb0
  clear hes hs
  unfold WalkSays at HC
  unfold borderOf
  cases hp : parseFrom raw 0 xs with
  | none =>
    rw [hp] at HC
    have HD : Hid (Calls Tryd.prog 19 #[.slice A n c, .bool raw, .func (.func 25) #[] #[.pointer (some ⟨w.heap.size + 1, 0, none⟩), .pointer (some ⟨w.heap.size, 0, none⟩)]] ((w.alloc (.cells #[.int .i64 at_] 3)).alloc (.cells #[.bool b0] 4)) fun e w' => ∃ a, e = .returned (.tuple #[.int .i64 0, .iface 88 (.pointer (some a))]) ∧ Hid (Only (fun _ => False) w w')) := HC.out.mono fun e w' ⟨a, _, _, h1, h2⟩ => ⟨a, h1, h2.1⟩
    clear HC hp
    go_enter Tryd.func14, Tryd.ntmps14
    go_wp2_with (go_at_call 19; refine HD.out.mono ?_; rintro e w1 ⟨a, rfl, ho1⟩)
    go_ret
    exact ⟨rfl, ho1.out⟩
  | some q =>
    obtain ⟨l, r⟩ := q
    rw [hp] at HC
    obtain ⟨L, hL⟩ : ∃ L, L = xs.length - r := ⟨_, rfl⟩
    obtain ⟨b1, hb1⟩ : ∃ b1, (b0 || l.any fun x => decide (at_ = (x.from_ : Int))) = b1 := ⟨_, rfl⟩
    have HD : Hid (Calls Tryd.prog 19 #[.slice A n c, .bool raw, .func (.func 25) #[] #[.pointer (some ⟨w.heap.size + 1, 0, none⟩), .pointer (some ⟨w.heap.size, 0, none⟩)]] ((w.alloc (.cells #[.int .i64 at_] 3)).alloc (.cells #[.bool b0] 4)) fun e w' => e = .returned (.tuple #[.int .i64 (L : Int), .nilIface]) ∧ w'.cell? ⟨w.heap.size + 1, 0, none⟩ = some (.bool b1) ∧ w'.cell? ⟨w.heap.size, 0, none⟩ = some (.int .i64 at_) ∧ Hid (Only (fun _ => False) w w')) := HC.out.mono fun e w' ⟨h1, h2⟩ => ⟨by rw [hL]; exact h1, by have := h2.2.1.cell 0; rw [hb1] at this; exact this, h2.2.2.cell 0, h2.1⟩
    rw [hl] at hL ⊢
    simp only
    rw [← hL, hb0, hb1]
    clear HC hp hb1 hL
    cases b1 with
    | true =>
      go_enter Tryd.func14, Tryd.ntmps14
      go_wp2_with (go_at_call 19; refine HD.out.mono ?_; rintro e w1 ⟨rfl, c0, c1, ho1⟩)
      go_ret
      exact ⟨rfl, ho1.out⟩
    | false =>
      obtain ⟨d, hd⟩ : ∃ d, decide (at_ = (L : Int)) = d := ⟨_, rfl⟩
      rw [hd]
      have hd2 : (at_ == (L : Int)) = d := by rw [← hd]; rfl
      go_enter Tryd.func14, Tryd.ntmps14
      go_wp2_with (go_at_call 19; refine HD.out.mono ?_; rintro e w1 ⟨rfl, c0, c1, ho1⟩)
      go_ret
      exact ⟨congrArg (fun b => Ending.returned (Value.bool b)) (by simp), ho1.out⟩
end Go.Proofs.YtbjabjkmagekfaaDoor
