/- Several texts in one. -/
import Derived.Test.YtlmkpembccehkaaGreatDoorJTbSay
import Derived.Test.YtlmkpembccehkaaGreatDoorJRefuse
import Derived.Test.YtlmkpembccehkaaGreatDoorJSnTell
import Derived.Test.YtlmkpembccehkaaGreatDoorJErrs
import Derived.Test.YtlmkpembccehkaaGreatDoorJTtRight
import Derived.BigQuiet
import Derived.Deep.RegionHeld3
import Derived.Test.YtlmkpembccehkaaGreatDoorJInfo
/- Package table: State, On, Counts. -/
namespace Go.Proofs.YtlmkpembccehkaaGreatDoor
open Go Go.RowKit
set_option maxRecDepth 100000
set_option maxHeartbeats 4000000

theorem Tb.get_st (t : Tb) {a b : Nat} (ha : a < 2) (hb : b < 256) : t.get (a : Int) (b : Int) = t.st a b := by
  unfold Tb.get
  rw [if_pos ⟨by omega, by omega, by omega⟩]
  simp
theorem Tb.get_no (t : Tb) {s o : Int} (h : ¬ ((s = 0 ∨ s = 1) ∧ 0 ≤ o ∧ o ≤ 255)) : t.get s o = .no := by
  unfold Tb.get
  rw [if_neg h]
/-- A state as a value. -/
@[reducible] def qsV (q : Qs) : Value := .agg #[.int .i64 (q.kind : Int), .bool q.opp]

theorem state_in {W : World} {p : Nat} {ag : Nat → Nat → Bool} {t : Tb} (h : TbAt W p ag t) {s o : Nat} (hs : s < 2) (ho : o < 256) : Calls Tryz.prog 85 #[.pointer (some ⟨p, 0, none⟩), .int .i64 (s : Int), .int .i64 (o : Int)] W fun e w' =>
    e = .returned (qsV (t.st s o)) ∧ Only (fun _ => False) W w' := by
  obtain ⟨cs, hB, hC⟩ := h
  have HB := Lib.hid hB
  have HC := Lib.hid hC
  have hp := hB.lt
  have hs2 : (s : Int) < 2 := by omega
  have ho2 : (o : Int) < 256 := by omega
  have H1 : Hid (∀ W, Calls Tryz.prog 100 #[.int .i64 (s : Int)] W fun e w' => e = .returned (.bool true) ∧ w' = W) := fun W => by
    have := isSide_any W (s : Int)
    rwa [decide_eq_true (by omega)] at this
  have H2 : Hid (∀ W, Calls Tryz.prog 24 #[.int .i64 (o : Int)] W fun e w' => e = .returned (.bool true) ∧ w' = W) := fun W => by
    have := isOption_any W (o : Int)
    rwa [decide_eq_true (by omega)] at this
  clear hB hC
  go_enter Tryz.func85, Tryz.ntmps85
  go_wp2_with (first
    | (go_at_call 100; refine (H1.out _).mono ?_; rintro e w' ⟨rfl, rfl⟩)
    | (go_at_call 24; refine (H2.out _).mono ?_; rintro e w' ⟨rfl, rfl⟩)
    | ((with_reducible show wpList _ _ _ (⟨some 23, _, _, _, _, _⟩ :: _) _ _); refine wpList_load_mid rfl 90 _ rfl p (s * 512 + o * 2) rfl (qsC (t.st s o)) _ (st_range (HB.out.alloc _) HC.out hs ho rfl) Tryz.underlying90 rfl size_state ?_)
    | ((with_reducible show wpList _ _ _ (⟨none, .store 90 _ _, _, _, _, _⟩ :: _) _ _); refine step_store rfl 90 _ _ rfl W.heap.size rfl (qsC (t.st s o)) rfl _ [.int .i64 0, .bool false] (Blk.new W _ _) size_state rfl (fun v hv => by simp [qsC] at hv; rcases hv with rfl | rfl <;> rfl) ?_; intro w4 hB4 hz4 ho4))
  refine ret_cell1 rfl W.heap.size rfl _ (qsC (t.st s o)) _ hB4.out Tryz.underlying90 rfl size_state rfl ?_
  exact ⟨rfl, ((Only.refl _ _).alloc _).trans ho4 (fun i hi => .inr (by omega))⟩
theorem state_no {W : World} {p : Nat} (_ : Tb) {s o : Int} (h : ¬ ((s = 0 ∨ s = 1) ∧ 0 ≤ o ∧ o ≤ 255)) : Calls Tryz.prog 85 #[.pointer (some ⟨p, 0, none⟩), .int .i64 s, .int .i64 o] W fun e w' =>
    e = .returned (qsV .no) ∧ Only (fun _ => False) W w' := by
  obtain ⟨b1, hb1⟩ : ∃ b, b = decide (s = 0 ∨ s = 1) := ⟨_, rfl⟩
  obtain ⟨b2, hb2⟩ : ∃ b, b = decide (0 ≤ o ∧ o ≤ 255) := ⟨_, rfl⟩
  have H1 := fun W => isSide_any W s
  have H2 := fun W => isOption_any W o
  rw [← hb1] at H1
  rw [← hb2] at H2
  have hh : ¬ (b1 = true ∧ b2 = true) := by
    rintro ⟨rfl, rfl⟩
    exact h ⟨of_decide_eq_true hb1.symm, of_decide_eq_true hb2.symm⟩
  have H1 := Lib.hid H1
  have H2 := Lib.hid H2
  clear hb1 hb2 h
  cases b1
  · clear hh
    go_enter Tryz.func85, Tryz.ntmps85
    go_wp2_with (first
      | (go_at_call 100; refine (H1.out _).mono ?_; rintro e w' ⟨rfl, rfl⟩)
      | ((with_reducible show wpList _ _ _ (⟨none, .store 90 _ _, _, _, _, _⟩ :: _) _ _); refine step_store rfl 90 _ _ rfl W.heap.size rfl (qsC .no) rfl _ [.int .i64 0, .bool false] (Blk.new W _ _) size_state rfl (fun v hv => by simp [qsC] at hv; rcases hv with rfl | rfl <;> rfl) ?_; intro w4 hB4 hz4 ho4))
    refine ret_cell1 rfl W.heap.size rfl _ (qsC .no) _ hB4.out Tryz.underlying90 rfl size_state rfl ?_
    exact ⟨rfl, ((Only.refl _ _).alloc _).trans ho4 (fun i hi => .inr (by omega))⟩
  · cases b2
    · clear hh
      go_enter Tryz.func85, Tryz.ntmps85
      go_wp2_with (first
        | (go_at_call 100; refine (H1.out _).mono ?_; rintro e w' ⟨rfl, rfl⟩)
        | (go_at_call 24; refine (H2.out _).mono ?_; rintro e w' ⟨rfl, rfl⟩)
        | ((with_reducible show wpList _ _ _ (⟨none, .store 90 _ _, _, _, _, _⟩ :: _) _ _); refine step_store rfl 90 _ _ rfl W.heap.size rfl (qsC .no) rfl _ [.int .i64 0, .bool false] (Blk.new W _ _) size_state rfl (fun v hv => by simp [qsC] at hv; rcases hv with rfl | rfl <;> rfl) ?_; intro w4 hB4 hz4 ho4))
      refine ret_cell1 rfl W.heap.size rfl _ (qsC .no) _ hB4.out Tryz.underlying90 rfl size_state rfl ?_
      exact ⟨rfl, ((Only.refl _ _).alloc _).trans ho4 (fun i hi => .inr (by omega))⟩
    · exact absurd ⟨rfl, rfl⟩ hh
theorem state_any {W : World} {p : Nat} {ag : Nat → Nat → Bool} {t : Tb} (h : TbAt W p ag t) (s o : Int) : Calls Tryz.prog 85 #[.pointer (some ⟨p, 0, none⟩), .int .i64 s, .int .i64 o] W fun e w' =>
    e = .returned (qsV (t.get s o)) ∧ Only (fun _ => False) W w' := by
  by_cases hv : (s = 0 ∨ s = 1) ∧ 0 ≤ o ∧ o ≤ 255
  · obtain ⟨a, rfl⟩ : ∃ a : Nat, s = (a : Int) := ⟨s.toNat, by omega⟩
    obtain ⟨b, rfl⟩ : ∃ b : Nat, o = (b : Int) := ⟨o.toNat, by omega⟩
    rw [t.get_st (by omega) (by omega)]
    exact state_in h (by omega) (by omega)
  · rw [t.get_no hv]
    exact state_no t hv
theorem kind_one (q : Qs) : decide ((q.kind : Int) = 1) = decide (q = .yes) := by cases q <;> rfl
theorem ton_any {W : World} {p : Nat} {ag : Nat → Nat → Bool} {t : Tb} (h : TbAt W p ag t) (s o : Int) : Calls Tryz.prog 66 #[.pointer (some ⟨p, 0, none⟩), .int .i64 s, .int .i64 o] W fun e w' =>
    e = .returned (.bool (decide (t.get s o = .yes))) ∧ Only (fun _ => False) W w' := by
  have H1 := Lib.hid (state_any h s o)
  have H2 : Hid (∀ w, Calls Tryz.prog 30 #[qsV (t.get s o)] w fun e w' => e = .returned (.bool (decide (t.get s o = .yes))) ∧ Only (fun _ => False) w w') := fun w => by
    have := on_any w ((t.get s o).kind : Int) (t.get s o).opp
    rwa [kind_one] at this
  obtain ⟨q, hq⟩ : ∃ q, q = t.get s o := ⟨_, rfl⟩
  rw [← hq] at H1 H2 ⊢
  obtain ⟨r, hr⟩ : ∃ r, r = decide (q = .yes) := ⟨_, rfl⟩
  rw [← hr] at H2 ⊢
  clear h hq hr
  go_enter Tryz.func66, Tryz.ntmps66
  go_wp2_with (first
    | (go_at_call 85; refine H1.out.mono ?_; rintro e w1 ⟨rfl, ho1⟩)
    | (go_at_call 30; refine (H2.out _).mono ?_; rintro e w2 ⟨rfl, ho2⟩))
  go_ret
  exact ⟨rfl, ho1.trans ho2 (fun _ h => h.elim)⟩
end Go.Proofs.YtlmkpembccehkaaGreatDoor
/- A hub hears a body of Naws. -/
namespace Go.Proofs.YtlmkpembccehkaaGreatDoor
open Go Go.RowKit
set_option maxRecDepth 100000
set_option maxHeartbeats 4000000

/-- What a size's body says: the error's number; both numbers. -/
def nsNum (b : List UInt8) : Nat := if b.length < 4 then 3 else if 4 < b.length then 4 else 0
def nsCol : List UInt8 → Int
  | [x, y, _, _] => two x y
  | _ => 0
def nsRow : List UInt8 → Int
  | [_, _, z, u] => two z u
  | _ => 0
section
variable {w : World} {es : List Addr} {A : Option Addr} {n : Nat} {b : List UInt8}
theorem nparse_any (hE : ErrsAt w es) (cap : Nat) (hs : Src w A n b) :
    ∃ E, ErrV es E (nsNum b) ∧ Calls Tryz.prog 65 #[.slice A n cap] w fun e w' => e = .returned (.tuple #[szVal (nsCol b) (nsRow b), E]) ∧ Only (fun _ => False) w w' := by
  have hl := hs.1
  unfold nsNum
  by_cases h1 : b.length < 4
  · rw [if_pos h1]
    obtain ⟨a, ha, _⟩ := (hE.of [0, 2, 3]).get 2 9 (by decide) rfl
    refine ⟨errV a, ErrV.err ha 3 rfl, (nparse_short (hE.of [0, 2, 3]) A n cap (by omega)).mono ?_⟩
    rintro e w' ⟨a', ha', rfl, ho⟩
    rw [ha] at ha'
    injection ha' with ha'
    subst ha'
    have e1 : nsCol b = 0 := by unfold nsCol; split <;> simp_all
    have e2 : nsRow b = 0 := by unfold nsRow; split <;> simp_all
    rw [e1, e2]
    exact ⟨rfl, ho⟩
  · rw [if_neg h1]
    by_cases h2 : 4 < b.length
    · rw [if_pos h2]
      obtain ⟨a, ha, _⟩ := (hE.of [0, 2, 3]).get 3 3 (by decide) rfl
      refine ⟨errV a, ErrV.err ha 4 rfl, (nparse_long (hE.of [0, 2, 3]) A n cap (by omega)).mono ?_⟩
      rintro e w' ⟨a', ha', rfl, ho⟩
      rw [ha] at ha'
      injection ha' with ha'
      subst ha'
      have e1 : nsCol b = 0 := by unfold nsCol; split <;> simp_all
      have e2 : nsRow b = 0 := by unfold nsRow; split <;> simp_all
      rw [e1, e2]
      exact ⟨rfl, ho⟩
    · rw [if_neg h2]
      match b, hs, h1, h2 with
      | [x, y, z, u], hs, _, _ =>
        obtain rfl : n = 4 := hs.1.symm
        exact ⟨.nilIface, ErrV.nil es, nparse_ok hs cap⟩
      | [], _, h1, _ => exact absurd (by decide) h1
      | [_], _, h1, _ => exact absurd (by simp) h1
      | [_, _], _, h1, _ => exact absurd (by simp) h1
      | [_, _, _], _, h1, _ => exact absurd (by simp) h1
      | _ :: _ :: _ :: _ :: _ :: _, _, _, h2 => exact absurd (by simp) h2
/-- The error's form. -/
theorem ErrV.ways {E : Value} {k : Nat} (h : ErrV es E k) : (k = 0 ∧ E = .nilIface) ∨ (k ≠ 0 ∧ ∃ a, E = .iface 191 (.pointer (some a))) := by
  rcases h with ⟨h, rfl⟩ | ⟨i, a, rfl, _, rfl⟩
  · exact .inl ⟨h, rfl⟩
  · exact .inr ⟨by omega, a, rfl⟩
/-- The error's number, where an option must be on. -/
def onNum (num : Nat) (on : Bool) : Nat := if num = 0 then (if on then 0 else 10) else num
variable {p q : Nat} {h : Hb} {ag : Nat → Nat → Bool} {T : Tb}
theorem huSize_any (hE : ErrsAt w es) (k : HuAt w p h) (hT : TbAt w q ag T) (cap : Nat) (hs : Src w A n b) :
    Calls Tryz.prog 51 #[.pointer (some ⟨p, 0, none⟩), .pointer (some ⟨q, 0, none⟩), .slice A n cap] w fun e w' => ∃ E, e = .returned (.tuple #[.slice none 0 0, E]) ∧ Hid (ErrV es E (onNum (nsNum b) (decide (T.get 1 31 = .yes))) ∧
      HuAt w' p (if onNum (nsNum b) (decide (T.get 1 31 = .yes)) = 0 then { h with pc := nsCol b, pr := nsRow b } else h)) ∧ Hid (Only (· = p) w w') := by
  obtain ⟨E, hV, hP⟩ := nparse_any hE cap hs
  obtain ⟨c, hc⟩ : ∃ c, c = nsCol b := ⟨_, rfl⟩
  obtain ⟨r, hr⟩ : ∃ r, r = nsRow b := ⟨_, rfl⟩
  obtain ⟨z, hz⟩ : ∃ z, z = nsNum b := ⟨_, rfl⟩
  rw [← hc, ← hr] at hP ⊢
  rw [← hz] at hV ⊢
  have HP := Lib.hid hP
  have HV := Lib.hid hV
  have HK := Lib.hid k
  have HOn : Hid (∀ W, Only (fun _ => False) w W → Calls Tryz.prog 66 #[.pointer (some ⟨q, 0, none⟩), .int .i64 1, .int .i64 31] W fun e w' => e = .returned (.bool (decide (T.get 1 31 = .yes))) ∧ Only (fun _ => False) W w') := fun W ho => ton_any (hT.same ho) 1 31
  generalize decide (T.get 1 31 = .yes) = on at *
  obtain ⟨a, ha, hst⟩ := (hE.of [9]).get 9 8 (by decide) rfl
  unfold errV at hst
  have HC : Hid (∀ W, Only (fun _ => False) w W → W.cell? ⟨8, 0, none⟩ = some (.iface 191 (.pointer (some a)))) := fun W ho => ho.cellv hst (fun h => h)
  have HA : Hid (ErrV es (errV a) 10) := ErrV.err ha 10 rfl
  have hways := hV.ways
  clear hP hV k hT hE hs hc hr hz ha hst
  unfold szVal at HP
  rcases hways with ⟨rfl, rfl⟩ | ⟨hz, a0, rfl⟩
  · cases on with
    | false =>
      go_enter Tryz.func51, Tryz.ntmps51
      go_wp2_with (first
        | (go_at_call 65; (with_reducible refine HP.out.mono ?_); rintro e w1 ⟨rfl, ho1⟩; have HO1 := Lib.hid ho1; clear ho1)
        | (go_at_call 66; (with_reducible refine (HOn.out _ (HO1.out.alloc _)).mono ?_); rintro e w2 ⟨rfl, ho2⟩; have HO2 := Lib.hid ((HO1.out.alloc _).trans ho2 (fun _ h => h.elim)); have hc2 := HC.out _ HO2.out; clear ho2))
      go_quiet (fail)
      go_wp2
      go_ret2
      exact ⟨_, rfl, ⟨HA.out, HK.out.same (HO2.out.drewN _)⟩, (HO2.out.drewN _).mono (fun _ h => h.elim)⟩
    | true =>
      go_enter Tryz.func51, Tryz.ntmps51
      go_wp2_with (first
        | (go_at_call 65; (with_reducible refine HP.out.mono ?_); rintro e w1 ⟨rfl, ho1⟩; have HO1 := Lib.hid ho1; clear ho1)
        | (go_at_call 66; (with_reducible refine (HOn.out _ (HO1.out.alloc _)).mono ?_); rintro e w2 ⟨rfl, ho2⟩; have HO2 := Lib.hid ((HO1.out.alloc _).trans ho2 (fun _ h => h.elim)); have hB2 := (Blk.new w1 23 [.int .i64 c, .int .i64 r]).only ho2 (fun h => h); have c0 : w2.cell? ⟨w1.heap.size, 0, none⟩ = some (.int .i64 c) := hB2.cell 0; have c1 : w2.cell? ⟨w1.heap.size, 1, none⟩ = some (.int .i64 r) := hB2.cell 1; have HK2 := Lib.hid (HK.out.same HO2.out); clear ho2 hB2)
        | ((with_reducible show wpList _ _ _ (⟨none, .store 23 (.tmp 27) _, _, _, _, _⟩ :: _) _ _); refine InB.store rfl 23 _ _ rfl HK2.out.peer rfl [.int .i64 c, .int .i64 r] rfl size_sz rfl (sz_one c r) ?_; intro w3 HB3 hz3 ho3))
      go_ret2
      exact ⟨_, rfl, ⟨ErrV.nil es, HuAt.of_peer HK2.out.ok HB3.out⟩, (Only.mono (T := (· = p)) HO2.out (fun _ h => h.elim)).trans ho3 (fun i hi => .inl hi)⟩
  · rw [show onNum z on = z from by unfold onNum; rw [if_neg hz], if_neg hz]
    go_enter Tryz.func51, Tryz.ntmps51
    go_wp2_with (first
      | (go_at_call 65; (with_reducible refine HP.out.mono ?_); rintro e w1 ⟨rfl, ho1⟩; have HO1 := Lib.hid ho1; clear ho1))
    go_ret2
    exact ⟨_, rfl, ⟨HV.out, HK.out.same (HO1.out.alloc _)⟩, (HO1.out.alloc _).mono (fun _ h => h.elim)⟩
end
end Go.Proofs.YtlmkpembccehkaaGreatDoor
/- Cycles: New, Next, Reset. -/
namespace Go.Proofs.YtlmkpembccehkaaGreatDoor
open Go Go.RowKit
set_option maxRecDepth 100000
set_option maxHeartbeats 4000000

/-- A cycle at its answer number k. -/
def CycAt (w : World) (p : Nat) (ts : List (List UInt8)) (k : Nat) : Prop :=
  ∃ (A : Option Addr) (c : Nat), Blk w p 68 [.slice A ts.length c, .int .i64 (k : Int)] ∧ TSrc w A ts.length ts ∧ (0 < ts.length → ∀ ad, A = some ad → ad.block ≠ p)
theorem CycAt.same {w w' : World} {p k : Nat} {ts : List (List UInt8)} (h : CycAt w p ts k) (ho : Only (fun _ => False) w w') : CycAt w' p ts k := by
  obtain ⟨A, c, hb, hs, hn⟩ := h
  exact ⟨A, c, hb.only ho (fun h => h), hs.same ho, hn⟩
theorem CycAt.far {S : Nat → Prop} {w w' : World} {p k : Nat} {ts : List (List UInt8)} (h : CycAt w p ts k) (ho : Only S w w') (hS : ∀ i, S i → w.heap.size ≤ i) : CycAt w' p ts k := by
  obtain ⟨A, c, hb, hs, hn⟩ := h
  exact ⟨A, c, hb.only ho (fun h => by have := hS _ h; have := hb.lt; omega), hs.old ho (fun i hi h => by have := hS _ h; omega), hn⟩
/-- What New answers: the error's number. -/
def newNum (ts : List (List UInt8)) : Nat := if ts.length < 1 ∨ 8 < ts.length then 1 else if ts.all okT then 0 else 6

theorem new_range {w : World} {es : List Addr} (hes : ErrsOf w [0, 2, 3, 4, 5] es) (A : Option Addr) (n c : Nat) (h : n < 1 ∨ 8 < n) :
    Calls Tryz.prog 21 #[.slice A n c] w fun e w' => ∃ a, es[0]? = some a ∧ e = .returned (.tuple #[.pointer none, errV a]) ∧ Only (fun _ => False) w w' := by
  obtain ⟨a, ha, hc⟩ := hes.get 0 1 (by decide) rfl
  unfold errV at hc
  have HA := Lib.hid ha
  clear ha hes
  rcases h with h | h
  · have hd : decide ((n : Int) < 1) = true := by simp; omega
    clear h
    go_enter Tryz.func21, Tryz.ntmps21
    go_wp2
    go_quiet (fail)
    go_wp2
    go_ret2
    exact ⟨a, HA.out, rfl, (Only.refl _ _).drewN _⟩
  · have hd : decide ((n : Int) < 1) = false := by simp; omega
    have hd2 : decide ((8 : Int) < (n : Int)) = true := by simp; omega
    clear h
    go_enter Tryz.func21, Tryz.ntmps21
    go_wp2
    go_quiet (fail)
    go_wp2
    go_ret2
    exact ⟨a, HA.out, rfl, (Only.refl _ _).drewN _⟩

theorem new_name {w : World} {es : List Addr} (hes : ErrsOf w [0, 2, 3, 4, 5] es) {A : Option Addr} {n : Nat} (c : Nat) {ts : List (List UInt8)} (hs : TSrc w A n ts) (h1 : 1 ≤ n) (h8 : n ≤ 8) (h : ts.all okT = false) :
    Calls Tryz.prog 21 #[.slice A n c] w fun e w' => ∃ a, es[5]? = some a ∧ e = .returned (.tuple #[.pointer none, errV a]) ∧ Only (fun _ => False) w w' := by
  obtain ⟨a, ha, hc⟩ := hes.get 5 4 (by decide) rfl
  unfold errV at hc
  have HA := Lib.hid ha
  have HS := Lib.hid hs
  have HR := Lib.hid (fun W s => ttright_any W s)
  have HB := Lib.hid h
  clear ha hes hs h
  have hd : decide ((n : Int) < 1) = false := by simp; omega
  have hd2 : decide ((8 : Int) < (n : Int)) = false := by simp; omega
  go_enter Tryz.func21, Tryz.ntmps21
  go_wp2
  go_loop [17] (fun i => ∃ k : Nat, k ≤ n ∧ i = .int .i64 (k : Int) ∧ Hid (∀ t ∈ ts.take k, okT t = true)) (fun i => n - (intOf i).toNat)
  case atStart => exact ⟨0, Nat.zero_le _, rfl, fun t ht => by simp at ht⟩
  case round =>
    obtain ⟨k, hk, rfl, HD⟩ := hrel
    by_cases hlt : k < n
    · obtain ⟨ad, s, rfl, hx, hcs⟩ := HS.out.get hlt
      have HX := Lib.hid hx
      have HRs := Lib.hid (fun W => HR.out W s)
      clear hx
      cases ho : okT s with
      | true =>
        rw [ho] at HRs
        have HO := Lib.hid ho
        clear ho
        go_wp2_with (go_at_call 43; (with_reducible refine (HRs.out _).mono ?_); rintro e w1 ⟨rfl, e1⟩; subst w1)
        go_round
        case rel =>
          refine ⟨k + 1, by omega, by go_num, fun t ht => ?_⟩
          rw [take_snoc HX.out] at ht
          rcases List.mem_append.1 ht with h | h
          · exact HD.out t h
          · simp only [List.mem_singleton] at h
            subst h
            exact HO.out
        case measure => simp [intOf]; omega
      | false =>
        rw [ho] at HRs
        clear ho
        go_wp2_with (go_at_call 43; (with_reducible refine (HRs.out _).mono ?_); rintro e w1 ⟨rfl, e1⟩; subst w1)
        go_quiet (fail)
        go_wp2
        go_ret2
        exact ⟨a, HA.out, rfl, (Only.refl _ _).drewN _⟩
    · exfalso
      obtain rfl : k = n := by omega
      have hd := HD.out
      rw [← HS.out.1, List.take_length] at hd
      have : ts.all okT = true := by simpa using hd
      rw [HB.out] at this
      cases this

theorem new_ok {w : World} {A : Option Addr} {n : Nat} (c : Nat) {ts : List (List UInt8)} (hs : TSrc w A n ts) (h1 : 1 ≤ n) (h8 : n ≤ 8) (h : ts.all okT = true) :
    Calls Tryz.prog 21 #[.slice A n c] w fun e w' => ∃ p, e = .returned (.tuple #[.pointer (some ⟨p, 0, none⟩), .nilIface]) ∧ CycAt w' p ts 0 ∧ w.heap.size ≤ p ∧ Only (fun _ => False) w w' := by
  have HS := Lib.hid hs
  have HR := Lib.hid (fun W s => ttright_any W s)
  have HB := Lib.hid h
  have HCl := Lib.hid (clone_texts (c := c) hs (by omega))
  clear hs h
  have hd : decide ((n : Int) < 1) = false := by simp; omega
  have hd2 : decide ((8 : Int) < (n : Int)) = false := by simp; omega
  go_enter Tryz.func21, Tryz.ntmps21
  go_wp2
  go_loop [17] (fun i => ∃ k : Nat, k ≤ n ∧ i = .int .i64 (k : Int)) (fun i => n - (intOf i).toNat)
  case atStart => exact ⟨0, Nat.zero_le _, rfl⟩
  case round =>
    obtain ⟨k, hk, rfl⟩ := hrel
    by_cases hlt : k < n
    · obtain ⟨ad, s, rfl, hx, hcs⟩ := HS.out.get hlt
      have ho : okT s = true := by
        have := HB.out
        rw [List.all_eq_true] at this
        exact this s (List.mem_of_getElem? hx)
      have HRs := Lib.hid (fun W => HR.out W s)
      rw [ho] at HRs
      clear hx ho
      go_wp2_with (go_at_call 43; (with_reducible refine (HRs.out _).mono ?_); rintro e w1 ⟨rfl, e1⟩; subst w1)
      go_round
      case rel => exact ⟨k + 1, by omega, by go_num⟩
      case measure => simp [intOf]; omega
    · go_wp2_with (go_at_call 44; refine HCl.out.mono ?_; rintro e w1 ⟨A', c', rfl, hs1, hl1, hl2, ho1⟩; have HS1 := Lib.hid hs1; have HO1 := Lib.hid ho1; clear hs1 ho1)
      go_ret2
      have hl := HS1.out.1
      subst hl
      have hb := Blk.new w1 68 [.slice A' ts.length c', .int .i64 0]
      exact ⟨w1.heap.size, rfl, ⟨A', c', hb, HS1.out.same ((Only.refl _ _).alloc _), fun hn ad e => Nat.ne_of_lt (HS1.out.lt hn ad e)⟩, HO1.out.size, HO1.out.alloc _⟩

theorem reset_any {w : World} {p k : Nat} {ts : List (List UInt8)} (h : CycAt w p ts k) : Calls Tryz.prog 79 #[.pointer (some ⟨p, 0, none⟩)] w fun e w' => e = .returned (.tuple #[]) ∧ CycAt w' p ts 0 ∧ Only (· = p) w w' := by
  obtain ⟨A, c, hb, hs, hne⟩ := h
  have c1 := hb.cell 1
  have hf := hb.frozen 1
  have HB := Lib.hid hb
  have HS := Lib.hid hs
  have HN := Lib.hid hne
  clear hb hs hne
  go_enter Tryz.func79, Tryz.ntmps79
  go_wp2
  refine bodyPost_end (results_none rfl _ _ _) rfl ?_
  have ho : Only (· = p) w (w.setCell ⟨p, 1, none⟩ (.int .i64 0)) := (Only.refl (· = p) w).setCell (p := ⟨p, 1, none⟩) (.inl rfl) _
  exact ⟨rfl, ⟨A, c, HB.out.setCell 1 _, HS.out.only ho (fun hn ad e => HN.out hn ad e), HN.out⟩, ho⟩

theorem next_walk {w : World} {p n m c : Nat} {ad : Addr} {s : List UInt8} (h1 : 1 ≤ n) (h8 : n ≤ 8) (hm : m ≤ n) (c0 : w.cell? ⟨p, 0, none⟩ = some (.slice (some ad) n c)) (c1 : w.cell? ⟨p, 1, none⟩ = some (.int .i64 (m : Int))) (hf : w.frozen? ⟨p, 1, none⟩ = false)
    (c2 : w.cell? (ad.add (min m (n - 1))) = some (.string ⟨s.toArray⟩)) :
    Calls Tryz.prog 87 #[.pointer (some ⟨p, 0, none⟩)] w fun e w' => e = .returned (.string ⟨s.toArray⟩) ∧ ∃ N, w' = (w.drewN N).setCell ⟨p, 1, none⟩ (.int .i64 (((m + 1) % (n + 1) : Nat) : Int)) := by
  obtain ⟨q, hq⟩ : ∃ q, q = min m (n - 1) := ⟨_, rfl⟩
  rw [← hq] at c2
  have hqn : q < n := by omega
  have e1 : IntKind.i64.wrap ((n : Int) - 1) = (n : Int) - 1 := IntWalk.i64_in _ (by omega)
  have e2 : min (m : Int) ((n : Int) - 1) = (q : Int) := by omega
  have hz : (n == 0) = false := by simp; omega
  obtain ⟨r, hr⟩ : ∃ r, r = (m + 1) % (n + 1) := ⟨_, rfl⟩
  rw [← hr]
  have hrn : r ≤ n := by rw [hr]; have := Nat.mod_lt (m + 1) (show 0 < n + 1 by omega); omega
  have e3 : ((m : Int) + 1).tmod ((n : Int) + 1) = (r : Int) := by
    rw [hr, Int.tmod_eq_emod_of_nonneg (by omega), Int.natCast_emod]
    rfl
  clear hq hr
  go_enter Tryz.func87, Tryz.ntmps87
  go_wp2
  go_quiet (fail)
  have c1' : (w.drewN nq).cell? ⟨p, 1, none⟩ = some (.int .i64 (m : Int)) := c1
  have hf' : (w.drewN nq).frozen? ⟨p, 1, none⟩ = false := hf
  go_wp2
  go_ret
  exact ⟨rfl, nq, rfl⟩

theorem next_any {w : World} {p k : Nat} {ts : List (List UInt8)} (h : CycAt w p ts (k % (ts.length + 1))) (h1 : 1 ≤ ts.length) (h8 : ts.length ≤ 8) : Calls Tryz.prog 87 #[.pointer (some ⟨p, 0, none⟩)] w fun e w' => e = .returned (.string ⟨(ansT ts k).toArray⟩) ∧ CycAt w' p ts ((k + 1) % (ts.length + 1)) ∧ Only (· = p) w w' := by
  have hg := ansT_get h1 k
  obtain ⟨A, c, hb, hs, hne⟩ := h
  obtain ⟨ad, hA, hc⟩ := hs.2 (by omega)
  subst hA
  have hm : k % (ts.length + 1) ≤ ts.length := by have := Nat.mod_lt k (show 0 < ts.length + 1 by omega); omega
  refine (next_walk (c := c) h1 h8 hm (hb.cell 0) (hb.cell 1) (hb.frozen 1) (hc _ _ hg)).mono ?_
  rintro e w' ⟨rfl, N, rfl⟩
  rw [Nat.mod_add_mod]
  have ho : Only (· = p) w ((w.drewN N).setCell ⟨p, 1, none⟩ (.int .i64 (((k + 1) % (ts.length + 1) : Nat) : Int))) := ((Only.refl (· = p) w).drewN N).setCell (p := ⟨p, 1, none⟩) (.inl rfl) _
  exact ⟨rfl, ⟨_, c, (hb.drewN N).setCell 1 _, hs.only ho (fun hn ad e => hne hn ad e), hne⟩, ho⟩
end Go.Proofs.YtlmkpembccehkaaGreatDoor
/- Within a block: a cycle's Next (from place 1 on). -/
namespace Go.Proofs.YtlmkpembccehkaaGreatDoor
open Go Go.RowKit
set_option maxRecDepth 100000
set_option maxHeartbeats 4000000

theorem cyNext_walk {w : World} {p n m c : Nat} {ad : Addr} {s : List UInt8} (h1 : 1 ≤ n) (h8 : n ≤ 8) (hm : m ≤ n) (c0 : w.cell? ⟨p, 1, none⟩ = some (.slice (some ad) n c)) (c1 : w.cell? ⟨p, 2, none⟩ = some (.int .i64 (m : Int))) (hf : w.frozen? ⟨p, 2, none⟩ = false)
    (c2 : w.cell? (ad.add (min m (n - 1))) = some (.string ⟨s.toArray⟩)) :
    Calls Tryz.prog 87 #[.pointer (some ⟨p, 1, none⟩)] w fun e w' => e = .returned (.string ⟨s.toArray⟩) ∧ ∃ N, w' = (w.drewN N).setCell ⟨p, 2, none⟩ (.int .i64 (((m + 1) % (n + 1) : Nat) : Int)) := by
  obtain ⟨q, hq⟩ : ∃ q, q = min m (n - 1) := ⟨_, rfl⟩
  rw [← hq] at c2
  have hqn : q < n := by omega
  have e1 : IntKind.i64.wrap ((n : Int) - 1) = (n : Int) - 1 := IntWalk.i64_in _ (by omega)
  have e2 : min (m : Int) ((n : Int) - 1) = (q : Int) := by omega
  have hz : (n == 0) = false := by simp; omega
  obtain ⟨r, hr⟩ : ∃ r, r = (m + 1) % (n + 1) := ⟨_, rfl⟩
  rw [← hr]
  have hrn : r ≤ n := by rw [hr]; have := Nat.mod_lt (m + 1) (show 0 < n + 1 by omega); omega
  have e3 : ((m : Int) + 1).tmod ((n : Int) + 1) = (r : Int) := by
    rw [hr, Int.tmod_eq_emod_of_nonneg (by omega), Int.natCast_emod]
    rfl
  clear hq hr
  go_enter Tryz.func87, Tryz.ntmps87
  go_wp2
  go_quiet (fail)
  have c1' : (w.drewN nq).cell? ⟨p, 2, none⟩ = some (.int .i64 (m : Int)) := c1
  have hf' : (w.drewN nq).frozen? ⟨p, 2, none⟩ = false := hf
  go_wp2
  go_ret
  exact ⟨rfl, nq, rfl⟩

theorem cyNext_any {w : World} {p k c : Nat} {t : TypeId} {pre post : List Value} {A : Option Addr} {ts : List (List UInt8)} (hb : InB w p t pre post 1 [.slice A ts.length c, .int .i64 ((k % (ts.length + 1) : Nat) : Int)]) (hs : TSrc w A ts.length ts) (h1 : 1 ≤ ts.length) (h8 : ts.length ≤ 8) :
    Calls Tryz.prog 87 #[.pointer (some ⟨p, 1, none⟩)] w fun e w' => e = .returned (.string ⟨(ansT ts k).toArray⟩) ∧ InB w' p t pre post 1 [.slice A ts.length c, .int .i64 (((k + 1) % (ts.length + 1) : Nat) : Int)] ∧ Only (· = p) w w' := by
  have hg := ansT_get h1 k
  obtain ⟨ad, hA, hc⟩ := hs.2 (by omega)
  subst hA
  have hm : k % (ts.length + 1) ≤ ts.length := by have := Nat.mod_lt k (show 0 < ts.length + 1 by omega); omega
  refine (cyNext_walk (c := c) h1 h8 hm (hb.val (i := 0) rfl) (hb.val (i := 1) rfl) (hb.frozen 2) (hc _ _ hg)).mono ?_
  rintro e w' ⟨rfl, N, rfl⟩
  rw [Nat.mod_add_mod]
  exact ⟨rfl, (hb.drewN N).setCell (i := 1) (by simp) _, ((Only.refl (· = p) w).drewN N).setCell (p := ⟨p, 2, none⟩) (.inl rfl) _⟩
end Go.Proofs.YtlmkpembccehkaaGreatDoor
