/- Several texts in one. -/
import Derived.Test.YtbnfhklpobephaaGreatDoorJSnSize
import Derived.Test.YtbnfhklpobephaaGreatDoorJSc
import Derived.Deep.RegionHeld3
/- A hub hears a body of Ttype: all its ways. -/
namespace Go.Proofs.YtbnfhklpobephaaGreatDoor
open Go Go.RowKit
set_option maxRecDepth 100000
set_option maxHeartbeats 4000000

section
variable {w : World} {es : List Addr} {A : Option Addr} {n : Nat} {b : List UInt8} {p q mo mq : Nat} {tp tq : TypeId} {pre post prq poq : List Value} {h : Hb} {ag : Nat → Nat → Bool} {T : Tb}
/-- The side of which it speaks is on. -/
def onAt (T : Tb) (asks : Bool) (o : Int) : Bool := decide (T.get (if asks then 0 else 1) o = .yes)
theorem on_at (hT : TbAt w q mq tq prq poq ag T) (asks : Bool) (o : Int) (W : World) (ho : Only (fun _ => False) w W) : Calls Tryz.prog 49 #[.pointer (some ⟨q, mq, none⟩), .int .i64 (if asks then 0 else 1), .int .i64 o] W fun e w' => e = .returned (.bool (onAt T asks o)) ∧ Only (fun _ => False) W w' :=
  ton_any (hT.same ho) (if asks then 0 else 1) o
/-- The number of its error. -/
def tyNum (T : Tb) (b : List UInt8) : Nat := onNum (saysT b).2.2 (onAt T (saysT b).2.1 24)
theorem huType_bad (hE : ErrsAt w es) (k : HuAt w p mo tp pre post h) (hT : TbAt w q mq tq prq poq ag T) (cap : Nat) (hs : Src w A n b) (hn : n ≤ 1048576) (hnc : n ≤ cap) (hcap : cap ≤ 9223372036854775807) (hbad : tyNum T b ≠ 0) :
    Calls Tryz.prog 209 #[.pointer (some ⟨p, mo, none⟩), .pointer (some ⟨q, mq, none⟩), .slice A n cap] w fun e w' => ∃ E, e = .returned (.tuple #[.slice none 0 0, E]) ∧ Hid (ErrV es E (tyNum T b)) ∧ Hid (Only (fun _ => False) w w') := by
  obtain ⟨E, hV, hP⟩ := ttparse_any (hE.of [0, 2, 3, 4, 5]) cap hs hn hnc hcap
  have HOn := Lib.hid (on_at hT (saysT b).2.1 24)
  have HSd := Lib.hid (fun W => snSide_any W (saysT b).2.1)
  unfold tyNum at hbad ⊢
  generalize (saysT b).1 = s at *
  generalize (saysT b).2.2 = z at *
  generalize hx : (saysT b).2.1 = x at *
  generalize onAt T x 24 = on at *
  have HP := Lib.hid hP
  have HK := Lib.hid k
  obtain ⟨a, ha, hst⟩ := (hE.of [9]).get 9 9 (by decide) rfl
  have HA10 : Hid (ErrV es (errV a) 10) := ErrV.err ha 10 rfl
  have HV := Lib.hid hV
  unfold errV at hst
  have HC : Hid (∀ W, Only (fun _ => False) w W → W.cell? ⟨9, 0, none⟩ = some (.iface 409 (.pointer (some a)))) := fun W ho => ho.cellv hst (fun h => h)
  have hways := hV.ways
  generalize hxi : (if x = true then (0 : Int) else 1) = xi at *
  clear hP hV k hT hE hs ha hst hx hxi hn hnc hcap
  rcases hways with ⟨rfl, rfl⟩ | ⟨hz, a0, rfl⟩
  · obtain rfl : on = false := by
      cases on with
      | false => rfl
      | true => exact absurd rfl hbad
    clear hbad
    go_enter Tryz.func209, Tryz.ntmps209
    go_wp2_with (first
      | (go_at_call 219; (with_reducible refine HP.out.mono ?_); rintro e w1 ⟨rfl, ho1⟩; have HO1 := Lib.hid ho1; clear ho1)
      | (go_at_call 220; (with_reducible refine (HSd.out _).mono ?_); rintro e w' ⟨rfl, e2⟩; subst w')
      | (go_at_call 49; (with_reducible refine (HOn.out _ HO1.out).mono ?_); rintro e w2 ⟨rfl, ho2⟩; have HO2 := Lib.hid (HO1.out.trans ho2 (fun _ h => h.elim)); have hc2 := HC.out _ HO2.out; clear ho2))
    go_quiet (fail)
    go_wp2
    go_ret2
    exact ⟨_, rfl, HA10.out, HO2.out.drewN _⟩
  · clear hbad
    rw [show onNum z on = z from by unfold onNum; rw [if_neg hz]]
    go_enter Tryz.func209, Tryz.ntmps209
    go_wp2_with (first
      | (go_at_call 219; (with_reducible refine HP.out.mono ?_); rintro e w1 ⟨rfl, ho1⟩; have HO1 := Lib.hid ho1; clear ho1))
    go_ret2
    exact ⟨_, rfl, HV.out, HO1.out⟩
theorem huType_asks (hE : ErrsAt w es) (k : HuAt w p mo tp pre post h) (hT : TbAt w q mq tq prq poq ag T) {ts : List (List UInt8)} {m : Nat} (hc : CyOk w h ts m) (cap : Nat) (hs : Src w A n b) (hn : n ≤ 1048576) (hnc : n ≤ cap) (hcap : cap ≤ 9223372036854775807) (hok : tyNum T b = 0) (hx : (saysT b).2.1 = true) :
    Calls Tryz.prog 209 #[.pointer (some ⟨p, mo, none⟩), .pointer (some ⟨q, mq, none⟩), .slice A n cap] w fun e w' => ∃ N, e = .returned (.tuple #[.slice (some ⟨N, 0, none⟩) 1 1, .nilIface]) ∧ Hid (One w.heap.size w' (.slice (some ⟨N, 0, none⟩) 1 1) 24 (0 :: ansT ts m)) ∧ Hid (HuAt w' p mo tp pre post { h with ck := (((m + 1) % (ts.length + 1) : Nat) : Int) }) ∧ Hid (Only (· = p) w w') := by
  obtain ⟨E, hV, hP⟩ := ttparse_any (hE.of [0, 2, 3, 4, 5]) cap hs hn hnc hcap
  have HOn := Lib.hid (on_at hT (saysT b).2.1 24)
  have HSd := Lib.hid (fun W => snSide_any W (saysT b).2.1)
  have HNx : Hid (∀ W, Only (fun _ => False) w W → _) := fun W ho => huNext_any (k.same (w' := W) ho) (ts := ts) (m := m) ⟨by
    obtain ⟨A, c, h1, h2⟩ := hc.ca
    exact ⟨A, c, h1, h2.same ho⟩, hc.ck, hc.one, hc.most, hc.okT⟩
  unfold tyNum at hok
  rw [hx] at hP HOn HSd hok
  generalize (saysT b).1 = s at *
  generalize (saysT b).2.2 = z at *
  have hz0 : z = 0 := by unfold onNum at hok; split at hok <;> first | assumption | (exact absurd hok (by assumption))
  subst hz0
  have hon : onAt T true 24 = true := by
    cases h : onAt T true 24 with
    | true => rfl
    | false => rw [h] at hok; cases hok
  rw [hon] at HOn
  rw [show (if true = true then (0 : Int) else 1) = 0 from rfl] at HSd HOn
  obtain ⟨_, rfl⟩ | ⟨h, _⟩ := hV.ways
  case inr => exact absurd rfl h
  have HP := Lib.hid hP
  clear hP hV k hT hE hs hx hn hnc hcap hc hok hon
  go_enter Tryz.func209, Tryz.ntmps209
  go_wp2_with (first
    | (go_at_call 219; (with_reducible refine HP.out.mono ?_); rintro e w1 ⟨rfl, ho1⟩; have HO1 := Lib.hid ho1; clear ho1)
    | (go_at_call 220; (with_reducible refine (HSd.out _).mono ?_); rintro e w' ⟨rfl, e2⟩; subst w')
    | (go_at_call 49; (with_reducible refine (HOn.out _ HO1.out).mono ?_); rintro e w2 ⟨rfl, ho2⟩; have HO2 := Lib.hid (HO1.out.trans ho2 (fun _ h => h.elim)); clear ho2)
    | (go_at_call 221; (with_reducible refine (HNx.out _ HO2.out).mono ?_); rintro e w3 ⟨N, rfl, h1, h2, h3⟩))
  go_ret2
  exact ⟨N, rfl, h1.out.low HO2.out.size, h2.out, (Only.mono (T := (· = p)) HO2.out (fun _ h => h.elim)).trans h3.out (fun i hi => .inl hi)⟩
theorem huType_name (hE : ErrsAt w es) (k : HuAt w p mo tp pre post h) (hT : TbAt w q mq tq prq poq ag T) (cap : Nat) (hs : Src w A n b) (hn : n ≤ 1048576) (hnc : n ≤ cap) (hcap : cap ≤ 9223372036854775807) (hok : tyNum T b = 0) (hx : (saysT b).2.1 = false) :
    Calls Tryz.prog 209 #[.pointer (some ⟨p, mo, none⟩), .pointer (some ⟨q, mq, none⟩), .slice A n cap] w fun e w' => ∃ v, e = .returned (.tuple #[v, .nilIface]) ∧ Hid (if (h.li.take (saysT b).1).whole = true then v = .slice none 0 0 else One w.heap.size w' v 24 [1]) ∧ Hid (HuAt w' p mo tp pre post { h with li := h.li.take (saysT b).1 }) ∧ Hid (Only (· = p) w w') := by
  obtain ⟨E, hV, hP⟩ := ttparse_any (hE.of [0, 2, 3, 4, 5]) cap hs hn hnc hcap
  have HOn := Lib.hid (on_at hT (saysT b).2.1 24)
  have HSd := Lib.hid (fun W => snSide_any W (saysT b).2.1)
  unfold tyNum at hok
  rw [hx] at hP HOn HSd hok
  generalize (saysT b).1 = s at *
  generalize (saysT b).2.2 = z at *
  have HTk : Hid (∀ W, Only (fun _ => False) w W → _) := fun W ho => liTake_any ⟨k.ok.li, (k.same (w' := W) ho).in1⟩ s
  have hz0 : z = 0 := by unfold onNum at hok; split at hok <;> first | assumption | (exact absurd hok (by assumption))
  subst hz0
  have hon : onAt T false 24 = true := by
    cases h : onAt T false 24 with
    | true => rfl
    | false => rw [h] at hok; cases hok
  rw [hon] at HOn
  rw [show (if false = true then (0 : Int) else 1) = 1 from rfl] at HSd HOn
  obtain ⟨_, rfl⟩ | ⟨h, _⟩ := hV.ways
  case inr => exact absurd rfl h
  have HP := Lib.hid hP
  have HOk := Lib.hid k.ok
  have HLk := Lib.hid (k.ok.li.take s)
  have HT := Lib.hid (fun W A n c => tell_any W 24 A n c)
  have HA := Lib.hid ttask_any
  clear hP hV k hT hE hs hx hn hnc hcap hok hon
  cases hw : (h.li.take s).whole
  all_goals
    rw [hw] at HTk
    clear hw
    go_enter Tryz.func209, Tryz.ntmps209
    go_wp2_with (first
      | (go_at_call 219; (with_reducible refine HP.out.mono ?_); rintro e w1 ⟨rfl, ho1⟩; have HO1 := Lib.hid ho1; clear ho1)
      | (go_at_call 220; (with_reducible refine (HSd.out _).mono ?_); rintro e w' ⟨rfl, e2⟩; subst w')
      | (go_at_call 49; (with_reducible refine (HOn.out _ HO1.out).mono ?_); rintro e w2 ⟨rfl, ho2⟩; have HO2 := Lib.hid (HO1.out.trans ho2 (fun _ h => h.elim)); clear ho2)
      | (go_at_call 222; (with_reducible refine (HTk.out _ HO2.out).mono ?_); rintro e w3 ⟨rfl, hl3, ho3⟩; have HL3 := Lib.hid hl3; have HO3 : Hid (Only (· = p) w w3) := (Only.mono (T := (· = p)) HO2.out (fun _ h => h.elim)).trans ho3 (fun i hi => .inl hi); clear hl3 ho3)
      | (go_at_call 217; (with_reducible refine (HA.out _).mono ?_); rintro e w4 ⟨rfl, hs4, ho4⟩)
      | (go_at_call 212; (with_reducible refine (HT.out _ _ _ _).mono ?_); rintro e w5 ⟨rfl, hb5, ho5⟩))
    go_ret2
  · have HO5 : Only (fun _ => False) w3 w5 := ho4.out.trans ho5.out (fun _ h => h.elim)
    have hsz := HO3.out.size
    refine ⟨_, rfl, ?_, HuAt.of_list HLk.out HOk.out (HL3.out.blk.same HO5), HO3.out.trans HO5 (fun _ h => h.elim)⟩
    show One w.heap.size w5 (.slice (some ⟨w4.heap.size, 0, none⟩) 1 1) 24 [1]
    have h45 := ho4.out.size
    refine ⟨_, _, 1, 1, rfl, by omega, hb5.out, hs4.out.only ho5.out (fun _ _ _ h => h), fun _ ad e => ?_, by omega, by omega⟩
    injection e with e
    subst e
    exact hsz
  · exact ⟨_, rfl, rfl, HuAt.of_list HLk.out HOk.out HL3.out.blk, HO3.out⟩
end
end Go.Proofs.YtbnfhklpobephaaGreatDoor
/- Package slc: Hear. -/
namespace Go.Proofs.YtbnfhklpobephaaGreatDoor
open Go Go.RowKit
set_option maxRecDepth 100000
set_option maxHeartbeats 4000000

theorem hear_not (W : World) (p : Nat) (t : Tr) (h : t.right = false) :
    Calls Tryz.prog 135 #[.pointer (some ⟨p, 0, none⟩), t.val] W fun e w' => e = .returned (.tuple #[Tr.zero.val, .bool false]) ∧ Only (fun _ => False) W w' := by
  have HR := Lib.hid (fun W => sright_any W t)
  rw [h] at HR
  obtain ⟨f, ⟨l, v⟩, k⟩ := t
  clear h
  go_enter Tryz.func135, Tryz.ntmps135
  go_wp2_with (first
    | (go_at_call 174; refine (HR.out _).mono ?_; rintro e w1 ⟨rfl, ho1⟩; have HO1 : Hid (Only (fun _ => False) W w1) := (((Only.refl _ _).alloc _).alloc _).trans ho1 (fun _ h => h.elim); have HB1 : Hid (Blk w1 (W.heap.size + 1) 262 Tr.zero.cs) := (Blk.new' _ _ _ (by simp)).only ho1 (fun h => h); clear ho1)
    | ((with_reducible show wpList _ _ _ (⟨none, .store 262 _ _, _, _, _, _⟩ :: _) _ _); refine step_store rfl 262 _ _ rfl (W.heap.size + 1) rfl Tr.zero.cs rfl _ Tr.zero.cs HB1.out size_tri rfl (Tr.cs_one _) ?_; intro w4 hB4 hz4 ho4)
    | fail)
  refine ret_cell2 rfl (W.heap.size + 1) rfl 262 Tr.zero.cs _ hB4.out Tryz.underlying262 rfl size_tri rfl ?_
  exact ⟨rfl, HO1.out.trans ho4 (fun i hi => .inr (by omega))⟩

theorem hear_still {W : World} {p : Nat} {S : Sd} (h : ScSdAt W p S) (t : Tr) (hr : t.right = true) (hs : t.x = (S (plF t.f)).has ∨ t.ack = true) :
    Calls Tryz.prog 135 #[.pointer (some ⟨p, 0, none⟩), t.val] W fun e w' => e = .returned (.tuple #[Tr.zero.val, .bool false]) ∧ ScSdAt w' p (S.set (plF t.f) ⟨(S (plF t.f)).has, (S (plF t.f)).holds, false⟩) ∧ Only (· = p) W w' := by
  obtain ⟨cs, hB, hC⟩ := h
  have HR := Lib.hid (fun W => sright_any W t)
  rw [hr] at HR
  obtain ⟨f, ⟨l, v⟩, k⟩ := t
  unfold Tr.right at hr
  simp only [Bool.and_eq_true] at hr hs ⊢
  have hi := plF_lt hr.1
  have he := plF_at hr.1
  have e1 : IntKind.i64.wrap (f - 1) = ((plF f : Nat) : Int) := by
    rw [← he]
    exact IntWalk.i64_in _ (by omega)
  obtain ⟨i, hii⟩ : ∃ i, i = plF f := ⟨_, rfl⟩
  rw [← hii] at hi e1 hs ⊢
  have hi2 : (i : Int) < 18 := by omega
  have hp := hB.lt
  have HC2 := Lib.hid (hC.setWaits hi false)
  have HK : Hid (∀ W', Blk W' p 114 cs → ∃ b, W'.cell? ⟨p, i * 5 + 4, none⟩ = some (.bool b)) := fun W' hb => ⟨_, (hb.cell _).trans (hC.c4 hi)⟩
  have HL : Hid (∀ W', Blk W' p 114 (cs.set (i * 5 + 4) (.bool false)) → W'.cell? ⟨p, i * 5, none⟩ = some (.int .i64 (S i).has.l) ∧ W'.cell? ⟨p, i * 5 + 1, none⟩ = some (.int .i64 (S i).has.v)) := fun W' hb => by
    have h2 := hC.setWaits hi false
    have e0 := h2.c0 hi
    have e1 := h2.c1 hi
    rw [Sd.set_self] at e0 e1
    exact ⟨(hb.cell _).trans e0, (hb.cell _).trans e1⟩
  have HB := Lib.hid hB
  obtain ⟨⟨a, b⟩, hx⟩ : ∃ x, x = (S i).has := ⟨_, rfl⟩
  rw [← hx] at HL hs
  have heq : ∀ W, _ := fun W => eq_set W l v a b
  have hgr := guard_set
  obtain ⟨q, hq⟩ : ∃ q, q = decide ((⟨l, v⟩ : Se) = ⟨a, b⟩) := ⟨_, rfl⟩
  rw [← hq] at heq
  have hqk : q = true ∨ (q = false ∧ k = true) := by
    cases q
    · rcases hs with hs | hs
      · exact absurd hs (of_decide_eq_false hq.symm)
      · exact .inr ⟨rfl, hs⟩
    · exact .inl rfl
  clear hr hs hB hC he hii hx hq
  rcases hqk with rfl | ⟨rfl, rfl⟩
  all_goals
    go_enter Tryz.func135, Tryz.ntmps135
    go_wp2_with (first
      | (go_at_call 174; refine (HR.out _).mono ?_; rintro e w1 ⟨rfl, ho1⟩; have HO1 : Hid (Only (fun _ => False) W w1) := (((Only.refl _ _).alloc _).alloc _).trans ho1 (fun _ h => h.elim); have HB1 : Hid (Blk w1 (W.heap.size + 1) 262 Tr.zero.cs) := (Blk.new' _ _ _ (by simp)).only ho1 (fun h => h); have HB0 : Hid (Blk w1 W.heap.size 262 (Tr.cs ⟨f, ⟨l, v⟩, _⟩)) := ((Blk.new' _ _ _ rfl).alloc _).only ho1 (fun h => h); have f0 : w1.cell? ⟨W.heap.size, 0, none⟩ = some (.int .i64 f) := HB0.out.cell 0; clear ho1)
      | fail)
    go_quiet (fail)
    have HBp := Lib.hid ((HB.out.only HO1.out (fun h => h)).drewN nq)
    obtain ⟨b4, c4⟩ := HK.out _ HBp.out
    have f4 := HBp.out.frozen (i * 5 + 4)
    have HO2 := Lib.hid (HO1.out.drewN nq)
    have HB0' := Lib.hid (HB0.out.drewN nq)
    have HB1' := Lib.hid (HB1.out.drewN nq)
    clear HB0 HB1 HO1 f0
    generalize w1.drewN nq = w2 at *
    go_wp2
    have HB3 := Lib.hid (HBp.out.setCell (i * 5 + 4) (.bool false))
    obtain ⟨d0, d1⟩ := HL.out _ HB3.out
    have HO3 : Hid (Only (· = p) W (w2.setCell ⟨p, i * 5 + 4, none⟩ (.bool false))) := (Only.mono (T := (· = p)) HO2.out (fun i hi => hi.elim)).setCell (p := ⟨p, i * 5 + 4, none⟩) (.inl rfl) _
    have HB0'' := Lib.hid (HB0'.out.far (p := ⟨p, i * 5 + 4, none⟩) (by show W.heap.size ≠ p; omega) (.bool false))
    have HB1'' := Lib.hid (HB1'.out.far (p := ⟨p, i * 5 + 4, none⟩) (by show W.heap.size + 1 ≠ p; omega) (.bool false))
    clear HBp HO2 HB0' HB1' c4 f4
    generalize w2.setCell ⟨p, i * 5 + 4, none⟩ (.bool false) = w3 at *
    have g1 : w3.cell? ⟨W.heap.size, 1, none⟩ = some (.int .i64 l) := HB0''.out.cell 1
    have g2 : w3.cell? ⟨W.heap.size, 2, none⟩ = some (.int .i64 v) := HB0''.out.cell 2
    have g3 : w3.cell? ⟨W.heap.size, 3, none⟩ = some (.bool _) := HB0''.out.cell 3
    go_quiet (fail)
    have HB3' := Lib.hid (HB3.out.drewN nq)
    have HO3' := Lib.hid (HO3.out.drewN nq)
    have HB1' := Lib.hid (HB1''.out.drewN nq)
    clear HB3 HO3 HB1'' HB0'' d0 d1 g1 g2 g3
    generalize w3.drewN nq = w4 at *
    go_wp2_with (first
      | ((with_reducible show wpList _ _ _ (⟨none, .store 262 _ _, _, _, _, _⟩ :: _) _ _); refine step_store rfl 262 _ _ rfl (W.heap.size + 1) rfl Tr.zero.cs rfl _ Tr.zero.cs HB1'.out size_tri rfl (Tr.cs_one _) ?_; intro w5 hB5 hz5 ho5)
      | fail)
    refine ret_cell2 rfl (W.heap.size + 1) rfl 262 Tr.zero.cs _ hB5.out Tryz.underlying262 rfl size_tri rfl ?_
    exact ⟨rfl, ⟨_, HB3'.out.only ho5 (by omega), HC2.out⟩, HO3'.out.trans ho5 (fun i hi => .inr (by omega))⟩
def sv0 : List Value := [.int .i64 0, .int .i64 0]
/-- A setting's variable, laid behind a call or ahead of it. -/
structure SvAt (w w' : World) (M : Nat) (cs : List Value) : Prop where
  mv : Blk w' M 109 cs
  new : w.heap.size ≤ M
  only : Only (fun _ => False) w w'
theorem SvAt.first {w w5 : World} (ho : Only (fun _ => False) w.drew w5) : ∀ a b, SvAt w (w5.alloc (.cells #[a, b] 109)) w5.heap.size [a, b] := fun a b =>
  ⟨Blk.new w5 _ [a, b], ho.size, (((Only.refl (fun _ => False) w).drew).trans ho (fun _ h => h.elim)).alloc _⟩
theorem SvAt.second {w w5 : World} (ho : Only (fun _ => False) (w.alloc (.cells sv0.toArray 109)).drew w5) (hz : Blk w5 w.heap.size 109 sv0) : ∀ a b, SvAt w ((w5.setCell ⟨w.heap.size, 0, none⟩ a).setCell ⟨w.heap.size, 1, none⟩ b) w.heap.size [a, b] := fun a b => by
  have h := ((Only.refl (· = w.heap.size) w5).setCell (p := ⟨w.heap.size, 0, none⟩) (.inl rfl) a).setCell (p := ⟨w.heap.size, 1, none⟩) (.inl rfl) b
  exact ⟨(hz.setCell 0 _).setCell 1 _, Nat.le_refl _, (((Only.refl (fun _ => False) w).alloc _).drew.trans ho (fun _ h => h.elim)).trans h (fun i hi => .inr (by omega))⟩
/-- Two ways that come to the same: what follows is walked once. -/
theorem twice2 {P : Prop} {C G : Nat → World → Prop} (k : (∀ p W, C p W → G p W) → P) (h : ∀ p W, C p W → G p W) : P := k h
theorem hear_told {W : World} {p : Nat} {S : Sd} (h : ScSdAt W p S) (t : Tr) (hr : t.right = true) (hs : ¬ (t.x = (S (plF t.f)).has ∨ t.ack = true)) :
    Calls Tryz.prog 135 #[.pointer (some ⟨p, 0, none⟩), t.val] W fun e w' => e = .returned (.tuple #[Tr.val ⟨t.f, (ansS t.x (S (plF t.f)).holds).1, (ansS t.x (S (plF t.f)).holds).2⟩, .bool true]) ∧ ScSdAt w' p (S.set (plF t.f) ⟨(ansS t.x (S (plF t.f)).holds).1, (S (plF t.f)).holds, false⟩) ∧ Only (· = p) W w' := by
  obtain ⟨cs, hB, hC⟩ := h
  have HR := Lib.hid (fun W => sright_any W t)
  rw [hr] at HR
  obtain ⟨f, ⟨l, v⟩, k⟩ := t
  unfold Tr.right at hr
  simp only [Bool.and_eq_true] at hr hs ⊢
  have hi := plF_lt hr.1
  have he := plF_at hr.1
  have e1 : IntKind.i64.wrap (f - 1) = ((plF f : Nat) : Int) := by
    rw [← he]
    exact IntWalk.i64_in _ (by omega)
  obtain ⟨i, hii⟩ : ∃ i, i = plF f := ⟨_, rfl⟩
  rw [← hii] at hi e1 hs ⊢
  have hi2 : (i : Int) < 18 := by omega
  have hp := hB.lt
  obtain ⟨⟨m, n⟩, hm⟩ : ∃ m, m = (S i).holds := ⟨_, rfl⟩
  have HA := Lib.hid (fun W => sanswer_any W ⟨l, v⟩ ⟨m, n⟩)
  obtain ⟨⟨⟨y, z⟩, ag⟩, hy⟩ : ∃ y, y = ansS ⟨l, v⟩ ⟨m, n⟩ := ⟨_, rfl⟩
  rw [← hm, ← hy]
  rw [← hy] at HA
  have HC2 : Hid (ScC ((cs.set (i * 5 + 4) (.bool false)).take (i * 5) ++ ([.int .i64 y, .int .i64 z] ++ (cs.set (i * 5 + 4) (.bool false)).drop (i * 5 + 2))) (S.set i ⟨⟨y, z⟩, ⟨m, n⟩, false⟩)) := by
    have h2 := (hC.setWaits hi false).setHas hi ⟨y, z⟩
    rw [Sd.set_self, Sd.set_set, ← hm] at h2
    exact h2
  have hl90 : i * 5 + 1 < (cs.set (i * 5 + 4) (.bool false)).length := by rw [List.length_set, hC.len]; omega
  have HK : Hid (∀ W', Blk W' p 114 cs → ∃ b, W'.cell? ⟨p, i * 5 + 4, none⟩ = some (.bool b)) := fun W' hb => ⟨_, (hb.cell _).trans (hC.c4 hi)⟩
  have HL : Hid (∀ W', Blk W' p 114 (cs.set (i * 5 + 4) (.bool false)) → W'.cell? ⟨p, i * 5, none⟩ = some (.int .i64 (S i).has.l) ∧ W'.cell? ⟨p, i * 5 + 1, none⟩ = some (.int .i64 (S i).has.v) ∧ W'.cell? ⟨p, i * 5 + 2, none⟩ = some (.int .i64 m) ∧ W'.cell? ⟨p, i * 5 + 3, none⟩ = some (.int .i64 n)) := fun W' hb => by
    have h2 := hC.setWaits hi false
    have e0 := h2.c0 hi
    have e1 := h2.c1 hi
    have e2 := h2.c2 hi
    have e3 := h2.c3 hi
    rw [Sd.set_self] at e0 e1 e2 e3
    rw [← hm] at e2 e3
    exact ⟨(hb.cell _).trans e0, (hb.cell _).trans e1, (hb.cell _).trans e2, (hb.cell _).trans e3⟩
  have HB := Lib.hid hB
  obtain ⟨⟨a, b⟩, hx⟩ : ∃ x, x = (S i).has := ⟨_, rfl⟩
  rw [← hx] at HL hs
  have heq : ∀ W, _ := fun W => eq_set W l v a b
  have hgr := guard_set
  obtain ⟨q, hq⟩ : ∃ q, q = decide ((⟨l, v⟩ : Se) = ⟨a, b⟩) := ⟨_, rfl⟩
  rw [← hq] at heq
  obtain rfl : q = false := by rw [hq]; exact decide_eq_false (fun e => hs (.inl e))
  obtain rfl : k = false := by
    cases k
    · rfl
    · exact absurd (.inr rfl) hs
  clear hr hs hB hC he hii hx hq hm hy
  go_enter Tryz.func135, Tryz.ntmps135
  go_wp2_with (first
    | (go_at_call 174; refine (HR.out _).mono ?_; rintro e w1 ⟨rfl, ho1⟩; have HO1 : Hid (Only (fun _ => False) W w1) := (((Only.refl _ _).alloc _).alloc _).trans ho1 (fun _ h => h.elim); have HB1 : Hid (Blk w1 (W.heap.size + 1) 262 Tr.zero.cs) := (Blk.new' _ _ _ (by simp)).only ho1 (fun h => h); have HB0 : Hid (Blk w1 W.heap.size 262 (Tr.cs ⟨f, ⟨l, v⟩, _⟩)) := ((Blk.new' _ _ _ rfl).alloc _).only ho1 (fun h => h); have f0 : w1.cell? ⟨W.heap.size, 0, none⟩ = some (.int .i64 f) := HB0.out.cell 0; clear ho1)
    | fail)
  go_quiet (fail)
  have HBp := Lib.hid ((HB.out.only HO1.out (fun h => h)).drewN nq)
  obtain ⟨b4, c4⟩ := HK.out _ HBp.out
  have f4 := HBp.out.frozen (i * 5 + 4)
  have HO2 := Lib.hid (HO1.out.drewN nq)
  have HB0' := Lib.hid (HB0.out.drewN nq)
  have HB1' := Lib.hid (HB1.out.drewN nq)
  clear HB0 HB1 HO1 f0
  generalize w1.drewN nq = w2 at *
  go_wp2
  have HB3 := Lib.hid (HBp.out.setCell (i * 5 + 4) (.bool false))
  obtain ⟨d0, d1, _⟩ := HL.out _ HB3.out
  have HO3 : Hid (Only (· = p) W (w2.setCell ⟨p, i * 5 + 4, none⟩ (.bool false))) := (Only.mono (T := (· = p)) HO2.out (fun i hi => hi.elim)).setCell (p := ⟨p, i * 5 + 4, none⟩) (.inl rfl) _
  have HB0'' := Lib.hid (HB0'.out.far (p := ⟨p, i * 5 + 4, none⟩) (by show W.heap.size ≠ p; omega) (.bool false))
  have HB1'' := Lib.hid (HB1'.out.far (p := ⟨p, i * 5 + 4, none⟩) (by show W.heap.size + 1 ≠ p; omega) (.bool false))
  clear HBp HO2 HB0' HB1' c4 f4
  generalize w2.setCell ⟨p, i * 5 + 4, none⟩ (.bool false) = w3 at *
  have g1 : w3.cell? ⟨W.heap.size, 1, none⟩ = some (.int .i64 l) := HB0''.out.cell 1
  have g2 : w3.cell? ⟨W.heap.size, 2, none⟩ = some (.int .i64 v) := HB0''.out.cell 2
  have g3 : w3.cell? ⟨W.heap.size, 3, none⟩ = some (.bool _) := HB0''.out.cell 3
  go_quiet (fail)
  have HB3' := Lib.hid (HB3.out.drewN nq)
  have HO3' := Lib.hid (HO3.out.drewN nq)
  have HB1' := Lib.hid (HB1''.out.drewN nq)
  have HB0' := Lib.hid (HB0''.out.drewN nq)
  clear HB3 HO3 HB1'' HB0'' d0 d1 g1 g2 g3
  generalize w3.drewN nq = w4 at *
  go_wp2
  have HS : Hid (∀ w, Only (fun _ => False) w4 w → (w.cell? ⟨W.heap.size, 1, none⟩ = some (.int .i64 l) ∧ w.cell? ⟨W.heap.size, 2, none⟩ = some (.int .i64 v)) ∧ w.cell? ⟨p, i * 5 + 2, none⟩ = some (.int .i64 m) ∧ w.cell? ⟨p, i * 5 + 3, none⟩ = some (.int .i64 n)) := fun w ho =>
    ⟨⟨(HB0'.out.only ho (fun h => h)).cell 1, (HB0'.out.only ho (fun h => h)).cell 2⟩, (HL.out _ (HB3'.out.only ho (fun h => h))).2.2⟩
  apply twice2 (C := fun M W7 => Hid (SvAt w4 W7 M [.int .i64 y, .int .i64 z]))
  case k =>
    intro key
    go_region_held3 (fun w => (w.cell? ⟨W.heap.size, 1, none⟩ = some (.int .i64 l) ∧ w.cell? ⟨W.heap.size, 2, none⟩ = some (.int .i64 v)) ∧ w.cell? ⟨p, i * 5 + 2, none⟩ = some (.int .i64 m) ∧ w.cell? ⟨p, i * 5 + 3, none⟩ = some (.int .i64 n))
      (first | exact HS.out _ (Only.refl _ _).drew | exact HS.out _ ((Only.refl _ _).alloc _).drew | exact HS.out _ ho5.out | exact HS.out _ (ho5.out.alloc _) | exact HS.out _ (SvAt.only (HE.out _ _)))
      (first
        | ((with_reducible show Calls _ _ _ (World.drew w4) _); refine (HA.out _).mono ?_; rintro e w5 ⟨rfl, ho⟩; have ho5 := Lib.hid (((Only.refl (fun _ => False) w4).drew).trans ho (fun _ h => h.elim)); have HE := Lib.hid (SvAt.first ho); clear ho)
        | ((with_reducible show Calls _ _ _ (World.drew (World.alloc _ _)) _); refine (HA.out _).mono ?_; rintro e w5 ⟨rfl, ho⟩; have ho5 := Lib.hid ((((Only.refl (fun _ => False) w4).alloc _).drew).trans ho (fun _ h => h.elim)); have hz := (Blk.new w4 109 sv0).drew.only ho (fun h => h); have z0 : w5.cell? ⟨w4.heap.size, 0, none⟩ = some (.int .i64 0) := hz.cell 0; have z1 : w5.cell? ⟨w4.heap.size, 1, none⟩ = some (.int .i64 0) := hz.cell 1; have f0 := hz.frozen 0; have f1 := hz.frozen 1; have HE := Lib.hid (SvAt.second ho hz); clear ho hz))
    all_goals (first
      | (obtain ⟨W7, hW7⟩ : ∃ W7, W7 = w5.alloc (.cells #[.int .i64 y, .int .i64 z] 109) := ⟨_, rfl⟩
         rw [← hW7]
         have H0 : Hid (SvAt w4 W7 w5.heap.size [.int .i64 y, .int .i64 z]) := hW7 ▸ HE.out _ _
         obtain ⟨M, hM⟩ : ∃ M, M = w5.heap.size := ⟨_, rfl⟩
         rw [← hM] at H0 ⊢
         exact key M W7 H0)
      | (obtain ⟨W7, hW7⟩ : ∃ W7, W7 = (w5.setCell ⟨w4.heap.size, 0, none⟩ (.int .i64 y)).setCell ⟨w4.heap.size, 1, none⟩ (.int .i64 z) := ⟨_, rfl⟩
         rw [← hW7]
         have H0 : Hid (SvAt w4 W7 w4.heap.size [.int .i64 y, .int .i64 z]) := hW7 ▸ HE.out _ _
         obtain ⟨M, hM⟩ : ∃ M, M = w4.heap.size := ⟨_, rfl⟩
         rw [← hM] at H0 ⊢
         exact key M W7 H0))
  case h =>
    intro M W7 H0
    have hMl := H0.out.new
    have hpl := HB3'.out.lt
    have hb1 := HB1'.out.lt
    have m0 : W7.cell? ⟨M, 0, none⟩ = some (.int .i64 y) := H0.out.mv.cell 0
    have m1 : W7.cell? ⟨M, 1, none⟩ = some (.int .i64 z) := H0.out.mv.cell 1
    go_wp2_with (first
      | ((with_reducible show wpList _ _ _ (⟨none, .store 109 _ _, _, _, _, _⟩ :: _) _ _); refine step_store2 rfl 109 _ _ rfl p (i * 5) rfl (.int .i64 y) (.int .i64 z) rfl _ _ (HB3'.out.only H0.out.only (fun h => h)) hl90 size_set rfl rfl ?_; intro w8 hB8 hz8 ho8; have n0 : w8.cell? ⟨M, 0, none⟩ = some (.int .i64 y) := (H0.out.mv.only ho8 (by omega)).cell 0; have n1 : w8.cell? ⟨M, 1, none⟩ = some (.int .i64 z) := (H0.out.mv.only ho8 (by omega)).cell 1; have k0 : w8.cell? ⟨W.heap.size, 0, none⟩ = some (.int .i64 f) := ((HB0'.out.only H0.out.only (fun h => h)).only ho8 (by omega)).cell 0; have HB8 := Lib.hid ((HB1'.out.only H0.out.only (fun h => h)).only ho8 (by omega : ¬ W.heap.size + 1 = p)); have HO8 : Hid (Only (· = p) W w8) := (HO3'.out.trans H0.out.only (fun _ h => h.elim)).trans ho8 (fun i hi => .inl hi); clear ho8)
      | ((with_reducible show wpList _ _ _ (⟨none, .store 262 _ _, _, _, _, _⟩ :: _) _ _); refine step_store rfl 262 _ _ rfl (W.heap.size + 1) rfl (Tr.cs ⟨f, ⟨y, z⟩, ag⟩) rfl _ Tr.zero.cs HB8.out size_tri rfl (Tr.cs_one _) ?_; intro w9 hB9 hz9 ho9)
      | fail)
    refine ret_cell2 rfl (W.heap.size + 1) rfl 262 (Tr.cs ⟨f, ⟨y, z⟩, ag⟩) _ hB9.out Tryz.underlying262 rfl size_tri rfl ?_
    exact ⟨rfl, ⟨_, hB8.out.only ho9 (by omega), HC2.out⟩, HO8.out.trans ho9 (fun i hi => .inr (by omega))⟩

theorem hear_any {W : World} {p : Nat} {S : Sd} (h : ScSdAt W p S) (t : Tr) :
    Calls Tryz.prog 135 #[.pointer (some ⟨p, 0, none⟩), t.val] W fun e w' => e = .returned (.tuple #[(hearS S t).2.1.val, .bool (hearS S t).2.2]) ∧ ScSdAt w' p (hearS S t).1 ∧ Only (· = p) W w' := by
  cases hr : t.right
  · rw [hearS_not hr]
    refine (hear_not W p t hr).mono ?_
    rintro e w' ⟨rfl, ho⟩
    exact ⟨rfl, h.same ho, ho.mono (fun _ h => h.elim)⟩
  · by_cases hs : t.x = (S (plF t.f)).has ∨ t.ack = true
    · rw [hearS_still hr hs]
      exact hear_still h t hr hs
    · rw [hearS_told hr hs]
      exact hear_told h t hr hs
end Go.Proofs.YtbnfhklpobephaaGreatDoor
/- Package slc: New. -/
namespace Go.Proofs.YtbnfhklpobephaaGreatDoor
open Go Go.RowKit
set_option maxRecDepth 100000
set_option maxHeartbeats 4000000

/-- A slice of settings. -/
def StAt (W : World) (a : Option Addr) (len : Nat) (l : List Se) : Prop :=
  l.length = len ∧ ∀ (i : Nat) (x : Se), l[i]? = some x → ∃ b off, a = some ⟨b, off, none⟩ ∧ b < W.heap.size ∧ W.rangeAt b (off + i * 2) x.cs
theorem StAt.same {W W' : World} {a : Option Addr} {len : Nat} {l : List Se} (h : StAt W a len l) (ho : Only (fun _ => False) W W') : StAt W' a len l :=
  ⟨h.1, fun i x hx => by
    obtain ⟨b, off, e, hb, h1⟩ := h.2 i x hx
    exact ⟨b, off, e, Nat.lt_of_lt_of_le hb ho.size, fun j v hv => ho.cellv (h1 j v hv) (fun h => h)⟩⟩
def newTo (l : List Se) (k : Nat) : Sd := fun i => ⟨⟨0, 0⟩, if i < k then holdOf (l.getD i ⟨0, 0⟩) else ⟨0, 0⟩, false⟩
theorem newTo_succ {l : List Se} {k : Nat} {x : Se} (h : l[k]? = some x) : newTo l (k + 1) = (newTo l k).set k ⟨((newTo l k) k).has, holdOf x, ((newTo l k) k).waits⟩ := by
  funext i
  unfold Sd.set
  by_cases e : i = k
  · subst e
    rw [if_pos rfl]
    unfold newTo
    simp [List.getD_eq_getElem?_getD, h]
  · rw [if_neg e]
    unfold newTo
    by_cases e2 : i < k
    · rw [if_pos e2, if_pos (by omega)]
    · rw [if_neg e2, if_neg (by omega)]
theorem newTo_skip {l : List Se} {k : Nat} {x : Se} (h : l[k]? = some x) (hx : holdOf x = ⟨0, 0⟩) : newTo l (k + 1) = newTo l k := by
  funext i
  unfold newTo
  by_cases e : i = k
  · subst e
    rw [if_pos (by omega), if_neg (by omega), List.getD_eq_getElem?_getD, h]
    simp [hx]
  · by_cases e2 : i < k
    · rw [if_pos e2, if_pos (by omega)]
    · rw [if_neg e2, if_neg (by omega)]
theorem newTo_all {l : List Se} {m : Nat} (hm : m = min l.length 18) : newTo l m = newS l := by
  funext i
  unfold newTo newS
  by_cases e : i < m
  · rw [if_pos e, if_pos (by omega)]
  · rw [if_neg e]
    by_cases e2 : i < 18
    · rw [if_pos e2, List.getD_eq_getElem?_getD, List.getElem?_eq_none (by omega)]
      rfl
    · rw [if_neg e2]

theorem zero_of_side (W : World) : (zeroValue 114).run Tryz.prog W = .ok (.agg sc0.toArray) W := by kernel_rfl
theorem sc0_ne : ¬ sc0 = [] := by decide
theorem snew_any {w : World} {A : Option Addr} {n c : Nat} {l : List Se} (h : StAt w A n l) (hn : n ≤ c) (hc : c ≤ 9223372036854775807) :
    Calls Tryz.prog 134 #[.slice A n c] w fun e w' => ∃ p, e = .returned (.pointer (some ⟨p, 0, none⟩)) ∧ ScSdAt w' p (newS l) ∧ w.heap.size ≤ p ∧ Only (fun _ => False) w w' := by
  have H := Lib.hid h
  have HS := Lib.hid (fun W (x : Se) => isSet_any W x.l x.v)
  rcases Nat.lt_or_ge 18 n with h18 | h18
  · have hm : (18 : Int) < (n : Int) := by omega
    have hnew := newTo_all (l := l) (m := 18) (by rw [H.out.1]; omega)
    have HN := Lib.hid hnew
    have hzv := zero_of_side
    have hzn := sc0_ne
    clear hnew
    go_enter Tryz.func134, Tryz.ntmps134
    go_wp2_with (first
      | ((with_reducible show wpList _ _ _ (⟨some 6, _, _, _, _, _⟩ :: _) _ _); refine step_build rfl 114 _ rfl sc0 built_side ?_)
      | ((with_reducible show wpList _ _ _ (⟨some 7, _, _, _, _, _⟩ :: _) _ _); refine step_box rfl 114 _ rfl sc0 rfl ?_)
      | fail)
    have HB0 : Hid (ScSdAt (w.alloc (.cells sc0.toArray 114)) w.heap.size (newTo l 0)) := ⟨sc0, Blk.new w _ sc0, sc0_c⟩
    have HO0 : Hid (Only (fun _ => False) w (w.alloc (.cells sc0.toArray 114))) := (Only.refl _ _).alloc _
    have HNw : Hid (w.heap.size < (w.alloc (.cells sc0.toArray 114)).heap.size) := by simp [Hid]
    generalize w.alloc (.cells sc0.toArray 114) = w0 at *
    obtain ⟨q, hq⟩ : ∃ q, q = w.heap.size := ⟨_, rfl⟩
    rw [← hq] at HB0 HNw ⊢
    have HQ := Lib.hid hq
    clear hq
    go_loopw [14] (fun i W => ∃ k : Nat, k ≤ 18 ∧ i = .int .i64 (k : Int) ∧ Hid (ScSdAt W q (newTo l k) ∧ Only (fun _ => False) w W)) (fun i _ => 18 - (intOf i).toNat)
    case atStart => exact ⟨0, Nat.zero_le _, rfl, HB0.out, HO0.out⟩
    case round =>
      obtain ⟨k, hk, rfl, hrel⟩ := hrel
      by_cases hlt : k < 18
      · have hlt2 : (k : Int) < (18 : Int) := by omega
        have hk18 : (k : Int) < 18 := by omega
        have hk18' : k < 18 := by omega
        obtain ⟨x, hx⟩ : ∃ x, l[k]? = some x := ⟨_, List.getElem?_eq_getElem (by rw [H.out.1]; omega)⟩
        obtain ⟨b, off, rfl, hbl, hrg⟩ := (H.out.same hrel.out.2).2 k x hx
        have HX := Lib.hid hx
        have HRg := Lib.hid hrg
        obtain ⟨xl, xv⟩ := x
        have HSx := Lib.hid (fun W => HS.out W ⟨xl, xv⟩)
        have HG : Hid (∀ g, Se.fine ⟨xl, xv⟩ = g → (g = false ∨ (g = true ∧ xl = 3) → holdOf ⟨xl, xv⟩ = ⟨0, 0⟩) ∧ (g = true → xl ≠ 3 → holdOf ⟨xl, xv⟩ = ⟨xl, xv⟩)) := by
          intro g hg
          unfold holdOf
          refine ⟨fun h => ?_, fun h h3 => ?_⟩
          · rw [if_neg]
            rintro ⟨h1, h2⟩
            rcases h with h | ⟨_, h⟩
            · rw [hg, h] at h1; cases h1
            · exact h2 h
          · rw [if_pos ⟨hg.trans h, h3⟩]
        have hfin : ∃ g, Se.fine ⟨xl, xv⟩ = g := ⟨_, rfl⟩
        obtain ⟨g, hg⟩ := hfin
        have HG1 := Lib.hid (HG.out g hg).1
        have HG2 := Lib.hid (HG.out g hg).2
        simp only at HSx
        rw [hg] at HSx
        clear HG hx hrg hg
        have hM := hbl
        by_cases ho : g = true ∧ xl ≠ 3
        · obtain ⟨rfl, h3⟩ := ho
          have hn3 : (xl != 3) = true := by simp [h3]
          have HH := Lib.hid (HG2.out rfl h3)
          obtain ⟨⟨cs, hbs, hcs⟩, hon⟩ := hrel.out
          have HBs := Lib.hid hbs
          have HCs := Lib.hid hcs
          have HOn := Lib.hid hon
          have hqW := hbs.lt
          clear hbs hcs hon h3 HG1 HG2
          go_wp2_with (first
            | ((with_reducible show wpList _ _ _ (⟨some 18, _, _, _, _, _⟩ :: _) _ _); refine wpList_load_mid rfl 109 _ rfl b (off + k * 2) rfl [.int .i64 xl, .int .i64 xv] _ HRg.out Tryz.underlying109 rfl size_set ?_)
            | (go_at_call 173; refine (HSx.out _).mono ?_; rintro e w2 ⟨rfl, ho2⟩; have HB2 := Lib.hid ((Blk.new' _ 109 [.int .i64 xl, .int .i64 xv] rfl).only ho2 (fun h => h)); have b0 : w2.cell? ⟨wr.heap.size, 0, none⟩ = some (.int .i64 xl) := HB2.out.cell 0; have HBs2 := Lib.hid ((HBs.out.alloc _).only ho2 (fun h => h)); have HO2 : Hid (Only (fun _ => False) w w2) := (HOn.out.alloc _).trans ho2 (fun _ h => h.elim); clear ho2)
            | fail)

          have b1 : w2.cell? ⟨wr.heap.size, 1, none⟩ = some (.int .i64 xv) := HB2.out.cell 1
          have c2 : w2.cell? ⟨q, k * 5 + 2, none⟩ = some (.int .i64 (newTo l k k).holds.l) := (HBs2.out.cell _).trans (HCs.out.c2 hk18')
          have c3 : w2.cell? ⟨q, k * 5 + 3, none⟩ = some (.int .i64 (newTo l k k).holds.v) := (HBs2.out.cell _).trans (HCs.out.c3 hk18')
          have f2 := HBs2.out.frozen (k * 5 + 2)
          have f3 := HBs2.out.frozen (k * 5 + 3)
          go_region
          have HB9 : Hid (ScSdAt (((w2.setCell ⟨q, k * 5 + 2, none⟩ (.int .i64 xl)).setCell ⟨q, k * 5 + 2 + 1, none⟩ (.int .i64 xv)).drew) q (newTo l (k + 1))) := ⟨_, ((HBs2.out.setCell (k * 5 + 2) _).setCell (k * 5 + 2 + 1) _).drew, by
            rw [newTo_succ HX.out, HH.out]
            have h2 := HCs.out.setHolds hk18' ⟨xl, xv⟩
            rw [set2_eq _ _ _ _ (by rw [HCs.out.len]; omega)] at h2
            exact h2⟩
          have HO9 : Hid (Only (fun _ => False) w (((w2.setCell ⟨q, k * 5 + 2, none⟩ (.int .i64 xl)).setCell ⟨q, k * 5 + 2 + 1, none⟩ (.int .i64 xv)).drew)) := ((HO2.out.setCell (p := ⟨q, k * 5 + 2, none⟩) (.inr (by have := HQ.out; show w.heap.size ≤ q; omega)) _).setCell (p := ⟨q, k * 5 + 2 + 1, none⟩) (.inr (by have := HQ.out; show w.heap.size ≤ q; omega)) _).drew
          clear c2 c3 f2 f3 b0 b1
          generalize (((w2.setCell ⟨q, k * 5 + 2, none⟩ (.int .i64 xl)).setCell ⟨q, k * 5 + 2 + 1, none⟩ (.int .i64 xv)).drew) = w9 at *
          go_wp2
          go_roundw
          case rel => exact ⟨k + 1, by omega, by go_num, HB9.out, HO9.out⟩
          case measure => simp [intOf]; omega
        · have hh : holdOf ⟨xl, xv⟩ = ⟨0, 0⟩ := HG1.out (by
            cases g
            · exact .inl rfl
            · exact .inr ⟨rfl, Decidable.byContradiction fun h => ho ⟨rfl, h⟩⟩)
          have HT := Lib.hid (newTo_skip HX.out hh)
          have hg3 : g = false ∨ (g = true ∧ xl = 3) := by
            cases g
            · exact .inl rfl
            · exact .inr ⟨rfl, Decidable.byContradiction fun h => ho ⟨rfl, h⟩⟩
          clear ho hh HG1 HG2
          rcases hg3 with rfl | ⟨rfl, rfl⟩
          all_goals
            go_wp2_with (first
              | ((with_reducible show wpList _ _ _ (⟨some 18, _, _, _, _, _⟩ :: _) _ _); refine wpList_load_mid rfl 109 _ rfl b (off + k * 2) rfl [.int .i64 _, .int .i64 xv] _ HRg.out Tryz.underlying109 rfl size_set ?_)
              | (go_at_call 173; refine (HSx.out _).mono ?_; rintro e w2 ⟨rfl, ho2⟩; have HB2 := Lib.hid ((Blk.new' _ 109 [.int .i64 _, .int .i64 xv] rfl).only ho2 (fun h => h)); have b0 : w2.cell? ⟨wr.heap.size, 0, none⟩ = some (.int .i64 _) := HB2.out.cell 0; have HO2 : Hid (Only (fun _ => False) wr w2) := ((Only.refl _ _).alloc _).trans ho2 (fun _ h => h.elim); clear ho2)
              | fail)
            go_roundw
            case rel => exact ⟨k + 1, by omega, by go_num, by rw [HT.out]; exact hrel.out.1.same HO2.out, hrel.out.2.trans HO2.out (fun _ h => h.elim)⟩
            case measure => simp [intOf]; omega
      · obtain rfl : k = 18 := by omega
        go_wp2
        go_ret
        exact ⟨q, rfl, by rw [← HN.out]; exact hrel.out.1, by rw [HQ.out]; exact Nat.le_refl _, hrel.out.2⟩
  · have hm : (n : Int) ≤ 18 := by omega
    have hnew := newTo_all (l := l) (m := n) (by rw [H.out.1]; omega)
    have HN := Lib.hid hnew
    have hzv := zero_of_side
    have hzn := sc0_ne
    clear hnew
    go_enter Tryz.func134, Tryz.ntmps134
    go_wp2_with (first
      | ((with_reducible show wpList _ _ _ (⟨some 6, _, _, _, _, _⟩ :: _) _ _); refine step_build rfl 114 _ rfl sc0 built_side ?_)
      | ((with_reducible show wpList _ _ _ (⟨some 7, _, _, _, _, _⟩ :: _) _ _); refine step_box rfl 114 _ rfl sc0 rfl ?_)
      | fail)
    have HB0 : Hid (ScSdAt (w.alloc (.cells sc0.toArray 114)) w.heap.size (newTo l 0)) := ⟨sc0, Blk.new w _ sc0, sc0_c⟩
    have HO0 : Hid (Only (fun _ => False) w (w.alloc (.cells sc0.toArray 114))) := (Only.refl _ _).alloc _
    have HNw : Hid (w.heap.size < (w.alloc (.cells sc0.toArray 114)).heap.size) := by simp [Hid]
    generalize w.alloc (.cells sc0.toArray 114) = w0 at *
    obtain ⟨q, hq⟩ : ∃ q, q = w.heap.size := ⟨_, rfl⟩
    rw [← hq] at HB0 HNw ⊢
    have HQ := Lib.hid hq
    clear hq
    go_loopw [14] (fun i W => ∃ k : Nat, k ≤ n ∧ i = .int .i64 (k : Int) ∧ Hid (ScSdAt W q (newTo l k) ∧ Only (fun _ => False) w W)) (fun i _ => n - (intOf i).toNat)
    case atStart => exact ⟨0, Nat.zero_le _, rfl, HB0.out, HO0.out⟩
    case round =>
      obtain ⟨k, hk, rfl, hrel⟩ := hrel
      by_cases hlt : k < n
      · have hlt2 : (k : Int) < (n : Int) := by omega
        have hk18 : (k : Int) < 18 := by omega
        have hk18' : k < 18 := by omega
        obtain ⟨x, hx⟩ : ∃ x, l[k]? = some x := ⟨_, List.getElem?_eq_getElem (by rw [H.out.1]; omega)⟩
        obtain ⟨b, off, rfl, hbl, hrg⟩ := (H.out.same hrel.out.2).2 k x hx
        have HX := Lib.hid hx
        have HRg := Lib.hid hrg
        obtain ⟨xl, xv⟩ := x
        have HSx := Lib.hid (fun W => HS.out W ⟨xl, xv⟩)
        have HG : Hid (∀ g, Se.fine ⟨xl, xv⟩ = g → (g = false ∨ (g = true ∧ xl = 3) → holdOf ⟨xl, xv⟩ = ⟨0, 0⟩) ∧ (g = true → xl ≠ 3 → holdOf ⟨xl, xv⟩ = ⟨xl, xv⟩)) := by
          intro g hg
          unfold holdOf
          refine ⟨fun h => ?_, fun h h3 => ?_⟩
          · rw [if_neg]
            rintro ⟨h1, h2⟩
            rcases h with h | ⟨_, h⟩
            · rw [hg, h] at h1; cases h1
            · exact h2 h
          · rw [if_pos ⟨hg.trans h, h3⟩]
        have hfin : ∃ g, Se.fine ⟨xl, xv⟩ = g := ⟨_, rfl⟩
        obtain ⟨g, hg⟩ := hfin
        have HG1 := Lib.hid (HG.out g hg).1
        have HG2 := Lib.hid (HG.out g hg).2
        simp only at HSx
        rw [hg] at HSx
        clear HG hx hrg hg
        have hM := hbl
        by_cases ho : g = true ∧ xl ≠ 3
        · obtain ⟨rfl, h3⟩ := ho
          have hn3 : (xl != 3) = true := by simp [h3]
          have HH := Lib.hid (HG2.out rfl h3)
          obtain ⟨⟨cs, hbs, hcs⟩, hon⟩ := hrel.out
          have HBs := Lib.hid hbs
          have HCs := Lib.hid hcs
          have HOn := Lib.hid hon
          have hqW := hbs.lt
          clear hbs hcs hon h3 HG1 HG2
          go_wp2_with (first
            | ((with_reducible show wpList _ _ _ (⟨some 18, _, _, _, _, _⟩ :: _) _ _); refine wpList_load_mid rfl 109 _ rfl b (off + k * 2) rfl [.int .i64 xl, .int .i64 xv] _ HRg.out Tryz.underlying109 rfl size_set ?_)
            | (go_at_call 173; refine (HSx.out _).mono ?_; rintro e w2 ⟨rfl, ho2⟩; have HB2 := Lib.hid ((Blk.new' _ 109 [.int .i64 xl, .int .i64 xv] rfl).only ho2 (fun h => h)); have b0 : w2.cell? ⟨wr.heap.size, 0, none⟩ = some (.int .i64 xl) := HB2.out.cell 0; have HBs2 := Lib.hid ((HBs.out.alloc _).only ho2 (fun h => h)); have HO2 : Hid (Only (fun _ => False) w w2) := (HOn.out.alloc _).trans ho2 (fun _ h => h.elim); clear ho2)
            | fail)

          have b1 : w2.cell? ⟨wr.heap.size, 1, none⟩ = some (.int .i64 xv) := HB2.out.cell 1
          have c2 : w2.cell? ⟨q, k * 5 + 2, none⟩ = some (.int .i64 (newTo l k k).holds.l) := (HBs2.out.cell _).trans (HCs.out.c2 hk18')
          have c3 : w2.cell? ⟨q, k * 5 + 3, none⟩ = some (.int .i64 (newTo l k k).holds.v) := (HBs2.out.cell _).trans (HCs.out.c3 hk18')
          have f2 := HBs2.out.frozen (k * 5 + 2)
          have f3 := HBs2.out.frozen (k * 5 + 3)
          go_region
          have HB9 : Hid (ScSdAt (((w2.setCell ⟨q, k * 5 + 2, none⟩ (.int .i64 xl)).setCell ⟨q, k * 5 + 2 + 1, none⟩ (.int .i64 xv)).drew) q (newTo l (k + 1))) := ⟨_, ((HBs2.out.setCell (k * 5 + 2) _).setCell (k * 5 + 2 + 1) _).drew, by
            rw [newTo_succ HX.out, HH.out]
            have h2 := HCs.out.setHolds hk18' ⟨xl, xv⟩
            rw [set2_eq _ _ _ _ (by rw [HCs.out.len]; omega)] at h2
            exact h2⟩
          have HO9 : Hid (Only (fun _ => False) w (((w2.setCell ⟨q, k * 5 + 2, none⟩ (.int .i64 xl)).setCell ⟨q, k * 5 + 2 + 1, none⟩ (.int .i64 xv)).drew)) := ((HO2.out.setCell (p := ⟨q, k * 5 + 2, none⟩) (.inr (by have := HQ.out; show w.heap.size ≤ q; omega)) _).setCell (p := ⟨q, k * 5 + 2 + 1, none⟩) (.inr (by have := HQ.out; show w.heap.size ≤ q; omega)) _).drew
          clear c2 c3 f2 f3 b0 b1
          generalize (((w2.setCell ⟨q, k * 5 + 2, none⟩ (.int .i64 xl)).setCell ⟨q, k * 5 + 2 + 1, none⟩ (.int .i64 xv)).drew) = w9 at *
          go_wp2
          go_roundw
          case rel => exact ⟨k + 1, by omega, by go_num, HB9.out, HO9.out⟩
          case measure => simp [intOf]; omega
        · have hh : holdOf ⟨xl, xv⟩ = ⟨0, 0⟩ := HG1.out (by
            cases g
            · exact .inl rfl
            · exact .inr ⟨rfl, Decidable.byContradiction fun h => ho ⟨rfl, h⟩⟩)
          have HT := Lib.hid (newTo_skip HX.out hh)
          have hg3 : g = false ∨ (g = true ∧ xl = 3) := by
            cases g
            · exact .inl rfl
            · exact .inr ⟨rfl, Decidable.byContradiction fun h => ho ⟨rfl, h⟩⟩
          clear ho hh HG1 HG2
          rcases hg3 with rfl | ⟨rfl, rfl⟩
          all_goals
            go_wp2_with (first
              | ((with_reducible show wpList _ _ _ (⟨some 18, _, _, _, _, _⟩ :: _) _ _); refine wpList_load_mid rfl 109 _ rfl b (off + k * 2) rfl [.int .i64 _, .int .i64 xv] _ HRg.out Tryz.underlying109 rfl size_set ?_)
              | (go_at_call 173; refine (HSx.out _).mono ?_; rintro e w2 ⟨rfl, ho2⟩; have HB2 := Lib.hid ((Blk.new' _ 109 [.int .i64 _, .int .i64 xv] rfl).only ho2 (fun h => h)); have b0 : w2.cell? ⟨wr.heap.size, 0, none⟩ = some (.int .i64 _) := HB2.out.cell 0; have HO2 : Hid (Only (fun _ => False) wr w2) := ((Only.refl _ _).alloc _).trans ho2 (fun _ h => h.elim); clear ho2)
              | fail)
            go_roundw
            case rel => exact ⟨k + 1, by omega, by go_num, by rw [HT.out]; exact hrel.out.1.same HO2.out, hrel.out.2.trans HO2.out (fun _ h => h.elim)⟩
            case measure => simp [intOf]; omega
      · obtain rfl : k = n := by omega
        go_wp2
        go_ret
        exact ⟨q, rfl, by rw [← HN.out]; exact hrel.out.1, by rw [HQ.out]; exact Nat.le_refl _, hrel.out.2⟩
end Go.Proofs.YtbnfhklpobephaaGreatDoor
