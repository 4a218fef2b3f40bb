/- Several texts in one. -/
import Derived.Test.YtlmkpembccehkaaGreatDoorJInfo
import Derived.Deep.RegionHeld3
import Derived.BigQuiet
import Derived.Test.YtlmkpembccehkaaGreatDoorJErrs
import Derived.Test.YtlmkpembccehkaaGreatDoorJBox
import Derived.Test.YtlmkpembccehkaaGreatDoorJTtRight
import Derived.Test.YtlmkpembccehkaaGreatDoorJMdParse
/- 'return T{}, err': a region that draws its order and stores a struct's zero into the result, and loads an error. -/
namespace Go.Proofs.YtlmkpembccehkaaGreatDoor
open Go Go.RowKit

/-- A region of four operations: a struct's value, the load of a variable of one cell, the store of that value, a slot for what was loaded. -/
theorem wp_refuse {P : Program} {id : Nat} {o0 o1 o2 o3 : Oper} {a : Act} {w : World} {Q : Exit → Act → World → Prop} (T E : TypeId) (x : Operand) (g rx r0 r1 : Nat) (N : Nat) (v : Value) (zero : List Value)
    (hm : P.follows .mixedOrders = true)
    (n0 : o0.guard = none) (n1 : o1.guard = none) (n2 : o2.guard = none) (n3 : o3.guard = none)
    (e0 : o0.op = .build T #[]) (d0 : o0.dst = some r0) (e1 : o1.op = .load E x) (d1 : o1.dst = some r1) (e2 : o2.op = .store T (.tmp rx) (.tmp r0)) (e3 : o3.op = .assign (.tmp r1))
    (hs : Region.noSelect #[o0, o1, o2, o3] = true) (f0 : Region.free .any #[o0, o1, o2, o3] #[false, false, false, false] 0 = true) (c0 : (Region.ready .any #[o0, o1, o2, o3] #[false, false, false, false]).contains 0 = true)
    (f1 : Region.free .any #[o0, o1, o2, o3] #[true, false, false, false] 1 = true) (c1 : (Region.ready .any #[o0, o1, o2, o3] #[true, false, false, false]).contains 1 = true)
    (c2 : Region.ready .any #[o0, o1, o2, o3] #[true, true, false, false] = [2]) (c3 : Region.ready .any #[o0, o1, o2, o3] #[true, true, true, false] = [3]) (c4 : Region.ready .any #[o0, o1, o2, o3] #[true, true, true, true] = [])
    (hbt : P.built T [] = some zero.toArray) (hi : (P.info? T).map (·.size) = some zero.length) (h1 : ∀ v ∈ zero, v.oneCell' = true)
    (hl : ∀ W : World, W.cell? ⟨g, 0, none⟩ = some v → (Instr.loadAt E (.pointer (some ⟨g, 0, none⟩))).run P W = .ok v W)
    (hx : ((a.put (some r0) (.agg zero.toArray))).eval x = .pointer (some ⟨g, 0, none⟩)) (hc : w.cell? ⟨g, 0, none⟩ = some v)
    (hr0 : ((a.put (some r0) (.agg zero.toArray)).put (some r1) v).eval (.tmp r0) = .agg zero.toArray) (hrx : ((a.put (some r0) (.agg zero.toArray)).put (some r1) v).eval (.tmp rx) = .pointer (some ⟨N, 0, none⟩))
    (hr1 : (((a.put (some r0) (.agg zero.toArray)).put (some r1) v).put o2.dst undef).eval (.tmp r1) = v)
    {old : List Value} {t : TypeId} (hb : Blk w N t old) (hold : old.length = zero.length) (hne : g ≠ N)
    (h : ∀ W', Hid (Blk W' N t zero) → Hid (Only (· = N) w W') → Q .normal ((((a.put (some r0) (.agg zero.toArray)).put (some r1) v).put o2.dst undef).put o3.dst v) W') :
    (Code.region id #[o0, o1, o2, o3] true).wp P Q a w := by
  refine wp_region_noPanic ?_
  refine wp_region_held_drew (S := fun W => W.cell? ⟨g, 0, none⟩ = some v) hm hc (fun hHeld => ?_)
  refine wpAnyH_take (fuel := 3) (i := 0) (oi := o0) (v := .agg zero.toArray) rfl hs f0 c0 (fun _ _ _ h => h) (.inl ⟨by unfold Region.wanted; rw [n0], fun W hW => ?_⟩) hHeld ?_
  · unfold execOp
    simp only [e0, Sem.run_bind, Array.map_empty, run_build W T #[] zero.toArray hbt, Result.andThen_ok]
    rfl
  rw [d0]
  refine wpAnyH_take (fuel := 2) (i := 1) (oi := o1) (v := v) rfl hs f1 c1 (fun _ _ _ h => h) (.inl ⟨by unfold Region.wanted; rw [n1], fun W hW => ?_⟩) hHeld ?_
  · unfold execOp
    simp only [e1, hx, Sem.run_bind, hl W hW, Result.andThen_ok]
    rfl
  rw [d1]
  refine wpAnyH_ready (fuel := 1) (rs := [2]) c2 (by simp) ?_
  refine AllReadyH.cons (o := o2) rfl (fun K hK => ?_) AllReadyH.nil
  refine step_storeR T (.tmp rx) (.tmp r0) e2 (by unfold Region.wanted; rw [n2]) N hrx zero hr0 t old hb.drew hi hold h1 ?_
  intro W5 hB5 hz5 ho5
  refine hK.out _ _ (ho5.cellv hc hne) (fun hHeld => ?_)
  refine wpAnyH_ready (fuel := 0) (rs := [3]) c3 (by simp) ?_
  refine AllReadyH.cons (o := o3) rfl (fun K' hK' => ?_) AllReadyH.nil
  rw [if_pos (by unfold Region.wanted; rw [n3])]
  unfold Oper.wp execOp
  simp only [e3, hr1, Sem.run_pure]
  refine hK'.out _ _ hHeld (fun _ => wpAnyH_done c4 (NoPanic.normal (h W5 hB5 ?_)) _)
  exact ((Only.refl (· = N) w).drew).trans ho5 (fun i hi => .inl hi)
/-- An error that a variable holds, loaded. -/
theorem load_err {g : Nat} {u : TypeId} {x : Value} (W : World) (h : W.cell? ⟨g, 0, none⟩ = some (.iface u x)) : (Instr.loadAt 34 (.pointer (some ⟨g, 0, none⟩))).run Tryz.prog W = .ok (.iface u x) W := by
  simp [Instr.loadAt, Instr.sureAddr, go_sem, h]
end Go.Proofs.YtlmkpembccehkaaGreatDoor
/- A window's sizes: the program's calls on numbers, and on sizes. -/
namespace Go.Proofs.YtlmkpembccehkaaGreatDoor
open Go Go.RowKit
set_option maxRecDepth 100000
set_option maxHeartbeats 4000000

/-- A size's value. -/
def szVal (c r : Int) : Value := .agg #[.int .i64 c, .int .i64 r]
/-- A number that two bytes can tell. -/
def fitsN (n : Int) : Bool := decide (0 ≤ n) && decide (n ≤ 65535)
theorem fitsN_iff {n : Int} : fitsN n = true ↔ 0 ≤ n ∧ n ≤ 65535 := by simp [fitsN]
/-- The lesser one. -/
def less (a b : Int) : Int := if a ≤ 0 then (if b ≤ 0 then 0 else b) else if b ≤ 0 then a else if a ≤ b then a else b

theorem fits_any (w : World) (n : Int) : Calls Tryz.prog 61 #[.int .i64 n] w fun e w' => e = .returned (.bool (fitsN n)) ∧ w = w' := by
  unfold fitsN
  obtain ⟨p, hp⟩ : ∃ p, p = decide (0 ≤ n) := ⟨_, rfl⟩
  obtain ⟨q, hq⟩ : ∃ q, q = decide (n ≤ 65535) := ⟨_, rfl⟩
  have h1 := hp.symm
  have h2 := hq.symm
  rw [← hp, ← hq]
  clear hp hq
  cases p <;> cases q
  all_goals
    go_enter Tryz.func61, Tryz.ntmps61
    go_wp2
    go_ret
    exact ⟨rfl, rfl⟩
theorem high_any (w : World) (n : Int) (h : fitsN n = true) : Calls Tryz.prog 41 #[.int .i64 n] w fun e w' => e = .returned (.int .u8 (n / 256)) ∧ w = w' := by
  obtain ⟨h0, h1⟩ := fitsN_iff.1 h
  clear h
  go_enter Tryz.func41, Tryz.ntmps41
  go_wp2
  go_ret
  exact ⟨rfl, rfl⟩
theorem low_any (w : World) (n : Int) (h : fitsN n = true) : Calls Tryz.prog 42 #[.int .i64 n] w fun e w' => e = .returned (.int .u8 (n % 256)) ∧ w = w' := by
  obtain ⟨h0, h1⟩ := fitsN_iff.1 h
  clear h
  go_enter Tryz.func42, Tryz.ntmps42
  go_wp2
  go_ret
  exact ⟨rfl, rfl⟩
theorem or_pair (x y : Nat) (hx : x < 256) (hy : y < 256) : bits .or .i64 ((x : Int) * 256) (y : Int) = 256 * (x : Int) + (y : Int) := by
  have e : bits .or .i64 ((x : Int) * 256) (y : Int) = IntKind.wrap .i64 ((BitVec.ofInt 64 ((x : Int) * 256) ||| BitVec.ofInt 64 (y : Int)).toNat : Int) := rfl
  have h1 : BitVec.ofInt 64 ((x : Int) * 256) = BitVec.ofNat 64 (x * 256) := by
    rw [show (x : Int) * 256 = ((x * 256 : Nat) : Int) from by omega]
    rfl
  have h2 : BitVec.ofInt 64 (y : Int) = BitVec.ofNat 64 y := rfl
  have h3 : x * 256 ||| y = x * 256 + y := by
    have := Nat.shiftLeft_add_eq_or_of_lt (i := 8) (b := y) (by omega) x
    rw [Nat.shiftLeft_eq] at this
    exact this.symm
  rw [e, h1, h2, BitVec.toNat_or, BitVec.toNat_ofNat, BitVec.toNat_ofNat, Nat.mod_eq_of_lt (by omega), Nat.mod_eq_of_lt (by omega), h3, IntWalk.i64_left, IntWalk.wrap64_in _ (by omega)]
  omega
/-- What two bytes tell. -/
def two (a b : UInt8) : Int := 256 * (a.toNat : Int) + (b.toNat : Int)
theorem number_any (w : World) (a b : UInt8) : Calls Tryz.prog 84 #[B8 a, B8 b] w fun e w' => e = .returned (.int .i64 (two a b)) ∧ w = w' := by
  have ha := a.toNat_lt
  have hb := b.toNat_lt
  have ho := or_pair a.toNat b.toNat ha hb
  unfold B8 two
  generalize a.toNat = x at *
  generalize b.toNat = y at *
  go_enter Tryz.func84, Tryz.ntmps84
  go_wp2
  go_ret
  exact ⟨rfl, rfl⟩
end Go.Proofs.YtlmkpembccehkaaGreatDoor
/- Package naws: one contract for each of its calls on sizes. -/
namespace Go.Proofs.YtlmkpembccehkaaGreatDoor
open Go Go.RowKit
set_option maxRecDepth 100000
set_option maxHeartbeats 4000000

theorem b8_of {z : Int} (h0 : 0 ≤ z) (h1 : z ≤ 255) : ((UInt8.ofNat z.toNat).toNat : Int) = z := by
  rw [UInt8.toNat_ofNat']
  omega
/-- A size's bytes. -/
def bodyOf (c r : Int) : List UInt8 := [UInt8.ofNat (c / 256).toNat, UInt8.ofNat (c % 256).toNat, UInt8.ofNat (r / 256).toNat, UInt8.ofNat (r % 256).toNat]
theorem bodyOf_cells {c r : Int} (hc : fitsN c = true) (hr : fitsN r = true) : (bodyOf c r).map B8 = [.int .u8 (c / 256), .int .u8 (c % 256), .int .u8 (r / 256), .int .u8 (r % 256)] := by
  rw [fitsN_iff] at hc hr
  simp only [bodyOf, List.map_cons, List.map_nil, B8]
  rw [b8_of (by omega) (by omega), b8_of (by omega) (by omega), b8_of (by omega) (by omega), b8_of (by omega) (by omega)]

theorem nright_any (w : World) (c r : Int) : Calls Tryz.prog 40 #[szVal c r] w fun e w' => e = .returned (.bool (fitsN c && fitsN r)) ∧ Only (fun _ => False) w w' := by
  unfold szVal
  have F := fun W n => fits_any W n
  have Fc := fun W => fits_any W c
  have Fr := fun W => fits_any W r
  generalize fitsN c = p at Fc ⊢
  generalize fitsN r = q at Fr ⊢
  clear F
  cases p
  all_goals
    go_enter Tryz.func40, Tryz.ntmps40
    go_wp2_with (first
      | (go_at_call 61; refine (Fc _).mono ?_; rintro e w' ⟨rfl, e2⟩; subst w')
      | (go_at_call 61; refine (Fr _).mono ?_; rintro e w' ⟨rfl, e2⟩; subst w'))
    go_ret
    exact ⟨rfl, (Only.refl _ _).alloc _⟩

theorem nbody_bad {w : World} {es : List Addr} (hes : ErrsOf w [0, 2, 3] es) (c r : Int) (h : (fitsN c && fitsN r) = false) :
    Calls Tryz.prog 20 #[szVal c r] w fun e w' => ∃ a, es[0]? = some a ∧ e = .returned (.tuple #[.slice none 0 0, errV a]) ∧ Only (fun _ => False) w w' := by
  obtain ⟨a, ha, hc⟩ := hes.get 0 1 (by decide) rfl
  unfold errV at hc
  have R := fun W => nright_any W c r
  rw [h] at R
  have HO : Hid (∀ W, Only (fun _ => False) w W → W.cell? ⟨1, 0, none⟩ = some (.iface 191 (.pointer (some a)))) := fun W ho => ho.cellv hc (fun h => h)
  have HR := Lib.hid R
  have HA := Lib.hid ha
  clear hc R h hes ha
  unfold szVal at *
  go_enter Tryz.func20, Tryz.ntmps20
  go_wp2_with (go_at_call 40; refine (HR.out _).mono ?_; rintro e w1 ⟨rfl, ho1⟩; have hc1 := HO.out w1 (((Only.refl _ w).alloc _).trans ho1 (fun _ h => h.elim)))
  go_quiet (fail)
  go_wp2
  go_ret2
  exact ⟨a, HA.out, rfl, (((Only.refl _ w).alloc _).trans ho1 (fun _ h => h.elim)).drewN _⟩

theorem size_sz : (Tryz.prog.info? 23).map (·.size) = some 2 := by kernel_rfl
theorem sz_one (c r : Int) : ∀ v ∈ [Value.int .i64 c, .int .i64 r], v.oneCell' = true := by
  intro v hv
  simp only [List.mem_cons, List.not_mem_nil, or_false] at hv
  rcases hv with rfl | rfl <;> rfl

/-- Too short, or too long. -/
theorem nparse_short {w : World} {es : List Addr} (hes : ErrsOf w [0, 2, 3] es) (A : Option Addr) (n c : Nat) (h : n < 4) :
    Calls Tryz.prog 65 #[.slice A n c] w fun e w' => ∃ a, es[2]? = some a ∧ e = .returned (.tuple #[szVal 0 0, errV a]) ∧ Only (fun _ => False) w w' := by
  obtain ⟨a, ha, hc⟩ := hes.get 2 9 (by decide) rfl
  unfold errV at hc
  have HA := Lib.hid ha
  have hd : decide ((n : Int) < 4) = true := by simp; omega
  have hlt := World.block_lt_of_cell? w _ hc
  have hB := Lib.hid (Blk.new w 23 [.int .i64 0, .int .i64 0])
  have hcc : (w.alloc (.cells [Value.int .i64 0, .int .i64 0].toArray 23)).cell? ⟨9, 0, none⟩ = some (.iface 191 (.pointer (some a))) := ((Only.refl (fun _ => False) w).alloc _).cellv hc (fun h => h)
  have HC := Lib.hid hcc
  have HL : Hid (9 ≠ w.heap.size) := Nat.ne_of_lt hlt
  clear ha hc hes h hcc hlt
  unfold szVal
  go_enter Tryz.func65, Tryz.ntmps65
  go_wp2_with fail
  refine wp_refuse 23 34 _ 9 2 8 9 w.heap.size _ [.int .i64 0, .int .i64 0] (by kernel_rfl) rfl rfl rfl rfl rfl rfl rfl rfl rfl rfl (by kernel_rfl) (by kernel_rfl) (by kernel_rfl) (by kernel_rfl) (by kernel_rfl) (by kernel_rfl) (by kernel_rfl) (by kernel_rfl) (by kernel_rfl) size_sz (sz_one 0 0) load_err rfl HC.out rfl rfl rfl hB.out rfl HL.out ?_
  intro W' hW hO
  go_wp2
  refine ret_cell2 rfl w.heap.size rfl _ [.int .i64 0, .int .i64 0] _ hW.out Tryz.underlying23 rfl size_sz rfl ?_
  exact ⟨a, HA.out, rfl, ((Only.refl _ w).alloc _).trans hO.out (fun i hi => .inr (by omega))⟩
theorem nparse_long {w : World} {es : List Addr} (hes : ErrsOf w [0, 2, 3] es) (A : Option Addr) (n c : Nat) (h : 4 < n) :
    Calls Tryz.prog 65 #[.slice A n c] w fun e w' => ∃ a, es[3]? = some a ∧ e = .returned (.tuple #[szVal 0 0, errV a]) ∧ Only (fun _ => False) w w' := by
  obtain ⟨a, ha, hc⟩ := hes.get 3 3 (by decide) rfl
  unfold errV at hc
  have HA := Lib.hid ha
  have hd : decide ((n : Int) < 4) = false := by simp; omega
  have hd2 : decide ((4 : Int) < (n : Int)) = true := by simp; omega
  have hlt := World.block_lt_of_cell? w _ hc
  have hB := Lib.hid (Blk.new w 23 [.int .i64 0, .int .i64 0])
  have hcc : (w.alloc (.cells [Value.int .i64 0, .int .i64 0].toArray 23)).cell? ⟨3, 0, none⟩ = some (.iface 191 (.pointer (some a))) := ((Only.refl (fun _ => False) w).alloc _).cellv hc (fun h => h)
  have HC := Lib.hid hcc
  have HL : Hid (3 ≠ w.heap.size) := Nat.ne_of_lt hlt
  clear ha hc hes h hcc hlt
  unfold szVal
  go_enter Tryz.func65, Tryz.ntmps65
  go_wp2_with fail
  refine wp_refuse 23 34 _ 3 2 14 15 w.heap.size _ [.int .i64 0, .int .i64 0] (by kernel_rfl) rfl rfl rfl rfl rfl rfl rfl rfl rfl rfl (by kernel_rfl) (by kernel_rfl) (by kernel_rfl) (by kernel_rfl) (by kernel_rfl) (by kernel_rfl) (by kernel_rfl) (by kernel_rfl) (by kernel_rfl) size_sz (sz_one 0 0) load_err rfl HC.out rfl rfl rfl hB.out rfl HL.out ?_
  intro W' hW hO
  go_wp2
  refine ret_cell2 rfl w.heap.size rfl _ [.int .i64 0, .int .i64 0] _ hW.out Tryz.underlying23 rfl size_sz rfl ?_
  exact ⟨a, HA.out, rfl, ((Only.refl _ w).alloc _).trans hO.out (fun i hi => .inr (by omega))⟩
end Go.Proofs.YtlmkpembccehkaaGreatDoor
/- A hub's calls that only ask: Peer, Head, Tail, Waits, Types. -/
namespace Go.Proofs.YtlmkpembccehkaaGreatDoor
open Go Go.RowKit
set_option maxRecDepth 100000
set_option maxHeartbeats 4000000

/-- For how many answers it waits. -/
def Hb.waits (h : Hb) (S : Sd) : Nat := waitsS S + if h.hw then 1 else 0
section
variable {w : World} {p : Nat} {h : Hb} (k : HuAt w p h)
include k
theorem huPeer_any : Calls Tryz.prog 10 #[.pointer (some ⟨p, 0, none⟩)] w fun e w' => e = .returned (szVal h.pc h.pr) ∧ Only (fun _ => False) w w' := by
  have HR := Lib.hid (fun ob => (k.peer.alloc ob).range)
  have hp := k.lt
  obtain ⟨a, ha⟩ : ∃ a, a = h.pc := ⟨_, rfl⟩
  obtain ⟨b, hb⟩ : ∃ b, b = h.pr := ⟨_, rfl⟩
  rw [← ha, ← hb] at HR ⊢
  clear k ha hb
  unfold szVal
  go_enter Tryz.func10, Tryz.ntmps10
  go_wp2_with (first
    | ((with_reducible show wpList _ _ _ (⟨some 6, _, _, _, _, _⟩ :: _) _ _); refine wpList_load_mid rfl 23 _ rfl p 5 rfl [.int .i64 a, .int .i64 b] _ (HR.out _) Tryz.underlying23 rfl size_sz ?_)
    | fail)
  refine ret_cell1 rfl w.heap.size rfl 23 [.int .i64 a, .int .i64 b] _ (Blk.new' _ _ _ rfl) Tryz.underlying23 rfl size_sz rfl ?_
  exact ⟨rfl, (Only.refl _ _).alloc _⟩
theorem huHead_any : Calls Tryz.prog 11 #[.pointer (some ⟨p, 0, none⟩)] w fun e w' => e = .returned (.int .i64 h.hm) ∧ w' = w := by
  have H := Lib.hid (heMask_any k.head)
  clear k
  go_enter Tryz.func11, Tryz.ntmps11
  go_wp2_with (go_at_call 31; (with_reducible refine H.out.mono ?_); rintro e w1 ⟨rfl, e1⟩; subst w1)
  go_ret
  exact ⟨rfl, rfl⟩
theorem huTail_any : Calls Tryz.prog 12 #[.pointer (some ⟨p, 0, none⟩)] w fun e w' => e = .returned (.int .i64 h.tm) ∧ w' = w := by
  have H := Lib.hid (taMask_any k.tail)
  clear k
  go_enter Tryz.func12, Tryz.ntmps12
  go_wp2_with (go_at_call 32; (with_reducible refine H.out.mono ?_); rintro e w1 ⟨rfl, e1⟩; subst w1)
  go_ret
  exact ⟨rfl, rfl⟩
theorem huWaits_any {S : Sd} (hS : ScC h.sd S) : Calls Tryz.prog 13 #[.pointer (some ⟨p, 0, none⟩)] w fun e w' => e = .returned (.int .i64 (h.waits S : Int)) ∧ Only (fun _ => False) w w' := by
  have H1 := Lib.hid (siWaits_any k.in3 hS)
  have H2 := Lib.hid (fun W ho => heWaits_any (k.same (w' := W) ho).head)
  have hn := waitsTo_le S 18
  unfold Hb.waits waitsS
  unfold waitsS at H1
  generalize waitsTo S 18 = n at *
  generalize h.hw = b at *
  clear k hS
  cases b
  all_goals
    go_enter Tryz.func13, Tryz.ntmps13
    go_wp2_with (first
      | (go_at_call 33; (with_reducible refine H1.out.mono ?_); rintro e w1 ⟨rfl, ho1⟩; have HO1 := Lib.hid ho1; clear ho1)
      | (go_at_call 34; (with_reducible refine (H2.out _ HO1.out).mono ?_); rintro e w2 ⟨rfl, e2⟩; subst w2))
    go_ret
    exact ⟨by simp, HO1.out⟩
theorem huTypes_any : Calls Tryz.prog 14 #[.pointer (some ⟨p, 0, none⟩)] w fun e w' => ∃ A c, e = .returned (.slice A h.li.names.length c) ∧ Hid (TSrc w' A h.li.names.length h.li.names) ∧ Hid (Only (fun _ => False) w w') := by
  have H := Lib.hid (liNames_any ⟨k.ok.li, k.in1⟩)
  clear k
  go_enter Tryz.func14, Tryz.ntmps14
  go_wp2_with (go_at_call 35; (with_reducible refine H.out.mono ?_); rintro e w1 ⟨A, c, rfl, hs, ho⟩)
  go_ret
  exact ⟨A, c, rfl, hs, ho⟩
end
end Go.Proofs.YtlmkpembccehkaaGreatDoor
