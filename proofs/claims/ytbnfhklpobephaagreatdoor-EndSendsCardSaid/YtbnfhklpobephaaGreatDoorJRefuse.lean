/- Several texts in one. -/
import Derived.Test.YtbnfhklpobephaaGreatDoorJBase
import Derived.Deep.RegionHeld3
import Derived.BigQuiet
import Derived.Test.YtbnfhklpobephaaGreatDoorJSnList
import Derived.Test.YtbnfhklpobephaaGreatDoorJSc
import Derived.Test.YtbnfhklpobephaaGreatDoorJMd
import Derived.Test.YtbnfhklpobephaaGreatDoorJSnIn
/- 'return T{}, err': a region that draws its order and stores a struct's zero into the result, and loads an error. -/
namespace Go.Proofs.YtbnfhklpobephaaGreatDoor
open Go Go.RowKit

/-- A region of four operations: a struct's value, the load of a variable of one cell, the store of that value, a slot for what was loaded. -/
theorem wp_refuse {P : Program} {id : Nat} {o0 o1 o2 o3 : Oper} {a : Act} {w : World} {Q : Exit → Act → World → Prop} (T E : TypeId) (x : Operand) (g rx r0 r1 : Nat) (N : Nat) (v : Value) (zero : List Value)
    (hm : P.follows .mixedOrders = true)
    (n0 : o0.guard = none) (n1 : o1.guard = none) (n2 : o2.guard = none) (n3 : o3.guard = none)
    (e0 : o0.op = .build T #[]) (d0 : o0.dst = some r0) (e1 : o1.op = .load E x) (d1 : o1.dst = some r1) (e2 : o2.op = .store T (.tmp rx) (.tmp r0)) (e3 : o3.op = .assign (.tmp r1))
    (hs : Region.noSelect #[o0, o1, o2, o3] = true) (f0 : Region.free .any #[o0, o1, o2, o3] #[false, false, false, false] 0 = true) (c0 : (Region.ready .any #[o0, o1, o2, o3] #[false, false, false, false]).contains 0 = true)
    (f1 : Region.free .any #[o0, o1, o2, o3] #[true, false, false, false] 1 = true) (c1 : (Region.ready .any #[o0, o1, o2, o3] #[true, false, false, false]).contains 1 = true)
    (c2 : Region.ready .any #[o0, o1, o2, o3] #[true, true, false, false] = [2]) (c3 : Region.ready .any #[o0, o1, o2, o3] #[true, true, true, false] = [3]) (c4 : Region.ready .any #[o0, o1, o2, o3] #[true, true, true, true] = [])
    (hbt : P.built T [] = some zero.toArray) (hi : (P.info? T).map (·.size) = some zero.length) (h1 : ∀ v ∈ zero, v.oneCell' = true)
    (hl : ∀ W : World, W.cell? ⟨g, 0, none⟩ = some v → (Instr.loadAt E (.pointer (some ⟨g, 0, none⟩))).run P W = .ok v W)
    (hx : ((a.put (some r0) (.agg zero.toArray))).eval x = .pointer (some ⟨g, 0, none⟩)) (hc : w.cell? ⟨g, 0, none⟩ = some v)
    (hr0 : ((a.put (some r0) (.agg zero.toArray)).put (some r1) v).eval (.tmp r0) = .agg zero.toArray) (hrx : ((a.put (some r0) (.agg zero.toArray)).put (some r1) v).eval (.tmp rx) = .pointer (some ⟨N, 0, none⟩))
    (hr1 : (((a.put (some r0) (.agg zero.toArray)).put (some r1) v).put o2.dst undef).eval (.tmp r1) = v)
    {old : List Value} {t : TypeId} (hb : Blk w N t old) (hold : old.length = zero.length) (hne : g ≠ N)
    (h : ∀ W', Hid (Blk W' N t zero) → Hid (Only (· = N) w W') → Q .normal ((((a.put (some r0) (.agg zero.toArray)).put (some r1) v).put o2.dst undef).put o3.dst v) W') :
    (Code.region id #[o0, o1, o2, o3] true).wp P Q a w := by
  refine wp_region_noPanic ?_
  refine wp_region_held_drew (S := fun W => W.cell? ⟨g, 0, none⟩ = some v) hm hc (fun hHeld => ?_)
  refine wpAnyH_take (fuel := 3) (i := 0) (oi := o0) (v := .agg zero.toArray) rfl hs f0 c0 (fun _ _ _ h => h) (.inl ⟨by unfold Region.wanted; rw [n0], fun W hW => ?_⟩) hHeld ?_
  · unfold execOp
    simp only [e0, Sem.run_bind, Array.map_empty, run_build W T #[] zero.toArray hbt, Result.andThen_ok]
    rfl
  rw [d0]
  refine wpAnyH_take (fuel := 2) (i := 1) (oi := o1) (v := v) rfl hs f1 c1 (fun _ _ _ h => h) (.inl ⟨by unfold Region.wanted; rw [n1], fun W hW => ?_⟩) hHeld ?_
  · unfold execOp
    simp only [e1, hx, Sem.run_bind, hl W hW, Result.andThen_ok]
    rfl
  rw [d1]
  refine wpAnyH_ready (fuel := 1) (rs := [2]) c2 (by simp) ?_
  refine AllReadyH.cons (o := o2) rfl (fun K hK => ?_) AllReadyH.nil
  refine step_storeR T (.tmp rx) (.tmp r0) e2 (by unfold Region.wanted; rw [n2]) N hrx zero hr0 t old hb.drew hi hold h1 ?_
  intro W5 hB5 hz5 ho5
  refine hK.out _ _ (ho5.cellv hc hne) (fun hHeld => ?_)
  refine wpAnyH_ready (fuel := 0) (rs := [3]) c3 (by simp) ?_
  refine AllReadyH.cons (o := o3) rfl (fun K' hK' => ?_) AllReadyH.nil
  rw [if_pos (by unfold Region.wanted; rw [n3])]
  unfold Oper.wp execOp
  simp only [e3, hr1, Sem.run_pure]
  refine hK'.out _ _ hHeld (fun _ => wpAnyH_done c4 (NoPanic.normal (h W5 hB5 ?_)) _)
  exact ((Only.refl (· = N) w).drew).trans ho5 (fun i hi => .inl hi)
/-- An error that a variable holds, loaded. -/
theorem load_err {g : Nat} {u : TypeId} {x : Value} (W : World) (h : W.cell? ⟨g, 0, none⟩ = some (.iface u x)) : (Instr.loadAt 38 (.pointer (some ⟨g, 0, none⟩))).run Tryz.prog W = .ok (.iface u x) W := by
  simp [Instr.loadAt, Instr.sureAddr, go_sem, h]
end Go.Proofs.YtbnfhklpobephaaGreatDoor
/- A window's sizes: the program's calls on numbers, and on sizes. -/
namespace Go.Proofs.YtbnfhklpobephaaGreatDoor
open Go Go.RowKit
set_option maxRecDepth 100000
set_option maxHeartbeats 4000000

/-- A size's value. -/
def szVal (c r : Int) : Value := .agg #[.int .i64 c, .int .i64 r]
/-- A number that two bytes can tell. -/
def fitsN (n : Int) : Bool := decide (0 ≤ n) && decide (n ≤ 65535)
theorem fitsN_iff {n : Int} : fitsN n = true ↔ 0 ≤ n ∧ n ≤ 65535 := by simp [fitsN]
/-- The lesser one. -/
def less (a b : Int) : Int := if a ≤ 0 then (if b ≤ 0 then 0 else b) else if b ≤ 0 then a else if a ≤ b then a else b

theorem fits_any (w : World) (n : Int) : Calls Tryz.prog 172 #[.int .i64 n] w fun e w' => e = .returned (.bool (fitsN n)) ∧ w = w' := by
  unfold fitsN
  obtain ⟨p, hp⟩ : ∃ p, p = decide (0 ≤ n) := ⟨_, rfl⟩
  obtain ⟨q, hq⟩ : ∃ q, q = decide (n ≤ 65535) := ⟨_, rfl⟩
  have h1 := hp.symm
  have h2 := hq.symm
  rw [← hp, ← hq]
  clear hp hq
  cases p <;> cases q
  all_goals
    go_enter Tryz.func172, Tryz.ntmps172
    go_wp2
    go_ret
    exact ⟨rfl, rfl⟩
theorem high_any (w : World) (n : Int) (h : fitsN n = true) : Calls Tryz.prog 130 #[.int .i64 n] w fun e w' => e = .returned (.int .u8 (n / 256)) ∧ w = w' := by
  obtain ⟨h0, h1⟩ := fitsN_iff.1 h
  clear h
  go_enter Tryz.func130, Tryz.ntmps130
  go_wp2
  go_ret
  exact ⟨rfl, rfl⟩
theorem low_any (w : World) (n : Int) (h : fitsN n = true) : Calls Tryz.prog 131 #[.int .i64 n] w fun e w' => e = .returned (.int .u8 (n % 256)) ∧ w = w' := by
  obtain ⟨h0, h1⟩ := fitsN_iff.1 h
  clear h
  go_enter Tryz.func131, Tryz.ntmps131
  go_wp2
  go_ret
  exact ⟨rfl, rfl⟩
theorem or_pair (x y : Nat) (hx : x < 256) (hy : y < 256) : bits .or .i64 ((x : Int) * 256) (y : Int) = 256 * (x : Int) + (y : Int) := by
  have e : bits .or .i64 ((x : Int) * 256) (y : Int) = IntKind.wrap .i64 ((BitVec.ofInt 64 ((x : Int) * 256) ||| BitVec.ofInt 64 (y : Int)).toNat : Int) := rfl
  have h1 : BitVec.ofInt 64 ((x : Int) * 256) = BitVec.ofNat 64 (x * 256) := by
    rw [show (x : Int) * 256 = ((x * 256 : Nat) : Int) from by omega]
    rfl
  have h2 : BitVec.ofInt 64 (y : Int) = BitVec.ofNat 64 y := rfl
  have h3 : x * 256 ||| y = x * 256 + y := by
    have := Nat.shiftLeft_add_eq_or_of_lt (i := 8) (b := y) (by omega) x
    rw [Nat.shiftLeft_eq] at this
    exact this.symm
  rw [e, h1, h2, BitVec.toNat_or, BitVec.toNat_ofNat, BitVec.toNat_ofNat, Nat.mod_eq_of_lt (by omega), Nat.mod_eq_of_lt (by omega), h3, IntWalk.i64_left, IntWalk.wrap64_in _ (by omega)]
  omega
/-- What two bytes tell. -/
def two (a b : UInt8) : Int := 256 * (a.toNat : Int) + (b.toNat : Int)
theorem number_any (w : World) (a b : UInt8) : Calls Tryz.prog 229 #[B8 a, B8 b] w fun e w' => e = .returned (.int .i64 (two a b)) ∧ w = w' := by
  have ha := a.toNat_lt
  have hb := b.toNat_lt
  have ho := or_pair a.toNat b.toNat ha hb
  unfold B8 two
  generalize a.toNat = x at *
  generalize b.toNat = y at *
  go_enter Tryz.func229, Tryz.ntmps229
  go_wp2
  go_ret
  exact ⟨rfl, rfl⟩
end Go.Proofs.YtbnfhklpobephaaGreatDoor
/- Package naws: one contract for each of its calls on sizes. -/
namespace Go.Proofs.YtbnfhklpobephaaGreatDoor
open Go Go.RowKit
set_option maxRecDepth 100000
set_option maxHeartbeats 4000000

theorem b8_of {z : Int} (h0 : 0 ≤ z) (h1 : z ≤ 255) : ((UInt8.ofNat z.toNat).toNat : Int) = z := by
  rw [UInt8.toNat_ofNat']
  omega
/-- A size's bytes. -/
def bodyOf (c r : Int) : List UInt8 := [UInt8.ofNat (c / 256).toNat, UInt8.ofNat (c % 256).toNat, UInt8.ofNat (r / 256).toNat, UInt8.ofNat (r % 256).toNat]
theorem bodyOf_cells {c r : Int} (hc : fitsN c = true) (hr : fitsN r = true) : (bodyOf c r).map B8 = [.int .u8 (c / 256), .int .u8 (c % 256), .int .u8 (r / 256), .int .u8 (r % 256)] := by
  rw [fitsN_iff] at hc hr
  simp only [bodyOf, List.map_cons, List.map_nil, B8]
  rw [b8_of (by omega) (by omega), b8_of (by omega) (by omega), b8_of (by omega) (by omega), b8_of (by omega) (by omega)]

theorem nright_any (w : World) (c r : Int) : Calls Tryz.prog 129 #[szVal c r] w fun e w' => e = .returned (.bool (fitsN c && fitsN r)) ∧ Only (fun _ => False) w w' := by
  unfold szVal
  have F := fun W n => fits_any W n
  have Fc := fun W => fits_any W c
  have Fr := fun W => fits_any W r
  generalize fitsN c = p at Fc ⊢
  generalize fitsN r = q at Fr ⊢
  clear F
  cases p
  all_goals
    go_enter Tryz.func129, Tryz.ntmps129
    go_wp2_with (first
      | (go_at_call 172; refine (Fc _).mono ?_; rintro e w' ⟨rfl, e2⟩; subst w')
      | (go_at_call 172; refine (Fr _).mono ?_; rintro e w' ⟨rfl, e2⟩; subst w'))
    go_ret
    exact ⟨rfl, (Only.refl _ _).alloc _⟩

theorem nbody_bad {w : World} {es : List Addr} (hes : ErrsOf w [0, 2, 3] es) (c r : Int) (h : (fitsN c && fitsN r) = false) :
    Calls Tryz.prog 79 #[szVal c r] w fun e w' => ∃ a, es[0]? = some a ∧ e = .returned (.tuple #[.slice none 0 0, errV a]) ∧ Only (fun _ => False) w w' := by
  obtain ⟨a, ha, hc⟩ := hes.get 0 0 (by decide) rfl
  unfold errV at hc
  have R := fun W => nright_any W c r
  rw [h] at R
  have HO : Hid (∀ W, Only (fun _ => False) w W → W.cell? ⟨0, 0, none⟩ = some (.iface 409 (.pointer (some a)))) := fun W ho => ho.cellv hc (fun h => h)
  have HR := Lib.hid R
  have HA := Lib.hid ha
  clear hc R h hes ha
  unfold szVal at *
  go_enter Tryz.func79, Tryz.ntmps79
  go_wp2_with (go_at_call 129; refine (HR.out _).mono ?_; rintro e w1 ⟨rfl, ho1⟩; have hc1 := HO.out w1 (((Only.refl _ w).alloc _).trans ho1 (fun _ h => h.elim)))
  go_quiet (fail)
  go_wp2
  go_ret2
  exact ⟨a, HA.out, rfl, (((Only.refl _ w).alloc _).trans ho1 (fun _ h => h.elim)).drewN _⟩

theorem size_sz : (Tryz.prog.info? 26).map (·.size) = some 2 := by kernel_rfl
theorem sz_one (c r : Int) : ∀ v ∈ [Value.int .i64 c, .int .i64 r], v.oneCell' = true := by
  intro v hv
  simp only [List.mem_cons, List.not_mem_nil, or_false] at hv
  rcases hv with rfl | rfl <;> rfl

/-- Too short, or too long. -/
theorem nparse_short {w : World} {es : List Addr} (hes : ErrsOf w [0, 2, 3] es) (A : Option Addr) (n c : Nat) (h : n < 4) :
    Calls Tryz.prog 218 #[.slice A n c] w fun e w' => ∃ a, es[2]? = some a ∧ e = .returned (.tuple #[szVal 0 0, errV a]) ∧ Only (fun _ => False) w w' := by
  obtain ⟨a, ha, hc⟩ := hes.get 2 2 (by decide) rfl
  unfold errV at hc
  have HA := Lib.hid ha
  have hd : decide ((n : Int) < 4) = true := by simp; omega
  have hlt := World.block_lt_of_cell? w _ hc
  have hB := Lib.hid (Blk.new w 26 [.int .i64 0, .int .i64 0])
  have hcc : (w.alloc (.cells [Value.int .i64 0, .int .i64 0].toArray 26)).cell? ⟨2, 0, none⟩ = some (.iface 409 (.pointer (some a))) := ((Only.refl (fun _ => False) w).alloc _).cellv hc (fun h => h)
  have HC := Lib.hid hcc
  have HL : Hid (2 ≠ w.heap.size) := Nat.ne_of_lt hlt
  clear ha hc hes h hcc hlt
  unfold szVal
  go_enter Tryz.func218, Tryz.ntmps218
  go_wp2_with fail
  refine wp_refuse 26 38 _ 2 2 8 9 w.heap.size _ [.int .i64 0, .int .i64 0] (by kernel_rfl) rfl rfl rfl rfl rfl rfl rfl rfl rfl rfl (by kernel_rfl) (by kernel_rfl) (by kernel_rfl) (by kernel_rfl) (by kernel_rfl) (by kernel_rfl) (by kernel_rfl) (by kernel_rfl) (by kernel_rfl) size_sz (sz_one 0 0) load_err rfl HC.out rfl rfl rfl hB.out rfl HL.out ?_
  intro W' hW hO
  go_wp2
  refine ret_cell2 rfl w.heap.size rfl _ [.int .i64 0, .int .i64 0] _ hW.out Tryz.underlying26 rfl size_sz rfl ?_
  exact ⟨a, HA.out, rfl, ((Only.refl _ w).alloc _).trans hO.out (fun i hi => .inr (by omega))⟩
theorem nparse_long {w : World} {es : List Addr} (hes : ErrsOf w [0, 2, 3] es) (A : Option Addr) (n c : Nat) (h : 4 < n) :
    Calls Tryz.prog 218 #[.slice A n c] w fun e w' => ∃ a, es[3]? = some a ∧ e = .returned (.tuple #[szVal 0 0, errV a]) ∧ Only (fun _ => False) w w' := by
  obtain ⟨a, ha, hc⟩ := hes.get 3 3 (by decide) rfl
  unfold errV at hc
  have HA := Lib.hid ha
  have hd : decide ((n : Int) < 4) = false := by simp; omega
  have hd2 : decide ((4 : Int) < (n : Int)) = true := by simp; omega
  have hlt := World.block_lt_of_cell? w _ hc
  have hB := Lib.hid (Blk.new w 26 [.int .i64 0, .int .i64 0])
  have hcc : (w.alloc (.cells [Value.int .i64 0, .int .i64 0].toArray 26)).cell? ⟨3, 0, none⟩ = some (.iface 409 (.pointer (some a))) := ((Only.refl (fun _ => False) w).alloc _).cellv hc (fun h => h)
  have HC := Lib.hid hcc
  have HL : Hid (3 ≠ w.heap.size) := Nat.ne_of_lt hlt
  clear ha hc hes h hcc hlt
  unfold szVal
  go_enter Tryz.func218, Tryz.ntmps218
  go_wp2_with fail
  refine wp_refuse 26 38 _ 3 2 14 15 w.heap.size _ [.int .i64 0, .int .i64 0] (by kernel_rfl) rfl rfl rfl rfl rfl rfl rfl rfl rfl rfl (by kernel_rfl) (by kernel_rfl) (by kernel_rfl) (by kernel_rfl) (by kernel_rfl) (by kernel_rfl) (by kernel_rfl) (by kernel_rfl) (by kernel_rfl) size_sz (sz_one 0 0) load_err rfl HC.out rfl rfl rfl hB.out rfl HL.out ?_
  intro W' hW hO
  go_wp2
  refine ret_cell2 rfl w.heap.size rfl _ [.int .i64 0, .int .i64 0] _ hW.out Tryz.underlying26 rfl size_sz rfl ?_
  exact ⟨a, HA.out, rfl, ((Only.refl _ w).alloc _).trans hO.out (fun i hi => .inr (by omega))⟩
end Go.Proofs.YtbnfhklpobephaaGreatDoor
/- A hub's calls that only ask: Peer, Head, Tail, Waits, Types. -/
namespace Go.Proofs.YtbnfhklpobephaaGreatDoor
open Go Go.RowKit
set_option maxRecDepth 100000
set_option maxHeartbeats 4000000

/-- For how many answers it waits. -/
def Hb.waits (h : Hb) (S : Sd) : Nat := waitsS S + if h.hw then 1 else 0
section
variable {w : World} {p mo : Nat} {tp : TypeId} {pre post : List Value} {h : Hb} (k : HuAt w p mo tp pre post h)
include k
end
end Go.Proofs.YtbnfhklpobephaaGreatDoor
/- What a hub tells: one subnegotiation; which side a body speaks of. -/
namespace Go.Proofs.YtbnfhklpobephaaGreatDoor
open Go Go.RowKit
set_option maxRecDepth 100000
set_option maxHeartbeats 4000000

/-- A subnegotiation that is told, of which the body is these bytes: no older than block B. -/
structure One (B : Nat) (w : World) (v : Value) (o : Int) (b : List UInt8) : Prop where
  form : ∃ N A n c, v = .slice (some ⟨N, 0, none⟩) 1 1 ∧ B ≤ N ∧ Blk w N 191 [.int .i64 o, .slice A n c] ∧ Src w A n b ∧ (0 < n → ∀ ad, A = some ad → B ≤ ad.block) ∧ n ≤ c ∧ c ≤ 9223372036854775807
theorem One.only {S : Nat → Prop} {B : Nat} {w w' : World} {v : Value} {o : Int} {b : List UInt8} (h : One B w v o b) (ho : Only S w w') (hS : ∀ i, B ≤ i → ¬ S i) : One B w' v o b := by
  obtain ⟨N, A, n, c, e, h1, h2, h3, h4, h5⟩ := h.form
  exact ⟨N, A, n, c, e, h1, h2.only ho (hS _ h1), h3.only ho (fun hn ad e => hS _ (h4 hn ad e)), h4, h5⟩
theorem One.low {B B' : Nat} {w : World} {v : Value} {o : Int} {b : List UInt8} (h : One B w v o b) (hB : B' ≤ B) : One B' w v o b := by
  obtain ⟨N, A, n, c, e, h1, h2, h3, h4, h5⟩ := h.form
  exact ⟨N, A, n, c, e, Nat.le_trans hB h1, h2, h3, fun hn ad e => Nat.le_trans hB (h4 hn ad e), h5⟩

theorem tell_any (w : World) (o : Int) (A : Option Addr) (n c : Nat) :
    Calls Tryz.prog 212 #[.int .i64 o, .slice A n c] w fun e w' => e = .returned (.slice (some ⟨w.heap.size, 0, none⟩) 1 1) ∧ Hid (Blk w' w.heap.size 191 [.int .i64 o, .slice A n c]) ∧ Hid (Only (fun _ => False) w w') := by
  go_enter Tryz.func212, Tryz.ntmps212
  go_wp2
  go_ret
  exact ⟨rfl, Blk.new w 191 [.int .i64 o, .slice A n c], (Only.refl _ _).alloc _⟩
/-- Nothing is told, or one subnegotiation of this option, whose body isn't too long. -/
def Tol (w : World) (v : Value) (o : Int) : Prop :=
  v = .slice none 0 0 ∨ ∃ N A n c b, v = .slice (some ⟨N, 0, none⟩) 1 1 ∧ Blk w N 191 [.int .i64 o, .slice A n c] ∧ Src w A n b ∧ n ≤ 256
theorem Tol.only {S : Nat → Prop} {w w' : World} {v : Value} {o : Int} (h : Tol w v o) (ho : Only S w w') (hS : ∀ i, i < w.heap.size → ¬ S i) : Tol w' v o := by
  rcases h with h | ⟨N, A, n, c, b, e, h1, h2, h3⟩
  · exact .inl h
  · exact .inr ⟨N, A, n, c, b, e, h1.only ho (hS _ h1.lt), h2.only ho (fun hn ad e => hS _ (h2.lt hn ad e)), h3⟩
/-- The side of which a body speaks. -/
theorem snSide_any (w : World) (b : Bool) : Calls Tryz.prog 220 #[.bool b] w fun e w' => e = .returned (.int .i64 (if b then 0 else 1)) ∧ w' = w := by
  cases b
  all_goals
    go_enter Tryz.func220, Tryz.ntmps220
    go_wp2
    go_ret
    exact ⟨rfl, rfl⟩
end Go.Proofs.YtbnfhklpobephaaGreatDoor
