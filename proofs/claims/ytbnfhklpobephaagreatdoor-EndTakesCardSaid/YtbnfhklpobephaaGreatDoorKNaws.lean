/- Several texts in one. -/
import Derived.Test.YtbnfhklpobephaaGreatDoorJMdHear
import Derived.BigQuiet
import Derived.Test.YtbnfhklpobephaaGreatDoorJNum
import Derived.Test.YtbnfhklpobephaaGreatDoorKTt
import Derived.Test.YtbnfhklpobephaaGreatDoorJTextsTwo
import Derived.Test.YtbnfhklpobephaaGreatDoorKAlloc
import Derived.LaidLaws
import Derived.Lib.LaidTab
import Derived.Deep.MidRow
import Derived.Test.YtbnfhklpobephaaGreatDoorJBase
/- Several texts in one. -/
/- A window's sizes: the program's calls on numbers, and on sizes. -/
namespace Go.Proofs.YtbnfhklpobephaaGreatDoor
open Go Go.RowKit
set_option maxRecDepth 100000
set_option maxHeartbeats 4000000

/-- A size's value. -/
def szVal (c r : Int) : Value := .agg #[.int .i64 c, .int .i64 r]
/-- A number that two bytes can tell. -/
def fitsN (n : Int) : Bool := decide (0 ≤ n) && decide (n ≤ 65535)
theorem fitsN_iff {n : Int} : fitsN n = true ↔ 0 ≤ n ∧ n ≤ 65535 := by simp [fitsN]
/-- The lesser one. -/
def less (a b : Int) : Int := if a ≤ 0 then (if b ≤ 0 then 0 else b) else if b ≤ 0 then a else if a ≤ b then a else b

theorem fits_any (w : World) (n : Int) : Calls Tryz.prog 172 #[.int .i64 n] w fun e w' => e = .returned (.bool (fitsN n)) ∧ w = w' := by
  unfold fitsN
  obtain ⟨p, hp⟩ : ∃ p, p = decide (0 ≤ n) := ⟨_, rfl⟩
  obtain ⟨q, hq⟩ : ∃ q, q = decide (n ≤ 65535) := ⟨_, rfl⟩
  have h1 := hp.symm
  have h2 := hq.symm
  rw [← hp, ← hq]
  clear hp hq
  cases p <;> cases q
  all_goals
    go_enter Tryz.func172, Tryz.ntmps172
    go_wp2
    go_ret
    exact ⟨rfl, rfl⟩
theorem high_any (w : World) (n : Int) (h : fitsN n = true) : Calls Tryz.prog 130 #[.int .i64 n] w fun e w' => e = .returned (.int .u8 (n / 256)) ∧ w = w' := by
  obtain ⟨h0, h1⟩ := fitsN_iff.1 h
  clear h
  go_enter Tryz.func130, Tryz.ntmps130
  go_wp2
  go_ret
  exact ⟨rfl, rfl⟩
theorem low_any (w : World) (n : Int) (h : fitsN n = true) : Calls Tryz.prog 131 #[.int .i64 n] w fun e w' => e = .returned (.int .u8 (n % 256)) ∧ w = w' := by
  obtain ⟨h0, h1⟩ := fitsN_iff.1 h
  clear h
  go_enter Tryz.func131, Tryz.ntmps131
  go_wp2
  go_ret
  exact ⟨rfl, rfl⟩
theorem or_pair (x y : Nat) (hx : x < 256) (hy : y < 256) : bits .or .i64 ((x : Int) * 256) (y : Int) = 256 * (x : Int) + (y : Int) := by
  have e : bits .or .i64 ((x : Int) * 256) (y : Int) = IntKind.wrap .i64 ((BitVec.ofInt 64 ((x : Int) * 256) ||| BitVec.ofInt 64 (y : Int)).toNat : Int) := rfl
  have h1 : BitVec.ofInt 64 ((x : Int) * 256) = BitVec.ofNat 64 (x * 256) := by
    rw [show (x : Int) * 256 = ((x * 256 : Nat) : Int) from by omega]
    rfl
  have h2 : BitVec.ofInt 64 (y : Int) = BitVec.ofNat 64 y := rfl
  have h3 : x * 256 ||| y = x * 256 + y := by
    have := Nat.shiftLeft_add_eq_or_of_lt (i := 8) (b := y) (by omega) x
    rw [Nat.shiftLeft_eq] at this
    exact this.symm
  rw [e, h1, h2, BitVec.toNat_or, BitVec.toNat_ofNat, BitVec.toNat_ofNat, Nat.mod_eq_of_lt (by omega), Nat.mod_eq_of_lt (by omega), h3, IntWalk.i64_left, IntWalk.wrap64_in _ (by omega)]
  omega
/-- What two bytes tell. -/
def two (a b : UInt8) : Int := 256 * (a.toNat : Int) + (b.toNat : Int)
theorem number_any (w : World) (a b : UInt8) : Calls Tryz.prog 229 #[B8 a, B8 b] w fun e w' => e = .returned (.int .i64 (two a b)) ∧ w = w' := by
  have ha := a.toNat_lt
  have hb := b.toNat_lt
  have ho := or_pair a.toNat b.toNat ha hb
  unfold B8 two
  generalize a.toNat = x at *
  generalize b.toNat = y at *
  go_enter Tryz.func229, Tryz.ntmps229
  go_wp2
  go_ret
  exact ⟨rfl, rfl⟩
end Go.Proofs.YtbnfhklpobephaaGreatDoor
/- Package naws: one contract for each of its calls on sizes. -/
namespace Go.Proofs.YtbnfhklpobephaaGreatDoor
open Go Go.RowKit
set_option maxRecDepth 100000
set_option maxHeartbeats 4000000

theorem b8_of {z : Int} (h0 : 0 ≤ z) (h1 : z ≤ 255) : ((UInt8.ofNat z.toNat).toNat : Int) = z := by
  rw [UInt8.toNat_ofNat']
  omega
/-- A size's bytes. -/
def bodyOf (c r : Int) : List UInt8 := [UInt8.ofNat (c / 256).toNat, UInt8.ofNat (c % 256).toNat, UInt8.ofNat (r / 256).toNat, UInt8.ofNat (r % 256).toNat]
theorem bodyOf_cells {c r : Int} (hc : fitsN c = true) (hr : fitsN r = true) : (bodyOf c r).map B8 = [.int .u8 (c / 256), .int .u8 (c % 256), .int .u8 (r / 256), .int .u8 (r % 256)] := by
  rw [fitsN_iff] at hc hr
  simp only [bodyOf, List.map_cons, List.map_nil, B8]
  rw [b8_of (by omega) (by omega), b8_of (by omega) (by omega), b8_of (by omega) (by omega), b8_of (by omega) (by omega)]

theorem nright_any (w : World) (c r : Int) : Calls Tryz.prog 129 #[szVal c r] w fun e w' => e = .returned (.bool (fitsN c && fitsN r)) ∧ Only (fun _ => False) w w' := by
  unfold szVal
  have F := fun W n => fits_any W n
  have Fc := fun W => fits_any W c
  have Fr := fun W => fits_any W r
  generalize fitsN c = p at Fc ⊢
  generalize fitsN r = q at Fr ⊢
  clear F
  cases p
  all_goals
    go_enter Tryz.func129, Tryz.ntmps129
    go_wp2_with (first
      | (go_at_call 172; refine (Fc _).mono ?_; rintro e w' ⟨rfl, e2⟩; subst w')
      | (go_at_call 172; refine (Fr _).mono ?_; rintro e w' ⟨rfl, e2⟩; subst w'))
    go_ret
    exact ⟨rfl, (Only.refl _ _).alloc _⟩

theorem nbody_bad {w : World} {es : List Addr} (hes : ErrsOf w [0, 2, 3] es) (c r : Int) (h : (fitsN c && fitsN r) = false) :
    Calls Tryz.prog 79 #[szVal c r] w fun e w' => ∃ a, es[0]? = some a ∧ e = .returned (.tuple #[.slice none 0 0, errV a]) ∧ Only (fun _ => False) w w' := by
  obtain ⟨a, ha, hc⟩ := hes.get 0 0 (by decide) rfl
  unfold errV at hc
  have R := fun W => nright_any W c r
  rw [h] at R
  have HO : Hid (∀ W, Only (fun _ => False) w W → W.cell? ⟨0, 0, none⟩ = some (.iface 409 (.pointer (some a)))) := fun W ho => ho.cellv hc (fun h => h)
  have HR := Lib.hid R
  have HA := Lib.hid ha
  clear hc R h hes ha
  unfold szVal at *
  go_enter Tryz.func79, Tryz.ntmps79
  go_wp2_with (go_at_call 129; refine (HR.out _).mono ?_; rintro e w1 ⟨rfl, ho1⟩; have hc1 := HO.out w1 (((Only.refl _ w).alloc _).trans ho1 (fun _ h => h.elim)))
  go_quiet (fail)
  go_wp2
  go_ret2
  exact ⟨a, HA.out, rfl, (((Only.refl _ w).alloc _).trans ho1 (fun _ h => h.elim)).drewN _⟩

theorem size_sz : (Tryz.prog.info? 26).map (·.size) = some 2 := by kernel_rfl
theorem sz_one (c r : Int) : ∀ v ∈ [Value.int .i64 c, .int .i64 r], v.oneCell' = true := by
  intro v hv
  simp only [List.mem_cons, List.not_mem_nil, or_false] at hv
  rcases hv with rfl | rfl <;> rfl

/-- Too short, or too long. -/
theorem nparse_short {w : World} {es : List Addr} (hes : ErrsOf w [0, 2, 3] es) (A : Option Addr) (n c : Nat) (h : n < 4) :
    Calls Tryz.prog 218 #[.slice A n c] w fun e w' => ∃ a, es[2]? = some a ∧ e = .returned (.tuple #[szVal 0 0, errV a]) ∧ Only (fun _ => False) w w' := by
  obtain ⟨a, ha, hc⟩ := hes.get 2 2 (by decide) rfl
  unfold errV at hc
  have HA := Lib.hid ha
  have hd : decide ((n : Int) < 4) = true := by simp; omega
  have hlt := World.block_lt_of_cell? w _ hc
  have hB := Lib.hid (Blk.new w 26 [.int .i64 0, .int .i64 0])
  have hcc : (w.alloc (.cells [Value.int .i64 0, .int .i64 0].toArray 26)).cell? ⟨2, 0, none⟩ = some (.iface 409 (.pointer (some a))) := ((Only.refl (fun _ => False) w).alloc _).cellv hc (fun h => h)
  have HC := Lib.hid hcc
  have HL : Hid (2 ≠ w.heap.size) := Nat.ne_of_lt hlt
  clear ha hc hes h hcc hlt
  unfold szVal
  go_enter Tryz.func218, Tryz.ntmps218
  go_wp2_with fail
  refine wp_refuse 26 38 _ 2 2 8 9 w.heap.size _ [.int .i64 0, .int .i64 0] (by kernel_rfl) rfl rfl rfl rfl rfl rfl rfl rfl rfl rfl (by kernel_rfl) (by kernel_rfl) (by kernel_rfl) (by kernel_rfl) (by kernel_rfl) (by kernel_rfl) (by kernel_rfl) (by kernel_rfl) (by kernel_rfl) size_sz (sz_one 0 0) load_err rfl HC.out rfl rfl rfl hB.out rfl HL.out ?_
  intro W' hW hO
  go_wp2
  refine ret_cell2 rfl w.heap.size rfl _ [.int .i64 0, .int .i64 0] _ hW.out Tryz.underlying26 rfl size_sz rfl ?_
  exact ⟨a, HA.out, rfl, ((Only.refl _ w).alloc _).trans hO.out (fun i hi => .inr (by omega))⟩
theorem nparse_long {w : World} {es : List Addr} (hes : ErrsOf w [0, 2, 3] es) (A : Option Addr) (n c : Nat) (h : 4 < n) :
    Calls Tryz.prog 218 #[.slice A n c] w fun e w' => ∃ a, es[3]? = some a ∧ e = .returned (.tuple #[szVal 0 0, errV a]) ∧ Only (fun _ => False) w w' := by
  obtain ⟨a, ha, hc⟩ := hes.get 3 3 (by decide) rfl
  unfold errV at hc
  have HA := Lib.hid ha
  have hd : decide ((n : Int) < 4) = false := by simp; omega
  have hd2 : decide ((4 : Int) < (n : Int)) = true := by simp; omega
  have hlt := World.block_lt_of_cell? w _ hc
  have hB := Lib.hid (Blk.new w 26 [.int .i64 0, .int .i64 0])
  have hcc : (w.alloc (.cells [Value.int .i64 0, .int .i64 0].toArray 26)).cell? ⟨3, 0, none⟩ = some (.iface 409 (.pointer (some a))) := ((Only.refl (fun _ => False) w).alloc _).cellv hc (fun h => h)
  have HC := Lib.hid hcc
  have HL : Hid (3 ≠ w.heap.size) := Nat.ne_of_lt hlt
  clear ha hc hes h hcc hlt
  unfold szVal
  go_enter Tryz.func218, Tryz.ntmps218
  go_wp2_with fail
  refine wp_refuse 26 38 _ 3 2 14 15 w.heap.size _ [.int .i64 0, .int .i64 0] (by kernel_rfl) rfl rfl rfl rfl rfl rfl rfl rfl rfl rfl (by kernel_rfl) (by kernel_rfl) (by kernel_rfl) (by kernel_rfl) (by kernel_rfl) (by kernel_rfl) (by kernel_rfl) (by kernel_rfl) (by kernel_rfl) size_sz (sz_one 0 0) load_err rfl HC.out rfl rfl rfl hB.out rfl HL.out ?_
  intro W' hW hO
  go_wp2
  refine ret_cell2 rfl w.heap.size rfl _ [.int .i64 0, .int .i64 0] _ hW.out Tryz.underlying26 rfl size_sz rfl ?_
  exact ⟨a, HA.out, rfl, ((Only.refl _ w).alloc _).trans hO.out (fun i hi => .inr (by omega))⟩
end Go.Proofs.YtbnfhklpobephaaGreatDoor
/- A hub's calls that only ask: Peer, Head, Tail, Waits, Types. -/
namespace Go.Proofs.YtbnfhklpobephaaGreatDoor
open Go Go.RowKit
set_option maxRecDepth 100000
set_option maxHeartbeats 4000000

/-- For how many answers it waits. -/
def Hb.waits (h : Hb) (S : Sd) : Nat := waitsS S + if h.hw then 1 else 0
section
variable {w : World} {p mo : Nat} {tp : TypeId} {pre post : List Value} {h : Hb} (k : HuAt w p mo tp pre post h)
include k
theorem huPeer_any : Calls Tryz.prog 54 #[.pointer (some ⟨p, mo, none⟩)] w fun e w' => e = .returned (szVal h.pc h.pr) ∧ Only (fun _ => False) w w' := by
  have HR := Lib.hid (fun ob => (k.peer.alloc ob).range)
  have hp := k.lt
  obtain ⟨a, ha⟩ : ∃ a, a = h.pc := ⟨_, rfl⟩
  obtain ⟨b, hb⟩ : ∃ b, b = h.pr := ⟨_, rfl⟩
  rw [← ha, ← hb] at HR ⊢
  clear k ha hb
  unfold szVal
  go_enter Tryz.func54, Tryz.ntmps54
  go_wp2_with (first
    | ((with_reducible show wpList _ _ _ (⟨some 6, _, _, _, _, _⟩ :: _) _ _); refine wpList_load_mid rfl 26 _ rfl p (mo + 5) rfl [.int .i64 a, .int .i64 b] _ (HR.out _) Tryz.underlying26 rfl size_sz ?_)
    | fail)
  refine ret_cell1 rfl w.heap.size rfl 26 [.int .i64 a, .int .i64 b] _ (Blk.new' _ _ _ rfl) Tryz.underlying26 rfl size_sz rfl ?_
  exact ⟨rfl, (Only.refl _ _).alloc _⟩
theorem huHead_any : Calls Tryz.prog 57 #[.pointer (some ⟨p, mo, none⟩)] w fun e w' => e = .returned (.int .i64 h.hm) ∧ w' = w := by
  have H := Lib.hid (heMask_any k.head)
  clear k
  go_enter Tryz.func57, Tryz.ntmps57
  go_wp2_with (go_at_call 106; (with_reducible refine H.out.mono ?_); rintro e w1 ⟨rfl, e1⟩; subst w1)
  go_ret
  exact ⟨rfl, rfl⟩
theorem huTail_any : Calls Tryz.prog 58 #[.pointer (some ⟨p, mo, none⟩)] w fun e w' => e = .returned (.int .i64 h.tm) ∧ w' = w := by
  have H := Lib.hid (taMask_any k.tail)
  clear k
  go_enter Tryz.func58, Tryz.ntmps58
  go_wp2_with (go_at_call 107; (with_reducible refine H.out.mono ?_); rintro e w1 ⟨rfl, e1⟩; subst w1)
  go_ret
  exact ⟨rfl, rfl⟩
theorem huWaits_any {S : Sd} (hS : ScC h.sd S) : Calls Tryz.prog 60 #[.pointer (some ⟨p, mo, none⟩)] w fun e w' => e = .returned (.int .i64 (h.waits S : Int)) ∧ Only (fun _ => False) w w' := by
  have H1 := Lib.hid (siWaits_any k.in3 hS)
  have H2 := Lib.hid (fun W ho => heWaits_any (k.same (w' := W) ho).head)
  have hn := waitsTo_le S 18
  unfold Hb.waits waitsS
  unfold waitsS at H1
  generalize waitsTo S 18 = n at *
  generalize h.hw = b at *
  clear k hS
  cases b
  all_goals
    go_enter Tryz.func60, Tryz.ntmps60
    go_wp2_with (first
      | (go_at_call 109; (with_reducible refine H1.out.mono ?_); rintro e w1 ⟨rfl, ho1⟩; have HO1 := Lib.hid ho1; clear ho1)
      | (go_at_call 110; (with_reducible refine (H2.out _ HO1.out).mono ?_); rintro e w2 ⟨rfl, e2⟩; subst w2))
    go_ret
    exact ⟨by simp, HO1.out⟩
theorem huTypes_any : Calls Tryz.prog 56 #[.pointer (some ⟨p, mo, none⟩)] w fun e w' => ∃ A c, e = .returned (.slice A h.li.names.length c) ∧ Hid (TSrc w' A h.li.names.length h.li.names) ∧ Hid (Only (fun _ => False) w w') := by
  have H := Lib.hid (liNames_any ⟨k.ok.li, k.in1⟩)
  clear k
  go_enter Tryz.func56, Tryz.ntmps56
  go_wp2_with (go_at_call 105; (with_reducible refine H.out.mono ?_); rintro e w1 ⟨A, c, rfl, hs, ho⟩)
  go_ret
  exact ⟨A, c, rfl, hs, ho⟩
end
end Go.Proofs.YtbnfhklpobephaaGreatDoor
/- What a hub tells: one subnegotiation; which side a body speaks of. -/
namespace Go.Proofs.YtbnfhklpobephaaGreatDoor
open Go Go.RowKit
set_option maxRecDepth 100000
set_option maxHeartbeats 4000000

/-- A subnegotiation that is told, of which the body is these bytes: no older than block B. -/
structure One (B : Nat) (w : World) (v : Value) (o : Int) (b : List UInt8) : Prop where
  form : ∃ N A n c, v = .slice (some ⟨N, 0, none⟩) 1 1 ∧ B ≤ N ∧ Blk w N 191 [.int .i64 o, .slice A n c] ∧ Src w A n b ∧ (0 < n → ∀ ad, A = some ad → B ≤ ad.block) ∧ n ≤ c ∧ c ≤ 9223372036854775807
theorem One.only {S : Nat → Prop} {B : Nat} {w w' : World} {v : Value} {o : Int} {b : List UInt8} (h : One B w v o b) (ho : Only S w w') (hS : ∀ i, B ≤ i → ¬ S i) : One B w' v o b := by
  obtain ⟨N, A, n, c, e, h1, h2, h3, h4, h5⟩ := h.form
  exact ⟨N, A, n, c, e, h1, h2.only ho (hS _ h1), h3.only ho (fun hn ad e => hS _ (h4 hn ad e)), h4, h5⟩
theorem One.low {B B' : Nat} {w : World} {v : Value} {o : Int} {b : List UInt8} (h : One B w v o b) (hB : B' ≤ B) : One B' w v o b := by
  obtain ⟨N, A, n, c, e, h1, h2, h3, h4, h5⟩ := h.form
  exact ⟨N, A, n, c, e, Nat.le_trans hB h1, h2, h3, fun hn ad e => Nat.le_trans hB (h4 hn ad e), h5⟩

theorem tell_any (w : World) (o : Int) (A : Option Addr) (n c : Nat) :
    Calls Tryz.prog 212 #[.int .i64 o, .slice A n c] w fun e w' => e = .returned (.slice (some ⟨w.heap.size, 0, none⟩) 1 1) ∧ Hid (Blk w' w.heap.size 191 [.int .i64 o, .slice A n c]) ∧ Hid (Only (fun _ => False) w w') := by
  go_enter Tryz.func212, Tryz.ntmps212
  go_wp2
  go_ret
  exact ⟨rfl, Blk.new w 191 [.int .i64 o, .slice A n c], (Only.refl _ _).alloc _⟩
/-- Nothing is told, or one subnegotiation of this option, whose body isn't too long. -/
def Tol (w : World) (v : Value) (o : Int) : Prop :=
  v = .slice none 0 0 ∨ ∃ N A n c b, v = .slice (some ⟨N, 0, none⟩) 1 1 ∧ Blk w N 191 [.int .i64 o, .slice A n c] ∧ Src w A n b ∧ n ≤ 256
theorem Tol.only {S : Nat → Prop} {w w' : World} {v : Value} {o : Int} (h : Tol w v o) (ho : Only S w w') (hS : ∀ i, i < w.heap.size → ¬ S i) : Tol w' v o := by
  rcases h with h | ⟨N, A, n, c, b, e, h1, h2, h3⟩
  · exact .inl h
  · exact .inr ⟨N, A, n, c, b, e, h1.only ho (hS _ h1.lt), h2.only ho (fun hn ad e => hS _ (h2.lt hn ad e)), h3⟩
theorem One.tol {B : Nat} {w : World} {v : Value} {o : Int} {b : List UInt8} (h : One B w v o b) (hb : b.length ≤ 256) : Tol w v o := by
  obtain ⟨N, A, n, c, e, h1, h2, h3, h4, h5⟩ := h.form
  exact .inr ⟨N, A, n, c, b, e, h2, h3, by rw [← h3.1]; exact hb⟩

/-- The side of which a body speaks. -/
theorem snSide_any (w : World) (b : Bool) : Calls Tryz.prog 220 #[.bool b] w fun e w' => e = .returned (.int .i64 (if b then 0 else 1)) ∧ w' = w := by
  cases b
  all_goals
    go_enter Tryz.func220, Tryz.ntmps220
    go_wp2
    go_ret
    exact ⟨rfl, rfl⟩
end Go.Proofs.YtbnfhklpobephaaGreatDoor
/- Several texts in one. -/
/- Package naws: Parse of four bytes, and Fit. -/
namespace Go.Proofs.YtbnfhklpobephaaGreatDoor
open Go Go.RowKit
set_option maxRecDepth 100000
set_option maxHeartbeats 4000000

theorem nparse_ok {w : World} {A : Option Addr} {a b c d : UInt8} (h : Src w A 4 [a, b, c, d]) (cap : Nat) :
    Calls Tryz.prog 218 #[.slice A 4 cap] w fun e w' => e = .returned (.tuple #[szVal (two a b) (two c d), .nilIface]) ∧ Only (fun _ => False) w w' := by
  obtain ⟨_, hx⟩ := h
  obtain ⟨ad, rfl, hs⟩ := hx (by omega)
  have c0 := hs 0 a rfl
  have c1 := hs 1 b rfl
  have c2 := hs 2 c rfl
  have c3 := hs 3 d rfl
  have add_k : ∀ k, 0 < k → ad.add k = ⟨ad.block, ad.off + k, none⟩ := fun k hk => by simp [Addr.add]; omega
  rw [show ad.add 0 = ad from by simp [Addr.add]] at c0
  rw [add_k 1 (by omega)] at c1
  rw [add_k 2 (by omega)] at c2
  rw [add_k 3 (by omega)] at c3
  have hlt := World.block_lt_of_cell? w _ c0
  have HN1 := Lib.hid (fun W => number_any W a b)
  have HN2 := Lib.hid (fun W => number_any W c d)
  have hne : ad.block ≠ w.heap.size := by omega
  clear hs hx add_k
  unfold szVal
  unfold B8 at *
  generalize two a b = x at *
  generalize two c d = y at *
  have b1 : (1 : Int) < (4 : Int) := by omega
  go_enter Tryz.func218, Tryz.ntmps218
  go_wp2_with fail
  go_region_held3 (fun W => W.cell? ad = some (.int .u8 (a.toNat : Int)) ∧ W.cell? ⟨ad.block, ad.off + 1, none⟩ = some (.int .u8 (b.toNat : Int)) ∧ W.cell? ⟨ad.block, ad.off + 2, none⟩ = some (.int .u8 (c.toNat : Int)) ∧ W.cell? ⟨ad.block, ad.off + 3, none⟩ = some (.int .u8 (d.toNat : Int)))
    (go_keep)
    (first
      | (go_at_call 229; (with_reducible refine (HN1.out _).mono ?_); rintro e w' ⟨rfl, e2⟩; subst w')
      | (go_at_call 229; (with_reducible refine (HN2.out _).mono ?_); rintro e w' ⟨rfl, e2⟩; subst w'))
  all_goals
    go_wp2
    refine ret_cell2 rfl w.heap.size rfl 26 [.int .i64 x, .int .i64 y] _ (Blk.new' _ _ _ rfl).drew Tryz.underlying26 rfl size_sz rfl ?_
    exact ⟨rfl, ((Only.refl _ _).alloc _).drew⟩

end Go.Proofs.YtbnfhklpobephaaGreatDoor
/- Tables at package level: what a row's list of them gives a walk: a table of texts, a table of numbers, an error of the library's; and that all stay where nothing old turns. -/
namespace Go.Proofs.YtbnfhklpobephaaGreatDoor
open Go Go.RowKit

/-- Block g holds these texts, one a cell. -/
def TextsAt (W : World) (g : Nat) (ws : List (List UInt8)) : Prop := ∀ (i : Nat) (s : List UInt8), ws[i]? = some s → W.cell? ⟨g, i, none⟩ = some (.string ⟨s.toArray⟩)
theorem TextsAt.only {W W' : World} {g : Nat} {ws : List (List UInt8)} (h : TextsAt W g ws) (ho : Only (fun _ => False) W W') : TextsAt W' g ws := fun i s hs => ho.cellv (h i s hs) (fun h => h)

/-- A variable that is listed, wherever it stands. -/
theorem listed {P : Program} {W : World} : ∀ {l : List (String × DataW Unit)} {ps : List MemPlace}, DataW.LaidVars P W l ps → ∀ {n : String} {d : DataW Unit}, (n, d) ∈ l →
    ∃ g t cs fuel p, P.globalNamed n = some g ∧ (P.globals[g]?).map (·.type) = some t ∧ W.var? P n = some cs ∧ DataW.trod (fun _ => ()) P W 0 (fun _ => true) false fuel t cs.toList = some (d, p)
  | [], _, _, _, _, hm => by cases hm
  | (_, _) :: r, _, h, n, d, hm => by
    obtain ⟨g, t, cs, fuel, p, q, h1, h2, h3, h4, h5, _⟩ := h
    rcases List.mem_cons.1 hm with e | hm
    · cases e
      exact ⟨g, t, cs, fuel, p, h1, h2, h3, h4⟩
    · exact listed h5 hm

/-- The datum of a table of texts. -/
def texts {H : Type} (ws : List (List UInt8)) : DataW H := .agg (ws.map fun s => .lit (.string s))

theorem texts_of {P : Program} {W : World} {l : List (String × DataW Unit)} (h : laidMet P l W) {n : String} {ws : List (List UInt8)} (hm : (n, texts ws) ∈ l) {g : Nat} {t e : TypeId} {k : Nat}
    (hg : P.globalNamed n = some g) (hty : (P.globals[g]?).map (·.type) = some t) (ht : P.underlying t = some (.array k e)) (he : P.underlying e = some .string) (hc : P.cellsOf e = 1) : TextsAt W g ws := by
  obtain ⟨ps, hv, _, _⟩ := h
  obtain ⟨g', t', cs, fuel, p, hg', hty', hvar, hd⟩ := listed hv hm
  obtain rfl := Option.some.inj (hg.symm.trans hg')
  obtain rfl := Option.some.inj (hty.symm.trans hty')
  obtain ⟨xs, m, _, hx, _, hxl, hel⟩ := DataW.trod_array ht hd
  have hds : ws.map (fun s => (DataW.lit (.string s) : DataW Unit)) = xs.map (·.1) := by
    have := congrArg Prod.fst hx
    simpa [texts] using this
  intro i s hs
  have hlen := congrArg List.length hds
  rw [List.length_map, List.length_map] at hlen
  have hi : i < k := by have := (List.getElem?_eq_some_iff.1 hs).1; omega
  have h1 := hel i hi
  have hxi : xs[i]? = some xs[i] := List.getElem?_eq_getElem (by omega)
  rw [hxi, hc, Nat.mul_one] at h1
  obtain ⟨b, e1, e2, _⟩ := DataW.trod_string he h1
  have h2 : (ws.map (fun s => (DataW.lit (.string s) : DataW Unit)))[i]? = some (xs[i]).1 := by rw [hds, List.getElem?_map, hxi]; rfl
  rw [List.getElem?_map, hs, e2] at h2
  simp only [Option.map_some, Option.some.injEq, DataW.lit.injEq, Lit.string.injEq] at h2
  have h3 : cs[i]? = some (.string b) := by
    have := congrArg (·[0]?) e1
    simpa using this
  rw [World.var?_cell hg hvar i, h3, h2]

theorem tab_of {P : Program} {W : World} {l : List (String × DataW Unit)} (h : laidMet P l W) {n : String} {k : IntKind} {zs : List Int} (hm : (n, Lib.tabData k zs) ∈ l) {g : Nat} {t e : TypeId} {c : Nat}
    (hg : P.globalNamed n = some g) (hty : (P.globals[g]?).map (·.type) = some t) (ht : P.underlying t = some (.array c e)) (he : P.underlying e = some (.int k)) (hce : P.cellsOf e = 1) (hct : P.cellsOf t = c) : Lib.TabIs P W n k zs := by
  obtain ⟨ps, hv, _, _⟩ := h
  obtain ⟨g', t', cs, fuel, p, hg', hty', hvar, hd⟩ := listed hv hm
  obtain rfl := Option.some.inj (hg.symm.trans hg')
  obtain rfl := Option.some.inj (hty.symm.trans hty')
  unfold Lib.TabIs
  rw [hvar, ← Lib.cells_of_tab ht he hce hct hd]

/-- A variable that holds an interface's value that is not nil. -/
def ErrAt (P : Program) (W : World) (n : String) : Prop := ∃ u v, W.var? P n = some #[.iface u v]
theorem err_of {P : Program} {W : World} {l : List (String × DataW Unit)} (h : laidMet P l W) {n nm : String} {d : DataW Unit} (hm : (n, .iface nm d) ∈ l) {g : Nat} {t : TypeId} {ms : Array (String × TypeId)}
    (hg : P.globalNamed n = some g) (hty : (P.globals[g]?).map (·.type) = some t) (ht : P.underlying t = some (.interface ms)) : ErrAt P W n := by
  obtain ⟨ps, hv, _, _⟩ := h
  obtain ⟨g', t', cs, fuel, p, hg', hty', hvar, hd⟩ := listed hv hm
  obtain rfl := Option.some.inj (hg.symm.trans hg')
  obtain rfl := Option.some.inj (hty.symm.trans hty')
  obtain ⟨_, u, v, e, _, _⟩ := iface_of_trod ht hd
  obtain ⟨cs⟩ := cs
  simp only at e
  subst e
  exact ⟨u, v, hvar⟩

theorem var_only {P : Program} {W W' : World} {n : String} {cs : Array Value} (h : W.var? P n = some cs) (ho : Only (fun _ => False) W W') : W'.var? P n = some cs := by
  unfold World.var? at h ⊢
  cases hg : P.globalNamed n with
  | none => simp [hg] at h
  | some g =>
    simp only [hg, Option.bind_some] at h ⊢
    have hlt : g < W.heap.size := by
      rcases Nat.lt_or_ge g W.heap.size with h' | h'
      · exact h'
      · simp [Array.getElem?_eq_none h'] at h
    rw [ho.block g hlt (fun h => h)]
    exact h
theorem ErrAt.only {P : Program} {W W' : World} {n : String} (h : ErrAt P W n) (ho : Only (fun _ => False) W W') : ErrAt P W' n := by
  obtain ⟨u, v, h⟩ := h
  exact ⟨u, v, var_only h ho⟩
theorem tab_only {P : Program} {W W' : World} {n : String} {k : IntKind} {zs : List Int} (h : Lib.TabIs P W n k zs) (ho : Only (fun _ => False) W W') : Lib.TabIs P W' n k zs := var_only h ho
end Go.Proofs.YtbnfhklpobephaaGreatDoor
/- A variable at package level that holds numbers, texts, bools, and structs and arrays of these: its cells, as its row's datum has them. -/
namespace Go.Proofs.YtbnfhklpobephaaGreatDoor
open Go Go.RowKit

mutual
/-- The cells of such a datum. -/
def flatD : DataW Unit → List Value
  | .lit (.int k n) => [.int k n]
  | .lit (.bool b) => [.bool b]
  | .lit (.string s) => [.string ⟨s.toArray⟩]
  | .agg ds => flatDs ds
  | _ => []
def flatDs : List (DataW Unit) → List Value
  | [] => []
  | d :: r => flatD d ++ flatDs r
end
/-- Fields that stand one behind the other. -/
def tightFs (P : Program) (ok : TypeId → Bool) : List Field → Nat → Nat → Bool
  | [], off, tot => off == tot
  | f :: r, off, tot => f.offset == off && ok f.type && tightFs P ok r (off + P.cellsOf f.type) tot
/-- A type of such data. -/
def tightB (P : Program) : Nat → TypeId → Bool
  | 0, _ => false
  | n + 1, t => match P.underlying t with
    | some .bool | some (.int _) | some .string => true
    | some (.struct fs) => tightFs P (tightB P n) fs.toList 0 (P.cellsOf t)
    | some (.array k e) => tightB P n e && P.cellsOf t == k * P.cellsOf e
    | _ => false

section
variable {P : Program} {W : World} {spare : Nat → Bool} {held : Bool}
theorem flat_fields {ok : TypeId → Bool} {m : Nat} {cs : List Value} (hok : ∀ t, ok t = true → ∀ (cs : List Value) (x : DataW Unit × List MemPlace), DataW.trod (fun _ => ()) P W 0 spare held m t cs = some x → cs = flatD x.1) :
    ∀ (fs : List Field) (off : Nat) (xs : List (DataW Unit × List MemPlace)), tightFs P ok fs off cs.length = true → xs.length = fs.length →
      (∀ (i : Nat) (f : Field), fs[i]? = some f → DataW.trod (fun _ => ()) P W 0 spare held m f.type ((cs.drop f.offset).take (P.cellsOf f.type)) = xs[i]?) → cs.drop off = flatDs (xs.map (·.1))
  | [], off, xs, h, hl, _ => by
    obtain rfl : xs = [] := List.eq_nil_of_length_eq_zero (by simpa using hl)
    have h : off = cs.length := by simpa [tightFs] using h
    simp [h, flatDs]
  | f :: r, off, [], _, hl, _ => by simp at hl
  | f :: r, off, x :: xs, h, hl, hx => by
    simp only [tightFs, Bool.and_eq_true, beq_iff_eq] at h
    obtain ⟨⟨h1, h2⟩, h3⟩ := h
    have h4 := hok _ h2 _ _ ((hx 0 f rfl).trans rfl)
    have h5 := flat_fields hok r _ xs h3 (by simpa using hl) (fun i g hg => hx (i + 1) g (by simpa using hg))
    rw [List.map_cons, flatDs, ← h5, ← h4, h1, ← List.drop_drop, List.take_append_drop]

theorem flat_array {m k c : Nat} {e : TypeId} {cs : List Value} (hok : ∀ (cs : List Value) (x : DataW Unit × List MemPlace), DataW.trod (fun _ => ()) P W 0 spare held m e cs = some x → cs = flatD x.1) :
    ∀ (j i : Nat) (xs : List (DataW Unit × List MemPlace)), i + j = k → cs.length = k * c → xs.length = j →
      (∀ q, q < j → DataW.trod (fun _ => ()) P W 0 spare held m e ((cs.drop ((i + q) * c)).take c) = xs[q]?) → cs.drop (i * c) = flatDs (xs.map (·.1))
  | 0, i, xs, hi, hc, hl, _ => by
    obtain rfl : xs = [] := List.eq_nil_of_length_eq_zero hl
    obtain rfl : i = k := by omega
    simp [← hc, flatDs]
  | j + 1, i, [], _, _, hl, _ => by simp at hl
  | j + 1, i, x :: xs, hi, hc, hl, hx => by
    have h4 := hok _ _ ((hx 0 (by omega)).trans rfl)
    have h5 := flat_array hok j (i + 1) xs (by omega) hc (by simpa using hl) (fun q hq => by
      have := hx (q + 1) (by omega)
      rw [show i + (q + 1) = i + 1 + q by omega] at this
      simpa using this)
    rw [Nat.add_zero] at h4
    rw [List.map_cons, flatDs, ← h5, ← h4, Nat.add_mul, Nat.one_mul, ← List.drop_drop, List.take_append_drop]

theorem flat_of_trod : ∀ (n : Nat) (t : TypeId), tightB P n t = true → ∀ (fuel : Nat) (cs : List Value) (x : DataW Unit × List MemPlace), DataW.trod (fun _ => ()) P W 0 spare held fuel t cs = some x → cs = flatD x.1
  | 0, t, h, _, _, _, _ => by simp [tightB] at h
  | n + 1, t, h, fuel, cs, x, hx => by
    unfold tightB at h
    split at h
    · next hu =>
      obtain ⟨b, rfl, rfl⟩ := DataW.trod_bool hu hx
      simp [flatD]
    · next hu =>
      obtain ⟨z, rfl, rfl, _⟩ := DataW.trod_int hu hx
      simp [flatD]
    · next hu =>
      obtain ⟨s, rfl, rfl, _⟩ := DataW.trod_string hu hx
      simp [flatD]
    · next fs hu =>
      obtain ⟨xs, m, rfl, rfl, hl, hxl, hf⟩ := DataW.trod_struct hu hx
      have := flat_fields (W := W) (spare := spare) (held := held) (m := m) (cs := cs) (ok := tightB P n) (fun t ht cs x => flat_of_trod n t ht m cs x) fs.toList 0 xs (by rw [hl]; exact h) (by simpa using hxl) (fun i f hi => hf i f (by simpa using hi))
      simpa [flatD] using this
    · next k e hu =>
      simp only [Bool.and_eq_true, beq_iff_eq] at h
      obtain ⟨xs, m, rfl, rfl, hl, hxl, hf⟩ := DataW.trod_array hu hx
      have := flat_array (W := W) (spare := spare) (held := held) (m := m) (cs := cs) (e := e) (k := k) (c := P.cellsOf e) (fun cs x => flat_of_trod n e h.1 m cs x) k 0 xs (by omega) (by rw [hl, h.2]) hxl (fun q hq => by rw [Nat.zero_add]; exact hf q hq)
      simpa [flatD] using this
    · cases h
end

/-- A listed variable of such a type: its cells. -/
theorem plain_of {P : Program} {W : World} {l : List (String × DataW Unit)} (h : laidMet P l W) {n : String} {d : DataW Unit} (hm : (n, d) ∈ l) {g : Nat} {t : TypeId} (k : Nat)
    (hg : P.globalNamed n = some g) (hty : (P.globals[g]?).map (·.type) = some t) (ht : tightB P k t = true) : W.rangeAt g 0 (flatD d) := by
  obtain ⟨ps, hv, _, _⟩ := h
  obtain ⟨g', t', cs, fuel, p, hg', hty', hvar, hd⟩ := listed hv hm
  obtain rfl := Option.some.inj (hg.symm.trans hg')
  obtain rfl := Option.some.inj (hty.symm.trans hty')
  have := flat_of_trod k t ht _ _ _ hd
  intro j v hj
  rw [Nat.zero_add, World.var?_cell hg hvar j, ← hj]
  simp only at this
  rw [← this]
  simp
theorem range_only {W W' : World} {g o : Nat} {cs : List Value} (h : W.rangeAt g o cs) (ho : Only (fun _ => False) W W') : W'.rangeAt g o cs := fun j v hj => ho.cellv (h j v hj) (fun h => h)
end Go.Proofs.YtbnfhklpobephaaGreatDoor
/- Layer 10 as plain functions: one side of one option; two sides joined by rows: from the first state on, whoever asks for what meanwhile, so many joint states can be, and from each they come to rest. -/
namespace Go.Proofs.YtbnfhklpobephaaGreatDoor

/-- A right state: its kind, and whether it is Opposite. -/
inductive Qs where
  | no | yes | wn | wnO | wy | wyO
  deriving DecidableEq
def Qs.kind : Qs → Nat
  | .no => 0 | .yes => 1 | .wn => 2 | .wnO => 2 | .wy => 3 | .wyO => 3
def Qs.opp : Qs → Bool
  | .wnO => true | .wyO => true | _ => false
/-- Which one it is, if it is right. -/
def qsOf (k : Int) (o : Bool) : Option Qs :=
  if k = 0 ∧ o = false then some .no else if k = 1 ∧ o = false then some .yes
  else if k = 2 then some (if o then .wnO else .wn) else if k = 3 then some (if o then .wyO else .wy) else none
theorem qsOf_kind (s : Qs) : qsOf (s.kind : Int) s.opp = some s := by cases s <;> rfl
theorem qsOf_some {k : Int} {o : Bool} {s : Qs} (h : qsOf k o = some s) : k = (s.kind : Int) ∧ o = s.opp := by
  unfold qsOf at h
  split at h
  · next e => obtain ⟨rfl, rfl⟩ := e; injection h with h; subst h; exact ⟨rfl, rfl⟩
  · split at h
    · next e => obtain ⟨rfl, rfl⟩ := e; injection h with h; subst h; exact ⟨rfl, rfl⟩
    · split at h
      · next e => subst e; injection h with h; subst h; cases o <;> exact ⟨rfl, rfl⟩
      · split at h
        · next e => subst e; injection h with h; subst h; cases o <;> exact ⟨rfl, rfl⟩
        · cases h
/-- A verb is heard, for (is) or against: the state behind it, what is sent (0: nothing, 1: for, 2: against), whether it was wrong. -/
def hearQ : Qs → Bool → Bool → Qs × Nat × Bool
  | .no, true, true => (.yes, 1, false)
  | .no, true, false => (.no, 2, false)
  | .yes, true, _ => (.yes, 0, false)
  | .wn, true, _ => (.no, 0, true)
  | .wnO, true, _ => (.yes, 0, true)
  | .wy, true, _ => (.yes, 0, false)
  | .wyO, true, _ => (.wn, 2, false)
  | .no, false, _ => (.no, 0, false)
  | .yes, false, _ => (.no, 2, false)
  | .wn, false, _ => (.no, 0, false)
  | .wnO, false, _ => (.wy, 1, false)
  | .wy, false, _ => (.no, 0, false)
  | .wyO, false, _ => (.no, 0, false)
/-- We ask. -/
def askQ : Qs → Bool → Option (Qs × Nat)
  | .no, true => some (.wy, 1)
  | .wn, true => some (.wnO, 0)
  | .wyO, true => some (.wy, 0)
  | .yes, false => some (.wn, 2)
  | .wnO, false => some (.wn, 0)
  | .wy, false => some (.wyO, 0)
  | _, _ => none
def calmQ (s : Qs) : Bool := decide (s = .no) || decide (s = .yes)
/-- What is sent, as the other side hears it. -/
def sentQ : Nat → List Bool
  | 0 => []
  | n => [decide (n = 1)]

/-- Two sides, and of each what it sent that the other one hasn't heard. -/
structure Jo where
  x : Qs
  p : List Bool
  y : Qs
  q : List Bool
  deriving DecidableEq
/-- The one asks; the other one asks; the one hears; the other one hears. -/
def Jo.askX (t : Jo) (on : Bool) : Option Jo := (askQ t.x on).map fun r => { t with x := r.1, p := t.p ++ sentQ r.2 }
def Jo.askY (t : Jo) (on : Bool) : Option Jo := (askQ t.y on).map fun r => { t with y := r.1, q := t.q ++ sentQ r.2 }
def Jo.hearX (ax : Bool) (t : Jo) : Option (Jo × Bool) :=
  match t.q with
  | [] => none
  | b :: q => some ({ t with x := (hearQ t.x b ax).1, p := t.p ++ sentQ (hearQ t.x b ax).2.1, q := q }, (hearQ t.x b ax).2.2)
def Jo.hearY (ay : Bool) (t : Jo) : Option (Jo × Bool) :=
  match t.p with
  | [] => none
  | b :: p => some ({ t with y := (hearQ t.y b ay).1, q := t.q ++ sentQ (hearQ t.y b ay).2.1, p := p }, (hearQ t.y b ay).2.2)
def Jo.next (ax ay : Bool) (t : Jo) : List Jo :=
  (t.askX true).toList ++ (t.askX false).toList ++ (t.askY true).toList ++ (t.askY false).toList ++ ((t.hearX ax).toList.map Prod.fst) ++ ((t.hearY ay).toList.map Prod.fst)
def closeQ (ax ay : Bool) : Nat → List Jo → List Jo → List Jo
  | 0, _, seen => seen
  | n + 1, new, seen =>
    let fresh := (new.flatMap (Jo.next ax ay)).foldl (fun (acc : List Jo) t => if seen.contains t || acc.contains t then acc else t :: acc) []
    closeQ ax ay n fresh (seen ++ fresh)
def Jo.zero : Jo := ⟨.no, [], .no, []⟩
/-- All joint states that can be. -/
def joints (ax ay : Bool) : List Jo := closeQ ax ay 12 [.zero] [.zero]
/-- A turn: the one hears, if something was sent; then the other one. -/
def Jo.turn (ax ay : Bool) (t : Jo) : Jo :=
  let t := match t.hearX ax with | some r => r.1 | none => t
  match t.hearY ay with | some r => r.1 | none => t
/-- So many turns till nothing is left unheard. -/
def Jo.turns (ax ay : Bool) : Nat → Jo → Nat
  | 0, _ => 0
  | n + 1, t => if t.p.isEmpty && t.q.isEmpty then 0 else (Jo.turns ax ay n (t.turn ax ay)) + 1
def Jo.ok (ax ay : Bool) (l : List Jo) (t : Jo) : Bool :=
  (t.next ax ay).all (fun u => l.contains u) && ((t.hearX ax).all fun r => !r.2) && ((t.hearY ay).all fun r => !r.2) &&
    decide (t.turns ax ay 6 ≤ 4) && (if t.p.isEmpty && t.q.isEmpty then calmQ t.x && decide (t.x = t.y) else decide ((t.turn ax ay).turns ax ay 6 + 1 = t.turns ax ay 6))
theorem joints_ok (ax ay : Bool) : (joints ax ay).all (Jo.ok ax ay (joints ax ay)) = true := by
  cases ax <;> cases ay <;> decide +kernel

/-- It can be. -/
def Can (ax ay : Bool) (t : Jo) : Prop := (joints ax ay).contains t = true
theorem can_zero (ax ay : Bool) : Can ax ay .zero := by cases ax <;> cases ay <;> (unfold Can; decide +kernel)
section
variable {ax ay : Bool} {t u : Jo}
theorem Can.ok (h : Can ax ay t) : Jo.ok ax ay (joints ax ay) t = true := List.all_eq_true.1 (joints_ok ax ay) t (List.contains_iff_mem.1 h)
theorem Can.next (h : Can ax ay t) (hu : u ∈ t.next ax ay) : Can ax ay u := by
  have := h.ok
  simp only [Jo.ok, Bool.and_eq_true] at this
  exact List.all_eq_true.1 this.1.1.1.1 u hu
theorem Can.askX {on : Bool} (h : Can ax ay t) (hu : t.askX on = some u) : Can ax ay u := h.next (by unfold Jo.next; cases on <;> simp [hu])
theorem Can.askY {on : Bool} (h : Can ax ay t) (hu : t.askY on = some u) : Can ax ay u := h.next (by unfold Jo.next; cases on <;> simp [hu])
theorem Can.hearX {b : Bool} (h : Can ax ay t) (hu : t.hearX ax = some (u, b)) : Can ax ay u ∧ b = false := by
  refine ⟨h.next (by unfold Jo.next; simp [hu]), ?_⟩
  have := h.ok
  simp only [Jo.ok, Bool.and_eq_true] at this
  simpa [hu] using this.1.1.1.2
theorem Can.hearY {b : Bool} (h : Can ax ay t) (hu : t.hearY ay = some (u, b)) : Can ax ay u ∧ b = false := by
  refine ⟨h.next (by unfold Jo.next; simp [hu]), ?_⟩
  have := h.ok
  simp only [Jo.ok, Bool.and_eq_true] at this
  simpa [hu] using this.1.1.2
/-- How many turns it still takes. -/
theorem Can.few (h : Can ax ay t) : t.turns ax ay 6 ≤ 4 := by
  have := h.ok
  simp only [Jo.ok, Bool.and_eq_true, decide_eq_true_eq] at this
  exact this.1.2
theorem Can.rest (h : Can ax ay t) (hp : t.p = []) (hq : t.q = []) : calmQ t.x = true ∧ t.x = t.y := by
  have := h.ok
  simp only [Jo.ok, Bool.and_eq_true] at this
  have h2 := this.2
  rw [hp, hq] at h2
  simpa using h2
theorem Can.less (h : Can ax ay t) (hn : ¬ (t.p = [] ∧ t.q = [])) : (t.turn ax ay).turns ax ay 6 + 1 = t.turns ax ay 6 := by
  have := h.ok
  simp only [Jo.ok, Bool.and_eq_true] at this
  have h2 := this.2
  rw [if_neg (by simpa using hn)] at h2
  simpa using h2
end
end Go.Proofs.YtbnfhklpobephaaGreatDoor
