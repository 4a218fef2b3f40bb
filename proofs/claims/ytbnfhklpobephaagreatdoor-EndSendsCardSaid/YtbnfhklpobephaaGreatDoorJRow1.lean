/- Several texts in one. -/
import Derived.Test.YtbnfhklpobephaaGreatDoorJBase
import Derived.Test.YtbnfhklpobephaaGreatDoorJTbSay
import Derived.Test.YtbnfhklpobephaaGreatDoorJRowK
import Derived.Test.YtbnfhklpobephaaGreatDoorJSnIn
import Derived.BigQuiet
import Derived.Lib.SliceRun
/- Rows of one cell an element that the call laid itself: append of one value. -/
namespace Go.Proofs.YtbnfhklpobephaaGreatDoor
open Go Go.RowKit
set_option maxRecDepth 100000
set_option maxHeartbeats 4000000

theorem info_int : (Tryz.prog.info? 3).map (fun i => (i.zero, i.size, i.bytes)) = some (some (.int .i64 0), 1, 8) := by kernel_rfl
theorem info1 {e : TypeId} {z : Value} {bytes : Nat} (h : (Tryz.prog.info? e).map (fun i => (i.zero, i.size, i.bytes)) = some (some z, 1, bytes)) : ∃ i, Tryz.prog.info? e = some i ∧ i.zero = some z ∧ i.size = 1 ∧ i.bytes = bytes := by
  cases hi : Tryz.prog.info? e with
  | none => rw [hi] at h; cases h
  | some i =>
    rw [hi] at h
    simp only [Option.map_some, Option.some.injEq, Prod.mk.injEq] at h
    exact ⟨i, rfl, h⟩
/-- append of one value. -/
theorem step_one {ops : Array Oper} {rest : List Oper} {o : Oper} {a : Act} {w : World} {Q : Exit → Act → World → Prop} (hgd : o.guard = none) (sx x : Operand) (t : TypeId) (ho : o.op = .call { callee := .builtin .append, args := #[sx, x], argTypes := #[t, t] })
    (e : TypeId) (z : Value) (bytes : Nat) (ht : Tryz.prog.underlying t = some (.slice e)) (hi : (Tryz.prog.info? e).map (fun i => (i.zero, i.size, i.bytes)) = some (some z, 1, bytes)) (hz : z.cells.size = 1) (hby : bytes ≤ 64)
    (B : Nat) (A : Option Addr) (n c : Nat) (vs : List Value) (hs : a.eval sx = .slice A n c) (hb : w.ownsRow B e 1 (.slice A n c) n vs) (g : Nat) (u : Value) (hx : a.eval x = .slice (some ⟨g, 0, none⟩) 1 1) (hc : w.cell? ⟨g, 0, none⟩ = some u) (hu : u.oneCell' = true) (hbd : n ≤ 1048576) (hB : B ≤ w.heap.size)
    (h : ∀ A' c' w', Hid (w'.ownsRow B e 1 (.slice A' (n + 1) c') (n + 1) (vs ++ [u])) → Hid (w.grownBy w' (Value.slice A n c).ownBlock) → Hid (∀ k, (Value.slice A' (n + 1) c').ownBlock = some k → (Value.slice A n c).ownBlock = some k ∨ w.heap.size ≤ k) → wpList Tryz.prog ops Q rest (a.put o.dst (.slice A' (n + 1) c')) w') :
    wpList Tryz.prog ops Q (o :: rest) a w := by
  obtain ⟨i, hi, hz1, h1, h2⟩ := info1 hi
  have hby' : (n + 1) * bytes ≤ 140737488355328 := Nat.le_trans (Nat.mul_le_mul (by omega : n + 1 ≤ 1048577) hby) (by decide)
  refine step_append_own hgd sx x t ho B e i _ 1 bytes ht hi hz1 h1 h2 hz (by omega) _ n vs hs hb (some ⟨g, 0, none⟩) 1 1 [u] hx rfl (fun _ => ⟨_, rfl, fun j v hj => ?_⟩) (fun v hv => by obtain rfl := List.mem_singleton.1 hv; exact hu) (by omega) hby' hB ?_
  · have hj0 : j = 0 := by have := (List.getElem?_eq_some_iff.1 hj).1; simp at this; omega
    subst hj0
    simp only [List.getElem?_cons_zero, Option.some.injEq] at hj
    subst hj
    rw [at_add]
    exact hc
  · intro A' c' w' _ _ hq
    exact h A' c' w' hq.out.1 hq.out.2.1 hq.out.2.2
end Go.Proofs.YtbnfhklpobephaaGreatDoor
/- Package table: List. -/
namespace Go.Proofs.YtbnfhklpobephaaGreatDoor
open Go Go.RowKit
set_option maxRecDepth 100000
set_option maxHeartbeats 4000000

/-- A row of ints that a call laid. -/
def onL (t : Tb) (s : Int) (n : Nat) : List Int := ((List.range n).filter fun (o : Nat) => decide (t.get s (o : Int) = .yes)).map fun (o : Nat) => (o : Int)
theorem onL_succ (t : Tb) (s : Int) (n : Nat) : onL t s (n + 1) = onL t s n ++ (if t.get s (n : Int) = .yes then [(n : Int)] else []) := by
  unfold onL
  rw [List.range_succ, List.filter_append, List.map_append]
  congr 1
  by_cases h : t.get s (n : Int) = .yes <;> simp [h]
def iv (z : Int) : Value := .int .i64 z
theorem tlist_any {W : World} {p mo : Nat} {tp : TypeId} {pre post : List Value} {ag : Nat → Nat → Bool} {t : Tb} (h : TbAt W p mo tp pre post ag t) (s : Int) : Calls Tryz.prog 245 #[.pointer (some ⟨p, mo, none⟩), .int .i64 s] W fun e w' =>
    ∃ A n c, e = .returned (.slice A n c) ∧ n = (onL t s 256).length ∧ w'.ownsRow W.heap.size 3 1 (.slice A n c) n ((onL t s 256).map iv) ∧ Only (fun _ => False) W w' := by
  have HT := Lib.hid h
  clear h
  go_enter Tryz.func245, Tryz.ntmps245
  go_wp2
  go_loopw [5, 7] (fun v i w => ∃ (j : Nat) (A : Option Addr) (n c : Nat), j ≤ 256 ∧ n ≤ j ∧ v = .slice A n c ∧ i = .int .i64 (j : Int) ∧ Hid (n = (onL t s j).length ∧ Only (fun _ => False) W w ∧ w.ownsRow W.heap.size 3 1 (.slice A n c) n ((onL t s j).map iv))) (fun _ i _ => 256 - (intOf i).toNat)
  case atStart => exact ⟨0, none, 0, 0, by omega, by omega, rfl, rfl, rfl, Only.refl _ _, own_nil _ _ _ _⟩
  case round =>
    obtain ⟨j, A, n, c, hj, hnj, rfl, rfl, hrel⟩ := hrel
    by_cases hjn : j < 256
    · have hj2 : (j : Int) < 256 := by omega
      have HOn : Hid (Calls Tryz.prog 49 #[.pointer (some ⟨p, mo, none⟩), .int .i64 s, .int .i64 (j : Int)] wr fun e w' => e = .returned (.bool (decide (t.get s (j : Int) = .yes))) ∧ Only (fun _ => False) wr w') := ton_any (HT.out.same hrel.out.2.1) s (j : Int)
      have HS := Lib.hid (onL_succ t s j)
      by_cases hon : t.get s (j : Int) = .yes
      · rw [decide_eq_true hon] at HOn
        rw [if_pos hon] at HS
        obtain ⟨vs, hvs⟩ : ∃ vs, vs = (onL t s j).map iv := ⟨_, rfl⟩
        have HV := Lib.hid hvs
        clear hon hvs
        go_wp2_with (first
          | (go_at_call 49; refine HOn.out.mono ?_; rintro e w5 ⟨rfl, ho5⟩; have HO5 := Lib.hid (hrel.out.2.1.trans ho5 (fun _ h => h.elim)); have HR5 := Lib.hid (own_same hrel.out.2.2 ho5); rw [← HV.out] at HR5; clear ho5)
          | (at_builtin; refine step_one rfl _ _ 22 rfl 3 _ 8 Tryz.underlying22 info_int rfl (by omega) W.heap.size A n c vs rfl (own_same HR5.out ((Only.refl _ _).alloc _)) w5.heap.size _ rfl ((Blk.new w5 3 [.int .i64 (j : Int)]).cell 0) rfl (by omega) (by have := HO5.out.size; simp; omega) ?_; intro A' c' w6 hR6 hG6 hN6)
          | fail)
        go_roundw
        case rel =>
          refine ⟨j + 1, A', n + 1, c', by omega, by omega, rfl, by go_num, ?_, ?_, ?_⟩
          · rw [HS.out, List.length_append, ← hrel.out.1]; rfl
          · exact (HO5.out.alloc _).grown hG6.out (fun k hk => .inr (own_lt HR5.out k hk).1)
          · rw [HS.out, List.map_append, ← HV.out]; exact hR6.out
        case measure => simp [intOf]; omega
      · rw [decide_eq_false hon] at HOn
        rw [if_neg hon, List.append_nil] at HS
        clear hon
        go_wp2_with (first
          | (go_at_call 49; refine HOn.out.mono ?_; rintro e w5 ⟨rfl, ho5⟩; have HO5 := Lib.hid (hrel.out.2.1.trans ho5 (fun _ h => h.elim)); have HR5 := Lib.hid (own_same hrel.out.2.2 ho5); clear ho5)
          | fail)
        go_roundw
        case rel => exact ⟨j + 1, A, n, c, by omega, by omega, rfl, by go_num, by rw [HS.out]; exact hrel.out.1, HO5.out, by rw [HS.out]; exact HR5.out⟩
        case measure => simp [intOf]; omega
    · obtain rfl : j = 256 := by omega
      go_wp2
      go_ret
      exact ⟨A, n, c, rfl, hrel.out.1, hrel.out.2.2, hrel.out.2.1⟩
end Go.Proofs.YtbnfhklpobephaaGreatDoor
/- Reports of tables: the program's, the document's. -/
namespace Go.Proofs.YtbnfhklpobephaaGreatDoor
open Go Go.RowKit
set_option maxRecDepth 100000
set_option maxHeartbeats 4000000

/-- A side's part of a report. -/
def enOf (v : Int) (zs : List Int) : List En := zs.map fun z => ⟨v, z⟩
theorem enOf_length (v : Int) (zs : List Int) : (enOf v zs).length = zs.length := by simp [enOf]
theorem onL_short (T : Tb) (s : Int) : (onL T s 256).length ≤ 256 := by
  unfold onL
  rw [List.length_map]
  exact Nat.le_trans (List.length_filter_le _ _) (by simp)
def tbRep (T : Tb) : List En := enOf 251 (onL T 0 256) ++ enOf 253 (onL T 1 256)
theorem csE_src {w : World} {B n c : Nat} {A : Option Addr} {e : TypeId} {xs : List Value} (h : w.ownsRow B e 2 (.slice A n c) n xs) : 0 < n → ∃ ad, A = some ad ∧ ∀ (j : Nat) (u : Value), xs[j]? = some u → w.cell? (ad.add j) = some u := fun hn => by
  obtain ⟨g, hA, _, _, hc⟩ := own_at h hn
  exact ⟨_, hA, fun j u hj => by rw [at_add]; exact hc j u hj⟩
theorem csE_ones (l : List En) : ∀ u ∈ csE l, u.oneCell' = true := by
  intro u hu
  obtain ⟨x, _, hx⟩ := List.mem_flatMap.1 hu
  exact En.cs_one x u hx

theorem entries_any {w : World} {B n c : Nat} {A : Option Addr} {zs : List Int} (h : w.ownsRow B 3 1 (.slice A n c) n (zs.map iv)) (hn : n ≤ 1000) (v : Int) :
    Calls Tryz.prog 244 #[.int .i64 v, .slice A n c] w fun e w' => ∃ A' c', e = .returned (.slice A' n c') ∧ w'.ownsRow w.heap.size 162 2 (.slice A' n c') n (csE (enOf v zs)) ∧ Only (fun _ => False) w w' := by
  have hl : zs.length = n := by have := h.1; simpa using this
  have H := Lib.hid h
  have HL := Lib.hid hl
  obtain ⟨i, hi, hz, h1, h2⟩ := infoK info_en
  have HI := Lib.hid hi
  have HZ := Lib.hid hz
  have HI1 := Lib.hid h1
  have HI2 := Lib.hid h2
  clear h hl hi hz h1 h2
  go_enter Tryz.func244, Tryz.ntmps244
  go_wp2
  go_loopw [5, 10] (fun a i W => ∃ (k : Nat) (B : Option Addr) (cb : Nat), k ≤ n ∧ a = .slice B k cb ∧ i = .int .i64 (k : Int) ∧ Hid (W.ownsRow w.heap.size 162 2 (.slice B k cb) k (csE (enOf v (zs.take k))) ∧ Only (fun _ => False) w W)) (fun _ i _ => n - (intOf i).toNat)
  case atStart => exact ⟨0, _, 0, Nat.zero_le _, rfl, rfl, own_nil _ _ _ _, Only.refl _ _⟩
  case round =>
    obtain ⟨k, B, cb, hk, rfl, rfl, hrel⟩ := hrel
    by_cases hlt : k < n
    · have hlt2 : (k : Int) < (n : Int) := by omega
      obtain ⟨x, hx⟩ : ∃ x, zs[k]? = some x := ⟨_, List.getElem?_eq_getElem (by rw [HL.out]; omega)⟩
      obtain ⟨g, rfl, _, _, hc⟩ := own_at (own_same H.out hrel.out.2) (by omega)
      have d0 := hc k (.int .i64 x) (by rw [List.getElem?_map, hx]; rfl)
      have HTk : Hid (csE (enOf v (zs.take (k + 1))) = csE (enOf v (zs.take k)) ++ [.int .i64 v, .int .i64 x]) := by
        show csE (enOf v (zs.take (k + 1))) = _
        rw [List.take_add_one, hx]
        simp [enOf, csE]
      obtain ⟨vs, hvs⟩ : ∃ vs, vs = csE (enOf v (zs.take k)) := ⟨_, rfl⟩
      rw [← hvs] at HTk hrel
      clear hx hc hvs
      go_wp2_with (first
        | (at_builtin; refine step_append_own rfl (.tmp 14) (.tmp 18) 107 rfl w.heap.size 162 i _ 2 16 Tryz.underlying107 HI.out HZ.out HI1.out HI2.out rfl (by omega) (.slice B k cb) k vs rfl (own_same hrel.out.1 ((Only.refl _ _).alloc _)) (some ⟨wr.heap.size, 0, none⟩) 1 1 [.int .i64 v, .int .i64 x] rfl rfl (fun _ => ⟨_, rfl, fun j u hj => by rw [at_add]; exact ((Blk.new' _ _ [.int .i64 v, .int .i64 x] (by simp)).cell j).trans hj⟩) (En.cs_one ⟨v, x⟩) (by omega) (by omega) (Nat.le_trans hrel.out.2.size (by simp; try omega)) ?_; intro A7 c7 w7 hq1 hq2 hq3; have HOw7 := Lib.hid hq3.out.1; have HOn7 : Hid (Only (fun _ => False) w w7) := Only.grown (hrel.out.2.alloc _) hq3.out.2.1 (fun k hk => .inr (own_lt hrel.out.1 k hk).1); clear hq1 hq2 hq3)
        | fail)
      go_roundw
      case rel => exact ⟨k + 1, A7, c7, by omega, rfl, by go_num, by rw [HTk.out]; exact HOw7.out, HOn7.out⟩
      case measure => simp [intOf]; omega
    · obtain rfl : k = n := by omega
      have hF : Hid (csE (enOf v (zs.take k)) = csE (enOf v zs)) := by
        show csE (enOf v (zs.take k)) = _
        rw [List.take_of_length_le (by rw [HL.out]; exact Nat.le_refl _)]
      go_wp2
      go_ret
      exact ⟨B, cb, rfl, by rw [← hF.out]; exact hrel.out.1, hrel.out.2⟩

/-- The program's report of a table. -/
theorem suTab_any {w : World} {p mo : Nat} {tp : TypeId} {pre post : List Value} {ag : Nat → Nat → Bool} {T : Tb} (h : TbAt w p mo tp pre post ag T) : Calls Tryz.prog 235 #[.pointer (some ⟨p, mo, none⟩)] w fun e w' => ∃ A n c, e = .returned (.slice A n c) ∧ EnAt w' A n (tbRep T) ∧ n ≤ 512 ∧ Only (fun _ => False) w w' := by
  have HT := Lib.hid h
  have HL := Lib.hid (fun W (ho : Only (fun _ => False) w W) s => tlist_any (h.same ho) s)
  have HE := Lib.hid (fun (W : World) (B n c : Nat) (A : Option Addr) (zs : List Int) (h : W.ownsRow B 3 1 (.slice A n c) n (zs.map iv)) (hn : n ≤ 1000) (v : Int) => entries_any h hn v)
  have HS0 := Lib.hid (onL_short T 0)
  have HS1 := Lib.hid (onL_short T 1)
  obtain ⟨i, hi, hz, h1, h2⟩ := infoK info_en
  have HI := Lib.hid hi
  have HZ := Lib.hid hz
  have HI1 := Lib.hid h1
  have HI2 := Lib.hid h2
  have HRep : Hid (csE (tbRep T) = csE (enOf 251 (onL T 0 256)) ++ csE (enOf 253 (onL T 1 256)) ∧ (tbRep T).length = (onL T 0 256).length + (onL T 1 256).length) := ⟨csE_append _ _, by rw [tbRep, List.length_append, enOf_length, enOf_length]⟩
  obtain ⟨z0, hz0⟩ : ∃ z, z = onL T 0 256 := ⟨_, rfl⟩
  obtain ⟨z1, hz1⟩ : ∃ z, z = onL T 1 256 := ⟨_, rfl⟩
  have HZ0 := Lib.hid hz0
  have HZ1 := Lib.hid hz1
  rw [← hz0, ← hz1] at HRep
  rw [← hz0] at HS0
  rw [← hz1] at HS1
  clear h hi hz h1 h2 hz0 hz1
  go_enter Tryz.func235, Tryz.ntmps235
  go_wp2_with (first
    | ((with_reducible show Calls _ _ #[.pointer _, .int .i64 0] _ _); refine (HL.out _ (Only.refl _ _) 0).mono ?_; rintro e w2 ⟨A1, n1, c1, rfl, hn1, hr1, ho⟩; rw [← HZ0.out] at hn1 hr1; have HO2 := Lib.hid ho; have HR1 := Lib.hid hr1; have HN1 := Lib.hid hn1; clear ho hr1 hn1)
    | ((with_reducible show Calls _ _ #[.int .i64 251, _] _ _); refine (HE.out _ _ _ _ _ _ HR1.out (by have := HN1.out; have := HS0.out; omega) 251).mono ?_; rintro e w3 ⟨A2, c2, rfl, hr2, ho⟩; have HO3 := Lib.hid (HO2.out.trans ho (fun _ h => h.elim)); have HR2 := Lib.hid hr2; have HZ3 : Hid (w2.heap.size ≤ w3.heap.size) := ho.size; clear ho hr2)
    | ((with_reducible show Calls _ _ #[.pointer _, .int .i64 1] _ _); refine (HL.out _ HO3.out 1).mono ?_; rintro e w4 ⟨A3, n3, c3, rfl, hn3, hr3, ho⟩; rw [← HZ1.out] at hn3 hr3; have HO4 := Lib.hid (HO3.out.trans ho (fun _ h => h.elim)); have HR4 := Lib.hid (own_same HR2.out ho); have HR3 := Lib.hid hr3; have HN3 := Lib.hid hn3; have HZ4 : Hid (w2.heap.size ≤ w4.heap.size) := Nat.le_trans HZ3.out ho.size; clear ho hr3 hn3)
    | ((with_reducible show Calls _ _ #[.int .i64 253, _] _ _); refine (HE.out _ _ _ _ _ _ HR3.out (by have := HN3.out; have := HS1.out; omega) 253).mono ?_; rintro e w5 ⟨A4, c4, rfl, hr5, ho⟩; have HO5 := Lib.hid (HO4.out.trans ho (fun _ h => h.elim)); have HR5 := Lib.hid hr5; have HR6 := Lib.hid (own_same HR4.out ho); have HZ5 : Hid (w2.heap.size ≤ w5.heap.size) := Nat.le_trans HZ4.out ho.size; clear ho hr5)
    | (at_builtin; refine step_append_own rfl (.tmp 9) (.tmp 12) 107 rfl w2.heap.size 162 i _ 2 16 Tryz.underlying107 HI.out HZ.out HI1.out HI2.out rfl (by omega) (.slice A2 n1 c2) n1 _ rfl HR6.out A4 n3 c4 (csE (enOf 253 z1)) rfl (by rw [csE_length, enOf_length, HN3.out]) (csE_src HR5.out) (csE_ones _) (by have := HN1.out; have := HN3.out; have := HS0.out; have := HS1.out; omega) (by have := HN1.out; have := HN3.out; have := HS0.out; have := HS1.out; omega) HZ5.out ?_; intro A7 c7 w7 hq1 hq2 hq3; have HOw7 := Lib.hid hq3.out.1; have HOn7 : Hid (Only (fun _ => False) w w7) := Only.grown HO5.out hq3.out.2.1 (fun k hk => .inr (by have := (own_lt HR6.out k hk).1; have := HO2.out.size; omega)); clear hq1 hq2 hq3)
    | fail)
  go_ret
  have ho := HOw7.out
  rw [← HRep.out.1] at ho
  have hl : (tbRep T).length = n1 + n3 := by rw [HRep.out.2, HN1.out, HN3.out]
  exact ⟨A7, n1 + n3, c7, rfl, LsOf.of_own (cs := En.cs) (m := 2) (fun _ => rfl) ho hl, by have := HN1.out; have := HN3.out; have := HS0.out; have := HS1.out; omega, HOn7.out⟩

end Go.Proofs.YtbnfhklpobephaaGreatDoor
/- Masks of bytes: which bytes are in, what is added, all that are in, a row's noughts cut off: as plain functions of rows of 32 bytes. -/
namespace Go.Proofs.YtbnfhklpobephaaGreatDoor
open Go Go.RowKit
set_option maxRecDepth 100000
set_option maxHeartbeats 4000000

/-- A byte of a row; 0 behind its end. -/
def mkAt (m : List UInt8) (i : Nat) : Nat := ((m[i]?).getD 0).toNat
/-- Whether a byte is in. -/
def mkHas (m : List UInt8) (c : Nat) : Bool := (mkAt m (c / 8)).testBit (7 - c % 8)
/-- A row with one more byte. -/
def mkAdd (m : List UInt8) (x : UInt8) : List UInt8 := m.set (x.toNat / 8) (UInt8.ofNat (mkAt m (x.toNat / 8) ||| 2 ^ (7 - x.toNat % 8)))
/-- The row of bytes. -/
def mkOf (xs : List UInt8) : List UInt8 := xs.foldl mkAdd (List.replicate 32 0)
/-- All that are in, below a number. -/
def mkTo (m : List UInt8) (k : Nat) : List UInt8 := ((List.range k).filter (mkHas m)).map UInt8.ofNat
end Go.Proofs.YtbnfhklpobephaaGreatDoor
/- Package mask: its calls on bytes and on masks. -/
namespace Go.Proofs.YtbnfhklpobephaaGreatDoor
open Go Go.RowKit
set_option maxRecDepth 100000
set_option maxHeartbeats 4000000

/-- A mask's value. -/
def mkV (m : List UInt8) : Value := .agg (m.map B8).toArray
theorem mkV_one (m : List UInt8) : ∀ v ∈ m.map B8, v.oneCell' = true := fun v hv => by
  obtain ⟨x, _, rfl⟩ := List.mem_map.1 hv
  rfl

/-- Where Bytes stands. -/
structure BysAt (w : World) (m : List UInt8) (W : World) (k n : Nat) (V : Value) : Prop where
  len : n = (mkTo m k).length
  row : Body W w.heap.size V (mkTo m k)
  blk : Blk W w.heap.size 120 (m.map B8)
  only : Only (fun _ => False) w W
theorem size_mask : (Tryz.prog.info? 120).map (·.size) = some 32 := by kernel_rfl
end Go.Proofs.YtbnfhklpobephaaGreatDoor
