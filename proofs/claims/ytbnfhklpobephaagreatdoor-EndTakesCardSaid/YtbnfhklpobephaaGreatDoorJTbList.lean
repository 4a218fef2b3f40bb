/- Several texts in one. -/
import Derived.Test.YtbnfhklpobephaaGreatDoorJTb
import Derived.Test.YtbnfhklpobephaaGreatDoorJScParse
import Derived.Test.YtbnfhklpobephaaGreatDoorKAlloc
import Derived.BigQuiet
import Derived.Lib.SliceRun
/- Package table: List. -/
namespace Go.Proofs.YtbnfhklpobephaaGreatDoor
open Go Go.RowKit
set_option maxRecDepth 100000
set_option maxHeartbeats 4000000

/-- A row of ints that a call laid. -/
def onL (t : Tb) (s : Int) (n : Nat) : List Int := ((List.range n).filter fun (o : Nat) => decide (t.get s (o : Int) = .yes)).map fun (o : Nat) => (o : Int)
theorem onL_succ (t : Tb) (s : Int) (n : Nat) : onL t s (n + 1) = onL t s n ++ (if t.get s (n : Int) = .yes then [(n : Int)] else []) := by
  unfold onL
  rw [List.range_succ, List.filter_append, List.map_append]
  congr 1
  by_cases h : t.get s (n : Int) = .yes <;> simp [h]
def iv (z : Int) : Value := .int .i64 z
theorem tlist_any {W : World} {p mo : Nat} {tp : TypeId} {pre post : List Value} {ag : Nat → Nat → Bool} {t : Tb} (h : TbAt W p mo tp pre post ag t) (s : Int) : Calls Tryz.prog 245 #[.pointer (some ⟨p, mo, none⟩), .int .i64 s] W fun e w' =>
    ∃ A n c, e = .returned (.slice A n c) ∧ n = (onL t s 256).length ∧ w'.ownsRow W.heap.size 3 1 (.slice A n c) n ((onL t s 256).map iv) ∧ Only (fun _ => False) W w' := by
  have HT := Lib.hid h
  clear h
  go_enter Tryz.func245, Tryz.ntmps245
  go_wp2
  go_loopw [5, 7] (fun v i w => ∃ (j : Nat) (A : Option Addr) (n c : Nat), j ≤ 256 ∧ n ≤ j ∧ v = .slice A n c ∧ i = .int .i64 (j : Int) ∧ Hid (n = (onL t s j).length ∧ Only (fun _ => False) W w ∧ w.ownsRow W.heap.size 3 1 (.slice A n c) n ((onL t s j).map iv))) (fun _ i _ => 256 - (intOf i).toNat)
  case atStart => exact ⟨0, none, 0, 0, by omega, by omega, rfl, rfl, rfl, Only.refl _ _, own_nil _ _ _ _⟩
  case round =>
    obtain ⟨j, A, n, c, hj, hnj, rfl, rfl, hrel⟩ := hrel
    by_cases hjn : j < 256
    · have hj2 : (j : Int) < 256 := by omega
      have HOn : Hid (Calls Tryz.prog 49 #[.pointer (some ⟨p, mo, none⟩), .int .i64 s, .int .i64 (j : Int)] wr fun e w' => e = .returned (.bool (decide (t.get s (j : Int) = .yes))) ∧ Only (fun _ => False) wr w') := ton_any (HT.out.same hrel.out.2.1) s (j : Int)
      have HS := Lib.hid (onL_succ t s j)
      by_cases hon : t.get s (j : Int) = .yes
      · rw [decide_eq_true hon] at HOn
        rw [if_pos hon] at HS
        obtain ⟨vs, hvs⟩ : ∃ vs, vs = (onL t s j).map iv := ⟨_, rfl⟩
        have HV := Lib.hid hvs
        clear hon hvs
        go_wp2_with (first
          | (go_at_call 49; refine HOn.out.mono ?_; rintro e w5 ⟨rfl, ho5⟩; have HO5 := Lib.hid (hrel.out.2.1.trans ho5 (fun _ h => h.elim)); have HR5 := Lib.hid (own_same hrel.out.2.2 ho5); rw [← HV.out] at HR5; clear ho5)
          | (at_builtin; refine step_one rfl _ _ 22 rfl 3 _ 8 Tryz.underlying22 info_int rfl (by omega) W.heap.size A n c vs rfl (own_same HR5.out ((Only.refl _ _).alloc _)) w5.heap.size _ rfl ((Blk.new w5 3 [.int .i64 (j : Int)]).cell 0) rfl (by omega) (by have := HO5.out.size; simp; omega) ?_; intro A' c' w6 hR6 hG6 hN6)
          | fail)
        go_roundw
        case rel =>
          refine ⟨j + 1, A', n + 1, c', by omega, by omega, rfl, by go_num, ?_, ?_, ?_⟩
          · rw [HS.out, List.length_append, ← hrel.out.1]; rfl
          · exact (HO5.out.alloc _).grown hG6.out (fun k hk => .inr (own_lt HR5.out k hk).1)
          · rw [HS.out, List.map_append, ← HV.out]; exact hR6.out
        case measure => simp [intOf]; omega
      · rw [decide_eq_false hon] at HOn
        rw [if_neg hon, List.append_nil] at HS
        clear hon
        go_wp2_with (first
          | (go_at_call 49; refine HOn.out.mono ?_; rintro e w5 ⟨rfl, ho5⟩; have HO5 := Lib.hid (hrel.out.2.1.trans ho5 (fun _ h => h.elim)); have HR5 := Lib.hid (own_same hrel.out.2.2 ho5); clear ho5)
          | fail)
        go_roundw
        case rel => exact ⟨j + 1, A, n, c, by omega, by omega, rfl, by go_num, by rw [HS.out]; exact hrel.out.1, HO5.out, by rw [HS.out]; exact HR5.out⟩
        case measure => simp [intOf]; omega
    · obtain rfl : j = 256 := by omega
      go_wp2
      go_ret
      exact ⟨A, n, c, rfl, hrel.out.1, hrel.out.2.2, hrel.out.2.1⟩
end Go.Proofs.YtbnfhklpobephaaGreatDoor
/- Reports of tables: the program's, the document's. -/
namespace Go.Proofs.YtbnfhklpobephaaGreatDoor
open Go Go.RowKit
set_option maxRecDepth 100000
set_option maxHeartbeats 4000000

/-- A side's part of a report. -/
def enOf (v : Int) (zs : List Int) : List En := zs.map fun z => ⟨v, z⟩
theorem enOf_length (v : Int) (zs : List Int) : (enOf v zs).length = zs.length := by simp [enOf]
theorem onL_short (T : Tb) (s : Int) : (onL T s 256).length ≤ 256 := by
  unfold onL
  rw [List.length_map]
  exact Nat.le_trans (List.length_filter_le _ _) (by simp)
def tbRep (T : Tb) : List En := enOf 251 (onL T 0 256) ++ enOf 253 (onL T 1 256)
theorem csE_src {w : World} {B n c : Nat} {A : Option Addr} {e : TypeId} {xs : List Value} (h : w.ownsRow B e 2 (.slice A n c) n xs) : 0 < n → ∃ ad, A = some ad ∧ ∀ (j : Nat) (u : Value), xs[j]? = some u → w.cell? (ad.add j) = some u := fun hn => by
  obtain ⟨g, hA, _, _, hc⟩ := own_at h hn
  exact ⟨_, hA, fun j u hj => by rw [at_add]; exact hc j u hj⟩
theorem csE_ones (l : List En) : ∀ u ∈ csE l, u.oneCell' = true := by
  intro u hu
  obtain ⟨x, _, hx⟩ := List.mem_flatMap.1 hu
  exact En.cs_one x u hx

theorem entries_any {w : World} {B n c : Nat} {A : Option Addr} {zs : List Int} (h : w.ownsRow B 3 1 (.slice A n c) n (zs.map iv)) (hn : n ≤ 1000) (v : Int) :
    Calls Tryz.prog 244 #[.int .i64 v, .slice A n c] w fun e w' => ∃ A' c', e = .returned (.slice A' n c') ∧ w'.ownsRow w.heap.size 162 2 (.slice A' n c') n (csE (enOf v zs)) ∧ Only (fun _ => False) w w' := by
  have hl : zs.length = n := by have := h.1; simpa using this
  have H := Lib.hid h
  have HL := Lib.hid hl
  obtain ⟨i, hi, hz, h1, h2⟩ := infoK info_en
  have HI := Lib.hid hi
  have HZ := Lib.hid hz
  have HI1 := Lib.hid h1
  have HI2 := Lib.hid h2
  clear h hl hi hz h1 h2
  go_enter Tryz.func244, Tryz.ntmps244
  go_wp2
  go_loopw [5, 10] (fun a i W => ∃ (k : Nat) (B : Option Addr) (cb : Nat), k ≤ n ∧ a = .slice B k cb ∧ i = .int .i64 (k : Int) ∧ Hid (W.ownsRow w.heap.size 162 2 (.slice B k cb) k (csE (enOf v (zs.take k))) ∧ Only (fun _ => False) w W)) (fun _ i _ => n - (intOf i).toNat)
  case atStart => exact ⟨0, _, 0, Nat.zero_le _, rfl, rfl, own_nil _ _ _ _, Only.refl _ _⟩
  case round =>
    obtain ⟨k, B, cb, hk, rfl, rfl, hrel⟩ := hrel
    by_cases hlt : k < n
    · have hlt2 : (k : Int) < (n : Int) := by omega
      obtain ⟨x, hx⟩ : ∃ x, zs[k]? = some x := ⟨_, List.getElem?_eq_getElem (by rw [HL.out]; omega)⟩
      obtain ⟨g, rfl, _, _, hc⟩ := own_at (own_same H.out hrel.out.2) (by omega)
      have d0 := hc k (.int .i64 x) (by rw [List.getElem?_map, hx]; rfl)
      have HTk : Hid (csE (enOf v (zs.take (k + 1))) = csE (enOf v (zs.take k)) ++ [.int .i64 v, .int .i64 x]) := by
        show csE (enOf v (zs.take (k + 1))) = _
        rw [List.take_add_one, hx]
        simp [enOf, csE]
      obtain ⟨vs, hvs⟩ : ∃ vs, vs = csE (enOf v (zs.take k)) := ⟨_, rfl⟩
      rw [← hvs] at HTk hrel
      clear hx hc hvs
      go_wp2_with (first
        | (at_builtin; refine step_append_own rfl (.tmp 14) (.tmp 18) 107 rfl w.heap.size 162 i _ 2 16 Tryz.underlying107 HI.out HZ.out HI1.out HI2.out rfl (by omega) (.slice B k cb) k vs rfl (own_same hrel.out.1 ((Only.refl _ _).alloc _)) (some ⟨wr.heap.size, 0, none⟩) 1 1 [.int .i64 v, .int .i64 x] rfl rfl (fun _ => ⟨_, rfl, fun j u hj => by rw [at_add]; exact ((Blk.new' _ _ [.int .i64 v, .int .i64 x] (by simp)).cell j).trans hj⟩) (En.cs_one ⟨v, x⟩) (by omega) (by omega) (Nat.le_trans hrel.out.2.size (by simp; try omega)) ?_; intro A7 c7 w7 hq1 hq2 hq3; have HOw7 := Lib.hid hq3.out.1; have HOn7 : Hid (Only (fun _ => False) w w7) := Only.grown (hrel.out.2.alloc _) hq3.out.2.1 (fun k hk => .inr (own_lt hrel.out.1 k hk).1); clear hq1 hq2 hq3)
        | fail)
      go_roundw
      case rel => exact ⟨k + 1, A7, c7, by omega, rfl, by go_num, by rw [HTk.out]; exact HOw7.out, HOn7.out⟩
      case measure => simp [intOf]; omega
    · obtain rfl : k = n := by omega
      have hF : Hid (csE (enOf v (zs.take k)) = csE (enOf v zs)) := by
        show csE (enOf v (zs.take k)) = _
        rw [List.take_of_length_le (by rw [HL.out]; exact Nat.le_refl _)]
      go_wp2
      go_ret
      exact ⟨B, cb, rfl, by rw [← hF.out]; exact hrel.out.1, hrel.out.2⟩

/-- The program's report of a table. -/
theorem suTab_any {w : World} {p mo : Nat} {tp : TypeId} {pre post : List Value} {ag : Nat → Nat → Bool} {T : Tb} (h : TbAt w p mo tp pre post ag T) : Calls Tryz.prog 235 #[.pointer (some ⟨p, mo, none⟩)] w fun e w' => ∃ A n c, e = .returned (.slice A n c) ∧ EnAt w' A n (tbRep T) ∧ n ≤ 512 ∧ Only (fun _ => False) w w' := by
  have HT := Lib.hid h
  have HL := Lib.hid (fun W (ho : Only (fun _ => False) w W) s => tlist_any (h.same ho) s)
  have HE := Lib.hid (fun (W : World) (B n c : Nat) (A : Option Addr) (zs : List Int) (h : W.ownsRow B 3 1 (.slice A n c) n (zs.map iv)) (hn : n ≤ 1000) (v : Int) => entries_any h hn v)
  have HS0 := Lib.hid (onL_short T 0)
  have HS1 := Lib.hid (onL_short T 1)
  obtain ⟨i, hi, hz, h1, h2⟩ := infoK info_en
  have HI := Lib.hid hi
  have HZ := Lib.hid hz
  have HI1 := Lib.hid h1
  have HI2 := Lib.hid h2
  have HRep : Hid (csE (tbRep T) = csE (enOf 251 (onL T 0 256)) ++ csE (enOf 253 (onL T 1 256)) ∧ (tbRep T).length = (onL T 0 256).length + (onL T 1 256).length) := ⟨csE_append _ _, by rw [tbRep, List.length_append, enOf_length, enOf_length]⟩
  obtain ⟨z0, hz0⟩ : ∃ z, z = onL T 0 256 := ⟨_, rfl⟩
  obtain ⟨z1, hz1⟩ : ∃ z, z = onL T 1 256 := ⟨_, rfl⟩
  have HZ0 := Lib.hid hz0
  have HZ1 := Lib.hid hz1
  rw [← hz0, ← hz1] at HRep
  rw [← hz0] at HS0
  rw [← hz1] at HS1
  clear h hi hz h1 h2 hz0 hz1
  go_enter Tryz.func235, Tryz.ntmps235
  go_wp2_with (first
    | ((with_reducible show Calls _ _ #[.pointer _, .int .i64 0] _ _); refine (HL.out _ (Only.refl _ _) 0).mono ?_; rintro e w2 ⟨A1, n1, c1, rfl, hn1, hr1, ho⟩; rw [← HZ0.out] at hn1 hr1; have HO2 := Lib.hid ho; have HR1 := Lib.hid hr1; have HN1 := Lib.hid hn1; clear ho hr1 hn1)
    | ((with_reducible show Calls _ _ #[.int .i64 251, _] _ _); refine (HE.out _ _ _ _ _ _ HR1.out (by have := HN1.out; have := HS0.out; omega) 251).mono ?_; rintro e w3 ⟨A2, c2, rfl, hr2, ho⟩; have HO3 := Lib.hid (HO2.out.trans ho (fun _ h => h.elim)); have HR2 := Lib.hid hr2; have HZ3 : Hid (w2.heap.size ≤ w3.heap.size) := ho.size; clear ho hr2)
    | ((with_reducible show Calls _ _ #[.pointer _, .int .i64 1] _ _); refine (HL.out _ HO3.out 1).mono ?_; rintro e w4 ⟨A3, n3, c3, rfl, hn3, hr3, ho⟩; rw [← HZ1.out] at hn3 hr3; have HO4 := Lib.hid (HO3.out.trans ho (fun _ h => h.elim)); have HR4 := Lib.hid (own_same HR2.out ho); have HR3 := Lib.hid hr3; have HN3 := Lib.hid hn3; have HZ4 : Hid (w2.heap.size ≤ w4.heap.size) := Nat.le_trans HZ3.out ho.size; clear ho hr3 hn3)
    | ((with_reducible show Calls _ _ #[.int .i64 253, _] _ _); refine (HE.out _ _ _ _ _ _ HR3.out (by have := HN3.out; have := HS1.out; omega) 253).mono ?_; rintro e w5 ⟨A4, c4, rfl, hr5, ho⟩; have HO5 := Lib.hid (HO4.out.trans ho (fun _ h => h.elim)); have HR5 := Lib.hid hr5; have HR6 := Lib.hid (own_same HR4.out ho); have HZ5 : Hid (w2.heap.size ≤ w5.heap.size) := Nat.le_trans HZ4.out ho.size; clear ho hr5)
    | (at_builtin; refine step_append_own rfl (.tmp 9) (.tmp 12) 107 rfl w2.heap.size 162 i _ 2 16 Tryz.underlying107 HI.out HZ.out HI1.out HI2.out rfl (by omega) (.slice A2 n1 c2) n1 _ rfl HR6.out A4 n3 c4 (csE (enOf 253 z1)) rfl (by rw [csE_length, enOf_length, HN3.out]) (csE_src HR5.out) (csE_ones _) (by have := HN1.out; have := HN3.out; have := HS0.out; have := HS1.out; omega) (by have := HN1.out; have := HN3.out; have := HS0.out; have := HS1.out; omega) HZ5.out ?_; intro A7 c7 w7 hq1 hq2 hq3; have HOw7 := Lib.hid hq3.out.1; have HOn7 : Hid (Only (fun _ => False) w w7) := Only.grown HO5.out hq3.out.2.1 (fun k hk => .inr (by have := (own_lt HR6.out k hk).1; have := HO2.out.size; omega)); clear hq1 hq2 hq3)
    | fail)
  go_ret
  have ho := HOw7.out
  rw [← HRep.out.1] at ho
  have hl : (tbRep T).length = n1 + n3 := by rw [HRep.out.2, HN1.out, HN3.out]
  exact ⟨A7, n1 + n3, c7, rfl, LsOf.of_own (cs := En.cs) (m := 2) (fun _ => rfl) ho hl, by have := HN1.out; have := HN3.out; have := HS0.out; have := HS1.out; omega, HOn7.out⟩

theorem suTab_nil (w : World) : Calls Tryz.prog 235 #[.pointer none] w fun e w' => e = .returned (.slice none 0 0) ∧ w' = w := by
  go_enter Tryz.func235, Tryz.ntmps235
  go_wp2
  go_ret
  exact ⟨rfl, rfl⟩
/-- The report so far, side by side. -/
def repTo (T : Tb) : Nat → List En
  | 0 => []
  | s + 1 => repTo T s ++ enOf (251 + 2 * (s : Int)) (onL T (s : Int) 256)
theorem repTo_two (T : Tb) : repTo T 2 = tbRep T := rfl
theorem repTo_short (T : Tb) : ∀ s, (repTo T s).length ≤ 256 * s
  | 0 => Nat.le_refl _
  | s + 1 => by
    have h1 := repTo_short T s
    have h2 := onL_short T (s : Int)
    rw [repTo, List.length_append, enOf_length]
    omega
end Go.Proofs.YtbnfhklpobephaaGreatDoor
/- Masks of bytes: which bytes are in, what is added, all that are in, a row's noughts cut off: as plain functions of rows of 32 bytes. -/
namespace Go.Proofs.YtbnfhklpobephaaGreatDoor
open Go Go.RowKit
set_option maxRecDepth 100000
set_option maxHeartbeats 4000000

/-- A byte of a row; 0 behind its end. -/
def mkAt (m : List UInt8) (i : Nat) : Nat := ((m[i]?).getD 0).toNat
theorem mkAt_lt (m : List UInt8) (i : Nat) : mkAt m i < 256 := UInt8.toNat_lt _
theorem mkAt_of {m : List UInt8} {i : Nat} {x : UInt8} (h : m[i]? = some x) : mkAt m i = x.toNat := by simp [mkAt, h]
/-- Whether a byte is in. -/
def mkHas (m : List UInt8) (c : Nat) : Bool := (mkAt m (c / 8)).testBit (7 - c % 8)
theorem mkHas_div (m : List UInt8) (c : Nat) : mkHas m c = decide (mkAt m (c / 8) / 2 ^ (7 - c % 8) % 2 = 1) := Nat.testBit_eq_decide_div_mod_eq
/-- A row with one more byte. -/
def mkAdd (m : List UInt8) (x : UInt8) : List UInt8 := m.set (x.toNat / 8) (UInt8.ofNat (mkAt m (x.toNat / 8) ||| 2 ^ (7 - x.toNat % 8)))
theorem mkAdd_len (m : List UInt8) (x : UInt8) : (mkAdd m x).length = m.length := by simp [mkAdd]
theorem two_pow_lt {k : Nat} (h : k < 8) : 2 ^ k < 256 := by
  have := Nat.pow_lt_pow_right (a := 2) (by omega) h
  simpa using this
theorem or_lt {x k : Nat} (hx : x < 256) (hk : k < 8) : x ||| 2 ^ k < 256 := Nat.or_lt_two_pow (n := 8) hx (two_pow_lt hk)
theorem mkAdd_has {m : List UInt8} (hl : m.length = 32) (x : UInt8) (c : Nat) (hc : c < 256) : mkHas (mkAdd m x) c = (mkHas m c || decide (x.toNat = c)) := by
  have hx := x.toNat_lt
  have hlt := mkAt_lt m (x.toNat / 8)
  unfold mkHas
  by_cases h : x.toNat / 8 = c / 8
  · have e : mkAt (mkAdd m x) (c / 8) = mkAt m (c / 8) ||| 2 ^ (7 - x.toNat % 8) := by
      unfold mkAdd
      rw [← h]
      rw [mkAt_of (x := UInt8.ofNat (mkAt m (x.toNat / 8) ||| 2 ^ (7 - x.toNat % 8))) (by rw [List.getElem?_set_self]; omega)]
      rw [UInt8.toNat_ofNat']
      exact Nat.mod_eq_of_lt (or_lt hlt (by omega))
    rw [e, Nat.testBit_or, Nat.testBit_two_pow]
    congr 1
    rw [decide_eq_decide]
    omega
  · have e : mkAt (mkAdd m x) (c / 8) = mkAt m (c / 8) := by
      unfold mkAdd mkAt
      rw [List.getElem?_set_ne h]
    rw [e, decide_eq_false (p := x.toNat = c) (by rintro rfl; exact h rfl), Bool.or_false]
/-- The row of bytes. -/
def mkOf (xs : List UInt8) : List UInt8 := xs.foldl mkAdd (List.replicate 32 0)
theorem mkFold_len (xs : List UInt8) : ∀ m : List UInt8, (xs.foldl mkAdd m).length = m.length := by
  induction xs with
  | nil => intro m; rfl
  | cons x xs ih => intro m; rw [List.foldl_cons, ih, mkAdd_len]
theorem mkOf_len (xs : List UInt8) : (mkOf xs).length = 32 := by rw [mkOf, mkFold_len, List.length_replicate]
theorem mkFold_has (xs : List UInt8) (c : Nat) (hc : c < 256) : ∀ m : List UInt8, m.length = 32 → mkHas (xs.foldl mkAdd m) c = (mkHas m c || xs.any fun x => decide (x.toNat = c)) := by
  induction xs with
  | nil => intro m _; simp
  | cons x xs ih =>
    intro m hl
    rw [List.foldl_cons, ih _ (by rw [mkAdd_len]; exact hl), mkAdd_has hl x c hc, List.any_cons, Bool.or_assoc]
theorem mkNone (c : Nat) : mkHas (List.replicate 32 0) c = false := by
  have : mkAt (List.replicate 32 0) (c / 8) = 0 := by
    unfold mkAt
    rw [List.getElem?_replicate]
    split <;> rfl
  rw [mkHas, this, Nat.zero_testBit]
theorem mkOf_has (xs : List UInt8) (c : Nat) (hc : c < 256) : mkHas (mkOf xs) c = xs.any fun x => decide (x.toNat = c) := by
  rw [mkOf, mkFold_has xs c hc _ (by simp), mkNone, Bool.false_or]
/-- Two rows that have the same bytes are one. -/
theorem mk_ext {m m' : List UInt8} (h1 : m.length = 32) (h2 : m'.length = 32) (h : ∀ c, c < 256 → mkHas m c = mkHas m' c) : m = m' := by
  refine List.ext_getElem (by omega) fun i hi hi' => ?_
  have e1 : mkAt m i = (m[i]).toNat := mkAt_of (List.getElem?_eq_getElem hi)
  have e2 : mkAt m' i = (m'[i]).toNat := mkAt_of (List.getElem?_eq_getElem hi')
  apply UInt8.toNat_inj.1
  rw [← e1, ← e2]
  apply Nat.eq_of_testBit_eq
  intro j
  by_cases hj : j < 8
  · have := h (8 * i + (7 - j)) (by omega)
    unfold mkHas at this
    rwa [show (8 * i + (7 - j)) / 8 = i from by omega, show 7 - (8 * i + (7 - j)) % 8 = j from by omega] at this
  · rw [Nat.testBit_lt_two_pow (Nat.lt_of_lt_of_le (mkAt_lt m i) (by have := Nat.pow_le_pow_right (n := 2) (by omega) (show 8 ≤ j by omega); simpa using this)),
      Nat.testBit_lt_two_pow (Nat.lt_of_lt_of_le (mkAt_lt m' i) (by have := Nat.pow_le_pow_right (n := 2) (by omega) (show 8 ≤ j by omega); simpa using this))]

/-- All that are in, below a number. -/
def mkTo (m : List UInt8) (k : Nat) : List UInt8 := ((List.range k).filter (mkHas m)).map UInt8.ofNat
theorem mkTo_skip {m : List UInt8} {k : Nat} (h : mkHas m k = false) : mkTo m (k + 1) = mkTo m k := by simp [mkTo, List.range_succ, h]
theorem mkTo_more {m : List UInt8} {k : Nat} (h : mkHas m k = true) : mkTo m (k + 1) = mkTo m k ++ [UInt8.ofNat k] := by simp [mkTo, List.range_succ, h]
theorem mkTo_len (m : List UInt8) (k : Nat) : (mkTo m k).length ≤ k := by
  rw [mkTo, List.length_map]
  exact Nat.le_trans (List.length_filter_le _ _) (by simp)
/-- The bytes of a mask make the mask. -/
theorem mkOf_back {m : List UInt8} (hl : m.length = 32) : mkOf (mkTo m 256) = m := by
  refine mk_ext (mkOf_len _) hl fun c hc => ?_
  rw [mkOf_has _ c hc, Bool.eq_iff_iff, List.any_eq_true]
  constructor
  · rintro ⟨x, hx, he⟩
    obtain ⟨k, hk, rfl⟩ := List.mem_map.1 hx
    obtain ⟨hk1, hk2⟩ := List.mem_filter.1 hk
    rw [List.mem_range] at hk1
    rw [decide_eq_true_eq, UInt8.toNat_ofNat', Nat.mod_eq_of_lt (by omega)] at he
    subst he
    exact hk2
  · intro h
    refine ⟨UInt8.ofNat c, List.mem_map.2 ⟨c, List.mem_filter.2 ⟨List.mem_range.2 hc, h⟩, rfl⟩, ?_⟩
    rw [decide_eq_true_eq, UInt8.toNat_ofNat', Nat.mod_eq_of_lt (by omega)]

/-- How many bytes are left of the first so many, without the noughts at their end. -/
def cutLen (m : List UInt8) : Nat → Nat
  | 0 => 0
  | k + 1 => if mkAt m k = 0 then cutLen m k else k + 1
theorem cutLen_le (m : List UInt8) : ∀ k, cutLen m k ≤ k
  | 0 => Nat.le_refl _
  | k + 1 => by
    have := cutLen_le m k
    rw [cutLen]
    split <;> omega
/-- A row without noughts at its end. -/
def mkCut (m : List UInt8) : List UInt8 := m.take (cutLen m m.length)
theorem mkCut_len (m : List UInt8) : (mkCut m).length = cutLen m m.length := by
  rw [mkCut, List.length_take, Nat.min_eq_left (cutLen_le _ _)]
theorem mkCut_le (m : List UInt8) : (mkCut m).length ≤ m.length := by
  rw [mkCut_len]
  exact cutLen_le _ _
theorem cut_pad (m : List UInt8) : ∀ k, k ≤ m.length → m.take (cutLen m k) ++ List.replicate (k - cutLen m k) 0 = m.take k
  | 0, _ => by simp [cutLen]
  | k + 1, h => by
    have ih := cut_pad m k (by omega)
    have hle := cutLen_le m k
    rw [cutLen]
    split
    · rename_i h0
      rw [show k + 1 - cutLen m k = (k - cutLen m k) + 1 from by omega, List.replicate_succ', ← List.append_assoc, ih]
      have hg : m[k]? = some 0 := by
        have e : m[k]? = some m[k] := List.getElem?_eq_getElem (by omega)
        rw [mkAt_of e] at h0
        rw [e]
        congr 1
        exact UInt8.toNat_inj.1 h0
      rw [take_snoc hg]
    · simp
/-- A mask's row, with noughts behind it, is the mask. -/
theorem mkCut_pad {m : List UInt8} : mkCut m ++ List.replicate (m.length - (mkCut m).length) 0 = m := by
  have := cut_pad m m.length (Nat.le_refl _)
  rw [List.take_length] at this
  rw [mkCut_len]
  exact this
theorem cutLen_front (xs zs : List UInt8) : ∀ k, k ≤ xs.length → cutLen (xs ++ zs) k = cutLen xs k
  | 0, _ => rfl
  | k + 1, h => by
    have e : mkAt (xs ++ zs) k = mkAt xs k := by
      unfold mkAt
      rw [List.getElem?_append_left (by omega)]
    rw [cutLen, cutLen, e, cutLen_front xs zs k (by omega)]
theorem cutLen_zeros (xs : List UInt8) (n : Nat) : ∀ j, j ≤ n → cutLen (xs ++ List.replicate n 0) (xs.length + j) = cutLen xs xs.length
  | 0, _ => cutLen_front xs _ _ (Nat.le_refl _)
  | j + 1, h => by
    have e : mkAt (xs ++ List.replicate n 0) (xs.length + j) = 0 := by
      unfold mkAt
      rw [List.getElem?_append_right (by omega), show xs.length + j - xs.length = j from by omega, List.getElem?_replicate, if_pos (by omega)]
      rfl
    rw [show xs.length + (j + 1) = (xs.length + j) + 1 from by omega, cutLen, if_pos e]
    exact cutLen_zeros xs n j (by omega)
theorem mkCut_zeros (xs : List UInt8) (n : Nat) : mkCut (xs ++ List.replicate n 0) = mkCut xs := by
  unfold mkCut
  rw [List.length_append, List.length_replicate, cutLen_zeros xs n n (Nat.le_refl _), List.take_append_of_le_length (cutLen_le _ _)]

/-- The number of a row's byte, bit by bit, as far as so many. -/
def rowX (xs : List UInt8) (i : Nat) : Nat → Nat
  | 0 => 0
  | k + 1 => 2 * rowX xs i k + (if xs.any (fun x => decide (x.toNat = 8 * i + k)) then 1 else 0)
theorem rowX_lt (xs : List UInt8) (i : Nat) : ∀ k, rowX xs i k < 2 ^ k
  | 0 => by simp [rowX]
  | k + 1 => by
    have := rowX_lt xs i k
    rw [rowX, Nat.pow_succ]
    split <;> omega
theorem rowX_bit (xs : List UInt8) (i : Nat) : ∀ k j, j < k → (rowX xs i k).testBit j = xs.any (fun x => decide (x.toNat = 8 * i + (k - 1 - j)))
  | k + 1, 0, _ => by
    rw [rowX, Nat.testBit_zero]
    simp only [Nat.add_sub_cancel, Nat.sub_zero]
    cases xs.any (fun x => decide (x.toNat = 8 * i + k)) <;> simp <;> omega
  | k + 1, j + 1, h => by
    have ih := rowX_bit xs i k j (by omega)
    rw [rowX, Nat.testBit_succ]
    have e : (2 * rowX xs i k + (if xs.any (fun x => decide (x.toNat = 8 * i + k)) then 1 else 0)) / 2 = rowX xs i k := by split <;> omega
    rw [e, ih]
    congr 1
    funext x
    rw [show k + 1 - 1 - (j + 1) = k - 1 - j from by omega]
/-- The row, byte by byte, as far as so many. -/
def rowTo (xs : List UInt8) (n : Nat) : List UInt8 := (List.range n).map fun i => UInt8.ofNat (rowX xs i 8)
theorem rowTo_succ (xs : List UInt8) (n : Nat) : rowTo xs (n + 1) = rowTo xs n ++ [UInt8.ofNat (rowX xs n 8)] := by simp [rowTo, List.range_succ]
theorem rowTo_len (xs : List UInt8) (n : Nat) : (rowTo xs n).length = n := by simp [rowTo]
/-- The document's row is the mask's. -/
theorem rowTo_of (xs : List UInt8) : rowTo xs 32 = mkOf xs := by
  refine mk_ext (rowTo_len _ _) (mkOf_len _) fun c hc => ?_
  rw [mkOf_has xs c hc, mkHas]
  have e : (rowTo xs 32)[c / 8]? = some (UInt8.ofNat (rowX xs (c / 8) 8)) := by
    rw [rowTo, List.getElem?_map, List.getElem?_range (by omega)]
    rfl
  have hlt := rowX_lt xs (c / 8) 8
  rw [mkAt_of e, UInt8.toNat_ofNat', Nat.mod_eq_of_lt (by simpa using hlt), rowX_bit xs (c / 8) 8 _ (by omega)]
  congr 1
  funext x
  rw [show 8 * (c / 8) + (8 - 1 - (7 - c % 8)) = c from by omega]
end Go.Proofs.YtbnfhklpobephaaGreatDoor
/- Package mask: its calls on bytes and on masks. -/
namespace Go.Proofs.YtbnfhklpobephaaGreatDoor
open Go Go.RowKit
set_option maxRecDepth 100000
set_option maxHeartbeats 4000000

/-- A mask's value. -/
def mkV (m : List UInt8) : Value := .agg (m.map B8).toArray
theorem mkV_one (m : List UInt8) : ∀ v ∈ m.map B8, v.oneCell' = true := fun v hv => by
  obtain ⟨x, _, rfl⟩ := List.mem_map.1 hv
  rfl

/-- A load of a whole row that a guard lets be. -/
theorem wpList_load_g {P : Program} {ops : Array Oper} {rest : List Oper} {o : Oper} {a : Act} {w : World} {Q : Exit → Act → World → Prop} (hw : Region.wanted o (yielded ops a.tmps) = true) (ty : TypeId) (x : Operand) (ho : o.op = .load ty x) (b : Nat) (hx : a.eval x = .pointer (some ⟨b, 0, none⟩))
    (cs : List Value) (d : TypeDesc) (hc : w.rangeAt b 0 cs) (hu : P.underlying ty = some d) (hd : d.isRow = true) (hi : (P.info? ty).map (·.size) = some cs.length)
    (h : wpList P ops Q rest (a.put o.dst (.agg cs.toArray)) w) : wpList P ops Q (o :: rest) a w :=
  wpList_step fun K hK => by rw [if_pos hw]; exact wp_load_mid ty x ho b 0 hx cs d hc hu hd hi (hK _ _ h)

theorem and_bit (x k : Nat) (hx : x < 256) (hk : k < 8) : (bits .and .u8 (x : Int) ((2 ^ k : Nat) : Int) != 0) = x.testBit k := by
  have key : ∀ (x : Fin 256) (k : Fin 8), (bits .and .u8 (x.val : Int) ((2 ^ k.val : Nat) : Int) != 0) = x.val.testBit k.val := by decide +kernel
  exact key ⟨x, hx⟩ ⟨k, hk⟩
theorem or_bit (x k : Nat) (hx : x < 256) (hk : k < 8) : bits .or .u8 (x : Int) ((2 ^ k : Nat) : Int) = ((x ||| 2 ^ k : Nat) : Int) := by
  have key : ∀ (x : Fin 256) (k : Fin 8), bits .or .u8 (x.val : Int) ((2 ^ k.val : Nat) : Int) = ((x.val ||| 2 ^ k.val : Nat) : Int) := by decide +kernel
  exact key ⟨x, hx⟩ ⟨k, hk⟩

/-- The place of a mask's byte. -/
theorem at_mask (W : World) (N i : Nat) (k : IntKind) (hi : i < 32) : (Instr.indexAt 120 (.pointer (some ⟨N, 0, none⟩)) (.int k (i : Int))).run Tryz.prog W = .ok (.pointer (some ⟨N, i, none⟩)) W := by
  have hu := Tryz.underlying120
  have hs : ∀ W, (sizeOf 5).run Tryz.prog W = .ok 1 W := fun W => by kernel_rfl
  have hlt : (0 : Int) ≤ (i : Int) ∧ (i : Int) < 32 := by omega
  simp [Instr.indexAt, run_underlying hu, Instr.sureAddr, asIntOf, hs, hlt, at_add, hi]
theorem cut_mask (W : World) (N k : Nat) (z : Int) (hz : z = (k : Int)) (hk : k ≤ 32) : (Instr.sliceAt 120 (.pointer (some ⟨N, 0, none⟩)) none (some (.int .i64 z)) none).run Tryz.prog W = .ok (.slice (some ⟨N, 0, none⟩) k 32) W := by
  subst hz
  have hu := Tryz.underlying120
  have h := run_sliceAt_array_h (P := Tryz.prog) (w := W) (a := ⟨N, 0, none⟩) (t := 120) hu .i64 (k : Int) (by omega) (by show (k : Int) ≤ 32; omega)
  rw [h]
  simp
  rfl
/-- A copy of bytes. -/
theorem clone_bytes {w : World} {A : Option Addr} {n c : Nat} {xs : List UInt8} (hs : Src w A n xs) (hn : n ≤ 1048000) :
    Calls Tryz.prog 108 #[.slice A n c] w fun e w' => ∃ A' c', e = .returned (.slice A' n c') ∧ Src w' A' n xs ∧ n ≤ c' ∧ c' ≤ 9223372036854775807 ∧ Only (fun _ => False) w w' := by
  have qn : ∀ (w : World) (a : Option Addr) (n c n' c' : Nat), (binOp .eql 45 (.slice a n c) (.slice none n' c')).run Tryz.prog w = .ok (.bool a.isNone) w := fun w a n c n' c' => Lib.run_eql_slice_nil w _ _ a n c n' c' Tryz.underlying45
  have HO := Lib.hid (((Only.refl (fun _ => False) w).alloc (.cells #[] 5)))
  have HE := Lib.hid (show Body (w.alloc (.cells #[] 5)) 0 (.slice (some ⟨w.heap.size, 0, none⟩) 0 0) [] from own_of_blk (B := 0) (c := 0) (s := 1) (n := 0) (xs := []) (Blk.new w 5 []) rfl rfl (by omega) (by omega) (Nat.zero_le _))
  have HS := Lib.hid hs
  clear hs
  cases A with
  | none =>
    have h0 : n = 0 := by
      rcases Nat.eq_zero_or_pos n with h | h
      · exact h
      · obtain ⟨_, h, _⟩ := HS.out.2 h
        cases h
    subst h0
    go_enter Tryz.func108, Tryz.ntmps108
    go_wp2
    go_ret
    exact ⟨_, _, rfl, HS.out, Nat.le_refl _, by omega, Only.refl _ _⟩
  | some ad =>
    go_enter Tryz.func108, Tryz.ntmps108
    go_wp2_with (at_builtin; refine step_bytesG rfl (.tmp 5) (.tmp 6) rfl 0 _ _ _ [] rfl HE.out rfl (some ad) n c xs rfl (HS.out.only HO.out (fun _ _ _ h => h)) (by omega) (Nat.zero_le _) ?_; intro A' c' w2 hb hg)
    go_ret
    have hown := hb.out
    rw [Nat.zero_add, List.nil_append] at hown
    obtain ⟨A2, c2, e, h1, h2⟩ := hown.form
    injection e with e1 e2 e3
    subst e1 e3
    refine ⟨A', c', rfl, hown.src HS.out.1.symm, by rw [← HS.out.1]; exact h1, h2, HO.out.grown hg.out (fun q hq => .inr (by cases hq; exact Nat.le_refl _))⟩

/-- Where Row stands. -/
theorem mrow_any (w : World) {m : List UInt8} (hl : m.length = 32) :
    Calls Tryz.prog 59 #[mkV m] w fun e w' => ∃ A' c', e = .returned (.slice A' (mkCut m).length c') ∧ Hid (Src w' A' (mkCut m).length (mkCut m)) ∧ Hid (Only (fun _ => False) w w') := by
  have HB := Lib.hid (Blk.new w 120 (m.map B8))
  have HL := Lib.hid hl
  have HO : Hid (Only (fun _ => False) w (w.alloc (.cells (m.map B8).toArray 120))) := (Only.refl _ w).alloc _
  unfold mkV
  obtain ⟨cs, hcs⟩ : ∃ cs, cs = m.map B8 := ⟨_, rfl⟩
  have hcl : cs.length = 32 := by rw [hcs, List.length_map, hl]
  have HM := Lib.hid hcs
  rw [← hcs] at HB HO ⊢
  have HS : Hid (Src (w.alloc (.cells cs.toArray 120)) (some ⟨w.heap.size, 0, none⟩) 32 m) := HB.out.src hl (fun j x hj => by rw [Nat.zero_add, HM.out, List.getElem?_map, hj]; rfl)
  clear hcs hl
  go_enter Tryz.func59, Tryz.ntmps59
  go_wp2
  go_loop [3] (fun i => ∃ k : Nat, k ≤ 32 ∧ i = .int .i64 (k : Int) ∧ Hid (cutLen m k = cutLen m 32)) (fun i => (intOf i).toNat)
  case atStart => exact ⟨32, by omega, rfl, rfl⟩
  case round =>
    obtain ⟨k, hk, rfl, HD⟩ := hrel
    have out : Hid (cutLen m k = k → (mkCut m).length = k ∧ mkCut m = m.take k) := fun h => by
      rw [mkCut_len, mkCut, HL.out, ← HD.out, h]
      exact ⟨rfl, rfl⟩
    cases k with
    | zero =>
      have HT := HS.out.piece 0 0 (Nat.le_refl _) (by omega) (some ⟨w.heap.size, 0, none⟩) (by intro h; omega)
      have HC := Lib.hid (clone_bytes (c := 32) HT (by omega))
      clear HT
      go_wp2_with (first | (go_at_call 108; (with_reducible refine HC.out.mono ?_); rintro e w1 ⟨A', c', rfl, h1, h2, h3, h4⟩) | fail)
      go_ret
      obtain ⟨e1, e2⟩ := out.out rfl
      rw [e1, e2]
      exact ⟨A', c', rfl, h1, HO.out.trans h4 (fun _ h => h.elim)⟩
    | succ k =>
      obtain ⟨x, hx⟩ : ∃ x, m[k]? = some x := ⟨_, List.getElem?_eq_getElem (by rw [HL.out]; omega)⟩
      have hcell : (w.alloc (.cells cs.toArray 120)).cell? ⟨w.heap.size, k, none⟩ = some (.int .u8 (x.toNat : Int)) := by
        rw [HB.out.cell, HM.out, List.getElem?_map, hx]
        rfl
      have hix := fun W => at_mask W w.heap.size k .i64 (by omega)
      have HX := Lib.hid hx
      clear hx
      by_cases h0 : x.toNat = 0
      · have hz : ((x.toNat : Int) == 0) = true := by simp [h0]
        go_wp2
        go_round
        case rel => exact ⟨k, by omega, by go_num, by rw [Hid, ← HD.out, cutLen, if_pos (by rw [mkAt_of HX.out]; exact h0)]⟩
        case measure => simp [intOf]
      · have hz : ((x.toNat : Int) == 0) = false := by simp [h0]
        have HT := HS.out.piece 0 (k + 1) (by omega) (by omega) (some ⟨w.heap.size, 0, none⟩) (by intro _ ad h; injection h with h; subst h; rw [at_add])
        rw [Nat.sub_zero, List.drop_zero] at HT
        have HC := Lib.hid (clone_bytes (c := 32) HT (by omega))
        clear HT
        have hct := fun W => cut_mask W w.heap.size (k + 1) ((k : Int) + 1) (by omega) (by omega)
        go_wp2_with (first | (go_at_call 108; (with_reducible refine HC.out.mono ?_); rintro e w1 ⟨A', c', rfl, h1, h2, h3, h4⟩) | fail)
        go_ret
        obtain ⟨e1, e2⟩ := out.out (by rw [cutLen, if_neg (by rw [mkAt_of HX.out]; exact h0)])
        rw [e1, e2]
        exact ⟨A', c', rfl, h1, HO.out.trans h4 (fun _ h => h.elim)⟩

/-- Where Bytes stands. -/
structure BysAt (w : World) (m : List UInt8) (W : World) (k n : Nat) (V : Value) : Prop where
  len : n = (mkTo m k).length
  row : Body W w.heap.size V (mkTo m k)
  blk : Blk W w.heap.size 120 (m.map B8)
  only : Only (fun _ => False) w W
theorem size_mask : (Tryz.prog.info? 120).map (·.size) = some 32 := by kernel_rfl
end Go.Proofs.YtbnfhklpobephaaGreatDoor
