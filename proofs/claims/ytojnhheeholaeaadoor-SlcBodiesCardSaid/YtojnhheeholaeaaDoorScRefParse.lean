/- Layer 14's document, walked: Parse. -/
import Derived.Test.YtojnhheeholaeaaDoorScRefBody
import Derived.Test.YtojnhheeholaeaaDoorScParse
namespace Go.Proofs.YtojnhheeholaeaaDoor
open Go Go.RowKit
set_option maxRecDepth 100000
set_option maxHeartbeats 4000000

theorem info_rtri : (Tryd.prog.info? 41).map (fun i => (i.zero, i.size, i.bytes)) = some (some (.agg (Tr.cs Tr.zero).toArray), 4, 32) := by kernel_rfl
def strLen : Value → Nat
  | .string b => b.size
  | _ => 0
theorem rparse_short (w : World) (bs : List UInt8) (h : bs.length % 3 ≠ 0) (hn : bs.length ≤ 1000) :
    Calls Tryd.prog 24 #[.string ⟨bs.toArray⟩] w fun e w' => e = .returned (.tuple #[.slice none 0 0, .int .i64 3]) ∧ Only (fun _ => False) w w' := by
  have hl : (ByteArray.mk bs.toArray).size = bs.length := rfl
  obtain ⟨n, hnn⟩ : ∃ n, n = bs.length := ⟨_, rfl⟩
  rw [← hnn] at hl h hn
  obtain ⟨q, hq⟩ : ∃ q : Int, q = ((n % 3 : Nat) : Int) := ⟨_, rfl⟩
  have e0 : (n : Int).tmod 3 = q := by
    rw [Int.tmod_eq_emod_of_nonneg (by omega), hq]
    omega
  have e1 : (0 : Int) < q := by omega
  clear h hq hnn
  go_enter Tryd.func24, Tryd.ntmps24
  go_wp2
  go_ret2
  exact ⟨rfl, Only.refl _ _⟩

theorem rparse_ok (w : World) (bs : List UInt8) (h3 : bs.length % 3 = 0) (hn : bs.length ≤ 1000) :
    Calls Tryd.prog 24 #[.string ⟨bs.toArray⟩] w fun e w' => ∃ A' m c', e = .returned (.tuple #[.slice A' m c', .int .i64 0]) ∧ m = (parseB bs).length ∧ w'.ownsRow w.heap.size 41 4 (.slice A' m c') m (csT (parseB bs)) ∧ Only (fun _ => False) w w' := by
  have HR := Lib.hid (fun W t => rright_any W t)
  obtain ⟨i, hi, hz, h1, h2⟩ := infoK info_rtri
  have HI := Lib.hid hi
  have HZ := Lib.hid hz
  have HI1 := Lib.hid h1
  have HI2 := Lib.hid h2
  have hml : (parseB bs).length ≤ 1000 := by
    have := parseB_len _ bs (Nat.le_refl _)
    omega
  have hl : (ByteArray.mk bs.toArray).size = bs.length := rfl
  obtain ⟨n, hnn⟩ : ∃ n, n = bs.length := ⟨_, rfl⟩
  rw [← hnn] at hl h3 hn
  have e1 : (n : Int).tmod 3 = 0 := by
    rw [Int.tmod_eq_emod_of_nonneg (by omega)]
    omega
  have HNn := Lib.hid hnn
  clear hi hz h1 h2 hnn
  go_enter Tryd.func24, Tryd.ntmps24
  go_wp2
  have HB0 : Hid ((w.alloc (.cells #[] 41)).ownsRow w.heap.size 41 4 (.slice (some ⟨w.heap.size, 0, none⟩) (0 : Nat) 0) 0 (csT [])) := own_of_blk (cur := []) (Blk.new w _ []) rfl rfl (by omega) (by omega) (Nat.le_refl _)
  have HO0 : Hid (Only (fun _ => False) w (w.alloc (.cells #[] 41))) := (Only.refl _ _).alloc _
  generalize w.alloc (.cells #[] 41) = w0 at *
  go_loopw [0, 4] (fun s lst W => ∃ (rest : List UInt8) (D : Option Addr) (m cd : Nat), rest.length ≤ n ∧ s = .string ⟨rest.toArray⟩ ∧ lst = .slice D m cd ∧ Hid (rest.length % 3 = 0 ∧ ∃ done, m = done.length ∧ done ++ parseB rest = parseB bs ∧ W.ownsRow w.heap.size 41 4 (.slice D m cd) m (csT done) ∧ Only (fun _ => False) w W)) (fun s _ _ => strLen s)
  case atStart => exact ⟨bs, _, 0, 0, by have := HNn.out; omega, rfl, rfl, by have := HNn.out; omega, [], rfl, rfl, HB0.out, HO0.out⟩
  case round =>
    obtain ⟨rest, D, m, cd, hrl, rfl, rfl, hrel⟩ := hrel
    obtain ⟨hk3, done, hm, hdone, hown, hon⟩ := hrel.out
    have HM := Lib.hid hm
    have HD := Lib.hid hdone
    have HOw := Lib.hid hown
    have HOn := Lib.hid hon
    have HK3 := Lib.hid hk3
    clear hrel
    by_cases hlt : 0 < rest.length
    · obtain ⟨x, y, z, r, hr⟩ : ∃ x y z r, rest = x :: y :: z :: r := by
        match rest, hlt, hk3 with
        | [_], _, h => simp at h
        | [_, _], _, h => simp at h
        | x :: y :: z :: r, _, _ => exact ⟨x, y, z, r, rfl⟩
      have hsz : (ByteArray.mk rest.toArray).size = r.length + 3 := by rw [hr]; rfl
      have g0 := str_get (s := rest) (k := 0) (x := x) (by rw [hr]; rfl)
      have g1 := str_get (s := rest) (k := 1) (x := y) (by rw [hr]; rfl)
      have g2 := str_get (s := rest) (k := 2) (x := z) (by rw [hr]; rfl)
      have hcut : (ByteArray.mk rest.toArray).extract 3 (r.length + 3) = ⟨r.toArray⟩ := by
        rw [str_cut, hr]
        simp
      have HPr : Hid (parseB rest = (if (triOf x y z).right = true then [triOf x y z] else []) ++ parseB r) := by rw [hr]; exact rfl
      have HRl : Hid (rest.length = r.length + 3) := by rw [hr]; exact rfl
      have HRt := Lib.hid (fun W => HR.out W (triOf x y z))
      have HTri : Hid (triOf x y z = ⟨(x.toNat : Int), ⟨((y.toNat % 4 : Nat) : Int), (z.toNat : Int)⟩, decide (128 ≤ y.toNat)⟩) := rfl
      obtain ⟨g, hg⟩ : ∃ g, g = (triOf x y z).right := ⟨_, rfl⟩
      have HG := Lib.hid hg
      rw [← hg] at HRt
      unfold triOf at HRt
      obtain ⟨li, hli⟩ : ∃ v, v = ((y.toNat % 4 : Nat) : Int) := ⟨_, rfl⟩
      obtain ⟨ai, hai⟩ : ∃ v, v = decide (128 ≤ y.toNat) := ⟨_, rfl⟩
      rw [← hli, ← hai] at HRt HTri
      have bx := x.toNat_lt
      have by' := y.toNat_lt
      have bz := z.toNat_lt
      have e2 : ((y.toNat : Nat) : Int).tmod 4 = li := by
        rw [Int.tmod_eq_emod_of_nonneg (by omega), hli]
        omega
      have e3 : decide ((128 : Int) ≤ ((y.toNat : Nat) : Int)) = ai := by
        rw [hai]
        exact decide_eq_decide.2 (by omega)
      have hi1 : (0 : Int) < ((r.length + 3 : Nat) : Int) := by omega
      clear hk3 hm hdone hown hon hg hli hai hr hlt
      obtain ⟨rl, hrl2⟩ : ∃ rl, rl = r.length := ⟨_, rfl⟩
      rw [← hrl2] at hsz hcut hi1 HRl
      have HRl2 := Lib.hid hrl2
      clear hrl2
      go_wp2
      go_region
      obtain ⟨xi, hxi⟩ : ∃ v, v = (x.toNat : Int) := ⟨_, rfl⟩
      obtain ⟨zi, hzi⟩ : ∃ v, v = (z.toNat : Int) := ⟨_, rfl⟩
      rw [← hxi, ← hzi] at HRt HTri
      rw [← hxi, ← hzi]
      have HBt := Lib.hid ((Blk.new wr 41 [.int .i64 xi, .int .i64 li, .int .i64 zi, .bool ai]).drew)
      have HO1 : Hid (Only (fun _ => False) wr ((wr.alloc (.cells #[.int .i64 xi, .int .i64 li, .int .i64 zi, .bool ai] 41)).drew)) := ((Only.refl _ _).alloc _).drew
      obtain ⟨T, hT⟩ : ∃ T, T = wr.heap.size := ⟨_, rfl⟩
      rw [← hT] at HBt ⊢
      clear hT hxi hzi g0 g1 g2
      generalize (wr.alloc (.cells #[.int .i64 xi, .int .i64 li, .int .i64 zi, .bool ai] 41)).drew = w4 at *
      have t0 : w4.cell? ⟨T, 0, none⟩ = some (.int .i64 xi) := HBt.out.cell 0
      have t1 : w4.cell? ⟨T, 1, none⟩ = some (.int .i64 li) := HBt.out.cell 1
      have t2 : w4.cell? ⟨T, 2, none⟩ = some (.int .i64 zi) := HBt.out.cell 2
      have t3 : w4.cell? ⟨T, 3, none⟩ = some (.bool ai) := HBt.out.cell 3
      have hmb : m ≤ 1000 := by
        have h1 := HM.out
        have h2 := congrArg List.length HD.out
        rw [List.length_append] at h2
        omega
      have HRst : Hid (done ++ ((if g = true then [triOf x y z] else []) ++ parseB r) = parseB bs) := by
        have h := HD.out
        rw [HPr.out, ← HG.out] at h
        exact h
      cases g
      · go_wp2_with (first
          | (go_at_call 20; refine (HRt.out _).mono ?_; rintro e w5 ⟨rfl, ho5⟩; have HO5 : Hid (Only (fun _ => False) wr w5) := HO1.out.trans ho5 (fun _ h => h.elim); clear ho5)
          | fail)
        go_roundw
        case rel => exact ⟨r, D, m, cd, by have := HRl.out; have := HRl2.out; omega, rfl, rfl, by have := HK3.out; have := HRl.out; have := HRl2.out; omega, done, HM.out, HRst.out, own_same HOw.out HO5.out, HOn.out.trans HO5.out (fun _ h => h.elim)⟩
        case measure =>
          have h1 := HRl.out
          have h2 := HRl2.out
          show r.length < rest.length
          omega
      · go_wp2_with (first
          | (go_at_call 20; refine (HRt.out _).mono ?_; rintro e w5 ⟨rfl, ho5⟩; have HO5 : Hid (Only (fun _ => False) wr w5) := HO1.out.trans ho5 (fun _ h => h.elim); obtain ⟨u0, u1, u2, u3⟩ : w5.cell? ⟨T, 0, none⟩ = some (.int .i64 xi) ∧ w5.cell? ⟨T, 1, none⟩ = some (.int .i64 li) ∧ w5.cell? ⟨T, 2, none⟩ = some (.int .i64 zi) ∧ w5.cell? ⟨T, 3, none⟩ = some (.bool ai) := ⟨(HBt.out.only ho5 (fun h => h)).cell 0, (HBt.out.only ho5 (fun h => h)).cell 1, (HBt.out.only ho5 (fun h => h)).cell 2, (HBt.out.only ho5 (fun h => h)).cell 3⟩; clear ho5)
          | ((with_reducible show wpList _ _ _ (⟨some 34, _, _, _, _, _⟩ :: _) _ _); refine step_append_own rfl (.tmp 31) (.tmp 33) 63 rfl w.heap.size 41 i _ 4 32 Tryd.underlying63 HI.out HZ.out HI1.out HI2.out rfl (by omega) (.slice D m cd) m (csT done) rfl (own_same HOw.out (HO5.out.alloc _)) (some ⟨w5.heap.size, 0, none⟩) 1 1 [.int .i64 xi, .int .i64 li, .int .i64 zi, .bool ai] rfl rfl (fun _ => ⟨_, rfl, fun j u hj => by rw [at_add]; exact ((Blk.new w5 _ [.int .i64 xi, .int .i64 li, .int .i64 zi, .bool ai]).cell j).trans hj⟩) (Tr.cs_one ⟨xi, ⟨li, zi⟩, ai⟩) (by omega) (by omega) (Nat.le_trans (HOn.out.trans HO5.out (fun _ h => h.elim)).size (by simp)) ?_; intro A7 c7 w7 hq1 hq2 hq3; have HOw7 := Lib.hid hq3.out.1; have HO7 : Hid (Only (fun i => Value.ownBlock (.slice D m cd) = some i) wr w7) := Only.grown ((HO5.out.mono (fun _ h => h.elim)).alloc _) hq3.out.2.1 (fun k hk => .inl hk); have HOn7 : Hid (Only (fun _ => False) w w7) := HOn.out.trans HO7.out (fun i hi => .inr (own_lt HOw.out i hi).1); clear hq1 hq2 hq3)
          | fail)
        go_roundw
        case rel => exact ⟨r, A7, m + 1, c7, by have := HRl.out; have := HRl2.out; omega, rfl, rfl, by have := HK3.out; have := HRl.out; have := HRl2.out; omega, done ++ [triOf x y z], by rw [List.length_append, HM.out]; rfl, by rw [List.append_assoc]; exact HRst.out, by rw [csT_append, csT_one, HTri.out]; exact HOw7.out, HOn7.out⟩
        case measure =>
          have h1 := HRl.out
          have h2 := HRl2.out
          show r.length < rest.length
          omega
    · have hr : rest = [] := List.eq_nil_of_length_eq_zero (by omega)
      subst hr
      clear hk3 hm hdone hown hon hlt
      go_wp2
      go_ret2
      have hd := HD.out
      rw [show parseB [] = [] from rfl, List.append_nil] at hd
      rw [hd] at HM HOw
      exact ⟨D, m, cd, rfl, HM.out, HOw.out, HOn.out⟩
end Go.Proofs.YtojnhheeholaeaaDoor
