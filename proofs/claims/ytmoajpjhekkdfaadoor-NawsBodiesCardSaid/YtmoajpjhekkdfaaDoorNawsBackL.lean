/- NawsBack, walked. -/
import Derived.Test.YtmoajpjhekkdfaaDoorNawsBack
import Derived.BigQuiet
namespace Go.Proofs.YtmoajpjhekkdfaaDoor
open Go Go.ChangeShapes Go.WideShapes Go.ChangeAt Go.RowKit
set_option maxRecDepth 100000
set_option maxHeartbeats 4000000

theorem nback_ok (w : World) (c r mc mr : Int) (a b d e : UInt8) :
    Calls Tryd.prog 4 #[szVal c r, szVal mc mr, .agg #[B8 a, B8 b, B8 d, B8 e]] w (Fine w) := by
  have HA := Lib.hid (fun W => nws_alive W)
  have HP := Lib.hid (fun (W : World) (N : Nat) (hs : Src W (some ⟨N, 0, none⟩) 4 [a, b, d, e]) => parse_ok hs 4)
  have HB : Hid (∀ W : World, Calls Tryd.prog 6 #[szVal (two a b) (two d e)] W fun e' w' => ∃ N, e' = .returned (.tuple #[.slice (some ⟨N, 0, none⟩) 4 4, .nilIface]) ∧ Hid (Src w' (some ⟨N, 0, none⟩) 4 [a, b, d, e]) ∧ Hid (Only (fun _ => False) W w')) := fun W => by
    have := body_ok W (two a b) (two d e) (two_fits _ _) (two_fits _ _)
    rw [bodyOf_two] at this
    exact this
  have HF1 := Lib.hid (fun W => fit_any W c r mc mr)
  have HF2 := Lib.hid (fun W => fit_any W mc mr c r)
  rw [less_comm mc c, less_comm mr r] at HF2
  have HR := Lib.hid (fun W => right_any W c r)
  have HY : Hid ((fitsN c && fitsN r) = true → (∀ W : World, Calls Tryd.prog 6 #[.agg #[.int .i64 c, .int .i64 r]] W fun e' w' => ∃ N, e' = .returned (.tuple #[.slice (some ⟨N, 0, none⟩) 4 4, .nilIface]) ∧ Hid (Src w' (some ⟨N, 0, none⟩) 4 (bodyOf c r)) ∧ Hid (Only (fun _ => False) W w')) ∧
      (∀ (W : World) (N : Nat), Src W (some ⟨N, 0, none⟩) 4 (bodyOf c r) → Calls Tryd.prog 8 #[.slice (some ⟨N, 0, none⟩) 4 4] W fun e' w' => e' = .returned (.tuple #[.agg #[.int .i64 c, .int .i64 r], .nilIface]) ∧ Only (fun _ => False) W w') ∧
      (∀ W : World, Calls Tryd.prog 13 #[.agg #[.int .i64 c, .int .i64 r], .agg #[.int .i64 c, .int .i64 r]] W fun e' w' => e' = .returned (.agg #[.int .i64 c, .int .i64 r]) ∧ Only (fun _ => False) W w') ∧
      (∀ W : World, Calls Tryd.prog 13 #[.agg #[.int .i64 c, .int .i64 r], .agg #[.int .i64 0, .int .i64 0]] W fun e' w' => e' = .returned (.agg #[.int .i64 c, .int .i64 r]) ∧ Only (fun _ => False) W w')) := fun h => by
    rw [Bool.and_eq_true] at h
    refine ⟨fun W => body_ok W c r h.1 h.2, fun W N hs => ?_, fun W => ?_, fun W => ?_⟩
    · have := parse_ok hs 4
      rw [two_of h.1, two_of h.2] at this
      exact this
    · have := fit_any W c r c r
      rw [less_self h.1, less_self h.2] at this
      exact this
    · have := fit_any W c r 0 0
      rw [less_zero h.1, less_zero h.2] at this
      exact this
  generalize (fitsN c && fitsN r) = q at *
  unfold szVal at *
  generalize two a b = x at *
  generalize two d e = y at *
  generalize less c mc = f1 at *
  generalize less r mr = f2 at *
  have heq : ∀ W, _ := fun W => same_sz W f1 f2
  have hgr := guard_sz
  go_enter Tryd.func4, Tryd.ntmps4
  go_wp2_with (first
    | (go_at_call 5; refine (HA.out _).mono ?_; rintro e' w1 ⟨rfl, ho1⟩; have HW1 : Hid (Only (fun _ => False) w w1) := ((((Only.refl _ _).alloc _).alloc _).alloc _).trans ho1 (fun _ h => h.elim); have HK : Hid (∀ W, Only (fun _ => False) w1 W → Blk W w.heap.size 23 [.int .i64 c, .int .i64 r] ∧ Blk W (w.heap.size + 1) 23 [.int .i64 mc, .int .i64 mr] ∧ Src W (some ⟨w.heap.size + 1 + 1, 0, none⟩) 4 [a, b, d, e]) := (fun W ho => ⟨((((Blk.new' w _ [.int .i64 c, .int .i64 r] rfl).alloc _).alloc _).only ho1 (fun h => h)).only ho (fun h => h), (((Blk.new' _ _ [.int .i64 mc, .int .i64 mr] (by simp)).alloc _).only ho1 (fun h => h)).only ho (fun h => h), (((Blk.new' _ 42 ([a, b, d, e].map B8) (by simp)).only ho1 (fun h => h)).only ho (fun h => h)).src rfl (fun j z hz => by rw [Nat.zero_add, List.getElem?_map, hz]; rfl)⟩); clear ho1)
    | (go_at_call 8; refine (HP.out w1 _ (HK.out w1 (Only.refl _ _)).2.2).mono ?_; rintro e' w2 ⟨rfl, ho2⟩; have HO2 := Lib.hid ho2; clear ho2)
    | (go_at_call 6; refine (HB.out _).mono ?_; rintro e' w3 ⟨N3, rfl, hs3, ho3⟩; have HO3 : Hid (Only (fun _ => False) w1 w3) := (HO2.out.alloc _).trans ho3.out (fun _ h => h.elim); have HT : ∀ N, _ := (fun N => hs3.out.texts 4 (w3.drewN N) ((Only.refl _ _).drewN N)); have HT2 : ∀ N, _ := (fun N => (HK.out w1 (Only.refl _ _)).2.2.texts 4 (w3.drewN N) (HO3.out.drewN N)))
    | fail)
  go_quiet (fail)
  go_wp2
  have HO4 : Hid (Only (fun _ => False) w1 (w3.drewN nq)) := HO3.out.drewN _
  clear hs3 ho3 HT HT2 HO2 HP HB HA
  generalize w3.drewN nq = w4 at *
  have HK4 : Hid (∀ W, Only (fun _ => False) w1 W → W.cell? ⟨w.heap.size, 0, none⟩ = some (.int .i64 c) ∧ W.cell? ⟨w.heap.size, 1, none⟩ = some (.int .i64 r) ∧ W.cell? ⟨w.heap.size + 1, 0, none⟩ = some (.int .i64 mc) ∧ W.cell? ⟨w.heap.size + 1, 1, none⟩ = some (.int .i64 mr)) := fun W ho => ⟨(HK.out W ho).1.cell 0, (HK.out W ho).1.cell 1, (HK.out W ho).2.1.cell 0, (HK.out W ho).2.1.cell 1⟩
  cases q
  focus
    clear HY
    go_region_held3 (fun W => W.cell? ⟨w.heap.size, 0, none⟩ = some (.int .i64 c) ∧ W.cell? ⟨w.heap.size, 1, none⟩ = some (.int .i64 r) ∧ W.cell? ⟨w.heap.size + 1, 0, none⟩ = some (.int .i64 mc) ∧ W.cell? ⟨w.heap.size + 1, 1, none⟩ = some (.int .i64 mr))
      (first | exact HK4.out _ HO4.out.drew | exact HK4.out _ HO5.out | exact HK4.out _ HO6.out | exact HK4.out _ HO7.out)
      (first
        | (go_at_call 13; (with_reducible refine (HF1.out _).mono ?_); rintro e' w5 ⟨rfl, ho5⟩; have HO5 : Hid (Only (fun _ => False) w1 w5) := HO4.out.drew.trans ho5 (fun _ h => h.elim); clear ho5)
        | (go_at_call 13; (with_reducible refine (HF2.out _).mono ?_); rintro e' w6 ⟨rfl, ho6⟩; have HO6 : Hid (Only (fun _ => False) w1 w6) := HO5.out.trans ho6 (fun _ h => h.elim); clear ho6)
        | (go_at_call 12; (with_reducible refine (HR.out _).mono ?_); rintro e' w7 ⟨rfl, ho7⟩; have HO7 : Hid (Only (fun _ => False) w1 w7) := HO6.out.trans ho7 (fun _ h => h.elim); clear ho7))
    go_wp2
    go_region_held3 (fun W => W.cell? ⟨w.heap.size, 0, none⟩ = some (.int .i64 c) ∧ W.cell? ⟨w.heap.size, 1, none⟩ = some (.int .i64 r) ∧ W.cell? ⟨w.heap.size + 1, 0, none⟩ = some (.int .i64 mc) ∧ W.cell? ⟨w.heap.size + 1, 1, none⟩ = some (.int .i64 mr))
      (first | exact HK4.out _ HO7.out.drew | exact HK4.out _ HO8.out | exact HK4.out _ HO9.out)
      (first
        | (go_at_call 13; (with_reducible refine (HF1.out _).mono ?_); rintro e' w8 ⟨rfl, ho8⟩; have HO8 : Hid (Only (fun _ => False) w1 w8) := HO7.out.drew.trans ho8 (fun _ h => h.elim); clear ho8)
        | (go_at_call 13; (with_reducible refine (HF2.out _).mono ?_); rintro e' w9 ⟨rfl, ho9⟩; have HO9 : Hid (Only (fun _ => False) w1 w9) := HO8.out.trans ho9 (fun _ h => h.elim); clear ho9))
    go_wp2
    go_ret
    exact ⟨rfl, HW1.out.trans HO9.out (fun _ h => h.elim)⟩
  focus
    obtain ⟨YB, YP, YF, YZ⟩ := HY.out rfl
    have HYB := Lib.hid YB
    have HYP := Lib.hid YP
    have HYF := Lib.hid YF
    have HYZ := Lib.hid YZ
    clear YB YP YF YZ HY
    go_region_held3 (fun W => W.cell? ⟨w.heap.size, 0, none⟩ = some (.int .i64 c) ∧ W.cell? ⟨w.heap.size, 1, none⟩ = some (.int .i64 r) ∧ W.cell? ⟨w.heap.size + 1, 0, none⟩ = some (.int .i64 mc) ∧ W.cell? ⟨w.heap.size + 1, 1, none⟩ = some (.int .i64 mr))
      (first | exact HK4.out _ HO4.out.drew | exact HK4.out _ HO5.out | exact HK4.out _ HO6.out | exact HK4.out _ HO7.out)
      (first
        | (go_at_call 13; (with_reducible refine (HF1.out _).mono ?_); rintro e' w5 ⟨rfl, ho5⟩; have HO5 : Hid (Only (fun _ => False) w1 w5) := HO4.out.drew.trans ho5 (fun _ h => h.elim); clear ho5)
        | (go_at_call 13; (with_reducible refine (HF2.out _).mono ?_); rintro e' w6 ⟨rfl, ho6⟩; have HO6 : Hid (Only (fun _ => False) w1 w6) := HO5.out.trans ho6 (fun _ h => h.elim); clear ho6)
        | (go_at_call 12; (with_reducible refine (HR.out _).mono ?_); rintro e' w7 ⟨rfl, ho7⟩; have HO7 : Hid (Only (fun _ => False) w1 w7) := HO6.out.trans ho7 (fun _ h => h.elim); clear ho7))
    go_wp2_with (first
      | (go_at_call 6; refine (HYB.out _).mono ?_; rintro e' w8 ⟨N8, rfl, hs8, ho8⟩; have HO8 : Hid (Only (fun _ => False) w1 w8) := HO7.out.trans ho8.out (fun _ h => h.elim))
      | (go_at_call 8; refine (HYP.out _ _ hs8.out).mono ?_; rintro e' w9 ⟨rfl, ho9⟩; have HO9 : Hid (Only (fun _ => False) w1 w9) := HO8.out.trans ho9 (fun _ h => h.elim); clear ho9)
      | fail)
    have HOA : Hid (Only (fun _ => False) w1 (w9.alloc (.cells #[.int .i64 c, .int .i64 r] 23))) := HO9.out.alloc _
    have HQ : Hid (Blk (w9.alloc (.cells #[.int .i64 c, .int .i64 r] 23)) w9.heap.size 23 [.int .i64 c, .int .i64 r]) := Blk.new _ _ _
    generalize w9.heap.size = Q at *
    generalize w9.alloc (.cells #[.int .i64 c, .int .i64 r] 23) = wA at *
    have HKA : Hid (∀ W, Only (fun _ => False) wA W → W.cell? ⟨w.heap.size, 0, none⟩ = some (.int .i64 c) ∧ W.cell? ⟨w.heap.size, 1, none⟩ = some (.int .i64 r) ∧ W.cell? ⟨Q, 0, none⟩ = some (.int .i64 c) ∧ W.cell? ⟨Q, 1, none⟩ = some (.int .i64 r)) := fun W ho => ⟨(HK4.out W (HOA.out.trans ho (fun _ h => h.elim))).1, (HK4.out W (HOA.out.trans ho (fun _ h => h.elim))).2.1, (HQ.out.only ho (fun h => h)).cell 0, (HQ.out.only ho (fun h => h)).cell 1⟩
    have heq2 : ∀ W, _ := fun W => same_sz W c r
    clear heq
    go_region_held3 (fun W => W.cell? ⟨w.heap.size, 0, none⟩ = some (.int .i64 c) ∧ W.cell? ⟨w.heap.size, 1, none⟩ = some (.int .i64 r) ∧ W.cell? ⟨Q, 0, none⟩ = some (.int .i64 c) ∧ W.cell? ⟨Q, 1, none⟩ = some (.int .i64 r))
      (first | exact HKA.out _ (Only.refl _ _).drew | exact HKA.out _ HOB.out | exact HKA.out _ HOC.out)
      (first
        | (go_at_call 13; (with_reducible refine (HYF.out _).mono ?_); rintro e' wB ⟨rfl, hoB⟩; have HOB : Hid (Only (fun _ => False) wA wB) := (Only.refl _ _).drew.trans hoB (fun _ h => h.elim); clear hoB)
        | (go_at_call 13; (with_reducible refine (HYZ.out _).mono ?_); rintro e' wC ⟨rfl, hoC⟩; have HOC : Hid (Only (fun _ => False) wA wC) := HOB.out.trans hoC (fun _ h => h.elim); clear hoC))
    go_wp2
    go_ret
    exact ⟨rfl, (HW1.out.trans HOA.out (fun _ h => h.elim)).trans HOC.out (fun _ h => h.elim)⟩

theorem open_size {H : Type} {enc : TypeId × Value → H} {W : World} {r : Reach} {b0 : Nat} {v : Value} {d : DataW H} {p : List MemPlace}
    (hv : Value.okWide Tryd.prog W r b0 23 v) (h : DataW.Trod enc Tryd.prog W 0 (fun _ => true) true 23 v d p) :
    ∃ (x y : Int), v = szVal x y ∧ True := by
  unfold Value.okWide at hv
  rw [Tryd.underlying23] at hv
  obtain ⟨cs, rfl, hsz, _⟩ := hv
  obtain ⟨fuel, hf⟩ := h
  obtain ⟨ys, k, _, _, _, hyl, hel⟩ := DataW.trod_struct Tryd.underlying23 hf
  obtain ⟨l⟩ := cs
  have hl2 : l.length = 2 := by
    have : Tryd.prog.cellsOf 23 = 2 := by kernel_rfl
    rw [this] at hsz
    simpa using hsz
  match l, hl2, hel with
  | [v0, v1], _, hel =>
    have hy : ∀ i, i < 2 → ∃ y, ys[i]? = some y := fun i hi => ⟨_, List.getElem?_eq_getElem (by rw [hyl]; exact hi)⟩
    have h0 := hel 0 _ rfl
    have h1 := hel 1 _ rfl
    obtain ⟨y0, e0⟩ := hy 0 (by omega)
    obtain ⟨y1, e1⟩ := hy 1 (by omega)
    rw [e0] at h0
    rw [e1] at h1
    replace h0 : DataW.trod enc Tryd.prog W 0 (fun _ => true) true k 3 [v0] = some y0 := h0
    replace h1 : DataW.trod enc Tryd.prog W 0 (fun _ => true) true k 3 [v1] = some y1 := h1
    obtain ⟨z0, q0, _, _⟩ := DataW.trod_int Tryd.underlying3 h0
    obtain ⟨z1, q1, _, _⟩ := DataW.trod_int Tryd.underlying3 h1
    obtain rfl : v0 = .int .i64 z0 := by simpa using q0
    obtain rfl : v1 = .int .i64 z1 := by simpa using q1
    exact ⟨z0, z1, rfl, trivial⟩

@[reducible] def fourVal (a b d e : UInt8) : Value := .agg #[B8 a, B8 b, B8 d, B8 e]
theorem open_four {H : Type} {enc : TypeId × Value → H} {W : World} {r : Reach} {b0 : Nat} {v : Value} {d : DataW H} {p : List MemPlace}
    (hv : Value.okWide Tryd.prog W r b0 42 v) (h : DataW.Trod enc Tryd.prog W 0 (fun _ => true) true 42 v d p) :
    ∃ (x : UInt8 × UInt8 × UInt8 × UInt8), v = fourVal x.1 x.2.1 x.2.2.1 x.2.2.2 ∧ True := by
  obtain ⟨zs, hl, rfl, hw⟩ := open_array_ints Tryd.underlying42 Tryd.underlying5 (by kernel_rfl) (by kernel_rfl) hv h
  match zs, hl, hw with
  | [z0, z1, z2, z3], _, hw =>
    have k : ∀ z ∈ [z0, z1, z2, z3], B8 (UInt8.ofNat z.toNat) = .int .u8 z := fun z hz => by
      have := bounds_u8 (hw z hz)
      unfold B8
      rw [b8_of (by omega) (by omega)]
    refine ⟨(UInt8.ofNat z0.toNat, UInt8.ofNat z1.toNat, UInt8.ofNat z2.toNat, UInt8.ofNat z3.toNat), ?_, trivial⟩
    simp only [fourVal]
    rw [k z0 (by simp), k z1 (by simp), k z2 (by simp), k z3 (by simp)]
    rfl

theorem nawsBack_walk (W : World) {c r mc mr : Int} (_ : True) (_ : True) {x : UInt8 × UInt8 × UInt8 × UInt8} (_ : True) :
    Calls Tryd.prog 4 #[szVal c r, szVal mc mr, fourVal x.1 x.2.1 x.2.2.1 x.2.2.2] W (Fine W) := nback_ok W c r mc mr _ _ _ _
end Go.Proofs.YtmoajpjhekkdfaaDoor
