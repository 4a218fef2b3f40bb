/- Several texts in one. -/
import Derived.Test.YtbnfhklpobephaaGreatDoorStructs
import Derived.Test.YtbnfhklpobephaaGreatDoorJEnSub
import Derived.Test.YtbnfhklpobephaaGreatDoorScOpen
import Derived.Test.YtbnfhklpobephaaGreatDoorJTexts
import Derived.Test.YtbnfhklpobephaaGreatDoorJHsNew
import Derived.Test.YtbnfhklpobephaaGreatDoorJSnList
import Derived.Test.YtbnfhklpobephaaGreatDoorJEnTwo
/- A slice of bytes that came in, read out of one cell. -/
namespace Go.Proofs.YtbnfhklpobephaaGreatDoor
open Go Go.ChangeShapes Go.WideShapes Go.ChangeAt Go.RowKit

/-- A slice of bytes, read out of one cell. -/
theorem opened_cell {H : Type} {enc : TypeId × Value → H} {W : World} {spare : Nat → Bool} {fuel : Nat} {v : Value} {x : DataW H × List MemPlace} (hf : DataW.trod enc Tryz.prog W 0 spare true fuel 45 [v] = some x) :
    ∃ A n c xs, v = .slice A n c ∧ Src W A n xs ∧ n ≤ c ∧ c ≤ 9223372036854775807 := by
  obtain ⟨d, p⟩ := x
  rcases Go.Deep.open_slice Tryz.underlying45 hf with ⟨h, _⟩ | ⟨a, len, cap, _, _, _, _, h, _⟩
  all_goals
    simp only [List.cons.injEq, and_true] at h
    subst h
    obtain ⟨xs, h1, h2, h3⟩ := opened Tryz.underlying45 Tryz.underlying5 (by kernel_rfl) hf
    exact ⟨_, _, _, xs, rfl, h1, h2, h3⟩

end Go.Proofs.YtbnfhklpobephaaGreatDoor
/- A config, and acts, that came in. -/
namespace Go.Proofs.YtbnfhklpobephaaGreatDoor
open Go Go.ChangeShapes Go.WideShapes Go.ChangeAt Go.RowKit
set_option maxRecDepth 100000
set_option maxHeartbeats 4000000

/-- An act. -/
structure Ac where
  k : Int
  n : Int
  o : Int
  m : Bool
  ad : Option Addr
  len : Nat
  cap : Nat
  xs : List UInt8
@[reducible] def Ac.cs (a : Ac) : List Value := [.int .i64 a.k, .int .i64 a.n, .int .i64 a.o, .bool a.m, .slice a.ad a.len a.cap]
/-- It can be read: its number is a machine's, its bytes lie in memory. -/
structure Ac.Ok (W : World) (a : Ac) : Prop where
  in64 : In64 a.n
  src : Src W a.ad a.len a.xs
  cap : a.len ≤ a.cap ∧ a.cap ≤ 9223372036854775807
theorem Ac.Ok.same {W W' : World} {a : Ac} (h : a.Ok W) (ho : Only (fun _ => False) W W') : a.Ok W' := ⟨h.in64, h.src.only ho (fun _ _ _ h => h), h.cap⟩
/-- A slice of acts. -/
def AcAt (W : World) (A : Option Addr) (len : Nat) (l : List Ac) : Prop :=
  l.length = len ∧ ∀ (i : Nat) (x : Ac), l[i]? = some x → (∃ b off, A = some ⟨b, off, none⟩ ∧ b < W.heap.size ∧ W.rangeAt b (off + i * 5) x.cs) ∧ x.Ok W
theorem AcAt.same {W W' : World} {A : Option Addr} {len : Nat} {l : List Ac} (h : AcAt W A len l) (ho : Only (fun _ => False) W W') : AcAt W' A len l :=
  ⟨h.1, fun i x hx => by
    obtain ⟨⟨b, off, e, hb, h1⟩, h2⟩ := h.2 i x hx
    exact ⟨⟨b, off, e, Nat.lt_of_lt_of_le hb ho.size, fun j v hv => ho.cellv (h1 j v hv) (fun h => h)⟩, h2.same ho⟩⟩
theorem open_eacts {H : Type} {enc : TypeId × Value → H} {W : World} {spare : Nat → Bool} {fuel : Nat} {a0 : Option Addr} {len cap : Nat} {x : DataW H × List MemPlace}
    (h : DataW.trod enc Tryz.prog W 0 spare true fuel 33 [.slice a0 len cap] = some x) : len ≤ cap ∧ cap ≤ 9223372036854775807 ∧ ∃ l, AcAt W a0 len l := by
  obtain ⟨h1, h2, hel⟩ := open_structs Tryz.underlying33 Tryz.underlying47 (by kernel_rfl) (by kernel_rfl) h
  refine ⟨h1, h2, ?_⟩
  have each : ∀ i, i < len → ∃ y : Ac, (∃ b off, a0 = some ⟨b, off, none⟩ ∧ b < W.heap.size ∧ W.rangeAt b (off + i * 5) y.cs) ∧ y.Ok W := by
    intro i hi
    obtain ⟨a, rfl, vs, n, hl, hc, hf⟩ := hel i hi
    replace hl : vs.length = 5 := hl
    match vs, hl, hc, hf with
    | [v0, v1, v2, v3, v4], _, hc, hf =>
      obtain ⟨w0, y0, e0, t0⟩ := hf 0 _ rfl
      obtain ⟨w1, y1, e1, t1⟩ := hf 1 _ rfl
      obtain ⟨w2, y2, e2, t2⟩ := hf 2 _ rfl
      obtain ⟨w3, y3, e3, t3⟩ := hf 3 _ rfl
      obtain ⟨w4, y4, e4, t4⟩ := hf 4 _ rfl
      obtain rfl : v0 = w0 := by simpa using e0
      obtain rfl : v1 = w1 := by simpa using e1
      obtain rfl : v2 = w2 := by simpa using e2
      obtain rfl : v3 = w3 := by simpa using e3
      obtain rfl : v4 = w4 := by simpa using e4
      replace t0 : DataW.trod enc Tryz.prog W 0 spare true n 3 [v0] = some y0 := t0
      replace t1 : DataW.trod enc Tryz.prog W 0 spare true n 3 [v1] = some y1 := t1
      replace t2 : DataW.trod enc Tryz.prog W 0 spare true n 3 [v2] = some y2 := t2
      replace t3 : DataW.trod enc Tryz.prog W 0 spare true n 4 [v3] = some y3 := t3
      replace t4 : DataW.trod enc Tryz.prog W 0 spare true n 45 [v4] = some y4 := t4
      obtain ⟨z0, q0, _, _⟩ := DataW.trod_int Tryz.underlying3 t0
      obtain ⟨z1, q1, _, b1⟩ := DataW.trod_int Tryz.underlying3 t1
      obtain ⟨z2, q2, _, _⟩ := DataW.trod_int Tryz.underlying3 t2
      obtain ⟨z3, q3, _⟩ := DataW.trod_bool Tryz.underlying4 t3
      obtain ⟨A', n', c', xs, rfl, hs, hc1, hc2⟩ := opened_cell t4
      obtain rfl : v0 = .int .i64 z0 := by simpa using q0
      obtain rfl : v1 = .int .i64 z1 := by simpa using q1
      obtain rfl : v2 = .int .i64 z2 := by simpa using q2
      obtain rfl : v3 = .bool z3 := by simpa using q3
      replace hc : ∀ (j : Nat) (v : Value), [Value.int .i64 z0, .int .i64 z1, .int .i64 z2, .bool z3, .slice A' n' c'][j]? = some v → W.cell? (a.add (i * 5 + j)) = some v := hc
      obtain ⟨b, off, spot⟩ := a
      have c0 := hc 0 _ rfl
      have hspot : spot = none := by
        obtain ⟨a2, ha2, vs2, _, hl2, hc2, _⟩ := hel 0 (by omega)
        injection ha2 with ha2
        subst ha2
        replace hl2 : vs2.length = 5 := hl2
        have := hc2 0 _ (List.getElem?_eq_getElem (by omega))
        have := World.cell?_spot this
        simpa [Addr.add] using this
      subst hspot
      have hadd : ∀ q, (⟨b, off, none⟩ : Addr).add q = ⟨b, off + q, none⟩ := fun q => by unfold Addr.add; split <;> simp_all
      refine ⟨⟨z0, z1, z2, z3, A', n', c', xs⟩, ⟨b, off, rfl, ?_, fun j v hv => ?_⟩, bounds_i64 b1, hs, hc1, hc2⟩
      · have := World.block_lt_of_cell? W _ c0
        rwa [block_add] at this
      · rw [Nat.add_assoc, ← hadd]
        exact hc j v hv
  obtain ⟨l, h3, h4⟩ := list_of each
  exact ⟨l, h3, h4⟩
theorem cell_slice {H : Type} {enc : TypeId × Value → H} {W : World} {spare : Nat → Bool} {fuel : Nat} {t e : TypeId} {v : Value} {x : DataW H × List MemPlace} (ht : Tryz.prog.underlying t = some (.slice e)) (hf : DataW.trod enc Tryz.prog W 0 spare true fuel t [v] = some x) : ∃ A n c, v = .slice A n c := by
  obtain ⟨d, p⟩ := x
  rcases Go.Deep.open_slice ht hf with ⟨h, _⟩ | ⟨a, len, cap, _, _, _, _, h, _⟩
  all_goals
    simp only [List.cons.injEq, and_true] at h
    exact ⟨_, _, _, h⟩
/-- A hub's config, out of its cells. -/
theorem scfg_cells {H : Type} {enc : TypeId × Value → H} {W : World} {k0 : Nat} {v0 v1 v2 v3 v4 : Value} {y : DataW H × List MemPlace} (hf : DataW.trod enc Tryz.prog W 0 (fun _ => true) true k0 30 [v0, v1, v2, v3, v4] = some y) :
    ∃ (cc cr : Int) (A : Option Addr) (n cA : Nat) (B : Option Addr) (m cB : Nat) (can : Int), [v0, v1, v2, v3, v4] = cfC cc cr A n cA B m cB can ∧ ∃ ts l, TSrc W A n ts ∧ n ≤ cA ∧ cA ≤ 9223372036854775807 ∧ StAt W B m l ∧ m ≤ cB ∧ cB ≤ 9223372036854775807 := by
  obtain ⟨ys, k, _, _, _, hyl, hel⟩ := DataW.trod_struct Tryz.underlying30 hf
  have hy : ∀ i, i < 4 → ∃ y, ys[i]? = some y := fun i hi => ⟨_, List.getElem?_eq_getElem (by rw [hyl]; exact hi)⟩
  have h0 := hel 0 _ rfl
  have h1 := hel 1 _ rfl
  have h2 := hel 2 _ rfl
  have h3 := hel 3 _ rfl
  obtain ⟨y0, e0⟩ := hy 0 (by omega)
  obtain ⟨y1, e1⟩ := hy 1 (by omega)
  obtain ⟨y2, e2⟩ := hy 2 (by omega)
  obtain ⟨y3, e3⟩ := hy 3 (by omega)
  rw [e0] at h0
  rw [e1] at h1
  rw [e2] at h2
  rw [e3] at h3
  replace h0 : DataW.trod enc Tryz.prog W 0 (fun _ => true) true k 26 [v0, v1] = some y0 := h0
  replace h1 : DataW.trod enc Tryz.prog W 0 (fun _ => true) true k 27 [v2] = some y1 := h1
  replace h2 : DataW.trod enc Tryz.prog W 0 (fun _ => true) true k 28 [v3] = some y2 := h2
  replace h3 : DataW.trod enc Tryz.prog W 0 (fun _ => true) true k 3 [v4] = some y3 := h3
  obtain ⟨yz, kz, _, _, _, hylz, helz⟩ := DataW.trod_struct Tryz.underlying26 h0
  have hyz : ∀ i, i < 2 → ∃ y, yz[i]? = some y := fun i hi => ⟨_, List.getElem?_eq_getElem (by rw [hylz]; exact hi)⟩
  have g0 := helz 0 _ rfl
  have g1 := helz 1 _ rfl
  obtain ⟨z0, f0⟩ := hyz 0 (by omega)
  obtain ⟨z1, f1⟩ := hyz 1 (by omega)
  rw [f0] at g0
  rw [f1] at g1
  replace g0 : DataW.trod enc Tryz.prog W 0 (fun _ => true) true kz 3 [v0] = some z0 := g0
  replace g1 : DataW.trod enc Tryz.prog W 0 (fun _ => true) true kz 3 [v1] = some z1 := g1
  obtain ⟨x0, q0, _, _⟩ := DataW.trod_int Tryz.underlying3 g0
  obtain ⟨x1, q1, _, _⟩ := DataW.trod_int Tryz.underlying3 g1
  obtain ⟨x4, q4, _, _⟩ := DataW.trod_int Tryz.underlying3 h3
  obtain rfl : v0 = .int .i64 x0 := by simpa using q0
  obtain rfl : v1 = .int .i64 x1 := by simpa using q1
  obtain rfl : v4 = .int .i64 x4 := by simpa using q4
  obtain ⟨A, n, cA, rfl⟩ := cell_slice Tryz.underlying27 h1
  obtain ⟨B, m, cB, rfl⟩ := cell_slice Tryz.underlying28 h2
  obtain ⟨ts, ht1, ht2, ht3, _⟩ := opened_texts h1
  obtain ⟨hs1, hs2, sl, hs3⟩ := open_sets h2
  exact ⟨x0, x1, A, n, cA, B, m, cB, x4, rfl, ts, sl, ht1, ht2, ht3, hs3, hs1, hs2⟩
/-- An end's config that came in. -/
theorem open_ecfg {H : Type} {enc : TypeId × Value → H} {W : World} {r : Reach} {b0 : Nat} {v : Value} {d : DataW H} {p : List MemPlace}
    (hv : Value.okWide Tryz.prog W r b0 32 v) (h : DataW.Trod enc Tryz.prog W 0 (fun _ => true) true 32 v d p) :
    ∃ (A1 : Option Addr) (n1 c1 : Nat) (A2 : Option Addr) (n2 c2 : Nat) (cc cr : Int) (A : Option Addr) (n cA : Nat) (B : Option Addr) (m cB : Nat) (can : Int), v = .agg (ecC A1 n1 c1 A2 n2 c2 cc cr A n cA B m cB can).toArray ∧ (∃ us hims, Ints W A1 n1 us ∧ Ints W A2 n2 hims) ∧ ∃ ts l, TSrc W A n ts ∧ n ≤ cA ∧ cA ≤ 9223372036854775807 ∧ StAt W B m l ∧ m ≤ cB ∧ cB ≤ 9223372036854775807 := by
  unfold Value.okWide at hv
  rw [Tryz.underlying32] at hv
  obtain ⟨cs, rfl, hsz, _⟩ := hv
  obtain ⟨fuel, hf⟩ := h
  obtain ⟨ys, k, _, _, _, hyl, hel⟩ := DataW.trod_struct Tryz.underlying32 hf
  obtain ⟨l⟩ := cs
  have hl7 : l.length = 7 := by
    have : Tryz.prog.cellsOf 32 = 7 := by kernel_rfl
    rw [this] at hsz
    simpa using hsz
  match l, hl7, hel with
  | [v0, v1, v2, v3, v4, v5, v6], _, hel =>
    have hy : ∀ i, i < 2 → ∃ y, ys[i]? = some y := fun i hi => ⟨_, List.getElem?_eq_getElem (by rw [hyl]; exact hi)⟩
    have h0 := hel 0 _ rfl
    have h1 := hel 1 _ rfl
    obtain ⟨y0, e0⟩ := hy 0 (by omega)
    obtain ⟨y1, e1⟩ := hy 1 (by omega)
    rw [e0] at h0
    rw [e1] at h1
    replace h0 : DataW.trod enc Tryz.prog W 0 (fun _ => true) true k 24 [v0, v1] = some y0 := h0
    replace h1 : DataW.trod enc Tryz.prog W 0 (fun _ => true) true k 30 [v2, v3, v4, v5, v6] = some y1 := h1
    obtain ⟨yz, kz, _, _, _, hylz, helz⟩ := DataW.trod_struct Tryz.underlying24 h0
    have hyz : ∀ i, i < 2 → ∃ y, yz[i]? = some y := fun i hi => ⟨_, List.getElem?_eq_getElem (by rw [hylz]; exact hi)⟩
    have g0 := helz 0 _ rfl
    have g1 := helz 1 _ rfl
    obtain ⟨z0, f0⟩ := hyz 0 (by omega)
    obtain ⟨z1, f1⟩ := hyz 1 (by omega)
    rw [f0] at g0
    rw [f1] at g1
    replace g0 : DataW.trod enc Tryz.prog W 0 (fun _ => true) true kz 22 [v0] = some z0 := g0
    replace g1 : DataW.trod enc Tryz.prog W 0 (fun _ => true) true kz 22 [v1] = some z1 := g1
    obtain ⟨A1, n1, c1, us, rfl, hu, _, _⟩ := opened_ints g0
    obtain ⟨A2, n2, c2, hims, rfl, hh, _, _⟩ := opened_ints g1
    obtain ⟨cc, cr, A, n, cA, B, m, cB, can, e, hr⟩ := scfg_cells h1
    simp only [cfC, List.cons.injEq, and_true] at e
    obtain ⟨rfl, rfl, rfl, rfl, rfl⟩ := e
    exact ⟨A1, n1, c1, A2, n2, c2, cc, cr, A, n, cA, B, m, cB, can, rfl, ⟨us, hims, hu, hh⟩, hr⟩
end Go.Proofs.YtbnfhklpobephaaGreatDoor
/- Whether a config and acts are more than the law asks. -/
namespace Go.Proofs.YtbnfhklpobephaaGreatDoor
open Go Go.RowKit
set_option maxRecDepth 100000
set_option maxHeartbeats 4000000

def lenA : List Ac → Nat
  | [] => 0
  | x :: l => x.len + lenA l
theorem lenA_append (a b : List Ac) : lenA (a ++ b) = lenA a + lenA b := by
  induction a with
  | nil => simp [lenA]
  | cons x l ih => simp only [List.cons_append, lenA, ih]; omega
theorem lenA_take {l : List Ac} {k : Nat} {x : Ac} (h : l[k]? = some x) : lenA (l.take (k + 1)) = lenA (l.take k) + x.len := by
  rw [List.take_add_one, h, lenA_append]
  simp [lenA]
theorem size_act : (Tryz.prog.info? 47).map (·.size) = some 5 := by kernel_rfl
/-- What is not too long. -/
structure Few20 (n1 n2 : Nat) (l : List Ac) : Prop where
  us : n1 ≤ 40
  hims : n2 ≤ 40
  acts : l.length ≤ 24
  each : ∀ x ∈ l, x.len ≤ 120
  all : lenA l ≤ 240
theorem enLong {w : World} {A1 A2 A B A0 : Option Addr} {n1 c1 n2 c2 n cA m cB len cap : Nat} {cc cr can : Int} {ts : List (List UInt8)} {l : List Ac} (hts : TSrc w A n ts) (hn : n ≤ 9223372036854775807) (ha : AcAt w A0 len l) :
    Calls Tryz.prog 8 #[.agg (ecC A1 n1 c1 A2 n2 c2 cc cr A n cA B m cB can).toArray, .slice A0 len cap] w fun e w' => ∃ b, e = .returned (.bool b) ∧ (b = false → Few20 n1 n2 l) ∧ Only (fun _ => False) w w' := by
  have HLo : Hid (∀ W, Only (fun _ => False) w W → Calls Tryz.prog 34 #[cfV cc cr A n cA B m cB can] W fun e w' => e = .returned (.bool (snLong ts m)) ∧ Only (fun _ => False) W w') := fun W ho => snLong_any (hts.same ho) hn
  have HBk := Lib.hid (Blk.new w 32 (ecC A1 n1 c1 A2 n2 c2 cc cr A n cA B m cB can))
  have HA := Lib.hid ha
  have hlen := ha.1
  obtain ⟨sl, hsl⟩ : ∃ sl, sl = snLong ts m := ⟨_, rfl⟩
  rw [← hsl] at HLo
  clear hts hn ha hsl
  cases sl with
  | true =>
    go_enter Tryz.func8, Tryz.ntmps8
    go_wp2_with (first
      | ((with_reducible show wpList _ _ _ (⟨some 9, .load _ _, _, _, _, _⟩ :: _) _ _); refine wpList_load_mid rfl 30 _ rfl w.heap.size 2 rfl (cfC cc cr A n cA B m cB can) _ (rng_at HBk.out 2 rfl) Tryz.underlying30 rfl size_sc ?_)
      | (go_at_call 34; (with_reducible refine (HLo.out _ ((Only.refl _ _).alloc _)).mono ?_); rintro e w1 ⟨rfl, ho1⟩; have HO1 : Hid (Only (fun _ => False) w w1) := ((Only.refl _ _).alloc _).trans ho1 (fun _ h => h.elim); have c0 : w1.cell? ⟨w.heap.size, 0, none⟩ = some (.slice A1 n1 c1) := (HBk.out.only ho1 (fun h => h)).cell 0; have c1' : w1.cell? ⟨w.heap.size, 1, none⟩ = some (.slice A2 n2 c2) := (HBk.out.only ho1 (fun h => h)).cell 1; clear ho1))
    go_ret
    exact ⟨true, rfl, fun h => (by cases h), HO1.out⟩
  | false =>
    by_cases h1 : n1 ≤ 40
    · have d1 : decide ((40 : Int) < (n1 : Int)) = false := by simp; omega
      by_cases h2 : n2 ≤ 40
      · have d2 : decide ((40 : Int) < (n2 : Int)) = false := by simp; omega
        by_cases h3 : len ≤ 24
        · have d3 : decide ((24 : Int) < (len : Int)) = false := by simp; omega
          go_enter Tryz.func8, Tryz.ntmps8
          go_wp2_with (first
            | ((with_reducible show wpList _ _ _ (⟨some 9, .load _ _, _, _, _, _⟩ :: _) _ _); refine wpList_load_mid rfl 30 _ rfl w.heap.size 2 rfl (cfC cc cr A n cA B m cB can) _ (rng_at HBk.out 2 rfl) Tryz.underlying30 rfl size_sc ?_)
            | (go_at_call 34; (with_reducible refine (HLo.out _ ((Only.refl _ _).alloc _)).mono ?_); rintro e w1 ⟨rfl, ho1⟩; have HO1 : Hid (Only (fun _ => False) w w1) := ((Only.refl _ _).alloc _).trans ho1 (fun _ h => h.elim); have c0 : w1.cell? ⟨w.heap.size, 0, none⟩ = some (.slice A1 n1 c1) := (HBk.out.only ho1 (fun h => h)).cell 0; have c1' : w1.cell? ⟨w.heap.size, 1, none⟩ = some (.slice A2 n2 c2) := (HBk.out.only ho1 (fun h => h)).cell 1; clear ho1))
          go_loopw [5, 32] (fun a i W => ∃ k s : Nat, k ≤ len ∧ a = .int .i64 (s : Int) ∧ i = .int .i64 (k : Int) ∧ Hid (s = lenA (l.take k) ∧ s ≤ 240 ∧ (∀ x ∈ l.take k, x.len ≤ 120) ∧ Only (fun _ => False) w W)) (fun _ i _ => len - (intOf i).toNat)
          case atStart => exact ⟨0, 0, Nat.zero_le _, rfl, rfl, rfl, Nat.zero_le _, fun x hx => by simp at hx, HO1.out⟩
          case round =>
            clear c0 c1'
            obtain ⟨k, s, hk, rfl, rfl, hrel⟩ := hrel
            have HO : Hid (Only (fun _ => False) w wr) := hrel.out.2.2.2
            by_cases hlt : k < len
            · have hlt2 : (k : Int) < (len : Int) := by omega
              obtain ⟨x, hx⟩ : ∃ x, l[k]? = some x := ⟨_, List.getElem?_eq_getElem (by omega)⟩
              obtain ⟨⟨b, off, rfl, _, hr⟩, hok⟩ := (HA.out.same HO.out).2 k x hx
              have HTk := Lib.hid (lenA_take hx)
              have hmem : ∀ y ∈ l.take (k + 1), x.len ≤ 120 → y.len ≤ 120 := fun y hy h => by
                rw [List.take_add_one, hx] at hy
                rcases List.mem_append.1 hy with hy | hy
                · exact hrel.out.2.2.1 y hy
                · simp only [Option.toList_some, List.mem_cons, List.not_mem_nil, or_false] at hy
                  subst hy
                  exact h
              have hcp := hok.cap
              obtain ⟨xk, xn, xo, xm, xa, xl, xc, xx⟩ := x
              simp only at HTk hmem hcp
              have HRg : Hid (wr.rangeAt b (off + k * 5) [.int .i64 xk, .int .i64 xn, .int .i64 xo, .bool xm, .slice xa xl xc]) := hr
              have hs1 := hrel.out.1
              have hs2 := hrel.out.2.1
              have HM := Lib.hid hmem
              have HS1 := Lib.hid hs1
              clear hx hr hok hrel hmem hs1
              by_cases hb : xl ≤ 120
              · have e1 : decide ((120 : Int) < (xl : Int)) = false := by simp; omega
                by_cases hs : s + xl ≤ 240
                · have e2 : decide ((240 : Int) < (s : Int) + (xl : Int)) = false := by simp; omega
                  go_wp2_with (first
                    | ((with_reducible show wpList _ _ _ (⟨some 35, .load _ _, _, _, _, _⟩ :: _) _ _); refine wpList_load_mid rfl 47 _ rfl b (off + k * 5) rfl [.int .i64 xk, .int .i64 xn, .int .i64 xo, .bool xm, .slice xa xl xc] _ HRg.out Tryz.underlying47 rfl size_act ?_))
                  go_roundw
                  case rel => exact ⟨k + 1, s + xl, by omega, by go_num, by go_num, by rw [HTk.out, ← HS1.out], by omega, fun y hy => HM.out y hy hb, HO.out.alloc _⟩
                  case measure => simp [intOf]; omega
                · have e2 : decide ((240 : Int) < (s : Int) + (xl : Int)) = true := by simp; omega
                  go_wp2_with (first
                    | ((with_reducible show wpList _ _ _ (⟨some 35, .load _ _, _, _, _, _⟩ :: _) _ _); refine wpList_load_mid rfl 47 _ rfl b (off + k * 5) rfl [.int .i64 xk, .int .i64 xn, .int .i64 xo, .bool xm, .slice xa xl xc] _ HRg.out Tryz.underlying47 rfl size_act ?_))
                  go_ret
                  exact ⟨true, rfl, fun h => (by cases h), HO.out.alloc _⟩
              · have e1 : decide ((120 : Int) < (xl : Int)) = true := by simp; omega
                go_wp2_with (first
                  | ((with_reducible show wpList _ _ _ (⟨some 35, .load _ _, _, _, _, _⟩ :: _) _ _); refine wpList_load_mid rfl 47 _ rfl b (off + k * 5) rfl [.int .i64 xk, .int .i64 xn, .int .i64 xo, .bool xm, .slice xa xl xc] _ HRg.out Tryz.underlying47 rfl size_act ?_))
                go_ret
                exact ⟨true, rfl, fun h => (by cases h), HO.out.alloc _⟩
            · obtain rfl : k = len := by omega
              obtain ⟨q1, q2, q3, _⟩ := hrel.out
              rw [List.take_of_length_le (by omega)] at q1 q3
              clear hrel
              go_wp2
              go_ret
              exact ⟨false, rfl, fun _ => ⟨h1, h2, by omega, q3, by omega⟩, HO.out⟩
        · have d3 : decide ((24 : Int) < (len : Int)) = true := by simp; omega
          go_enter Tryz.func8, Tryz.ntmps8
          go_wp2_with (first
            | ((with_reducible show wpList _ _ _ (⟨some 9, .load _ _, _, _, _, _⟩ :: _) _ _); refine wpList_load_mid rfl 30 _ rfl w.heap.size 2 rfl (cfC cc cr A n cA B m cB can) _ (rng_at HBk.out 2 rfl) Tryz.underlying30 rfl size_sc ?_)
            | (go_at_call 34; (with_reducible refine (HLo.out _ ((Only.refl _ _).alloc _)).mono ?_); rintro e w1 ⟨rfl, ho1⟩; have HO1 : Hid (Only (fun _ => False) w w1) := ((Only.refl _ _).alloc _).trans ho1 (fun _ h => h.elim); have c0 : w1.cell? ⟨w.heap.size, 0, none⟩ = some (.slice A1 n1 c1) := (HBk.out.only ho1 (fun h => h)).cell 0; have c1' : w1.cell? ⟨w.heap.size, 1, none⟩ = some (.slice A2 n2 c2) := (HBk.out.only ho1 (fun h => h)).cell 1; clear ho1))
          go_ret
          exact ⟨true, rfl, fun h => (by cases h), HO1.out⟩
      · have d2 : decide ((40 : Int) < (n2 : Int)) = true := by simp; omega
        go_enter Tryz.func8, Tryz.ntmps8
        go_wp2_with (first
          | ((with_reducible show wpList _ _ _ (⟨some 9, .load _ _, _, _, _, _⟩ :: _) _ _); refine wpList_load_mid rfl 30 _ rfl w.heap.size 2 rfl (cfC cc cr A n cA B m cB can) _ (rng_at HBk.out 2 rfl) Tryz.underlying30 rfl size_sc ?_)
          | (go_at_call 34; (with_reducible refine (HLo.out _ ((Only.refl _ _).alloc _)).mono ?_); rintro e w1 ⟨rfl, ho1⟩; have HO1 : Hid (Only (fun _ => False) w w1) := ((Only.refl _ _).alloc _).trans ho1 (fun _ h => h.elim); have c0 : w1.cell? ⟨w.heap.size, 0, none⟩ = some (.slice A1 n1 c1) := (HBk.out.only ho1 (fun h => h)).cell 0; have c1' : w1.cell? ⟨w.heap.size, 1, none⟩ = some (.slice A2 n2 c2) := (HBk.out.only ho1 (fun h => h)).cell 1; clear ho1))
        go_ret
        exact ⟨true, rfl, fun h => (by cases h), HO1.out⟩
    · have d1 : decide ((40 : Int) < (n1 : Int)) = true := by simp; omega
      go_enter Tryz.func8, Tryz.ntmps8
      go_wp2_with (first
        | ((with_reducible show wpList _ _ _ (⟨some 9, .load _ _, _, _, _, _⟩ :: _) _ _); refine wpList_load_mid rfl 30 _ rfl w.heap.size 2 rfl (cfC cc cr A n cA B m cB can) _ (rng_at HBk.out 2 rfl) Tryz.underlying30 rfl size_sc ?_)
        | (go_at_call 34; (with_reducible refine (HLo.out _ ((Only.refl _ _).alloc _)).mono ?_); rintro e w1 ⟨rfl, ho1⟩; have HO1 : Hid (Only (fun _ => False) w w1) := ((Only.refl _ _).alloc _).trans ho1 (fun _ h => h.elim); have c0 : w1.cell? ⟨w.heap.size, 0, none⟩ = some (.slice A1 n1 c1) := (HBk.out.only ho1 (fun h => h)).cell 0; have c1' : w1.cell? ⟨w.heap.size, 1, none⟩ = some (.slice A2 n2 c2) := (HBk.out.only ho1 (fun h => h)).cell 1; clear ho1))
      go_ret
      exact ⟨true, rfl, fun h => (by cases h), HO1.out⟩
end Go.Proofs.YtbnfhklpobephaaGreatDoor
/- Acts on an end, as plain functions. -/
namespace Go.Proofs.YtbnfhklpobephaaGreatDoor
open Go Go.RowKit
set_option maxRecDepth 100000

def feedsE (ag : Nat → Nat → Bool) : Ee → List UInt8 → Ee
  | E, [] => E
  | E, c :: l => feedsE ag (E.feed ag c false).1 l
theorem feedsE_snoc (ag : Nat → Nat → Bool) (c : UInt8) : ∀ (l : List UInt8) (E : Ee), feedsE ag E (l ++ [c]) = ((feedsE ag E l).feed ag c false).1
  | [], _ => rfl
  | _ :: l, _ => feedsE_snoc ag c l _
theorem feedsE_sz (ag : Nat → Nat → Bool) : ∀ (l : List UInt8) {E : Ee} {k : Nat}, E.Sz k → (feedsE ag E l).Sz (k + l.length)
  | [], _, _, h => h
  | c :: l, E, k, h => by
    have := feedsE_sz ag l (Ee.feed_sz ag h c false)
    rw [show k + (c :: l).length = k + 1 + l.length from by simp only [List.length_cons]; omega]
    exact this
theorem feedsE_vk (ag : Nat → Nat → Bool) : ∀ (l : List UInt8) {E : Ee}, VOk E.k.m → VOk (feedsE ag E l).k.m
  | [], _, h => h
  | c :: l, _, h => feedsE_vk ag l (feed_vk h c false)
/-- One act, as the law does it: no marks. -/
def actE (ag : Nat → Nat → Bool) (a : Ac) (E : Ee) : Ee :=
  if a.k = 0 then feedsE ag E a.xs
  else if a.k = 1 ∨ a.k = 2 then (E.ask a.n a.o (decide (a.k = 1))).2.1
  else if a.k = 3 then (E.set a.n).2
  else if a.k = 4 then E.say a.xs
  else if a.k = 5 then (E.cmd a.n).2
  else E
theorem Ee.askedT_k (E : Ee) (s o : Nat) (on : Bool) : (E.askedT s o on).k = E.k := by
  unfold Ee.askedT
  cases E.T.ask s o on with
  | none => rfl
  | some r => exact Ee.sendV_k (e := { E with T := r.1, asked := E.asked + 1 }) _ _
theorem Ee.ask_k (E : Ee) (s o : Int) (on : Bool) : (E.ask s o on).2.1.k = E.k := by
  unfold Ee.ask
  split
  · split
    · rfl
    · exact Ee.sendV_k (e := { E with asked := E.asked + 1 }) _ _
  · split
    · rfl
    · split
      · show (Ee.turn _ _ _).k = _
        rw [Ee.turn_k, Ee.askedT_k]
      · exact Ee.askedT_k _ _ _ _
theorem Ee.set_k (E : Ee) (n : Int) : (E.set n).2.k = E.k := by
  unfold Ee.set
  split
  · exact Ee.sendS_k (e := { E with H := (E.H.set E.T n).2.2 }) _ _
  · rfl
theorem Ee.cmd_k (E : Ee) (c : Int) : (E.cmd c).2.k = E.k := by
  show (if tkNum (tk2 c) = 0 then E.send 2 (tkBytes (tk2 c)) else E).k = _
  split
  · exact Ee.send_k _ _
  · rfl
theorem actE_vk (ag : Nat → Nat → Bool) (a : Ac) {E : Ee} (h : VOk E.k.m) : VOk (actE ag a E).k.m := by
  unfold actE
  split
  · exact feedsE_vk ag _ h
  split
  · rw [Ee.ask_k]; exact h
  split
  · rw [Ee.set_k]; exact h
  split
  · unfold Ee.say; rw [Ee.send_k]; exact h
  split
  · rw [Ee.cmd_k]; exact h
  · exact h
theorem actE_sz (ag : Nat → Nat → Bool) (a : Ac) {E : Ee} {k : Nat} (h : E.Sz k) : (actE ag a E).Sz (k + 1 + a.xs.length) := by
  unfold actE
  split
  · exact (feedsE_sz ag _ h).more (by omega)
  split
  · exact (Ee.ask_sz h _ _ _).more (by omega)
  split
  · exact (Ee.set_sz h _).more (by omega)
  split
  · exact (Ee.say_sz h _).more (by omega)
  split
  · exact (Ee.cmd_sz h _).more (by omega)
  · exact h.more (by omega)
end Go.Proofs.YtbnfhklpobephaaGreatDoor
/- Two ends side by side, and a row of pieces that were taken of the first. -/
namespace Go.Proofs.YtbnfhklpobephaaGreatDoor
open Go Go.RowKit
set_option maxRecDepth 100000
set_option maxHeartbeats 4000000

/-- The row: the law's own, in a block that is neither end's; its bytes lie in blocks of K, which no end writes to. -/
structure AllAt (w W : World) (M R M' R' K : Nat → Prop) (A : Option Addr) (n c : Nat) (xs : List Pc) (out : List (Int × List UInt8)) : Prop where
  row : W.ownsRow w.heap.size 81 2 (.slice A n c) n (xs.flatMap Pc.cs)
  len : n = xs.length
  out : xs.map (fun x => (x.k, x.b)) = out
  far : ∀ g, (Value.slice A n c).ownBlock = some g → ((¬ M g ∧ ¬ M' g) ∧ ¬ R g ∧ ¬ R' g) ∧ ¬ K g
  ok : ∀ x ∈ xs, x.Ok W K
  kd : ∀ i, K i → i < W.heap.size ∧ ¬ M i ∧ ¬ M' i
def EnAll (w W : World) (es : List Addr) (p q : Nat) (ag : Nat → Nat → Bool) (E F : Ee) (A : Option Addr) (n c : Nat) (out : List (Int × List UInt8)) : Prop := ∃ M R M' R' K xs, TwoAt w W es p q ag E F M R M' R' ∧ AllAt w W M R M' R' K A n c xs out
section
variable {w W W' : World} {es : List Addr} {p q : Nat} {ag : Nat → Nat → Bool} {E F E' F' : Ee} {M R M' R' K : Nat → Prop} {A : Option Addr} {n c : Nat} {xs : List Pc} {out : List (Int × List UInt8)}
theorem EnAll.same (h : EnAll w W es p q ag E F A n c out) (ho : Only (fun _ => False) W W') : EnAll w W' es p q ag E F A n c out := by
  obtain ⟨M, R, M', R', K, xs, h, a⟩ := h
  exact ⟨M, R, M', R', K, xs, ⟨h.e.same ho, h.f.same ho, h.old.trans ho (fun _ h => h.elim), h.me, h.mf, h.mm, h.er, h.fr, h.errs.only ho, h.tbw.only ho⟩, own_same a.row ho, a.len, a.out, a.far, fun x hx => (a.ok x hx).far ho (fun _ _ h => h), fun i hi => ⟨Nat.lt_of_lt_of_le (a.kd i hi).1 ho.size, (a.kd i hi).2⟩⟩
theorem EnAll.old (h : EnAll w W es p q ag E F A n c out) : Only (fun _ => False) w W := by
  obtain ⟨_, _, _, _, _, _, h, _⟩ := h
  exact h.old
/-- One of them goes on. -/
theorem all_goesE (h : TwoAt w W es p q ag E F M R M' R') (a : AllAt w W M R M' R' K A n c xs out) (g : EnGoes W.heap.size W p 0 132 [] [] M R ag E' W') : EnAll w W' es p q ag E' F A n c out := by
  have he := g.errs h.e h.errs
  have ht := g.tbw h.e h.tbw
  obtain ⟨M1, R1, k, g⟩ := g
  have hz := h.old.size
  have hlm := h.f.mlt
  have hlr := h.f.rlt
  refine ⟨M1, R1, M', R', K, xs, ⟨k, h.f.far g.only (fun i a b => h.mm i b a) (fun i a b => h.er i b a), h.old.trans g.only (fun i hi => .inr (h.me i hi)), fun i hi => (g.gm i hi).elim (h.me i) (fun h => Nat.le_trans hz h), h.mf, fun i a b => ?_, fun i a b => ?_, fun i a b => ?_, he, ht⟩, ⟨own_only a.row g.only (fun j hj => (a.far j hj).1.1.1), a.len, a.out, fun j hj => ?_, fun x hx => (a.ok x hx).far g.only (fun i hi => (a.kd i hi).2.1), fun i hi => ⟨Nat.lt_of_lt_of_le (a.kd i hi).1 g.only.size, fun hm => ?_, (a.kd i hi).2.2⟩⟩⟩
  · rcases g.gm i a with h1 | h1
    · exact h.mm i h1 b
    · have := hlm i b; omega
  · rcases g.gm i a with h1 | h1
    · exact h.er i h1 b
    · have := hlr i b; omega
  · rcases g.gr i b with h1 | h1
    · exact h.fr i a h1
    · have := hlm i a; omega
  · have hj2 := (own_lt a.row j hj).2
    obtain ⟨⟨⟨f1, f2⟩, f3, f4⟩, f5⟩ := a.far j hj
    exact ⟨⟨⟨fun hm => (g.gm j hm).elim f1 (fun h => by omega), f2⟩, fun hr => (g.gr j hr).elim f3 (fun h => by omega), f4⟩, f5⟩
  · have hi2 := (a.kd i hi).1
    exact (g.gm i hm).elim (a.kd i hi).2.1 (fun h => by omega)
theorem AllAt.swap (a : AllAt w W M R M' R' K A n c xs out) : AllAt w W M' R' M R K A n c xs out :=
  ⟨a.row, a.len, a.out, fun g hg => by
    obtain ⟨⟨⟨f1, f2⟩, f3, f4⟩, f5⟩ := a.far g hg
    exact ⟨⟨⟨f2, f1⟩, f4, f3⟩, f5⟩, a.ok, fun i hi => ⟨(a.kd i hi).1, (a.kd i hi).2.2, (a.kd i hi).2.1⟩⟩
theorem EnAll.swap (h : EnAll w W es p q ag E F A n c out) : EnAll w W es q p ag F E A n c out := by
  obtain ⟨M, R, M', R', K, xs, h, a⟩ := h
  exact ⟨M', R', M, R, K, xs, h.swap, a.swap⟩
/-- A call on the first. -/
theorem EnAll.call {f : FuncId} {args : Array Value} {P : Ending → Prop} (h : EnAll w W es p q ag E F A n c out)
    (hc : ∀ M R, IsEe W p 0 132 [] [] M R ag E → ErrsAt W es → TbW W → Calls Tryz.prog f args W fun e w' => P e ∧ Hid (EnGoes W.heap.size W p 0 132 [] [] M R ag E' w')) :
    Calls Tryz.prog f args W fun e w' => P e ∧ Hid (EnAll w w' es p q ag E' F A n c out) := by
  obtain ⟨M, R, M', R', K, xs, h, a⟩ := h
  refine (hc M R h.e h.errs h.tbw).mono ?_
  rintro e w' ⟨h1, h2⟩
  exact ⟨h1, all_goesE h a h2.out⟩
theorem EnAll.feed (h : EnAll w W es p q ag E F A n c out) (hv : VOk E.k.m) (hl : E.Lo) (b : UInt8) :
    Calls Tryz.prog 23 #[.pointer (some ⟨p, 0, none⟩), .int .u8 (b.toNat : Int), .bool false] W fun e w' => (∃ v1 v2, e = .returned (.tuple #[v1, v2])) ∧ Hid (EnAll w w' es p q ag (E.feed ag b false).1 F A n c out) :=
  h.call (fun _ _ k he ht => (enFeed k he ht hv hl b false).mono (fun _ _ ⟨v1, v2, h1, h2⟩ => ⟨⟨v1, v2, h1⟩, h2.out.en⟩))
theorem EnAll.ask (h : EnAll w W es p q ag E F A n c out) (hl : E.Lo) (s o : Int) (on : Bool) :
    Calls Tryz.prog 24 #[.pointer (some ⟨p, 0, none⟩), .int .i64 s, .int .i64 o, .bool on] W fun e w' => (∃ v1 v2, e = .returned (.tuple #[v1, v2])) ∧ Hid (EnAll w w' es p q ag (E.ask s o on).2.1 F A n c out) :=
  h.call (fun _ _ k he ht => (enAsk k he ht hl s o on).mono (fun _ _ ⟨v1, v2, h1, h2⟩ => ⟨⟨v1, v2, h1⟩, h2.out.en⟩))
theorem EnAll.set (h : EnAll w W es p q ag E F A n c out) (hl : E.Lo) {z : Int} (h64 : In64 z) :
    Calls Tryz.prog 25 #[.pointer (some ⟨p, 0, none⟩), .int .i64 z] W fun e w' => (∃ v, e = .returned v) ∧ Hid (EnAll w w' es p q ag (E.set z).2 F A n c out) :=
  h.call (fun _ _ k he _ => (enSet k he hl h64).mono (fun _ _ ⟨v, h1, h2⟩ => ⟨⟨v, h1⟩, h2.out.en⟩))
theorem EnAll.say (h : EnAll w W es p q ag E F A n c out) (hl : E.Lo) {B : Option Addr} {m d : Nat} {bs : List UInt8} (hs : Src W B m bs) (hn : m ≤ 1000) (hnc : m ≤ d) :
    Calls Tryz.prog 26 #[.pointer (some ⟨p, 0, none⟩), .slice B m d] W fun e w' => e = .returned (.tuple #[]) ∧ Hid (EnAll w w' es p q ag (E.say bs) F A n c out) :=
  h.call (fun _ _ k _ _ => enSay k hl hs hn hnc)
theorem EnAll.cmd (h : EnAll w W es p q ag E F A n c out) (hl : E.Lo) (z : Int) :
    Calls Tryz.prog 27 #[.pointer (some ⟨p, 0, none⟩), .int .i64 z] W fun e w' => (∃ v, e = .returned v) ∧ Hid (EnAll w w' es p q ag (E.cmd z).2 F A n c out) :=
  h.call (fun _ _ k he _ => (enCmd k he (by have := hl.out; omega) z).mono (fun _ _ ⟨v, h1, h2⟩ => ⟨⟨v, h1⟩, h2.out.2.2⟩))
/-- What is to be sent is taken of the first. -/
theorem EnAll.take (h : EnAll w W es p q ag E F A n c out) :
    Calls Tryz.prog 28 #[.pointer (some ⟨p, 0, none⟩)] W fun e w' => ∃ A2 n2 c2, e = .returned (.slice A2 n2 c2) ∧ n2 = E.out.length ∧ Hid (∃ M R M' R' K xs xs2, TwoAt w w' es p q ag E.take F M R M' R' ∧ AllAt w w' M R M' R' K A n c xs out ∧ PcsAt w' A2 n2 K xs2 E.out ∧ n2 ≤ c2 ∧ c2 ≤ 9223372036854775807) := by
  obtain ⟨M, R, M', R', K, xs, h, a⟩ := h
  refine (enTake h.e).mono ?_
  rintro e w' ⟨A2, n2, c2, rfl, hf⟩
  obtain ⟨k', ho, xs2, hx, hc1, hc2⟩ := hf.out
  have hp := h.e.mp
  have hz := ho.size
  have hdis : ∀ i, R i → ¬ M i := by
    obtain ⟨_, _, _, _, _, _, _, ke⟩ := h.e
    exact ke.dis
  have hp18 := h.e.p18
  refine ⟨A2, n2, c2, rfl, by rw [hx.len, ← hx.out, List.length_map], M, R, M', R', fun i => K i ∨ R i, xs, xs2, ⟨k', h.f.far ho (fun i a b => h.mm i (b ▸ hp) a) (fun i a b => h.er i (b ▸ hp) a), h.old.trans ho (fun i hi => .inr (hi ▸ h.me p hp)), h.me, h.mf, h.mm, h.er, h.fr, h.errs.far ho (fun i hi e => by omega), h.tbw.far ho (fun i hi e => by omega)⟩, ⟨own_only a.row ho (fun g hg e => (a.far g hg).1.1.1 (e ▸ hp)), a.len, a.out, fun g hg => ⟨(a.far g hg).1, fun hk => hk.elim (a.far g hg).2 (a.far g hg).1.2.1⟩, fun x hx => ((a.ok x hx).far ho (fun i hi e => (a.kd i hi).2.1 (e ▸ hp))).grow (fun _ h => .inl h), fun i hi => ?_⟩, ⟨hx.len, hx.out, hx.at_, fun x hx2 => (hx.ok x hx2).grow (fun _ h => .inr h)⟩, hc1, hc2⟩
  rcases hi with hi | hi
  · exact ⟨Nat.lt_of_lt_of_le (a.kd i hi).1 hz, (a.kd i hi).2⟩
  · exact ⟨Nat.lt_of_lt_of_le (h.e.rlt i hi) hz, hdis i hi, fun hm => h.fr i hm hi⟩
/-- .. and appended to the row. -/
theorem all_append (hw : 18 ≤ w.heap.size) {A2 A3 : Option Addr} {n2 n3 c3 : Nat} {xs2 : List Pc} {out2 : List (Int × List UInt8)} (h : TwoAt w W es p q ag E F M R M' R') (a : AllAt w W M R M' R' K A n c xs out) (x2 : PcsAt W A2 n2 K xs2 out2)
    (hn : n3 = n + n2) (hrow : W'.ownsRow w.heap.size 81 2 (.slice A3 n3 c3) n3 (xs.flatMap Pc.cs ++ xs2.flatMap Pc.cs)) (ho : Only (fun i => (Value.slice A n c).ownBlock = some i) W W')
    (hk : ∀ g, (Value.slice A3 n3 c3).ownBlock = some g → (Value.slice A n c).ownBlock = some g ∨ W.heap.size ≤ g) : EnAll w W' es p q ag E F A3 n3 c3 (out ++ out2) := by
  have fe := fun i (hm : M i) (hs : (Value.slice A n c).ownBlock = some i) => (a.far i hs).1.1.1 hm
  have ff := fun i (hm : M' i) (hs : (Value.slice A n c).ownBlock = some i) => (a.far i hs).1.1.2 hm
  have fr := fun i (hm : R i) (hs : (Value.slice A n c).ownBlock = some i) => (a.far i hs).1.2.1 hm
  have fr' := fun i (hm : R' i) (hs : (Value.slice A n c).ownBlock = some i) => (a.far i hs).1.2.2 hm
  have fk := fun i (hm : K i) (hs : (Value.slice A n c).ownBlock = some i) => (a.far i hs).2 hm
  have h18 : ∀ i, i < 18 → ¬ (Value.slice A n c).ownBlock = some i := fun i hi hs => by
    have h1 := (own_lt a.row i hs).1
    omega
  refine ⟨M, R, M', R', K, xs ++ xs2, ⟨h.e.far ho fe fr, h.f.far ho ff fr', h.old.trans ho (fun i hi => .inr (own_lt a.row i hi).1), h.me, h.mf, h.mm, h.er, h.fr, h.errs.far ho h18, h.tbw.far ho h18⟩, ⟨by rw [List.flatMap_append]; exact hrow, by rw [hn, a.len, x2.len, List.length_append], by rw [List.map_append, a.out, x2.out], fun g hg => ?_, fun x hx => ?_, fun i hi => ⟨Nat.lt_of_lt_of_le (a.kd i hi).1 ho.size, (a.kd i hi).2⟩⟩⟩
  · rcases hk g hg with h1 | h1
    · exact a.far g h1
    · exact ⟨⟨⟨fun hm => by have := h.e.mlt g hm; omega, fun hm => by have := h.f.mlt g hm; omega⟩, fun hm => by have := h.e.rlt g hm; omega, fun hm => by have := h.f.rlt g hm; omega⟩, fun hm => by have := (a.kd g hm).1; omega⟩
  · rcases List.mem_append.1 hx with hx | hx
    · exact (a.ok x hx).far ho fk
    · exact (x2.ok x hx).far ho fk
end
end Go.Proofs.YtbnfhklpobephaaGreatDoor
