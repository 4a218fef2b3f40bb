/- The acts that the statements of layer 1 are called with, as they lie in memory; is there more than is asked? -/
import Derived.Test.YtolengbnoenkiaaDoorStructs
import Derived.Test.YtolengbnoenkiaaDoorAlive
import Derived.Outline
namespace Go.Proofs.YtolengbnoenkiaaDoor
open Go Go.ChangeShapes Go.WideShapes Go.ChangeAt Go.RowKit

structure ActV where
  kind : Int
  n : Int
  ad : Option Addr
  len : Nat
  cap : Nat
  xs : List UInt8

def ActV.vals (x : ActV) : List Value := [.int .i64 x.kind, .int .i64 x.n, .slice x.ad x.len x.cap]
/-- The act's own bytes. -/
structure ActV.Ok (W : World) (x : ActV) : Prop where
  src : Src W x.ad x.len x.xs
  le : x.len ≤ x.cap
  top : x.cap ≤ 9223372036854775807
/-- A slice of acts, which holds l. -/
def Acts (W : World) (a : Option Addr) (len : Nat) (l : List ActV) : Prop :=
  l.length = len ∧ ∀ (i : Nat) (x : ActV), l[i]? = some x → ∃ b off, a = some ⟨b, off, none⟩ ∧ (∀ (j : Nat) (v : Value), x.vals[j]? = some v → W.cell? ⟨b, off + i * 3 + j, none⟩ = some v) ∧ x.Ok W

theorem open_acts {H : Type} {enc : TypeId × Value → H} {W : World} {spare : Nat → Bool} {fuel : Nat} {a0 : Option Addr} {len cap : Nat} {x : DataW H × List MemPlace}
    (h : DataW.trod enc Tryd.prog W 0 spare true fuel 22 [.slice a0 len cap] = some x) : len ≤ cap ∧ cap ≤ 9223372036854775807 ∧ ∃ l, Acts W a0 len l := by
  obtain ⟨h1, h2, h3⟩ := open_structs Tryd.underlying22 Tryd.underlying36 (by kernel_rfl) (by kernel_rfl) h
  refine ⟨h1, h2, ?_⟩
  have each : ∀ i, i < len → ∃ y : ActV, ∃ b off, a0 = some ⟨b, off, none⟩ ∧ (∀ (j : Nat) (v : Value), y.vals[j]? = some v → W.cell? ⟨b, off + i * 3 + j, none⟩ = some v) ∧ y.Ok W := by
    intro i hi
    obtain ⟨a, rfl, vs, n, hl, hc, hf⟩ := h3 i hi
    obtain ⟨v0, y0, e0, t0⟩ := hf 0 _ rfl
    obtain ⟨v1, y1, e1, t1⟩ := hf 1 _ rfl
    obtain ⟨v2, y2, e2, t2⟩ := hf 2 _ rfl
    obtain ⟨k, f0, _, _⟩ := DataW.trod_int Tryd.underlying3 t0
    obtain ⟨m, f1, _, _⟩ := DataW.trod_int Tryd.underlying3 t1
    simp only [List.cons.injEq, and_true] at f0 f1
    subst f0 f1
    have ts : ∃ A l c, v2 = .slice A l c := by
      rcases Go.Deep.open_slice Tryd.underlying34 t2 with ⟨h0, _⟩ | ⟨a, l, c, m, n, D, Pl, h0, _⟩
      · simp only [List.cons.injEq, and_true] at h0
        exact ⟨_, _, _, h0⟩
      · simp only [List.cons.injEq, and_true] at h0
        exact ⟨_, _, _, h0⟩
    obtain ⟨A, l, c, rfl⟩ := ts
    obtain ⟨xs, hs, hlc, hct⟩ := opened Tryd.underlying34 Tryd.underlying5 (by kernel_rfl) t2
    obtain ⟨b, off, spot⟩ := a
    obtain rfl : spot = none := by
      obtain ⟨a', ea, vs', _, _, hc', hf'⟩ := h3 0 (by omega)
      injection ea with ea
      subst ea
      obtain ⟨_, _, e0', _⟩ := hf' 0 _ rfl
      have := World.cell?_spot (hc' 0 _ e0')
      simpa [Addr.add] using this
    refine ⟨⟨k, m, A, l, c, xs⟩, b, off, rfl, fun j v hv => ?_, ⟨hs, hlc, hct⟩⟩
    have hadd : ∀ q, (⟨b, off, none⟩ : Addr).add q = ⟨b, off + q, none⟩ := fun q => by unfold Addr.add; split <;> simp_all
    rw [Nat.add_assoc, ← hadd]
    refine hc j v ?_
    match j, hv with
    | 0, hv => simp only [ActV.vals, List.getElem?_cons_zero, Option.some.injEq] at hv; rw [e0, hv]
    | 1, hv => simp only [ActV.vals, List.getElem?_cons_succ, List.getElem?_cons_zero, Option.some.injEq] at hv; rw [e1, hv]
    | 2, hv => simp only [ActV.vals, List.getElem?_cons_succ, List.getElem?_cons_zero, Option.some.injEq] at hv; rw [e2, hv]
  exact list_of each

section
variable {W W' : World} {a : Option Addr} {len : Nat} {l : List ActV}
theorem Acts.only (h : Acts W a len l) (ho : Only (fun _ => False) W W') : Acts W' a len l :=
  ⟨h.1, fun i x hx => by
    obtain ⟨b, off, e, h1, h2⟩ := h.2 i x hx
    exact ⟨b, off, e, fun j v hv => ho.cellv (h1 j v hv) (fun h => h), ⟨h2.src.only ho (fun _ _ _ h => h), h2.le, h2.top⟩⟩⟩
end

theorem add_texts {P : Program} {w : World} (x y z : List UInt8) (h : x ++ y = z) (hl : x.length + y.length ≤ 9223372036854775807) :
    (Op.stringOp .add (ByteArray.mk x.toArray) (ByteArray.mk y.toArray)).run P w = .ok (.string (ByteArray.mk z.toArray)) w := by
  subst h
  have := run_string_add_sum (P := P) w (ByteArray.mk x.toArray) (ByteArray.mk y.toArray) (by simpa [ByteArray.size] using hl)
  rw [this, ByteArray.mk_append_mk]

/-- Is there more than is asked? -/
def isLong (l : List ActV) : Bool := decide (60 < l.length) || l.any fun x => decide (100 < x.len)

theorem long_many (W : World) (a : Option Addr) (len cap : Nat) (hc : len ≤ 9223372036854775807) (h : 60 < len) :
    Calls Tryd.prog 7 #[.slice a len cap] W fun e w' => e = .returned (.bool true) ∧ Only (fun _ => False) W w' := by
  go_enter Tryd.func7, Tryd.ntmps7
  go_wp2
  go_ret
  exact ⟨rfl, Only.refl _ _⟩

theorem long_few (W : World) (a : Option Addr) (len cap : Nat) (l : List ActV) (ha : Acts W a len l) (h : len ≤ 60) :
    Calls Tryd.prog 7 #[.slice a len cap] W fun e w' => e = .returned (.bool (l.any fun x => decide (100 < x.len))) ∧ Only (fun _ => False) W w' := by
  have hdec : decide ((60 : Int) < (len : Int)) = false := by simp; omega
  go_enter Tryd.func7, Tryd.ntmps7
  go_wp2
  go_loopw [10] (fun i w => ∃ k : Nat, k ≤ len ∧ i = .int .i64 (k : Int) ∧ (l.take k).any (fun x => decide (100 < x.len)) = false ∧ Only (fun _ => False) W w) (fun i _ => len - (intOf i).toNat)
  case atStart => exact ⟨0, Nat.zero_le _, rfl, rfl, Only.refl _ _⟩
  case round =>
    obtain ⟨k, hk, rfl, hno, ho⟩ := hrel
    by_cases hlt : k < len
    · obtain ⟨x, hx⟩ : ∃ x, l[k]? = some x := ⟨_, List.getElem?_eq_getElem (by rw [ha.1]; exact hlt)⟩
      obtain ⟨b, off, rfl, hcell, hok⟩ := (ha.only ho).2 k x hx
      have c0 := hcell 0 _ rfl
      have c1 := hcell 1 _ rfl
      have c2 := hcell 2 _ rfl
      simp only [Nat.add_zero] at c0
      have HA := Lib.hid ha
      have HX := Lib.hid hx
      have HN := Lib.hid hno
      have hl1 := hok.le
      have hl2 := hok.top
      clear hcell ha hx hno
      by_cases hb : 100 < x.len
      · go_wp2
        go_ret
        refine ⟨?_, (ho.alloc _)⟩
        have : (l.any fun x => decide (100 < x.len)) = true := List.any_eq_true.2 ⟨x, List.mem_of_getElem? HX.out, by simpa using hb⟩
        rw [this]
        rfl
      · go_wp2
        go_roundw
        case rel => exact ⟨k + 1, by omega, by go_num, by rw [List.take_add_one, HX.out, List.any_append, HN.out]; simpa using hb, ho.alloc _⟩
        case measure => simp [intOf]; omega
    · go_wp2
      go_ret
      obtain rfl : k = l.length := by have := ha.1; omega
      rw [List.take_length] at hno
      rw [hno]
      exact ⟨rfl, ho⟩
end Go.Proofs.YtolengbnoenkiaaDoor
