/- The chapter's example, as the statements of layer 2 ask it first; the acts that they are called with. -/
import Derived.Test.YtdcjmfbdmejjjaaDoorAgree
import Derived.Test.YtdcjmfbdmejjjaaDoorStructs
namespace Go.Proofs.YtdcjmfbdmejjjaaDoor
open Go Go.ChangeShapes Go.WideShapes Go.ChangeAt Go.RowKit
set_option maxRecDepth 100000

def SetGood (w : World) (p : Nat) (now : Int) (to : List Tm) (e : Ending) (w' : World) : Prop :=
  ∃ A c ts', e = .returned .nilIface ∧ IsTm 0 w' p now A c ts' ∧ Good ts' ∧ ts'.Perm to ∧ Only (· = p) w w'
theorem set_good {B p c : Nat} {w : World} {now : Int} {A : Option Addr} {ts : List Tm} (h : IsTm B w p now A c ts) (hg : Good ts) (key at_ : Int) (h1 : now ≤ at_) (h2 : at_ ≤ 1099511627776) (hl : ts.length < 16) :
    Calls Tryd.prog 8 #[.pointer (some ⟨p, 0, none⟩), .int .i64 key, .int .i64 at_] w (SetGood w p now ((key, at_) :: ts.filter (fun x => !(x.1 == key)))) := by
  have hgr := hg.filter (fun x => !(x.1 == key))
  refine (tmSet_ok h key at_ h1 h2 (.inl hl) _ rfl (rest_lt h.most _ (.inl hl)) (hgr.mono_cmp (key, at_))).mono ?_
  rintro e' w' ⟨i, A', c', rfl, _, hlo, hhi, ht, ho⟩
  refine ⟨A', c', _, rfl, ht.mono (Nat.zero_le _), hgr.insert (key, at_) (fun x hx => ?_) i hlo hhi, perm_in _ _ _, ho⟩
  have := (List.mem_filter.1 hx).2
  simpa using this

set_option maxHeartbeats 1000000 in
theorem talive_any (w : World) : Calls Tryd.prog 5 #[] w fun e w' => e = .returned (.bool true) ∧ Only (fun _ => False) w w' := by
  go_enter Tryd.func5, Tryd.ntmps5
  go_wp2_with fail
  refine (tmNew w).mono ?_
  rintro e w1 ⟨rfl, h1, ho1⟩
  have H1 := Lib.hid h1
  have HO1 := Lib.hid ho1
  clear h1 ho1
  generalize hp : w.heap.size = p at *
  have HP := Lib.hid hp
  clear hp
  go_wp2_with fail
  refine (set_good H1.out Good.nil 1 5 (by omega) (by omega) (by simp)).mono ?_
  rintro e w2 ⟨A2, c2, t2, rfl, h2, hg2, hp2, ho2⟩
  obtain rfl : t2 = [(1, 5)] := sorted_eq hg2.sorted (by simp) hp2
  have H2 := Lib.hid h2
  have HG2 := Lib.hid hg2
  have HO2 := Lib.hid (HO1.out.trans ho2 (fun i hi => .inr (by have := HP.out; omega)))
  clear h2 hg2 ho2 hp2 H1 HO1
  go_wp2_with fail
  refine (set_good H2.out HG2.out 2 3 (by omega) (by omega) (by simp)).mono ?_
  rintro e w3 ⟨A3, c3, t3, rfl, h3, hg3, hp3, ho3⟩
  obtain rfl : t3 = [(2, 3), (1, 5)] := sorted_eq hg3.sorted (by simp [Lt]) hp3
  have H3 := Lib.hid h3
  have HO3 := Lib.hid (HO2.out.trans ho3 (fun i hi => .inr (by have := HP.out; omega)))
  clear h3 hg3 ho3 hp3 H2 HG2 HO2
  go_wp2_with fail
  refine (tmTick H3.out (by omega) (by omega) 9 (by omega) (by omega)).mono ?_
  rintro e w4 ⟨K4, kc4, A4, c4, rfl, hk4, h4, ho4⟩
  have hk4 : w4.ownsRow w3.heap.size 3 1 (.slice K4 2 kc4) 2 (keysOf [(2, 3), (1, 5)]) := hk4
  have h4 : IsTm w3.heap.size w4 p (0 + 9) A4 c4 [] := h4
  have HK4 := Lib.hid hk4
  have H4 := Lib.hid h4
  have HO4 := Lib.hid (HO3.out.trans ho4 (fun i hi => .inr (by have := HP.out; omega)))
  clear hk4 h4 ho4 H3 HO3
  go_wp2_with fail
  have hn : (w4.alloc (.cells #[.int .i64 2, .int .i64 1] 3)).ownsRow 0 3 1 (.slice (some ⟨w4.heap.size, 0, none⟩) 2 2) 2 (keysOf [(2, 3), (1, 5)]) :=
    own_of_blk (cur := [.int .i64 2, .int .i64 1]) (Blk.new w4 3 [.int .i64 2, .int .i64 1]) rfl rfl (by omega) (by omega) (Nat.zero_le _)
  refine (same_ints (HK4.out.alloc _) hn).mono ?_
  rintro e w5 ⟨rfl, rfl⟩
  have HA := Lib.hid ((Only.refl (fun _ => False) w4).alloc (.cells #[.int .i64 2, .int .i64 1] 3))
  clear hn
  go_wp2_with fail
  refine (tmLen (H4.out.same HA.out)).mono ?_
  rintro e w5 ⟨rfl, rfl⟩
  go_wp2_with fail
  refine (tmNow (H4.out.same HA.out)).mono ?_
  rintro e w5 ⟨rfl, rfl⟩
  go_wp2
  go_ret
  exact ⟨rfl, HO4.out.trans HA.out (fun i hi => hi.elim)⟩

/-! The acts. -/
abbrev TAct := Int × Int × Int
def tvals (x : TAct) : List Value := [.int .i64 x.1, .int .i64 x.2.1, .int .i64 x.2.2]
/-- A slice of acts, which holds l. -/
def TActs (W : World) (a : Option Addr) (len : Nat) (l : List TAct) : Prop :=
  l.length = len ∧ ∀ (i : Nat) (x : TAct), l[i]? = some x → ∃ b off, a = some ⟨b, off, none⟩ ∧ b < W.heap.size ∧ (∀ (j : Nat) (v : Value), (tvals x)[j]? = some v → W.cell? ⟨b, off + i * 3 + j, none⟩ = some v) ∧ x.2.2 ≤ 9223372036854775807

theorem open_tacts {H : Type} {enc : TypeId × Value → H} {W : World} {spare : Nat → Bool} {fuel : Nat} {a0 : Option Addr} {len cap : Nat} {x : DataW H × List MemPlace}
    (h : DataW.trod enc Tryd.prog W 0 spare true fuel 22 [.slice a0 len cap] = some x) : len ≤ cap ∧ cap ≤ 9223372036854775807 ∧ ∃ l, TActs W a0 len l := by
  obtain ⟨h1, h2, h3⟩ := open_structs Tryd.underlying22 Tryd.underlying31 (by kernel_rfl) (by kernel_rfl) h
  refine ⟨h1, h2, ?_⟩
  have each : ∀ i, i < len → ∃ y : TAct, ∃ b off, a0 = some ⟨b, off, none⟩ ∧ b < W.heap.size ∧ (∀ (j : Nat) (v : Value), (tvals y)[j]? = some v → W.cell? ⟨b, off + i * 3 + j, none⟩ = some v) ∧ y.2.2 ≤ 9223372036854775807 := by
    intro i hi
    obtain ⟨a, rfl, vs, n, hl, hc, hf⟩ := h3 i hi
    obtain ⟨v0, y0, e0, t0⟩ := hf 0 _ rfl
    obtain ⟨v1, y1, e1, t1⟩ := hf 1 _ rfl
    obtain ⟨v2, y2, e2, t2⟩ := hf 2 _ rfl
    obtain ⟨k0, f0, _, _⟩ := DataW.trod_int Tryd.underlying3 t0
    obtain ⟨k1, f1, _, _⟩ := DataW.trod_int Tryd.underlying3 t1
    obtain ⟨k2, f2, _, hw⟩ := DataW.trod_int Tryd.underlying3 t2
    simp only [List.cons.injEq, and_true] at f0 f1 f2
    subst f0 f1 f2
    obtain ⟨b, off, spot⟩ := a
    have hadd : ∀ q, (⟨b, off, none⟩ : Addr).add q = ⟨b, off + q, none⟩ := fun q => by unfold Addr.add; split <;> simp_all
    obtain rfl : spot = none := by
      obtain ⟨a', ea, vs', _, _, hc', hf'⟩ := h3 0 (by omega)
      injection ea with ea
      subst ea
      obtain ⟨_, _, e0', _⟩ := hf' 0 _ rfl
      have := World.cell?_spot (hc' 0 _ e0')
      simpa [Addr.add] using this
    refine ⟨(k0, k1, k2), b, off, rfl, ?_, fun j v hv => ?_, (bounds_i64 hw).2⟩
    · have := World.block_lt_of_cell? W _ (hc 0 _ e0)
      rwa [block_add] at this
    · rw [Nat.add_assoc, ← hadd]
      refine hc j v ?_
      match j, hv with
      | 0, hv => simp only [tvals, List.getElem?_cons_zero, Option.some.injEq] at hv; rw [e0, hv]
      | 1, hv => simp only [tvals, List.getElem?_cons_succ, List.getElem?_cons_zero, Option.some.injEq] at hv; rw [e1, hv]
      | 2, hv => simp only [tvals, List.getElem?_cons_succ, List.getElem?_cons_zero, Option.some.injEq] at hv; rw [e2, hv]
  exact list_of each
theorem TActs.only {W W' : World} {a : Option Addr} {len : Nat} {l : List TAct} (h : TActs W a len l) (ho : Only (fun _ => False) W W') : TActs W' a len l :=
  ⟨h.1, fun i x hx => by
    obtain ⟨b, off, e, hb, h1, h2⟩ := h.2 i x hx
    exact ⟨b, off, e, Nat.lt_of_lt_of_le hb ho.size, fun j v hv => ho.cellv (h1 j v hv) (fun h => h), h2⟩⟩
end Go.Proofs.YtdcjmfbdmejjjaaDoor
