/- Several texts in one. -/
import Derived.Test.YtbnfhklpobephaaGreatDoorRow
import Derived.Test.YtbnfhklpobephaaGreatDoorJBase
import Derived.Test.YtbnfhklpobephaaGreatDoorJSnTypeL
import Derived.Test.YtbnfhklpobephaaGreatDoorScBody
import Derived.Deep.RegionHeldLaw
import Derived.BigRegion
import Derived.Test.YtbnfhklpobephaaGreatDoorJSnIn
import Derived.Test.YtbnfhklpobephaaGreatDoorLs
import Derived.BigQuiet
/- Rows of so many cells an element, wherever in their block they begin: s[1:]; append of so many elements, or none, in a drawn region. -/
namespace Go.Proofs.YtbnfhklpobephaaGreatDoor
open Go Go.RowKit
set_option maxRecDepth 100000
set_option maxHeartbeats 4000000

section
variable {w w' : World} {B : Nat} {e : TypeId} {s n c : Nat} {v : Value} {A : Option Addr} {xs : List Value}
/-- s[1:], s cells an element: where cap is 1 the address stays. -/
theorem RowAt.tailK {g o c : Nat} {ys xs : List Value} (h : RowAt w B e s (.slice (some ⟨g, o, none⟩) (n + 1) c) (n + 1) (ys ++ xs)) (hy : ys.length = s) (o' : Nat) (ho : o' = o + s ∨ (c = 1 ∧ o' = o)) : RowAt w B e s (.slice (some ⟨g, o', none⟩) n (c - 1)) n xs := by
  obtain ⟨hl, h⟩ := h
  rcases h with ⟨h, _⟩ | ⟨g', o1, c', cur, hv, hb, hg, h1, h2, h3, h4⟩
  · cases h
  · injection hv with hA _ hc
    injection hA with hA
    injection hA with hgg hoo
    subst hgg hoo hc
    rw [List.length_append, hy, Nat.add_mul, Nat.one_mul] at hl
    have hc1 : c = (c - 1) + 1 := by omega
    have hcs : c * s = (c - 1) * s + s := by
      rw [hc1, Nat.add_mul, Nat.one_mul]
      simp
    refine ⟨by omega, .inr ⟨g, o', c - 1, cur, rfl, hb, hg, by omega, by omega, ?_, fun j u hj => ?_⟩⟩
    · rcases ho with rfl | ⟨hc', rfl⟩
      · omega
      · rw [hc']
        simp
        omega
    · rcases ho with rfl | ⟨hc', rfl⟩
      · have := h4 (s + j) u (by rw [List.getElem?_append_right (by omega), hy, Nat.add_sub_cancel_left]; exact hj)
        rw [Nat.add_assoc]
        exact this
      · have hj1 := (List.getElem?_eq_some_iff.1 hj).1
        have : n = 0 := by omega
        subst this
        omega
theorem infoK {e : TypeId} {z : Value} {s bytes : Nat} (h : (Tryz.prog.info? e).map (fun i => (i.zero, i.size, i.bytes)) = some (some z, s, bytes)) : ∃ i, Tryz.prog.info? e = some i ∧ i.zero = some z ∧ i.size = s ∧ i.bytes = bytes := by
  cases hi : Tryz.prog.info? e with
  | none => rw [hi] at h; cases h
  | some i =>
    rw [hi] at h
    simp only [Option.map_some, Option.some.injEq, Prod.mk.injEq] at h
    exact ⟨i, rfl, h⟩
end
end Go.Proofs.YtbnfhklpobephaaGreatDoor
/- Rows of triples. -/
namespace Go.Proofs.YtbnfhklpobephaaGreatDoor
open Go Go.RowKit
set_option maxRecDepth 100000
set_option maxHeartbeats 4000000

theorem info_tri : (Tryz.prog.info? 262).map (fun i => (i.zero, i.size, i.bytes)) = some (some (.agg (Tr.cs Tr.zero).toArray), 4, 32) := by kernel_rfl
def csT (L : List Tr) : List Value := L.flatMap Tr.cs
theorem csT_append (L M : List Tr) : csT (L ++ M) = csT L ++ csT M := by simp [csT]
theorem csT_one (t : Tr) : csT [t] = t.cs := by simp [csT]
/-- A row of triples. -/
def RowT (w : World) (B : Nat) (v : Value) (L : List Tr) : Prop := RowAt w B 262 4 v L.length (csT L)

theorem RowT.same {w w' : World} {B : Nat} {v : Value} {L : List Tr} (h : RowT w B v L) (ho : Only (fun _ => False) w w') : RowT w' B v L := RowAt.only h ho (fun _ _ h => h)
theorem RowT.tail {w : World} {B g o m c : Nat} {t : Tr} {L : List Tr} {D : Option Addr} (h : RowT w B (.slice (some ⟨g, o, none⟩) (m + 1) c) (t :: L)) (hm : m = L.length) (hD : (if c = 1 then some (⟨g, o, none⟩ : Addr) else some ⟨g, o + 4, none⟩) = D) :
    RowT w B (.slice D m (c - 1)) L ∧ ∀ k, (Value.slice D m (c - 1)).ownBlock = some k → (Value.slice (some ⟨g, o, none⟩) (m + 1) c).ownBlock = some k := by
  subst hm
  have h' : RowAt w B 262 4 (.slice (some ⟨g, o, none⟩) (L.length + 1) c) (L.length + 1) (t.cs ++ csT L) := h
  by_cases hc : c = 1
  · rw [if_pos hc] at hD
    subst hD
    exact ⟨RowAt.tailK h' rfl o (.inr ⟨hc, rfl⟩), fun k hk => hk⟩
  · rw [if_neg hc] at hD
    subst hD
    exact ⟨RowAt.tailK h' rfl (o + 4) (.inl rfl), fun k hk => hk⟩

end Go.Proofs.YtbnfhklpobephaaGreatDoor
/- Package slc: Parse. -/
namespace Go.Proofs.YtbnfhklpobephaaGreatDoor
open Go Go.RowKit
set_option maxRecDepth 100000
set_option maxHeartbeats 4000000

def triOf (a b c : UInt8) : Tr := ⟨(a.toNat : Int), ⟨((b.toNat % 4 : Nat) : Int), (c.toNat : Int)⟩, decide (128 ≤ b.toNat)⟩
def parseB : List UInt8 → List Tr
  | a :: b :: c :: r => (if (triOf a b c).right = true then [triOf a b c] else []) ++ parseB r
  | _ => []
theorem and_three : ∀ b : UInt8, bits .and .u8 (b.toNat : Int) 3 = ((b.toNat % 4 : Nat) : Int) := by
  intro b
  have key : ∀ n : Fin 256, bits .and .u8 (n.val : Int) 3 = ((n.val % 4 : Nat) : Int) := by decide +kernel
  exact key ⟨b.toNat, b.toNat_lt⟩
theorem and_ack : ∀ b : UInt8, (bits .and .u8 (b.toNat : Int) 128 != 0) = decide (128 ≤ b.toNat) := by
  intro b
  have key : ∀ n : Fin 256, (bits .and .u8 (n.val : Int) 128 != 0) = decide (128 ≤ n.val) := by decide +kernel
  exact key ⟨b.toNat, b.toNat_lt⟩
theorem parseB_len : ∀ (n : Nat) (bs : List UInt8), bs.length ≤ n → (parseB bs).length * 3 ≤ bs.length
  | 0, bs, h => by
    have : bs = [] := List.eq_nil_of_length_eq_zero (by omega)
    subst this
    exact Nat.le_refl _
  | n + 1, [], h => Nat.le_refl _
  | n + 1, [a], h => by show 0 ≤ _; omega
  | n + 1, [a, b], h => by show 0 ≤ _; omega
  | n + 1, a :: b :: c :: r, h => by
    have := parseB_len n r (by simp at h; omega)
    rw [parseB, List.length_append]
    simp only [List.length_cons]
    split <;> simp <;> omega
def sliceLen : Value → Nat
  | .slice _ n _ => n
  | _ => 0

theorem sparse_short {w : World} {es : List Addr} (hes : ErrsOf w [2, 3, 4] es) (A : Option Addr) (n c : Nat) (h : n % 3 ≠ 0) (hn : n ≤ 1000) :
    Calls Tryz.prog 238 #[.slice A n c] w fun e w' => ∃ a, es[2]? = some a ∧ e = .returned (.tuple #[.slice none 0 0, errV a]) ∧ Only (fun _ => False) w w' := by
  obtain ⟨a, ha, hc⟩ := hes.get 2 2 (by decide) rfl
  unfold errV at hc
  have HA := Lib.hid ha
  obtain ⟨q, hq⟩ : ∃ q : Int, q = ((n % 3 : Nat) : Int) := ⟨_, rfl⟩
  have e0 : (n : Int).tmod 3 = q := by
    rw [Int.tmod_eq_emod_of_nonneg (by omega), hq]
    omega
  have e1 : (q != 0) = true := by simp; omega
  have e2 : (q == 0) = false := by simp; omega
  clear ha hes h hq
  go_enter Tryz.func238, Tryz.ntmps238
  go_wp2
  go_quiet (fail)
  go_wp2
  go_ret2
  exact ⟨a, HA.out, rfl, (Only.refl _ _).drewN _⟩

theorem sparse_ok {w : World} {A : Option Addr} {n c : Nat} {bs : List UInt8} (h : Src w A n bs) (hnc : n ≤ c) (hc : c ≤ 9223372036854775807) (h3 : n % 3 = 0) (hn : n ≤ 1000) :
    Calls Tryz.prog 238 #[.slice A n c] w fun e w' => ∃ A' m c', e = .returned (.tuple #[.slice A' m c', .nilIface]) ∧ m = (parseB bs).length ∧ w'.ownsRow w.heap.size 262 4 (.slice A' m c') m (csT (parseB bs)) ∧ Only (fun _ => False) w w' := by
  have e1 : (n : Int).tmod 3 = 0 := by
    rw [Int.tmod_eq_emod_of_nonneg (by omega)]
    omega
  have HS := Lib.hid h
  have HR := Lib.hid (fun W t => sright_any W t)
  obtain ⟨i, hi, hz, h1, h2⟩ := infoK info_tri
  have HI := Lib.hid hi
  have HZ := Lib.hid hz
  have HI1 := Lib.hid h1
  have HI2 := Lib.hid h2
  have hml : (parseB bs).length ≤ 1000 := by
    have := parseB_len _ bs (Nat.le_refl _)
    have := h.1
    omega
  clear h hi hz h1 h2
  go_enter Tryz.func238, Tryz.ntmps238
  go_wp2
  go_loopw [0, 4] (fun s lst W => ∃ (A : Option Addr) (k c : Nat) (D : Option Addr) (m cd : Nat), k ≤ n ∧ k ≤ c ∧ c ≤ 9223372036854775807 ∧ s = .slice A k c ∧ lst = .slice D m cd ∧ Hid (k % 3 = 0 ∧ ∃ rest done, Src w A k rest ∧ m = done.length ∧ done ++ parseB rest = parseB bs ∧ W.ownsRow w.heap.size 262 4 (.slice D m cd) m (csT done) ∧ Only (fun _ => False) w W)) (fun s _ _ => sliceLen s)
  case atStart => exact ⟨A, n, c, none, 0, 0, Nat.le_refl _, hnc, hc, rfl, rfl, h3, bs, [], HS.out, rfl, rfl, own_nil _ _ _ _, Only.refl _ _⟩
  case round =>
    obtain ⟨A1, k, c1, D, m, cd, hk, hkc, hc1, rfl, rfl, hrel⟩ := hrel
    obtain ⟨hk3, rest, done, hsr0, hm, hdone, hown, hon⟩ := hrel.out
    have HSr := Lib.hid hsr0
    have hsr := hsr0.only hon (fun _ _ _ h => h)
    clear hsr0
    have HM := Lib.hid hm
    have HD := Lib.hid hdone
    have HOw := Lib.hid hown
    have HOn := Lib.hid hon
    have HK3 := Lib.hid hk3
    clear hrel
    by_cases hlt : 0 < k
    · have hk3' : 3 ≤ k := by omega
      obtain ⟨x, y, z, r, hr⟩ : ∃ x y z r, rest = x :: y :: z :: r := by
        have := hsr.1
        match rest, this with
        | [], h => simp at h; omega
        | [_], h => simp at h; omega
        | [_, _], h => simp at h; omega
        | x :: y :: z :: r, _ => exact ⟨x, y, z, r, rfl⟩
      subst hr
      obtain ⟨ad, rfl, hcell⟩ := hsr.2 hlt
      have c0 := hcell 0 x rfl
      have c1' := hcell 1 y rfl
      have c2 := hcell 2 z rfl
      have add_k : ∀ k, 0 < k → ad.add k = ⟨ad.block, ad.off + k, none⟩ := fun k hk => by simp [Addr.add]; omega
      rw [show ad.add 0 = ad from by simp [Addr.add]] at c0
      rw [add_k 1 (by omega)] at c1'
      rw [add_k 2 (by omega)] at c2
      have HAd := Lib.hid (add_k 3 (by omega))
      unfold B8 at c0 c1' c2
      have HRt := Lib.hid (fun W => HR.out W (triOf x y z))
      have e2 := and_three y
      have e3 := and_ack y
      have HTri : Hid (triOf x y z = ⟨(x.toNat : Int), ⟨((y.toNat % 4 : Nat) : Int), (z.toNat : Int)⟩, decide (128 ≤ y.toNat)⟩) := rfl
      obtain ⟨g, hg⟩ : ∃ g, g = (triOf x y z).right := ⟨_, rfl⟩
      have HG := Lib.hid hg
      rw [← hg] at HRt
      unfold triOf at HRt
      obtain ⟨xi, hxi⟩ : ∃ v, v = (x.toNat : Int) := ⟨_, rfl⟩
      obtain ⟨yi, hyi⟩ : ∃ v, v = (y.toNat : Int) := ⟨_, rfl⟩
      obtain ⟨zi, hzi⟩ : ∃ v, v = (z.toNat : Int) := ⟨_, rfl⟩
      obtain ⟨li, hli⟩ : ∃ v, v = ((y.toNat % 4 : Nat) : Int) := ⟨_, rfl⟩
      obtain ⟨ai, hai⟩ : ∃ v, v = decide (128 ≤ y.toNat) := ⟨_, rfl⟩
      rw [← hxi, ← hzi, ← hli, ← hai] at HRt HTri
      rw [← hxi] at c0
      rw [← hyi] at c1' e2 e3
      rw [← hzi] at c2
      rw [← hli] at e2
      rw [← hai] at e3
      have bx : 0 ≤ xi ∧ xi ≤ 255 := by have := x.toNat_lt; omega
      have by' : 0 ≤ li ∧ li ≤ 3 := by omega
      have bz : 0 ≤ zi ∧ zi ≤ 255 := by have := z.toNat_lt; omega
      have w1 : IntKind.i64.wrap xi = xi := IntWalk.i64_in _ (by omega)
      have w2 : IntKind.i64.wrap li = li := IntWalk.i64_in _ (by omega)
      have w3 : IntKind.i64.wrap zi = zi := IntWalk.i64_in _ (by omega)
      have hi1 : (0 : Int) < (k : Int) := by omega
      have hi2 : (1 : Int) < (k : Int) := by omega
      have hi3 : (2 : Int) < (k : Int) := by omega
      have d0 : ∀ ob, (wr.alloc ob).cell? ad = some (.int .u8 xi) := fun ob => ((Only.refl (fun _ => False) wr).alloc ob).cellv c0 (fun h => h)
      have d1 : ∀ ob, (wr.alloc ob).cell? ⟨ad.block, ad.off + 1, none⟩ = some (.int .u8 yi) := fun ob => ((Only.refl (fun _ => False) wr).alloc ob).cellv c1' (fun h => h)
      have d2 : ∀ ob, (wr.alloc ob).cell? ⟨ad.block, ad.off + 2, none⟩ = some (.int .u8 zi) := fun ob => ((Only.refl (fun _ => False) wr).alloc ob).cellv c2 (fun h => h)
      clear hk3 hsr hm hdone hown hon hcell add_k hg hxi hyi hzi hli hai
      go_wp2
      go_region
      have HBt := Lib.hid ((Blk.new wr 262 [.int .i64 xi, .int .i64 li, .int .i64 zi, .bool ai]).drew)
      have HO1 : Hid (Only (fun _ => False) wr ((wr.alloc (.cells #[.int .i64 xi, .int .i64 li, .int .i64 zi, .bool ai] 262)).drew)) := ((Only.refl _ _).alloc _).drew
      obtain ⟨T, hT⟩ : ∃ T, T = wr.heap.size := ⟨_, rfl⟩
      rw [← hT] at HBt ⊢
      clear hT d0 d1 d2 c0 c1' c2
      generalize (wr.alloc (.cells #[.int .i64 xi, .int .i64 li, .int .i64 zi, .bool ai] 262)).drew = w4 at *
      have t0 : w4.cell? ⟨T, 0, none⟩ = some (.int .i64 xi) := HBt.out.cell 0
      have t1 : w4.cell? ⟨T, 1, none⟩ = some (.int .i64 li) := HBt.out.cell 1
      have t2 : w4.cell? ⟨T, 2, none⟩ = some (.int .i64 zi) := HBt.out.cell 2
      have t3 : w4.cell? ⟨T, 3, none⟩ = some (.bool ai) := HBt.out.cell 3
      obtain ⟨E, hE⟩ : ∃ E, (if c1 = 3 then some ad else some ⟨ad.block, ad.off + 3, none⟩) = E := ⟨_, rfl⟩
      have HE := Lib.hid hE
      have hmb : m ≤ 1000 := by
        have h1 := HM.out
        have h2 := congrArg List.length HD.out
        rw [List.length_append] at h2
        omega
      have hk4 : (3 : Int) ≤ (k : Int) := by omega
      have hk5 : (k : Int) ≤ (c1 : Int) := by omega
      have HTl : Hid (Src w E (k - 3) r) := by
        have hl := HSr.out.1
        have hp := HSr.out.piece 3 k (by omega) (Nat.le_refl _) E (fun hlt ad' e => by
          injection e with e
          subst e
          rw [HAd.out]
          have h := HE.out
          rw [if_neg (by omega)] at h
          exact h.symm)
        rw [List.take_of_length_le (by omega)] at hp
        exact hp
      have HRst : Hid (done ++ ((if g = true then [triOf x y z] else []) ++ parseB r) = parseB bs) := by
        have h := HD.out
        rw [parseB, ← HG.out] at h
        exact h
      clear hE
      cases g
      · go_wp2_with (first
          | (go_at_call 174; refine (HRt.out _).mono ?_; rintro e w5 ⟨rfl, ho5⟩; have HO5 : Hid (Only (fun _ => False) wr w5) := HO1.out.trans ho5 (fun _ h => h.elim); clear ho5)
          | fail)
        go_roundw
        case rel => exact ⟨_, k - 3, c1 - 3, D, m, cd, by omega, by omega, by omega, rfl, rfl, by have := HK3.out; omega, r, done, by rw [HE.out]; exact HTl.out, HM.out, HRst.out, own_same HOw.out HO5.out, HOn.out.trans HO5.out (fun _ h => h.elim)⟩
        case measure => simp [sliceLen]; omega
      · go_wp2_with (first
          | (go_at_call 174; refine (HRt.out _).mono ?_; rintro e w5 ⟨rfl, ho5⟩; have HO5 : Hid (Only (fun _ => False) wr w5) := HO1.out.trans ho5 (fun _ h => h.elim); obtain ⟨u0, u1, u2, u3⟩ : w5.cell? ⟨T, 0, none⟩ = some (.int .i64 xi) ∧ w5.cell? ⟨T, 1, none⟩ = some (.int .i64 li) ∧ w5.cell? ⟨T, 2, none⟩ = some (.int .i64 zi) ∧ w5.cell? ⟨T, 3, none⟩ = some (.bool ai) := ⟨(HBt.out.only ho5 (fun h => h)).cell 0, (HBt.out.only ho5 (fun h => h)).cell 1, (HBt.out.only ho5 (fun h => h)).cell 2, (HBt.out.only ho5 (fun h => h)).cell 3⟩; clear ho5)
          | ((with_reducible show wpList _ _ _ (⟨some 41, _, _, _, _, _⟩ :: _) _ _); refine step_append_own rfl (.tmp 38) (.tmp 40) 375 rfl w.heap.size 262 i _ 4 32 Tryz.underlying375 HI.out HZ.out HI1.out HI2.out rfl (by omega) (.slice D m cd) m (csT done) rfl (own_same HOw.out (HO5.out.alloc _)) (some ⟨w5.heap.size, 0, none⟩) 1 1 [.int .i64 xi, .int .i64 li, .int .i64 zi, .bool ai] rfl rfl (fun _ => ⟨_, rfl, fun j u hj => by rw [at_add]; exact ((Blk.new w5 _ [.int .i64 xi, .int .i64 li, .int .i64 zi, .bool ai]).cell j).trans hj⟩) (Tr.cs_one ⟨xi, ⟨li, zi⟩, ai⟩) (by omega) (by omega) (Nat.le_trans (HOn.out.trans HO5.out (fun _ h => h.elim)).size (by simp)) ?_; intro A7 c7 w7 hq1 hq2 hq3; have HOw7 := Lib.hid hq3.out.1; have HO7 : Hid (Only (fun i => Value.ownBlock (.slice D m cd) = some i) wr w7) := Only.grown ((HO5.out.mono (fun _ h => h.elim)).alloc _) hq3.out.2.1 (fun k hk => .inl hk); have HOn7 : Hid (Only (fun _ => False) w w7) := HOn.out.trans HO7.out (fun i hi => .inr (own_lt HOw.out i hi).1); clear hq1 hq2 hq3)
          | fail)
        go_roundw
        case rel => exact ⟨_, k - 3, c1 - 3, A7, m + 1, c7, by omega, by omega, by omega, rfl, rfl, by have := HK3.out; omega, r, done ++ [triOf x y z], by rw [HE.out]; exact HTl.out, by rw [List.length_append, HM.out]; rfl, by rw [List.append_assoc]; exact HRst.out, by rw [csT_append, csT_one, HTri.out]; exact HOw7.out, HOn7.out⟩
        case measure => simp [sliceLen]; omega
    · obtain rfl : k = 0 := by omega
      have hr : rest = [] := List.eq_nil_of_length_eq_zero hsr.1
      subst hr
      clear hk3 hsr hm hdone hown hon hlt
      go_wp2
      go_ret2
      have hd := HD.out
      rw [show parseB [] = [] from rfl, List.append_nil] at hd
      rw [hd] at HM HOw
      exact ⟨D, m, cd, rfl, HM.out, HOw.out, HOn.out⟩
end Go.Proofs.YtbnfhklpobephaaGreatDoor
/- Layer 17 as plain functions: a report's number, body and line; what a body says. -/
namespace Go.Proofs.YtbnfhklpobephaaGreatDoor
open Go
set_option maxRecDepth 100000

/-- A verb and an option. -/
structure En where
  v : Int
  o : Int
@[reducible] def En.cs (e : En) : List Value := [.int .i64 e.v, .int .i64 e.o]
theorem En.cs_one (e : En) : ∀ v ∈ e.cs, v.oneCell' = true := by
  intro v hv
  simp only [En.cs, List.mem_cons, List.not_mem_nil, or_false] at hv
  rcases hv with rfl | rfl <;> rfl
def csE (l : List En) : List Value := l.flatMap En.cs
theorem csE_append (l m : List En) : csE (l ++ m) = csE l ++ csE m := by simp [csE]
theorem csE_one (x : En) : csE [x] = x.cs := by simp [csE]
abbrev EnAt := LsOf En.cs 2
theorem csE_length (l : List En) : (csE l).length = l.length * 2 := by
  induction l with
  | nil => rfl
  | cons x l ih => rw [show csE (x :: l) = x.cs ++ csE l from rfl, List.length_append, ih, List.length_cons]; simp; omega

/-- The number of the first error in a list; 0: there is none. -/
def enBad : List En → Nat
  | [] => 0
  | x :: l => if decide (251 ≤ x.v ∧ x.v ≤ 254) then (if decide (0 ≤ x.o ∧ x.o ≤ 255) then enBad l else 1) else 9
def enBytes : List En → List UInt8
  | [] => []
  | x :: l => b8 x.v :: b8 x.o :: enBytes l
def suNum (l : List En) : Nat := if 120 < l.length then 4 else enBad l
def suBody (l : List En) : List UInt8 := if suNum l = 0 then 0 :: enBytes l else []
/-- What the bytes behind the first one say. -/
def enPairs : List UInt8 → List En
  | a :: b :: r => ⟨a.toNat, b.toNat⟩ :: enPairs r
  | _ => []
def enKind : List UInt8 → Bool
  | a :: _ :: r => decide (251 ≤ (a.toNat : Int) ∧ (a.toNat : Int) ≤ 254) && enKind r
  | _ => true
/-- The number of a body's error. -/
def paNum : List UInt8 → Nat
  | [] => 3
  | x :: r => if x.toNat = 1 then (if r.length = 0 then 0 else 4) else if x.toNat ≠ 0 then 5 else if r.length % 2 = 1 then 3 else if enKind r then 0 else 9
def paAsks (b : List UInt8) : Bool := b == [1]
def paList : List UInt8 → List En
  | x :: r => if x.toNat = 0 ∧ r.length % 2 = 0 ∧ enKind r = true then enPairs r else []
  | [] => []
theorem enPairs_short : ∀ (n : Nat) (r : List UInt8), r.length ≤ n → (enPairs r).length ≤ n
  | _, [], _ => by simp [enPairs]
  | _, [_], _ => by simp [enPairs]
  | 0, _ :: _ :: _, h => by simp at h
  | n + 1, _ :: _ :: r, h => by
    rw [enPairs, List.length_cons]
    have := enPairs_short n r (by simp at h; omega)
    omega
theorem paList_length (b : List UInt8) (h : b.length ≤ 1000) : (paList b).length ≤ 1000 := by
  cases b with
  | nil => simp [paList]
  | cons x r =>
    rw [paList]
    split
    · exact enPairs_short 1000 r (by simp at h; omega)
    · simp
end Go.Proofs.YtbnfhklpobephaaGreatDoor
/- The law's own: reports as the document's, and two of these. -/
namespace Go.Proofs.YtbnfhklpobephaaGreatDoor
open Go Go.RowKit
set_option maxRecDepth 100000
set_option maxHeartbeats 4000000

theorem size_en : (Tryz.prog.info? 162).map (·.size) = some 2 := by kernel_rfl
theorem info_en : (Tryz.prog.info? 162).map (fun i => (i.zero, i.size, i.bytes)) = some (some (.agg (En.cs ⟨0, 0⟩).toArray), 2, 16) := by kernel_rfl
end Go.Proofs.YtbnfhklpobephaaGreatDoor
