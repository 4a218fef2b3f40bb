/- Several texts in one. -/
import Derived.Test.YtlmkpembccehkaaGreatDoorJSnKeep
import Derived.Test.YtlmkpembccehkaaGreatDoorScBody
import Derived.Test.YtlmkpembccehkaaGreatDoorScRow
import Derived.Deep.RegionHeldLaw
import Derived.BigRegion
import Derived.Test.YtlmkpembccehkaaGreatDoorScHear
/- What is told of triples. -/
namespace Go.Proofs.YtlmkpembccehkaaGreatDoor
open Go Go.RowKit
set_option maxRecDepth 100000
set_option maxHeartbeats 4000000

theorem tris_own {w : World} {B n c : Nat} {A : Option Addr} {L : List Tr} {e : TypeId} (h : w.ownsRow B e 4 (.slice A n c) n (csT L)) (hl : L.length = n) : TrAt w A n L := LsOf.of_own (cs := Tr.cs) (fun _ => rfl) h hl
theorem tellChars_any {w : World} {es : List Addr} (hE : ErrsAt w es) {A : Option Addr} {n c : Nat} {L : List Tr} (h : TrAt w A n L) (hn : n ≤ 100) :
    Calls Tryz.prog 80 #[.slice A n c] w fun e w' => ∃ v E, e = .returned (.tuple #[v, E]) ∧ Hid ((E = .nilIface ∧ (v = .slice none 0 0 ∨ ∃ b, b.length ≤ 256 ∧ One w.heap.size w' v 34 b)) ∨ (errI E ∧ v = .slice none 0 0)) ∧ Hid (Only (fun _ => False) w w') := by
  have hE3 := hE.of [2, 3, 4]
  have HT := Lib.hid (fun W A n c => tell_any W 34 A n c)
  by_cases h0 : n = 0
  · subst h0
    clear h hE3 hE
    go_enter Tryz.func80, Tryz.ntmps80
    go_wp2
    go_ret2
    exact ⟨_, _, rfl, .inl ⟨rfl, .inl rfl⟩, Only.refl _ _⟩
  · have hz : ((n : Int) == 0) = false := by simp; omega
    have hl := h.1
    have hbad : ∀ (i : Nat) (a : Addr), es[i]? = some a → (Calls Tryz.prog 99 #[.slice A n c] w fun e w' => ∃ a, es[i]? = some a ∧ e = .returned (.tuple #[.slice none 0 0, errV a]) ∧ Only (fun _ => False) w w') →
        Calls Tryz.prog 80 #[.slice A n c] w fun e w' => ∃ v E, e = .returned (.tuple #[v, E]) ∧ Hid ((E = .nilIface ∧ (v = .slice none 0 0 ∨ ∃ b, b.length ≤ 256 ∧ One w.heap.size w' v 34 b)) ∨ (errI E ∧ v = .slice none 0 0)) ∧ Hid (Only (fun _ => False) w w') := by
      intro i a _ hB
      have HB : Hid (Calls Tryz.prog 99 #[.slice A n c] w fun e w' => ∃ a, e = .returned (.tuple #[.slice none 0 0, .iface 191 (.pointer (some a))]) ∧ Only (fun _ => False) w w') := hB.mono (fun e w' ⟨a, _, h1, h2⟩ => ⟨a, h1, h2⟩)
      clear hB hE3 hE h hl HT
      go_enter Tryz.func80, Tryz.ntmps80
      go_wp2_with (first
        | (go_at_call 99; (with_reducible refine HB.out.mono ?_); rintro e w1 ⟨a1, rfl, ho1⟩))
      go_ret2
      exact ⟨_, _, rfl, .inr ⟨⟨a1, rfl⟩, rfl⟩, ho1⟩
    cases hb : L.all Tr.right with
    | false =>
      obtain ⟨a, ha, _⟩ := hE3.get 4 5 (by decide) rfl
      exact hbad 4 a ha (body_form hE3 h hn hb)
    | true =>
      by_cases h85 : 85 < n
      · obtain ⟨a, ha, _⟩ := hE3.get 3 3 (by decide) rfl
        exact hbad 3 a ha (body_long hE3 h hn hb h85)
      · have HB := Lib.hid (sbody_ok (c := c) h hb (by omega))
        have HL : Hid ((bodyB L).length ≤ 255) := by
          show (bodyB L).length ≤ 255
          rw [bodyB_len, hl]
          omega
        have HP : Hid (∀ (W : World) (N : Nat), W.heap.size = N → Body (W.alloc (.cells #[.int .u8 3] 5)) N (.slice (some ⟨N, 0, none⟩) 1 1) [3]) := fun W N hN => by
          subst hN
          exact own_of_blk (cur := [.int .u8 3]) (Blk.new W 5 [.int .u8 3]) rfl rfl (by simp) (by simp) (Nat.le_refl _)
        clear hbad hE3 hE h hl hb h85
        go_enter Tryz.func80, Tryz.ntmps80
        go_wp2_with (first
          | (go_at_call 99; (with_reducible refine HB.out.mono ?_); rintro e w1 ⟨A1, m1, c1, rfl, hm1, hb1, ho1⟩; have HM1 := Lib.hid hm1; have HB1 := Lib.hid hb1; have HO1 := Lib.hid ho1; clear hm1 hb1 ho1)
          | (at_builtin; refine step_bytesG rfl (.tmp 17) (.tmp 18) rfl w1.heap.size _ 1 1 [3] rfl (HP.out w1 _ rfl) rfl A1 _ c1 (bodyB L) rfl ((show Src w1 A1 m1 (bodyB L) from HB1.out.src HM1.out).only ((Only.refl (fun _ => False) _).alloc _) (fun _ _ _ h => h)) (by have := HL.out; have := HM1.out; omega) (by simp) ?_; intro A3 c3 w3 hb3 hg3; have HB3 := Lib.hid hb3.out; have hz3 := hg3.out.size; have HO3 : Hid (Only (fun _ => False) w w3) := (HO1.out.alloc _).grown hg3.out (fun q hq => .inr (by have h1 := (own_lt (HP.out w1 _ rfl) q hq).1; have h2 := HO1.out.size; omega)); clear hb3 hg3)
          | (go_at_call 71; (with_reducible refine (HT.out _ _ _ _).mono ?_); rintro e w4 ⟨rfl, hb4, ho4⟩))
        go_ret2
        have hM := HM1.out
        have hL := HL.out
        refine ⟨_, _, rfl, .inl ⟨rfl, .inr ⟨_, ?_, (Body.one HB3.out ?_ ho4.out hb4.out ?_).low HO1.out.size⟩⟩, HO3.out.trans ho4.out (fun _ h => h.elim)⟩
        · simp
          omega
        · simp
          omega
        · simp at hz3
          omega
end Go.Proofs.YtlmkpembccehkaaGreatDoor
/- Package slc: Parse. -/
namespace Go.Proofs.YtlmkpembccehkaaGreatDoor
open Go Go.RowKit
set_option maxRecDepth 100000
set_option maxHeartbeats 4000000

def triOf (a b c : UInt8) : Tr := ⟨(a.toNat : Int), ⟨((b.toNat % 4 : Nat) : Int), (c.toNat : Int)⟩, decide (128 ≤ b.toNat)⟩
def parseB : List UInt8 → List Tr
  | a :: b :: c :: r => (if (triOf a b c).right = true then [triOf a b c] else []) ++ parseB r
  | _ => []
theorem and_three : ∀ b : UInt8, bits .and .u8 (b.toNat : Int) 3 = ((b.toNat % 4 : Nat) : Int) := by
  intro b
  have key : ∀ n : Fin 256, bits .and .u8 (n.val : Int) 3 = ((n.val % 4 : Nat) : Int) := by decide +kernel
  exact key ⟨b.toNat, b.toNat_lt⟩
theorem and_ack : ∀ b : UInt8, (bits .and .u8 (b.toNat : Int) 128 != 0) = decide (128 ≤ b.toNat) := by
  intro b
  have key : ∀ n : Fin 256, (bits .and .u8 (n.val : Int) 128 != 0) = decide (128 ≤ n.val) := by decide +kernel
  exact key ⟨b.toNat, b.toNat_lt⟩
theorem triOf_bytes {t : Tr} (h : t.right = true) : triOf (b8 t.f) (b8 (secondOf t)) (b8 t.x.v) = t := by
  obtain ⟨h1, h2, h3⟩ := right_parts h
  have hv := Se.v_of h3
  have hl := Se.l_of h3
  obtain ⟨f, ⟨l, v⟩, a⟩ := t
  simp only at h1 h2 hv hl
  unfold triOf secondOf
  simp only
  rw [b8_int (by omega) (by omega), b8_int (by omega) (by omega), b8_nat (by split <;> omega) (by split <;> omega)]
  cases a
  · simp only [Bool.false_eq_true, if_false, Tr.mk.injEq, Se.mk.injEq]
    refine ⟨trivial, ⟨by omega, trivial⟩, by simp; omega⟩
  · simp only [if_true, Tr.mk.injEq, Se.mk.injEq]
    refine ⟨trivial, ⟨by omega, trivial⟩, by simp; omega⟩
theorem parse_body {L : List Tr} (h : L.all Tr.right = true) : parseB (bodyB L) = L := by
  induction L with
  | nil => rfl
  | cons t L ih =>
    simp only [List.all_cons, Bool.and_eq_true] at h
    show parseB (b8 t.f :: b8 (secondOf t) :: b8 t.x.v :: bodyB L) = t :: L
    rw [parseB, triOf_bytes h.1, if_pos h.1, ih h.2]
    rfl
theorem parseB_len : ∀ (n : Nat) (bs : List UInt8), bs.length ≤ n → (parseB bs).length * 3 ≤ bs.length
  | 0, bs, h => by
    have : bs = [] := List.eq_nil_of_length_eq_zero (by omega)
    subst this
    exact Nat.le_refl _
  | n + 1, [], h => Nat.le_refl _
  | n + 1, [a], h => by show 0 ≤ _; omega
  | n + 1, [a, b], h => by show 0 ≤ _; omega
  | n + 1, a :: b :: c :: r, h => by
    have := parseB_len n r (by simp at h; omega)
    rw [parseB, List.length_append]
    simp only [List.length_cons]
    split <;> simp <;> omega
def sliceLen : Value → Nat
  | .slice _ n _ => n
  | _ => 0

theorem sparse_short {w : World} {es : List Addr} (hes : ErrsOf w [2, 3, 4] es) (A : Option Addr) (n c : Nat) (h : n % 3 ≠ 0) (hn : n ≤ 1000) :
    Calls Tryz.prog 94 #[.slice A n c] w fun e w' => ∃ a, es[2]? = some a ∧ e = .returned (.tuple #[.slice none 0 0, errV a]) ∧ Only (fun _ => False) w w' := by
  obtain ⟨a, ha, hc⟩ := hes.get 2 9 (by decide) rfl
  unfold errV at hc
  have HA := Lib.hid ha
  obtain ⟨q, hq⟩ : ∃ q : Int, q = ((n % 3 : Nat) : Int) := ⟨_, rfl⟩
  have e0 : (n : Int).tmod 3 = q := by
    rw [Int.tmod_eq_emod_of_nonneg (by omega), hq]
    omega
  have e1 : (q != 0) = true := by simp; omega
  have e2 : (q == 0) = false := by simp; omega
  clear ha hes h hq
  go_enter Tryz.func94, Tryz.ntmps94
  go_wp2
  go_quiet (fail)
  go_wp2
  go_ret2
  exact ⟨a, HA.out, rfl, (Only.refl _ _).drewN _⟩

theorem sparse_ok {w : World} {A : Option Addr} {n c : Nat} {bs : List UInt8} (h : Src w A n bs) (hnc : n ≤ c) (hc : c ≤ 9223372036854775807) (h3 : n % 3 = 0) (hn : n ≤ 1000) :
    Calls Tryz.prog 94 #[.slice A n c] w fun e w' => ∃ A' m c', e = .returned (.tuple #[.slice A' m c', .nilIface]) ∧ m = (parseB bs).length ∧ w'.ownsRow w.heap.size 126 4 (.slice A' m c') m (csT (parseB bs)) ∧ Only (fun _ => False) w w' := by
  have e1 : (n : Int).tmod 3 = 0 := by
    rw [Int.tmod_eq_emod_of_nonneg (by omega)]
    omega
  have HS := Lib.hid h
  have HR := Lib.hid (fun W t => sright_any W t)
  obtain ⟨i, hi, hz, h1, h2⟩ := infoK info_tri
  have HI := Lib.hid hi
  have HZ := Lib.hid hz
  have HI1 := Lib.hid h1
  have HI2 := Lib.hid h2
  have hml : (parseB bs).length ≤ 1000 := by
    have := parseB_len _ bs (Nat.le_refl _)
    have := h.1
    omega
  clear h hi hz h1 h2
  go_enter Tryz.func94, Tryz.ntmps94
  go_wp2
  go_loopw [0, 4] (fun s lst W => ∃ (A : Option Addr) (k c : Nat) (D : Option Addr) (m cd : Nat), k ≤ n ∧ k ≤ c ∧ c ≤ 9223372036854775807 ∧ s = .slice A k c ∧ lst = .slice D m cd ∧ Hid (k % 3 = 0 ∧ ∃ rest done, Src w A k rest ∧ m = done.length ∧ done ++ parseB rest = parseB bs ∧ W.ownsRow w.heap.size 126 4 (.slice D m cd) m (csT done) ∧ Only (fun _ => False) w W)) (fun s _ _ => sliceLen s)
  case atStart => exact ⟨A, n, c, none, 0, 0, Nat.le_refl _, hnc, hc, rfl, rfl, h3, bs, [], HS.out, rfl, rfl, own_nil _ _ _ _, Only.refl _ _⟩
  case round =>
    obtain ⟨A1, k, c1, D, m, cd, hk, hkc, hc1, rfl, rfl, hrel⟩ := hrel
    obtain ⟨hk3, rest, done, hsr0, hm, hdone, hown, hon⟩ := hrel.out
    have HSr := Lib.hid hsr0
    have hsr := hsr0.only hon (fun _ _ _ h => h)
    clear hsr0
    have HM := Lib.hid hm
    have HD := Lib.hid hdone
    have HOw := Lib.hid hown
    have HOn := Lib.hid hon
    have HK3 := Lib.hid hk3
    clear hrel
    by_cases hlt : 0 < k
    · have hk3' : 3 ≤ k := by omega
      obtain ⟨x, y, z, r, hr⟩ : ∃ x y z r, rest = x :: y :: z :: r := by
        have := hsr.1
        match rest, this with
        | [], h => simp at h; omega
        | [_], h => simp at h; omega
        | [_, _], h => simp at h; omega
        | x :: y :: z :: r, _ => exact ⟨x, y, z, r, rfl⟩
      subst hr
      obtain ⟨ad, rfl, hcell⟩ := hsr.2 hlt
      have c0 := hcell 0 x rfl
      have c1' := hcell 1 y rfl
      have c2 := hcell 2 z rfl
      have add_k : ∀ k, 0 < k → ad.add k = ⟨ad.block, ad.off + k, none⟩ := fun k hk => by simp [Addr.add]; omega
      rw [show ad.add 0 = ad from by simp [Addr.add]] at c0
      rw [add_k 1 (by omega)] at c1'
      rw [add_k 2 (by omega)] at c2
      have HAd := Lib.hid (add_k 3 (by omega))
      unfold B8 at c0 c1' c2
      have HRt := Lib.hid (fun W => HR.out W (triOf x y z))
      have e2 := and_three y
      have e3 := and_ack y
      have HTri : Hid (triOf x y z = ⟨(x.toNat : Int), ⟨((y.toNat % 4 : Nat) : Int), (z.toNat : Int)⟩, decide (128 ≤ y.toNat)⟩) := rfl
      obtain ⟨g, hg⟩ : ∃ g, g = (triOf x y z).right := ⟨_, rfl⟩
      have HG := Lib.hid hg
      rw [← hg] at HRt
      unfold triOf at HRt
      obtain ⟨xi, hxi⟩ : ∃ v, v = (x.toNat : Int) := ⟨_, rfl⟩
      obtain ⟨yi, hyi⟩ : ∃ v, v = (y.toNat : Int) := ⟨_, rfl⟩
      obtain ⟨zi, hzi⟩ : ∃ v, v = (z.toNat : Int) := ⟨_, rfl⟩
      obtain ⟨li, hli⟩ : ∃ v, v = ((y.toNat % 4 : Nat) : Int) := ⟨_, rfl⟩
      obtain ⟨ai, hai⟩ : ∃ v, v = decide (128 ≤ y.toNat) := ⟨_, rfl⟩
      rw [← hxi, ← hzi, ← hli, ← hai] at HRt HTri
      rw [← hxi] at c0
      rw [← hyi] at c1' e2 e3
      rw [← hzi] at c2
      rw [← hli] at e2
      rw [← hai] at e3
      have bx : 0 ≤ xi ∧ xi ≤ 255 := by have := x.toNat_lt; omega
      have by' : 0 ≤ li ∧ li ≤ 3 := by omega
      have bz : 0 ≤ zi ∧ zi ≤ 255 := by have := z.toNat_lt; omega
      have w1 : IntKind.i64.wrap xi = xi := IntWalk.i64_in _ (by omega)
      have w2 : IntKind.i64.wrap li = li := IntWalk.i64_in _ (by omega)
      have w3 : IntKind.i64.wrap zi = zi := IntWalk.i64_in _ (by omega)
      have hi1 : (0 : Int) < (k : Int) := by omega
      have hi2 : (1 : Int) < (k : Int) := by omega
      have hi3 : (2 : Int) < (k : Int) := by omega
      have d0 : ∀ ob, (wr.alloc ob).cell? ad = some (.int .u8 xi) := fun ob => ((Only.refl (fun _ => False) wr).alloc ob).cellv c0 (fun h => h)
      have d1 : ∀ ob, (wr.alloc ob).cell? ⟨ad.block, ad.off + 1, none⟩ = some (.int .u8 yi) := fun ob => ((Only.refl (fun _ => False) wr).alloc ob).cellv c1' (fun h => h)
      have d2 : ∀ ob, (wr.alloc ob).cell? ⟨ad.block, ad.off + 2, none⟩ = some (.int .u8 zi) := fun ob => ((Only.refl (fun _ => False) wr).alloc ob).cellv c2 (fun h => h)
      clear hk3 hsr hm hdone hown hon hcell add_k hg hxi hyi hzi hli hai
      go_wp2
      go_region
      have HBt := Lib.hid ((Blk.new wr 126 [.int .i64 xi, .int .i64 li, .int .i64 zi, .bool ai]).drew)
      have HO1 : Hid (Only (fun _ => False) wr ((wr.alloc (.cells #[.int .i64 xi, .int .i64 li, .int .i64 zi, .bool ai] 126)).drew)) := ((Only.refl _ _).alloc _).drew
      obtain ⟨T, hT⟩ : ∃ T, T = wr.heap.size := ⟨_, rfl⟩
      rw [← hT] at HBt ⊢
      clear hT d0 d1 d2 c0 c1' c2
      generalize (wr.alloc (.cells #[.int .i64 xi, .int .i64 li, .int .i64 zi, .bool ai] 126)).drew = w4 at *
      have t0 : w4.cell? ⟨T, 0, none⟩ = some (.int .i64 xi) := HBt.out.cell 0
      have t1 : w4.cell? ⟨T, 1, none⟩ = some (.int .i64 li) := HBt.out.cell 1
      have t2 : w4.cell? ⟨T, 2, none⟩ = some (.int .i64 zi) := HBt.out.cell 2
      have t3 : w4.cell? ⟨T, 3, none⟩ = some (.bool ai) := HBt.out.cell 3
      obtain ⟨E, hE⟩ : ∃ E, (if c1 = 3 then some ad else some ⟨ad.block, ad.off + 3, none⟩) = E := ⟨_, rfl⟩
      have HE := Lib.hid hE
      have hmb : m ≤ 1000 := by
        have h1 := HM.out
        have h2 := congrArg List.length HD.out
        rw [List.length_append] at h2
        omega
      have hk4 : (3 : Int) ≤ (k : Int) := by omega
      have hk5 : (k : Int) ≤ (c1 : Int) := by omega
      have HTl : Hid (Src w E (k - 3) r) := by
        have hl := HSr.out.1
        have hp := HSr.out.piece 3 k (by omega) (Nat.le_refl _) E (fun hlt ad' e => by
          injection e with e
          subst e
          rw [HAd.out]
          have h := HE.out
          rw [if_neg (by omega)] at h
          exact h.symm)
        rw [List.take_of_length_le (by omega)] at hp
        exact hp
      have HRst : Hid (done ++ ((if g = true then [triOf x y z] else []) ++ parseB r) = parseB bs) := by
        have h := HD.out
        rw [parseB, ← HG.out] at h
        exact h
      clear hE
      cases g
      · go_wp2_with (first
          | (go_at_call 63; refine (HRt.out _).mono ?_; rintro e w5 ⟨rfl, ho5⟩; have HO5 : Hid (Only (fun _ => False) wr w5) := HO1.out.trans ho5 (fun _ h => h.elim); clear ho5)
          | fail)
        go_roundw
        case rel => exact ⟨_, k - 3, c1 - 3, D, m, cd, by omega, by omega, by omega, rfl, rfl, by have := HK3.out; omega, r, done, by rw [HE.out]; exact HTl.out, HM.out, HRst.out, own_same HOw.out HO5.out, HOn.out.trans HO5.out (fun _ h => h.elim)⟩
        case measure => simp [sliceLen]; omega
      · go_wp2_with (first
          | (go_at_call 63; refine (HRt.out _).mono ?_; rintro e w5 ⟨rfl, ho5⟩; have HO5 : Hid (Only (fun _ => False) wr w5) := HO1.out.trans ho5 (fun _ h => h.elim); obtain ⟨u0, u1, u2, u3⟩ : w5.cell? ⟨T, 0, none⟩ = some (.int .i64 xi) ∧ w5.cell? ⟨T, 1, none⟩ = some (.int .i64 li) ∧ w5.cell? ⟨T, 2, none⟩ = some (.int .i64 zi) ∧ w5.cell? ⟨T, 3, none⟩ = some (.bool ai) := ⟨(HBt.out.only ho5 (fun h => h)).cell 0, (HBt.out.only ho5 (fun h => h)).cell 1, (HBt.out.only ho5 (fun h => h)).cell 2, (HBt.out.only ho5 (fun h => h)).cell 3⟩; clear ho5)
          | ((with_reducible show wpList _ _ _ (⟨some 41, _, _, _, _, _⟩ :: _) _ _); refine step_append_own rfl (.tmp 38) (.tmp 40) 161 rfl w.heap.size 126 i _ 4 32 Tryz.underlying161 HI.out HZ.out HI1.out HI2.out rfl (by omega) (.slice D m cd) m (csT done) rfl (own_same HOw.out (HO5.out.alloc _)) (some ⟨w5.heap.size, 0, none⟩) 1 1 [.int .i64 xi, .int .i64 li, .int .i64 zi, .bool ai] rfl rfl (fun _ => ⟨_, rfl, fun j u hj => by rw [at_add]; exact ((Blk.new w5 _ [.int .i64 xi, .int .i64 li, .int .i64 zi, .bool ai]).cell j).trans hj⟩) (Tr.cs_one ⟨xi, ⟨li, zi⟩, ai⟩) (by omega) (by omega) (Nat.le_trans (HOn.out.trans HO5.out (fun _ h => h.elim)).size (by simp)) ?_; intro A7 c7 w7 hq1 hq2 hq3; have HOw7 := Lib.hid hq3.out.1; have HO7 : Hid (Only (fun i => Value.ownBlock (.slice D m cd) = some i) wr w7) := Only.grown ((HO5.out.mono (fun _ h => h.elim)).alloc _) hq3.out.2.1 (fun k hk => .inl hk); have HOn7 : Hid (Only (fun _ => False) w w7) := HOn.out.trans HO7.out (fun i hi => .inr (own_lt HOw.out i hi).1); clear hq1 hq2 hq3)
          | fail)
        go_roundw
        case rel => exact ⟨_, k - 3, c1 - 3, A7, m + 1, c7, by omega, by omega, by omega, rfl, rfl, by have := HK3.out; omega, r, done ++ [triOf x y z], by rw [HE.out]; exact HTl.out, by rw [List.length_append, HM.out]; rfl, by rw [List.append_assoc]; exact HRst.out, by rw [csT_append, csT_one, HTri.out]; exact HOw7.out, HOn7.out⟩
        case measure => simp [sliceLen]; omega
    · obtain rfl : k = 0 := by omega
      have hr : rest = [] := List.eq_nil_of_length_eq_zero hsr.1
      subst hr
      clear hk3 hsr hm hdone hown hon hlt
      go_wp2
      go_ret2
      have hd := HD.out
      rw [show parseB [] = [] from rfl, List.append_nil] at hd
      rw [hd] at HM HOw
      exact ⟨D, m, cd, rfl, HM.out, HOw.out, HOn.out⟩
end Go.Proofs.YtlmkpembccehkaaGreatDoor
/- All that a side tells on triples that it hears. -/
namespace Go.Proofs.YtlmkpembccehkaaGreatDoor
open Go Go.RowKit
set_option maxRecDepth 100000
set_option maxHeartbeats 4000000

theorem gather_any {w : World} {q B : Nat} {S : Sd} (hS : ScSdAt w q S) {A : Option Addr} {n c : Nat} {L : List Tr} (hr : w.ownsRow B 126 4 (.slice A n c) n (csT L)) (hl : L.length = n) (hn : n ≤ 1000) :
    Calls Tryz.prog 95 #[.slice A n c, .func (.func 46) #[.pointer (some ⟨q, 0, none⟩)] #[]] w fun e w' => ∃ A' m c' M, e = .returned (.slice A' m c') ∧ m = M.length ∧ m ≤ n ∧ Hid (w'.ownsRow w.heap.size 126 4 (.slice A' m c') m (csT M)) ∧ Hid (∃ S', ScSdAt w' q S') ∧ Hid (Only (· = q) w w') := by
  have HNe : Hid (∀ k, (Value.slice A n c).ownBlock = some k → k ≠ q) := by
    obtain ⟨cs, hb, _⟩ := hS
    exact own_ne hr hb (by decide)
  have HS := Lib.hid hS
  have HR := Lib.hid hr
  have HL := Lib.hid hl
  have hq := hS.lt
  obtain ⟨i, hi, hz, h1, h2⟩ := infoK info_tri
  have HI := Lib.hid hi
  have HZ := Lib.hid hz
  have HI1 := Lib.hid h1
  have HI2 := Lib.hid h2
  have HHr := Lib.hid (fun W (S : Sd) (h : ScSdAt W q S) t => hear_any h t)
  clear hS hr hl hi hz h1 h2
  go_enter Tryz.func95, Tryz.ntmps95
  go_wp2
  go_loopw [5, 12] (fun lst s W => ∃ (k m : Nat) (D : Option Addr) (cd : Nat), k ≤ n ∧ s = .int .i64 (k : Int) ∧ lst = .slice D m cd ∧ Hid (∃ M S', m = M.length ∧ m ≤ k ∧ W.ownsRow w.heap.size 126 4 (.slice D m cd) m (csT M) ∧ ScSdAt W q S' ∧ Only (· = q) w W)) (fun _ s _ => n - (intOf s).toNat)
  case atStart => exact ⟨0, 0, none, 0, Nat.zero_le _, rfl, rfl, [], S, rfl, Nat.le_refl _, own_nil _ _ _ _, HS.out, Only.refl _ _⟩
  case round =>
    obtain ⟨k, m, D, cd, hk, rfl, rfl, hrel⟩ := hrel
    obtain ⟨M, S', hm, hmk, hown, hsd, hon⟩ := hrel.out
    have HM := Lib.hid hm
    have HOw := Lib.hid hown
    have HSd := Lib.hid hsd
    have HOn := Lib.hid hon
    have hMk := hmk
    have hwq : q < wr.heap.size := hsd.lt
    clear hrel hm hown hsd
    by_cases hlt : k < n
    · have hi1 : (k : Int) < (n : Int) := by omega
      have hr2 := own_only HR.out hon HNe.out
      obtain ⟨⟨tf, ⟨tl, tv⟩, ta⟩, ht⟩ : ∃ t, L[k]? = some t := ⟨_, List.getElem?_eq_getElem (by rw [HL.out]; exact hlt)⟩
      obtain ⟨g, rfl, _, _, hcell⟩ := own_at hr2 (by omega)
      have HRg : Hid (wr.rangeAt g (k * 4) [.int .i64 tf, .int .i64 tl, .int .i64 tv, .bool ta]) := fun j v hj => hcell _ v (flat_at (cs := Tr.cs) (m := 4) (fun _ => rfl) hj ht)
      have HHr2 := Lib.hid (fun W (h : ScSdAt W q S') => HHr.out W S' h ⟨tf, ⟨tl, tv⟩, ta⟩)
      obtain ⟨S2, ⟨uf, ⟨ul, uv⟩, ua⟩, b, hu⟩ : ∃ S2 u b, hearS S' ⟨tf, ⟨tl, tv⟩, ta⟩ = (S2, u, b) := ⟨_, _, _, rfl⟩
      rw [hu] at HHr2
      clear hr2 hcell ht hon hu
      cases b
      · go_wp2_with (first
          | ((with_reducible show wpList _ _ _ (⟨some 15, _, _, _, _, _⟩ :: _) _ _); refine wpList_load_mid rfl 126 _ rfl g (k * 4) rfl [.int .i64 tf, .int .i64 tl, .int .i64 tv, .bool ta] _ HRg.out Tryz.underlying126 rfl size_tri ?_)
          | (go_at_call 46; (with_reducible refine (HHr2.out _ (HSd.out.same ((Only.refl _ _).alloc _))).mono ?_); rintro e w5 ⟨rfl, hs5, ho5⟩; have HS5 := Lib.hid hs5; have HO5 : Hid (Only (· = q) wr w5) := (Only.mono (T := (· = q)) ((Only.refl (fun _ => False) wr).alloc _) (fun _ h => h.elim)).trans ho5 (fun i hi => .inl hi); clear hs5 ho5))
        go_roundw
        case rel =>
          have ho := HO5.out.alloc (.cells #[.int .i64 uf, .int .i64 ul, .int .i64 uv, .bool ua] 126)
          exact ⟨k + 1, m, D, cd, by omega, by go_num, rfl, M, S2, HM.out, by omega, own_only HOw.out ho (fun j hj e => by have := (own_lt HOw.out j hj).1; omega), HS5.out.same ((Only.refl _ _).alloc _), HOn.out.trans ho (fun i hi => .inl hi)⟩
        case measure => simp [intOf]; omega
      · go_wp2_with (first
          | ((with_reducible show wpList _ _ _ (⟨some 15, _, _, _, _, _⟩ :: _) _ _); refine wpList_load_mid rfl 126 _ rfl g (k * 4) rfl [.int .i64 tf, .int .i64 tl, .int .i64 tv, .bool ta] _ HRg.out Tryz.underlying126 rfl size_tri ?_)
          | (go_at_call 46; (with_reducible refine (HHr2.out _ (HSd.out.same ((Only.refl _ _).alloc _))).mono ?_); rintro e w5 ⟨rfl, hs5, ho5⟩; have HS5 := Lib.hid hs5; have HO5 : Hid (Only (· = q) wr w5) := (Only.mono (T := (· = q)) ((Only.refl (fun _ => False) wr).alloc _) (fun _ h => h.elim)).trans ho5 (fun i hi => .inl hi); clear hs5 ho5)
          | ((with_reducible show wpList _ _ _ (⟨some 26, _, _, _, _, _⟩ :: _) _ _); refine step_append_own rfl (.tmp 23) (.tmp 25) 161 rfl w.heap.size 126 i _ 4 32 Tryz.underlying161 HI.out HZ.out HI1.out HI2.out rfl (by omega) (.slice D m cd) m (csT M) rfl (own_only HOw.out ((HO5.out.alloc _).alloc _) (fun j hj e => by have := (own_lt HOw.out j hj).1; omega)) _ 1 1 [.int .i64 uf, .int .i64 ul, .int .i64 uv, .bool ua] rfl rfl (fun _ => ⟨_, rfl, fun j u hj => by rw [at_add]; exact ((Blk.new' (n := w5.heap.size + 1) (w5.alloc _) 126 [.int .i64 uf, .int .i64 ul, .int .i64 uv, .bool ua] (by simp)).cell j).trans hj⟩) (Tr.cs_one ⟨uf, ⟨ul, uv⟩, ua⟩) (by omega) (by omega) (by have h1 := HO5.out.size; have h2 := HOn.out.size; simp; omega) ?_; intro A7 c7 w7 hq1 hq2 hq3; have HOw7 := Lib.hid hq3.out.1; have HO7 : Hid (Only (· = q) w w7) := Only.grown (HOn.out.trans ((HO5.out.alloc _).alloc _) (fun i hi => .inl hi)) hq3.out.2.1 (fun k hk => .inr (own_lt HOw.out k hk).1); have HS7 : Hid (ScSdAt w7 q S2) := ((HS5.out.same (((Only.refl _ _).alloc _).alloc _)).only (Only.grown (Only.refl (fun i => Value.ownBlock (.slice D m cd) = some i) _) hq3.out.2.1 (fun k hk => .inl hk)) (fun e => by have := (own_lt HOw.out q e).1; omega)); clear hq1 hq2 hq3))
        go_roundw
        case rel => exact ⟨k + 1, m + 1, A7, c7, by omega, by go_num, rfl, M ++ [⟨uf, ⟨ul, uv⟩, ua⟩], S2, by rw [List.length_append, HM.out]; rfl, by omega, by rw [csT_append, csT_one]; exact HOw7.out, HS7.out, HO7.out⟩
        case measure => simp [intOf]; omega
    · obtain rfl : k = n := by omega
      go_wp2
      go_ret
      exact ⟨D, m, cd, M, rfl, HM.out, hmk, HOw.out, ⟨_, HSd.out⟩, HOn.out⟩
end Go.Proofs.YtlmkpembccehkaaGreatDoor
