/- Several texts in one. -/
import Derived.Test.YtlmkpembccehkaaGreatDoorSnTurn
import Derived.Test.YtlmkpembccehkaaGreatDoorSnNew
import Derived.Test.YtlmkpembccehkaaGreatDoorJBody
import Derived.Test.YtlmkpembccehkaaGreatDoorJTbSt
/- What is told when an option turns: our size, and that the other side's types are asked for. -/
namespace Go.Proofs.YtlmkpembccehkaaGreatDoor
open Go Go.RowKit
set_option maxRecDepth 100000
set_option maxHeartbeats 4000000

/-- slices.Clone of bytes: an own row. -/
theorem clone_own {w : World} {ad : Addr} {n c : Nat} {xs : List UInt8} (hs : Src w (some ad) n xs) (hn : n ≤ 1048000) :
    Calls Tryz.prog 78 #[.slice (some ad) n c] w fun e w' => ∃ A' c', e = .returned (.slice A' n c') ∧ Hid (Body w' w.heap.size (.slice A' n c') xs) ∧ Hid (Only (fun _ => False) w w') := by
  have qn : ∀ (w : World) (a : Option Addr) (n c n' c' : Nat), (binOp .eql 45 (.slice a n c) (.slice none n' c')).run Tryz.prog w = .ok (.bool a.isNone) w := fun w a n c n' c' => Lib.run_eql_slice_nil w _ _ a n c n' c' Tryz.underlying45
  have HO := Lib.hid (((Only.refl (fun _ => False) w).alloc (.cells #[] 5)))
  have HE := Lib.hid (show Body (w.alloc (.cells #[] 5)) w.heap.size (.slice (some ⟨w.heap.size, 0, none⟩) 0 0) [] from own_of_blk (B := w.heap.size) (c := 0) (s := 1) (n := 0) (xs := []) (Blk.new w 5 []) rfl rfl (by omega) (by omega) (Nat.le_refl _))
  have HS := Lib.hid hs
  clear hs
  go_enter Tryz.func78, Tryz.ntmps78
  go_wp2_with (at_builtin; refine step_bytesG rfl (.tmp 5) (.tmp 6) rfl w.heap.size _ _ _ [] rfl HE.out rfl (some ad) n c xs rfl (HS.out.only HO.out (fun _ _ _ h => h)) (by omega) (by simp) ?_; intro A' c' w2 hb hg)
  go_ret
  have hown := hb.out
  rw [Nat.zero_add, List.nil_append] at hown
  exact ⟨A', c', rfl, hown, HO.out.grown hg.out (fun q hq => .inr (by cases hq; exact Nat.le_refl _))⟩
theorem size_list : (Tryz.prog.info? 72).map (·.size) = some (cellsL Ls.none).length := by kernel_rfl
theorem built_list : Tryz.prog.built 72 [] = some (cellsL Ls.none).toArray := by kernel_rfl
theorem list_one : ∀ v ∈ cellsL Ls.none, v.oneCell' = true := by
  intro v hv
  simp only [cellsL, Ls.none, List.map_nil, List.length_nil, Nat.sub_zero, List.nil_append, List.mem_append, List.mem_replicate, List.mem_cons, List.not_mem_nil, or_false] at hv
  rcases hv with ⟨_, rfl⟩ | rfl | rfl <;> rfl
section
variable {w : World} {p : Nat} {h : Hb}
theorem ourSize_on (k : HuAt w p h) {N : Nat} {b : List UInt8} (hsz : h.sz = .slice (some ⟨N, 0, none⟩) 4 4) (hs : Src w (some ⟨N, 0, none⟩) 4 b) :
    Calls Tryz.prog 55 #[.pointer (some ⟨p, 0, none⟩), .bool true] w fun e w' => ∃ M, e = .returned (.slice (some ⟨M, 0, none⟩) 1 1) ∧ Hid (One w.heap.size w' (.slice (some ⟨M, 0, none⟩) 1 1) 31 b) ∧ Hid (HuAt w' p h) ∧ Hid (Only (fun _ => False) w w') := by
  have c0 : w.cell? ⟨p, 0, none⟩ = some (.slice (some ⟨N, 0, none⟩) 4 4) := (k.in0.val (i := 0) rfl).trans (congrArg some hsz)
  have HK := Lib.hid k
  have HCl := Lib.hid (clone_own (c := 4) hs (by omega))
  have HT := Lib.hid (fun W A n c => tell_any W 31 A n c)
  have hb := Lib.hid hs.1
  clear k hsz hs
  go_enter Tryz.func55, Tryz.ntmps55
  go_wp2_with (first
    | (go_at_call 78; (with_reducible refine HCl.out.mono ?_); rintro e w1 ⟨A1, c1, rfl, hb1, ho1⟩)
    | (go_at_call 71; (with_reducible refine (HT.out _ _ _ _).mono ?_); rintro e w2 ⟨rfl, hb2, ho2⟩))
  go_ret
  have hz := ho1.out.size
  exact ⟨_, rfl, Body.one hb1.out hb.out.symm ho2.out hb2.out hz, (HK.out.same ho1.out).same ho2.out, ho1.out.trans ho2.out (fun _ h => h.elim)⟩
theorem hisTypes_on (k : HuAt w p h) :
    Calls Tryz.prog 59 #[.pointer (some ⟨p, 0, none⟩), .bool true] w fun e w' => ∃ M, e = .returned (.slice (some ⟨M, 0, none⟩) 1 1) ∧ Hid (One w.heap.size w' (.slice (some ⟨M, 0, none⟩) 1 1) 24 [1]) ∧ Hid (HuAt w' p { h with li := Ls.none }) ∧ Hid (Only (· = p) w w') := by
  have HK := Lib.hid k
  have HT := Lib.hid (fun W A n c => tell_any W 24 A n c)
  have HA := Lib.hid ttask_any
  have hbl := built_list
  have hsl := size_list
  have ho := list_one
  have hl := k.ok.l1
  obtain ⟨zs, hzs⟩ : ∃ zs, zs = cellsL Ls.none := ⟨_, rfl⟩
  have h10 : zs.length = 10 := by rw [hzs]; rfl
  rw [← hzs] at hbl hsl ho
  have HZ := Lib.hid hzs
  have HBl := Lib.hid hbl
  have HSl := Lib.hid hsl
  have HOne := Lib.hid ho
  have HL := Lib.hid (hl.trans h10.symm)
  clear k hbl hsl ho hl hzs h10
  go_enter Tryz.func59, Tryz.ntmps59
  go_wp2_with (first
    | ((with_reducible show wpList _ _ _ (⟨some 8, _, _, _, _, _⟩ :: _) _ _); refine step_build0 rfl 72 rfl zs HBl.out ?_)
    | ((with_reducible show wpList _ _ _ (⟨none, .store 72 _ _, _, _, _, _⟩ :: _) _ _); refine InB.store rfl 72 _ _ rfl HK.out.in1 rfl zs rfl HSl.out HL.out HOne.out ?_; intro w1 hI1 hz1 ho1)
    | (go_at_call 72; (with_reducible refine (HA.out _).mono ?_); rintro e w2 ⟨rfl, hs2, ho2⟩)
    | (go_at_call 71; (with_reducible refine (HT.out _ _ _ _).mono ?_); rintro e w3 ⟨rfl, hb3, ho3⟩))
  go_ret
  have hzz := hz1.out
  have hz2 := ho2.out.size
  have hI := hI1.out
  rw [HZ.out] at hI
  refine ⟨_, rfl, ⟨_, _, 1, 1, rfl, by omega, hb3.out, hs2.out.only ho3.out (fun _ _ _ h => h), fun _ ad e => ?_, by omega, by omega⟩, ((HuAt.of_list Ls.none_ok HK.out.ok hI).same ho2.out).same ho3.out, (ho1.trans ho2.out (fun _ h => h.elim)).trans ho3.out (fun _ h => h.elim)⟩
  injection e with e
  subst e
  show w.heap.size ≤ w1.heap.size
  omega
theorem turned_size (k : HuAt w p h) {N : Nat} {b : List UInt8} (hsz : h.sz = .slice (some ⟨N, 0, none⟩) 4 4) (hs : Src w (some ⟨N, 0, none⟩) 4 b) :
    Calls Tryz.prog 18 #[.pointer (some ⟨p, 0, none⟩), .int .i64 0, .int .i64 31, .bool true] w fun e w' => ∃ M, e = .returned (.slice (some ⟨M, 0, none⟩) 1 1) ∧ Hid (One w.heap.size w' (.slice (some ⟨M, 0, none⟩) 1 1) 31 b) ∧ Hid (HuAt w' p h) ∧ Hid (Only (fun _ => False) w w') := by
  have HF : Hid (∀ W, Only (fun _ => False) w W → _) := fun W ho => ourSize_on (k.same (w' := W) ho) hsz (hs.only ho (fun _ _ _ h => h))
  have HM := Lib.hid (fun W => turnings_any W p)
  have HL : Hid (∀ W M, FullAt W M p → (Instr.lookup 115 (.map (some M)) (.agg #[.int .i64 0, .int .i64 31]) true).run Tryz.prog W = .ok (.tuple #[.func (.func 55) #[.pointer (some ⟨p, 0, none⟩)] #[], .bool true]) W) := fun W M hM => look_place (i := 0) (by omega) hM
  clear k hsz hs
  go_enter Tryz.func18, Tryz.ntmps18
  go_wp2_with (first
    | (go_at_call 39; (with_reducible refine (HM.out _).mono ?_); rintro e w1 ⟨rfl, hm1, ho1⟩; have hlk := HL.out w1 _ hm1.out)
    | (go_at_call 55; (with_reducible refine (HF.out _ ho1.out).mono ?_); rintro e w2 ⟨M, rfl, h1, h2, h3⟩))
  go_ret
  exact ⟨M, rfl, h1.out.low ho1.out.size, h2.out, ho1.out.trans h3.out (fun _ h => h.elim)⟩
theorem turned_types (k : HuAt w p h) :
    Calls Tryz.prog 18 #[.pointer (some ⟨p, 0, none⟩), .int .i64 1, .int .i64 24, .bool true] w fun e w' => ∃ M, e = .returned (.slice (some ⟨M, 0, none⟩) 1 1) ∧ Hid (One w.heap.size w' (.slice (some ⟨M, 0, none⟩) 1 1) 24 [1]) ∧ Hid (HuAt w' p { h with li := Ls.none }) ∧ Hid (Only (· = p) w w') := by
  have HF : Hid (∀ W, Only (fun _ => False) w W → _) := fun W ho => hisTypes_on (k.same (w' := W) ho)
  have HM := Lib.hid (fun W => turnings_any W p)
  have HL : Hid (∀ W M, FullAt W M p → (Instr.lookup 115 (.map (some M)) (.agg #[.int .i64 1, .int .i64 24]) true).run Tryz.prog W = .ok (.tuple #[.func (.func 59) #[.pointer (some ⟨p, 0, none⟩)] #[], .bool true]) W) := fun W M hM => look_place (i := 4) (by omega) hM
  clear k
  go_enter Tryz.func18, Tryz.ntmps18
  go_wp2_with (first
    | (go_at_call 39; (with_reducible refine (HM.out _).mono ?_); rintro e w1 ⟨rfl, hm1, ho1⟩; have hlk := HL.out w1 _ hm1.out)
    | (go_at_call 59; (with_reducible refine (HF.out _ ho1.out).mono ?_); rintro e w2 ⟨M, rfl, h1, h2, h3⟩))
  go_ret
  exact ⟨M, rfl, h1.out.low ho1.out.size, h2.out, (Only.mono (T := (· = p)) ho1.out (fun _ h => h.elim)).trans h3.out (fun i hi => .inl hi)⟩
end
end Go.Proofs.YtlmkpembccehkaaGreatDoor
/- The chapter's example. -/
namespace Go.Proofs.YtlmkpembccehkaaGreatDoor
open Go Go.RowKit
set_option maxRecDepth 100000
set_option maxHeartbeats 4000000

theorem StAt.nil (w : World) (A : Option Addr) : StAt w A 0 [] := ⟨rfl, fun i x h => by simp at h⟩
def vt : List UInt8 := [118, 116, 49, 48, 48]
theorem snAlive_any (w : World) : Calls Tryz.prog 5 #[] w fun e w' => e = .returned (.bool true) ∧ Only (fun _ => False) w w' := by
  have HT : Hid (TSrc (w.alloc (.cells #[.string ⟨#[118, 116, 49, 48, 48]⟩] 9)) (some ⟨w.heap.size, 0, none⟩) 1 [vt]) := TSrc.of_blk (Blk.new w 9 [.string ⟨#[118, 116, 49, 48, 48]⟩]) rfl (fun j x hj => by
    match j, hj with
    | 0, hj =>
      simp only [List.getElem?_cons_zero, Option.some.injEq] at hj
      subst hj
      rfl
    | j + 1, hj => simp at hj)
  have HN := Lib.hid (fun can => snNew_ok (cc := 80) (cr := 24) (cA := 1) (B := none) (m := 0) (cB := 0) (can := can) HT.out (StAt.nil _ none) (by omega) (by omega) (by decide))
  go_enter Tryz.func5, Tryz.ntmps5
  go_wp2_with (first
    | (go_at_call 7; (with_reducible refine (HN.out _).mono ?_); rintro e w1 ⟨p, rfl, hn1, ho1⟩; obtain ⟨h, hn1⟩ := hn1.out; obtain ⟨N, hsz, hs, _⟩ := hn1.sz; have HTu := Lib.hid (turned_size hn1.hub hsz hs); clear hn1 hsz hs)
    | (go_at_call 18; (with_reducible refine HTu.out.mono ?_); rintro e w2 ⟨M, rfl, h1, h2, h3⟩; obtain ⟨M', A, n, c, e1, _, hb, hs2, _⟩ := h1.out.form; injection e1 with e1; injection e1 with e1; injection e1 with e1; subst e1; obtain rfl : n = 4 := hs2.1.symm; have c0 : w2.cell? ⟨M, 0, none⟩ = some (.int .i64 31) := hb.cell 0; have c1 : w2.cell? ⟨M, 1, none⟩ = some (.slice A 4 c) := hb.cell 1; have hT := hs2.texts c w2 (Only.refl _ _); rw [show (bodyOf 80 24).toArray = #[0, 80, 0, 24] from by decide] at hT; clear hb hs2 h2))
  go_ret
  exact ⟨rfl, (((Only.refl (fun _ => False) w).alloc _).trans ho1.out (fun _ h => h.elim)).trans h3.out (fun _ h => h.elim)⟩
end Go.Proofs.YtlmkpembccehkaaGreatDoor
/- Slices of ints that came in. -/
namespace Go.Proofs.YtlmkpembccehkaaGreatDoor
open Go Go.ChangeShapes Go.WideShapes Go.ChangeAt Go.RowKit
set_option maxRecDepth 100000
set_option maxHeartbeats 4000000

/-- A slice of ints. -/
def Ints (w : World) (A : Option Addr) (n : Nat) (zs : List Int) : Prop :=
  zs.length = n ∧ (0 < n → ∃ ad, A = some ad ∧ ∀ (j : Nat) (z : Int), zs[j]? = some z → w.cell? (ad.add j) = some (.int .i64 z))
theorem Ints.only {S : Nat → Prop} {w w' : World} {A : Option Addr} {n : Nat} {zs : List Int} (h : Ints w A n zs) (ho : Only S w w') (hS : 0 < n → ∀ ad, A = some ad → ¬ S ad.block) : Ints w' A n zs :=
  ⟨h.1, fun hn => by
    obtain ⟨ad, e, hc⟩ := h.2 hn
    exact ⟨ad, e, fun j x hx => ho.cellv (hc j x hx) (by rw [block_add]; exact hS hn ad e)⟩⟩
theorem Ints.same {w w' : World} {A : Option Addr} {n : Nat} {zs : List Int} (h : Ints w A n zs) (ho : Only (fun _ => False) w w') : Ints w' A n zs := h.only ho (fun _ _ _ h => h)
theorem Ints.nil (w : World) (A : Option Addr) : Ints w A 0 [] := ⟨rfl, fun h => absurd h (by omega)⟩

/-- A slice of ints that came in. -/
theorem opened_ints {H : Type} {enc : TypeId × Value → H} {W : World} {spare : Nat → Bool} {fuel : Nat} {v : Value} {x : DataW H × List MemPlace} (hf : DataW.trod enc Tryz.prog W 0 spare true fuel 28 [v] = some x) :
    ∃ A n c zs, v = .slice A n c ∧ Ints W A n zs ∧ n ≤ c ∧ c ≤ 9223372036854775807 := by
  obtain ⟨d, p⟩ := x
  rcases open_ints Tryz.underlying28 Tryz.underlying3 (by kernel_rfl) hf with ⟨hcs, hx⟩ | ⟨a, len', cap', zs, hcs, _, hl, hm, hz, hx, hcell, hwz⟩
  · simp at hcs
    subst hcs
    exact ⟨none, 0, 0, [], rfl, Ints.nil _ _, Nat.le_refl _, by omega⟩
  · simp at hcs
    subst hcs
    have hzl : len' ≤ zs.length := by split at hz <;> omega
    refine ⟨some a, len', cap', zs.take len', rfl, ⟨by simp; omega, fun _ => ⟨_, rfl, fun j x hx => ?_⟩⟩, hl, by unfold maxLen at hm; omega⟩
    rw [List.getElem?_take] at hx
    split at hx
    · have hj : j < zs.length := by omega
      rw [hcell j hj]
      rw [List.getElem?_eq_getElem hj] at hx
      injection hx with hx
      rw [← hx]
      congr 2
      rw [List.getD_eq_getElem?_getD, List.getElem?_eq_getElem hj]
      rfl
    · cases hx

/-- .. each of which a machine's word holds. -/
theorem opened_ints64 {H : Type} {enc : TypeId × Value → H} {W : World} {spare : Nat → Bool} {fuel : Nat} {v : Value} {x : DataW H × List MemPlace} (hf : DataW.trod enc Tryz.prog W 0 spare true fuel 28 [v] = some x) :
    ∃ A n c zs, v = .slice A n c ∧ Ints W A n zs ∧ n ≤ c ∧ c ≤ 9223372036854775807 ∧ ∀ z ∈ zs, -9223372036854775808 ≤ z ∧ z ≤ 9223372036854775807 := by
  obtain ⟨d, p⟩ := x
  rcases open_ints Tryz.underlying28 Tryz.underlying3 (by kernel_rfl) hf with ⟨hcs, hx⟩ | ⟨a, len', cap', zs, hcs, _, hl, hm, hz, hx, hcell, hwz⟩
  · simp at hcs
    subst hcs
    exact ⟨none, 0, 0, [], rfl, Ints.nil _ _, Nat.le_refl _, by omega, fun z h => by cases h⟩
  · simp at hcs
    subst hcs
    have hzl : len' ≤ zs.length := by split at hz <;> omega
    refine ⟨some a, len', cap', zs.take len', rfl, ⟨by simp; omega, fun _ => ⟨_, rfl, fun j x hx => ?_⟩⟩, hl, by unfold maxLen at hm; omega, fun z hz => bounds_i64 (hwz z (List.mem_of_mem_take hz))⟩
    rw [List.getElem?_take] at hx
    split at hx
    · have hj : j < zs.length := by omega
      rw [hcell j hj]
      rw [List.getElem?_eq_getElem hj] at hx
      injection hx with hx
      rw [← hx]
      congr 2
      rw [List.getD_eq_getElem?_getD, List.getElem?_eq_getElem hj]
      rfl
    · cases hx
end Go.Proofs.YtlmkpembccehkaaGreatDoor
/- Package table: New. -/
namespace Go.Proofs.YtlmkpembccehkaaGreatDoor
open Go Go.RowKit
set_option maxRecDepth 100000
set_option maxHeartbeats 4000000

/-- What a policy agrees to. -/
def agOf (us hims : List Int) (s o : Nat) : Bool := (if s = 0 then us else hims).contains (o : Int)
theorem TbC.congr {cs : List Value} {ag ag' : Nat → Nat → Bool} {t : Tb} (h : TbC cs ag t) (e : ∀ s o, s < 2 → o < 256 → ag s o = ag' s o) : TbC cs ag' t :=
  ⟨h.len, h.kind, h.opp, fun i s o hs ho hi => by rw [h.agr i s o hs ho hi, e s o hs ho], h.heard, h.asked, h.sent⟩
theorem TbAt.congr {w : World} {p : Nat} {ag ag' : Nat → Nat → Bool} {t : Tb} (h : TbAt w p ag t) (e : ∀ s o, s < 2 → o < 256 → ag s o = ag' s o) : TbAt w p ag' t := by
  obtain ⟨cs, h, hc⟩ := h
  exact ⟨cs, h, hc.congr e⟩
/-- So far. -/
def agTo (us hims zs : List Int) (k j : Nat) (s o : Nat) : Bool := (decide (s < k) && agOf us hims s o) || (decide (s = k) && (zs.take j).contains (o : Int))
theorem contains_take (zs : List Int) (j : Nat) (z : Int) (h : zs[j]? = some z) (o : Int) : (zs.take (j + 1)).contains o = ((zs.take j).contains o || decide (o = z)) := by
  rw [List.take_add_one, h]
  simp [List.contains_eq_mem, Bool.decide_or]

theorem new_any {W : World} {A1 A2 : Option Addr} {n1 n2 : Nat} (c1 c2 : Nat) {us hims : List Int} (h1 : Ints W A1 n1 us) (h2 : Ints W A2 n2 hims) (hb1 : n1 ≤ 1000) (hb2 : n2 ≤ 1000) :
    Calls Tryz.prog 8 #[.agg #[.slice A1 n1 c1, .slice A2 n2 c2]] W fun e w' => ∃ p, e = .returned (.pointer (some ⟨p, 0, none⟩)) ∧ TbAt w' p (agOf us hims) Tb.zero ∧ W.heap.size ≤ p ∧ Only (fun _ => False) W w' := by
  have H1 := Lib.hid h1
  have H2 := Lib.hid h2
  clear h1 h2
  go_enter Tryz.func8, Tryz.ntmps8
  go_wp2_with (first
    | ((with_reducible show wpList _ _ _ (⟨some 8, _, _, _, _, _⟩ :: _) _ _); refine step_build rfl 96 #[] rfl tb0 built_table ?_)
    | ((with_reducible show wpList _ _ _ (⟨some 9, _, _, _, _, _⟩ :: _) _ _); refine step_box rfl 96 _ rfl tb0 rfl ?_)
    | fail)
  obtain ⟨p, hpp⟩ : ∃ p, p = W.heap.size + 1 := ⟨_, rfl⟩
  obtain ⟨W0, hW0⟩ : ∃ W0, W0 = (W.alloc (.cells #[.slice A1 n1 c1, .slice A2 n2 c2] 40)).alloc (.cells tb0.toArray 96) := ⟨_, rfl⟩
  have HT0 : Hid (TbAt W0 p (fun _ _ => false) Tb.zero) := ⟨tb0, by rw [hW0, hpp]; exact Blk.new' _ _ _ (by simp), tb0_c⟩
  have HO0 : Hid (Only (fun _ => False) W W0) := by rw [hW0]; exact ((Only.refl _ _).alloc _).alloc _
  have HPW : Hid (W.heap.size + 1 = p) := hpp.symm
  rw [← hpp, ← hW0]
  clear hpp hW0
  go_loopw [15] (fun i w => ∃ k : Nat, k ≤ 2 ∧ i = .int .i64 (k : Int) ∧ Hid (TbAt w p (fun s o => decide (s < k) && agOf us hims s o) Tb.zero ∧ Only (fun _ => False) W w)) (fun i _ => 2 - (intOf i).toNat)
  case atStart => exact ⟨0, by omega, rfl, HT0.out.congr (fun s o _ _ => by simp), HO0.out⟩
  case round =>
    obtain ⟨k, hk, rfl, hrel⟩ := hrel
    by_cases hlt : k < 2
    · obtain ⟨A, n, c, zs, hnb, hidx, hzs, hag⟩ : ∃ A n c zs, n ≤ 1000 ∧ (∀ w, (Instr.index 97 (.agg #[.slice A1 n1 c1, .slice A2 n2 c2]) (.int .i64 (k : Int))).run Tryz.prog w = .ok (.slice A n c) w) ∧ Ints W A n zs ∧ ∀ o : Nat, agOf us hims k o = zs.contains (o : Int) := by
        rcases (show k = 0 ∨ k = 1 by omega) with rfl | rfl
        · exact ⟨A1, n1, c1, us, hb1, fun w => by kernel_rfl, H1.out, fun o => by simp [agOf]⟩
        · exact ⟨A2, n2, c2, hims, hb2, fun w => by kernel_rfl, H2.out, fun o => by simp [agOf]⟩
      have HZ := Lib.hid hzs
      have HAg := Lib.hid hag
      have hk2 : (k : Int) < 2 := by omega
      clear hzs hag
      go_wp2
      obtain ⟨W1, hW1⟩ : ∃ W1, W1 = wr := ⟨_, rfl⟩
      subst hW1
      have HR := hrel
      clear hrel
      go_loopw [21] (fun i w => ∃ j : Nat, j ≤ n ∧ i = .int .i64 (j : Int) ∧ Hid (TbAt w p (agTo us hims zs k j) Tb.zero ∧ Only (fun _ => False) W w)) (fun i _ => n - (intOf i).toNat)
      case atStart => exact ⟨0, by omega, rfl, HR.out.1.congr (fun s o _ _ => by simp [agTo]), HR.out.2⟩
      case round =>
        clear HR
        obtain ⟨j, hj, rfl, hrel⟩ := hrel
        by_cases hjn : j < n
        · obtain ⟨z, hz⟩ : ∃ z, zs[j]? = some z := ⟨_, List.getElem?_eq_getElem (by rw [HZ.out.1]; exact hjn)⟩
          obtain ⟨ad, rfl, hcell⟩ := (HZ.out.only hrel.out.2 (fun _ _ _ h => h)).2 (by omega)
          have c0 := hcell j z hz
          have HZj := Lib.hid hz
          have hjn2 : (j : Int) < (n : Int) := by omega
          clear hcell hz
          by_cases hz : 0 ≤ z ∧ z ≤ 255
          · obtain ⟨o, rfl⟩ : ∃ o : Nat, z = (o : Int) := ⟨z.toNat, by omega⟩
            have ho : o < 256 := by omega
            have ho2 : (o : Int) < 256 := by omega
            have H3 : Hid (∀ W, Calls Tryz.prog 24 #[.int .i64 (o : Int)] W fun e w' => e = .returned (.bool true) ∧ w' = W) := fun W => by
              have := isOption_any W (o : Int)
              rwa [decide_eq_true (by omega)] at this
            obtain ⟨cs, hB, hC⟩ := hrel.out.1
            have ca : wr.cell? ⟨p, 1024 + k * 256 + o, none⟩ = some (.bool (agTo us hims zs k j k o)) := by rw [hB.cell]; exact hC.agr _ k o hlt ho (by omega)
            have fa := hB.frozen (1024 + k * 256 + o)
            have HB := Lib.hid hB
            have HC := Lib.hid hC
            obtain ⟨b, hb⟩ : ∃ b, b = agTo us hims zs k j k o := ⟨_, rfl⟩
            rw [← hb] at ca
            clear hB hC hz hb
            go_wp2_with (first
              | (go_at_call 24; refine (H3.out _).mono ?_; rintro e w' ⟨rfl, rfl⟩)
              | fail)
            go_roundw
            case rel =>
              refine ⟨j + 1, by omega, by go_num, ⟨_, HB.out.setCell _ _, (HC.out.setAg hlt ho (by omega) true).congr (fun s x _ _ => ?_)⟩, hrel.out.2.setCell (.inr (by have := HPW.out; show _ ≤ p; omega)) _⟩
              unfold agTo
              rw [contains_take zs j _ HZj.out]
              by_cases e1 : s = k
              · subst e1
                by_cases e2 : x = o
                · subst e2; simp
                · rw [if_neg (fun h => e2 h.2)]
                  have : decide ((x : Int) = (o : Int)) = false := decide_eq_false (by omega)
                  simp [this]
              · rw [if_neg (fun h => e1 h.1)]
                simp [e1]
            case measure => simp [intOf]; omega
          · have H3 : Hid (∀ W, Calls Tryz.prog 24 #[.int .i64 z] W fun e w' => e = .returned (.bool false) ∧ w' = W) := fun W => by
              have := isOption_any W z
              rwa [decide_eq_false hz] at this
            have HZn := Lib.hid hz
            clear hz
            go_wp2_with (first
              | (go_at_call 24; refine (H3.out _).mono ?_; rintro e w' ⟨rfl, rfl⟩)
              | fail)
            go_roundw
            case rel =>
              refine ⟨j + 1, by omega, by go_num, hrel.out.1.congr (fun s x _ hx => ?_), hrel.out.2⟩
              unfold agTo
              rw [contains_take zs j _ HZj.out]
              have : decide ((x : Int) = z) = false := decide_eq_false (fun e => HZn.out ⟨by omega, by omega⟩)
              simp [this]
            case measure => simp [intOf]; omega
        · obtain rfl : j = n := by omega
          go_wp2
          go_roundw
          case rel =>
            refine ⟨k + 1, by omega, by go_num, hrel.out.1.congr (fun s x _ _ => ?_), hrel.out.2⟩
            unfold agTo
            rw [List.take_of_length_le (Nat.le_of_eq HZ.out.1), ← HAg.out]
            by_cases e1 : s = k
            · subst e1; simp
            · have : decide (s < k + 1) = decide (s < k) := decide_eq_decide.2 (by omega)
              simp [e1, this]
          case measure => simp [intOf]; omega
    · obtain rfl : k = 2 := by omega
      go_wp2
      go_ret
      exact ⟨p, rfl, hrel.out.1.congr (fun s x hs _ => by simp [hs]), by have := HPW.out; omega, hrel.out.2⟩
end Go.Proofs.YtlmkpembccehkaaGreatDoor
