/- Package gram: an item of its bytes. -/
import Derived.Test.YtbjabjkmagekfaaDoorGramOne
import Derived.Deep.RegionHeld3
namespace Go.Proofs.YtbjabjkmagekfaaDoor
open Go Go.RowKit
set_option maxRecDepth 100000
set_option maxHeartbeats 4000000

/-- An item's cells. -/
def itCells (x : It) (f t : Int) (v : Value) : List Value := [.int .i64 x.kind, .int .i64 f, .int .i64 t, .int .i64 x.code, .int .i64 x.opt, v]
theorem size_item : (Tryd.prog.info? 42).map (·.size) = some 6 := by kernel_rfl
theorem it_one (x : It) (f t : Int) (A : Option Addr) (n c : Nat) : ∀ v ∈ itCells x f t (.slice A n c), v.oneCell' = true := by
  intro v hv
  simp only [itCells, List.mem_cons, List.not_mem_nil, or_false] at hv
  rcases hv with rfl | rfl | rfl | rfl | rfl | rfl <;> rfl
/-- What item answers. -/
def IsItem (w : World) (x : It) (e : Ending) (w' : World) : Prop :=
  ∃ A c, e = .returned (.agg (itCells x 0 0 (.slice A x.body.length c)).toArray) ∧ Hid (Body w' w.heap.size (.slice A x.body.length c) x.body) ∧ Hid (Only (fun _ => False) w w')

theorem add_one_ (ad : Addr) : ad.add 1 = ⟨ad.block, ad.off + 1, none⟩ := by simp [Addr.add]
theorem add_two_ (ad : Addr) : ad.add 2 = ⟨ad.block, ad.off + 2, none⟩ := by simp [Addr.add]
theorem lt_at {w : World} {b o : Nat} {v : Value} (h : w.cell? ⟨b, o, none⟩ = some v) : b < w.heap.size := World.block_lt_of_cell? w ⟨b, o, none⟩ h
theorem item_one {w : World} {A : Option Addr} {n c : Nat} {xs : List UInt8} (hs : Src w A n xs) (hn : 0 < n) (d : UInt8) (hd : xs[0]? = some d) :
    Calls Tryd.prog 21 #[.int .i64 1, .slice A n c] w (IsItem w ⟨1, (d.toNat : Int), 0, []⟩) := by
  obtain ⟨ad, rfl, hcell⟩ := hs.2 hn
  have c0 := hcell 0 d hd
  unfold B8 at c0
  rw [show ad.add 0 = ad from by simp [Addr.add]] at c0
  have hw : wrap64 ((d.toNat : Nat) : Int) = (d.toNat : Int) := wrap64_nat _ (by have := d.toNat_lt; omega)
  have hlt := World.block_lt_of_cell? w _ c0
  clear hs hcell hd
  go_enter Tryd.func21, Tryd.ntmps21
  go_wp2
  refine ret_cell1 rfl _ rfl 42 (itCells ⟨1, (d.toNat : Int), 0, []⟩ 0 0 (.slice none 0 0)) _ ((Blk.new' _ _ _ rfl).alloc _) Tryd.underlying42 rfl size_item rfl ?_
  exact ⟨none, 0, rfl, nil_body _ _, ((Only.refl _ _).alloc _).alloc _⟩

theorem item_two {w : World} {A : Option Addr} {n c : Nat} {xs : List UInt8} (hs : Src w A n xs) (hn : 1 < n) (k : Int) (hk : k = 2 ∨ k = 3) (d : UInt8) (hd : xs[1]? = some d) :
    Calls Tryd.prog 21 #[.int .i64 k, .slice A n c] w (IsItem w ⟨k, (d.toNat : Int), 0, []⟩) := by
  obtain ⟨ad, rfl, hcell⟩ := hs.2 (by omega)
  have c0 := hcell 1 d hd
  unfold B8 at c0
  have hw : wrap64 ((d.toNat : Nat) : Int) = (d.toNat : Int) := wrap64_nat _ (by have := d.toNat_lt; omega)
  rw [add_one_] at c0
  have hlt := lt_at c0
  clear hs hcell hd
  rcases hk with rfl | rfl
  · go_enter Tryd.func21, Tryd.ntmps21
    go_wp2
    refine ret_cell1 rfl _ rfl 42 (itCells ⟨2, (d.toNat : Int), 0, []⟩ 0 0 (.slice none 0 0)) _ ((Blk.new' _ _ _ rfl).alloc _) Tryd.underlying42 rfl size_item rfl ?_
    exact ⟨none, 0, rfl, nil_body _ _, ((Only.refl _ _).alloc _).alloc _⟩
  · go_enter Tryd.func21, Tryd.ntmps21
    go_wp2
    refine ret_cell1 rfl _ rfl 42 (itCells ⟨3, (d.toNat : Int), 0, []⟩ 0 0 (.slice none 0 0)) _ ((Blk.new' _ _ _ rfl).alloc _) Tryd.underlying42 rfl size_item rfl ?_
    exact ⟨none, 0, rfl, nil_body _ _, ((Only.refl _ _).alloc _).alloc _⟩

theorem item_verb {w : World} {A : Option Addr} {n c : Nat} {xs : List UInt8} (hs : Src w A n xs) (hn : 2 < n) (d e : UInt8) (hd : xs[1]? = some d) (he : xs[2]? = some e) :
    Calls Tryd.prog 21 #[.int .i64 4, .slice A n c] w (IsItem w ⟨4, (d.toNat : Int), (e.toNat : Int), []⟩) := by
  obtain ⟨ad, rfl, hcell⟩ := hs.2 (by omega)
  have c1 := hcell 1 d hd
  have c2 := hcell 2 e he
  unfold B8 at c1 c2
  have hw : wrap64 ((d.toNat : Nat) : Int) = (d.toNat : Int) := wrap64_nat _ (by have := d.toNat_lt; omega)
  have hw2 : wrap64 ((e.toNat : Nat) : Int) = (e.toNat : Int) := wrap64_nat _ (by have := e.toNat_lt; omega)
  rw [add_one_] at c1
  rw [add_two_] at c2
  have hlt := lt_at c1
  have h1 : (1 : Int) < (n : Int) := by omega
  have h2 : (2 : Int) < (n : Int) := by omega
  have hv : IntKind.i64.wrap ((d.toNat : Nat) : Int) = (d.toNat : Int) := IntWalk.i64_in _ (by have := d.toNat_lt; omega)
  have hv2 : IntKind.i64.wrap ((e.toNat : Nat) : Int) = (e.toNat : Int) := IntWalk.i64_in _ (by have := e.toNat_lt; omega)
  clear hs hcell hd he
  go_enter Tryd.func21, Tryd.ntmps21
  go_wp2_with fail
  have hne : w.heap.size + 1 ≠ ad.block := by omega
  go_region_held3 (fun W => W.cell? ⟨ad.block, ad.off + 1, none⟩ = some (.int .u8 (d.toNat : Int)) ∧ W.cell? ⟨ad.block, ad.off + 2, none⟩ = some (.int .u8 (e.toNat : Int)))
    (go_keep)
    (fail)
  all_goals
    go_wp2
    refine ret_cell1 rfl _ rfl 42 (itCells ⟨4, (d.toNat : Int), (e.toNat : Int), []⟩ 0 0 (.slice none 0 0)) _ (((Blk.new' _ _ _ rfl).alloc _).drew) Tryd.underlying42 rfl size_item rfl ?_
    exact ⟨none, 0, rfl, nil_body _ _, (((Only.refl _ _).alloc _).alloc _).drew⟩

theorem item_sub {w : World} {A : Option Addr} {n c : Nat} {xs : List UInt8} (hs : Src w A n xs) (k : Nat) (hn : n = k + 5) (hn2 : n ≤ 1048576) (hc : n ≤ c) (e : UInt8) (he : xs[2]? = some e) :
    Calls Tryd.prog 21 #[.int .i64 5, .slice A n c] w (IsItem w ⟨5, 0, (e.toNat : Int), single ((xs.drop 3).take k)⟩) := by
  obtain ⟨ad, rfl, hcell⟩ := hs.2 (by omega)
  have c2 := hcell 2 e he
  unfold B8 at c2
  rw [add_two_] at c2
  have hw2 : wrap64 ((e.toNat : Nat) : Int) = (e.toNat : Int) := wrap64_nat _ (by have := e.toNat_lt; omega)
  have hlt := lt_at c2
  have h2 : (2 : Int) < (n : Int) := by omega
  have hv2 : IntKind.i64.wrap ((e.toNat : Nat) : Int) = (e.toNat : Int) := IntWalk.i64_in _ (by have := e.toNat_lt; omega)
  obtain ⟨q, hq⟩ : ∃ q, q = k + 3 := ⟨_, rfl⟩
  have hs2 : IntKind.i64.wrap ((n : Int) - 2) = (q : Int) := by rw [IntWalk.i64_in _ (by omega)]; omega
  have hk3 : (3 : Int) ≤ (q : Int) := by omega
  have hkn : (q : Int) ≤ (c : Int) := by omega
  have hk3' : 3 ≤ q := by omega
  have hkn' : q ≤ c := by omega
  have hc3 : c ≠ 3 := by omega
  have hsub : Src w (some ⟨ad.block, ad.off + 3, none⟩) k ((xs.drop 3).take k) := by
    have hl := hs.1
    refine ⟨by rw [List.length_take, List.length_drop]; omega, fun _ => ⟨_, rfl, fun j x hx => ?_⟩⟩
    rw [List.getElem?_take] at hx
    split at hx
    · rw [List.getElem?_drop] at hx
      have := hcell (3 + j) x hx
      rw [← this, show (⟨ad.block, ad.off + 3, none⟩ : Addr) = ad.add 3 from by simp [Addr.add], Go.Deep.add_add]
    · cases hx
  obtain ⟨ys, hys⟩ : ∃ ys, ys = (xs.drop 3).take k := ⟨_, rfl⟩
  rw [← hys] at hsub ⊢
  obtain ⟨m, hm⟩ : ∃ m, m = (single ys).length := ⟨_, rfl⟩
  have HS : Hid (∀ W, Only (fun _ => False) w W → Calls Tryd.prog 30 #[.slice (some ⟨ad.block, ad.off + 3, none⟩) (q - 3) (c - 3)] W fun e w' => ∃ A' c', e = .returned (.slice A' m c') ∧ Hid (Body w' W.heap.size (.slice A' m c') (single ys)) ∧ Hid (Only (fun _ => False) W w')) := fun W ho => by
    rw [hm, show q - 3 = k by omega]
    exact single_any (hsub.only ho (fun _ _ _ h => h)) (by omega)
  have HM := Lib.hid hm
  clear hcell he hs hsub hys hm hn hc hn2 hq
  obtain ⟨N, hN⟩ : ∃ N, N = w.heap.size := ⟨_, rfl⟩
  rw [← hN] at hlt
  have HN := Lib.hid hN
  clear hN
  go_enter Tryd.func21, Tryd.ntmps21
  go_wp2_with fail
  rw [← HN.out]
  obtain ⟨W0, hW0⟩ : ∃ W0, W0 = (w.alloc (.cells (itCells It.none 0 0 (.slice none 0 0)).toArray 42)).alloc (.cells (itCells ⟨5, 0, 0, []⟩ 0 0 (.slice none 0 0)).toArray 42) := ⟨_, rfl⟩
  have HB0 : Hid (Blk W0 N 42 (itCells It.none 0 0 (.slice none 0 0))) := by rw [hW0]; exact (Blk.new' _ _ _ HN.out.symm).alloc _
  have HB1 : Hid (Blk W0 (N + 1) 42 (itCells ⟨5, 0, 0, []⟩ 0 0 (.slice none 0 0))) := by rw [hW0]; exact Blk.new' _ _ _ (by simp; exact HN.out.symm)
  have HO : Hid (Only (fun _ => False) w W0) := by rw [hW0]; exact ((Only.refl _ _).alloc _).alloc _
  dsimp only [itCells, It.none] at hW0
  rw [← hW0]
  have hc2 := HO.out.cellv c2 (fun h => h)
  have c4 : W0.cell? ⟨N + 1, 4, none⟩ = some (.int .i64 0) := by rw [HB1.out.cell]; rfl
  have c5 : W0.cell? ⟨N + 1, 5, none⟩ = some (.slice none 0 0) := by rw [HB1.out.cell]; rfl
  have f4 := HB1.out.frozen 4
  have f5 := HB1.out.frozen 5
  have hne : N + 1 ≠ ad.block := by omega
  clear hW0 c2
  go_region_held3 (fun W => W.cell? ⟨ad.block, ad.off + 2, none⟩ = some (.int .u8 (e.toNat : Int)))
    (first | go_keep)
    (first | (go_at_call 30; refine (HS.out _ HO.out.drew).mono ?_; rintro e' w1 ⟨A1, c1, rfl, hb1, ho1⟩; have hc2' : w1.cell? ⟨ad.block, ad.off + 2, none⟩ = some (.int .u8 (e.toNat : Int)) := ho1.out.cellv (show W0.drew.cell? _ = _ from hc2) (fun h => h); have HBW : Hid (Blk w1 (N + 1) 42 (itCells ⟨5, 0, 0, []⟩ 0 0 (.slice none 0 0))) := HB1.out.drew.only ho1.out (fun h => h); have c4' : w1.cell? ⟨N + 1, 4, none⟩ = some (.int .i64 0) := (by rw [HBW.out.cell]; rfl); have c5' : w1.cell? ⟨N + 1, 5, none⟩ = some (.slice none 0 0) := (by rw [HBW.out.cell]; rfl); have f4' := HBW.out.frozen 4; have f5' := HBW.out.frozen 5))
  have HB2 : Hid (Blk ((w1.setCell ⟨N + 1, 4, none⟩ (.int .i64 (e.toNat : Int))).setCell ⟨N + 1, 5, none⟩ (.slice A1 m c1)) (N + 1) 42 (itCells ⟨5, 0, (e.toNat : Int), []⟩ 0 0 (.slice A1 m c1))) := (HBW.out.setCell 4 _).setCell 5 _
  have HO2 : Hid (Only (fun i => i = N + 1) w1 ((w1.setCell ⟨N + 1, 4, none⟩ (.int .i64 (e.toNat : Int))).setCell ⟨N + 1, 5, none⟩ (.slice A1 m c1))) := ((Only.refl (fun i => i = N + 1) w1).setCell (p := ⟨N + 1, 4, none⟩) (.inl rfl) _).setCell (p := ⟨N + 1, 5, none⟩) (.inl rfl) _
  obtain ⟨W2, hW2⟩ : ∃ W2, W2 = (w1.setCell ⟨N + 1, 4, none⟩ (.int .i64 (e.toNat : Int))).setCell ⟨N + 1, 5, none⟩ (.slice A1 m c1) := ⟨_, rfl⟩
  rw [← hW2] at HB2 HO2 ⊢
  clear hW2 c4 c5 f4 f5 hc2 c4' c5' f4' f5' hc2'
  have HBN : Hid (Blk W2 N 42 (itCells It.none 0 0 (.slice none 0 0))) := (HB0.out.drew.only ho1.out (fun h => h)).only HO2.out (by omega)
  go_wp2_with (first
    | ((with_reducible show wpList _ _ _ (⟨some 50, _, _, _, _, _⟩ :: _) _ _); refine wpList_load_mid rfl 42 (.tmp 5) rfl (N + 1) 0 rfl _ _ (range_of HB2.out) Tryd.underlying42 rfl size_item ?_)
    | ((with_reducible show wpList _ _ _ (⟨none, .store 42 _ _, _, _, _, _⟩ :: _) _ _); refine step_store rfl 42 _ _ rfl N rfl (itCells ⟨5, 0, (e.toNat : Int), []⟩ 0 0 (.slice A1 m c1)) rfl _ _ HBN.out size_item rfl (it_one _ _ _ _ _ _) ?_; intro w3 hB3 hz3 ho3))
  refine ret_cell1 rfl _ rfl _ _ _ hB3.out Tryd.underlying42 rfl size_item rfl ?_
  have hm := HM.out
  subst hm
  have hz : w.heap.size ≤ W0.heap.size := HO.out.size
  refine ⟨A1, c1, rfl, ?_, ?_⟩
  · refine own_mono (own_only (own_only hb1.out HO2.out ?_) ho3 ?_) hz
    · intro q hq he
      have := (own_lt hb1.out q hq).1
      have h2 := HB1.out.lt
      replace this : W0.heap.size ≤ q := this
      omega
    · intro q hq he
      have := (own_lt hb1.out q hq).1
      have h2 := HB1.out.lt
      replace this : W0.heap.size ≤ q := this
      omega
  · have hN := HN.out
    exact ((HO.out.drew.trans ho1.out (fun _ h => h.elim)).trans HO2.out (fun i hi => .inr (by omega))).trans ho3 (fun i hi => .inr (by omega))

/-- item of an item's bytes. -/
theorem item_any {w : World} {A : Option Addr} {n c : Nat} {s : List UInt8} {x : It} (hf : Form s x n) (hs : Src w A n (s.take n)) (hn : n ≤ 1048576) (hc : n ≤ c) :
    Calls Tryd.prog 21 #[.int .i64 x.kind, .slice A n c] w (IsItem w x) := by
  have hl := hs.1
  have at_ : ∀ (i : Nat) (d : UInt8), i < n → s[i]? = some d → (s.take n)[i]? = some d := fun i d hi hd => by rw [List.getElem?_take, if_pos hi]; exact hd
  cases hf with
  | one d n h0 hn => exact item_one hs (by omega) d (at_ 0 d (by omega) h0)
  | pair d h1 hd => exact item_two hs (by omega) 2 (.inl rfl) d (at_ 1 d (by omega) h1)
  | plain d h1 => exact item_two hs (by omega) 3 (.inr rfl) d (at_ 1 d (by omega) h1)
  | verb d e h1 h2 => exact item_verb hs (by omega) d e (at_ 1 d (by omega) h1) (at_ 2 e (by omega) h2)
  | sub e k h2 hk =>
    have := item_sub hs k rfl hn hc e (at_ 2 e (by omega) h2)
    have e1 : ((s.take (k + 5)).drop 3).take k = (s.drop 3).take k := by
      rw [List.drop_take, List.take_take]
      congr 1
      omega
    rw [e1] at this
    exact this
end Go.Proofs.YtbjabjkmagekfaaDoor
