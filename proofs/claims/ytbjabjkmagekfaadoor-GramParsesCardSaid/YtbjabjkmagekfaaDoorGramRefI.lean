/- The document's item of all bytes, a walk for each way. -/
import Derived.Test.YtbjabjkmagekfaaDoorGramRef
namespace Go.Proofs.YtbjabjkmagekfaaDoor
open Go Go.RowKit
set_option maxRecDepth 100000
set_option maxHeartbeats 8000000

/-- Such a token as layer 5 cuts off. -/
def NextOk (o : Option (Tk × Nat)) : Prop := match o with
  | .none => True
  | some (t, n) => 0 < n ∧ n ≤ 100000 ∧ (t.kind = 1 ∨ t.kind = 2 ∨ t.kind = 3 ∨ t.kind = 4 ∨ t.kind = 5)
/-- A struct's answer, the cells spelt out. -/
theorem nexts_flat {W : World} {s : List UInt8} {k c o_ : Int} {b : List UInt8} {cut_ : Bool} {n : Nat} (h : Nexts W s (some (⟨k, c, o_, b, cut_⟩, n))) :
    Calls Tryd.prog 32 #[.string ⟨s.toArray⟩] W fun e w' => e = .returned (.tuple #[.agg #[.int .i64 k, .int .i64 c, .int .i64 o_, .string ⟨b.toArray⟩, .bool cut_], .int .i64 (n : Int)]) ∧ Hid (Only (fun _ => False) W w') := h
theorem nexts_none {W : World} {s : List UInt8} (h : Nexts W s .none) :
    Calls Tryd.prog 32 #[.string ⟨s.toArray⟩] W fun e w' => e = .returned (.tuple #[.agg #[.int .i64 0, .int .i64 0, .int .i64 0, .string ⟨#[]⟩, .bool false], .int .i64 0]) ∧ Hid (Only (fun _ => False) W w') := h

theorem gi_ret_short (w : World) (s : List UInt8) (raw : Bool) (x : UInt8) (h0 : s[0]? = some x) (hx : x.toNat = 13) (hr : raw = false) (hl : s.length = 1) :
    Calls Tryd.prog 23 #[.string ⟨s.toArray⟩, .bool raw] w (RItem w .few) := by
  have n0 := get_lt h0
  have i0 := str_get h0 n0
  have gx13 : (((x.toNat : Nat) : Int) == 13) = true := beq_iff_eq.2 (by omega)
  have gx13' : decide (((x.toNat : Nat) : Int) = 13) = true := decide_eq_true (by omega)
  have hl1 : ((s.length : Int) == 1) = true := beq_iff_eq.2 (by omega)
  subst hr
  clear h0 hx hl
  go_enter Tryd.func23, Tryd.ntmps23
  go_wp2
  refine ret_cell2 rfl _ rfl _ (riCells .none 0 0) _ (Blk.new' _ _ _ rfl) Tryd.underlying44 rfl size_ritem rfl ?_
  exact ⟨rfl, (Only.refl _ _).alloc _⟩

theorem gi_pair0 (w : World) (s : List UInt8) (raw : Bool) (x : UInt8) (h0 : s[0]? = some x) (y : UInt8) (h1 : s[1]? = some y) (hx : x.toNat = 13) (hr : raw = false) (hy : y.toNat = 0) :
    Calls Tryd.prog 23 #[.string ⟨s.toArray⟩, .bool raw] w (RItem w (.got ⟨2, (y.toNat : Int), 0, []⟩ 2)) := by
  have n0 := get_lt h0
  have i0 := str_get h0 n0
  have n1 := get_lt h1
  have i1 := str_get h1 n1
  have hwy : wrap64 ((y.toNat : Nat) : Int) = (y.toNat : Int) := wrap64_nat _ (by have := y.toNat_lt; omega)
  have gx13 : (((x.toNat : Nat) : Int) == 13) = true := beq_iff_eq.2 (by omega)
  have gx13' : decide (((x.toNat : Nat) : Int) = 13) = true := decide_eq_true (by omega)
  have hl1 : ((s.length : Int) == 1) = false := beq_eq_false_iff_ne.2 (by omega)
  have gy0 : (((y.toNat : Nat) : Int) == 0) = true := beq_iff_eq.2 (by omega)
  have gy0' : decide (((y.toNat : Nat) : Int) = 0) = true := decide_eq_true (by omega)
  have gy10 : (((y.toNat : Nat) : Int) == 10) = false := beq_eq_false_iff_ne.2 (by omega)
  have gy10' : decide (((y.toNat : Nat) : Int) = 10) = false := decide_eq_false (by omega)
  subst hr
  clear h0 h1 hx hy
  go_enter Tryd.func23, Tryd.ntmps23
  go_wp2
  refine ret_cell2 rfl _ rfl _ (riCells ⟨2, (y.toNat : Int), 0, []⟩ 0 0) _ (Blk.new' _ _ _ rfl) Tryd.underlying44 rfl size_ritem rfl ?_
  exact ⟨rfl, (Only.refl _ _).alloc _⟩

theorem gi_pair10 (w : World) (s : List UInt8) (raw : Bool) (x : UInt8) (h0 : s[0]? = some x) (y : UInt8) (h1 : s[1]? = some y) (hx : x.toNat = 13) (hr : raw = false) (hy : y.toNat = 10) :
    Calls Tryd.prog 23 #[.string ⟨s.toArray⟩, .bool raw] w (RItem w (.got ⟨2, (y.toNat : Int), 0, []⟩ 2)) := by
  have n0 := get_lt h0
  have i0 := str_get h0 n0
  have n1 := get_lt h1
  have i1 := str_get h1 n1
  have hwy : wrap64 ((y.toNat : Nat) : Int) = (y.toNat : Int) := wrap64_nat _ (by have := y.toNat_lt; omega)
  have gx13 : (((x.toNat : Nat) : Int) == 13) = true := beq_iff_eq.2 (by omega)
  have gx13' : decide (((x.toNat : Nat) : Int) = 13) = true := decide_eq_true (by omega)
  have hl1 : ((s.length : Int) == 1) = false := beq_eq_false_iff_ne.2 (by omega)
  have gy10 : (((y.toNat : Nat) : Int) == 10) = true := beq_iff_eq.2 (by omega)
  have gy10' : decide (((y.toNat : Nat) : Int) = 10) = true := decide_eq_true (by omega)
  have gy0 : (((y.toNat : Nat) : Int) == 0) = false := beq_eq_false_iff_ne.2 (by omega)
  have gy0' : decide (((y.toNat : Nat) : Int) = 0) = false := decide_eq_false (by omega)
  subst hr
  clear h0 h1 hx hy
  go_enter Tryd.func23, Tryd.ntmps23
  go_wp2
  refine ret_cell2 rfl _ rfl _ (riCells ⟨2, (y.toNat : Int), 0, []⟩ 0 0) _ (Blk.new' _ _ _ rfl) Tryd.underlying44 rfl size_ritem rfl ?_
  exact ⟨rfl, (Only.refl _ _).alloc _⟩

theorem gi_sub (w : World) (s : List UInt8) (raw : Bool) (x : UInt8) (h0 : s[0]? = some x) (y : UInt8) (h1 : s[1]? = some y) (hx : x.toNat = 255) (hy : y.toNat = 250) (hl : 2 < s.length) (R : Cut) (hsub : ∀ W, Calls Tryd.prog 31 #[.string ⟨s.toArray⟩] W (RItem W R)) :
    Calls Tryd.prog 23 #[.string ⟨s.toArray⟩, .bool raw] w (RItem w R) := by
  have n0 := get_lt h0
  have i0 := str_get h0 n0
  have n1 := get_lt h1
  have i1 := str_get h1 n1
  have gx13 : (((x.toNat : Nat) : Int) == 13) = false := beq_eq_false_iff_ne.2 (by omega)
  have gx13' : decide (((x.toNat : Nat) : Int) = 13) = false := decide_eq_false (by omega)
  have gx255 : (((x.toNat : Nat) : Int) == 255) = true := beq_iff_eq.2 (by omega)
  have gx255' : decide (((x.toNat : Nat) : Int) = 255) = true := decide_eq_true (by omega)
  have gy250 : (((y.toNat : Nat) : Int) == 250) = true := beq_iff_eq.2 (by omega)
  have gy250' : decide (((y.toNat : Nat) : Int) = 250) = true := decide_eq_true (by omega)
  have hl2 : decide ((2 : Int) < (s.length : Int)) = true := by simp; omega
  obtain ⟨cs, hcs⟩ : ∃ cs, cs = riCells (cutIt R) 0 0 := ⟨_, rfl⟩
  obtain ⟨k, hk⟩ : ∃ k : Int, k = cutN R := ⟨_, rfl⟩
  have HL : Hid (cs.length = 6) := by rw [hcs]; rfl
  have HO : Hid (∀ v ∈ cs, v.oneCell' = true) := by rw [hcs]; exact ri_one _ _ _
  have HC : Hid (∀ W, Calls Tryd.prog 31 #[.string ⟨s.toArray⟩] W fun e w' => e = .returned (.tuple #[.agg cs.toArray, .int .i64 k]) ∧ Hid (Only (fun _ => False) W w')) := fun W => by
    rw [hcs, hk]
    exact hsub W
  unfold RItem
  rw [← hcs, ← hk]
  clear h0 h1 hx hy hsub hcs hk hl
  go_enter Tryd.func23, Tryd.ntmps23
  go_wp2_with (first
    | (go_at_call 31; refine (HC.out _).mono ?_; rintro e' w1 ⟨rfl, ho1⟩)
    | ((with_reducible show wpList _ _ _ (⟨none, .store 44 _ _, _, _, _, _⟩ :: _) _ _); refine step_store rfl 44 _ _ rfl w.heap.size rfl cs rfl _ (riCells .none 0 0) ((Blk.new w 44 (riCells .none 0 0)).only ho1.out (fun h => h)) (by rw [HL.out]; exact size_ritem) HL.out.symm HO.out ?_; intro w2 hB2 hz2 ho2))
  refine ret_cell2 rfl _ rfl _ _ _ hB2.out Tryd.underlying44 rfl (by rw [HL.out]; exact size_ritem) rfl ?_
  exact ⟨rfl, (((Only.refl (fun _ => False) w).alloc _).trans ho1.out (fun _ h => h.elim)).trans ho2 (fun i hi => .inr (by omega))⟩

theorem gi_n1 (w : World) (s : List UInt8) (raw : Bool) (x : UInt8) (h0 : s[0]? = some x) (hx : x.toNat ≠ 255 ∧ x.toNat ≠ 13) (o : Option (Tk × Nat)) (ho : NextOk o) (HN : ∀ W, Nexts W s o) :
    Calls Tryd.prog 23 #[.string ⟨s.toArray⟩, .bool raw] w (RItem w (cutOf o)) := by
  have n0 := get_lt h0
  have i0 := str_get h0 n0
  have gx13 : (((x.toNat : Nat) : Int) == 13) = false := beq_eq_false_iff_ne.2 (by omega)
  have gx13' : decide (((x.toNat : Nat) : Int) = 13) = false := decide_eq_false (by omega)
  have gx255 : (((x.toNat : Nat) : Int) == 255) = false := beq_eq_false_iff_ne.2 (by omega)
  have gx255' : decide (((x.toNat : Nat) : Int) = 255) = false := decide_eq_false (by omega)
  clear h0 hx
  cases o with
  | none =>
    have HC := Lib.hid (fun W => nexts_none (HN W))
    clear HN ho
    go_enter Tryd.func23, Tryd.ntmps23
    go_wp2_with (first | (go_at_call 32; refine (HC.out _).mono ?_; rintro e' w1 ⟨rfl, ho1⟩; have hB1 : Hid (Blk w1 w.heap.size 44 (riCells .none 0 0)) := (Blk.new w 44 (riCells .none 0 0)).only ho1.out (fun h => h)) | ((with_reducible show wpList _ _ _ (⟨none, .store 44 _ _, _, _, _, _⟩ :: _) _ _); refine step_store rfl 44 _ _ rfl w.heap.size rfl (riCells .none 0 0) rfl _ (riCells .none 0 0) (hB1.out.alloc _) size_ritem rfl (ri_one _ _ _) ?_; intro w2 hB2 hz2 ho2))
    refine ret_cell2 rfl _ rfl _ _ _ hB2.out Tryd.underlying44 rfl size_ritem rfl ?_
    exact ⟨rfl, ((((Only.refl (fun _ => False) w).alloc _).trans ho1.out (fun _ h => h.elim)).alloc _).trans ho2 (fun i hi => .inr (by omega))⟩
  | some o =>
    obtain ⟨⟨k, c, o_, b, cut_⟩, n⟩ := o
    obtain ⟨hn0, hn1, hk⟩ := ho
    have HC := Lib.hid (fun W => nexts_flat (HN W))
    have en : ((n : Int) == 0) = false := beq_eq_false_iff_ne.2 (by omega)
    have en' : decide ((n : Int) = 0) = false := decide_eq_false (by omega)
    have en2 : decide (n = 0) = false := decide_eq_false (by omega)
    simp only at hk
    have hne : ¬ n = 0 := by omega
    clear HN
    rcases hk with rfl | rfl | rfl | rfl | rfl
    · have er : cutOf (some (⟨1, c, o_, b, cut_⟩, n)) = (.got ⟨1, c, 0, []⟩ n) := by simp [cutOf]
      rw [er]
      clear er
      go_enter Tryd.func23, Tryd.ntmps23
      go_wp2_with (first | (go_at_call 32; refine (HC.out _).mono ?_; rintro e' w1 ⟨rfl, ho1⟩; have hB1 : Hid (Blk w1 w.heap.size 44 (riCells .none 0 0)) := (Blk.new w 44 (riCells .none 0 0)).only ho1.out (fun h => h)) | ((with_reducible show wpList _ _ _ (⟨none, .store 44 _ _, _, _, _, _⟩ :: _) _ _); refine step_store rfl 44 _ _ rfl w.heap.size rfl (riCells ⟨1, c, 0, []⟩ 0 0) rfl _ (riCells .none 0 0) (hB1.out.alloc _) size_ritem rfl (ri_one _ _ _) ?_; intro w2 hB2 hz2 ho2))
      refine ret_cell2 rfl _ rfl _ _ _ hB2.out Tryd.underlying44 rfl size_ritem rfl ?_
      exact ⟨rfl, ((((Only.refl (fun _ => False) w).alloc _).trans ho1.out (fun _ h => h.elim)).alloc _).trans ho2 (fun i hi => .inr (by omega))⟩
    · by_cases hc : 240 < c
      · have er : cutOf (some (⟨2, c, o_, b, cut_⟩, n)) = (.got ⟨3, c, 0, []⟩ n) := by simp [cutOf, hc]
        rw [er]
        clear er
        have hd : decide ((240 : Int) < c) = true := decide_eq_true hc
        go_enter Tryd.func23, Tryd.ntmps23
        go_wp2_with (first | (go_at_call 32; refine (HC.out _).mono ?_; rintro e' w1 ⟨rfl, ho1⟩; have hB1 : Hid (Blk w1 w.heap.size 44 (riCells .none 0 0)) := (Blk.new w 44 (riCells .none 0 0)).only ho1.out (fun h => h)) | ((with_reducible show wpList _ _ _ (⟨none, .store 44 _ _, _, _, _, _⟩ :: _) _ _); refine step_store rfl 44 _ _ rfl w.heap.size rfl (riCells ⟨3, c, 0, []⟩ 0 0) rfl _ (riCells .none 0 0) (hB1.out.alloc _) size_ritem rfl (ri_one _ _ _) ?_; intro w2 hB2 hz2 ho2))
        refine ret_cell2 rfl _ rfl _ _ _ hB2.out Tryd.underlying44 rfl size_ritem rfl ?_
        exact ⟨rfl, ((((Only.refl (fun _ => False) w).alloc _).trans ho1.out (fun _ h => h.elim)).alloc _).trans ho2 (fun i hi => .inr (by omega))⟩
      · have er : cutOf (some (⟨2, c, o_, b, cut_⟩, n)) = .bad := by simp [cutOf, hc]
        rw [er]
        clear er
        have hd : decide ((240 : Int) < c) = false := decide_eq_false hc
        go_enter Tryd.func23, Tryd.ntmps23
        go_wp2_with (first | (go_at_call 32; refine (HC.out _).mono ?_; rintro e' w1 ⟨rfl, ho1⟩; have hB1 : Hid (Blk w1 w.heap.size 44 (riCells .none 0 0)) := (Blk.new w 44 (riCells .none 0 0)).only ho1.out (fun h => h)) | ((with_reducible show wpList _ _ _ (⟨none, .store 44 _ _, _, _, _, _⟩ :: _) _ _); refine step_store rfl 44 _ _ rfl w.heap.size rfl (riCells It.none 0 0) rfl _ (riCells .none 0 0) (hB1.out.alloc _) size_ritem rfl (ri_one _ _ _) ?_; intro w2 hB2 hz2 ho2))
        refine ret_cell2 rfl _ rfl _ _ _ hB2.out Tryd.underlying44 rfl size_ritem rfl ?_
        exact ⟨rfl, ((((Only.refl (fun _ => False) w).alloc _).trans ho1.out (fun _ h => h.elim)).alloc _).trans ho2 (fun i hi => .inr (by omega))⟩
    · have er : cutOf (some (⟨3, c, o_, b, cut_⟩, n)) = (.got ⟨4, c, o_, []⟩ n) := by simp [cutOf]
      rw [er]
      clear er
      go_enter Tryd.func23, Tryd.ntmps23
      go_wp2_with (first | (go_at_call 32; refine (HC.out _).mono ?_; rintro e' w1 ⟨rfl, ho1⟩; have hB1 : Hid (Blk w1 w.heap.size 44 (riCells .none 0 0)) := (Blk.new w 44 (riCells .none 0 0)).only ho1.out (fun h => h)) | ((with_reducible show wpList _ _ _ (⟨none, .store 44 _ _, _, _, _, _⟩ :: _) _ _); refine step_store rfl 44 _ _ rfl w.heap.size rfl (riCells ⟨4, c, o_, []⟩ 0 0) rfl _ (riCells .none 0 0) (hB1.out.alloc _) size_ritem rfl (ri_one _ _ _) ?_; intro w2 hB2 hz2 ho2))
      refine ret_cell2 rfl _ rfl _ _ _ hB2.out Tryd.underlying44 rfl size_ritem rfl ?_
      exact ⟨rfl, ((((Only.refl (fun _ => False) w).alloc _).trans ho1.out (fun _ h => h.elim)).alloc _).trans ho2 (fun i hi => .inr (by omega))⟩
    · have er : cutOf (some (⟨4, c, o_, b, cut_⟩, n)) = .bad := by simp [cutOf]
      rw [er]
      clear er
      go_enter Tryd.func23, Tryd.ntmps23
      go_wp2_with (first | (go_at_call 32; refine (HC.out _).mono ?_; rintro e' w1 ⟨rfl, ho1⟩; have hB1 : Hid (Blk w1 w.heap.size 44 (riCells .none 0 0)) := (Blk.new w 44 (riCells .none 0 0)).only ho1.out (fun h => h)) | ((with_reducible show wpList _ _ _ (⟨none, .store 44 _ _, _, _, _, _⟩ :: _) _ _); refine step_store rfl 44 _ _ rfl w.heap.size rfl (riCells It.none 0 0) rfl _ (riCells .none 0 0) (hB1.out.alloc _) size_ritem rfl (ri_one _ _ _) ?_; intro w2 hB2 hz2 ho2))
      refine ret_cell2 rfl _ rfl _ _ _ hB2.out Tryd.underlying44 rfl size_ritem rfl ?_
      exact ⟨rfl, ((((Only.refl (fun _ => False) w).alloc _).trans ho1.out (fun _ h => h.elim)).alloc _).trans ho2 (fun i hi => .inr (by omega))⟩
    · have er : cutOf (some (⟨5, c, o_, b, cut_⟩, n)) = .bad := by simp [cutOf]
      rw [er]
      clear er
      go_enter Tryd.func23, Tryd.ntmps23
      go_wp2_with (first | (go_at_call 32; refine (HC.out _).mono ?_; rintro e' w1 ⟨rfl, ho1⟩; have hB1 : Hid (Blk w1 w.heap.size 44 (riCells .none 0 0)) := (Blk.new w 44 (riCells .none 0 0)).only ho1.out (fun h => h)) | ((with_reducible show wpList _ _ _ (⟨none, .store 44 _ _, _, _, _, _⟩ :: _) _ _); refine step_store rfl 44 _ _ rfl w.heap.size rfl (riCells It.none 0 0) rfl _ (riCells .none 0 0) (hB1.out.alloc _) size_ritem rfl (ri_one _ _ _) ?_; intro w2 hB2 hz2 ho2))
      refine ret_cell2 rfl _ rfl _ _ _ hB2.out Tryd.underlying44 rfl size_ritem rfl ?_
      exact ⟨rfl, ((((Only.refl (fun _ => False) w).alloc _).trans ho1.out (fun _ h => h.elim)).alloc _).trans ho2 (fun i hi => .inr (by omega))⟩

theorem gi_n2 (w : World) (s : List UInt8) (raw : Bool) (x : UInt8) (h0 : s[0]? = some x) (hx : x.toNat = 13) (hr : raw = true) (o : Option (Tk × Nat)) (ho : NextOk o) (HN : ∀ W, Nexts W s o) :
    Calls Tryd.prog 23 #[.string ⟨s.toArray⟩, .bool raw] w (RItem w (cutOf o)) := by
  have n0 := get_lt h0
  have i0 := str_get h0 n0
  have gx13 : (((x.toNat : Nat) : Int) == 13) = true := beq_iff_eq.2 (by omega)
  have gx13' : decide (((x.toNat : Nat) : Int) = 13) = true := decide_eq_true (by omega)
  have gx255 : (((x.toNat : Nat) : Int) == 255) = false := beq_eq_false_iff_ne.2 (by omega)
  have gx255' : decide (((x.toNat : Nat) : Int) = 255) = false := decide_eq_false (by omega)
  subst hr
  clear h0 hx
  cases o with
  | none =>
    have HC := Lib.hid (fun W => nexts_none (HN W))
    clear HN ho
    go_enter Tryd.func23, Tryd.ntmps23
    go_wp2_with (first | (go_at_call 32; refine (HC.out _).mono ?_; rintro e' w1 ⟨rfl, ho1⟩; have hB1 : Hid (Blk w1 w.heap.size 44 (riCells .none 0 0)) := (Blk.new w 44 (riCells .none 0 0)).only ho1.out (fun h => h)) | ((with_reducible show wpList _ _ _ (⟨none, .store 44 _ _, _, _, _, _⟩ :: _) _ _); refine step_store rfl 44 _ _ rfl w.heap.size rfl (riCells .none 0 0) rfl _ (riCells .none 0 0) (hB1.out.alloc _) size_ritem rfl (ri_one _ _ _) ?_; intro w2 hB2 hz2 ho2))
    refine ret_cell2 rfl _ rfl _ _ _ hB2.out Tryd.underlying44 rfl size_ritem rfl ?_
    exact ⟨rfl, ((((Only.refl (fun _ => False) w).alloc _).trans ho1.out (fun _ h => h.elim)).alloc _).trans ho2 (fun i hi => .inr (by omega))⟩
  | some o =>
    obtain ⟨⟨k, c, o_, b, cut_⟩, n⟩ := o
    obtain ⟨hn0, hn1, hk⟩ := ho
    have HC := Lib.hid (fun W => nexts_flat (HN W))
    have en : ((n : Int) == 0) = false := beq_eq_false_iff_ne.2 (by omega)
    have en' : decide ((n : Int) = 0) = false := decide_eq_false (by omega)
    have en2 : decide (n = 0) = false := decide_eq_false (by omega)
    simp only at hk
    have hne : ¬ n = 0 := by omega
    clear HN
    rcases hk with rfl | rfl | rfl | rfl | rfl
    · have er : cutOf (some (⟨1, c, o_, b, cut_⟩, n)) = (.got ⟨1, c, 0, []⟩ n) := by simp [cutOf]
      rw [er]
      clear er
      go_enter Tryd.func23, Tryd.ntmps23
      go_wp2_with (first | (go_at_call 32; refine (HC.out _).mono ?_; rintro e' w1 ⟨rfl, ho1⟩; have hB1 : Hid (Blk w1 w.heap.size 44 (riCells .none 0 0)) := (Blk.new w 44 (riCells .none 0 0)).only ho1.out (fun h => h)) | ((with_reducible show wpList _ _ _ (⟨none, .store 44 _ _, _, _, _, _⟩ :: _) _ _); refine step_store rfl 44 _ _ rfl w.heap.size rfl (riCells ⟨1, c, 0, []⟩ 0 0) rfl _ (riCells .none 0 0) (hB1.out.alloc _) size_ritem rfl (ri_one _ _ _) ?_; intro w2 hB2 hz2 ho2))
      refine ret_cell2 rfl _ rfl _ _ _ hB2.out Tryd.underlying44 rfl size_ritem rfl ?_
      exact ⟨rfl, ((((Only.refl (fun _ => False) w).alloc _).trans ho1.out (fun _ h => h.elim)).alloc _).trans ho2 (fun i hi => .inr (by omega))⟩
    · by_cases hc : 240 < c
      · have er : cutOf (some (⟨2, c, o_, b, cut_⟩, n)) = (.got ⟨3, c, 0, []⟩ n) := by simp [cutOf, hc]
        rw [er]
        clear er
        have hd : decide ((240 : Int) < c) = true := decide_eq_true hc
        go_enter Tryd.func23, Tryd.ntmps23
        go_wp2_with (first | (go_at_call 32; refine (HC.out _).mono ?_; rintro e' w1 ⟨rfl, ho1⟩; have hB1 : Hid (Blk w1 w.heap.size 44 (riCells .none 0 0)) := (Blk.new w 44 (riCells .none 0 0)).only ho1.out (fun h => h)) | ((with_reducible show wpList _ _ _ (⟨none, .store 44 _ _, _, _, _, _⟩ :: _) _ _); refine step_store rfl 44 _ _ rfl w.heap.size rfl (riCells ⟨3, c, 0, []⟩ 0 0) rfl _ (riCells .none 0 0) (hB1.out.alloc _) size_ritem rfl (ri_one _ _ _) ?_; intro w2 hB2 hz2 ho2))
        refine ret_cell2 rfl _ rfl _ _ _ hB2.out Tryd.underlying44 rfl size_ritem rfl ?_
        exact ⟨rfl, ((((Only.refl (fun _ => False) w).alloc _).trans ho1.out (fun _ h => h.elim)).alloc _).trans ho2 (fun i hi => .inr (by omega))⟩
      · have er : cutOf (some (⟨2, c, o_, b, cut_⟩, n)) = .bad := by simp [cutOf, hc]
        rw [er]
        clear er
        have hd : decide ((240 : Int) < c) = false := decide_eq_false hc
        go_enter Tryd.func23, Tryd.ntmps23
        go_wp2_with (first | (go_at_call 32; refine (HC.out _).mono ?_; rintro e' w1 ⟨rfl, ho1⟩; have hB1 : Hid (Blk w1 w.heap.size 44 (riCells .none 0 0)) := (Blk.new w 44 (riCells .none 0 0)).only ho1.out (fun h => h)) | ((with_reducible show wpList _ _ _ (⟨none, .store 44 _ _, _, _, _, _⟩ :: _) _ _); refine step_store rfl 44 _ _ rfl w.heap.size rfl (riCells It.none 0 0) rfl _ (riCells .none 0 0) (hB1.out.alloc _) size_ritem rfl (ri_one _ _ _) ?_; intro w2 hB2 hz2 ho2))
        refine ret_cell2 rfl _ rfl _ _ _ hB2.out Tryd.underlying44 rfl size_ritem rfl ?_
        exact ⟨rfl, ((((Only.refl (fun _ => False) w).alloc _).trans ho1.out (fun _ h => h.elim)).alloc _).trans ho2 (fun i hi => .inr (by omega))⟩
    · have er : cutOf (some (⟨3, c, o_, b, cut_⟩, n)) = (.got ⟨4, c, o_, []⟩ n) := by simp [cutOf]
      rw [er]
      clear er
      go_enter Tryd.func23, Tryd.ntmps23
      go_wp2_with (first | (go_at_call 32; refine (HC.out _).mono ?_; rintro e' w1 ⟨rfl, ho1⟩; have hB1 : Hid (Blk w1 w.heap.size 44 (riCells .none 0 0)) := (Blk.new w 44 (riCells .none 0 0)).only ho1.out (fun h => h)) | ((with_reducible show wpList _ _ _ (⟨none, .store 44 _ _, _, _, _, _⟩ :: _) _ _); refine step_store rfl 44 _ _ rfl w.heap.size rfl (riCells ⟨4, c, o_, []⟩ 0 0) rfl _ (riCells .none 0 0) (hB1.out.alloc _) size_ritem rfl (ri_one _ _ _) ?_; intro w2 hB2 hz2 ho2))
      refine ret_cell2 rfl _ rfl _ _ _ hB2.out Tryd.underlying44 rfl size_ritem rfl ?_
      exact ⟨rfl, ((((Only.refl (fun _ => False) w).alloc _).trans ho1.out (fun _ h => h.elim)).alloc _).trans ho2 (fun i hi => .inr (by omega))⟩
    · have er : cutOf (some (⟨4, c, o_, b, cut_⟩, n)) = .bad := by simp [cutOf]
      rw [er]
      clear er
      go_enter Tryd.func23, Tryd.ntmps23
      go_wp2_with (first | (go_at_call 32; refine (HC.out _).mono ?_; rintro e' w1 ⟨rfl, ho1⟩; have hB1 : Hid (Blk w1 w.heap.size 44 (riCells .none 0 0)) := (Blk.new w 44 (riCells .none 0 0)).only ho1.out (fun h => h)) | ((with_reducible show wpList _ _ _ (⟨none, .store 44 _ _, _, _, _, _⟩ :: _) _ _); refine step_store rfl 44 _ _ rfl w.heap.size rfl (riCells It.none 0 0) rfl _ (riCells .none 0 0) (hB1.out.alloc _) size_ritem rfl (ri_one _ _ _) ?_; intro w2 hB2 hz2 ho2))
      refine ret_cell2 rfl _ rfl _ _ _ hB2.out Tryd.underlying44 rfl size_ritem rfl ?_
      exact ⟨rfl, ((((Only.refl (fun _ => False) w).alloc _).trans ho1.out (fun _ h => h.elim)).alloc _).trans ho2 (fun i hi => .inr (by omega))⟩
    · have er : cutOf (some (⟨5, c, o_, b, cut_⟩, n)) = .bad := by simp [cutOf]
      rw [er]
      clear er
      go_enter Tryd.func23, Tryd.ntmps23
      go_wp2_with (first | (go_at_call 32; refine (HC.out _).mono ?_; rintro e' w1 ⟨rfl, ho1⟩; have hB1 : Hid (Blk w1 w.heap.size 44 (riCells .none 0 0)) := (Blk.new w 44 (riCells .none 0 0)).only ho1.out (fun h => h)) | ((with_reducible show wpList _ _ _ (⟨none, .store 44 _ _, _, _, _, _⟩ :: _) _ _); refine step_store rfl 44 _ _ rfl w.heap.size rfl (riCells It.none 0 0) rfl _ (riCells .none 0 0) (hB1.out.alloc _) size_ritem rfl (ri_one _ _ _) ?_; intro w2 hB2 hz2 ho2))
      refine ret_cell2 rfl _ rfl _ _ _ hB2.out Tryd.underlying44 rfl size_ritem rfl ?_
      exact ⟨rfl, ((((Only.refl (fun _ => False) w).alloc _).trans ho1.out (fun _ h => h.elim)).alloc _).trans ho2 (fun i hi => .inr (by omega))⟩

theorem gi_n3 (w : World) (s : List UInt8) (raw : Bool) (x : UInt8) (h0 : s[0]? = some x) (y : UInt8) (h1 : s[1]? = some y) (hx : x.toNat = 13) (hr : raw = false) (hy : y.toNat ≠ 0 ∧ y.toNat ≠ 10) (o : Option (Tk × Nat)) (ho : NextOk o) (HN : ∀ W, Nexts W s o) :
    Calls Tryd.prog 23 #[.string ⟨s.toArray⟩, .bool raw] w (RItem w (cutOf o)) := by
  have n0 := get_lt h0
  have i0 := str_get h0 n0
  have n1 := get_lt h1
  have i1 := str_get h1 n1
  have gx13 : (((x.toNat : Nat) : Int) == 13) = true := beq_iff_eq.2 (by omega)
  have gx13' : decide (((x.toNat : Nat) : Int) = 13) = true := decide_eq_true (by omega)
  have gx255 : (((x.toNat : Nat) : Int) == 255) = false := beq_eq_false_iff_ne.2 (by omega)
  have gx255' : decide (((x.toNat : Nat) : Int) = 255) = false := decide_eq_false (by omega)
  have hl1 : ((s.length : Int) == 1) = false := beq_eq_false_iff_ne.2 (by omega)
  have gy0 : (((y.toNat : Nat) : Int) == 0) = false := beq_eq_false_iff_ne.2 (by omega)
  have gy0' : decide (((y.toNat : Nat) : Int) = 0) = false := decide_eq_false (by omega)
  have gy10 : (((y.toNat : Nat) : Int) == 10) = false := beq_eq_false_iff_ne.2 (by omega)
  have gy10' : decide (((y.toNat : Nat) : Int) = 10) = false := decide_eq_false (by omega)
  subst hr
  clear h0 h1 hx hy
  cases o with
  | none =>
    have HC := Lib.hid (fun W => nexts_none (HN W))
    clear HN ho
    go_enter Tryd.func23, Tryd.ntmps23
    go_wp2_with (first | (go_at_call 32; refine (HC.out _).mono ?_; rintro e' w1 ⟨rfl, ho1⟩; have hB1 : Hid (Blk w1 w.heap.size 44 (riCells .none 0 0)) := (Blk.new w 44 (riCells .none 0 0)).only ho1.out (fun h => h)) | ((with_reducible show wpList _ _ _ (⟨none, .store 44 _ _, _, _, _, _⟩ :: _) _ _); refine step_store rfl 44 _ _ rfl w.heap.size rfl (riCells .none 0 0) rfl _ (riCells .none 0 0) (hB1.out.alloc _) size_ritem rfl (ri_one _ _ _) ?_; intro w2 hB2 hz2 ho2))
    refine ret_cell2 rfl _ rfl _ _ _ hB2.out Tryd.underlying44 rfl size_ritem rfl ?_
    exact ⟨rfl, ((((Only.refl (fun _ => False) w).alloc _).trans ho1.out (fun _ h => h.elim)).alloc _).trans ho2 (fun i hi => .inr (by omega))⟩
  | some o =>
    obtain ⟨⟨k, c, o_, b, cut_⟩, n⟩ := o
    obtain ⟨hn0, hn1, hk⟩ := ho
    have HC := Lib.hid (fun W => nexts_flat (HN W))
    have en : ((n : Int) == 0) = false := beq_eq_false_iff_ne.2 (by omega)
    have en' : decide ((n : Int) = 0) = false := decide_eq_false (by omega)
    have en2 : decide (n = 0) = false := decide_eq_false (by omega)
    simp only at hk
    have hne : ¬ n = 0 := by omega
    clear HN
    rcases hk with rfl | rfl | rfl | rfl | rfl
    · have er : cutOf (some (⟨1, c, o_, b, cut_⟩, n)) = (.got ⟨1, c, 0, []⟩ n) := by simp [cutOf]
      rw [er]
      clear er
      go_enter Tryd.func23, Tryd.ntmps23
      go_wp2_with (first | (go_at_call 32; refine (HC.out _).mono ?_; rintro e' w1 ⟨rfl, ho1⟩; have hB1 : Hid (Blk w1 w.heap.size 44 (riCells .none 0 0)) := (Blk.new w 44 (riCells .none 0 0)).only ho1.out (fun h => h)) | ((with_reducible show wpList _ _ _ (⟨none, .store 44 _ _, _, _, _, _⟩ :: _) _ _); refine step_store rfl 44 _ _ rfl w.heap.size rfl (riCells ⟨1, c, 0, []⟩ 0 0) rfl _ (riCells .none 0 0) (hB1.out.alloc _) size_ritem rfl (ri_one _ _ _) ?_; intro w2 hB2 hz2 ho2))
      refine ret_cell2 rfl _ rfl _ _ _ hB2.out Tryd.underlying44 rfl size_ritem rfl ?_
      exact ⟨rfl, ((((Only.refl (fun _ => False) w).alloc _).trans ho1.out (fun _ h => h.elim)).alloc _).trans ho2 (fun i hi => .inr (by omega))⟩
    · by_cases hc : 240 < c
      · have er : cutOf (some (⟨2, c, o_, b, cut_⟩, n)) = (.got ⟨3, c, 0, []⟩ n) := by simp [cutOf, hc]
        rw [er]
        clear er
        have hd : decide ((240 : Int) < c) = true := decide_eq_true hc
        go_enter Tryd.func23, Tryd.ntmps23
        go_wp2_with (first | (go_at_call 32; refine (HC.out _).mono ?_; rintro e' w1 ⟨rfl, ho1⟩; have hB1 : Hid (Blk w1 w.heap.size 44 (riCells .none 0 0)) := (Blk.new w 44 (riCells .none 0 0)).only ho1.out (fun h => h)) | ((with_reducible show wpList _ _ _ (⟨none, .store 44 _ _, _, _, _, _⟩ :: _) _ _); refine step_store rfl 44 _ _ rfl w.heap.size rfl (riCells ⟨3, c, 0, []⟩ 0 0) rfl _ (riCells .none 0 0) (hB1.out.alloc _) size_ritem rfl (ri_one _ _ _) ?_; intro w2 hB2 hz2 ho2))
        refine ret_cell2 rfl _ rfl _ _ _ hB2.out Tryd.underlying44 rfl size_ritem rfl ?_
        exact ⟨rfl, ((((Only.refl (fun _ => False) w).alloc _).trans ho1.out (fun _ h => h.elim)).alloc _).trans ho2 (fun i hi => .inr (by omega))⟩
      · have er : cutOf (some (⟨2, c, o_, b, cut_⟩, n)) = .bad := by simp [cutOf, hc]
        rw [er]
        clear er
        have hd : decide ((240 : Int) < c) = false := decide_eq_false hc
        go_enter Tryd.func23, Tryd.ntmps23
        go_wp2_with (first | (go_at_call 32; refine (HC.out _).mono ?_; rintro e' w1 ⟨rfl, ho1⟩; have hB1 : Hid (Blk w1 w.heap.size 44 (riCells .none 0 0)) := (Blk.new w 44 (riCells .none 0 0)).only ho1.out (fun h => h)) | ((with_reducible show wpList _ _ _ (⟨none, .store 44 _ _, _, _, _, _⟩ :: _) _ _); refine step_store rfl 44 _ _ rfl w.heap.size rfl (riCells It.none 0 0) rfl _ (riCells .none 0 0) (hB1.out.alloc _) size_ritem rfl (ri_one _ _ _) ?_; intro w2 hB2 hz2 ho2))
        refine ret_cell2 rfl _ rfl _ _ _ hB2.out Tryd.underlying44 rfl size_ritem rfl ?_
        exact ⟨rfl, ((((Only.refl (fun _ => False) w).alloc _).trans ho1.out (fun _ h => h.elim)).alloc _).trans ho2 (fun i hi => .inr (by omega))⟩
    · have er : cutOf (some (⟨3, c, o_, b, cut_⟩, n)) = (.got ⟨4, c, o_, []⟩ n) := by simp [cutOf]
      rw [er]
      clear er
      go_enter Tryd.func23, Tryd.ntmps23
      go_wp2_with (first | (go_at_call 32; refine (HC.out _).mono ?_; rintro e' w1 ⟨rfl, ho1⟩; have hB1 : Hid (Blk w1 w.heap.size 44 (riCells .none 0 0)) := (Blk.new w 44 (riCells .none 0 0)).only ho1.out (fun h => h)) | ((with_reducible show wpList _ _ _ (⟨none, .store 44 _ _, _, _, _, _⟩ :: _) _ _); refine step_store rfl 44 _ _ rfl w.heap.size rfl (riCells ⟨4, c, o_, []⟩ 0 0) rfl _ (riCells .none 0 0) (hB1.out.alloc _) size_ritem rfl (ri_one _ _ _) ?_; intro w2 hB2 hz2 ho2))
      refine ret_cell2 rfl _ rfl _ _ _ hB2.out Tryd.underlying44 rfl size_ritem rfl ?_
      exact ⟨rfl, ((((Only.refl (fun _ => False) w).alloc _).trans ho1.out (fun _ h => h.elim)).alloc _).trans ho2 (fun i hi => .inr (by omega))⟩
    · have er : cutOf (some (⟨4, c, o_, b, cut_⟩, n)) = .bad := by simp [cutOf]
      rw [er]
      clear er
      go_enter Tryd.func23, Tryd.ntmps23
      go_wp2_with (first | (go_at_call 32; refine (HC.out _).mono ?_; rintro e' w1 ⟨rfl, ho1⟩; have hB1 : Hid (Blk w1 w.heap.size 44 (riCells .none 0 0)) := (Blk.new w 44 (riCells .none 0 0)).only ho1.out (fun h => h)) | ((with_reducible show wpList _ _ _ (⟨none, .store 44 _ _, _, _, _, _⟩ :: _) _ _); refine step_store rfl 44 _ _ rfl w.heap.size rfl (riCells It.none 0 0) rfl _ (riCells .none 0 0) (hB1.out.alloc _) size_ritem rfl (ri_one _ _ _) ?_; intro w2 hB2 hz2 ho2))
      refine ret_cell2 rfl _ rfl _ _ _ hB2.out Tryd.underlying44 rfl size_ritem rfl ?_
      exact ⟨rfl, ((((Only.refl (fun _ => False) w).alloc _).trans ho1.out (fun _ h => h.elim)).alloc _).trans ho2 (fun i hi => .inr (by omega))⟩
    · have er : cutOf (some (⟨5, c, o_, b, cut_⟩, n)) = .bad := by simp [cutOf]
      rw [er]
      clear er
      go_enter Tryd.func23, Tryd.ntmps23
      go_wp2_with (first | (go_at_call 32; refine (HC.out _).mono ?_; rintro e' w1 ⟨rfl, ho1⟩; have hB1 : Hid (Blk w1 w.heap.size 44 (riCells .none 0 0)) := (Blk.new w 44 (riCells .none 0 0)).only ho1.out (fun h => h)) | ((with_reducible show wpList _ _ _ (⟨none, .store 44 _ _, _, _, _, _⟩ :: _) _ _); refine step_store rfl 44 _ _ rfl w.heap.size rfl (riCells It.none 0 0) rfl _ (riCells .none 0 0) (hB1.out.alloc _) size_ritem rfl (ri_one _ _ _) ?_; intro w2 hB2 hz2 ho2))
      refine ret_cell2 rfl _ rfl _ _ _ hB2.out Tryd.underlying44 rfl size_ritem rfl ?_
      exact ⟨rfl, ((((Only.refl (fun _ => False) w).alloc _).trans ho1.out (fun _ h => h.elim)).alloc _).trans ho2 (fun i hi => .inr (by omega))⟩

theorem gi_n4 (w : World) (s : List UInt8) (raw : Bool) (x : UInt8) (h0 : s[0]? = some x) (hx : x.toNat = 255) (hl : s.length ≤ 2) (o : Option (Tk × Nat)) (ho : NextOk o) (HN : ∀ W, Nexts W s o) :
    Calls Tryd.prog 23 #[.string ⟨s.toArray⟩, .bool raw] w (RItem w (cutOf o)) := by
  have n0 := get_lt h0
  have i0 := str_get h0 n0
  have gx13 : (((x.toNat : Nat) : Int) == 13) = false := beq_eq_false_iff_ne.2 (by omega)
  have gx13' : decide (((x.toNat : Nat) : Int) = 13) = false := decide_eq_false (by omega)
  have gx255 : (((x.toNat : Nat) : Int) == 255) = true := beq_iff_eq.2 (by omega)
  have gx255' : decide (((x.toNat : Nat) : Int) = 255) = true := decide_eq_true (by omega)
  have hl2 : decide ((2 : Int) < (s.length : Int)) = false := by simp; omega
  have hl2' : decide (2 < s.length) = false := by simp; omega
  clear h0 hx hl
  cases o with
  | none =>
    have HC := Lib.hid (fun W => nexts_none (HN W))
    clear HN ho
    go_enter Tryd.func23, Tryd.ntmps23
    go_wp2_with (first | (go_at_call 32; refine (HC.out _).mono ?_; rintro e' w1 ⟨rfl, ho1⟩; have hB1 : Hid (Blk w1 w.heap.size 44 (riCells .none 0 0)) := (Blk.new w 44 (riCells .none 0 0)).only ho1.out (fun h => h)) | ((with_reducible show wpList _ _ _ (⟨none, .store 44 _ _, _, _, _, _⟩ :: _) _ _); refine step_store rfl 44 _ _ rfl w.heap.size rfl (riCells .none 0 0) rfl _ (riCells .none 0 0) (hB1.out.alloc _) size_ritem rfl (ri_one _ _ _) ?_; intro w2 hB2 hz2 ho2))
    refine ret_cell2 rfl _ rfl _ _ _ hB2.out Tryd.underlying44 rfl size_ritem rfl ?_
    exact ⟨rfl, ((((Only.refl (fun _ => False) w).alloc _).trans ho1.out (fun _ h => h.elim)).alloc _).trans ho2 (fun i hi => .inr (by omega))⟩
  | some o =>
    obtain ⟨⟨k, c, o_, b, cut_⟩, n⟩ := o
    obtain ⟨hn0, hn1, hk⟩ := ho
    have HC := Lib.hid (fun W => nexts_flat (HN W))
    have en : ((n : Int) == 0) = false := beq_eq_false_iff_ne.2 (by omega)
    have en' : decide ((n : Int) = 0) = false := decide_eq_false (by omega)
    have en2 : decide (n = 0) = false := decide_eq_false (by omega)
    simp only at hk
    have hne : ¬ n = 0 := by omega
    clear HN
    rcases hk with rfl | rfl | rfl | rfl | rfl
    · have er : cutOf (some (⟨1, c, o_, b, cut_⟩, n)) = (.got ⟨1, c, 0, []⟩ n) := by simp [cutOf]
      rw [er]
      clear er
      go_enter Tryd.func23, Tryd.ntmps23
      go_wp2_with (first | (go_at_call 32; refine (HC.out _).mono ?_; rintro e' w1 ⟨rfl, ho1⟩; have hB1 : Hid (Blk w1 w.heap.size 44 (riCells .none 0 0)) := (Blk.new w 44 (riCells .none 0 0)).only ho1.out (fun h => h)) | ((with_reducible show wpList _ _ _ (⟨none, .store 44 _ _, _, _, _, _⟩ :: _) _ _); refine step_store rfl 44 _ _ rfl w.heap.size rfl (riCells ⟨1, c, 0, []⟩ 0 0) rfl _ (riCells .none 0 0) (hB1.out.alloc _) size_ritem rfl (ri_one _ _ _) ?_; intro w2 hB2 hz2 ho2))
      refine ret_cell2 rfl _ rfl _ _ _ hB2.out Tryd.underlying44 rfl size_ritem rfl ?_
      exact ⟨rfl, ((((Only.refl (fun _ => False) w).alloc _).trans ho1.out (fun _ h => h.elim)).alloc _).trans ho2 (fun i hi => .inr (by omega))⟩
    · by_cases hc : 240 < c
      · have er : cutOf (some (⟨2, c, o_, b, cut_⟩, n)) = (.got ⟨3, c, 0, []⟩ n) := by simp [cutOf, hc]
        rw [er]
        clear er
        have hd : decide ((240 : Int) < c) = true := decide_eq_true hc
        go_enter Tryd.func23, Tryd.ntmps23
        go_wp2_with (first | (go_at_call 32; refine (HC.out _).mono ?_; rintro e' w1 ⟨rfl, ho1⟩; have hB1 : Hid (Blk w1 w.heap.size 44 (riCells .none 0 0)) := (Blk.new w 44 (riCells .none 0 0)).only ho1.out (fun h => h)) | ((with_reducible show wpList _ _ _ (⟨none, .store 44 _ _, _, _, _, _⟩ :: _) _ _); refine step_store rfl 44 _ _ rfl w.heap.size rfl (riCells ⟨3, c, 0, []⟩ 0 0) rfl _ (riCells .none 0 0) (hB1.out.alloc _) size_ritem rfl (ri_one _ _ _) ?_; intro w2 hB2 hz2 ho2))
        refine ret_cell2 rfl _ rfl _ _ _ hB2.out Tryd.underlying44 rfl size_ritem rfl ?_
        exact ⟨rfl, ((((Only.refl (fun _ => False) w).alloc _).trans ho1.out (fun _ h => h.elim)).alloc _).trans ho2 (fun i hi => .inr (by omega))⟩
      · have er : cutOf (some (⟨2, c, o_, b, cut_⟩, n)) = .bad := by simp [cutOf, hc]
        rw [er]
        clear er
        have hd : decide ((240 : Int) < c) = false := decide_eq_false hc
        go_enter Tryd.func23, Tryd.ntmps23
        go_wp2_with (first | (go_at_call 32; refine (HC.out _).mono ?_; rintro e' w1 ⟨rfl, ho1⟩; have hB1 : Hid (Blk w1 w.heap.size 44 (riCells .none 0 0)) := (Blk.new w 44 (riCells .none 0 0)).only ho1.out (fun h => h)) | ((with_reducible show wpList _ _ _ (⟨none, .store 44 _ _, _, _, _, _⟩ :: _) _ _); refine step_store rfl 44 _ _ rfl w.heap.size rfl (riCells It.none 0 0) rfl _ (riCells .none 0 0) (hB1.out.alloc _) size_ritem rfl (ri_one _ _ _) ?_; intro w2 hB2 hz2 ho2))
        refine ret_cell2 rfl _ rfl _ _ _ hB2.out Tryd.underlying44 rfl size_ritem rfl ?_
        exact ⟨rfl, ((((Only.refl (fun _ => False) w).alloc _).trans ho1.out (fun _ h => h.elim)).alloc _).trans ho2 (fun i hi => .inr (by omega))⟩
    · have er : cutOf (some (⟨3, c, o_, b, cut_⟩, n)) = (.got ⟨4, c, o_, []⟩ n) := by simp [cutOf]
      rw [er]
      clear er
      go_enter Tryd.func23, Tryd.ntmps23
      go_wp2_with (first | (go_at_call 32; refine (HC.out _).mono ?_; rintro e' w1 ⟨rfl, ho1⟩; have hB1 : Hid (Blk w1 w.heap.size 44 (riCells .none 0 0)) := (Blk.new w 44 (riCells .none 0 0)).only ho1.out (fun h => h)) | ((with_reducible show wpList _ _ _ (⟨none, .store 44 _ _, _, _, _, _⟩ :: _) _ _); refine step_store rfl 44 _ _ rfl w.heap.size rfl (riCells ⟨4, c, o_, []⟩ 0 0) rfl _ (riCells .none 0 0) (hB1.out.alloc _) size_ritem rfl (ri_one _ _ _) ?_; intro w2 hB2 hz2 ho2))
      refine ret_cell2 rfl _ rfl _ _ _ hB2.out Tryd.underlying44 rfl size_ritem rfl ?_
      exact ⟨rfl, ((((Only.refl (fun _ => False) w).alloc _).trans ho1.out (fun _ h => h.elim)).alloc _).trans ho2 (fun i hi => .inr (by omega))⟩
    · have er : cutOf (some (⟨4, c, o_, b, cut_⟩, n)) = .bad := by simp [cutOf]
      rw [er]
      clear er
      go_enter Tryd.func23, Tryd.ntmps23
      go_wp2_with (first | (go_at_call 32; refine (HC.out _).mono ?_; rintro e' w1 ⟨rfl, ho1⟩; have hB1 : Hid (Blk w1 w.heap.size 44 (riCells .none 0 0)) := (Blk.new w 44 (riCells .none 0 0)).only ho1.out (fun h => h)) | ((with_reducible show wpList _ _ _ (⟨none, .store 44 _ _, _, _, _, _⟩ :: _) _ _); refine step_store rfl 44 _ _ rfl w.heap.size rfl (riCells It.none 0 0) rfl _ (riCells .none 0 0) (hB1.out.alloc _) size_ritem rfl (ri_one _ _ _) ?_; intro w2 hB2 hz2 ho2))
      refine ret_cell2 rfl _ rfl _ _ _ hB2.out Tryd.underlying44 rfl size_ritem rfl ?_
      exact ⟨rfl, ((((Only.refl (fun _ => False) w).alloc _).trans ho1.out (fun _ h => h.elim)).alloc _).trans ho2 (fun i hi => .inr (by omega))⟩
    · have er : cutOf (some (⟨5, c, o_, b, cut_⟩, n)) = .bad := by simp [cutOf]
      rw [er]
      clear er
      go_enter Tryd.func23, Tryd.ntmps23
      go_wp2_with (first | (go_at_call 32; refine (HC.out _).mono ?_; rintro e' w1 ⟨rfl, ho1⟩; have hB1 : Hid (Blk w1 w.heap.size 44 (riCells .none 0 0)) := (Blk.new w 44 (riCells .none 0 0)).only ho1.out (fun h => h)) | ((with_reducible show wpList _ _ _ (⟨none, .store 44 _ _, _, _, _, _⟩ :: _) _ _); refine step_store rfl 44 _ _ rfl w.heap.size rfl (riCells It.none 0 0) rfl _ (riCells .none 0 0) (hB1.out.alloc _) size_ritem rfl (ri_one _ _ _) ?_; intro w2 hB2 hz2 ho2))
      refine ret_cell2 rfl _ rfl _ _ _ hB2.out Tryd.underlying44 rfl size_ritem rfl ?_
      exact ⟨rfl, ((((Only.refl (fun _ => False) w).alloc _).trans ho1.out (fun _ h => h.elim)).alloc _).trans ho2 (fun i hi => .inr (by omega))⟩

theorem gi_n5 (w : World) (s : List UInt8) (raw : Bool) (x : UInt8) (h0 : s[0]? = some x) (y : UInt8) (h1 : s[1]? = some y) (hx : x.toNat = 255) (hy : y.toNat ≠ 250) (hl : 2 < s.length) (o : Option (Tk × Nat)) (ho : NextOk o) (HN : ∀ W, Nexts W s o) :
    Calls Tryd.prog 23 #[.string ⟨s.toArray⟩, .bool raw] w (RItem w (cutOf o)) := by
  have n0 := get_lt h0
  have i0 := str_get h0 n0
  have n1 := get_lt h1
  have i1 := str_get h1 n1
  have gx13 : (((x.toNat : Nat) : Int) == 13) = false := beq_eq_false_iff_ne.2 (by omega)
  have gx13' : decide (((x.toNat : Nat) : Int) = 13) = false := decide_eq_false (by omega)
  have gx255 : (((x.toNat : Nat) : Int) == 255) = true := beq_iff_eq.2 (by omega)
  have gx255' : decide (((x.toNat : Nat) : Int) = 255) = true := decide_eq_true (by omega)
  have gy250 : (((y.toNat : Nat) : Int) == 250) = false := beq_eq_false_iff_ne.2 (by omega)
  have gy250' : decide (((y.toNat : Nat) : Int) = 250) = false := decide_eq_false (by omega)
  have hl2 : decide ((2 : Int) < (s.length : Int)) = true := by simp; omega
  have hl2' : decide (2 < s.length) = true := by simp; omega
  clear h0 h1 hx hy hl
  cases o with
  | none =>
    have HC := Lib.hid (fun W => nexts_none (HN W))
    clear HN ho
    go_enter Tryd.func23, Tryd.ntmps23
    go_wp2_with (first | (go_at_call 32; refine (HC.out _).mono ?_; rintro e' w1 ⟨rfl, ho1⟩; have hB1 : Hid (Blk w1 w.heap.size 44 (riCells .none 0 0)) := (Blk.new w 44 (riCells .none 0 0)).only ho1.out (fun h => h)) | ((with_reducible show wpList _ _ _ (⟨none, .store 44 _ _, _, _, _, _⟩ :: _) _ _); refine step_store rfl 44 _ _ rfl w.heap.size rfl (riCells .none 0 0) rfl _ (riCells .none 0 0) (hB1.out.alloc _) size_ritem rfl (ri_one _ _ _) ?_; intro w2 hB2 hz2 ho2))
    refine ret_cell2 rfl _ rfl _ _ _ hB2.out Tryd.underlying44 rfl size_ritem rfl ?_
    exact ⟨rfl, ((((Only.refl (fun _ => False) w).alloc _).trans ho1.out (fun _ h => h.elim)).alloc _).trans ho2 (fun i hi => .inr (by omega))⟩
  | some o =>
    obtain ⟨⟨k, c, o_, b, cut_⟩, n⟩ := o
    obtain ⟨hn0, hn1, hk⟩ := ho
    have HC := Lib.hid (fun W => nexts_flat (HN W))
    have en : ((n : Int) == 0) = false := beq_eq_false_iff_ne.2 (by omega)
    have en' : decide ((n : Int) = 0) = false := decide_eq_false (by omega)
    have en2 : decide (n = 0) = false := decide_eq_false (by omega)
    simp only at hk
    have hne : ¬ n = 0 := by omega
    clear HN
    rcases hk with rfl | rfl | rfl | rfl | rfl
    · have er : cutOf (some (⟨1, c, o_, b, cut_⟩, n)) = (.got ⟨1, c, 0, []⟩ n) := by simp [cutOf]
      rw [er]
      clear er
      go_enter Tryd.func23, Tryd.ntmps23
      go_wp2_with (first | (go_at_call 32; refine (HC.out _).mono ?_; rintro e' w1 ⟨rfl, ho1⟩; have hB1 : Hid (Blk w1 w.heap.size 44 (riCells .none 0 0)) := (Blk.new w 44 (riCells .none 0 0)).only ho1.out (fun h => h)) | ((with_reducible show wpList _ _ _ (⟨none, .store 44 _ _, _, _, _, _⟩ :: _) _ _); refine step_store rfl 44 _ _ rfl w.heap.size rfl (riCells ⟨1, c, 0, []⟩ 0 0) rfl _ (riCells .none 0 0) (hB1.out.alloc _) size_ritem rfl (ri_one _ _ _) ?_; intro w2 hB2 hz2 ho2))
      refine ret_cell2 rfl _ rfl _ _ _ hB2.out Tryd.underlying44 rfl size_ritem rfl ?_
      exact ⟨rfl, ((((Only.refl (fun _ => False) w).alloc _).trans ho1.out (fun _ h => h.elim)).alloc _).trans ho2 (fun i hi => .inr (by omega))⟩
    · by_cases hc : 240 < c
      · have er : cutOf (some (⟨2, c, o_, b, cut_⟩, n)) = (.got ⟨3, c, 0, []⟩ n) := by simp [cutOf, hc]
        rw [er]
        clear er
        have hd : decide ((240 : Int) < c) = true := decide_eq_true hc
        go_enter Tryd.func23, Tryd.ntmps23
        go_wp2_with (first | (go_at_call 32; refine (HC.out _).mono ?_; rintro e' w1 ⟨rfl, ho1⟩; have hB1 : Hid (Blk w1 w.heap.size 44 (riCells .none 0 0)) := (Blk.new w 44 (riCells .none 0 0)).only ho1.out (fun h => h)) | ((with_reducible show wpList _ _ _ (⟨none, .store 44 _ _, _, _, _, _⟩ :: _) _ _); refine step_store rfl 44 _ _ rfl w.heap.size rfl (riCells ⟨3, c, 0, []⟩ 0 0) rfl _ (riCells .none 0 0) (hB1.out.alloc _) size_ritem rfl (ri_one _ _ _) ?_; intro w2 hB2 hz2 ho2))
        refine ret_cell2 rfl _ rfl _ _ _ hB2.out Tryd.underlying44 rfl size_ritem rfl ?_
        exact ⟨rfl, ((((Only.refl (fun _ => False) w).alloc _).trans ho1.out (fun _ h => h.elim)).alloc _).trans ho2 (fun i hi => .inr (by omega))⟩
      · have er : cutOf (some (⟨2, c, o_, b, cut_⟩, n)) = .bad := by simp [cutOf, hc]
        rw [er]
        clear er
        have hd : decide ((240 : Int) < c) = false := decide_eq_false hc
        go_enter Tryd.func23, Tryd.ntmps23
        go_wp2_with (first | (go_at_call 32; refine (HC.out _).mono ?_; rintro e' w1 ⟨rfl, ho1⟩; have hB1 : Hid (Blk w1 w.heap.size 44 (riCells .none 0 0)) := (Blk.new w 44 (riCells .none 0 0)).only ho1.out (fun h => h)) | ((with_reducible show wpList _ _ _ (⟨none, .store 44 _ _, _, _, _, _⟩ :: _) _ _); refine step_store rfl 44 _ _ rfl w.heap.size rfl (riCells It.none 0 0) rfl _ (riCells .none 0 0) (hB1.out.alloc _) size_ritem rfl (ri_one _ _ _) ?_; intro w2 hB2 hz2 ho2))
        refine ret_cell2 rfl _ rfl _ _ _ hB2.out Tryd.underlying44 rfl size_ritem rfl ?_
        exact ⟨rfl, ((((Only.refl (fun _ => False) w).alloc _).trans ho1.out (fun _ h => h.elim)).alloc _).trans ho2 (fun i hi => .inr (by omega))⟩
    · have er : cutOf (some (⟨3, c, o_, b, cut_⟩, n)) = (.got ⟨4, c, o_, []⟩ n) := by simp [cutOf]
      rw [er]
      clear er
      go_enter Tryd.func23, Tryd.ntmps23
      go_wp2_with (first | (go_at_call 32; refine (HC.out _).mono ?_; rintro e' w1 ⟨rfl, ho1⟩; have hB1 : Hid (Blk w1 w.heap.size 44 (riCells .none 0 0)) := (Blk.new w 44 (riCells .none 0 0)).only ho1.out (fun h => h)) | ((with_reducible show wpList _ _ _ (⟨none, .store 44 _ _, _, _, _, _⟩ :: _) _ _); refine step_store rfl 44 _ _ rfl w.heap.size rfl (riCells ⟨4, c, o_, []⟩ 0 0) rfl _ (riCells .none 0 0) (hB1.out.alloc _) size_ritem rfl (ri_one _ _ _) ?_; intro w2 hB2 hz2 ho2))
      refine ret_cell2 rfl _ rfl _ _ _ hB2.out Tryd.underlying44 rfl size_ritem rfl ?_
      exact ⟨rfl, ((((Only.refl (fun _ => False) w).alloc _).trans ho1.out (fun _ h => h.elim)).alloc _).trans ho2 (fun i hi => .inr (by omega))⟩
    · have er : cutOf (some (⟨4, c, o_, b, cut_⟩, n)) = .bad := by simp [cutOf]
      rw [er]
      clear er
      go_enter Tryd.func23, Tryd.ntmps23
      go_wp2_with (first | (go_at_call 32; refine (HC.out _).mono ?_; rintro e' w1 ⟨rfl, ho1⟩; have hB1 : Hid (Blk w1 w.heap.size 44 (riCells .none 0 0)) := (Blk.new w 44 (riCells .none 0 0)).only ho1.out (fun h => h)) | ((with_reducible show wpList _ _ _ (⟨none, .store 44 _ _, _, _, _, _⟩ :: _) _ _); refine step_store rfl 44 _ _ rfl w.heap.size rfl (riCells It.none 0 0) rfl _ (riCells .none 0 0) (hB1.out.alloc _) size_ritem rfl (ri_one _ _ _) ?_; intro w2 hB2 hz2 ho2))
      refine ret_cell2 rfl _ rfl _ _ _ hB2.out Tryd.underlying44 rfl size_ritem rfl ?_
      exact ⟨rfl, ((((Only.refl (fun _ => False) w).alloc _).trans ho1.out (fun _ h => h.elim)).alloc _).trans ho2 (fun i hi => .inr (by omega))⟩
    · have er : cutOf (some (⟨5, c, o_, b, cut_⟩, n)) = .bad := by simp [cutOf]
      rw [er]
      clear er
      go_enter Tryd.func23, Tryd.ntmps23
      go_wp2_with (first | (go_at_call 32; refine (HC.out _).mono ?_; rintro e' w1 ⟨rfl, ho1⟩; have hB1 : Hid (Blk w1 w.heap.size 44 (riCells .none 0 0)) := (Blk.new w 44 (riCells .none 0 0)).only ho1.out (fun h => h)) | ((with_reducible show wpList _ _ _ (⟨none, .store 44 _ _, _, _, _, _⟩ :: _) _ _); refine step_store rfl 44 _ _ rfl w.heap.size rfl (riCells It.none 0 0) rfl _ (riCells .none 0 0) (hB1.out.alloc _) size_ritem rfl (ri_one _ _ _) ?_; intro w2 hB2 hz2 ho2))
      refine ret_cell2 rfl _ rfl _ _ _ hB2.out Tryd.underlying44 rfl size_ritem rfl ?_
      exact ⟨rfl, ((((Only.refl (fun _ => False) w).alloc _).trans ho1.out (fun _ h => h.elim)).alloc _).trans ho2 (fun i hi => .inr (by omega))⟩
end Go.Proofs.YtbjabjkmagekfaaDoor
