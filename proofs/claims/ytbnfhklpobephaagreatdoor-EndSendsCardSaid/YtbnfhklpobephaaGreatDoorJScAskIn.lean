/- Several texts in one. -/
import Derived.Test.YtbnfhklpobephaaGreatDoorJHsGather
import Derived.Test.YtbnfhklpobephaaGreatDoorJSnTypeL
import Derived.Test.YtbnfhklpobephaaGreatDoorJRefuse
import Derived.Test.YtbnfhklpobephaaGreatDoorJSnList
import Derived.Test.YtbnfhklpobephaaGreatDoorScBody
import Derived.Test.YtbnfhklpobephaaGreatDoorJRowK
/- A side within a block: Ask. -/
namespace Go.Proofs.YtbnfhklpobephaaGreatDoor.SAt
open Go Go.RowKit
set_option maxRecDepth 100000
set_option maxHeartbeats 4000000

theorem ask_range {W : World} {es : List Addr} (hes : ErrsOf W [0, 4, 7, 9] es) {p mo : Nat} {S : Sd} (f : Int) (x : Se) (hn : askN S f x = 1) :
    Calls Tryz.prog 216 #[.pointer (some ⟨p, mo, none⟩), .int .i64 f, x.val] W fun e w' => ∃ a, es[0]? = some a ∧ e = .returned (.tuple #[Tr.zero.val, errV a]) ∧ Only (fun _ => False) W w' := by
  obtain ⟨a, ha, hc⟩ := hes.get 0 0 (by decide) rfl
  unfold errV at hc
  have HA := Lib.hid ha
  have hlt := World.block_lt_of_cell? W _ hc
  have HC := Lib.hid hc
  have HNe : Hid (0 ≠ W.heap.size + 1) := Nat.ne_of_lt (Nat.lt_succ_of_lt hlt)
  clear ha hc hes hlt
  have hf : isF f = false := by
    unfold askN at hn
    cases hf : isF f
    · rfl
    · rw [hf, if_neg (by decide)] at hn
      split at hn
      · omega
      · unfold Ch.askN at hn
        split at hn
        · omega
        · split at hn <;> omega
  have HF := Lib.hid (fun W => isFn_any W f)
  rw [hf] at HF
  obtain ⟨l, v⟩ := x
  clear hn hf
  go_enter Tryz.func216, Tryz.ntmps216
  go_wp2_with (first
    | (go_at_call 155; refine (HF.out _).mono ?_; rintro e w' ⟨rfl, e2⟩; subst w')
    | fail)
  refine wp_refuse 262 38 _ 0 6 13 14 (W.heap.size + 1) _ Tr.zero.cs (by kernel_rfl) rfl rfl rfl rfl rfl rfl rfl rfl rfl rfl (by kernel_rfl) (by kernel_rfl) (by kernel_rfl) (by kernel_rfl) (by kernel_rfl) (by kernel_rfl) (by kernel_rfl) (by kernel_rfl) (by kernel_rfl) size_tri (Tr.cs_one _) load_err rfl ((((Only.refl (fun _ => False) W).alloc _).alloc _).cellv HC.out (fun h => h)) rfl rfl rfl (Blk.new' _ _ _ (by simp)) rfl HNe.out ?_
  intro W' hW hO
  go_wp2
  refine ret_cell2 rfl (W.heap.size + 1) rfl _ Tr.zero.cs _ hW.out Tryz.underlying262 rfl size_tri rfl ?_
  exact ⟨a, HA.out, rfl, (((Only.refl _ W).alloc _).alloc _).trans hO.out (fun i hi => .inr (by omega))⟩

theorem ask_form {W : World} {es : List Addr} (hes : ErrsOf W [0, 4, 7, 9] es) {p mo : Nat} {S : Sd} (f : Int) (x : Se) (hn : askN S f x = 5) :
    Calls Tryz.prog 216 #[.pointer (some ⟨p, mo, none⟩), .int .i64 f, x.val] W fun e w' => ∃ a, es[4]? = some a ∧ e = .returned (.tuple #[Tr.zero.val, errV a]) ∧ Only (fun _ => False) W w' := by
  obtain ⟨a, ha, hc⟩ := hes.get 4 4 (by decide) rfl
  unfold errV at hc
  have HA := Lib.hid ha
  have hlt := World.block_lt_of_cell? W _ hc
  have HC := Lib.hid hc
  have HNe : Hid (4 ≠ W.heap.size + 1) := Nat.ne_of_lt (Nat.lt_succ_of_lt hlt)
  clear ha hc hes hlt
  have hf : isF f = true := by
    cases hf : isF f
    · unfold askN at hn
      rw [if_pos hf] at hn
      omega
    · rfl
  have hx : x.fine = false ∨ x.l = 0 := by
    unfold askN at hn
    rw [if_neg (by rw [hf]; decide)] at hn
    split at hn
    · assumption
    · unfold Ch.askN at hn
      split at hn
      · omega
      · split at hn <;> omega
  have HF := Lib.hid (fun W => isFn_any W f)
  rw [hf] at HF
  obtain ⟨l, v⟩ := x
  have HS := Lib.hid (fun W => isSet_any W l v)
  generalize Se.fine ⟨l, v⟩ = q at *
  have hq : q = false ∨ (q = true ∧ l = 0) := by
    cases q
    · exact .inl rfl
    · rcases hx with hx | hx
      · cases hx
      · exact .inr ⟨rfl, hx⟩
  clear hn hf hx
  rcases hq with rfl | ⟨rfl, rfl⟩
  all_goals
    go_enter Tryz.func216, Tryz.ntmps216
    go_wp2_with (first
      | (go_at_call 155; refine (HF.out _).mono ?_; rintro e w' ⟨rfl, e2⟩; subst w')
      | (go_at_call 173; refine (HS.out _).mono ?_; rintro e w1 ⟨rfl, ho1⟩; have HO1 : Hid (Only (fun _ => False) W w1) := (((Only.refl _ _).alloc _).alloc _).trans ho1 (fun _ h => h.elim); have HB1 : Hid (Blk w1 (W.heap.size + 1) 262 Tr.zero.cs) := (Blk.new' _ _ _ (by simp)).only ho1 (fun h => h); have HB0 : Hid (Blk w1 W.heap.size 109 (Se.cs ⟨_, v⟩)) := ((Blk.new' _ _ _ rfl).alloc _).only ho1 (fun h => h); have b0 : w1.cell? ⟨W.heap.size, 0, none⟩ = some (.int .i64 _) := HB0.out.cell 0; clear ho1)
      | fail)
    refine wp_refuse 262 38 _ 4 6 24 25 (W.heap.size + 1) _ Tr.zero.cs (by kernel_rfl) rfl rfl rfl rfl rfl rfl rfl rfl rfl rfl (by kernel_rfl) (by kernel_rfl) (by kernel_rfl) (by kernel_rfl) (by kernel_rfl) (by kernel_rfl) (by kernel_rfl) (by kernel_rfl) (by kernel_rfl) size_tri (Tr.cs_one _) load_err rfl (HO1.out.cellv HC.out (fun h => h)) rfl rfl rfl (HB1.out) rfl HNe.out ?_
    intro W' hW hO
    go_wp2
    refine ret_cell2 rfl (W.heap.size + 1) rfl _ Tr.zero.cs _ hW.out Tryz.underlying262 rfl size_tri rfl ?_
    exact ⟨a, HA.out, rfl, HO1.out.trans hO.out (fun i hi => .inr (by omega))⟩

theorem ask_state {W : World} {es : List Addr} (hes : ErrsOf W [0, 4, 7, 9] es) {p mo : Nat} {tp : TypeId} {pre post : List Value} {S : Sd} (h : ScSdAt W p mo tp pre post S) (f : Int) (x : Se) (hn : askN S f x = 10) :
    Calls Tryz.prog 216 #[.pointer (some ⟨p, mo, none⟩), .int .i64 f, x.val] W fun e w' => ∃ a, es[9]? = some a ∧ e = .returned (.tuple #[Tr.zero.val, errV a]) ∧ Only (fun _ => False) W w' := by
  obtain ⟨a, ha, hc⟩ := hes.get 9 9 (by decide) rfl
  unfold errV at hc
  have HA := Lib.hid ha
  have hlt := World.block_lt_of_cell? W _ hc
  have HC := Lib.hid hc
  have HNe : Hid (9 ≠ W.heap.size + 1) := Nat.ne_of_lt (Nat.lt_succ_of_lt hlt)
  clear ha hc hes hlt
  have hf : isF f = true := by
    cases hf : isF f
    · unfold askN at hn
      rw [if_pos hf] at hn
      omega
    · rfl
  have hx : ¬ (x.fine = false ∨ x.l = 0) := by
    intro hx
    unfold askN at hn
    rw [if_neg (by rw [hf]; decide), if_pos hx] at hn
    omega
  have hn : (S (plF f)).askN x = 10 := by
    unfold askN at hn
    rw [if_neg (by rw [hf]; decide), if_neg hx] at hn
    exact hn
  obtain ⟨cs, hB, hC⟩ := h
  have hi := plF_lt hf
  have he := plF_at hf
  have e1 : IntKind.i64.wrap (f - 1) = ((plF f : Nat) : Int) := by
    rw [← he]
    exact IntWalk.i64_in _ (by omega)
  obtain ⟨i, hii⟩ : ∃ i, i = plF f := ⟨_, rfl⟩
  rw [← hii] at hi e1 hn
  have hi2 : (i : Int) < 18 := by omega
  have hp := hB.lt
  have HF := Lib.hid (fun W => isFn_any W f)
  rw [hf] at HF
  obtain ⟨l, v⟩ := x
  have HS := Lib.hid (fun W => isSet_any W l v)
  have hl0 : (l == 0) = false := by
    simp only [beq_eq_false_iff_ne, ne_eq]
    exact fun e => hx (.inr e)
  have hfi : Se.fine ⟨l, v⟩ = true := by
    cases hq : Se.fine ⟨l, v⟩
    · exact absurd (.inl hq) hx
    · rfl
  rw [hfi] at HS
  have HB := Lib.hid hB
  obtain ⟨wt, hwt⟩ : ∃ b, b = (S i).waits := ⟨_, rfl⟩
  obtain ⟨⟨a0, b0'⟩, hhas⟩ : ∃ x, x = (S i).has := ⟨_, rfl⟩
  have HL : Hid (∀ W', Blk W' p tp cs → W'.cell? ⟨p, mo + i * 5, none⟩ = some (.int .i64 a0) ∧ W'.cell? ⟨p, mo + i * 5 + 1, none⟩ = some (.int .i64 b0') ∧ W'.cell? ⟨p, mo + i * 5 + 4, none⟩ = some (.bool wt)) := fun W' hb => by
    have e0 := hC.c0 hi
    have e1 := hC.c1 hi
    have e4 := hC.c4 hi
    rw [← hhas] at e0 e1
    rw [← hwt] at e4
    exact ⟨(hb.cell _).trans e0, (hb.cell _).trans e1, (hb.cell _).trans e4⟩
  unfold Ch.askN at hn
  rw [← hwt, ← hhas] at hn
  obtain rfl : wt = true := by
    cases wt
    · rw [if_neg (by decide)] at hn
      split at hn <;> omega
    · rfl
  clear hn hf hx hB hC he hii hfi hwt hhas
  go_enter Tryz.func216, Tryz.ntmps216
  go_wp2_with (first
    | (go_at_call 155; refine (HF.out _).mono ?_; rintro e w' ⟨rfl, e2⟩; subst w')
    | (go_at_call 173; refine (HS.out _).mono ?_; rintro e w1 ⟨rfl, ho1⟩; have HO1 : Hid (Only (fun _ => False) W w1) := (((Only.refl _ _).alloc _).alloc _).trans ho1 (fun _ h => h.elim); have HB1 : Hid (Blk w1 (W.heap.size + 1) 262 Tr.zero.cs) := (Blk.new' _ _ _ (by simp)).only ho1 (fun h => h); have HB0 : Hid (Blk w1 W.heap.size 109 (Se.cs ⟨l, v⟩)) := ((Blk.new' _ _ _ rfl).alloc _).only ho1 (fun h => h); have b0 : w1.cell? ⟨W.heap.size, 0, none⟩ = some (.int .i64 l) := HB0.out.cell 0; clear ho1; obtain ⟨s0, s1, s4⟩ := HL.out w1 (HB.out.only HO1.out (fun h => h)))
    | fail)
  refine wp_refuse 262 38 _ 9 6 37 38 (W.heap.size + 1) _ Tr.zero.cs (by kernel_rfl) rfl rfl rfl rfl rfl rfl rfl rfl rfl rfl (by kernel_rfl) (by kernel_rfl) (by kernel_rfl) (by kernel_rfl) (by kernel_rfl) (by kernel_rfl) (by kernel_rfl) (by kernel_rfl) (by kernel_rfl) size_tri (Tr.cs_one _) load_err rfl (HO1.out.cellv HC.out (fun h => h)) rfl rfl rfl (HB1.out) rfl HNe.out ?_
  intro W' hW hO
  go_wp2
  refine ret_cell2 rfl (W.heap.size + 1) rfl _ Tr.zero.cs _ hW.out Tryz.underlying262 rfl size_tri rfl ?_
  exact ⟨a, HA.out, rfl, HO1.out.trans hO.out (fun i hi => .inr (by omega))⟩

theorem ask_dup {W : World} {es : List Addr} (hes : ErrsOf W [0, 4, 7, 9] es) {p mo : Nat} {tp : TypeId} {pre post : List Value} {S : Sd} (h : ScSdAt W p mo tp pre post S) (f : Int) (x : Se) (hn : askN S f x = 8) :
    Calls Tryz.prog 216 #[.pointer (some ⟨p, mo, none⟩), .int .i64 f, x.val] W fun e w' => ∃ a, es[7]? = some a ∧ e = .returned (.tuple #[Tr.zero.val, errV a]) ∧ Only (fun _ => False) W w' := by
  obtain ⟨a, ha, hc⟩ := hes.get 7 7 (by decide) rfl
  unfold errV at hc
  have HA := Lib.hid ha
  have hlt := World.block_lt_of_cell? W _ hc
  have HC := Lib.hid hc
  have HNe : Hid (7 ≠ W.heap.size + 1) := Nat.ne_of_lt (Nat.lt_succ_of_lt hlt)
  clear ha hc hes hlt
  have hf : isF f = true := by
    cases hf : isF f
    · unfold askN at hn
      rw [if_pos hf] at hn
      omega
    · rfl
  have hx : ¬ (x.fine = false ∨ x.l = 0) := by
    intro hx
    unfold askN at hn
    rw [if_neg (by rw [hf]; decide), if_pos hx] at hn
    omega
  have hn : (S (plF f)).askN x = 8 := by
    unfold askN at hn
    rw [if_neg (by rw [hf]; decide), if_neg hx] at hn
    exact hn
  obtain ⟨cs, hB, hC⟩ := h
  have hi := plF_lt hf
  have he := plF_at hf
  have e1 : IntKind.i64.wrap (f - 1) = ((plF f : Nat) : Int) := by
    rw [← he]
    exact IntWalk.i64_in _ (by omega)
  obtain ⟨i, hii⟩ : ∃ i, i = plF f := ⟨_, rfl⟩
  rw [← hii] at hi e1 hn
  have hi2 : (i : Int) < 18 := by omega
  have hp := hB.lt
  have HF := Lib.hid (fun W => isFn_any W f)
  rw [hf] at HF
  obtain ⟨l, v⟩ := x
  have HS := Lib.hid (fun W => isSet_any W l v)
  have hl0 : (l == 0) = false := by
    simp only [beq_eq_false_iff_ne, ne_eq]
    exact fun e => hx (.inr e)
  have hfi : Se.fine ⟨l, v⟩ = true := by
    cases hq : Se.fine ⟨l, v⟩
    · exact absurd (.inl hq) hx
    · rfl
  rw [hfi] at HS
  have HB := Lib.hid hB
  obtain ⟨wt, hwt⟩ : ∃ b, b = (S i).waits := ⟨_, rfl⟩
  obtain ⟨⟨a0, b0'⟩, hhas⟩ : ∃ x, x = (S i).has := ⟨_, rfl⟩
  have HL : Hid (∀ W', Blk W' p tp cs → W'.cell? ⟨p, mo + i * 5, none⟩ = some (.int .i64 a0) ∧ W'.cell? ⟨p, mo + i * 5 + 1, none⟩ = some (.int .i64 b0') ∧ W'.cell? ⟨p, mo + i * 5 + 4, none⟩ = some (.bool wt)) := fun W' hb => by
    have e0 := hC.c0 hi
    have e1 := hC.c1 hi
    have e4 := hC.c4 hi
    rw [← hhas] at e0 e1
    rw [← hwt] at e4
    exact ⟨(hb.cell _).trans e0, (hb.cell _).trans e1, (hb.cell _).trans e4⟩
  unfold Ch.askN at hn
  rw [← hwt, ← hhas] at hn
  obtain rfl : wt = false := by
    cases wt
    · rfl
    · rw [if_pos rfl] at hn
      omega
  have hd : (⟨l, v⟩ : Se) = ⟨a0, b0'⟩ := by
    rw [if_neg (by decide)] at hn
    split at hn
    · assumption
    · omega
  have heq : ∀ W, _ := fun W => eq_set W l v a0 b0'
  rw [decide_eq_true hd] at heq
  have hgr := guard_set
  clear hn hf hx hB hC he hii hfi hwt hhas hd
  go_enter Tryz.func216, Tryz.ntmps216
  go_wp2_with (first
    | (go_at_call 155; refine (HF.out _).mono ?_; rintro e w' ⟨rfl, e2⟩; subst w')
    | (go_at_call 173; refine (HS.out _).mono ?_; rintro e w1 ⟨rfl, ho1⟩; have HO1 : Hid (Only (fun _ => False) W w1) := (((Only.refl _ _).alloc _).alloc _).trans ho1 (fun _ h => h.elim); have HB1 : Hid (Blk w1 (W.heap.size + 1) 262 Tr.zero.cs) := (Blk.new' _ _ _ (by simp)).only ho1 (fun h => h); have HB0 : Hid (Blk w1 W.heap.size 109 (Se.cs ⟨l, v⟩)) := ((Blk.new' _ _ _ rfl).alloc _).only ho1 (fun h => h); have b0 : w1.cell? ⟨W.heap.size, 0, none⟩ = some (.int .i64 l) := HB0.out.cell 0; clear ho1; obtain ⟨s0, s1, s4⟩ := HL.out w1 (HB.out.only HO1.out (fun h => h)))
    | fail)
  have b1 : w1.cell? ⟨W.heap.size, 1, none⟩ = some (.int .i64 v) := HB0.out.cell 1
  go_quiet (fail)
  have HO2 := Lib.hid (HO1.out.drewN nq)
  have HB2 := Lib.hid (HB1.out.drewN nq)
  go_wp2
  refine wp_refuse 262 38 _ 7 6 46 47 (W.heap.size + 1) _ Tr.zero.cs (by kernel_rfl) rfl rfl rfl rfl rfl rfl rfl rfl rfl rfl (by kernel_rfl) (by kernel_rfl) (by kernel_rfl) (by kernel_rfl) (by kernel_rfl) (by kernel_rfl) (by kernel_rfl) (by kernel_rfl) (by kernel_rfl) size_tri (Tr.cs_one _) load_err rfl (HO2.out.cellv HC.out (fun h => h)) rfl rfl rfl (HB2.out) rfl HNe.out ?_
  intro W' hW hO
  go_wp2
  refine ret_cell2 rfl (W.heap.size + 1) rfl _ Tr.zero.cs _ hW.out Tryz.underlying262 rfl size_tri rfl ?_
  exact ⟨a, HA.out, rfl, HO2.out.trans hO.out (fun i hi => .inr (by omega))⟩

theorem ask_ok {W : World} {p mo : Nat} {tp : TypeId} {pre post : List Value} {S : Sd} (h : ScSdAt W p mo tp pre post S) (f : Int) (x : Se) (hn : askN S f x = 0) :
    Calls Tryz.prog 216 #[.pointer (some ⟨p, mo, none⟩), .int .i64 f, x.val] W fun e w' => e = .returned (.tuple #[Tr.val ⟨f, x, false⟩, .nilIface]) ∧ ScSdAt w' p mo tp pre post (S.set (plF f) ((S (plF f)).asked x)) ∧ Only (· = p) W w' := by
  have hf : isF f = true := by
    cases hf : isF f
    · unfold askN at hn
      rw [if_pos hf] at hn
      omega
    · rfl
  have hx : ¬ (x.fine = false ∨ x.l = 0) := by
    intro hx
    unfold askN at hn
    rw [if_neg (by rw [hf]; decide), if_pos hx] at hn
    omega
  have hn : (S (plF f)).askN x = 0 := by
    unfold askN at hn
    rw [if_neg (by rw [hf]; decide), if_neg hx] at hn
    exact hn
  obtain ⟨cs, hB, hC⟩ := h
  have hi := plF_lt hf
  have he := plF_at hf
  have e1 : IntKind.i64.wrap (f - 1) = ((plF f : Nat) : Int) := by
    rw [← he]
    exact IntWalk.i64_in _ (by omega)
  obtain ⟨i, hii⟩ : ∃ i, i = plF f := ⟨_, rfl⟩
  rw [← hii] at hi e1 hn ⊢
  have hi2 : (i : Int) < 18 := by omega
  have hp := hB.lt
  have HF := Lib.hid (fun W => isFn_any W f)
  rw [hf] at HF
  obtain ⟨l, v⟩ := x
  have HS := Lib.hid (fun W => isSet_any W l v)
  have hl0 : (l == 0) = false := by
    simp only [beq_eq_false_iff_ne, ne_eq]
    exact fun e => hx (.inr e)
  have hfi : Se.fine ⟨l, v⟩ = true := by
    cases hq : Se.fine ⟨l, v⟩
    · exact absurd (.inl hq) hx
    · rfl
  rw [hfi] at HS
  have HB := Lib.hid hB
  obtain ⟨wt, hwt⟩ : ∃ b, b = (S i).waits := ⟨_, rfl⟩
  obtain ⟨⟨a0, b0'⟩, hhas⟩ : ∃ x, x = (S i).has := ⟨_, rfl⟩
  have HL : Hid (∀ W', Blk W' p tp cs → W'.cell? ⟨p, mo + i * 5, none⟩ = some (.int .i64 a0) ∧ W'.cell? ⟨p, mo + i * 5 + 1, none⟩ = some (.int .i64 b0') ∧ W'.cell? ⟨p, mo + i * 5 + 4, none⟩ = some (.bool wt)) := fun W' hb => by
    have e0 := hC.c0 hi
    have e1 := hC.c1 hi
    have e4 := hC.c4 hi
    rw [← hhas] at e0 e1
    rw [← hwt] at e4
    exact ⟨(hb.cell _).trans e0, (hb.cell _).trans e1, (hb.cell _).trans e4⟩
  unfold Ch.askN at hn
  rw [← hwt, ← hhas] at hn
  obtain rfl : wt = false := by
    cases wt
    · rfl
    · rw [if_pos rfl] at hn
      omega
  have hd : ¬ (⟨l, v⟩ : Se) = ⟨a0, b0'⟩ := by
    rw [if_neg (by decide)] at hn
    split at hn
    · omega
    · assumption
  have heq : ∀ W, _ := fun W => eq_set W l v a0 b0'
  rw [decide_eq_false hd] at heq
  have hgr := guard_set
  have hcl := hC.len
  have hl90 : mo + i * 5 + 1 < (cs.set (mo + i * 5 + 4) (.bool true)).length := by rw [List.length_set]; omega
  unfold Ch.asked
  have HC1 := hC.setWaits hi true
  have HC2 := HC1.setHas hi ⟨l, v⟩
  rw [Sd.set_self, Sd.set_set] at HC2
  have HC1 := Lib.hid HC1
  have HC2 := Lib.hid HC2
  have HP := Lib.hid (show (⟨l, v⟩ : Se).l = l from rfl)
  clear hn hf hx hB hC he hii hfi hwt hhas hd hcl
  by_cases h3 : l = 3
  · subst h3
    rw [if_pos rfl]
    go_enter Tryz.func216, Tryz.ntmps216
    go_wp2_with (first
      | (go_at_call 155; refine (HF.out _).mono ?_; rintro e w' ⟨rfl, e2⟩; subst w')
      | (go_at_call 173; refine (HS.out _).mono ?_; rintro e w1 ⟨rfl, ho1⟩; have HO1 : Hid (Only (fun _ => False) W w1) := (((Only.refl _ _).alloc _).alloc _).trans ho1 (fun _ h => h.elim); have HB1 : Hid (Blk w1 (W.heap.size + 1) 262 Tr.zero.cs) := (Blk.new' _ _ _ (by simp)).only ho1 (fun h => h); have HB0 : Hid (Blk w1 W.heap.size 109 (Se.cs ⟨_, v⟩)) := ((Blk.new' _ _ _ rfl).alloc _).only ho1 (fun h => h); have b0 : w1.cell? ⟨W.heap.size, 0, none⟩ = some (.int .i64 _) := HB0.out.cell 0; clear ho1; obtain ⟨s0, s1, s4⟩ := HL.out w1 (HB.out.only HO1.out (fun h => h)))
      | fail)
    have b1 : w1.cell? ⟨W.heap.size, 1, none⟩ = some (.int .i64 v) := HB0.out.cell 1
    go_quiet (fail)
    have HBp := Lib.hid ((HB.out.only HO1.out (fun h => h)).drewN nq)
    have HO2 := Lib.hid (HO1.out.drewN nq)
    have HB2 := Lib.hid (HB1.out.drewN nq)
    have HB3 := Lib.hid (HB0.out.drewN nq)
    clear b0 b1 s0 s1 s4 HO1 HB1 HB0
    generalize w1.drewN nq = w2 at *
    obtain ⟨_, _, c4⟩ := HL.out _ HBp.out
    have f4 := HBp.out.frozen (mo + i * 5 + 4)
    have k0 : (w2.setCell ⟨p, mo + i * 5 + 4, none⟩ (.bool true)).cell? ⟨W.heap.size, 0, none⟩ = some (.int .i64 3) := (HB3.out.far (p := ⟨p, mo + i * 5 + 4, none⟩) (by show W.heap.size ≠ p; omega) (.bool true)).cell 0
    have k1 : (w2.setCell ⟨p, mo + i * 5 + 4, none⟩ (.bool true)).cell? ⟨W.heap.size, 1, none⟩ = some (.int .i64 v) := (HB3.out.far (p := ⟨p, mo + i * 5 + 4, none⟩) (by show W.heap.size ≠ p; omega) (.bool true)).cell 1
    go_wp2_with (first
      | ((with_reducible show wpList _ _ _ (⟨none, .store 262 _ _, _, _, _, _⟩ :: _) _ _); refine step_store rfl 262 _ _ rfl (W.heap.size + 1) rfl (Tr.cs ⟨f, ⟨3, v⟩, false⟩) rfl _ Tr.zero.cs (HB2.out.far (p := ⟨p, mo + i * 5 + 4, none⟩) (by show W.heap.size + 1 ≠ p; omega) (.bool true)) size_tri rfl (Tr.cs_one _) ?_; intro w9 hB9 hz9 ho9)
      | fail)
    refine ret_cell2 rfl (W.heap.size + 1) rfl 262 (Tr.cs ⟨f, ⟨3, v⟩, false⟩) _ hB9.out Tryz.underlying262 rfl size_tri rfl ?_
    exact ⟨rfl, ⟨_, (HBp.out.setCell _ _).only ho9 (by omega), HC1.out⟩, ((Only.mono (T := (· = p)) HO2.out (fun i hi => hi.elim)).setCell (p := ⟨p, mo + i * 5 + 4, none⟩) (.inl rfl) _).trans ho9 (fun i hi => .inr (by omega))⟩
  · rw [if_neg h3]
    have hl3 : (l != 3) = true := by simp [h3]
    clear h3
    go_enter Tryz.func216, Tryz.ntmps216
    go_wp2_with (first
      | (go_at_call 155; refine (HF.out _).mono ?_; rintro e w' ⟨rfl, e2⟩; subst w')
      | (go_at_call 173; refine (HS.out _).mono ?_; rintro e w1 ⟨rfl, ho1⟩; have HO1 : Hid (Only (fun _ => False) W w1) := (((Only.refl _ _).alloc _).alloc _).trans ho1 (fun _ h => h.elim); have HB1 : Hid (Blk w1 (W.heap.size + 1) 262 Tr.zero.cs) := (Blk.new' _ _ _ (by simp)).only ho1 (fun h => h); have HB0 : Hid (Blk w1 W.heap.size 109 (Se.cs ⟨l, v⟩)) := ((Blk.new' _ _ _ rfl).alloc _).only ho1 (fun h => h); have b0 : w1.cell? ⟨W.heap.size, 0, none⟩ = some (.int .i64 l) := HB0.out.cell 0; clear ho1; obtain ⟨s0, s1, s4⟩ := HL.out w1 (HB.out.only HO1.out (fun h => h)))
      | fail)
    have b1 : w1.cell? ⟨W.heap.size, 1, none⟩ = some (.int .i64 v) := HB0.out.cell 1
    go_quiet (fail)
    have HBp := Lib.hid ((HB.out.only HO1.out (fun h => h)).drewN nq)
    have HO2 := Lib.hid (HO1.out.drewN nq)
    have HB2 := Lib.hid (HB1.out.drewN nq)
    have HB3 := Lib.hid (HB0.out.drewN nq)
    clear b0 b1 s0 s1 s4 HO1 HB1 HB0
    generalize w1.drewN nq = w2 at *
    obtain ⟨_, _, c4⟩ := HL.out _ HBp.out
    have f4 := HBp.out.frozen (mo + i * 5 + 4)
    have HB4 := Lib.hid (HB3.out.far (p := ⟨p, mo + i * 5 + 4, none⟩) (by show W.heap.size ≠ p; omega) (.bool true))
    have k0 : (w2.setCell ⟨p, mo + i * 5 + 4, none⟩ (.bool true)).cell? ⟨W.heap.size, 0, none⟩ = some (.int .i64 l) := HB4.out.cell 0
    have k1 : (w2.setCell ⟨p, mo + i * 5 + 4, none⟩ (.bool true)).cell? ⟨W.heap.size, 1, none⟩ = some (.int .i64 v) := HB4.out.cell 1
    go_wp2_with (first
      | ((with_reducible show wpList _ _ _ (⟨none, .store 109 _ _, _, _, _, _⟩ :: _) _ _); refine step_store2 rfl 109 _ _ rfl p (mo + i * 5) rfl (.int .i64 l) (.int .i64 v) rfl _ _ (HBp.out.setCell (mo + i * 5 + 4) (.bool true)) hl90 size_set rfl rfl ?_; intro w8 hB8 hz8 ho8; have n0 : w8.cell? ⟨W.heap.size, 0, none⟩ = some (.int .i64 l) := (HB4.out.only ho8 (by omega)).cell 0; have n1 : w8.cell? ⟨W.heap.size, 1, none⟩ = some (.int .i64 v) := (HB4.out.only ho8 (by omega)).cell 1; have HB8 := Lib.hid ((HB2.out.far (p := ⟨p, mo + i * 5 + 4, none⟩) (by show W.heap.size + 1 ≠ p; omega) (.bool true)).only ho8 (by omega : ¬ W.heap.size + 1 = p)); have HO8 : Hid (Only (· = p) W w8) := ((Only.mono (T := (· = p)) HO2.out (fun i hi => hi.elim)).setCell (p := ⟨p, mo + i * 5 + 4, none⟩) (.inl rfl) _).trans ho8 (fun i hi => .inl hi); clear ho8)
      | ((with_reducible show wpList _ _ _ (⟨none, .store 262 _ _, _, _, _, _⟩ :: _) _ _); refine step_store rfl 262 _ _ rfl (W.heap.size + 1) rfl (Tr.cs ⟨f, ⟨l, v⟩, false⟩) rfl _ Tr.zero.cs HB8.out size_tri rfl (Tr.cs_one _) ?_; intro w9 hB9 hz9 ho9)
      | fail)
    refine ret_cell2 rfl (W.heap.size + 1) rfl 262 (Tr.cs ⟨f, ⟨l, v⟩, false⟩) _ hB9.out Tryz.underlying262 rfl size_tri rfl ?_
    exact ⟨rfl, ⟨_, hB8.out.only ho9 (by omega), HC2.out⟩, HO8.out.trans ho9 (fun i hi => .inr (by omega))⟩

theorem askN_of (S : Sd) (f : Int) (x : Se) : askN S f x = 0 ∨ askN S f x = 1 ∨ askN S f x = 5 ∨ askN S f x = 8 ∨ askN S f x = 10 := by
  unfold askN Ch.askN
  repeat' split
  all_goals omega
theorem sask_any {W : World} {es : List Addr} (hes : ErrsOf W [0, 4, 7, 9] es) {p mo : Nat} {tp : TypeId} {pre post : List Value} {S : Sd} (h : ScSdAt W p mo tp pre post S) (f : Int) (x : Se) :
    Calls Tryz.prog 216 #[.pointer (some ⟨p, mo, none⟩), .int .i64 f, x.val] W fun e w' => ∃ E, ErrV es E (askN S f x) ∧ (askN S f x = 0 → E = .nilIface) ∧ e = .returned (.tuple #[(askS S f x).2.val, E]) ∧ ScSdAt w' p mo tp pre post (askS S f x).1 ∧ Only (· = p) W w' := by
  unfold askS
  rcases askN_of S f x with hn | hn | hn | hn | hn
  · rw [if_pos hn, hn]
    refine (ask_ok h f x hn).mono ?_
    rintro e w' ⟨rfl, hs, ho⟩
    exact ⟨_, ErrV.nil es, fun _ => rfl, rfl, hs, ho⟩
  · rw [if_neg (by omega), hn]
    refine (ask_range hes f x hn).mono ?_
    rintro e w' ⟨a, ha, rfl, ho⟩
    exact ⟨_, ErrV.err ha 1 rfl, fun h => by omega, rfl, h.same ho, ho.mono (fun _ h => h.elim)⟩
  · rw [if_neg (by omega), hn]
    refine (ask_form hes f x hn).mono ?_
    rintro e w' ⟨a, ha, rfl, ho⟩
    exact ⟨_, ErrV.err ha 5 rfl, fun h => by omega, rfl, h.same ho, ho.mono (fun _ h => h.elim)⟩
  · rw [if_neg (by omega), hn]
    refine (ask_dup hes h f x hn).mono ?_
    rintro e w' ⟨a, ha, rfl, ho⟩
    exact ⟨_, ErrV.err ha 8 rfl, fun h => by omega, rfl, h.same ho, ho.mono (fun _ h => h.elim)⟩
  · rw [if_neg (by omega), hn]
    refine (ask_state hes h f x hn).mono ?_
    rintro e w' ⟨a, ha, rfl, ho⟩
    exact ⟨_, ErrV.err ha 10 rfl, fun h => by omega, rfl, h.same ho, ho.mono (fun _ h => h.elim)⟩
end Go.Proofs.YtbnfhklpobephaaGreatDoor.SAt
/- All that is asked for of what is held. -/
namespace Go.Proofs.YtbnfhklpobephaaGreatDoor
open Go Go.RowKit
set_option maxRecDepth 100000
set_option maxHeartbeats 4000000

theorem askAllS_cons {S S2 : Sd} {u : Tr} {x : Se} {i : Nat} (h : askS S ((i : Int) + 1) x = (S2, u)) (l : List Se) : askAllS S (x :: l) i = ((askAllS S2 l (i + 1)).1, (if askN S ((i : Int) + 1) x = 0 then [u] else []) ++ (askAllS S2 l (i + 1)).2) := by
  simp only [askAllS, h]
theorem askAllS_len : ∀ (l : List Se) (S : Sd) (i : Nat), (askAllS S l i).2.length ≤ l.length
  | [], _, _ => Nat.le_refl _
  | x :: l, S, i => by
    have ih := askAllS_len l (askS S ((i : Int) + 1) x).1 (i + 1)
    simp only [askAllS, List.length_append, List.length_cons]
    split
    · simp; omega
    · simp; omega
theorem ErrsAt.far {W W' : World} {es : List Addr} {S : Nat → Prop} (h : ErrsAt W es) (ho : Only S W W') (hS : ∀ i, i < 18 → ¬ S i) : ErrsAt W' es := by
  have key : ∀ g ∈ errIds, g < 1000 → g < 18 := by decide
  exact ⟨h.len, fun i g a hg ha hk => ho.cellv (h.at_ i g a hg ha hk) (hS g (key g (List.mem_of_getElem? hg) hk))⟩
theorem ids_small : ∀ i ∈ [0, 4, 7, 9], ∀ g, errIds[i]? = some g → g < 18 := by
  intro i hi g hg
  simp only [List.mem_cons, List.not_mem_nil, or_false] at hi
  rcases hi with rfl | rfl | rfl | rfl <;> (injection hg with hg; subst hg; decide)
theorem hsAskAll_any {w : World} {es : List Addr} (hE : ErrsAt w es) {p mo N : Nat} {tp : TypeId} {pre post : List Value} {S : Sd} (hS : SAt.ScSdAt w p mo tp pre post S) {n c : Nat} {l : List Se} (hst : StAt w (some ⟨N, 0, none⟩) n l) (hn : n ≤ 18) (hN : N ≠ p) (h18 : 18 ≤ p) :
    Calls Tryz.prog 215 #[.slice (some ⟨N, 0, none⟩) n c, .func (.func 216) #[.pointer (some ⟨p, mo, none⟩)] #[]] w fun e w' => ∃ A' m c', e = .returned (.slice A' m c') ∧ m = (askAllS S l 0).2.length ∧ Hid (w'.ownsRow w.heap.size 262 4 (.slice A' m c') m (csT (askAllS S l 0).2)) ∧ Hid (SAt.ScSdAt w' p mo tp pre post (askAllS S l 0).1) ∧ Hid (Only (· = p) w w') := by
  have HS := Lib.hid hS
  have HL := Lib.hid hst.1
  have HSt : Hid (∀ W, Only (· = p) w W → StAt W (some ⟨N, 0, none⟩) n l) := fun W ho => hst.far ho hN
  have hq := hS.lt
  obtain ⟨i, hi, hz, h1, h2⟩ := infoK info_tri
  have HI := Lib.hid hi
  have HZ := Lib.hid hz
  have HI1 := Lib.hid h1
  have HI2 := Lib.hid h2
  have HAk : Hid (∀ W (S : Sd), Only (· = p) w W → SAt.ScSdAt W p mo tp pre post S → ∀ f x, _) := fun W S ho h f x => SAt.sask_any ((hE.of [0, 4, 7, 9]).from_ ho (fun i hi g hg1 hp => by have := ids_small i hi g hg1; omega)) h f x
  obtain ⟨G, hG⟩ : ∃ G, G = askAllS S l 0 := ⟨_, rfl⟩
  have HG0 := Lib.hid hG
  rw [← hG]
  clear hS hst hi hz h1 h2 hG hE
  go_enter Tryz.func215, Tryz.ntmps215
  go_wp2
  go_loopw [5, 12] (fun lst s W => ∃ (k m : Nat) (D : Option Addr) (cd : Nat), k ≤ n ∧ s = .int .i64 (k : Int) ∧ lst = .slice D m cd ∧ Hid (∃ M S', m = M.length ∧ m ≤ k ∧ W.ownsRow w.heap.size 262 4 (.slice D m cd) m (csT M) ∧ SAt.ScSdAt W p mo tp pre post S' ∧ Only (· = p) w W ∧ G.1 = (askAllS S' (l.drop k) k).1 ∧ G.2 = M ++ (askAllS S' (l.drop k) k).2)) (fun _ s _ => n - (intOf s).toNat)
  case atStart => exact ⟨0, 0, none, 0, Nat.zero_le _, rfl, rfl, [], S, rfl, Nat.le_refl _, own_nil _ _ _ _, HS.out, Only.refl _ _, by rw [HG0.out]; rfl, by rw [HG0.out]; rfl⟩
  case round =>
    obtain ⟨k, m, D, cd, hk, rfl, rfl, hrel⟩ := hrel
    obtain ⟨M, S', hm, hmk, hown, hsd, hon, hg1, hg2⟩ := hrel.out
    have HM := Lib.hid hm
    have HOw := Lib.hid hown
    have HSd := Lib.hid hsd
    have HOn := Lib.hid hon
    have hMk := hmk
    have hwq : p < wr.heap.size := hsd.lt
    clear hrel hm hown hsd
    by_cases hlt : k < n
    · have hi1 : (k : Int) < (n : Int) := by omega
      obtain ⟨⟨tl, tv⟩, ht⟩ : ∃ t, l[k]? = some t := ⟨_, List.getElem?_eq_getElem (by rw [HL.out]; exact hlt)⟩
      obtain ⟨b, off, e, hb, hr⟩ := (HSt.out wr hon).2 k _ ht
      injection e with e
      injection e with e1 e2
      subst e1 e2
      rw [Nat.zero_add] at hr
      have HRg := Lib.hid hr
      have e1 : IntKind.i64.wrap ((k : Int) + 1) = (k : Int) + 1 := IntWalk.i64_in _ (by omega)
      have HA2 : Hid (∀ W, Only (fun _ => False) wr W → _) := fun W ho => HAk.out W S' (hon.trans ho (fun _ h => h.elim)) ⟨_, HSd.out.choose_spec.1.only ho (fun h => h), HSd.out.choose_spec.2⟩ ((k : Int) + 1) ⟨tl, tv⟩
      have hdk : l.drop k = ⟨tl, tv⟩ :: l.drop (k + 1) := by
        rw [List.drop_eq_getElem_cons (List.getElem?_eq_some_iff.1 ht).1]
        rw [(List.getElem?_eq_some_iff.1 ht).2]
      obtain ⟨S2, ⟨uf, ⟨ul, uv⟩, ua⟩, hu⟩ : ∃ S2 u, askS S' ((k : Int) + 1) ⟨tl, tv⟩ = (S2, u) := ⟨_, _, rfl⟩
      rw [hdk, askAllS_cons hu] at hg1 hg2
      rw [hu] at HA2
      obtain ⟨z, hz⟩ : ∃ z, z = askN S' ((k : Int) + 1) ⟨tl, tv⟩ := ⟨_, rfl⟩
      rw [← hz] at HA2 hg2
      have HG1 := Lib.hid hg1
      by_cases hz0 : z = 0
      · rw [if_pos hz0] at hg2
        have HG2 := Lib.hid hg2
        have HA3 : Hid (∀ W, Only (fun _ => False) wr W → Calls Tryz.prog 216 #[.pointer (some ⟨p, mo, none⟩), .int .i64 ((k : Int) + 1), .agg #[.int .i64 tl, .int .i64 tv]] W fun e w' => e = .returned (.tuple #[.agg #[.int .i64 uf, .int .i64 ul, .int .i64 uv, .bool ua], .nilIface]) ∧ SAt.ScSdAt w' p mo tp pre post S2 ∧ Only (· = p) W w') := fun W ho => (HA2.out W ho).mono (fun e w' ⟨E, _, h2, h3, h4, h5⟩ => by
          rw [h2 hz0] at h3
          exact ⟨h3, h4, h5⟩)
        clear hr ht hon hu hg1 hg2 hdk hz hz0 HA2 hb
        go_wp2_with (first
          | ((with_reducible show wpList _ _ _ (⟨some 16, _, _, _, _, _⟩ :: _) _ _); refine wpList_load_mid rfl 109 _ rfl N (k * 2) rfl [.int .i64 tl, .int .i64 tv] _ HRg.out Tryz.underlying109 rfl size_set ?_)
          | (go_at_call 216; (with_reducible refine (HA3.out _ ((Only.refl _ _).alloc _)).mono ?_); rintro e w5 ⟨rfl, hs5, ho5⟩; have HS5 := Lib.hid hs5; have HO5 : Hid (Only (· = p) wr w5) := (Only.mono (T := (· = p)) ((Only.refl (fun _ => False) wr).alloc _) (fun _ h => h.elim)).trans ho5 (fun i hi => .inl hi); clear hs5 ho5)
          | ((with_reducible show wpList _ _ _ (⟨some 30, _, _, _, _, _⟩ :: _) _ _); refine step_append_own rfl (.tmp 27) (.tmp 29) 375 rfl w.heap.size 262 i _ 4 32 Tryz.underlying375 HI.out HZ.out HI1.out HI2.out rfl (by omega) (.slice D m cd) m (csT M) rfl (own_only HOw.out ((HO5.out.alloc _).alloc _) (fun j hj e => by have := (own_lt HOw.out j hj).1; omega)) _ 1 1 [.int .i64 uf, .int .i64 ul, .int .i64 uv, .bool ua] rfl rfl (fun _ => ⟨_, rfl, fun j u hj => by rw [at_add]; exact ((Blk.new' (n := w5.heap.size + 1) (w5.alloc _) 262 [.int .i64 uf, .int .i64 ul, .int .i64 uv, .bool ua] (by simp)).cell j).trans hj⟩) (Tr.cs_one ⟨uf, ⟨ul, uv⟩, ua⟩) (by omega) (by omega) (by have h1 := HO5.out.size; have h2 := HOn.out.size; simp; omega) ?_; intro A7 c7 w7 hq1 hq2 hq3; have HOw7 := Lib.hid hq3.out.1; have HO7 : Hid (Only (· = p) w w7) := Only.grown (HOn.out.trans ((HO5.out.alloc _).alloc _) (fun i hi => .inl hi)) hq3.out.2.1 (fun k hk => .inr (own_lt HOw.out k hk).1); have HS7 : Hid (SAt.ScSdAt w7 p mo tp pre post S2) := (((HS5.out.same (((Only.refl _ _).alloc _).alloc _)).only (Only.grown (Only.refl (fun i => Value.ownBlock (.slice D m cd) = some i) _) hq3.out.2.1 (fun k hk => .inl hk)) (fun e => by have := (own_lt HOw.out p e).1; omega))); clear hq1 hq2 hq3))
        go_roundw
        case rel => exact ⟨k + 1, m + 1, A7, c7, by omega, by go_num, rfl, M ++ [⟨uf, ⟨ul, uv⟩, ua⟩], S2, by rw [List.length_append, HM.out]; rfl, by omega, by rw [csT_append, csT_one]; exact HOw7.out, HS7.out, HO7.out, HG1.out, by rw [HG2.out, List.append_assoc]⟩
        case measure => simp [intOf]; omega
      · rw [if_neg hz0] at hg2
        have HG2 := Lib.hid hg2
        have HA3 : Hid (∀ W, Only (fun _ => False) wr W → Calls Tryz.prog 216 #[.pointer (some ⟨p, mo, none⟩), .int .i64 ((k : Int) + 1), .agg #[.int .i64 tl, .int .i64 tv]] W fun e w' => ∃ a, e = .returned (.tuple #[.agg #[.int .i64 uf, .int .i64 ul, .int .i64 uv, .bool ua], .iface 409 (.pointer (some a))]) ∧ SAt.ScSdAt w' p mo tp pre post S2 ∧ Only (· = p) W w') := fun W ho => (HA2.out W ho).mono (fun e w' ⟨E, h1, _, h3, h4, h5⟩ => by
          rcases h1.ways with ⟨h, _⟩ | ⟨_, a, rfl⟩
          · exact absurd h hz0
          · exact ⟨a, h3, h4, h5⟩)
        clear hr ht hon hu hg1 hg2 hdk hz hz0 HA2 hb
        go_wp2_with (first
          | ((with_reducible show wpList _ _ _ (⟨some 16, _, _, _, _, _⟩ :: _) _ _); refine wpList_load_mid rfl 109 _ rfl N (k * 2) rfl [.int .i64 tl, .int .i64 tv] _ HRg.out Tryz.underlying109 rfl size_set ?_)
          | (go_at_call 216; (with_reducible refine (HA3.out _ ((Only.refl _ _).alloc _)).mono ?_); rintro e w5 ⟨a5, rfl, hs5, ho5⟩; have HS5 := Lib.hid hs5; have HO5 : Hid (Only (· = p) wr w5) := (Only.mono (T := (· = p)) ((Only.refl (fun _ => False) wr).alloc _) (fun _ h => h.elim)).trans ho5 (fun i hi => .inl hi); clear hs5 ho5))
        go_roundw
        case rel =>
          have ho := HO5.out.alloc (.cells #[.int .i64 uf, .int .i64 ul, .int .i64 uv, .bool ua] 262)
          exact ⟨k + 1, m, D, cd, by omega, by go_num, rfl, M, S2, HM.out, by omega, own_only HOw.out ho (fun j hj e => by have := (own_lt HOw.out j hj).1; omega), HS5.out.same ((Only.refl _ _).alloc _), HOn.out.trans ho (fun i hi => .inl hi), HG1.out, HG2.out⟩
        case measure => simp [intOf]; omega
    · obtain rfl : k = n := by omega
      have hd : l.drop k = [] := List.drop_eq_nil_of_le (by rw [HL.out]; exact Nat.le_refl _)
      rw [hd] at hg1 hg2
      have HG1 := Lib.hid hg1
      have HG2 := Lib.hid hg2
      clear hg1 hg2 hd
      go_wp2
      go_ret
      have e2 : G.2 = M := by rw [HG2.out]; exact List.append_nil _
      refine ⟨D, m, cd, rfl, by rw [e2]; exact HM.out, ?_, ?_, HOn.out⟩
      · rw [e2]; exact HOw.out
      · rw [HG1.out]; exact HSd.out
end Go.Proofs.YtbnfhklpobephaaGreatDoor
/- What is told of triples, as a plain function tells it. -/
namespace Go.Proofs.YtbnfhklpobephaaGreatDoor
open Go Go.RowKit
set_option maxRecDepth 100000
set_option maxHeartbeats 4000000

theorem tris_own {w : World} {B n c : Nat} {A : Option Addr} {L : List Tr} {e : TypeId} (h : w.ownsRow B e 4 (.slice A n c) n (csT L)) (hl : L.length = n) : TrAt w A n L := LsOf.of_own (cs := Tr.cs) (fun _ => rfl) h hl
theorem hsTell_any {w : World} {es : List Addr} (hE : ErrsAt w es) {A : Option Addr} {n c : Nat} {L : List Tr} (h : TrAt w A n L) (hn : n ≤ 100) {z : Nat} {t : Option (List UInt8)} (hzz : z = bodyN L) (htt : t = if bodyN L = 0 then toldB L else none) :
    Calls Tryz.prog 214 #[.slice A n c] w fun e w' => ∃ v E, e = .returned (.tuple #[v, E]) ∧ Hid (ErrV es E z ∧ HTold w.heap.size w' v 34 t) ∧ Hid (Only (fun _ => False) w w') := by
  have hE3 := hE.of [2, 3, 4]
  have HT := Lib.hid (fun W A n c => tell_any W 34 A n c)
  by_cases h0 : n = 0
  · subst h0
    have hL0 : L = [] := List.eq_nil_of_length_eq_zero h.1
    have HZ : Hid (z = 0) := by show z = 0; rw [hzz, hL0]; rfl
    have HTt : Hid (t = none) := by show t = none; rw [htt, hL0]; rfl
    clear h hE3 hE hzz htt hL0
    go_enter Tryz.func214, Tryz.ntmps214
    go_wp2
    go_ret2
    rw [HZ.out, HTt.out]
    exact ⟨_, _, rfl, ⟨ErrV.nil es, rfl⟩, Only.refl _ _⟩
  · have hz : ((n : Int) == 0) = false := by simp; omega
    have hl := h.1
    have hbad : ∀ (i : Nat) (a : Addr), es[i]? = some a → z = i + 1 → t = none → (Calls Tryz.prog 228 #[.slice A n c] w fun e w' => ∃ a, es[i]? = some a ∧ e = .returned (.tuple #[.slice none 0 0, errV a]) ∧ Only (fun _ => False) w w') →
        Calls Tryz.prog 214 #[.slice A n c] w fun e w' => ∃ v E, e = .returned (.tuple #[v, E]) ∧ Hid (ErrV es E z ∧ HTold w.heap.size w' v 34 t) ∧ Hid (Only (fun _ => False) w w') := by
      intro i a ha hzi ht0 hB
      have HB : Hid (Calls Tryz.prog 228 #[.slice A n c] w fun e w' => ∃ a, e = .returned (.tuple #[.slice none 0 0, .iface 409 (.pointer (some a))]) ∧ ErrV es (.iface 409 (.pointer (some a))) (i + 1) ∧ Only (fun _ => False) w w') := hB.mono (fun e w' ⟨a, ha, h1, h2⟩ => ⟨a, h1, ErrV.err ha (i + 1) rfl, h2⟩)
      have HZi := Lib.hid hzi
      have HT0 := Lib.hid ht0
      clear hB hE3 hE h hl HT ha hzi ht0 hzz htt
      generalize i + 1 = z1 at *
      go_enter Tryz.func214, Tryz.ntmps214
      go_wp2_with (first
        | (go_at_call 228; (with_reducible refine HB.out.mono ?_); rintro e w1 ⟨a1, rfl, hv1, ho1⟩; have HV1 := Lib.hid hv1; clear hv1))
      go_ret2
      rw [HZi.out, HT0.out]
      exact ⟨_, _, rfl, ⟨HV1.out, rfl⟩, ho1⟩
    cases hb : L.all Tr.right with
    | false =>
      obtain ⟨a, ha, _⟩ := hE3.get 4 4 (by decide) rfl
      have hN : bodyN L = 5 := by unfold bodyN; rw [hb]; rfl
      exact hbad 4 a ha (by rw [hzz, hN]) (by rw [htt, hN]; rfl) (body_form hE3 h hn hb)
    | true =>
      by_cases h85 : 85 < n
      · obtain ⟨a, ha, _⟩ := hE3.get 3 3 (by decide) rfl
        have hN : bodyN L = 4 := by unfold bodyN; rw [hb, if_pos rfl, if_pos (by rw [hl]; exact h85)]
        exact hbad 3 a ha (by rw [hzz, hN]) (by rw [htt, hN]; rfl) (body_long hE3 h hn hb h85)
      · have HB := Lib.hid (sbody_ok (c := c) h hb (by omega))
        have HL : Hid ((bodyB L).length ≤ 255) := by
          show (bodyB L).length ≤ 255
          rw [bodyB_len, hl]
          omega
        have HP : Hid (∀ (W : World) (N : Nat), W.heap.size = N → Body (W.alloc (.cells #[.int .u8 3] 5)) N (.slice (some ⟨N, 0, none⟩) 1 1) [3]) := fun W N hN => by
          subst hN
          exact own_of_blk (cur := [.int .u8 3]) (Blk.new W 5 [.int .u8 3]) rfl rfl (by simp) (by simp) (Nat.le_refl _)
        have hN : bodyN L = 0 := by unfold bodyN; rw [hb, if_pos rfl, if_neg (by rw [hl]; exact h85)]
        have hLn : L ≠ [] := fun e => by rw [e] at hl; simp at hl; omega
        have HZ : Hid (z = 0) := by show z = 0; rw [hzz, hN]
        have HTt : Hid (t = some (3 :: bodyB L)) := by
          show t = _
          rw [htt, hN, if_pos rfl]
          exact if_neg hLn
        clear hbad hE3 hE h hl hb h85 hzz htt hN hLn
        go_enter Tryz.func214, Tryz.ntmps214
        go_wp2_with (first
          | (go_at_call 228; (with_reducible refine HB.out.mono ?_); rintro e w1 ⟨A1, m1, c1, rfl, hm1, hb1, ho1⟩; have HM1 := Lib.hid hm1; have HB1 := Lib.hid hb1; have HO1 := Lib.hid ho1; clear hm1 hb1 ho1)
          | (at_builtin; refine step_bytesG rfl (.tmp 17) (.tmp 18) rfl w1.heap.size _ 1 1 [3] rfl (HP.out w1 _ rfl) rfl A1 _ c1 (bodyB L) rfl ((show Src w1 A1 m1 (bodyB L) from HB1.out.src HM1.out).only ((Only.refl (fun _ => False) _).alloc _) (fun _ _ _ h => h)) (by have := HL.out; have := HM1.out; omega) (by simp) ?_; intro A3 c3 w3 hb3 hg3; have HB3 := Lib.hid hb3.out; have hz3 := hg3.out.size; have HO3 : Hid (Only (fun _ => False) w w3) := (HO1.out.alloc _).grown hg3.out (fun q hq => .inr (by have h1 := (own_lt (HP.out w1 _ rfl) q hq).1; have h2 := HO1.out.size; omega)); clear hb3 hg3)
          | (go_at_call 212; (with_reducible refine (HT.out _ _ _ _).mono ?_); rintro e w4 ⟨rfl, hb4, ho4⟩))
        go_ret2
        have hM := HM1.out
        have hL := HL.out
        rw [HZ.out, HTt.out]
        refine ⟨_, _, rfl, ⟨ErrV.nil es, (Body.one HB3.out ?_ ho4.out hb4.out ?_).low HO1.out.size⟩, HO3.out.trans ho4.out (fun _ h => h.elim)⟩
        · simp
          omega
        · simp at hz3
          omega
end Go.Proofs.YtbnfhklpobephaaGreatDoor
