/- Package slc: Ask. -/
import Derived.Test.YtojnhheeholaeaaDoorScHear
import Derived.Test.YtojnhheeholaeaaDoorRefuse
import Derived.Test.YtojnhheeholaeaaDoorErrSel
namespace Go.Proofs.YtojnhheeholaeaaDoor
open Go Go.RowKit
set_option maxRecDepth 100000
set_option maxHeartbeats 4000000

theorem ask_range {W : World} {es : List Addr} (hes : ErrsOf W [0, 4, 7, 9] es) {p : Nat} {S : Sd} (f : Int) (x : Se) (hn : askN S f x = 1) :
    Calls Tryd.prog 13 #[.pointer (some ⟨p, 0, none⟩), .int .i64 f, x.val] W fun e w' => ∃ a, es[0]? = some a ∧ e = .returned (.tuple #[Tr.zero.val, errV a]) ∧ Only (fun _ => False) W w' := by
  obtain ⟨a, ha, hc⟩ := hes.get 0 0 (by decide) rfl
  unfold errV at hc
  have HA := Lib.hid ha
  have hlt := World.block_lt_of_cell? W _ hc
  have HC := Lib.hid hc
  have HNe : Hid (0 ≠ W.heap.size + 1) := Nat.ne_of_lt (Nat.lt_succ_of_lt hlt)
  clear ha hc hes hlt
  have hf : isF f = false := by
    unfold askN at hn
    cases hf : isF f
    · rfl
    · rw [hf, if_neg (by decide)] at hn
      split at hn
      · omega
      · unfold Ch.askN at hn
        split at hn
        · omega
        · split at hn <;> omega
  have HF := Lib.hid (fun W => isFn_any W f)
  rw [hf] at HF
  obtain ⟨l, v⟩ := x
  clear hn hf
  go_enter Tryd.func13, Tryd.ntmps13
  go_wp2_with (first
    | (go_at_call 29; refine (HF.out _).mono ?_; rintro e w' ⟨rfl, e2⟩; subst w')
    | fail)
  refine wp_refuse 34 46 _ 0 6 13 14 (W.heap.size + 1) _ Tr.zero.cs (by kernel_rfl) rfl rfl rfl rfl rfl rfl rfl rfl rfl rfl (by kernel_rfl) (by kernel_rfl) (by kernel_rfl) (by kernel_rfl) (by kernel_rfl) (by kernel_rfl) (by kernel_rfl) (by kernel_rfl) (by kernel_rfl) size_tri (Tr.cs_one _) load_err rfl ((((Only.refl (fun _ => False) W).alloc _).alloc _).cellv HC.out (fun h => h)) rfl rfl rfl (Blk.new' _ _ _ (by simp)) rfl HNe.out ?_
  intro W' hW hO
  go_wp2
  refine ret_cell2 rfl (W.heap.size + 1) rfl _ Tr.zero.cs _ hW.out Tryd.underlying34 rfl size_tri rfl ?_
  exact ⟨a, HA.out, rfl, (((Only.refl _ W).alloc _).alloc _).trans hO.out (fun i hi => .inr (by omega))⟩

theorem ask_form {W : World} {es : List Addr} (hes : ErrsOf W [0, 4, 7, 9] es) {p : Nat} {S : Sd} (f : Int) (x : Se) (hn : askN S f x = 5) :
    Calls Tryd.prog 13 #[.pointer (some ⟨p, 0, none⟩), .int .i64 f, x.val] W fun e w' => ∃ a, es[4]? = some a ∧ e = .returned (.tuple #[Tr.zero.val, errV a]) ∧ Only (fun _ => False) W w' := by
  obtain ⟨a, ha, hc⟩ := hes.get 4 1 (by decide) rfl
  unfold errV at hc
  have HA := Lib.hid ha
  have hlt := World.block_lt_of_cell? W _ hc
  have HC := Lib.hid hc
  have HNe : Hid (1 ≠ W.heap.size + 1) := Nat.ne_of_lt (Nat.lt_succ_of_lt hlt)
  clear ha hc hes hlt
  have hf : isF f = true := by
    cases hf : isF f
    · unfold askN at hn
      rw [if_pos hf] at hn
      omega
    · rfl
  have hx : x.fine = false ∨ x.l = 0 := by
    unfold askN at hn
    rw [if_neg (by rw [hf]; decide)] at hn
    split at hn
    · assumption
    · unfold Ch.askN at hn
      split at hn
      · omega
      · split at hn <;> omega
  have HF := Lib.hid (fun W => isFn_any W f)
  rw [hf] at HF
  obtain ⟨l, v⟩ := x
  have HS := Lib.hid (fun W => isSet_any W l v)
  generalize Se.fine ⟨l, v⟩ = q at *
  have hq : q = false ∨ (q = true ∧ l = 0) := by
    cases q
    · exact .inl rfl
    · rcases hx with hx | hx
      · cases hx
      · exact .inr ⟨rfl, hx⟩
  clear hn hf hx
  rcases hq with rfl | ⟨rfl, rfl⟩
  all_goals
    go_enter Tryd.func13, Tryd.ntmps13
    go_wp2_with (first
      | (go_at_call 29; refine (HF.out _).mono ?_; rintro e w' ⟨rfl, e2⟩; subst w')
      | (go_at_call 26; refine (HS.out _).mono ?_; rintro e w1 ⟨rfl, ho1⟩; have HO1 : Hid (Only (fun _ => False) W w1) := (((Only.refl _ _).alloc _).alloc _).trans ho1 (fun _ h => h.elim); have HB1 : Hid (Blk w1 (W.heap.size + 1) 34 Tr.zero.cs) := (Blk.new' _ _ _ (by simp)).only ho1 (fun h => h); have HB0 : Hid (Blk w1 W.heap.size 32 (Se.cs ⟨_, v⟩)) := ((Blk.new' _ _ _ rfl).alloc _).only ho1 (fun h => h); have b0 : w1.cell? ⟨W.heap.size, 0, none⟩ = some (.int .i64 _) := HB0.out.cell 0; clear ho1)
      | fail)
    refine wp_refuse 34 46 _ 1 6 24 25 (W.heap.size + 1) _ Tr.zero.cs (by kernel_rfl) rfl rfl rfl rfl rfl rfl rfl rfl rfl rfl (by kernel_rfl) (by kernel_rfl) (by kernel_rfl) (by kernel_rfl) (by kernel_rfl) (by kernel_rfl) (by kernel_rfl) (by kernel_rfl) (by kernel_rfl) size_tri (Tr.cs_one _) load_err rfl (HO1.out.cellv HC.out (fun h => h)) rfl rfl rfl (HB1.out) rfl HNe.out ?_
    intro W' hW hO
    go_wp2
    refine ret_cell2 rfl (W.heap.size + 1) rfl _ Tr.zero.cs _ hW.out Tryd.underlying34 rfl size_tri rfl ?_
    exact ⟨a, HA.out, rfl, HO1.out.trans hO.out (fun i hi => .inr (by omega))⟩

theorem ask_state {W : World} {es : List Addr} (hes : ErrsOf W [0, 4, 7, 9] es) {p : Nat} {S : Sd} (h : SdAt W p S) (f : Int) (x : Se) (hn : askN S f x = 10) :
    Calls Tryd.prog 13 #[.pointer (some ⟨p, 0, none⟩), .int .i64 f, x.val] W fun e w' => ∃ a, es[9]? = some a ∧ e = .returned (.tuple #[Tr.zero.val, errV a]) ∧ Only (fun _ => False) W w' := by
  obtain ⟨a, ha, hc⟩ := hes.get 9 2 (by decide) rfl
  unfold errV at hc
  have HA := Lib.hid ha
  have hlt := World.block_lt_of_cell? W _ hc
  have HC := Lib.hid hc
  have HNe : Hid (2 ≠ W.heap.size + 1) := Nat.ne_of_lt (Nat.lt_succ_of_lt hlt)
  clear ha hc hes hlt
  have hf : isF f = true := by
    cases hf : isF f
    · unfold askN at hn
      rw [if_pos hf] at hn
      omega
    · rfl
  have hx : ¬ (x.fine = false ∨ x.l = 0) := by
    intro hx
    unfold askN at hn
    rw [if_neg (by rw [hf]; decide), if_pos hx] at hn
    omega
  have hn : (S (plF f)).askN x = 10 := by
    unfold askN at hn
    rw [if_neg (by rw [hf]; decide), if_neg hx] at hn
    exact hn
  obtain ⟨cs, hB, hC⟩ := h
  have hi := plF_lt hf
  have he := plF_at hf
  have e1 : IntKind.i64.wrap (f - 1) = ((plF f : Nat) : Int) := by
    rw [← he]
    exact IntWalk.i64_in _ (by omega)
  obtain ⟨i, hii⟩ : ∃ i, i = plF f := ⟨_, rfl⟩
  rw [← hii] at hi e1 hn
  have hi2 : (i : Int) < 18 := by omega
  have hp := hB.lt
  have HF := Lib.hid (fun W => isFn_any W f)
  rw [hf] at HF
  obtain ⟨l, v⟩ := x
  have HS := Lib.hid (fun W => isSet_any W l v)
  have hl0 : (l == 0) = false := by
    simp only [beq_eq_false_iff_ne, ne_eq]
    exact fun e => hx (.inr e)
  have hfi : Se.fine ⟨l, v⟩ = true := by
    cases hq : Se.fine ⟨l, v⟩
    · exact absurd (.inl hq) hx
    · rfl
  rw [hfi] at HS
  have HB := Lib.hid hB
  obtain ⟨wt, hwt⟩ : ∃ b, b = (S i).waits := ⟨_, rfl⟩
  obtain ⟨⟨a0, b0'⟩, hhas⟩ : ∃ x, x = (S i).has := ⟨_, rfl⟩
  have HL : Hid (∀ W', Blk W' p 80 cs → W'.cell? ⟨p, i * 5, none⟩ = some (.int .i64 a0) ∧ W'.cell? ⟨p, i * 5 + 1, none⟩ = some (.int .i64 b0') ∧ W'.cell? ⟨p, i * 5 + 4, none⟩ = some (.bool wt)) := fun W' hb => by
    have e0 := hC.c0 hi
    have e1 := hC.c1 hi
    have e4 := hC.c4 hi
    rw [← hhas] at e0 e1
    rw [← hwt] at e4
    exact ⟨(hb.cell _).trans e0, (hb.cell _).trans e1, (hb.cell _).trans e4⟩
  unfold Ch.askN at hn
  rw [← hwt, ← hhas] at hn
  obtain rfl : wt = true := by
    cases wt
    · rw [if_neg (by decide)] at hn
      split at hn <;> omega
    · rfl
  clear hn hf hx hB hC he hii hfi hwt hhas
  go_enter Tryd.func13, Tryd.ntmps13
  go_wp2_with (first
    | (go_at_call 29; refine (HF.out _).mono ?_; rintro e w' ⟨rfl, e2⟩; subst w')
    | (go_at_call 26; refine (HS.out _).mono ?_; rintro e w1 ⟨rfl, ho1⟩; have HO1 : Hid (Only (fun _ => False) W w1) := (((Only.refl _ _).alloc _).alloc _).trans ho1 (fun _ h => h.elim); have HB1 : Hid (Blk w1 (W.heap.size + 1) 34 Tr.zero.cs) := (Blk.new' _ _ _ (by simp)).only ho1 (fun h => h); have HB0 : Hid (Blk w1 W.heap.size 32 (Se.cs ⟨l, v⟩)) := ((Blk.new' _ _ _ rfl).alloc _).only ho1 (fun h => h); have b0 : w1.cell? ⟨W.heap.size, 0, none⟩ = some (.int .i64 l) := HB0.out.cell 0; clear ho1; obtain ⟨s0, s1, s4⟩ := HL.out w1 (HB.out.only HO1.out (fun h => h)))
    | fail)
  refine wp_refuse 34 46 _ 2 6 37 38 (W.heap.size + 1) _ Tr.zero.cs (by kernel_rfl) rfl rfl rfl rfl rfl rfl rfl rfl rfl rfl (by kernel_rfl) (by kernel_rfl) (by kernel_rfl) (by kernel_rfl) (by kernel_rfl) (by kernel_rfl) (by kernel_rfl) (by kernel_rfl) (by kernel_rfl) size_tri (Tr.cs_one _) load_err rfl (HO1.out.cellv HC.out (fun h => h)) rfl rfl rfl (HB1.out) rfl HNe.out ?_
  intro W' hW hO
  go_wp2
  refine ret_cell2 rfl (W.heap.size + 1) rfl _ Tr.zero.cs _ hW.out Tryd.underlying34 rfl size_tri rfl ?_
  exact ⟨a, HA.out, rfl, HO1.out.trans hO.out (fun i hi => .inr (by omega))⟩

theorem ask_dup {W : World} {es : List Addr} (hes : ErrsOf W [0, 4, 7, 9] es) {p : Nat} {S : Sd} (h : SdAt W p S) (f : Int) (x : Se) (hn : askN S f x = 8) :
    Calls Tryd.prog 13 #[.pointer (some ⟨p, 0, none⟩), .int .i64 f, x.val] W fun e w' => ∃ a, es[7]? = some a ∧ e = .returned (.tuple #[Tr.zero.val, errV a]) ∧ Only (fun _ => False) W w' := by
  obtain ⟨a, ha, hc⟩ := hes.get 7 3 (by decide) rfl
  unfold errV at hc
  have HA := Lib.hid ha
  have hlt := World.block_lt_of_cell? W _ hc
  have HC := Lib.hid hc
  have HNe : Hid (3 ≠ W.heap.size + 1) := Nat.ne_of_lt (Nat.lt_succ_of_lt hlt)
  clear ha hc hes hlt
  have hf : isF f = true := by
    cases hf : isF f
    · unfold askN at hn
      rw [if_pos hf] at hn
      omega
    · rfl
  have hx : ¬ (x.fine = false ∨ x.l = 0) := by
    intro hx
    unfold askN at hn
    rw [if_neg (by rw [hf]; decide), if_pos hx] at hn
    omega
  have hn : (S (plF f)).askN x = 8 := by
    unfold askN at hn
    rw [if_neg (by rw [hf]; decide), if_neg hx] at hn
    exact hn
  obtain ⟨cs, hB, hC⟩ := h
  have hi := plF_lt hf
  have he := plF_at hf
  have e1 : IntKind.i64.wrap (f - 1) = ((plF f : Nat) : Int) := by
    rw [← he]
    exact IntWalk.i64_in _ (by omega)
  obtain ⟨i, hii⟩ : ∃ i, i = plF f := ⟨_, rfl⟩
  rw [← hii] at hi e1 hn
  have hi2 : (i : Int) < 18 := by omega
  have hp := hB.lt
  have HF := Lib.hid (fun W => isFn_any W f)
  rw [hf] at HF
  obtain ⟨l, v⟩ := x
  have HS := Lib.hid (fun W => isSet_any W l v)
  have hl0 : (l == 0) = false := by
    simp only [beq_eq_false_iff_ne, ne_eq]
    exact fun e => hx (.inr e)
  have hfi : Se.fine ⟨l, v⟩ = true := by
    cases hq : Se.fine ⟨l, v⟩
    · exact absurd (.inl hq) hx
    · rfl
  rw [hfi] at HS
  have HB := Lib.hid hB
  obtain ⟨wt, hwt⟩ : ∃ b, b = (S i).waits := ⟨_, rfl⟩
  obtain ⟨⟨a0, b0'⟩, hhas⟩ : ∃ x, x = (S i).has := ⟨_, rfl⟩
  have HL : Hid (∀ W', Blk W' p 80 cs → W'.cell? ⟨p, i * 5, none⟩ = some (.int .i64 a0) ∧ W'.cell? ⟨p, i * 5 + 1, none⟩ = some (.int .i64 b0') ∧ W'.cell? ⟨p, i * 5 + 4, none⟩ = some (.bool wt)) := fun W' hb => by
    have e0 := hC.c0 hi
    have e1 := hC.c1 hi
    have e4 := hC.c4 hi
    rw [← hhas] at e0 e1
    rw [← hwt] at e4
    exact ⟨(hb.cell _).trans e0, (hb.cell _).trans e1, (hb.cell _).trans e4⟩
  unfold Ch.askN at hn
  rw [← hwt, ← hhas] at hn
  obtain rfl : wt = false := by
    cases wt
    · rfl
    · rw [if_pos rfl] at hn
      omega
  have hd : (⟨l, v⟩ : Se) = ⟨a0, b0'⟩ := by
    rw [if_neg (by decide)] at hn
    split at hn
    · assumption
    · omega
  have heq : ∀ W, _ := fun W => eq_set W l v a0 b0'
  rw [decide_eq_true hd] at heq
  have hgr := guard_set
  clear hn hf hx hB hC he hii hfi hwt hhas hd
  go_enter Tryd.func13, Tryd.ntmps13
  go_wp2_with (first
    | (go_at_call 29; refine (HF.out _).mono ?_; rintro e w' ⟨rfl, e2⟩; subst w')
    | (go_at_call 26; refine (HS.out _).mono ?_; rintro e w1 ⟨rfl, ho1⟩; have HO1 : Hid (Only (fun _ => False) W w1) := (((Only.refl _ _).alloc _).alloc _).trans ho1 (fun _ h => h.elim); have HB1 : Hid (Blk w1 (W.heap.size + 1) 34 Tr.zero.cs) := (Blk.new' _ _ _ (by simp)).only ho1 (fun h => h); have HB0 : Hid (Blk w1 W.heap.size 32 (Se.cs ⟨l, v⟩)) := ((Blk.new' _ _ _ rfl).alloc _).only ho1 (fun h => h); have b0 : w1.cell? ⟨W.heap.size, 0, none⟩ = some (.int .i64 l) := HB0.out.cell 0; clear ho1; obtain ⟨s0, s1, s4⟩ := HL.out w1 (HB.out.only HO1.out (fun h => h)))
    | fail)
  have b1 : w1.cell? ⟨W.heap.size, 1, none⟩ = some (.int .i64 v) := HB0.out.cell 1
  go_quiet (fail)
  have HO2 := Lib.hid (HO1.out.drewN nq)
  have HB2 := Lib.hid (HB1.out.drewN nq)
  go_wp2
  refine wp_refuse 34 46 _ 3 6 46 47 (W.heap.size + 1) _ Tr.zero.cs (by kernel_rfl) rfl rfl rfl rfl rfl rfl rfl rfl rfl rfl (by kernel_rfl) (by kernel_rfl) (by kernel_rfl) (by kernel_rfl) (by kernel_rfl) (by kernel_rfl) (by kernel_rfl) (by kernel_rfl) (by kernel_rfl) size_tri (Tr.cs_one _) load_err rfl (HO2.out.cellv HC.out (fun h => h)) rfl rfl rfl (HB2.out) rfl HNe.out ?_
  intro W' hW hO
  go_wp2
  refine ret_cell2 rfl (W.heap.size + 1) rfl _ Tr.zero.cs _ hW.out Tryd.underlying34 rfl size_tri rfl ?_
  exact ⟨a, HA.out, rfl, HO2.out.trans hO.out (fun i hi => .inr (by omega))⟩

theorem ask_ok {W : World} {p : Nat} {S : Sd} (h : SdAt W p S) (f : Int) (x : Se) (hn : askN S f x = 0) :
    Calls Tryd.prog 13 #[.pointer (some ⟨p, 0, none⟩), .int .i64 f, x.val] W fun e w' => e = .returned (.tuple #[Tr.val ⟨f, x, false⟩, .nilIface]) ∧ SdAt w' p (S.set (plF f) ((S (plF f)).asked x)) ∧ Only (· = p) W w' := by
  have hf : isF f = true := by
    cases hf : isF f
    · unfold askN at hn
      rw [if_pos hf] at hn
      omega
    · rfl
  have hx : ¬ (x.fine = false ∨ x.l = 0) := by
    intro hx
    unfold askN at hn
    rw [if_neg (by rw [hf]; decide), if_pos hx] at hn
    omega
  have hn : (S (plF f)).askN x = 0 := by
    unfold askN at hn
    rw [if_neg (by rw [hf]; decide), if_neg hx] at hn
    exact hn
  obtain ⟨cs, hB, hC⟩ := h
  have hi := plF_lt hf
  have he := plF_at hf
  have e1 : IntKind.i64.wrap (f - 1) = ((plF f : Nat) : Int) := by
    rw [← he]
    exact IntWalk.i64_in _ (by omega)
  obtain ⟨i, hii⟩ : ∃ i, i = plF f := ⟨_, rfl⟩
  rw [← hii] at hi e1 hn ⊢
  have hi2 : (i : Int) < 18 := by omega
  have hp := hB.lt
  have HF := Lib.hid (fun W => isFn_any W f)
  rw [hf] at HF
  obtain ⟨l, v⟩ := x
  have HS := Lib.hid (fun W => isSet_any W l v)
  have hl0 : (l == 0) = false := by
    simp only [beq_eq_false_iff_ne, ne_eq]
    exact fun e => hx (.inr e)
  have hfi : Se.fine ⟨l, v⟩ = true := by
    cases hq : Se.fine ⟨l, v⟩
    · exact absurd (.inl hq) hx
    · rfl
  rw [hfi] at HS
  have HB := Lib.hid hB
  obtain ⟨wt, hwt⟩ : ∃ b, b = (S i).waits := ⟨_, rfl⟩
  obtain ⟨⟨a0, b0'⟩, hhas⟩ : ∃ x, x = (S i).has := ⟨_, rfl⟩
  have HL : Hid (∀ W', Blk W' p 80 cs → W'.cell? ⟨p, i * 5, none⟩ = some (.int .i64 a0) ∧ W'.cell? ⟨p, i * 5 + 1, none⟩ = some (.int .i64 b0') ∧ W'.cell? ⟨p, i * 5 + 4, none⟩ = some (.bool wt)) := fun W' hb => by
    have e0 := hC.c0 hi
    have e1 := hC.c1 hi
    have e4 := hC.c4 hi
    rw [← hhas] at e0 e1
    rw [← hwt] at e4
    exact ⟨(hb.cell _).trans e0, (hb.cell _).trans e1, (hb.cell _).trans e4⟩
  unfold Ch.askN at hn
  rw [← hwt, ← hhas] at hn
  obtain rfl : wt = false := by
    cases wt
    · rfl
    · rw [if_pos rfl] at hn
      omega
  have hd : ¬ (⟨l, v⟩ : Se) = ⟨a0, b0'⟩ := by
    rw [if_neg (by decide)] at hn
    split at hn
    · omega
    · assumption
  have heq : ∀ W, _ := fun W => eq_set W l v a0 b0'
  rw [decide_eq_false hd] at heq
  have hgr := guard_set
  have hcl := hC.len
  have hl90 : i * 5 + 1 < (cs.set (i * 5 + 4) (.bool true)).length := by rw [List.length_set]; omega
  unfold Ch.asked
  have HC1 := hC.setWaits hi true
  have HC2 := HC1.setHas hi ⟨l, v⟩
  rw [Sd.set_self, Sd.set_set] at HC2
  have HC1 := Lib.hid HC1
  have HC2 := Lib.hid HC2
  have HP := Lib.hid (show (⟨l, v⟩ : Se).l = l from rfl)
  clear hn hf hx hB hC he hii hfi hwt hhas hd hcl
  by_cases h3 : l = 3
  · subst h3
    rw [if_pos rfl]
    go_enter Tryd.func13, Tryd.ntmps13
    go_wp2_with (first
      | (go_at_call 29; refine (HF.out _).mono ?_; rintro e w' ⟨rfl, e2⟩; subst w')
      | (go_at_call 26; refine (HS.out _).mono ?_; rintro e w1 ⟨rfl, ho1⟩; have HO1 : Hid (Only (fun _ => False) W w1) := (((Only.refl _ _).alloc _).alloc _).trans ho1 (fun _ h => h.elim); have HB1 : Hid (Blk w1 (W.heap.size + 1) 34 Tr.zero.cs) := (Blk.new' _ _ _ (by simp)).only ho1 (fun h => h); have HB0 : Hid (Blk w1 W.heap.size 32 (Se.cs ⟨_, v⟩)) := ((Blk.new' _ _ _ rfl).alloc _).only ho1 (fun h => h); have b0 : w1.cell? ⟨W.heap.size, 0, none⟩ = some (.int .i64 _) := HB0.out.cell 0; clear ho1; obtain ⟨s0, s1, s4⟩ := HL.out w1 (HB.out.only HO1.out (fun h => h)))
      | fail)
    have b1 : w1.cell? ⟨W.heap.size, 1, none⟩ = some (.int .i64 v) := HB0.out.cell 1
    go_quiet (fail)
    have HBp := Lib.hid ((HB.out.only HO1.out (fun h => h)).drewN nq)
    have HO2 := Lib.hid (HO1.out.drewN nq)
    have HB2 := Lib.hid (HB1.out.drewN nq)
    have HB3 := Lib.hid (HB0.out.drewN nq)
    clear b0 b1 s0 s1 s4 HO1 HB1 HB0
    generalize w1.drewN nq = w2 at *
    obtain ⟨_, _, c4⟩ := HL.out _ HBp.out
    have f4 := HBp.out.frozen (i * 5 + 4)
    have k0 : (w2.setCell ⟨p, i * 5 + 4, none⟩ (.bool true)).cell? ⟨W.heap.size, 0, none⟩ = some (.int .i64 3) := (HB3.out.far (p := ⟨p, i * 5 + 4, none⟩) (by show W.heap.size ≠ p; omega) (.bool true)).cell 0
    have k1 : (w2.setCell ⟨p, i * 5 + 4, none⟩ (.bool true)).cell? ⟨W.heap.size, 1, none⟩ = some (.int .i64 v) := (HB3.out.far (p := ⟨p, i * 5 + 4, none⟩) (by show W.heap.size ≠ p; omega) (.bool true)).cell 1
    go_wp2_with (first
      | ((with_reducible show wpList _ _ _ (⟨none, .store 34 _ _, _, _, _, _⟩ :: _) _ _); refine step_store rfl 34 _ _ rfl (W.heap.size + 1) rfl (Tr.cs ⟨f, ⟨3, v⟩, false⟩) rfl _ Tr.zero.cs (HB2.out.far (p := ⟨p, i * 5 + 4, none⟩) (by show W.heap.size + 1 ≠ p; omega) (.bool true)) size_tri rfl (Tr.cs_one _) ?_; intro w9 hB9 hz9 ho9)
      | fail)
    refine ret_cell2 rfl (W.heap.size + 1) rfl 34 (Tr.cs ⟨f, ⟨3, v⟩, false⟩) _ hB9.out Tryd.underlying34 rfl size_tri rfl ?_
    exact ⟨rfl, ⟨_, (HBp.out.setCell _ _).only ho9 (by omega), HC1.out⟩, ((Only.mono (T := (· = p)) HO2.out (fun i hi => hi.elim)).setCell (p := ⟨p, i * 5 + 4, none⟩) (.inl rfl) _).trans ho9 (fun i hi => .inr (by omega))⟩
  · rw [if_neg h3]
    have hl3 : (l != 3) = true := by simp [h3]
    clear h3
    go_enter Tryd.func13, Tryd.ntmps13
    go_wp2_with (first
      | (go_at_call 29; refine (HF.out _).mono ?_; rintro e w' ⟨rfl, e2⟩; subst w')
      | (go_at_call 26; refine (HS.out _).mono ?_; rintro e w1 ⟨rfl, ho1⟩; have HO1 : Hid (Only (fun _ => False) W w1) := (((Only.refl _ _).alloc _).alloc _).trans ho1 (fun _ h => h.elim); have HB1 : Hid (Blk w1 (W.heap.size + 1) 34 Tr.zero.cs) := (Blk.new' _ _ _ (by simp)).only ho1 (fun h => h); have HB0 : Hid (Blk w1 W.heap.size 32 (Se.cs ⟨l, v⟩)) := ((Blk.new' _ _ _ rfl).alloc _).only ho1 (fun h => h); have b0 : w1.cell? ⟨W.heap.size, 0, none⟩ = some (.int .i64 l) := HB0.out.cell 0; clear ho1; obtain ⟨s0, s1, s4⟩ := HL.out w1 (HB.out.only HO1.out (fun h => h)))
      | fail)
    have b1 : w1.cell? ⟨W.heap.size, 1, none⟩ = some (.int .i64 v) := HB0.out.cell 1
    go_quiet (fail)
    have HBp := Lib.hid ((HB.out.only HO1.out (fun h => h)).drewN nq)
    have HO2 := Lib.hid (HO1.out.drewN nq)
    have HB2 := Lib.hid (HB1.out.drewN nq)
    have HB3 := Lib.hid (HB0.out.drewN nq)
    clear b0 b1 s0 s1 s4 HO1 HB1 HB0
    generalize w1.drewN nq = w2 at *
    obtain ⟨_, _, c4⟩ := HL.out _ HBp.out
    have f4 := HBp.out.frozen (i * 5 + 4)
    have HB4 := Lib.hid (HB3.out.far (p := ⟨p, i * 5 + 4, none⟩) (by show W.heap.size ≠ p; omega) (.bool true))
    have k0 : (w2.setCell ⟨p, i * 5 + 4, none⟩ (.bool true)).cell? ⟨W.heap.size, 0, none⟩ = some (.int .i64 l) := HB4.out.cell 0
    have k1 : (w2.setCell ⟨p, i * 5 + 4, none⟩ (.bool true)).cell? ⟨W.heap.size, 1, none⟩ = some (.int .i64 v) := HB4.out.cell 1
    go_wp2_with (first
      | ((with_reducible show wpList _ _ _ (⟨none, .store 32 _ _, _, _, _, _⟩ :: _) _ _); refine step_store2 rfl 32 _ _ rfl p (i * 5) rfl (.int .i64 l) (.int .i64 v) rfl _ _ (HBp.out.setCell (i * 5 + 4) (.bool true)) hl90 size_set rfl rfl ?_; intro w8 hB8 hz8 ho8; have n0 : w8.cell? ⟨W.heap.size, 0, none⟩ = some (.int .i64 l) := (HB4.out.only ho8 (by omega)).cell 0; have n1 : w8.cell? ⟨W.heap.size, 1, none⟩ = some (.int .i64 v) := (HB4.out.only ho8 (by omega)).cell 1; have HB8 := Lib.hid ((HB2.out.far (p := ⟨p, i * 5 + 4, none⟩) (by show W.heap.size + 1 ≠ p; omega) (.bool true)).only ho8 (by omega : ¬ W.heap.size + 1 = p)); have HO8 : Hid (Only (· = p) W w8) := ((Only.mono (T := (· = p)) HO2.out (fun i hi => hi.elim)).setCell (p := ⟨p, i * 5 + 4, none⟩) (.inl rfl) _).trans ho8 (fun i hi => .inl hi); clear ho8)
      | ((with_reducible show wpList _ _ _ (⟨none, .store 34 _ _, _, _, _, _⟩ :: _) _ _); refine step_store rfl 34 _ _ rfl (W.heap.size + 1) rfl (Tr.cs ⟨f, ⟨l, v⟩, false⟩) rfl _ Tr.zero.cs HB8.out size_tri rfl (Tr.cs_one _) ?_; intro w9 hB9 hz9 ho9)
      | fail)
    refine ret_cell2 rfl (W.heap.size + 1) rfl 34 (Tr.cs ⟨f, ⟨l, v⟩, false⟩) _ hB9.out Tryd.underlying34 rfl size_tri rfl ?_
    exact ⟨rfl, ⟨_, hB8.out.only ho9 (by omega), HC2.out⟩, HO8.out.trans ho9 (fun i hi => .inr (by omega))⟩

theorem askN_of (S : Sd) (f : Int) (x : Se) : askN S f x = 0 ∨ askN S f x = 1 ∨ askN S f x = 5 ∨ askN S f x = 8 ∨ askN S f x = 10 := by
  unfold askN Ch.askN
  repeat' split
  all_goals omega
theorem ask_any {W : World} {es : List Addr} (hes : ErrsOf W [0, 4, 7, 9] es) {p : Nat} {S : Sd} (h : SdAt W p S) (f : Int) (x : Se) :
    Calls Tryd.prog 13 #[.pointer (some ⟨p, 0, none⟩), .int .i64 f, x.val] W fun e w' => ∃ E, ErrV es E (askN S f x) ∧ (askN S f x = 0 → E = .nilIface) ∧ e = .returned (.tuple #[(askS S f x).2.val, E]) ∧ SdAt w' p (askS S f x).1 ∧ Only (· = p) W w' := by
  unfold askS
  rcases askN_of S f x with hn | hn | hn | hn | hn
  · rw [if_pos hn, hn]
    refine (ask_ok h f x hn).mono ?_
    rintro e w' ⟨rfl, hs, ho⟩
    exact ⟨_, ErrV.nil es, fun _ => rfl, rfl, hs, ho⟩
  · rw [if_neg (by omega), hn]
    refine (ask_range hes f x hn).mono ?_
    rintro e w' ⟨a, ha, rfl, ho⟩
    exact ⟨_, ErrV.err ha 1 rfl, fun h => by omega, rfl, h.same ho, ho.mono (fun _ h => h.elim)⟩
  · rw [if_neg (by omega), hn]
    refine (ask_form hes f x hn).mono ?_
    rintro e w' ⟨a, ha, rfl, ho⟩
    exact ⟨_, ErrV.err ha 5 rfl, fun h => by omega, rfl, h.same ho, ho.mono (fun _ h => h.elim)⟩
  · rw [if_neg (by omega), hn]
    refine (ask_dup hes h f x hn).mono ?_
    rintro e w' ⟨a, ha, rfl, ho⟩
    exact ⟨_, ErrV.err ha 8 rfl, fun h => by omega, rfl, h.same ho, ho.mono (fun _ h => h.elim)⟩
  · rw [if_neg (by omega), hn]
    refine (ask_state hes h f x hn).mono ?_
    rintro e w' ⟨a, ha, rfl, ho⟩
    exact ⟨_, ErrV.err ha 10 rfl, fun h => by omega, rfl, h.same ho, ho.mono (fun _ h => h.elim)⟩
end Go.Proofs.YtojnhheeholaeaaDoor
