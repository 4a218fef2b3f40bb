/- The document's items of all bytes. -/
import Derived.Test.YtbjabjkmagekfaaDoorGramRefI
namespace Go.Proofs.YtbjabjkmagekfaaDoor
open Go Go.RowKit
set_option maxRecDepth 100000
set_option maxHeartbeats 8000000

theorem subGo_kind (o : Int) : ∀ (f : List UInt8) (n : Nat) (l : List UInt8) (t : Tk) (m : Nat), subGo o f n l = some (t, m) → t.kind = 4 ∨ t.kind = 5
  | f, n, [], t, m, h => by simp [subGo] at h
  | f, n, [a], t, m, h => by
    by_cases ha : a.toNat = 255
    · simp [subGo, ha] at h
    · rw [subGo_plain _ _ _ _ ha] at h; simp [subGo] at h
  | f, n, a :: c :: l, t, m, h => by
    by_cases ha : a.toNat = 255
    · by_cases hc : c.toNat = 255
      · rw [subGo_two _ _ _ _ _ ha hc] at h
        exact subGo_kind o _ _ _ _ _ h
      · rw [subGo, if_pos ha, if_neg hc] at h
        split at h
        · injection h with h
          injection h with h _
          rw [← h]
          exact .inl rfl
        · injection h with h
          injection h with h _
          rw [← h]
          exact .inr rfl
    · rw [subGo_plain _ _ _ _ ha] at h
      exact subGo_kind o _ _ _ _ _ h
theorem next_ok {s : List UInt8} (hl : s.length ≤ 100000) : NextOk (next s) := by
  cases h : next s with
  | none => trivial
  | some x =>
    obtain ⟨t, n⟩ := x
    obtain ⟨h1, h2, _⟩ := next_is_some h
    refine ⟨h1, by omega, ?_⟩
    match s, h with
    | [], h => cases h
    | c :: l, h =>
      by_cases hc : c.toNat = 255
      · match l, h with
        | [], h => simp [next, hc] at h
        | d :: l, h =>
          by_cases hd : d.toNat = 255
          · simp [next, hc, hd] at h
            rw [← h.1]; exact .inl rfl
          · by_cases hd2 : d.toNat < 250
            · simp [next, hc, hd, hd2] at h
              rw [← h.1]; exact .inr (.inl rfl)
            · match l, h with
              | [], h => simp [next, hc, hd, hd2] at h
              | e :: l, h =>
                by_cases hd3 : 250 < d.toNat
                · simp [next, hc, hd, hd2, hd3] at h
                  rw [← h.1]; exact .inr (.inr (.inl rfl))
                · rw [next_sub _ _ _ _ hc (by omega)] at h
                  rcases subGo_kind _ _ _ _ _ _ h with h | h
                  · exact .inr (.inr (.inr (.inl h)))
                  · exact .inr (.inr (.inr (.inr h)))
      · simp [next, hc] at h
        rw [← h.1]; exact .inl rfl

theorem gitem_ref (w : World) (s : List UInt8) (raw : Bool) (hlen : s.length ≤ 100000) (h0 : s ≠ []) :
    Calls Tryd.prog 23 #[.string ⟨s.toArray⟩, .bool raw] w (RItem w (cut raw s)) := by
  have HN : ∀ W, Nexts W s (next s) := fun W => next_ref W s hlen
  have HO := next_ok hlen
  match s, hlen, h0, HN, HO with
  | x :: l, hlen, _, HN, HO =>
    by_cases hx : x.toNat = 255
    · by_cases h2 : ∃ d e l', l = d :: e :: l' ∧ d.toNat = 250
      · obtain ⟨d, e, l', rfl, hd⟩ := h2
        have := gi_sub w (x :: d :: e :: l') raw x rfl d rfl hx hd (by simp) _ (fun W => gsub_ref W _ x d e l' rfl hlen)
        rwa [show cut raw (x :: d :: e :: l') = subCut (e.toNat : Int) [] 3 l' by rw [cut_cons, if_pos hx, iacCut_cons, if_neg (by omega), if_pos hd]]
      · have hc := cut_next raw x l (.inl (by omega)) (fun h => h2 h.2)
        rw [hc]
        match l, hlen, HN, HO, h2 with
        | [], hlen, HN, HO, h2 => exact gi_n4 w _ raw x rfl hx (by simp) _ HO HN
        | [d], hlen, HN, HO, h2 => exact gi_n4 w _ raw x rfl hx (by simp) _ HO HN
        | d :: e :: l', hlen, HN, HO, h2 => exact gi_n5 w _ raw x rfl d rfl hx (fun h => h2 ⟨d, e, l', rfl, h⟩) (by simp) _ HO HN
    · by_cases h13 : x.toNat = 13 ∧ raw = false
      · match l, hlen, HN, HO with
        | [], hlen, HN, HO =>
          rw [show cut raw [x] = .few by rw [cut_cons, if_neg hx, if_pos h13]; rfl]
          exact gi_ret_short w _ raw x rfl h13.1 h13.2 rfl
        | d :: l', hlen, HN, HO =>
          by_cases hd : d.toNat = 0 ∨ d.toNat = 10
          · rw [show cut raw (x :: d :: l') = .got ⟨2, (d.toNat : Int), 0, []⟩ 2 by rw [cut_cons, if_neg hx, if_pos h13, retCut_cons, if_pos hd]]
            rcases hd with hd | hd
            · exact gi_pair0 w _ raw x rfl d rfl h13.1 h13.2 hd
            · exact gi_pair10 w _ raw x rfl d rfl h13.1 h13.2 hd
          · rw [cut_next raw x (d :: l') (.inr ⟨d, l', rfl, hd⟩) (fun h => hx h.1)]
            exact gi_n3 w _ raw x rfl d rfl h13.1 h13.2 ⟨fun h => hd (.inl h), fun h => hd (.inr h)⟩ _ HO HN
      · rw [cut_next raw x l (.inl h13) (fun h => hx h.1)]
        by_cases hc : x.toNat = 13
        · exact gi_n2 w _ raw x rfl hc (by cases raw <;> simp_all) _ HO HN
        · exact gi_n1 w _ raw x rfl ⟨hx, hc⟩ _ HO HN

/-! Its Parse. -/
def plRi (x : Pl) : List Value := riCells x.it (x.from_ : Int) (x.to_ : Int)
def flatRi : List Pl → List Value
  | [] => []
  | x :: l => plRi x ++ flatRi l
theorem flatRi_length (l : List Pl) : (flatRi l).length = l.length * 6 := by
  induction l with
  | nil => rfl
  | cons x l ih => simp only [flatRi, List.length_append, ih, List.length_cons, plRi, riCells, List.length_nil]; omega
theorem flatRi_append (l k : List Pl) : flatRi (l ++ k) = flatRi l ++ flatRi k := by
  induction l with
  | nil => rfl
  | cons x l ih => simp [flatRi, ih]
theorem flatRi_get : ∀ {l : List Pl} {i : Nat} {x : Pl}, l[i]? = some x → ∀ (j : Nat) (v : Value), (plRi x)[j]? = some v → (flatRi l)[i * 6 + j]? = some v
  | y :: l, 0, x, h, j, v, hj => by
    simp only [List.getElem?_cons_zero, Option.some.injEq] at h
    subst h
    have hjl := (List.getElem?_eq_some_iff.1 hj).1
    rw [Nat.zero_mul, Nat.zero_add, flatRi, List.getElem?_append_left hjl]
    exact hj
  | y :: l, i + 1, x, h, j, v, hj => by
    have := flatRi_get (l := l) (i := i) (x := x) (by simpa using h) j v hj
    have e : (plRi y).length = 6 := rfl
    rw [flatRi, List.getElem?_append_right (by rw [e]; omega), e, show (i + 1) * 6 + j - 6 = i * 6 + j from by omega]
    exact this
def RiRow (w : World) (B : Nat) (v : Value) (l : List Pl) : Prop := w.ownsRow B 44 6 v l.length (flatRi l)
theorem info_ritem : (Tryd.prog.info? 44).map (fun i => (i.zero, i.size, i.bytes)) = some (some (.agg #[.int .i64 0, .int .i64 0, .int .i64 0, .int .i64 0, .int .i64 0, .string ⟨#[]⟩]), 6, 56) := by kernel_rfl
/-- []Item{x} -/
theorem step_ritem {ops : Array Oper} {rest : List Oper} {o : Oper} {a : Act} {w : World} {Q : Exit → Act → World → Prop} (hgd : o.guard = none) (x : Operand) (ho : o.op = .buildSlice 32 1 #[(0, x)]) (cs : List Value) (hx : a.eval x = .agg cs.toArray) (hl : cs.length = 6)
    (h : wpList Tryd.prog ops Q rest (a.put o.dst (.slice (some ⟨w.heap.size, 0, none⟩) 1 1)) (w.alloc (.cells cs.toArray 44))) : wpList Tryd.prog ops Q (o :: rest) a w := by
  obtain ⟨i, hi, hz, h1, h2⟩ := info_parts info_ritem
  refine wpList_buildSlice hgd 32 44 1 #[(0, x)] ho cs.toArray i _ Tryd.underlying32 hi hz (by rw [h1]; decide) (by rw [h1]; decide) ?_ h
  rw [h1]
  have := fill_six [.int .i64 0, .int .i64 0, .int .i64 0, .int .i64 0, .int .i64 0, .string ⟨#[]⟩] rfl cs hl
  simpa [hx, Value.cells] using this
/-- Where the document's Parse stands. -/
structure RpAt (w : World) (raw : Bool) (s : List UInt8) (W : World) (V : Value) (k : Nat) (ts : List Pl) : Prop where
  le : k ≤ s.length
  few : ts.length ≤ k
  row : RiRow W w.heap.size V ts
  only : Only (fun _ => False) w W
  told : ((parseFrom raw k (s.drop k)).map fun r => (ts ++ r.1, r.2)) = parseFrom raw 0 s
/-- What it answers. -/
def RpSays (w : World) (raw : Bool) (s : List UInt8) (e : Ending) (w' : World) : Prop :=
  match parseFrom raw 0 s with
  | some (l, r) => ∃ A c, e = .returned (.tuple #[.slice A l.length c, .int .i64 (r : Int), .bool true]) ∧ Hid (RiRow w' w.heap.size (.slice A l.length c) l) ∧ Hid (Only (fun _ => False) w w')
  | .none => e = .returned (.tuple #[.slice none 0 0, .int .i64 0, .bool false]) ∧ Hid (Only (fun _ => False) w w')

theorem gparse_ref (w : World) (s : List UInt8) (raw : Bool) (hlen : s.length ≤ 100000) :
    Calls Tryd.prog 11 #[.string ⟨s.toArray⟩, .bool raw] w (RpSays w raw s) := by
  obtain ⟨i0, hi0, iz0, iz1, iz2⟩ := info_parts info_ritem
  have HI := Lib.hid hi0
  have H0 : Hid (RpAt w raw s (w.alloc (.cells #[] 44)) (.slice (some ⟨w.heap.size, 0, none⟩) 0 0) 0 []) :=
    ⟨Nat.zero_le _, Nat.zero_le _, own_of_blk (cur := []) (Blk.new w _ []) rfl rfl (Nat.le_refl _) (by omega) (Nat.le_refl _), (Only.refl _ _).alloc _, by rw [List.drop_zero]; cases parseFrom raw 0 s <;> rfl⟩
  clear hi0
  go_enter Tryd.func11, Tryd.ntmps11
  go_wp2
  go_loopw [7, 8] (fun v a W => ∃ (k : Nat) (ts : List Pl) (A : Option Addr) (m c : Nat), a = .int .i64 (k : Int) ∧ v = .slice A m c ∧ m = ts.length ∧ k ≤ s.length ∧ Hid (RpAt w raw s W (.slice A m c) k ts)) (fun _ a _ => s.length - (intOf a).toNat)
  case atStart => exact ⟨0, [], _, _, _, rfl, rfl, rfl, Nat.zero_le _, H0.out⟩
  case round =>
    clear H0
    obtain ⟨k, ts, A, m, c, rfl, rfl, hm, hk, HR⟩ := hrel
    have HM := Lib.hid hm
    clear hm
    by_cases hlt : k < s.length
    · have hit := fun W => gitem_ref W (s.drop k) raw (by rw [List.length_drop]; omega) (fun h => by have := congrArg List.length h; rw [List.length_drop] at this; simp at this; omega)
      have hcutk : (ByteArray.mk s.toArray).extract k s.length = ⟨(s.drop k).toArray⟩ := by rw [str_cut, List.take_length]
      obtain ⟨R, hR⟩ : ∃ R, R = cut raw (s.drop k) := ⟨_, rfl⟩
      rw [← hR] at hit
      obtain ⟨cs, hcs⟩ : ∃ cs, cs = riCells (cutIt R) 0 0 := ⟨_, rfl⟩
      obtain ⟨z, hz⟩ : ∃ z : Int, z = cutN R := ⟨_, rfl⟩
      have HCL : Hid (cs.length = 6) := by rw [hcs]; rfl
      have HCO : Hid (∀ v ∈ cs, v.oneCell' = true) := by rw [hcs]; exact ri_one _ _ _
      have HC : Hid (∀ W, Calls Tryd.prog 23 #[.string ⟨(s.drop k).toArray⟩, .bool raw] W fun e w' => e = .returned (.tuple #[.agg cs.toArray, .int .i64 z]) ∧ Hid (Only (fun _ => False) W w')) := fun W => by
        rw [hcs, hz]
        exact hit W
      have HCS := Lib.hid hcs
      have HRe := Lib.hid hR
      have hml : m ≤ 100000 := by have := HM.out; have := HR.out.few; omega
      clear hit hcs hR
      cases R with
      | few =>
        obtain rfl : z = 0 := hz
        go_wp2_with (first
          | (go_at_call 23; refine (HC.out wr).mono ?_; rintro e w1 ⟨rfl, ho1⟩)
          | ((with_reducible show wpList _ _ _ (⟨none, .store 44 _ _, _, _, _, _⟩ :: _) _ _); refine step_store rfl 44 _ _ rfl w1.heap.size rfl cs rfl _ (riCells .none 0 0) (Blk.new _ _ _) (by rw [HCL.out]; exact size_ritem) HCL.out.symm HCO.out ?_; intro w2 hB2 hz2 ho2; have HO2 : Hid (Only (fun i => w1.heap.size ≤ i) w1 w2) := (((Only.refl (fun i => w1.heap.size ≤ i) w1).alloc _).trans ho2 (fun i hi => .inl (by omega)))))
        go_ret3
        have htold := HR.out.told
        rw [parseFrom_few HRe.out.symm] at htold
        unfold RpSays
        rw [← htold]
        simp only [Option.map_some, List.append_nil, List.length_drop]
        refine ⟨A, c, ?_, ?_, ?_⟩
        · rw [← HM.out]
          have e1 : (s.length : Int) - (k : Int) = ((s.length - k : Nat) : Int) := by omega
          first | rfl | (rw [← e1]; rfl)
        · have h1 := own_same HR.out.row ho1.out
          have h2 := own_only h1 HO2.out (fun q hq => by have := (own_lt h1 q hq).2; omega)
          rw [← HM.out]
          unfold RiRow
          rw [← HM.out]
          rw [← HM.out] at h2
          exact h2
        · exact (HR.out.only.trans ho1.out (fun _ h => h.elim)).trans HO2.out (fun i hi => .inr (by have := HR.out.only.size; have := ho1.out.size; omega))
      | bad =>
        obtain rfl : z = -1 := hz
        go_wp2_with (first
          | (go_at_call 23; refine (HC.out wr).mono ?_; rintro e w1 ⟨rfl, ho1⟩)
          | ((with_reducible show wpList _ _ _ (⟨none, .store 44 _ _, _, _, _, _⟩ :: _) _ _); refine step_store rfl 44 _ _ rfl w1.heap.size rfl cs rfl _ (riCells .none 0 0) (Blk.new _ _ _) (by rw [HCL.out]; exact size_ritem) HCL.out.symm HCO.out ?_; intro w2 hB2 hz2 ho2; have HO2 : Hid (Only (fun i => w1.heap.size ≤ i) w1 w2) := (((Only.refl (fun i => w1.heap.size ≤ i) w1).alloc _).trans ho2 (fun i hi => .inl (by omega)))))
        go_ret3
        have htold := HR.out.told
        rw [parseFrom_bad HRe.out.symm] at htold
        unfold RpSays
        rw [← htold]
        exact ⟨rfl, (HR.out.only.trans ho1.out (fun _ h => h.elim)).trans HO2.out (fun i hi => .inr (by have := HR.out.only.size; have := ho1.out.size; omega))⟩
      | got x q =>
        obtain ⟨hq0, hqn⟩ := cut_bounds HRe.out.symm
        rw [List.length_drop] at hqn
        obtain rfl : z = (q : Int) := hz
        have hqn' : k + q ≤ s.length := by omega
        have e0 : ((q : Int) == 0) = false := beq_eq_false_iff_ne.2 (by omega)
        have e1 : decide ((q : Int) < 0) = false := by simp
        have hq0' : ¬ q = 0 := by omega
        go_wp2_with (first
          | (go_at_call 23; refine (HC.out wr).mono ?_; rintro e w1 ⟨rfl, ho1⟩)
          | ((with_reducible show wpList _ _ _ (⟨none, .store 44 _ _, _, _, _, _⟩ :: _) _ _); refine step_store rfl 44 _ _ rfl w1.heap.size rfl cs rfl _ (riCells .none 0 0) (Blk.new _ _ _) (by rw [HCL.out]; exact size_ritem) HCL.out.symm HCO.out ?_; intro w2 hB2 hz2 ho2;
              have k1 : w2.cell? ⟨w1.heap.size, 1, none⟩ = some (.int .i64 0) := (by rw [hB2.out.cell, HCS.out]; rfl);
              have k2 : w2.cell? ⟨w1.heap.size, 2, none⟩ = some (.int .i64 0) := (by rw [hB2.out.cell, HCS.out]; rfl);
              have f1 := hB2.out.frozen 1; have f2 := hB2.out.frozen 2;
              have HB3 : Hid (Blk ((w2.setCell ⟨w1.heap.size, 1, none⟩ (.int .i64 (k : Int))).setCell ⟨w1.heap.size, 2, none⟩ (.int .i64 ((k : Int) + (q : Int)))) w1.heap.size 44 (riCells x (k : Int) ((k : Int) + (q : Int)))) := (by have := (hB2.out.setCell 1 (.int .i64 (k : Int))).setCell 2 (.int .i64 ((k : Int) + (q : Int))); rw [HCS.out] at this; exact this);
              have HO3 : Hid (Only (fun i => w1.heap.size ≤ i) w1 ((w2.setCell ⟨w1.heap.size, 1, none⟩ (.int .i64 (k : Int))).setCell ⟨w1.heap.size, 2, none⟩ (.int .i64 ((k : Int) + (q : Int))))) := ((((Only.refl (fun i => w1.heap.size ≤ i) w1).alloc _).trans ho2 (fun i hi => .inl (by omega))).setCell (p := ⟨w1.heap.size, 1, none⟩) (.inl (Nat.le_refl _)) _).setCell (p := ⟨w1.heap.size, 2, none⟩) (.inl (Nat.le_refl _)) _)
          | ((with_reducible show wpList _ _ _ (⟨some 40, _, _, _, _, _⟩ :: _) _ _); refine wpList_load_mid rfl 44 (.tmp 9) rfl w1.heap.size 0 rfl (riCells x (k : Int) ((k : Int) + (q : Int))) _ (range_of HB3.out) Tryd.underlying44 rfl size_ritem ?_)
          | ((with_reducible show wpList _ _ _ (⟨some 41, _, _, _, _, _⟩ :: _) _ _); refine step_ritem rfl (.tmp 40) rfl (riCells x (k : Int) ((k : Int) + (q : Int))) rfl rfl ?_; have HR4 : Hid (RiRow (((w2.setCell ⟨w1.heap.size, 1, none⟩ (.int .i64 (k : Int))).setCell ⟨w1.heap.size, 2, none⟩ (.int .i64 ((k : Int) + (q : Int)))).alloc (.cells (riCells x (k : Int) ((k : Int) + (q : Int))).toArray 44)) w.heap.size (.slice A m c) ts) := (own_same (own_only (own_same HR.out.row ho1.out) HO3.out (fun q hq => by have := (own_lt (own_same HR.out.row ho1.out) q hq).2; omega)) ((Only.refl _ _).alloc _)); have HW4 : Hid (w.heap.size ≤ (((w2.setCell ⟨w1.heap.size, 1, none⟩ (.int .i64 (k : Int))).setCell ⟨w1.heap.size, 2, none⟩ (.int .i64 ((k : Int) + (q : Int)))).alloc (.cells (riCells x (k : Int) ((k : Int) + (q : Int))).toArray 44)).heap.size) := (by have := HR.out.only.size; have := ho1.out.size; have := HO3.out.size; show _ ≤ (World.alloc _ _).heap.size; simp only [World.size_alloc]; omega))
          | (at_builtin; go_loud (refine step_append_own rfl (.tmp 39) (.tmp 41) 32 rfl w.heap.size 44 i0 _ 6 56 Tryd.underlying32 HI.out iz0 iz1 iz2 rfl (by omega) (.slice A m c) m (flatRi ts) rfl (by have := HR4.out; unfold RiRow at this; rw [← HM.out] at this; exact this) (some ⟨((w2.setCell ⟨w1.heap.size, 1, none⟩ (.int .i64 (k : Int))).setCell ⟨w1.heap.size, 2, none⟩ (.int .i64 ((k : Int) + (q : Int)))).heap.size, 0, none⟩) 1 1 (riCells x (k : Int) ((k : Int) + (q : Int))) rfl rfl (fun _ => ⟨_, rfl, fun j u hj => by rw [at_add, (Blk.new ((w2.setCell ⟨w1.heap.size, 1, none⟩ (.int .i64 (k : Int))).setCell ⟨w1.heap.size, 2, none⟩ (.int .i64 ((k : Int) + (q : Int)))) 44 (riCells x (k : Int) ((k : Int) + (q : Int)))).cell]; exact hj⟩) (ri_one _ _ _) (by omega) (by omega) HW4.out ?_); intro A5 c5 w5 hnc5 hc5 hq5))
        go_roundw
        case rel =>
          refine ⟨k + q, ts ++ [⟨x, k, k + q⟩], A5, m + 1, c5, by first | rfl | go_num, rfl, by rw [List.length_append, ← HM.out]; rfl, hqn', hqn', ?_, ?_, ?_, ?_⟩
          · have := HR.out.few
            rw [List.length_append, List.length_singleton]
            omega
          · have := hq5.out.1
            unfold RiRow
            rw [flatRi_append, List.length_append, ← HM.out]
            exact this
          · exact (((HR.out.only.trans ho1.out (fun _ h => h.elim)).trans HO3.out (fun i hi => .inr (by have := HR.out.only.size; have := ho1.out.size; omega))).alloc _).grown hq5.out.2.1 (fun k hk => .inr (own_lt HR.out.row k hk).1)
          · have htold := HR.out.told
            rw [parseFrom_got HRe.out.symm, List.drop_drop] at htold
            rw [← htold]
            cases parseFrom raw (k + q) (s.drop (k + q)) with
            | none => rfl
            | some r => simp
        case measure => simp [intOf]; omega
    · go_wp2
      go_ret3
      have htold := HR.out.told
      have hks : k = s.length := by omega
      rw [hks, List.drop_length, parseFrom_few rfl] at htold
      unfold RpSays
      rw [← htold]
      simp only [Option.map_some, List.append_nil]
      have h1 := HR.out.row
      unfold RiRow at h1
      rw [← HM.out] at h1
      refine ⟨A, c, by rw [← HM.out]; rfl, ?_, HR.out.only⟩
      rw [← HM.out]
      unfold RiRow
      rw [← HM.out]
      exact h1
end Go.Proofs.YtbjabjkmagekfaaDoor
