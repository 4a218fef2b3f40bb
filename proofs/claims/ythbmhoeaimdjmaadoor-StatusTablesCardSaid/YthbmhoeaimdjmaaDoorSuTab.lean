/- Reports of tables: the program's, the document's. -/
import Derived.Test.YthbmhoeaimdjmaaDoorSuOf
import Derived.Test.YthbmhoeaimdjmaaDoorTbJt
namespace Go.Proofs.YthbmhoeaimdjmaaDoor
open Go Go.RowKit
set_option maxRecDepth 100000
set_option maxHeartbeats 4000000

/-- A side's part of a report. -/
def enOf (v : Int) (zs : List Int) : List En := zs.map fun z => ⟨v, z⟩
theorem enOf_length (v : Int) (zs : List Int) : (enOf v zs).length = zs.length := by simp [enOf]
theorem onL_short (T : Tb) (s : Int) : (onL T s 256).length ≤ 256 := by
  unfold onL
  rw [List.length_map]
  exact Nat.le_trans (List.length_filter_le _ _) (by simp)
def tbRep (T : Tb) : List En := enOf 251 (onL T 0 256) ++ enOf 253 (onL T 1 256)
theorem csE_src {w : World} {B n c : Nat} {A : Option Addr} {e : TypeId} {xs : List Value} (h : w.ownsRow B e 2 (.slice A n c) n xs) : 0 < n → ∃ ad, A = some ad ∧ ∀ (j : Nat) (u : Value), xs[j]? = some u → w.cell? (ad.add j) = some u := fun hn => by
  obtain ⟨g, hA, _, _, hc⟩ := own_at h hn
  exact ⟨_, hA, fun j u hj => by rw [at_add]; exact hc j u hj⟩
theorem csE_ones (l : List En) : ∀ u ∈ csE l, u.oneCell' = true := by
  intro u hu
  obtain ⟨x, _, hx⟩ := List.mem_flatMap.1 hu
  exact En.cs_one x u hx

theorem entries_any {w : World} {B n c : Nat} {A : Option Addr} {zs : List Int} (h : w.ownsRow B 3 1 (.slice A n c) n (zs.map iv)) (hn : n ≤ 1000) (v : Int) :
    Calls Tryd.prog 49 #[.int .i64 v, .slice A n c] w fun e w' => ∃ A' c', e = .returned (.slice A' n c') ∧ w'.ownsRow w.heap.size 70 2 (.slice A' n c') n (csE (enOf v zs)) ∧ Only (fun _ => False) w w' := by
  have hl : zs.length = n := by have := h.1; simpa using this
  have H := Lib.hid h
  have HL := Lib.hid hl
  obtain ⟨i, hi, hz, h1, h2⟩ := infoK info_en
  have HI := Lib.hid hi
  have HZ := Lib.hid hz
  have HI1 := Lib.hid h1
  have HI2 := Lib.hid h2
  clear h hl hi hz h1 h2
  go_enter Tryd.func49, Tryd.ntmps49
  go_wp2
  go_loopw [5, 10] (fun a i W => ∃ (k : Nat) (B : Option Addr) (cb : Nat), k ≤ n ∧ a = .slice B k cb ∧ i = .int .i64 (k : Int) ∧ Hid (W.ownsRow w.heap.size 70 2 (.slice B k cb) k (csE (enOf v (zs.take k))) ∧ Only (fun _ => False) w W)) (fun _ i _ => n - (intOf i).toNat)
  case atStart => exact ⟨0, _, 0, Nat.zero_le _, rfl, rfl, own_nil _ _ _ _, Only.refl _ _⟩
  case round =>
    obtain ⟨k, B, cb, hk, rfl, rfl, hrel⟩ := hrel
    by_cases hlt : k < n
    · have hlt2 : (k : Int) < (n : Int) := by omega
      obtain ⟨x, hx⟩ : ∃ x, zs[k]? = some x := ⟨_, List.getElem?_eq_getElem (by rw [HL.out]; omega)⟩
      obtain ⟨g, rfl, _, _, hc⟩ := own_at (own_same H.out hrel.out.2) (by omega)
      have d0 := hc k (.int .i64 x) (by rw [List.getElem?_map, hx]; rfl)
      have HTk : Hid (csE (enOf v (zs.take (k + 1))) = csE (enOf v (zs.take k)) ++ [.int .i64 v, .int .i64 x]) := by
        show csE (enOf v (zs.take (k + 1))) = _
        rw [List.take_add_one, hx]
        simp [enOf, csE]
      obtain ⟨vs, hvs⟩ : ∃ vs, vs = csE (enOf v (zs.take k)) := ⟨_, rfl⟩
      rw [← hvs] at HTk hrel
      clear hx hc hvs
      go_wp2_with (first
        | (at_builtin; refine step_append_own rfl (.tmp 14) (.tmp 18) 22 rfl w.heap.size 70 i _ 2 16 Tryd.underlying22 HI.out HZ.out HI1.out HI2.out rfl (by omega) (.slice B k cb) k vs rfl (own_same hrel.out.1 ((Only.refl _ _).alloc _)) (some ⟨wr.heap.size, 0, none⟩) 1 1 [.int .i64 v, .int .i64 x] rfl rfl (fun _ => ⟨_, rfl, fun j u hj => by rw [at_add]; exact ((Blk.new' _ _ [.int .i64 v, .int .i64 x] (by simp)).cell j).trans hj⟩) (En.cs_one ⟨v, x⟩) (by omega) (by omega) (Nat.le_trans hrel.out.2.size (by simp; try omega)) ?_; intro A7 c7 w7 hq1 hq2 hq3; have HOw7 := Lib.hid hq3.out.1; have HOn7 : Hid (Only (fun _ => False) w w7) := Only.grown (hrel.out.2.alloc _) hq3.out.2.1 (fun k hk => .inr (own_lt hrel.out.1 k hk).1); clear hq1 hq2 hq3)
        | fail)
      go_roundw
      case rel => exact ⟨k + 1, A7, c7, by omega, rfl, by go_num, by rw [HTk.out]; exact HOw7.out, HOn7.out⟩
      case measure => simp [intOf]; omega
    · obtain rfl : k = n := by omega
      have hF : Hid (csE (enOf v (zs.take k)) = csE (enOf v zs)) := by
        show csE (enOf v (zs.take k)) = _
        rw [List.take_of_length_le (by rw [HL.out]; exact Nat.le_refl _)]
      go_wp2
      go_ret
      exact ⟨B, cb, rfl, by rw [← hF.out]; exact hrel.out.1, hrel.out.2⟩

/-- The program's report of a table. -/
theorem suTab_any {w : World} {p : Nat} {ag : Nat → Nat → Bool} {T : Tb} (h : TbAt w p ag T) : Calls Tryd.prog 21 #[.pointer (some ⟨p, 0, none⟩)] w fun e w' => ∃ A n c, e = .returned (.slice A n c) ∧ EnAt w' A n (tbRep T) ∧ n ≤ 512 ∧ Only (fun _ => False) w w' := by
  have HT := Lib.hid h
  have HL := Lib.hid (fun W (ho : Only (fun _ => False) w W) s => tlist_any (h.same ho) s)
  have HE := Lib.hid (fun (W : World) (B n c : Nat) (A : Option Addr) (zs : List Int) (h : W.ownsRow B 3 1 (.slice A n c) n (zs.map iv)) (hn : n ≤ 1000) (v : Int) => entries_any h hn v)
  have HS0 := Lib.hid (onL_short T 0)
  have HS1 := Lib.hid (onL_short T 1)
  obtain ⟨i, hi, hz, h1, h2⟩ := infoK info_en
  have HI := Lib.hid hi
  have HZ := Lib.hid hz
  have HI1 := Lib.hid h1
  have HI2 := Lib.hid h2
  have HRep : Hid (csE (tbRep T) = csE (enOf 251 (onL T 0 256)) ++ csE (enOf 253 (onL T 1 256)) ∧ (tbRep T).length = (onL T 0 256).length + (onL T 1 256).length) := ⟨csE_append _ _, by rw [tbRep, List.length_append, enOf_length, enOf_length]⟩
  obtain ⟨z0, hz0⟩ : ∃ z, z = onL T 0 256 := ⟨_, rfl⟩
  obtain ⟨z1, hz1⟩ : ∃ z, z = onL T 1 256 := ⟨_, rfl⟩
  have HZ0 := Lib.hid hz0
  have HZ1 := Lib.hid hz1
  rw [← hz0, ← hz1] at HRep
  rw [← hz0] at HS0
  rw [← hz1] at HS1
  clear h hi hz h1 h2 hz0 hz1
  go_enter Tryd.func21, Tryd.ntmps21
  go_wp2_with (first
    | ((with_reducible show Calls _ _ #[.pointer _, .int .i64 0] _ _); refine (HL.out _ (Only.refl _ _) 0).mono ?_; rintro e w2 ⟨A1, n1, c1, rfl, hn1, hr1, ho⟩; rw [← HZ0.out] at hn1 hr1; have HO2 := Lib.hid ho; have HR1 := Lib.hid hr1; have HN1 := Lib.hid hn1; clear ho hr1 hn1)
    | ((with_reducible show Calls _ _ #[.int .i64 251, _] _ _); refine (HE.out _ _ _ _ _ _ HR1.out (by have := HN1.out; have := HS0.out; omega) 251).mono ?_; rintro e w3 ⟨A2, c2, rfl, hr2, ho⟩; have HO3 := Lib.hid (HO2.out.trans ho (fun _ h => h.elim)); have HR2 := Lib.hid hr2; have HZ3 : Hid (w2.heap.size ≤ w3.heap.size) := ho.size; clear ho hr2)
    | ((with_reducible show Calls _ _ #[.pointer _, .int .i64 1] _ _); refine (HL.out _ HO3.out 1).mono ?_; rintro e w4 ⟨A3, n3, c3, rfl, hn3, hr3, ho⟩; rw [← HZ1.out] at hn3 hr3; have HO4 := Lib.hid (HO3.out.trans ho (fun _ h => h.elim)); have HR4 := Lib.hid (own_same HR2.out ho); have HR3 := Lib.hid hr3; have HN3 := Lib.hid hn3; have HZ4 : Hid (w2.heap.size ≤ w4.heap.size) := Nat.le_trans HZ3.out ho.size; clear ho hr3 hn3)
    | ((with_reducible show Calls _ _ #[.int .i64 253, _] _ _); refine (HE.out _ _ _ _ _ _ HR3.out (by have := HN3.out; have := HS1.out; omega) 253).mono ?_; rintro e w5 ⟨A4, c4, rfl, hr5, ho⟩; have HO5 := Lib.hid (HO4.out.trans ho (fun _ h => h.elim)); have HR5 := Lib.hid hr5; have HR6 := Lib.hid (own_same HR4.out ho); have HZ5 : Hid (w2.heap.size ≤ w5.heap.size) := Nat.le_trans HZ4.out ho.size; clear ho hr5)
    | (at_builtin; refine step_append_own rfl (.tmp 9) (.tmp 12) 22 rfl w2.heap.size 70 i _ 2 16 Tryd.underlying22 HI.out HZ.out HI1.out HI2.out rfl (by omega) (.slice A2 n1 c2) n1 _ rfl HR6.out A4 n3 c4 (csE (enOf 253 z1)) rfl (by rw [csE_length, enOf_length, HN3.out]) (csE_src HR5.out) (csE_ones _) (by have := HN1.out; have := HN3.out; have := HS0.out; have := HS1.out; omega) (by have := HN1.out; have := HN3.out; have := HS0.out; have := HS1.out; omega) HZ5.out ?_; intro A7 c7 w7 hq1 hq2 hq3; have HOw7 := Lib.hid hq3.out.1; have HOn7 : Hid (Only (fun _ => False) w w7) := Only.grown HO5.out hq3.out.2.1 (fun k hk => .inr (by have := (own_lt HR6.out k hk).1; have := HO2.out.size; omega)); clear hq1 hq2 hq3)
    | fail)
  go_ret
  have ho := HOw7.out
  rw [← HRep.out.1] at ho
  have hl : (tbRep T).length = n1 + n3 := by rw [HRep.out.2, HN1.out, HN3.out]
  exact ⟨A7, n1 + n3, c7, rfl, LsOf.of_own (cs := En.cs) (m := 2) (fun _ => rfl) ho hl, by have := HN1.out; have := HN3.out; have := HS0.out; have := HS1.out; omega, HOn7.out⟩

theorem suTab_nil (w : World) : Calls Tryd.prog 21 #[.pointer none] w fun e w' => e = .returned (.slice none 0 0) ∧ w' = w := by
  go_enter Tryd.func21, Tryd.ntmps21
  go_wp2
  go_ret
  exact ⟨rfl, rfl⟩
/-- The report so far, side by side. -/
def repTo (T : Tb) : Nat → List En
  | 0 => []
  | s + 1 => repTo T s ++ enOf (251 + 2 * (s : Int)) (onL T (s : Int) 256)
theorem repTo_two (T : Tb) : repTo T 2 = tbRep T := rfl
theorem repTo_short (T : Tb) : ∀ s, (repTo T s).length ≤ 256 * s
  | 0 => Nat.le_refl _
  | s + 1 => by
    have h1 := repTo_short T s
    have h2 := onL_short T (s : Int)
    rw [repTo, List.length_append, enOf_length]
    omega
/-- The document's report of a table. -/
theorem rsuTab_any {w : World} {B0 r : Nat} {P : Po} {l : List Rq} {T : Tb} (h : RfAt w B0 r P l T) (hr : RowsAre l T.st) : Calls Tryd.prog 22 #[.pointer (some ⟨r, 0, none⟩)] w fun e w' => ∃ A n c, e = .returned (.slice A n c) ∧ EnAt w' A n (tbRep T) ∧ Only (fun _ => False) w w' := by
  have HL := Lib.hid (fun W (ho : Only (fun _ => False) w W) s => rlist_any (h.same ho) hr s)
  have HSh := Lib.hid (onL_short T)
  have HRs := Lib.hid (repTo_short T)
  obtain ⟨i, hi, hz, h1, h2⟩ := infoK info_ren
  have HI := Lib.hid hi
  have HZ := Lib.hid hz
  have HI1 := Lib.hid h1
  have HI2 := Lib.hid h2
  clear h hr hi hz h1 h2
  go_enter Tryd.func22, Tryd.ntmps22
  go_wp2
  have HB0 : Hid ((w.alloc (.cells #[] 71)).ownsRow w.heap.size 71 2 (.slice (some ⟨w.heap.size, 0, none⟩) (0 : Nat) 0) 0 (csE [])) := own_of_blk (cur := []) (Blk.new w _ []) rfl rfl (by omega) (by omega) (Nat.le_refl _)
  have HO0 : Hid (Only (fun _ => False) w (w.alloc (.cells #[] 71))) := (Only.refl _ _).alloc _
  generalize w.alloc (.cells #[] 71) = w0 at *
  go_loopw [3, 4] (fun a i W => ∃ (s j : Nat) (B : Option Addr) (cb : Nat), s ≤ 2 ∧ j ≤ 512 ∧ a = .slice B j cb ∧ i = .int .i64 (s : Int) ∧ Hid (j = (repTo T s).length ∧ W.ownsRow w.heap.size 71 2 (.slice B j cb) j (csE (repTo T s)) ∧ Only (fun _ => False) w W)) (fun _ i _ => 2 - (intOf i).toNat)
  case atStart => exact ⟨0, 0, _, 0, by omega, by omega, rfl, rfl, rfl, HB0.out, HO0.out⟩
  case round =>
    clear HB0 HO0
    obtain ⟨s, j, B, cb, hs, hj, rfl, rfl, hrel⟩ := hrel
    by_cases hs2 : s < 2
    · have hs2' : (s : Int) < 2 := by omega
      obtain ⟨W0, hW0⟩ : ∃ W0, W0 = wr := ⟨_, rfl⟩
      subst hW0
      obtain ⟨zs, hzs⟩ : ∃ z, z = onL T (s : Int) 256 := ⟨_, rfl⟩
      have HZs := Lib.hid hzs
      have HZl : Hid (zs.length ≤ 256) := by show zs.length ≤ 256; rw [hzs]; exact HSh.out _
      have HR := hrel
      have HR2 : Hid (repTo T (s + 1) = repTo T s ++ enOf (251 + 2 * (s : Int)) zs) := by show repTo T (s + 1) = _; rw [repTo, ← hzs]
      have hjs : Hid (j + zs.length ≤ 512) := by
        show j + zs.length ≤ 512
        have h1 := HRs.out (s + 1)
        rw [HR2.out, List.length_append, enOf_length] at h1
        have := HR.out.1
        omega
      clear hzs hrel
      go_wp2_with (first
        | (go_at_call 51; refine (HL.out _ HR.out.2.2 _).mono ?_; rintro e w2 ⟨A1, n1, c1, rfl, hn1, hr1, ho⟩; rw [← HZs.out] at hn1 hr1; have HO2 := Lib.hid (HR.out.2.2.trans ho (fun _ h => h.elim)); have HB2 := Lib.hid (own_same HR.out.2.1 ho); have HR1 := Lib.hid hr1; have HN1 := Lib.hid hn1; have hn256 : n1 ≤ 256 := (by rw [hn1]; exact HZl.out); have HGb : Hid (∀ k, (Value.slice A1 n1 c1).ownBlock = some k → W0.heap.size ≤ k ∧ k < w2.heap.size) := (fun k hk => own_lt hr1 k hk); have HSz : Hid (W0.heap.size ≤ w2.heap.size) := ho.size; clear ho hr1 hn1)
        | fail)
      go_loopw [3, 16] (fun a i W => ∃ (k q : Nat) (B : Option Addr) (cb : Nat), k ≤ n1 ∧ q = j + k ∧ a = .slice B q cb ∧ i = .int .i64 (k : Int) ∧ Hid (W.ownsRow w.heap.size 71 2 (.slice B q cb) q (csE (repTo T s ++ enOf (251 + 2 * (s : Int)) (zs.take k))) ∧ Only (fun _ => False) w W ∧ W.ownsRow W0.heap.size 3 1 (.slice A1 n1 c1) n1 (zs.map iv) ∧ w2.heap.size ≤ W.heap.size ∧ ∀ b, (Value.slice B q cb).ownBlock = some b → b < W0.heap.size ∨ w2.heap.size ≤ b)) (fun _ i _ => n1 - (intOf i).toNat)
      case atStart => exact ⟨0, j, B, cb, by omega, by omega, rfl, rfl, by rw [List.take_zero, enOf, List.map_nil, List.append_nil]; exact HB2.out, HO2.out, HR1.out, Nat.le_refl _, fun b hb => .inl (own_lt HR.out.2.1 b hb).2⟩
      case round =>
        clear HB2 HO2 HR1
        obtain ⟨k, q, B, cb, hk, hq, rfl, rfl, hrel⟩ := hrel
        have HQ := Lib.hid hq
        have hq5 : q ≤ 1000 := by omega
        clear hq
        by_cases hlt : k < n1
        · have hlt2 : (k : Int) < (n1 : Int) := by omega
          obtain ⟨x, hx⟩ : ∃ x, zs[k]? = some x := ⟨_, List.getElem?_eq_getElem (by rw [← HN1.out]; omega)⟩
          obtain ⟨g, rfl, _, _, hc⟩ := own_at hrel.out.2.2.1 (by omega)
          have d0 := hc k (.int .i64 x) (by rw [List.getElem?_map, hx]; rfl)
          have HTk : Hid (csE (repTo T s ++ enOf (251 + 2 * (s : Int)) (zs.take (k + 1))) = csE (repTo T s ++ enOf (251 + 2 * (s : Int)) (zs.take k)) ++ [.int .i64 (251 + 2 * (s : Int)), .int .i64 x]) := by
            show csE (repTo T s ++ enOf (251 + 2 * (s : Int)) (zs.take (k + 1))) = _
            rw [List.take_add_one, hx]
            simp [enOf, csE]
          obtain ⟨vs, hvs⟩ : ∃ vs, vs = csE (repTo T s ++ enOf (251 + 2 * (s : Int)) (zs.take k)) := ⟨_, rfl⟩
          rw [← hvs] at HTk hrel
          clear hx hc hvs
          go_wp2_with (first
            | (at_builtin; refine step_append_own rfl (.tmp 20) (.tmp 26) 25 rfl w.heap.size 71 i _ 2 16 Tryd.underlying25 HI.out HZ.out HI1.out HI2.out rfl (by omega) (.slice B q cb) q vs rfl (own_same hrel.out.1 ((Only.refl _ _).alloc _)) (some ⟨wr.heap.size, 0, none⟩) 1 1 [.int .i64 (251 + 2 * (s : Int)), .int .i64 x] rfl rfl (fun _ => ⟨_, rfl, fun j u hj => by rw [at_add]; exact ((Blk.new' _ _ [.int .i64 (251 + 2 * (s : Int)), .int .i64 x] (by simp)).cell j).trans hj⟩) (En.cs_one ⟨251 + 2 * (s : Int), x⟩) (by omega) (by omega) (Nat.le_trans hrel.out.2.1.size (by simp; try omega)) ?_; intro A7 c7 w7 hq1 hq2 hq3; have HOw7 := Lib.hid hq3.out.1; have HG7 := Lib.hid hq3.out.2.1; have HN7 := Lib.hid hq3.out.2.2; have HOn7 : Hid (Only (fun _ => False) w w7) := Only.grown (hrel.out.2.1.alloc _) hq3.out.2.1 (fun k hk => .inr (own_lt hrel.out.1 k hk).1); clear hq1 hq2 hq3)
            | fail)
          have HI7 : Hid (w7.ownsRow W0.heap.size 3 1 (.slice (some ⟨g, 0, none⟩) n1 c1) n1 (zs.map iv)) := own_beside (own_same hrel.out.2.2.1 ((Only.refl _ _).alloc _)) HG7.out (fun b hb e => by
            have h1 := HGb.out b hb
            rcases hrel.out.2.2.2.2 b e with h2 | h2 <;> omega)
          have HZ7 : Hid (w2.heap.size ≤ w7.heap.size ∧ ∀ b, (Value.slice A7 (q + 1) c7).ownBlock = some b → b < W0.heap.size ∨ w2.heap.size ≤ b) := by
            have h1 := HG7.out.size
            have h2 := hrel.out.2.2.2.1
            refine ⟨by simp at h1; omega, fun b hb => ?_⟩
            rcases HN7.out b hb with h3 | h3
            · exact hrel.out.2.2.2.2 b h3
            · exact .inr (by simp at h3; omega)
          go_roundw
          case rel => exact ⟨k + 1, q + 1, A7, c7, by omega, by have := HQ.out; omega, rfl, by go_num, by rw [HTk.out]; exact HOw7.out, HOn7.out, HI7.out, HZ7.out.1, HZ7.out.2⟩
          case measure => simp [intOf]; omega
        · obtain rfl : k = n1 := by omega
          have hF : Hid (csE (repTo T s ++ enOf (251 + 2 * (s : Int)) (zs.take k)) = csE (repTo T (s + 1))) := by
            show csE (repTo T s ++ enOf (251 + 2 * (s : Int)) (zs.take k)) = _
            rw [HR2.out, List.take_of_length_le (by rw [← HN1.out]; exact Nat.le_refl _)]
          have hql : Hid (q = (repTo T (s + 1)).length ∧ q ≤ 512) := by
            have h1 := HR.out.1
            have h2 := hjs.out
            have h3 := HN1.out
            have h4 := HQ.out
            exact ⟨by rw [HR2.out, List.length_append, enOf_length]; omega, by omega⟩
          go_wp2
          go_roundw
          case rel => exact ⟨s + 1, q, B, cb, by omega, hql.out.2, rfl, by go_num, hql.out.1, by rw [← hF.out]; exact hrel.out.1, hrel.out.2.1⟩
          case measure => simp [intOf]; omega
    · obtain rfl : s = 2 := by omega
      go_wp2
      go_ret
      have ho := hrel.out.2.1
      rw [repTo_two] at ho
      exact ⟨B, j, cb, rfl, LsOf.of_own (cs := En.cs) (m := 2) (fun _ => rfl) ho (by rw [hrel.out.1, repTo_two]), hrel.out.2.2⟩
end Go.Proofs.YthbmhoeaimdjmaaDoor
