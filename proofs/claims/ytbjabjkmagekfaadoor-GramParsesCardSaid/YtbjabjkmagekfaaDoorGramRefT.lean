/- The document's Text and Border of items. -/
import Derived.Test.YtbjabjkmagekfaaDoorGramRefP
import Derived.Test.YtbjabjkmagekfaaDoorEmitSay
namespace Go.Proofs.YtbjabjkmagekfaaDoor
open Go Go.RowKit
set_option maxRecDepth 100000
set_option maxHeartbeats 8000000

/-- What lies at a place of the document's row. -/
theorem ri_at {w : World} {B : Nat} {A : Option Addr} {m c i : Nat} {l : List Pl} {x : Pl} (h : RiRow w B (.slice A m c) l) (hm : m = l.length) (hx : l[i]? = some x) : ∃ g, A = some ⟨g, 0, none⟩ ∧ w.rangeAt g (i * 6) (plRi x) := by
  have hi := (List.getElem?_eq_some_iff.1 hx).1
  unfold RiRow at h
  rw [← hm] at h
  obtain ⟨g, hA, _, _, hc⟩ := own_at h (by omega)
  exact ⟨g, hA, fun j u hj => hc _ _ (flatRi_get hx j u hj)⟩
/-- A Byte's code is a byte. -/
theorem parse_codes {raw : Bool} {s : List UInt8} {l : List Pl} {r : Nat} (hp : parseFrom raw 0 s = some (l, r)) : ∀ x ∈ l, x.it.kind = 1 → 0 ≤ x.it.code ∧ x.it.code ≤ 255 := fun x hx hk => by
  have h := ((parse_alone hp).2 x hx).2.2.2
  generalize x.to_ - x.from_ = n at h
  generalize x.it = it at *
  cases cut_form h with
  | one c n h0 hn =>
    have := c.toNat_lt
    simp only
    omega
  | _ => simp at hk

theorem gtext_ref {w : World} {B : Nat} {A : Option Addr} {m c : Nat} {l : List Pl} (h : RiRow w B (.slice A m c) l) (hm : m = l.length) (hml : m ≤ 1000) (hcode : ∀ x ∈ l, x.it.kind = 1 → 0 ≤ x.it.code ∧ x.it.code ≤ 255) :
    Calls Tryd.prog 17 #[.slice A m c] w fun e w' => e = .returned (.string ⟨(says l).toArray⟩) ∧ Only (fun _ => False) w w' := by
  have HR := Lib.hid h
  have HM := Lib.hid hm
  have HCd := Lib.hid hcode
  clear h hm hcode
  go_enter Tryd.func17, Tryd.ntmps17
  go_wp2
  go_loopw [3, 8] (fun v i W => ∃ (k : Nat) (f : List UInt8), k ≤ m ∧ i = .int .i64 (k : Int) ∧ v = .string ⟨f.toArray⟩ ∧ f.length ≤ 2 * k ∧ Hid (f = says (l.take k)) ∧ Hid (Only (fun _ => False) w W)) (fun _ i _ => m - (intOf i).toNat)
  case atStart => exact ⟨0, [], Nat.zero_le _, rfl, rfl, by simp, rfl, Only.refl _ _⟩
  case round =>
    obtain ⟨k, f, hk, rfl, rfl, hfl, HF, HO⟩ := hrel
    by_cases hlt : k < m
    · obtain ⟨x, hx⟩ : ∃ x, l[k]? = some x := ⟨_, List.getElem?_eq_getElem (by rw [← HM.out]; exact hlt)⟩
      obtain ⟨g, rfl, hra⟩ := ri_at (own_same HR.out HO.out) HM.out hx
      have hcd := HCd.out x (List.mem_of_getElem? hx)
      have hst : says (l.take (k + 1)) = f ++ itSays x.it := by
        rw [take_snoc hx, says_append, ← HF.out]
        simp [says]
      have HSt := Lib.hid hst
      obtain ⟨⟨fk, fc, fo, fb⟩, F, T⟩ := x
      obtain ⟨cs, hcs⟩ : ∃ cs, cs = plRi ⟨⟨fk, fc, fo, fb⟩, F, T⟩ := ⟨_, rfl⟩
      have HRA : Hid (wr.rangeAt g (k * 6) cs) := by rw [hcs]; exact hra
      have HCL : Hid (cs.length = 6) := by rw [hcs]; rfl
      have HCO := Lib.hid (show ∀ v ∈ cs, v.oneCell' = true by rw [hcs]; exact ri_one _ _ _)
      have HC0 : Hid (cs[0]? = some (.int .i64 fk) ∧ cs[3]? = some (.int .i64 fc)) := by rw [hcs]; exact ⟨rfl, rfl⟩
      have hkm : (k : Int) < (m : Int) := by omega
      simp only at hcd
      clear hra hcs hx hst
      by_cases h1 : fk = 1
      · obtain ⟨hc0, hc1⟩ := hcd h1
        have c1 : (fk == 1) = true := beq_iff_eq.2 h1
        have c2 : (fk == 2) = false := beq_eq_false_iff_ne.2 (by omega)
        have hw : IntKind.u8.wrap fc = fc := by rw [IntKind.wrap_u8]; omega
        have HZ := Lib.hid (show #[Value.int .u8 fc] = ([b8 fc].map B8).toArray by
          have := b8_int hc0 hc1
          simp only [List.map_cons, List.map_nil, B8, this])
        have hit : itSays ⟨fk, fc, fo, fb⟩ = [b8 fc] := by unfold itSays b8; rw [if_pos h1]
        have HIt := Lib.hid hit
        clear h1 hit hcd
        go_wp2_with (first
          | ((with_reducible show wpList _ _ _ (⟨some 11, _, _, _, _, _⟩ :: _) _ _); refine wpList_load_mid rfl 44 (.tmp 10) rfl g (k * 6) rfl cs _ HRA.out Tryd.underlying44 rfl (by rw [HCL.out]; exact size_ritem) ?_)
          | ((with_reducible show wpList _ _ _ (⟨none, .store 44 _ _, _, _, _, _⟩ :: _) _ _); refine step_store rfl 44 _ _ rfl wr.heap.size rfl cs rfl _ (riCells .none 0 0) (Blk.new _ _ _) (by rw [HCL.out]; exact size_ritem) HCL.out.symm HCO.out ?_; intro w5 hB5 hz5 ho5; have HO5 : Hid (Only (fun _ => False) wr w5) := (((Only.refl (fun _ => False) wr).alloc _).trans ho5 (fun i hi => .inr (by omega))); have q0 : w5.cell? ⟨wr.heap.size, 0, none⟩ = some (.int .i64 fk) := (by rw [hB5.out.cell]; exact HC0.out.1); have hlt5 := lt_at q0; have q3 : w5.cell? ⟨wr.heap.size, 3, none⟩ = some (.int .i64 fc) := (by rw [hB5.out.cell]; exact HC0.out.2); have hcv : (convert 22 9 (.slice (some ⟨w5.heap.size, 0, none⟩) 1 1)).run Tryd.prog (w5.alloc (.cells #[.int .u8 fc] 5)) = .ok (.string ⟨[b8 fc].toArray⟩) (w5.alloc (.cells #[.int .u8 fc] 5)) := text_of (src_new w5 [b8 fc] _ _ (0, 0) 1 HZ.out rfl) 1 22 9 5 Tryd.underlying22 Tryd.underlying5 Tryd.underlying9))
        go_roundw
        case rel => exact ⟨k + 1, f ++ [b8 fc], by omega, by go_num, by rw [← str_two], by rw [List.length_append, List.length_singleton]; omega, Lib.hid (by rw [HSt.out, HIt.out]), (HO.out.trans HO5.out (fun _ h => h.elim)).alloc _⟩
        case measure => simp [intOf]; omega
      · have c1 : (fk == 1) = false := beq_eq_false_iff_ne.2 h1
        by_cases h2 : fk = 2
        · have c2 : (fk == 2) = true := beq_iff_eq.2 h2
          by_cases h10 : fc = 10
          · have c3 : (fc == 10) = true := beq_iff_eq.2 h10
            have hit : itSays ⟨fk, fc, fo, fb⟩ = [13, 10] := by unfold itSays; simp [h1, h2, h10]
            have HIt := Lib.hid hit
            clear h1 h2 h10 hit hcd
            go_wp2_with (first
              | ((with_reducible show wpList _ _ _ (⟨some 11, _, _, _, _, _⟩ :: _) _ _); refine wpList_load_mid rfl 44 (.tmp 10) rfl g (k * 6) rfl cs _ HRA.out Tryd.underlying44 rfl (by rw [HCL.out]; exact size_ritem) ?_)
              | ((with_reducible show wpList _ _ _ (⟨none, .store 44 _ _, _, _, _, _⟩ :: _) _ _); refine step_store rfl 44 _ _ rfl wr.heap.size rfl cs rfl _ (riCells .none 0 0) (Blk.new _ _ _) (by rw [HCL.out]; exact size_ritem) HCL.out.symm HCO.out ?_; intro w5 hB5 hz5 ho5; have HO5 : Hid (Only (fun _ => False) wr w5) := (((Only.refl (fun _ => False) wr).alloc _).trans ho5 (fun i hi => .inr (by omega))); have q0 : w5.cell? ⟨wr.heap.size, 0, none⟩ = some (.int .i64 fk) := (by rw [hB5.out.cell]; exact HC0.out.1); have hlt5 := lt_at q0; have q3 : w5.cell? ⟨wr.heap.size, 3, none⟩ = some (.int .i64 fc) := (by rw [hB5.out.cell]; exact HC0.out.2)))
            go_roundw
            case rel => exact ⟨k + 1, f ++ [13] ++ [10], by omega, by go_num, by rw [← str_two, ← str_two], by simp only [List.length_append, List.length_singleton]; omega, Lib.hid (by rw [HSt.out, HIt.out]; simp), HO.out.trans HO5.out (fun _ h => h.elim)⟩
            case measure => simp [intOf]; omega
          · have c3 : (fc == 10) = false := beq_eq_false_iff_ne.2 h10
            have hit : itSays ⟨fk, fc, fo, fb⟩ = [13] := by unfold itSays; simp [h1, h2, h10]
            have HIt := Lib.hid hit
            clear h1 h2 h10 hit hcd
            go_wp2_with (first
              | ((with_reducible show wpList _ _ _ (⟨some 11, _, _, _, _, _⟩ :: _) _ _); refine wpList_load_mid rfl 44 (.tmp 10) rfl g (k * 6) rfl cs _ HRA.out Tryd.underlying44 rfl (by rw [HCL.out]; exact size_ritem) ?_)
              | ((with_reducible show wpList _ _ _ (⟨none, .store 44 _ _, _, _, _, _⟩ :: _) _ _); refine step_store rfl 44 _ _ rfl wr.heap.size rfl cs rfl _ (riCells .none 0 0) (Blk.new _ _ _) (by rw [HCL.out]; exact size_ritem) HCL.out.symm HCO.out ?_; intro w5 hB5 hz5 ho5; have HO5 : Hid (Only (fun _ => False) wr w5) := (((Only.refl (fun _ => False) wr).alloc _).trans ho5 (fun i hi => .inr (by omega))); have q0 : w5.cell? ⟨wr.heap.size, 0, none⟩ = some (.int .i64 fk) := (by rw [hB5.out.cell]; exact HC0.out.1); have hlt5 := lt_at q0; have q3 : w5.cell? ⟨wr.heap.size, 3, none⟩ = some (.int .i64 fc) := (by rw [hB5.out.cell]; exact HC0.out.2)))
            go_roundw
            case rel => exact ⟨k + 1, f ++ [13], by omega, by go_num, by rw [← str_two], by rw [List.length_append, List.length_singleton]; omega, Lib.hid (by rw [HSt.out, HIt.out]), HO.out.trans HO5.out (fun _ h => h.elim)⟩
            case measure => simp [intOf]; omega
        · have c2 : (fk == 2) = false := beq_eq_false_iff_ne.2 h2
          have hit : itSays ⟨fk, fc, fo, fb⟩ = [] := by unfold itSays; simp [h1, h2]
          have HIt := Lib.hid hit
          clear h1 h2 hit hcd
          go_wp2_with (first
            | ((with_reducible show wpList _ _ _ (⟨some 11, _, _, _, _, _⟩ :: _) _ _); refine wpList_load_mid rfl 44 (.tmp 10) rfl g (k * 6) rfl cs _ HRA.out Tryd.underlying44 rfl (by rw [HCL.out]; exact size_ritem) ?_)
            | ((with_reducible show wpList _ _ _ (⟨none, .store 44 _ _, _, _, _, _⟩ :: _) _ _); refine step_store rfl 44 _ _ rfl wr.heap.size rfl cs rfl _ (riCells .none 0 0) (Blk.new _ _ _) (by rw [HCL.out]; exact size_ritem) HCL.out.symm HCO.out ?_; intro w5 hB5 hz5 ho5; have HO5 : Hid (Only (fun _ => False) wr w5) := (((Only.refl (fun _ => False) wr).alloc _).trans ho5 (fun i hi => .inr (by omega))); have q0 : w5.cell? ⟨wr.heap.size, 0, none⟩ = some (.int .i64 fk) := (by rw [hB5.out.cell]; exact HC0.out.1); have hlt5 := lt_at q0; have q3 : w5.cell? ⟨wr.heap.size, 3, none⟩ = some (.int .i64 fc) := (by rw [hB5.out.cell]; exact HC0.out.2)))
          go_roundw
          case rel => exact ⟨k + 1, f, by omega, by go_num, rfl, by omega, Lib.hid (by rw [HSt.out, HIt.out, List.append_nil]), HO.out.trans HO5.out (fun _ h => h.elim)⟩
          case measure => simp [intOf]; omega
    · go_wp2
      go_ret
      have e : l.take k = l := List.take_of_length_le (by rw [← HM.out]; omega)
      have := HF.out
      rw [e] at this
      rw [← this]
      exact ⟨rfl, HO.out⟩

/-- Is a place a beginning or an end? -/
def edge (l : List Pl) (at_ : Int) : Bool := l.any fun x => decide ((x.from_ : Int) = at_) || decide ((x.to_ : Int) = at_)
theorem gborder_ref {w : World} {B : Nat} {A : Option Addr} {m c : Nat} {l : List Pl} (h : RiRow w B (.slice A m c) l) (hm : m = l.length) (hml : m ≤ 1000) (many at_ : Int) :
    Calls Tryd.prog 12 #[.slice A m c, .int .i64 many, .int .i64 at_] w fun e w' => e = .returned (.bool (decide (at_ = 0) || decide (at_ = many) || edge l at_)) ∧ Only (fun _ => False) w w' := by
  have HR := Lib.hid h
  have HM := Lib.hid hm
  clear h hm
  by_cases h0 : at_ = 0
  · have b0 : (at_ == 0) = true := beq_iff_eq.2 h0
    rw [decide_eq_true h0]
    clear h0
    go_enter Tryd.func12, Tryd.ntmps12
    go_wp2
    go_ret
    exact ⟨congrArg (fun b => Ending.returned (Value.bool b)) (by simp), Only.refl _ _⟩
  · have b0 : (at_ == 0) = false := beq_eq_false_iff_ne.2 h0
    rw [decide_eq_false h0]
    by_cases h1 : at_ = many
    · have b1 : (at_ == many) = true := beq_iff_eq.2 h1
      rw [decide_eq_true h1]
      clear h0 h1
      go_enter Tryd.func12, Tryd.ntmps12
      go_wp2
      go_ret
      exact ⟨congrArg (fun b => Ending.returned (Value.bool b)) (by simp), Only.refl _ _⟩
    · have b1 : (at_ == many) = false := beq_eq_false_iff_ne.2 h1
      rw [decide_eq_false h1, Bool.false_or, Bool.false_or]
      clear h0 h1
      go_enter Tryd.func12, Tryd.ntmps12
      go_wp2
      go_loopw [18] (fun i W => ∃ k : Nat, k ≤ m ∧ i = .int .i64 (k : Int) ∧ Hid (edge (l.take k) at_ = false) ∧ Hid (Only (fun _ => False) w W)) (fun i _ => m - (intOf i).toNat)
      case atStart => exact ⟨0, Nat.zero_le _, rfl, rfl, Only.refl _ _⟩
      case round =>
        obtain ⟨k, hk, rfl, HF, HO⟩ := hrel
        by_cases hlt : k < m
        · obtain ⟨x, hx⟩ : ∃ x, l[k]? = some x := ⟨_, List.getElem?_eq_getElem (by rw [← HM.out]; exact hlt)⟩
          obtain ⟨g, rfl, hra⟩ := ri_at (own_same HR.out HO.out) HM.out hx
          have hst : edge (l.take (k + 1)) at_ = (decide ((x.from_ : Int) = at_) || decide ((x.to_ : Int) = at_)) := by
            have := HF.out
            unfold edge at this ⊢
            rw [take_snoc hx, List.any_append, this]
            simp
          have hin : (decide ((x.from_ : Int) = at_) || decide ((x.to_ : Int) = at_)) = true → edge l at_ = true := fun h => by
            unfold edge
            exact List.any_eq_true.2 ⟨x, List.mem_of_getElem? hx, h⟩
          have HSt := Lib.hid hst
          have HIn := Lib.hid hin
          obtain ⟨cs, hcs⟩ : ∃ cs, cs = plRi x := ⟨_, rfl⟩
          obtain ⟨ff, hff⟩ : ∃ ff : Int, ff = (x.from_ : Int) := ⟨_, rfl⟩
          obtain ⟨ft, hft⟩ : ∃ ft : Int, ft = (x.to_ : Int) := ⟨_, rfl⟩
          rw [← hff, ← hft] at HSt HIn
          have HRA : Hid (wr.rangeAt g (k * 6) cs) := by rw [hcs]; exact hra
          have HCL : Hid (cs.length = 6) := by rw [hcs]; rfl
          have HCO := Lib.hid (show ∀ v ∈ cs, v.oneCell' = true by rw [hcs]; exact ri_one _ _ _)
          have HC0 : Hid (cs[1]? = some (.int .i64 ff) ∧ cs[2]? = some (.int .i64 ft)) := by rw [hcs, hff, hft]; exact ⟨rfl, rfl⟩
          clear hra hcs hx hst hin hff hft
          by_cases e1 : ff = at_
          · have c1 : (ff == at_) = true := beq_iff_eq.2 e1
            have hres : edge l at_ = true := HIn.out (by rw [decide_eq_true e1]; rfl)
            have HRes := Lib.hid hres
            clear e1 hres
            go_wp2_with (first
              | ((with_reducible show wpList _ _ _ (⟨some 21, _, _, _, _, _⟩ :: _) _ _); refine wpList_load_mid rfl 44 (.tmp 20) rfl g (k * 6) rfl cs _ HRA.out Tryd.underlying44 rfl (by rw [HCL.out]; exact size_ritem) ?_)
              | ((with_reducible show wpList _ _ _ (⟨none, .store 44 _ _, _, _, _, _⟩ :: _) _ _); refine step_store rfl 44 _ _ rfl wr.heap.size rfl cs rfl _ (riCells .none 0 0) (Blk.new _ _ _) (by rw [HCL.out]; exact size_ritem) HCL.out.symm HCO.out ?_; intro w5 hB5 hz5 ho5; have HO5 : Hid (Only (fun _ => False) wr w5) := (((Only.refl (fun _ => False) wr).alloc _).trans ho5 (fun i hi => .inr (by omega))); have q1 : w5.cell? ⟨wr.heap.size, 1, none⟩ = some (.int .i64 ff) := (by rw [hB5.out.cell]; exact HC0.out.1); have q2 : w5.cell? ⟨wr.heap.size, 2, none⟩ = some (.int .i64 ft) := (by rw [hB5.out.cell]; exact HC0.out.2)))
            go_ret
            exact ⟨congrArg (fun b => Ending.returned (Value.bool b)) HRes.out.symm, HO.out.trans HO5.out (fun _ h => h.elim)⟩
          · have c1 : (ff == at_) = false := beq_eq_false_iff_ne.2 e1
            by_cases e2 : ft = at_
            · have c2 : (ft == at_) = true := beq_iff_eq.2 e2
              have hres : edge l at_ = true := HIn.out (by rw [decide_eq_true e2, Bool.or_true])
              have HRes := Lib.hid hres
              clear e1 e2 hres
              go_wp2_with (first
                | ((with_reducible show wpList _ _ _ (⟨some 21, _, _, _, _, _⟩ :: _) _ _); refine wpList_load_mid rfl 44 (.tmp 20) rfl g (k * 6) rfl cs _ HRA.out Tryd.underlying44 rfl (by rw [HCL.out]; exact size_ritem) ?_)
                | ((with_reducible show wpList _ _ _ (⟨none, .store 44 _ _, _, _, _, _⟩ :: _) _ _); refine step_store rfl 44 _ _ rfl wr.heap.size rfl cs rfl _ (riCells .none 0 0) (Blk.new _ _ _) (by rw [HCL.out]; exact size_ritem) HCL.out.symm HCO.out ?_; intro w5 hB5 hz5 ho5; have HO5 : Hid (Only (fun _ => False) wr w5) := (((Only.refl (fun _ => False) wr).alloc _).trans ho5 (fun i hi => .inr (by omega))); have q1 : w5.cell? ⟨wr.heap.size, 1, none⟩ = some (.int .i64 ff) := (by rw [hB5.out.cell]; exact HC0.out.1); have q2 : w5.cell? ⟨wr.heap.size, 2, none⟩ = some (.int .i64 ft) := (by rw [hB5.out.cell]; exact HC0.out.2)))
              go_ret
              exact ⟨congrArg (fun b => Ending.returned (Value.bool b)) HRes.out.symm, HO.out.trans HO5.out (fun _ h => h.elim)⟩
            · have c2 : (ft == at_) = false := beq_eq_false_iff_ne.2 e2
              have hno : edge (l.take (k + 1)) at_ = false := by rw [HSt.out, decide_eq_false e1, decide_eq_false e2]; rfl
              have HNo := Lib.hid hno
              clear e1 e2 hno
              go_wp2_with (first
                | ((with_reducible show wpList _ _ _ (⟨some 21, _, _, _, _, _⟩ :: _) _ _); refine wpList_load_mid rfl 44 (.tmp 20) rfl g (k * 6) rfl cs _ HRA.out Tryd.underlying44 rfl (by rw [HCL.out]; exact size_ritem) ?_)
                | ((with_reducible show wpList _ _ _ (⟨none, .store 44 _ _, _, _, _, _⟩ :: _) _ _); refine step_store rfl 44 _ _ rfl wr.heap.size rfl cs rfl _ (riCells .none 0 0) (Blk.new _ _ _) (by rw [HCL.out]; exact size_ritem) HCL.out.symm HCO.out ?_; intro w5 hB5 hz5 ho5; have HO5 : Hid (Only (fun _ => False) wr w5) := (((Only.refl (fun _ => False) wr).alloc _).trans ho5 (fun i hi => .inr (by omega))); have q1 : w5.cell? ⟨wr.heap.size, 1, none⟩ = some (.int .i64 ff) := (by rw [hB5.out.cell]; exact HC0.out.1); have q2 : w5.cell? ⟨wr.heap.size, 2, none⟩ = some (.int .i64 ft) := (by rw [hB5.out.cell]; exact HC0.out.2)))
              go_roundw
              case rel => exact ⟨k + 1, by omega, by go_num, HNo.out, HO.out.trans HO5.out (fun _ h => h.elim)⟩
              case measure => simp [intOf]; omega
        · go_wp2
          go_ret
          have e : l.take k = l := List.take_of_length_le (by rw [← HM.out]; omega)
          have := HF.out
          rw [e] at this
          rw [this]
          exact ⟨rfl, HO.out⟩
end Go.Proofs.YtbjabjkmagekfaaDoor
