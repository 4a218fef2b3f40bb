/- bytes.Repeat of one blank: a new row of blanks, whatever lies behind it in its block. -/
import Derived.Test.YtgknhojjnnljkaaDoorCeMul
import Derived.Test.YtgknhojjnnljkaaDoorCopyR
import Derived.Deep.RegionHeld3
import Derived.Lib.MakeNoZero
namespace Go.Proofs.YtgknhojjnnljkaaDoor
open Go Go.RowKit
set_option maxRecDepth 100000
set_option maxHeartbeats 4000000

/-- So many blanks. -/
def blank (c : Nat) : List UInt8 := List.replicate c 32
theorem blank_len (c : Nat) : (blank c).length = c := List.length_replicate
theorem blank_map (c : Nat) : (blank c).map B8 = List.replicate c (.int .u8 32) := by unfold blank; rw [List.map_replicate]; rfl
theorem blank_splice (cur : List Value) (k m : Nat) : splice (List.replicate k (.int .u8 32) ++ cur.drop k) k ((blank m).map B8) = List.replicate (k + m) (.int .u8 32) ++ cur.drop (k + m) := by
  unfold splice
  rw [blank_map, List.length_replicate, List.take_left' (by simp), List.drop_append, List.drop_eq_nil_of_le (by simp), List.nil_append, List.length_replicate, List.drop_drop, ← List.append_assoc, List.replicate_append_replicate]
  congr 2
  omega

theorem repeat_any {n G : Nat} (h1 : 1 ≤ n) (h2 : n ≤ 200) {w : World} (h0 : w.cell? ⟨G, 0, none⟩ = some (.int .u8 32)) :
    Calls Tryd.prog 50 #[.slice (some ⟨G, 0, none⟩) 1 1, .int .i64 (n : Int)] w fun e w' => ∃ g, e = .returned (.slice (some ⟨g, 0, none⟩) n n) ∧ w.heap.size ≤ g ∧ Hid (∃ tl, Blk w' g 5 ((blank n).map B8 ++ tl)) ∧ Hid (Only (fun _ => False) w w') := by
  have HM := Lib.hid (fun W => mul_any h2 W)
  have hn0 : (n : Int) ≠ 0 := by omega
  have hGl := World.block_lt_of_cell? _ _ h0
  obtain ⟨cs, hrunM, hle, hmx⟩ := Lib.run_makeNoZero (P := Tryd.prog) w #[3] 34 5 Tryd.underlying34 n (by omega)
  have hcall : (callFunc 57 #[.int .i64 (n : Int)]).run Tryd.prog w = .ok (.value (.slice (some ⟨w.heap.size, 0, none⟩) n cs.size)) ((w.alloc (.cells cs 5)).drewN 2) := by
    rw [run_callFunc_extern Tryd.func57 (by kernel_rfl) (by kernel_rfl) (by kernel_rfl) (e := Extern.BytealgMakeNoZero.makeNoZero #[3] #[34]) (by kernel_rfl), hrunM]
    rfl
  obtain ⟨cur, hcur⟩ : ∃ cur, cur = cs.toList := ⟨_, rfl⟩
  have hcl : cs.size = cur.length := by rw [hcur]; simp
  have hB0 : Blk ((w.alloc (.cells cs 5)).drewN 2) w.heap.size 5 cur := by
    have := (Blk.new w 5 cur).drewN 2
    rw [hcur] at this ⊢
    simpa using this
  have hO0 : Hid (Only (fun _ => False) w ((w.alloc (.cells cs 5)).drewN 2)) := ((Only.refl (fun _ => False) w).alloc _).drewN 2
  have hmax := hmx (by unfold maxLen; omega)
  have hS1 : Src ((w.alloc (.cells cs 5)).drewN 2) (some ⟨G, 0, none⟩) (blank 1).length (blank 1) := ⟨rfl, fun _ => ⟨_, rfl, fun j x hx => by
    have hj : j = 0 := by have := (List.getElem?_eq_some_iff.1 hx).1; rw [blank_len] at this; omega
    subst hj
    rw [at_add]
    obtain rfl : x = 32 := by unfold blank at hx; simp at hx; exact hx.symm
    exact hO0.out.cellv h0 (fun h => h)⟩⟩
  have HB0 := Lib.hid hB0
  have HS1 := Lib.hid hS1
  rw [hcl] at hcall hle hmax
  unfold maxLen at hmax
  clear hrunM hcl hB0 hS1 hcur
  generalize (w.alloc (.cells cs 5)).drewN 2 = wm at *
  clear hmx
  go_enter Tryd.func50, Tryd.ntmps50
  go_wp2_with (first
    | (go_at_call 56; (with_reducible refine (HM.out _).mono ?_); rintro e w' ⟨rfl, e2⟩; subst w')
    | ((with_reducible show wpList _ _ _ (⟨some 60, _, _, _, _, _⟩ :: _) _ _); refine step_copy rfl (.tmp 58) (.tmp 59) 34 34 rfl 5 Tryd.underlying34 size_byte _ _ _ _ _ _ rfl rfl w.heap.size 0 cur 5 HB0.out (blank 1) (by rw [blank_len]; show _ = min _ _; omega) (fun _ => ⟨rfl, HS1.out⟩) (by rw [blank_len]; omega) ?_; intro w1 hB1 hz1 ho1)
    | fail)
  have hb1 : Blk w1 w.heap.size 5 (List.replicate 1 (.int .u8 32) ++ cur.drop 1) := by
    have := hB1.out
    have e := blank_splice cur 0 1
    rw [List.replicate_zero, List.drop_zero, List.nil_append, Nat.zero_add] at e
    rw [e] at this
    exact this
  have HB1 := Lib.hid hb1
  have HO1 : Hid (Only (fun k => k = w.heap.size) w w1) := (hO0.out.mono (fun _ h => h.elim)).trans ho1 (fun i hi => .inl hi)
  obtain ⟨g, hg⟩ : ∃ g, g = w.heap.size := ⟨_, rfl⟩
  rw [← hg] at HB1 HO1 ⊢
  have HG := Lib.hid hg
  clear hB1 hz1 ho1 hb1 HB0 HS1 hO0 hcall hg hGl h0 HM
  go_loopw [10, 11] (fun i c W => ∃ k : Nat, 1 ≤ k ∧ k ≤ n ∧ i = .int .i64 (k : Int) ∧ Hid (Blk W g 5 (List.replicate k (.int .u8 32) ++ cur.drop k)) ∧ Hid (Only (fun x => x = g) w W)) (fun i _ _ => n - (intOf i).toNat)
  case atStart => exact ⟨1, Nat.le_refl _, h1, rfl, HB1, HO1⟩
  case round =>
    clear HB1 HO1
    obtain ⟨k, hk1, hk, rfl, HB, HO⟩ := hrel
    by_cases hlt : k < n
    · have hmn : ¬ (n : Int) < (k : Int) := by omega
      have hne : ¬ n = k := by omega
      obtain ⟨m, hm⟩ : ∃ m, m = min k (n - k) := ⟨_, rfl⟩
      have hm1 : m ≤ k := by omega
      have hm2 : k + m ≤ n := by omega
      have hm3 : 0 < m := by omega
      have HM := Lib.hid (show m = Nat.min k (n - k) from hm)
      have hsrc : ∀ (j : Nat) (v : Value), ((blank m).map B8)[j]? = some v → wr.drew.cell? ((⟨g, 0, none⟩ : Addr).add j) = some v := fun j v hj => by
        have hjm : j < m := by have := (List.getElem?_eq_some_iff.1 hj).1; simpa [blank_len] using this
        rw [at_add, HB.out.drew.cell, List.getElem?_append_left (by simp; omega)]
        rw [blank_map] at hj
        simp only [List.getElem?_replicate] at hj ⊢
        rw [if_pos hjm] at hj
        rw [if_pos (by omega)]
        exact hj
      have hl : ((blank m).map B8).length = m * 1 := by rw [List.length_map, blank_len, Nat.mul_one]
      have hfit : k + ((blank m).map B8).length ≤ (List.replicate k (.int .u8 32) ++ cur.drop k : List Value).length := by
        rw [hl, List.length_append, List.length_replicate, List.length_drop]; omega
      have hone : ∀ v ∈ (blank m).map B8, v.oneCell' = true := fun v hv => by obtain ⟨x, _, rfl⟩ := List.mem_map.1 hv; exact B8_one x
      have hw : IntKind.i64.wrap ((k : Int) + (m : Int)) = ((k + m : Nat) : Int) := by
        rw [IntWalk.i64_in _ (by omega)]
        omega
      have HX := Lib.hid (And.intro hsrc (And.intro hl (And.intro hfit hone)))
      clear hsrc hl hfit hone hm
      go_wp2
      go_region_held3 (fun _ => True) (trivial)
        (first
          | ((with_reducible show (if Region.wanted ⟨some 74, _, _, _, _, _⟩ _ = true then _ else _)); refine step_copyR rfl (.tmp 70) (.tmp 73) 34 34 rfl 5 1 Tryd.underlying34 size_byte g k (n - k) (n - k) ⟨g, 0, none⟩ k n rfl rfl _ 5 HB.out.drew _ m HM.out HX.out.2.1 HX.out.1 HX.out.2.2.1 HX.out.2.2.2 ?_; intro w5 hB5 hz5 ho5))
      go_wp2
      go_roundw
      case rel =>
        refine ⟨k + m, by omega, by omega, rfl, ?_, (HO.out.drew).trans ho5.out (fun i hi => .inl hi)⟩
        have := hB5.out
        rw [blank_splice cur k m] at this
        exact this
      case measure => simp [intOf]; omega
    · obtain rfl : k = n := by omega
      go_wp2
      go_ret
      exact ⟨g, rfl, Nat.le_of_eq HG.out.symm, ⟨cur.drop k, by rw [blank_map]; exact HB.out⟩, HO.out.mono (fun i hi => .inr (by have := HG.out; omega))⟩
end Go.Proofs.YtgknhojjnnljkaaDoor
