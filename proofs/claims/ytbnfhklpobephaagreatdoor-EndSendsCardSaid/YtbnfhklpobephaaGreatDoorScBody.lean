
/- Package slc: Body. -/
import Derived.Test.YtbnfhklpobephaaGreatDoorJSc
import Derived.Test.YtbnfhklpobephaaGreatDoorScOpen
import Derived.Test.YtbnfhklpobephaaGreatDoorJSnList
import Derived.Test.YtbnfhklpobephaaGreatDoorJSnIn
import Derived.BigQuiet
namespace Go.Proofs.YtbnfhklpobephaaGreatDoor
open Go Go.RowKit
set_option maxRecDepth 100000
set_option maxHeartbeats 4000000

/-- A triple's second byte. -/
def secondOf (t : Tr) : Int := t.x.l + if t.ack then 128 else 0
def bytesOf (t : Tr) : List UInt8 := [b8 t.f, b8 (secondOf t), b8 t.x.v]
def bodyB (L : List Tr) : List UInt8 := L.flatMap bytesOf
theorem bodyB_append (L M : List Tr) : bodyB (L ++ M) = bodyB L ++ bodyB M := by simp [bodyB]
theorem bodyB_one (t : Tr) : bodyB [t] = bytesOf t := by simp [bodyB]
theorem bodyB_len (L : List Tr) : (bodyB L).length = L.length * 3 := by
  induction L with
  | nil => rfl
  | cons t L ih =>
    show (bytesOf t ++ bodyB L).length = _
    rw [List.length_append, ih]
    simp [bytesOf]
    omega
def bodyN (L : List Tr) : Nat := if L.all Tr.right = true then (if 85 < L.length then 4 else 0) else 5
abbrev TrAt := LsOf Tr.cs 4
theorem right_parts {t : Tr} (h : t.right = true) : 1 ≤ t.f ∧ t.f ≤ 18 ∧ t.x.fine = true := by
  unfold Tr.right at h
  rw [Bool.and_eq_true, isF_iff] at h
  exact ⟨h.1.1, h.1.2, h.2⟩
theorem bytes_cells {t : Tr} (h : t.right = true) : (bytesOf t).map B8 = [.int .u8 t.f, .int .u8 (secondOf t), .int .u8 t.x.v] := by
  obtain ⟨h1, h2, h3⟩ := right_parts h
  have hv := Se.v_of h3
  have hl := Se.l_of h3
  simp only [bytesOf, List.map_cons, List.map_nil, B8]
  rw [b8_int (by omega) (by omega), b8_int (by unfold secondOf; split <;> omega) (by unfold secondOf; split <;> omega), b8_int (by omega) (by omega)]

theorem body_form {w : World} {es : List Addr} (hes : ErrsOf w [2, 3, 4] es) {A : Option Addr} {n c : Nat} {L : List Tr} (h : TrAt w A n L) (hn : n ≤ 100) (hb : L.all Tr.right = false) :
    Calls Tryz.prog 228 #[.slice A n c] w fun e w' => ∃ a, es[4]? = some a ∧ e = .returned (.tuple #[.slice none 0 0, errV a]) ∧ Only (fun _ => False) w w' := by
  obtain ⟨a, ha, hc⟩ := hes.get 4 4 (by decide) rfl
  unfold errV at hc
  have HA := Lib.hid ha
  have HC := Lib.hid hc
  have HS := Lib.hid h
  have HR := Lib.hid (fun W t => sright_any W t)
  have HB := Lib.hid hb
  clear ha hc hes h hb
  go_enter Tryz.func228, Tryz.ntmps228
  go_wp2
  go_loopw [12] (fun i W => ∃ k : Nat, k ≤ n ∧ i = .int .i64 (k : Int) ∧ Hid ((∀ t ∈ L.take k, t.right = true) ∧ Only (fun _ => False) w W)) (fun i _ => n - (intOf i).toNat)
  case atStart => exact ⟨0, Nat.zero_le _, rfl, fun t ht => by simp at ht, Only.refl _ _⟩
  case round =>
    obtain ⟨k, hk, rfl, hrel⟩ := hrel
    by_cases hlt : k < n
    · have hlt2 : (k : Int) < (n : Int) := by omega
      obtain ⟨x, hx⟩ : ∃ x, L[k]? = some x := ⟨_, List.getElem?_eq_getElem (by rw [HS.out.1]; exact hlt)⟩
      obtain ⟨b, off, rfl, hbl, hrg⟩ := (HS.out.same hrel.out.2).2 k x hx
      have HRg := Lib.hid hrg
      have HX := Lib.hid hx
      have HRx := Lib.hid (fun W => HR.out W x)
      obtain ⟨g, hg⟩ : ∃ g, g = x.right := ⟨_, rfl⟩
      rw [← hg] at HRx
      have HG := Lib.hid hg
      obtain ⟨xf, ⟨xl, xv⟩, xa⟩ := x
      clear hrg hx hg
      cases g
      · go_wp2_with (first
          | ((with_reducible show wpList _ _ _ (⟨some 15, _, _, _, _, _⟩ :: _) _ _); refine wpList_load_mid rfl 262 _ rfl b (off + k * 4) rfl [.int .i64 xf, .int .i64 xl, .int .i64 xv, .bool xa] _ HRg.out Tryz.underlying262 rfl size_tri ?_)
          | (go_at_call 174; refine (HRx.out _).mono ?_; rintro e w2 ⟨rfl, ho2⟩; have HO2 : Hid (Only (fun _ => False) w w2) := (hrel.out.2.alloc _).trans ho2 (fun _ h => h.elim); have hc2 : w2.cell? ⟨4, 0, none⟩ = some (.iface 409 (.pointer (some a))) := HO2.out.cellv HC.out (fun h => h); clear ho2)
          | fail)
        go_quiet (fail)
        go_wp2
        go_ret2
        exact ⟨a, HA.out, rfl, HO2.out.drewN _⟩
      · go_wp2_with (first
          | ((with_reducible show wpList _ _ _ (⟨some 15, _, _, _, _, _⟩ :: _) _ _); refine wpList_load_mid rfl 262 _ rfl b (off + k * 4) rfl [.int .i64 xf, .int .i64 xl, .int .i64 xv, .bool xa] _ HRg.out Tryz.underlying262 rfl size_tri ?_)
          | (go_at_call 174; refine (HRx.out _).mono ?_; rintro e w2 ⟨rfl, ho2⟩; have HO2 : Hid (Only (fun _ => False) w w2) := (hrel.out.2.alloc _).trans ho2 (fun _ h => h.elim); clear ho2)
          | fail)
        go_roundw
        case rel =>
          refine ⟨k + 1, by omega, by go_num, fun t ht => ?_, HO2.out⟩
          rw [take_snoc HX.out] at ht
          rcases List.mem_append.1 ht with h | h
          · exact hrel.out.1 t h
          · simp only [List.mem_singleton] at h
            subst h
            exact HG.out.symm
        case measure => simp [intOf]; omega
    · exfalso
      obtain rfl : k = n := by omega
      have hd := hrel.out.1
      rw [← HS.out.1, List.take_length] at hd
      have : L.all Tr.right = true := by simpa using hd
      rw [HB.out] at this
      cases this

theorem body_long {w : World} {es : List Addr} (hes : ErrsOf w [2, 3, 4] es) {A : Option Addr} {n c : Nat} {L : List Tr} (h : TrAt w A n L) (hn : n ≤ 100) (hb : L.all Tr.right = true) (hl : 85 < n) :
    Calls Tryz.prog 228 #[.slice A n c] w fun e w' => ∃ a, es[3]? = some a ∧ e = .returned (.tuple #[.slice none 0 0, errV a]) ∧ Only (fun _ => False) w w' := by
  obtain ⟨a, ha, hc⟩ := hes.get 3 3 (by decide) rfl
  unfold errV at hc
  have HA := Lib.hid ha
  have HC := Lib.hid hc
  have HS := Lib.hid h
  have HR := Lib.hid (fun W t => sright_any W t)
  have HB := Lib.hid hb
  have hl2 : (85 : Int) < (n : Int) := by omega
  clear ha hc hes h hb hl
  go_enter Tryz.func228, Tryz.ntmps228
  go_wp2
  go_loopw [12] (fun i W => ∃ k : Nat, k ≤ n ∧ i = .int .i64 (k : Int) ∧ Hid (Only (fun _ => False) w W)) (fun i _ => n - (intOf i).toNat)
  case atStart => exact ⟨0, Nat.zero_le _, rfl, Only.refl _ _⟩
  case round =>
    obtain ⟨k, hk, rfl, hrel⟩ := hrel
    by_cases hlt : k < n
    · have hlt2 : (k : Int) < (n : Int) := by omega
      obtain ⟨x, hx⟩ : ∃ x, L[k]? = some x := ⟨_, List.getElem?_eq_getElem (by rw [HS.out.1]; exact hlt)⟩
      obtain ⟨b, off, rfl, hbl, hrg⟩ := (HS.out.same hrel.out).2 k x hx
      have HRg := Lib.hid hrg
      have HRx := Lib.hid (fun W => HR.out W x)
      have hg : x.right = true := List.all_eq_true.1 HB.out x (List.mem_of_getElem? hx)
      rw [hg] at HRx
      obtain ⟨xf, ⟨xl, xv⟩, xa⟩ := x
      clear hrg hx hg
      go_wp2_with (first
        | ((with_reducible show wpList _ _ _ (⟨some 15, _, _, _, _, _⟩ :: _) _ _); refine wpList_load_mid rfl 262 _ rfl b (off + k * 4) rfl [.int .i64 xf, .int .i64 xl, .int .i64 xv, .bool xa] _ HRg.out Tryz.underlying262 rfl size_tri ?_)
        | (go_at_call 174; refine (HRx.out _).mono ?_; rintro e w2 ⟨rfl, ho2⟩; have HO2 : Hid (Only (fun _ => False) w w2) := (hrel.out.alloc _).trans ho2 (fun _ h => h.elim); clear ho2)
        | fail)
      go_roundw
      case rel => exact ⟨k + 1, by omega, by go_num, HO2.out⟩
      case measure => simp [intOf]; omega
    · obtain rfl : k = n := by omega
      have hc2 : wr.cell? ⟨3, 0, none⟩ = some (.iface 409 (.pointer (some a))) := hrel.out.cellv HC.out (fun h => h)
      clear hlt
      go_wp2
      go_quiet (fail)
      go_wp2
      go_ret2
      exact ⟨a, HA.out, rfl, hrel.out.drewN _⟩

theorem or_ack {l : Int} (h0 : 0 ≤ l) (h3 : l ≤ 3) : bits .or .i64 l 128 = l + 128 := by
  have : l = 0 ∨ l = 1 ∨ l = 2 ∨ l = 3 := by omega
  rcases this with rfl | rfl | rfl | rfl <;> decide
theorem u8_in {z : Int} (h0 : 0 ≤ z) (h1 : z ≤ 255) : IntKind.u8.wrap z = z := by
  unfold IntKind.wrap
  simp [IntKind.bits, IntKind.signed]
  omega
theorem sbody_ok {w : World} {A : Option Addr} {n c : Nat} {L : List Tr} (h : TrAt w A n L) (hb : L.all Tr.right = true) (hl : n ≤ 85) :
    Calls Tryz.prog 228 #[.slice A n c] w fun e w' => ∃ A' m c', e = .returned (.tuple #[.slice A' m c', .nilIface]) ∧ m = (bodyB L).length ∧ Body w' w.heap.size (.slice A' m c') (bodyB L) ∧ Only (fun _ => False) w w' := by
  have HS := Lib.hid h
  have HR := Lib.hid (fun W t => sright_any W t)
  have HB := Lib.hid hb
  have hl2 : decide ((85 : Int) < (n : Int)) = false := by simp; omega
  clear h hb
  go_enter Tryz.func228, Tryz.ntmps228
  go_wp2
  go_loopw [12] (fun i W => ∃ k : Nat, k ≤ n ∧ i = .int .i64 (k : Int) ∧ Hid (Only (fun _ => False) w W)) (fun i _ => n - (intOf i).toNat)
  case atStart => exact ⟨0, Nat.zero_le _, rfl, Only.refl _ _⟩
  case round =>
    obtain ⟨k, hk, rfl, hrel⟩ := hrel
    by_cases hlt : k < n
    · have hlt2 : (k : Int) < (n : Int) := by omega
      obtain ⟨x, hx⟩ : ∃ x, L[k]? = some x := ⟨_, List.getElem?_eq_getElem (by rw [HS.out.1]; exact hlt)⟩
      obtain ⟨b, off, rfl, hbl, hrg⟩ := (HS.out.same hrel.out).2 k x hx
      have HRg := Lib.hid hrg
      have HRx := Lib.hid (fun W => HR.out W x)
      have hg : x.right = true := List.all_eq_true.1 HB.out x (List.mem_of_getElem? hx)
      rw [hg] at HRx
      obtain ⟨xf, ⟨xl, xv⟩, xa⟩ := x
      clear hrg hx hg
      go_wp2_with (first
        | ((with_reducible show wpList _ _ _ (⟨some 15, _, _, _, _, _⟩ :: _) _ _); refine wpList_load_mid rfl 262 _ rfl b (off + k * 4) rfl [.int .i64 xf, .int .i64 xl, .int .i64 xv, .bool xa] _ HRg.out Tryz.underlying262 rfl size_tri ?_)
        | (go_at_call 174; refine (HRx.out _).mono ?_; rintro e w2 ⟨rfl, ho2⟩; have HO2 : Hid (Only (fun _ => False) w w2) := (hrel.out.alloc _).trans ho2 (fun _ h => h.elim); clear ho2)
        | fail)
      go_roundw
      case rel => exact ⟨k + 1, by omega, by go_num, HO2.out⟩
      case measure => simp [intOf]; omega
    · obtain rfl : k = n := by omega
      clear hlt
      go_wp2
      go_loopw [6, 27] (fun a i W => ∃ (j : Nat) (D : Option Addr) (m cd : Nat), j ≤ k ∧ a = .slice D m cd ∧ i = .int .i64 (j : Int) ∧ Hid (m = (bodyB (L.take j)).length ∧ Body W w.heap.size (.slice D m cd) (bodyB (L.take j)) ∧ Only (fun _ => False) w W)) (fun _ i _ => k - (intOf i).toNat)
      case atStart => exact ⟨0, none, 0, 0, Nat.zero_le _, rfl, rfl, rfl, nil_body _ _, hrel.out⟩
      case round =>
        obtain ⟨j, D, m, cd, hj, rfl, rfl, hrel⟩ := hrel
        by_cases hlt : j < k
        · have hlt2 : (j : Int) < (k : Int) := by omega
          obtain ⟨x, hx⟩ : ∃ x, L[j]? = some x := ⟨_, List.getElem?_eq_getElem (by rw [HS.out.1]; exact hlt)⟩
          obtain ⟨b, off, rfl, hbl, hrg⟩ := (HS.out.same hrel.out.2.2).2 j x hx
          have HRg := Lib.hid hrg
          have hg : x.right = true := List.all_eq_true.1 HB.out x (List.mem_of_getElem? hx)
          have HBt := Lib.hid (bytes_cells hg)
          have HTk : Hid (bodyB (L.take (j + 1)) = bodyB (L.take j) ++ bytesOf x) := by
            show bodyB (L.take (j + 1)) = _
            rw [take_snoc hx, bodyB_append, bodyB_one]
          obtain ⟨p1, p2, p3⟩ := right_parts hg
          have pv := Se.v_of p3
          have pl := Se.l_of p3
          obtain ⟨xf, ⟨xl, xv⟩, xa⟩ := x
          simp only at p1 p2 pv pl
          have q1 := u8_in (z := xf) (by omega) (by omega)
          have q2 := u8_in (z := xv) (by omega) (by omega)
          have hmb : m ≤ 300 := by
            have := hrel.out.1
            rw [bodyB_len, List.length_take] at this
            omega
          obtain ⟨bt, hbt⟩ : ∃ bt, bt = bytesOf ⟨xf, ⟨xl, xv⟩, xa⟩ := ⟨_, rfl⟩
          have HBl : Hid (bt.length = 3) := by rw [hbt]; rfl
          rw [← hbt] at HBt HTk
          clear hrg hx hg p3 hbt
          cases xa
          · have q3 := u8_in (z := xl) (by omega) (by omega)
            have HBc : Hid (bt.map B8 = [.int .u8 xf, .int .u8 xl, .int .u8 xv]) := by
              have := HBt.out
              simp only [secondOf, Bool.false_eq_true, if_false, Int.add_zero] at this
              exact this
            clear HBt
            go_wp2_with (first
              | ((with_reducible show wpList _ _ _ (⟨some 30, _, _, _, _, _⟩ :: _) _ _); refine wpList_load_mid rfl 262 _ rfl b (off + j * 4) rfl [.int .i64 xf, .int .i64 xl, .int .i64 xv, .bool false] _ HRg.out Tryz.underlying262 rfl size_tri ?_)
              | ((with_reducible show wpList _ _ _ (⟨some 49, _, _, _, _, _⟩ :: _) _ _); refine step_bytes rfl (.tmp 38) (.tmp 48) rfl w.heap.size D m cd (bodyB (L.take j)) rfl (Body.same hrel.out.2.1 (((Only.refl _ _).alloc _).alloc _)) hrel.out.1 (some ⟨wr.heap.size + 1, 0, none⟩) 3 3 bt rfl ((Blk.new' _ 5 [.int .u8 xf, .int .u8 xl, .int .u8 xv] (by simp)).src HBl.out (fun q u hq => by rw [Nat.zero_add, ← HBc.out, List.getElem?_map, hq]; rfl)) (by omega) (Nat.le_trans hrel.out.2.2.size (by simp; try omega)) ?_; intro A7 c7 w7 hq1 hq2; have HQ1 := Lib.hid hq1.out; have HQ2 : Hid (Only (fun _ => False) w w7) := ((hrel.out.2.2.alloc _).alloc _).trans hq2.out (fun i hi => .inr hi); clear hq1 hq2)
              | fail)
            go_roundw
            case rel => exact ⟨j + 1, A7, m + 3, c7, by omega, rfl, by go_num, by rw [HTk.out, List.length_append, HBl.out, ← hrel.out.1], by rw [HTk.out]; exact HQ1.out, HQ2.out⟩
            case measure => simp [intOf]; omega
          · have q3 := u8_in (z := xl + 128) (by omega) (by omega)
            have q4 := or_ack pl.1 pl.2
            have HBc : Hid (bt.map B8 = [.int .u8 xf, .int .u8 (xl + 128), .int .u8 xv]) := by
              have := HBt.out
              simp only [secondOf, if_true] at this
              exact this
            clear HBt
            go_wp2_with (first
              | ((with_reducible show wpList _ _ _ (⟨some 30, _, _, _, _, _⟩ :: _) _ _); refine wpList_load_mid rfl 262 _ rfl b (off + j * 4) rfl [.int .i64 xf, .int .i64 xl, .int .i64 xv, .bool true] _ HRg.out Tryz.underlying262 rfl size_tri ?_)
              | ((with_reducible show wpList _ _ _ (⟨some 49, _, _, _, _, _⟩ :: _) _ _); refine step_bytes rfl (.tmp 38) (.tmp 48) rfl w.heap.size D m cd (bodyB (L.take j)) rfl (Body.same hrel.out.2.1 (((Only.refl _ _).alloc _).alloc _)) hrel.out.1 (some ⟨wr.heap.size + 1, 0, none⟩) 3 3 bt rfl ((Blk.new' _ 5 [.int .u8 xf, .int .u8 (xl + 128), .int .u8 xv] (by simp)).src HBl.out (fun q u hq => by rw [Nat.zero_add, ← HBc.out, List.getElem?_map, hq]; rfl)) (by omega) (Nat.le_trans hrel.out.2.2.size (by simp; try omega)) ?_; intro A7 c7 w7 hq1 hq2; have HQ1 := Lib.hid hq1.out; have HQ2 : Hid (Only (fun _ => False) w w7) := ((hrel.out.2.2.alloc _).alloc _).trans hq2.out (fun i hi => .inr hi); clear hq1 hq2)
              | fail)
            go_roundw
            case rel => exact ⟨j + 1, A7, m + 3, c7, by omega, rfl, by go_num, by rw [HTk.out, List.length_append, HBl.out, ← hrel.out.1], by rw [HTk.out]; exact HQ1.out, HQ2.out⟩
            case measure => simp [intOf]; omega
        · obtain rfl : j = k := by omega
          clear hlt
          go_wp2
          go_ret2
          have e := hrel.out
          rw [List.take_of_length_le (by rw [HS.out.1]; exact Nat.le_refl _)] at e
          exact ⟨D, m, cd, rfl, e.1, e.2.1, e.2.2⟩
end Go.Proofs.YtbnfhklpobephaaGreatDoor
