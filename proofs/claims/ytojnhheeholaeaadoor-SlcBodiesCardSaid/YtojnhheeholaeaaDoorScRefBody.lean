/- Layer 14's document, walked: Body. -/
import Derived.Test.YtojnhheeholaeaaDoorScRef
import Derived.Test.YtojnhheeholaeaaDoorScBody
namespace Go.Proofs.YtojnhheeholaeaaDoor
open Go Go.RowKit
set_option maxRecDepth 100000
set_option maxHeartbeats 4000000

def bodyOut (L : List Tr) : List UInt8 := if bodyN L = 0 then bodyB L else []
theorem rbody_any {w : World} {A : Option Addr} {n c : Nat} {L : List Tr} (h : TrAt w A n L) (hn : n ≤ 100) :
    Calls Tryd.prog 22 #[.slice A n c] w fun e w' => e = .returned (.tuple #[.string ⟨(bodyOut L).toArray⟩, .int .i64 (bodyN L : Int)]) ∧ Only (fun _ => False) w w' := by
  have HS := Lib.hid h
  have HR := Lib.hid (fun W t => rright_any W t)
  obtain ⟨N, hN⟩ : ∃ N, N = bodyN L := ⟨_, rfl⟩
  have HN := Lib.hid hN
  obtain ⟨O, hO⟩ : ∃ O, O = bodyOut L := ⟨_, rfl⟩
  have HO := Lib.hid hO
  rw [← hN, ← hO]
  clear h hN hO
  go_enter Tryd.func22, Tryd.ntmps22
  go_wp2
  go_loopw [4, 10] (fun s i W => ∃ (k : Nat) (D : List UInt8), k ≤ n ∧ s = .string ⟨D.toArray⟩ ∧ i = .int .i64 (k : Int) ∧ D = bodyB (L.take k) ∧ Hid ((∀ t ∈ L.take k, t.right = true) ∧ Only (fun _ => False) w W)) (fun _ i _ => n - (intOf i).toNat)
  case atStart => exact ⟨0, [], Nat.zero_le _, rfl, rfl, rfl, fun t ht => by simp at ht, Only.refl _ _⟩
  case round =>
    obtain ⟨k, D, hk, rfl, rfl, hD, hrel⟩ := hrel
    have hDl : D.length ≤ 300 := by
      rw [hD, bodyB_len, List.length_take]
      omega
    have HD := Lib.hid hD
    clear hD
    by_cases hlt : k < n
    · have hlt2 : (k : Int) < (n : Int) := by omega
      obtain ⟨x, hx⟩ : ∃ x, L[k]? = some x := ⟨_, List.getElem?_eq_getElem (by rw [HS.out.1]; exact hlt)⟩
      obtain ⟨b, off, rfl, hbl, hrg⟩ := (HS.out.same hrel.out.2).2 k x hx
      have HRg := Lib.hid hrg
      have HX := Lib.hid hx
      have HRx := Lib.hid (fun W => HR.out W x)
      cases hg : x.right
      · rw [hg] at HRx
        have hbn : bodyN L = 5 := by
          unfold bodyN
          rw [if_neg]
          intro hall
          have := List.all_eq_true.1 hall x (List.mem_of_getElem? hx)
          rw [hg] at this
          cases this
        have e1 : N = 5 := HN.out.trans hbn
        have e2 : O = [] := by rw [HO.out, bodyOut, hbn]; rfl
        subst e1 e2
        obtain ⟨xf, ⟨xl, xv⟩, xa⟩ := x
        clear hrg hx hg hbn HN HO
        go_wp2_with (first
          | ((with_reducible show wpList _ _ _ (⟨some 13, _, _, _, _, _⟩ :: _) _ _); refine wpList_load_mid rfl 41 _ rfl b (off + k * 4) rfl [.int .i64 xf, .int .i64 xl, .int .i64 xv, .bool xa] _ HRg.out Tryd.underlying41 rfl size_rtri ?_)
          | (go_at_call 20; refine (HRx.out _).mono ?_; rintro e w2 ⟨rfl, ho2⟩; have HO2 : Hid (Only (fun _ => False) w w2) := (hrel.out.2.alloc _).trans ho2 (fun _ h => h.elim); clear ho2)
          | fail)
        go_ret2
        exact ⟨rfl, HO2.out⟩
      · rw [hg] at HRx
        have HG := Lib.hid hg
        have HBt := Lib.hid (bytes_cells hg)
        have HTk : Hid (bodyB (L.take (k + 1)) = bodyB (L.take k) ++ bytesOf x) := by
          show bodyB (L.take (k + 1)) = _
          rw [take_snoc hx, bodyB_append, bodyB_one]
        obtain ⟨p1, p2, p3⟩ := right_parts hg
        have pv := Se.v_of p3
        have pl := Se.l_of p3
        obtain ⟨xf, ⟨xl, xv⟩, xa⟩ := x
        simp only at p1 p2 pv pl
        have q1 := u8_in (z := xf) (by omega) (by omega)
        have q2 := u8_in (z := xv) (by omega) (by omega)
        obtain ⟨bt, hbt⟩ : ∃ bt, bt = bytesOf ⟨xf, ⟨xl, xv⟩, xa⟩ := ⟨_, rfl⟩
        have HBl : Hid (bt.length = 3) := by rw [hbt]; rfl
        rw [← hbt] at HBt HTk
        obtain ⟨D', hD'⟩ : ∃ D', D' = D ++ bt := ⟨_, rfl⟩
        have hsum : ∀ W, (Op.stringOp .add (ByteArray.mk D.toArray) (ByteArray.mk bt.toArray)).run Tryd.prog W = .ok (.string (ByteArray.mk D'.toArray)) W := fun W => sum_texts D bt D' hD'.symm (by have := HBl.out; omega)
        have HDl : Hid (D' = bodyB (L.take k) ++ bt) := by rw [hD', HD.out]; exact rfl
        clear hrg hx hg p3 hbt hD'
        cases xa
        · skip
          have q3 := u8_in (z := xl) (by omega) (by omega)
          have HBc : Hid ((bt.map B8).toArray = #[.int .u8 xf, .int .u8 xl, .int .u8 xv]) := by
            have := HBt.out
            simp only [secondOf, Bool.false_eq_true, if_false, Int.add_zero] at this
            exact Lib.hid (congrArg List.toArray this)
          clear HBt
          go_wp2_with (first
            | ((with_reducible show wpList _ _ _ (⟨some 13, _, _, _, _, _⟩ :: _) _ _); refine wpList_load_mid rfl 41 _ rfl b (off + k * 4) rfl [.int .i64 xf, .int .i64 xl, .int .i64 xv, .bool false] _ HRg.out Tryd.underlying41 rfl size_rtri ?_)
            | (go_at_call 20; refine (HRx.out _).mono ?_; rintro e w2 ⟨rfl, ho2⟩; have HO2 : Hid (Only (fun _ => False) w w2) := (hrel.out.2.alloc _).trans ho2 (fun _ h => h.elim); have hb2 : Blk w2 wr.heap.size 41 [.int .i64 xf, .int .i64 xl, .int .i64 xv, .bool false] := (Blk.new wr _ _).only ho2 (fun h => h); obtain ⟨u0, u1, u2, u3⟩ : w2.cell? ⟨wr.heap.size, 0, none⟩ = some (.int .i64 xf) ∧ w2.cell? ⟨wr.heap.size, 1, none⟩ = some (.int .i64 xl) ∧ w2.cell? ⟨wr.heap.size, 2, none⟩ = some (.int .i64 xv) ∧ w2.cell? ⟨wr.heap.size, 3, none⟩ = some (.bool false) := ⟨hb2.cell 0, hb2.cell 1, hb2.cell 2, hb2.cell 3⟩; have hcv := text_new w2 bt 3 HBl.out _ HBc.out.symm _ rfl; clear hb2; clear ho2)
            | fail)
          go_roundw
          case rel => exact ⟨k + 1, D', by omega, rfl, by go_num, by rw [HDl.out, HTk.out], by
            intro t ht
            rw [take_snoc HX.out] at ht
            rcases List.mem_append.1 ht with h | h
            · exact hrel.out.1 t h
            · simp only [List.mem_singleton] at h
              subst h
              exact HG.out, HO2.out.alloc _⟩
          case measure => simp [intOf]; omega
        · skip
          have q3 := u8_in (z := xl + 128) (by omega) (by omega)
          have HBc : Hid ((bt.map B8).toArray = #[.int .u8 xf, .int .u8 (xl + 128), .int .u8 xv]) := by
            have := HBt.out
            simp only [secondOf, if_true] at this
            exact Lib.hid (congrArg List.toArray this)
          clear HBt
          go_wp2_with (first
            | ((with_reducible show wpList _ _ _ (⟨some 13, _, _, _, _, _⟩ :: _) _ _); refine wpList_load_mid rfl 41 _ rfl b (off + k * 4) rfl [.int .i64 xf, .int .i64 xl, .int .i64 xv, .bool true] _ HRg.out Tryd.underlying41 rfl size_rtri ?_)
            | (go_at_call 20; refine (HRx.out _).mono ?_; rintro e w2 ⟨rfl, ho2⟩; have HO2 : Hid (Only (fun _ => False) w w2) := (hrel.out.2.alloc _).trans ho2 (fun _ h => h.elim); have hb2 : Blk w2 wr.heap.size 41 [.int .i64 xf, .int .i64 xl, .int .i64 xv, .bool true] := (Blk.new wr _ _).only ho2 (fun h => h); obtain ⟨u0, u1, u2, u3⟩ : w2.cell? ⟨wr.heap.size, 0, none⟩ = some (.int .i64 xf) ∧ w2.cell? ⟨wr.heap.size, 1, none⟩ = some (.int .i64 xl) ∧ w2.cell? ⟨wr.heap.size, 2, none⟩ = some (.int .i64 xv) ∧ w2.cell? ⟨wr.heap.size, 3, none⟩ = some (.bool true) := ⟨hb2.cell 0, hb2.cell 1, hb2.cell 2, hb2.cell 3⟩; have hcv := text_new w2 bt 3 HBl.out _ HBc.out.symm _ rfl; clear hb2; clear ho2)
            | fail)
          go_roundw
          case rel => exact ⟨k + 1, D', by omega, rfl, by go_num, by rw [HDl.out, HTk.out], by
            intro t ht
            rw [take_snoc HX.out] at ht
            rcases List.mem_append.1 ht with h | h
            · exact hrel.out.1 t h
            · simp only [List.mem_singleton] at h
              subst h
              exact HG.out, HO2.out.alloc _⟩
          case measure => simp [intOf]; omega
    · obtain rfl : k = n := by omega
      have hall : L.all Tr.right = true := by
        have := hrel.out.1
        rw [List.take_of_length_le (by rw [HS.out.1]; exact Nat.le_refl _)] at this
        exact List.all_eq_true.2 this
      have hDa := HD.out
      rw [List.take_of_length_le (by rw [HS.out.1]; exact Nat.le_refl _)] at hDa
      have hlen : L.length = k := HS.out.1
      by_cases hl : 85 < k
      · have hbn : bodyN L = 4 := by unfold bodyN; rw [if_pos hall, if_pos (by omega)]
        have e1 : N = 4 := HN.out.trans hbn
        have e2 : O = [] := by rw [HO.out, bodyOut, hbn]; rfl
        subst e1 e2
        have hl2 : decide ((85 : Int) < (k : Int)) = true := by simp; omega
        clear HN HO HD hall hDa hlen hbn hl hlt
        go_wp2
        go_ret2
        exact ⟨rfl, hrel.out.2⟩
      · have hbn : bodyN L = 0 := by unfold bodyN; rw [if_pos hall, if_neg (by omega)]
        have e1 : N = 0 := HN.out.trans hbn
        have e2 : O = D := by rw [HO.out, bodyOut, if_pos hbn, hDa]
        subst e1 e2
        have hl2 : decide ((85 : Int) < (k : Int)) = false := by simp; omega
        clear HN HO HD hall hDa hlen hbn hl hlt
        go_wp2
        go_ret2
        exact ⟨rfl, hrel.out.2⟩
end Go.Proofs.YtojnhheeholaeaaDoor
