/- Several texts in one. -/
import Derived.Test.YtbnfhklpobephaaGreatDoorJClean
import Derived.Test.YtbnfhklpobephaaGreatDoorJEnSend
import Derived.Test.YtbnfhklpobephaaGreatDoorJTb
import Derived.Test.YtbnfhklpobephaaGreatDoorJCleanSay
import Derived.BigQuiet
/- Package clean: Deaf, Idle. -/
namespace Go.Proofs.YtbnfhklpobephaaGreatDoor
open Go Go.RowKit
set_option maxRecDepth 100000
set_option maxHeartbeats 4000000

theorem cdeaf_in {w : World} {p mo : Nat} {tp : TypeId} {pre post : List Value} {k : Cl} (h : ClAt w p mo tp pre k post) :
    Calls Tryz.prog 77 #[.pointer (some ⟨p, mo, none⟩)] w fun e w' => e = .returned (.bool k.deaf) ∧ w' = w := by
  have c0 := h.cDeaf
  clear h
  go_enter Tryz.func77, Tryz.ntmps77
  go_wp2
  go_ret
  exact ⟨rfl, rfl⟩
end Go.Proofs.YtbnfhklpobephaaGreatDoor
/- What an end is asked: On, State, Calm, Counts, Deaf, Hub. -/
namespace Go.Proofs.YtbnfhklpobephaaGreatDoor
open Go Go.RowKit
set_option maxRecDepth 100000
set_option maxHeartbeats 4000000

section
variable {w : World} {p mo : Nat} {tp : TypeId} {pre post : List Value} {M R : Nat → Prop} {ag : Nat → Nat → Bool} {E : Ee}
theorem IsEe.tb (k : IsEe w p mo tp pre post M R ag E) : ∃ q1 q2, TbAt w p (mo + 263) tp q1 q2 ag E.T := by
  obtain ⟨_, _, _, _, _, _, _, k⟩ := k
  exact ⟨_, _, k.tbAt⟩
theorem IsEe.lt (k : IsEe w p mo tp pre post M R ag E) : p < w.heap.size := by
  obtain ⟨_, _, _, _, _, _, _, k⟩ := k
  exact k.lt
theorem IsEe.p18 (k : IsEe w p mo tp pre post M R ag E) : 18 ≤ p := by
  obtain ⟨_, _, _, _, _, _, _, k⟩ := k
  exact k.p18
theorem IsEe.m18 (k : IsEe w p mo tp pre post M R ag E) : ∀ i, M i → 18 ≤ i := by
  obtain ⟨_, _, _, _, _, _, _, k⟩ := k
  exact k.m18
theorem IsEe.mp (k : IsEe w p mo tp pre post M R ag E) : M p := by
  obtain ⟨_, _, _, _, _, _, _, k⟩ := k
  exact k.mp
theorem IsEe.mlt (k : IsEe w p mo tp pre post M R ag E) : ∀ i, M i → i < w.heap.size := by
  obtain ⟨_, _, _, _, _, _, _, k⟩ := k
  exact k.mlt
theorem IsEe.rlt (k : IsEe w p mo tp pre post M R ag E) : ∀ i, R i → i < w.heap.size := by
  obtain ⟨_, _, _, _, _, _, _, k⟩ := k
  exact k.rlt
theorem enOn (k : IsEe w p mo tp pre post M R ag E) (s o : Int) : Calls Tryz.prog 19 #[.pointer (some ⟨p, mo, none⟩), .int .i64 s, .int .i64 o] w fun e w' => e = .returned (.bool (E.on s o)) ∧ Only (fun _ => False) w w' := by
  obtain ⟨q1, q2, hT⟩ := k.tb
  have HO := Lib.hid (ton_any hT s o)
  unfold Ee.on
  generalize decide (E.T.get s o = .yes) = b at *
  clear k hT
  go_enter Tryz.func19, Tryz.ntmps19
  go_wp2_with (go_at_call 49; (with_reducible refine HO.out.mono ?_); rintro e w1 ⟨rfl, ho1⟩)
  go_ret
  exact ⟨rfl, ho1⟩
theorem enState (k : IsEe w p mo tp pre post M R ag E) (s o : Int) : Calls Tryz.prog 17 #[.pointer (some ⟨p, mo, none⟩), .int .i64 s, .int .i64 o] w fun e w' => e = .returned (qsV (E.T.get s o)) ∧ Only (fun _ => False) w w' := by
  have HO := Lib.hid (fun W (ho : Only (fun _ => False) w W) => (k.same ho).tb.elim fun q1 h => h.elim fun q2 hT => state_any hT s o)
  obtain ⟨a, ha⟩ : ∃ a, a = ((E.T.get s o).kind : Int) := ⟨_, rfl⟩
  obtain ⟨b, hb⟩ : ∃ b, b = (E.T.get s o).opp := ⟨_, rfl⟩
  unfold qsV at *
  rw [← ha, ← hb] at HO ⊢
  clear k ha hb
  go_enter Tryz.func17, Tryz.ntmps17
  go_wp2_with (first
    | (go_at_call 48; (with_reducible refine (HO.out _ ((Only.refl _ _).alloc _)).mono ?_); rintro e w1 ⟨rfl, ho1⟩; have hB1 := (Blk.new w 65 [.int .i64 0, .bool false]).only ho1 (fun h => h); have HO1 : Hid (Only (fun _ => False) w w1) := ((Only.refl _ _).alloc _).trans ho1 (fun _ h => h.elim))
    | ((with_reducible show wpList _ _ _ (⟨none, .store 65 _ _, _, _, _, _⟩ :: _) _ _); refine step_store rfl 65 _ _ rfl w.heap.size rfl [.int .i64 a, .bool b] rfl _ [.int .i64 0, .bool false] hB1 size_state rfl (fun v hv => by simp at hv; rcases hv with rfl | rfl <;> rfl) ?_; intro w4 hB4 hz4 ho4))
  refine ret_cell1 rfl w.heap.size rfl _ [.int .i64 a, .bool b] _ hB4.out Tryz.underlying65 rfl size_state rfl ?_
  exact ⟨rfl, HO1.out.trans ho4 (fun i hi => .inr (by omega))⟩
theorem enCalm (k : IsEe w p mo tp pre post M R ag E) : Calls Tryz.prog 14 #[.pointer (some ⟨p, mo, none⟩)] w fun e w' => e = .returned (.bool (calmT E.T.st)) ∧ Only (fun _ => False) w w' := by
  obtain ⟨q1, q2, hT⟩ := k.tb
  have HO := Lib.hid (tcalm_any hT)
  generalize calmT E.T.st = b at *
  clear k hT
  go_enter Tryz.func14, Tryz.ntmps14
  go_wp2_with (go_at_call 47; (with_reducible refine HO.out.mono ?_); rintro e w1 ⟨rfl, ho1⟩)
  go_ret
  exact ⟨rfl, ho1⟩
theorem enCounts (k : IsEe w p mo tp pre post M R ag E) : Calls Tryz.prog 13 #[.pointer (some ⟨p, mo, none⟩)] w fun e w' => e = .returned (.tuple #[.int .i64 (E.heard : Int), .int .i64 (E.asked : Int), .int .i64 (E.sent : Int)]) ∧ Only (fun _ => False) w w' := by
  obtain ⟨_, _, _, _, _, _, _, k⟩ := k
  have c1 : w.cell? ⟨p, mo + 1948, none⟩ = some (.int .i64 (E.heard : Int)) := k.tlIn.val (i := 1) rfl
  have c2 : w.cell? ⟨p, mo + 1949, none⟩ = some (.int .i64 (E.asked : Int)) := k.tlIn.val (i := 2) rfl
  have c3 : w.cell? ⟨p, mo + 1950, none⟩ = some (.int .i64 (E.sent : Int)) := k.tlIn.val (i := 3) rfl
  clear k
  go_enter Tryz.func13, Tryz.ntmps13
  go_wp2
  go_quiet (fail)
  go_wp2
  go_ret3
  exact ⟨rfl, (Only.refl _ _).drewN _⟩
theorem enDeaf (k : IsEe w p mo tp pre post M R ag E) : Calls Tryz.prog 32 #[.pointer (some ⟨p, mo, none⟩)] w fun e w' => e = .returned (.bool E.k.deaf) ∧ w' = w := by
  obtain ⟨_, _, _, _, _, _, _, k⟩ := k
  have HO := Lib.hid (cdeaf_in k.clAt)
  generalize E.k.deaf = b at *
  clear k
  go_enter Tryz.func32, Tryz.ntmps32
  go_wp2_with (go_at_call 77; (with_reducible refine HO.out.mono ?_); rintro e w1 ⟨rfl, e1⟩; subst w1)
  go_ret
  exact ⟨rfl, rfl⟩
theorem enHub (w : World) (p mo : Nat) : Calls Tryz.prog 16 #[.pointer (some ⟨p, mo, none⟩)] w fun e w' => e = .returned (.pointer (some ⟨p, mo + 1802, none⟩)) ∧ w' = w := by
  go_enter Tryz.func16, Tryz.ntmps16
  go_wp2
  go_ret
  exact ⟨rfl, rfl⟩
end
end Go.Proofs.YtbnfhklpobephaaGreatDoor
/- Package codes: is a number a plain command's? -/
namespace Go.Proofs.YtbnfhklpobephaaGreatDoor
open Go Go.RowKit

theorem cplain_any (W : World) (c : Int) : Calls Tryz.prog 127 #[.int .i64 c] W fun e w' => e = .returned (.bool (decide (241 ≤ c ∧ c ≤ 249))) ∧ w' = W := by
  by_cases h1 : c < 241
  · go_enter Tryz.func127, Tryz.ntmps127
    go_wp2
    go_ret
    refine ⟨congrArg (fun b => Ending.returned (Value.bool b)) ?_, rfl⟩
    first | (simp; done) | (simp; omega)
  · go_enter Tryz.func127, Tryz.ntmps127
    go_wp2
    go_ret
    refine ⟨congrArg (fun b => Ending.returned (Value.bool b)) ?_, rfl⟩
    first | (simp; done) | (simp; omega)
end Go.Proofs.YtbnfhklpobephaaGreatDoor
/- Package emit: one contract for each of its calls. -/
namespace Go.Proofs.YtbnfhklpobephaaGreatDoor
open Go Go.RowKit
set_option maxRecDepth 100000
set_option maxHeartbeats 4000000

/-- Where double stands. -/
structure DAt (w : World) (B : Nat) (ys xs : List UInt8) (W : World) (k : Nat) (V : Value) (n : Nat) : Prop where
  len : n = (xs ++ dbl (ys.take k)).length
  row : Body W B V (xs ++ dbl (ys.take k))
  only : Only (fun i => B ≤ i) w W

theorem double_any {w : World} {B : Nat} (hB : B ≤ w.heap.size) {VA : Option Addr} {n vc : Nat} {xs : List UInt8} (hrow : Body w B (.slice VA n vc) xs) (hn : n = xs.length)
    {A : Option Addr} {m c : Nat} {ys : List UInt8} (hs : Src w A m ys) (hold : 0 < m → ∀ ad, A = some ad → ad.block < B) (hbd : n + 2 * m ≤ 1048576) :
    Calls Tryz.prog 125 #[.slice VA n vc, .slice A m c] w fun e w' => ∃ V, e = .returned V ∧ Body w' B V (xs ++ dbl ys) ∧ Only (fun i => B ≤ i) w w' := by
  have HS := Lib.hid hs
  have HO := Lib.hid hold
  have H0 : Hid (DAt w B ys xs w 0 (.slice VA n vc) n) := ⟨by simp [dbl, hn], by simpa [dbl] using hrow, Only.refl _ _⟩
  have HN := Lib.hid hn
  clear hs hold hrow hn
  go_enter Tryz.func125, Tryz.ntmps125
  go_wp2
  go_loopw [0, 9] (fun v i W => ∃ (k : Nat) (A' : Option Addr) (n' c' : Nat), k ≤ m ∧ i = .int .i64 (k : Int) ∧ v = .slice A' n' c' ∧ Hid (DAt w B ys xs W k (.slice A' n' c') n')) (fun _ i _ => m - (intOf i).toNat)
  case atStart => exact ⟨0, _, _, _, Nat.zero_le _, rfl, rfl, H0.out⟩
  case round =>
    clear H0
    obtain ⟨k, A', n', c', hk, rfl, rfl, HD⟩ := hrel
    by_cases hlt : k < m
    · obtain ⟨x, hx⟩ : ∃ x, ys[k]? = some x := ⟨_, List.getElem?_eq_getElem (by rw [HS.out.1]; exact hlt)⟩
      have hsW := HS.out.only HD.out.only (fun h0 ad e hb => by have := HO.out h0 ad e; omega)
      obtain ⟨ad, rfl, hcell⟩ := hsW.2 (by omega)
      have c0 := hcell k x hx
      unfold B8 at c0
      have hkk : (ys.take k).length = k := by rw [List.length_take, HS.out.1]; omega
      have hb' : n' + 2 ≤ 1048576 := by
        have h1 := HD.out.len
        have h2 := (dbl_length (ys.take k)).2
        rw [List.length_append] at h1
        have := HN.out
        omega
      have hBW : B ≤ wr.heap.size := Nat.le_trans hB HD.out.only.size
      have HT := Lib.hid (take_snoc hx)
      obtain ⟨z, hz⟩ : ∃ z : Int, z = (x.toNat : Int) := ⟨_, rfl⟩
      rw [← hz] at c0
      have HZ : Hid (#[Value.int .u8 z] = ([x].map B8).toArray) := by rw [hz]; rfl
      by_cases h5 : x.toNat = 255
      · have d1 : (z == 255) = true := by rw [hz]; simp; omega
        have d2 : decide (z = 255) = true := by rw [hz]; simp; omega
        have H5 := Lib.hid h5
        clear hcell hsW hz hx hkk h5
        go_wp2_with (first
          | (at_builtin; refine step_bytes rfl (.tmp 15) (.tmp 17) rfl B _ _ _ (xs ++ dbl (ys.take k)) rfl (own_same HD.out.row ((Only.refl _ wr).alloc _)) HD.out.len (some ⟨wr.heap.size, 0, none⟩) 1 1 [x] rfl (src_new wr [x] _ _ _ 1 HZ.out rfl) (by omega) (by simp; omega) ?_; intro A1 c1 w1 hb1 ho1; have HO1 : Hid (Only (fun i => B ≤ i) w w1) := ((HD.out.only.alloc _).trans ho1.out (fun i hi => .inl hi)); clear ho1)
          | (at_builtin; refine step_bytes rfl (.tmp 19) (.tmp 21) rfl B _ _ _ (xs ++ dbl (ys.take k) ++ [x]) rfl (own_same hb1.out ((Only.refl _ w1).alloc _)) (by rw [HD.out.len]; exact (len_snoc _ _).symm) (some ⟨w1.heap.size, 0, none⟩) 1 1 [x] rfl (src_new w1 [x] _ _ _ 1 HZ.out rfl) (by omega) (by have := HO1.out.size; simp; omega) ?_; intro A2 c2 w2 hb2 ho2))
        go_roundw
        case rel =>
          refine ⟨k + 1, _, _, _, by omega, by go_num, rfl, ?_⟩
          have e : xs ++ dbl (ys.take (k + 1)) = xs ++ dbl (ys.take k) ++ [x] ++ [x] := by rw [HT.out, dbl_two _ _ H5.out]; simp only [List.append_assoc]
          refine ⟨?_, ?_, (HO1.out.alloc _).trans ho2.out (fun i hi => .inl hi)⟩
          · rw [e]
            have := HD.out.len
            simp only [List.length_append, List.length_singleton] at this ⊢
            omega
          · rw [e]
            exact hb2.out
        case measure => simp [intOf]; omega
      · have d1 : (z == 255) = false := by rw [hz]; simp; omega
        have d2 : decide (z = 255) = false := by rw [hz]; simp; omega
        have H5 := Lib.hid h5
        clear hcell hsW hz hx hkk h5
        go_wp2_with (first
          | (at_builtin; refine step_bytes rfl (.tmp 19) (.tmp 21) rfl B _ _ _ (xs ++ dbl (ys.take k)) rfl (own_same HD.out.row ((Only.refl _ wr).alloc _)) HD.out.len (some ⟨wr.heap.size, 0, none⟩) 1 1 [x] rfl (src_new wr [x] _ _ _ 1 HZ.out rfl) (by omega) (by simp; omega) ?_; intro A2 c2 w2 hb2 ho2))
        go_roundw
        case rel =>
          refine ⟨k + 1, _, _, _, by omega, by go_num, rfl, ?_⟩
          have e : xs ++ dbl (ys.take (k + 1)) = xs ++ dbl (ys.take k) ++ [x] := by rw [HT.out, dbl_one _ _ H5.out]; simp only [List.append_assoc]
          refine ⟨?_, ?_, (HD.out.only.alloc _).trans ho2.out (fun i hi => .inl hi)⟩
          · rw [e]
            have := HD.out.len
            simp only [List.length_append, List.length_singleton] at this ⊢
            omega
          · rw [e]
            exact hb2.out
        case measure => simp [intOf]; omega
    · go_wp2
      go_ret
      obtain rfl : k = m := by omega
      have h1 := HD.out.row
      rw [List.take_of_length_le (by rw [HS.out.1]; omega)] at h1
      exact ⟨_, rfl, h1, HD.out.only⟩

/-- Data. -/
theorem data_any {w : World} {A : Option Addr} {m c : Nat} {ys : List UInt8} (hs : Src w A m ys) (hbd : 2 * m ≤ 1048576) :
    Calls Tryz.prog 71 #[.slice A m c] w fun e w' => ∃ A' c', e = .returned (.slice A' (dbl ys).length c') ∧ Hid (Body w' w.heap.size (.slice A' (dbl ys).length c') (dbl ys)) ∧ Hid (Only (fun _ => False) w w') := by
  have C := Lib.hid (double_any (w := w) (B := w.heap.size) (c := c) (Nat.le_refl _) (VA := none) (n := 0) (vc := 0) (xs := []) (own_nil w _ _ _) rfl hs (fun hm ad e => hs.lt hm ad e) (by omega))
  go_enter Tryz.func71, Tryz.ntmps71
  go_wp2_with (go_at_call 125; refine C.out.mono ?_; rintro e w' ⟨V, rfl, hb, ho⟩)
  go_ret
  rw [List.nil_append] at hb
  obtain ⟨A', c', rfl, _⟩ := hb.form
  exact ⟨A', c', rfl, hb, (ho.mono (fun i hi => .inr hi))⟩
end Go.Proofs.YtbnfhklpobephaaGreatDoor
