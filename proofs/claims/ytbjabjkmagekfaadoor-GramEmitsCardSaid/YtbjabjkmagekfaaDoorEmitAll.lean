/- Package emit: All. -/
import Derived.Test.YtbjabjkmagekfaaDoorEmitToken
import Derived.Test.YtbjabjkmagekfaaDoorRdTk
namespace Go.Proofs.YtbjabjkmagekfaaDoor
open Go Go.RowKit
set_option maxRecDepth 100000
set_option maxHeartbeats 4000000

/-- Where All stands. -/
structure EAt (w : World) (ts : List Tk) (W : World) (k : Nat) (V : Value) (n : Nat) : Prop where
  len : n = (accB (ts.take k)).length
  row : Body W w.heap.size V (accB (ts.take k))
  good : numL (ts.take k) = 0
  only : Only (fun _ => False) w W

theorem eall_any {w : World} {es : List Addr} (hes : ErrsOf w [0, 3, 8] es) {A : Option Addr} {n c : Nat} {ps : List TkP} (hr : RdTk w A n ps) (hn : n ≤ 1000) :
    Calls Tryd.prog 18 #[.slice A n c] w fun e w' => Told w w' es e (allB (ps.map TkP.t)) (numL (ps.map TkP.t)) := by
  have HR := Lib.hid hr
  have HE := Lib.hid hes
  obtain ⟨ts, hts⟩ : ∃ ts, ts = ps.map TkP.t := ⟨_, rfl⟩
  rw [← hts]
  have HT := Lib.hid hts
  have HTl : Hid (ts.length = n) := by rw [hts, List.length_map]; exact hr.len
  have H0 : Hid (EAt w ts w 0 (.slice none 0 0) 0) := ⟨rfl, own_nil w _ _ _, rfl, Only.refl _ _⟩
  clear hr hes hts
  go_enter Tryd.func18, Tryd.ntmps18
  go_wp2
  go_loopw [4, 11] (fun v i W => ∃ (k : Nat) (A' : Option Addr) (n' c' : Nat), k ≤ n ∧ i = .int .i64 (k : Int) ∧ v = .slice A' n' c' ∧ Hid (EAt w ts W k (.slice A' n' c') n')) (fun _ i _ => n - (intOf i).toNat)
  case atStart => exact ⟨0, _, _, _, Nat.zero_le _, rfl, rfl, H0.out⟩
  case round =>
    clear H0
    obtain ⟨k, A', n', c', hk, rfl, rfl, HD⟩ := hrel
    by_cases hlt : k < n
    · obtain ⟨x, hx⟩ : ∃ x, ps[k]? = some x := ⟨_, List.getElem?_eq_getElem (by rw [HR.out.len]; exact hlt)⟩
      have htx : ts[k]? = some x.t := by rw [HT.out, List.getElem?_map, hx]; rfl
      have HS := Lib.hid (take_snoc htx)
      obtain ⟨g, off, rfl, hra, hrd⟩ := (HR.out.same HD.out.only).at_ k x hx
      have hb' : n' + 600 ≤ 1048576 := by
        have h1 := HD.out.len
        have h2 := accB_length (ts.take k)
        have h3 : (ts.take k).length ≤ k := by rw [List.length_take]; omega
        omega
      obtain ⟨cs, hcs⟩ : ∃ cs, cs = x.cells := ⟨_, rfl⟩
      obtain ⟨B, hB⟩ : ∃ B, B = tkBytes x.t := ⟨_, rfl⟩
      obtain ⟨M, hM⟩ : ∃ M, M = B.length := ⟨_, rfl⟩
      obtain ⟨num, hnum⟩ : ∃ num, num = tkNum x.t := ⟨_, rfl⟩
      have hMl : M ≤ 600 := by rw [hM, hB]; exact tkBytes_length _
      have HTok : Hid (∀ W, Only (fun _ => False) wr W → Calls Tryd.prog 28 #[.agg cs.toArray] W fun e w' => ∃ A1 c1 E, e = .returned (.tuple #[.slice A1 M c1, E]) ∧ Hid (Body w' W.heap.size (.slice A1 M c1) B) ∧ ErrV es E num ∧ Hid (Only (fun _ => False) W w')) := fun W ho => by
        obtain ⟨A2, c2, e2, hs2, _⟩ := hrd
        obtain ⟨e3, e4⟩ : x.ad = A2 ∧ x.cap = c2 := by
          unfold TkP.val at e2
          injection e2 with e3 _ e4
          exact ⟨e3, e4⟩
        have := token_any (cap := x.cap) ((HE.out.only HD.out.only).only ho) x.t.kind x.t.code x.t.opt x.t.body x.t.cut (hs2.only ho (fun _ _ _ h => h))
        rw [hcs, hM, hB, hnum]
        rw [← e3] at this
        exact this
      have hcl : cs.length = 5 := by rw [hcs]; rfl
      have HCL := Lib.hid hcl
      have HCO := Lib.hid (show ∀ v ∈ cs, v.oneCell' = true by rw [hcs]; exact x.cells_one)
      have HRA : Hid (wr.rangeAt g (off + k * 5) cs) := by rw [hcs]; exact hra
      have HBt := Lib.hid hB
      have HNum := Lib.hid hnum
      have HML := Lib.hid hM
      have hwz : w.heap.size ≤ wr.heap.size := HD.out.only.size
      clear hra hrd hcs hB hnum hcl htx hM
      rcases Nat.eq_zero_or_pos num with h0 | h0
      · subst h0
        go_wp2_with (first
          | ((with_reducible show wpList _ _ _ (⟨some 14, _, _, _, _, _⟩ :: _) _ _); refine wpList_load_mid rfl 48 (.tmp 13) rfl g (off + k * 5) rfl cs _ HRA.out Tryd.underlying48 rfl (by rw [HCL.out]; exact size_tok) ?_)
          | ((with_reducible show wpList _ _ _ (⟨none, .store 48 _ _, _, _, _, _⟩ :: _) _ _); refine step_store rfl 48 _ _ rfl wr.heap.size rfl cs rfl _ (tkCells Tk.none (.slice none 0 0)) (Blk.new _ _ _) (by rw [HCL.out]; exact size_tok) HCL.out.symm HCO.out ?_; intro w4 hB4 hz4 ho4; have HO4 : Hid (Only (fun i => wr.heap.size ≤ i) wr w4) := ((Only.refl (fun i => wr.heap.size ≤ i) wr).alloc _).trans ho4 (fun i hi => .inl (by omega)))
          | ((with_reducible show wpList _ _ _ (⟨some 16, _, _, _, _, _⟩ :: _) _ _); refine wpList_load_mid rfl 48 (.tmp 6) rfl wr.heap.size 0 rfl cs _ (range_of hB4.out) Tryd.underlying48 rfl (by rw [HCL.out]; exact size_tok) ?_)
          | (go_at_call 28; refine (HTok.out w4 (HO4.out.mono (fun i hi => .inr hi))).mono ?_; rintro e w5 ⟨A1, c1, E1, rfl, hb1, he1, ho1⟩; obtain rfl : E1 = .nilIface := (by rcases he1 with ⟨_, h⟩ | ⟨i, a, h, _⟩; exact h; omega); clear he1)
          | (at_builtin; refine step_bytes rfl (.tmp 23) (.tmp 24) rfl w.heap.size _ _ _ (accB (ts.take k)) rfl (own_same (own_only HD.out.row HO4.out (fun q hq hs => by have := (own_lt HD.out.row q hq).2; omega)) ho1.out) HD.out.len A1 M c1 B rfl (hb1.out.src HML.out) (by omega) (by have := ho1.out.size; have := HO4.out.size; omega) ?_; intro A2 c2 w6 hb2 ho2))
        go_roundw
        case rel =>
          refine ⟨k + 1, _, _, _, by omega, by go_num, rfl, ?_⟩
          have e : accB (ts.take (k + 1)) = accB (ts.take k) ++ B := by rw [HS.out, accB_snoc, if_pos HD.out.good, HBt.out]
          refine ⟨by rw [e, List.length_append, ← HD.out.len, ← HML.out], by rw [e]; exact hb2.out, by rw [HS.out, numL_snoc, if_pos HD.out.good]; exact HNum.out.symm, ?_⟩
          exact (((HD.out.only.trans HO4.out (fun i hi => .inr (by omega))).trans ho1.out (fun _ h => h.elim))).trans ho2.out (fun i hi => .inr hi)
        case measure => simp [intOf]; omega
      · have hbs : numL ts = num ∧ allB ts = [] := by
          have e : numL (ts.take (k + 1)) = num := by rw [HS.out, numL_snoc, if_pos HD.out.good]; exact HNum.out.symm
          have e2 := numL_stays (l := ts) (k := k + 1) (by omega)
          exact ⟨e2.trans e, by rw [allB, e2, e, if_neg (by omega)]⟩
        have HBS := Lib.hid hbs
        clear hbs
        go_wp2_with (first
          | ((with_reducible show wpList _ _ _ (⟨some 14, _, _, _, _, _⟩ :: _) _ _); refine wpList_load_mid rfl 48 (.tmp 13) rfl g (off + k * 5) rfl cs _ HRA.out Tryd.underlying48 rfl (by rw [HCL.out]; exact size_tok) ?_)
          | ((with_reducible show wpList _ _ _ (⟨none, .store 48 _ _, _, _, _, _⟩ :: _) _ _); refine step_store rfl 48 _ _ rfl wr.heap.size rfl cs rfl _ (tkCells Tk.none (.slice none 0 0)) (Blk.new _ _ _) (by rw [HCL.out]; exact size_tok) HCL.out.symm HCO.out ?_; intro w4 hB4 hz4 ho4; have HO4 : Hid (Only (fun i => wr.heap.size ≤ i) wr w4) := ((Only.refl (fun i => wr.heap.size ≤ i) wr).alloc _).trans ho4 (fun i hi => .inl (by omega)))
          | ((with_reducible show wpList _ _ _ (⟨some 16, _, _, _, _, _⟩ :: _) _ _); refine wpList_load_mid rfl 48 (.tmp 6) rfl wr.heap.size 0 rfl cs _ (range_of hB4.out) Tryd.underlying48 rfl (by rw [HCL.out]; exact size_tok) ?_)
          | (go_at_call 28; refine (HTok.out w4 (HO4.out.mono (fun i hi => .inr hi))).mono ?_; rintro e w5 ⟨A1, c1, E1, rfl, hb1, he1, ho1⟩; obtain ⟨i, a1, hi, ha1, rfl⟩ : ∃ i a1, num = i + 1 ∧ es[i]? = some a1 ∧ E1 = .iface 88 (.pointer (some a1)) := (by rcases he1 with ⟨h, _⟩ | h; omega; exact h); have HI := Lib.hid hi; clear he1 hi))
        go_ret2
        rw [HBS.out.1, HBS.out.2]
        exact Told.none_ ha1 num HI.out ((HD.out.only.trans HO4.out (fun i hi => .inr (by omega))).trans ho1.out (fun _ h => h.elim))
    · go_wp2
      go_ret2
      obtain rfl : k = n := by omega
      have e : ts.take k = ts := List.take_of_length_le (by rw [HTl.out]; omega)
      have h1 := HD.out.good
      have h2 := HD.out.row
      have h3 := HD.out.len
      rw [e] at h1 h2 h3
      subst h3
      rw [h1, allB, if_pos h1]
      exact ⟨_, _, _, rfl, h2, ErrV.nil _, HD.out.only⟩
end Go.Proofs.YtbjabjkmagekfaaDoor
