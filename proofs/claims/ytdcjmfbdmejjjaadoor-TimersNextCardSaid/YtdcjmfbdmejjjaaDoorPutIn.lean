/- Package timers: putIn. -/
import Derived.Test.YtdcjmfbdmejjjaaDoorTimers
namespace Go.Proofs.YtdcjmfbdmejjjaaDoor
open Go Go.RowKit

theorem keep4 {w W W' : World} {a c d : Addr} {v0 v2 v3 : Value} (h : W.cell? a = some v0 ∧ W.cell? c = some v2 ∧ W.cell? d = some v3 ∧ Hid (Only (fun _ => False) w W)) (ho : Only (fun _ => False) W W') :
    W'.cell? a = some v0 ∧ W'.cell? c = some v2 ∧ W'.cell? d = some v3 ∧ Hid (Only (fun _ => False) w W') :=
  ⟨ho.cellv h.1 (fun h => h), ho.cellv h.2.1 (fun h => h), ho.cellv h.2.2.1 (fun h => h), h.2.2.2.out.trans ho (fun _ h => h.elim)⟩

/-- What a timer put in comes to. -/
def PutIn (B : Nat) (w : World) (p : Nat) (now : Int) (old : Option Nat) (ts : List Tm) (y : Tm) (e : Ending) (w' : World) : Prop :=
  ∃ i A c, e = .returned (.tuple #[]) ∧ i ≤ ts.length ∧ (∀ (j : Nat) (x : Tm), j < i → ts[j]? = some x → cmpTm x y < 0) ∧ (∀ (j : Nat) (x : Tm), i ≤ j → ts[j]? = some x → 0 ≤ cmpTm x y) ∧
    IsTm B w' p now A c (ts.take i ++ y :: ts.drop i) ∧ Only (fun k => k = p ∨ old = some k) w w'

set_option maxHeartbeats 1000000 in
theorem putIn_any {B p c : Nat} {w : World} {now : Int} {A : Option Addr} {ts : List Tm} (h : IsTm B w p now A c ts) (hB : B ≤ w.heap.size) (y1 y2 : Int) (hn : ts.length < 16)
    (hmono : ∀ (i j : Nat) (x z : Tm), i ≤ j → ts[i]? = some x → ts[j]? = some z → cmpTm z (y1, y2) < 0 → cmpTm x (y1, y2) < 0) :
    Calls Tryd.prog 27 #[.pointer (some ⟨p, 0, none⟩), .agg #[.int .i64 y1, .int .i64 y2]] w (PutIn B w p now (Value.slice A ts.length c).ownBlock ts (y1, y2)) := by
  have c1 := h.c1
  have hp := h.head.lt
  have HH := Lib.hid h
  have HM := Lib.hid hmono
  clear h hmono
  obtain ⟨n, hn'⟩ : ∃ n, n = ts.length := ⟨_, rfl⟩
  rw [← hn'] at c1 hn ⊢
  have HN := Lib.hid hn'
  clear hn'
  go_enter Tryd.func27, Tryd.ntmps27
  have hA := Lib.hid ((Only.refl (fun _ => False) w).alloc (.cells #[.int .i64 y1, .int .i64 y2] 59))
  have hBx := Lib.hid (Blk.new w 59 [.int .i64 y1, .int .i64 y2])
  have c1' := hA.out.cellv c1 (fun h => h)
  have b0 := hBx.out.cell 0
  have b1 := hBx.out.cell 1
  go_wp2_with fail
  clear c1
  generalize hW1 : w.alloc (.cells #[.int .i64 y1, .int .i64 y2] 59) = w1 at *
  have HW1 := Lib.hid hW1
  have b0 : w1.cell? ⟨w.heap.size, 0, none⟩ = some (.int .i64 y1) := b0
  have b1 : w1.cell? ⟨w.heap.size, 1, none⟩ = some (.int .i64 y2) := b1
  clear hW1
  go_region_held3 (fun W => W.cell? ⟨p, 1, none⟩ = some (.slice A n c) ∧ W.cell? ⟨w.heap.size, 0, none⟩ = some (.int .i64 y1) ∧ W.cell? ⟨w.heap.size, 1, none⟩ = some (.int .i64 y2) ∧ Hid (Only (fun _ => False) w W))
    (first | exact ⟨c1', b0, b1, hA.out.drew⟩ | exact hK)
    ((go_at_call 33; refine (bsearch_any (B := B) (ts := ts) ?_ y1 y2 (by omega) HM.out).mono ?_; (rw [HN.out]; exact own_same HH.out.row (by first | exact hA.out.drew | assumption)); rintro e w' ⟨i, bb, rfl, hi, hlo, hhi, ho'⟩; have HI := Lib.hid (And.intro hi (And.intro hlo hhi)); clear hi hlo hhi; have hK := keep4 (by first | exact ⟨c1', b0, b1, hA.out.drew⟩ | assumption) ho'))
  go_wp2_with fail
  obtain ⟨k0, k1, k2, HO⟩ := hK
  obtain ⟨hi, hlo, hhi⟩ := HI.out
  have hrow := own_same HH.out.row HO.out
  rw [← HN.out] at hrow
  have hC := insert_any (w := (w'.alloc (.cells #[.int .i64 y1, .int .i64 y2] 59)).drew) (B := B) (ts := ts) (hrow.alloc _).drew (by have := HO.out.size; simp; omega) i (by rw [HN.out]; exact hi) (y1, y2) w'.heap.size (Blk.new w'.drew 59 [.int .i64 y1, .int .i64 y2]) (by omega)
    (fun e => by have := (own_lt hrow _ e).2; omega)
  obtain ⟨tn, htn⟩ : ∃ tn, tn = ts.take i ++ (y1, y2) :: ts.drop i := ⟨_, rfl⟩
  rw [← htn] at hC
  have HTN := Lib.hid htn
  have HC := Lib.hid hC
  have Hlo := Lib.hid hlo
  have Hhi := Lib.hid hhi
  have Hrow := Lib.hid hrow
  have hin : i ≤ n := by rw [HN.out]; exact hi
  have hpB := HH.out.head.only HO.out (fun h => h)
  rw [← HN.out] at hpB
  have HpB := Lib.hid hpB
  have hfz := hpB.frozen 1
  have kal := (hpB.alloc (.cells #[.int .i64 y1, .int .i64 y2] 59)).cell 1
  have kal : (w'.alloc (.cells #[.int .i64 y1, .int .i64 y2] 59)).cell? ⟨p, 1, none⟩ = some (.slice A n c) := kal
  clear htn hC hlo hhi hi hrow hpB HM HI c1' b0 b1 ho' hA hBx
  go_region_law (go_simp; go_at_call 35; (with_reducible refine HC.out.mono ?_); rintro e w2 ⟨A2, c2, rfl, hown2, hgr2⟩; have HW2 := Lib.hid ((HpB.out.alloc (.cells #[.int .i64 y1, .int .i64 y2] 59)).drew); have hB2 : Blk w2 p 53 [.int .i64 now, .slice A n c] := (hgr2.block p (by have := HpB.out.lt; simp; omega) (fun e => by have := own_ne Hrow.out HpB.out (by decide) p e.symm; omega)).trans HW2.out; have hfz2 := hB2.frozen 1; have hc2 : w2.cell? ⟨p, 1, none⟩ = some (.slice A n c) := (by rw [hB2.cell 1]; rfl); have Hown2 := Lib.hid hown2; have Hgr2 := Lib.hid hgr2; have HB2 := Lib.hid hB2; clear hown2 hgr2 hB2)
  all_goals
    go_wp2
    refine bodyPost_ret (v := .tuple #[]) (by simp [results, Tryd.results27, go_sem]) rfl ?_
    have hset := ((((Only.mono HO.out (T := fun k => k = p ∨ (Value.slice A n c).ownBlock = some k) (fun _ h => h.elim)).alloc (.cells #[.int .i64 y1, .int .i64 y2] 59)).drew).grown Hgr2.out (fun k hk => .inl (.inr hk))).setCell (p := ⟨p, 1, none⟩) (.inl (.inl rfl)) (.slice A2 tn.length c2)
    have hll : tn.length = n + 1 := by rw [HTN.out, List.length_append, List.length_cons, List.length_take, List.length_drop, ← HN.out]; omega
    refine ⟨i, A2, c2, rfl, by rw [← HN.out]; exact hin, Hlo.out, Hhi.out, HTN.out ▸ ⟨HB2.out.setCell 1 _, own_only Hown2.out ((Only.refl (· = p) w2).setCell (p := ⟨p, 1, none⟩) (.inl rfl) _) (fun q hq => own_ne Hown2.out HB2.out (by decide) q hq), by rw [hll]; omega⟩, hset⟩
end Go.Proofs.YtdcjmfbdmejjjaaDoor
