
/- 'return T{}, err': a region that draws its order and stores a struct's zero into the result, and loads an error. -/
import Derived.Test.YtlmkpembccehkaaGreatDoorAlloc
import Derived.Deep.RegionHeld3
namespace Go.Proofs.YtlmkpembccehkaaGreatDoor
open Go Go.RowKit

/-- A region of four operations: a struct's value, the load of a variable of one cell, the store of that value, a slot for what was loaded. -/
theorem wp_refuse {P : Program} {id : Nat} {o0 o1 o2 o3 : Oper} {a : Act} {w : World} {Q : Exit → Act → World → Prop} (T E : TypeId) (x : Operand) (g rx r0 r1 : Nat) (N : Nat) (v : Value) (zero : List Value)
    (hm : P.follows .mixedOrders = true)
    (n0 : o0.guard = none) (n1 : o1.guard = none) (n2 : o2.guard = none) (n3 : o3.guard = none)
    (e0 : o0.op = .build T #[]) (d0 : o0.dst = some r0) (e1 : o1.op = .load E x) (d1 : o1.dst = some r1) (e2 : o2.op = .store T (.tmp rx) (.tmp r0)) (e3 : o3.op = .assign (.tmp r1))
    (hs : Region.noSelect #[o0, o1, o2, o3] = true) (f0 : Region.free .any #[o0, o1, o2, o3] #[false, false, false, false] 0 = true) (c0 : (Region.ready .any #[o0, o1, o2, o3] #[false, false, false, false]).contains 0 = true)
    (f1 : Region.free .any #[o0, o1, o2, o3] #[true, false, false, false] 1 = true) (c1 : (Region.ready .any #[o0, o1, o2, o3] #[true, false, false, false]).contains 1 = true)
    (c2 : Region.ready .any #[o0, o1, o2, o3] #[true, true, false, false] = [2]) (c3 : Region.ready .any #[o0, o1, o2, o3] #[true, true, true, false] = [3]) (c4 : Region.ready .any #[o0, o1, o2, o3] #[true, true, true, true] = [])
    (hbt : P.built T [] = some zero.toArray) (hi : (P.info? T).map (·.size) = some zero.length) (h1 : ∀ v ∈ zero, v.oneCell' = true)
    (hl : ∀ W : World, W.cell? ⟨g, 0, none⟩ = some v → (Instr.loadAt E (.pointer (some ⟨g, 0, none⟩))).run P W = .ok v W)
    (hx : ((a.put (some r0) (.agg zero.toArray))).eval x = .pointer (some ⟨g, 0, none⟩)) (hc : w.cell? ⟨g, 0, none⟩ = some v)
    (hr0 : ((a.put (some r0) (.agg zero.toArray)).put (some r1) v).eval (.tmp r0) = .agg zero.toArray) (hrx : ((a.put (some r0) (.agg zero.toArray)).put (some r1) v).eval (.tmp rx) = .pointer (some ⟨N, 0, none⟩))
    (hr1 : (((a.put (some r0) (.agg zero.toArray)).put (some r1) v).put o2.dst undef).eval (.tmp r1) = v)
    {old : List Value} {t : TypeId} (hb : Blk w N t old) (hold : old.length = zero.length) (hne : g ≠ N)
    (h : ∀ W', Hid (Blk W' N t zero) → Hid (Only (· = N) w W') → Q .normal ((((a.put (some r0) (.agg zero.toArray)).put (some r1) v).put o2.dst undef).put o3.dst v) W') :
    (Code.region id #[o0, o1, o2, o3] true).wp P Q a w := by
  refine wp_region_noPanic ?_
  refine wp_region_held_drew (S := fun W => W.cell? ⟨g, 0, none⟩ = some v) hm hc (fun hHeld => ?_)
  refine wpAnyH_take (fuel := 3) (i := 0) (oi := o0) (v := .agg zero.toArray) rfl hs f0 c0 (fun _ _ _ h => h) (.inl ⟨by unfold Region.wanted; rw [n0], fun W hW => ?_⟩) hHeld ?_
  · unfold execOp
    simp only [e0, Sem.run_bind, Array.map_empty, run_build W T #[] zero.toArray hbt, Result.andThen_ok]
    rfl
  rw [d0]
  refine wpAnyH_take (fuel := 2) (i := 1) (oi := o1) (v := v) rfl hs f1 c1 (fun _ _ _ h => h) (.inl ⟨by unfold Region.wanted; rw [n1], fun W hW => ?_⟩) hHeld ?_
  · unfold execOp
    simp only [e1, hx, Sem.run_bind, hl W hW, Result.andThen_ok]
    rfl
  rw [d1]
  refine wpAnyH_ready (fuel := 1) (rs := [2]) c2 (by simp) ?_
  refine AllReadyH.cons (o := o2) rfl (fun K hK => ?_) AllReadyH.nil
  refine step_storeR T (.tmp rx) (.tmp r0) e2 (by unfold Region.wanted; rw [n2]) N hrx zero hr0 t old hb.drew hi hold h1 ?_
  intro W5 hB5 hz5 ho5
  refine hK.out _ _ (ho5.cellv hc hne) (fun hHeld => ?_)
  refine wpAnyH_ready (fuel := 0) (rs := [3]) c3 (by simp) ?_
  refine AllReadyH.cons (o := o3) rfl (fun K' hK' => ?_) AllReadyH.nil
  rw [if_pos (by unfold Region.wanted; rw [n3])]
  unfold Oper.wp execOp
  simp only [e3, hr1, Sem.run_pure]
  refine hK'.out _ _ hHeld (fun _ => wpAnyH_done c4 (NoPanic.normal (h W5 hB5 ?_)) _)
  exact ((Only.refl (· = N) w).drew).trans ho5 (fun i hi => .inl hi)
/-- An error that a variable holds, loaded. -/
theorem load_err {g : Nat} {u : TypeId} {x : Value} (W : World) (h : W.cell? ⟨g, 0, none⟩ = some (.iface u x)) : (Instr.loadAt 34 (.pointer (some ⟨g, 0, none⟩))).run Tryz.prog W = .ok (.iface u x) W := by
  simp [Instr.loadAt, Instr.sureAddr, go_sem, h]
end Go.Proofs.YtlmkpembccehkaaGreatDoor
