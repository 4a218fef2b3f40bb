/- Package table: which numbers are sides and options, of which side a verb speaks, move. -/
import Derived.Test.YtpobglejobgmlaaDoorTb
import Derived.Test.YtpobglejobgmlaaDoorVerb
import Derived.Deep.RegionHeld3
import Derived.BigQuiet
namespace Go.Proofs.YtpobglejobgmlaaDoor
open Go Go.RowKit
set_option maxRecDepth 100000
set_option maxHeartbeats 4000000

theorem isOption_any (W : World) (c : Int) : Calls Tryd.prog 25 #[.int .i64 c] W fun e w' => e = .returned (.bool (decide (0 ≤ c ∧ c ≤ 255))) ∧ w' = W := by
  by_cases h0 : 0 ≤ c <;> by_cases h1 : c < 256
  all_goals
    have d0 : decide ((0 : Int) ≤ c) = decide (0 ≤ c) := rfl
    go_enter Tryd.func25, Tryd.ntmps25
    go_wp2
    go_ret
    refine ⟨?_, rfl⟩
    congr 2
    simp
    try omega
theorem isSide_any (W : World) (c : Int) : Calls Tryd.prog 38 #[.int .i64 c] W fun e w' => e = .returned (.bool (decide (c = 0 ∨ c = 1))) ∧ w' = W := by
  by_cases h0 : 0 ≤ c <;> by_cases h1 : c < 2
  all_goals
    go_enter Tryd.func38, Tryd.ntmps38
    go_wp2
    go_ret
    refine ⟨?_, rfl⟩
    congr 2
    simp
    try omega
theorem own_any (W : World) (c : Int) : Calls Tryd.prog 42 #[.int .i64 c] W fun e w' => e = .returned (.bool (decide (c = 251 ∨ c = 252))) ∧ w' = W := by
  by_cases h1 : c = 251
  · go_enter Tryd.func42, Tryd.ntmps42
    go_wp2
    go_ret
    refine ⟨congrArg (fun b => Ending.returned (Value.bool b)) ?_, rfl⟩
    exact Bool.eq_iff_iff.2 (by simp [h1])
  · go_enter Tryd.func42, Tryd.ntmps42
    go_wp2
    go_ret
    refine ⟨congrArg (fun b => Ending.returned (Value.bool b)) ?_, rfl⟩
    exact Bool.eq_iff_iff.2 (by simp [h1])
theorem for_any (W : World) (c : Int) : Calls Tryd.prog 29 #[.int .i64 c] W fun e w' => e = .returned (.bool (decide (c = 251 ∨ c = 253))) ∧ w' = W := by
  by_cases h1 : c = 251
  · go_enter Tryd.func29, Tryd.ntmps29
    go_wp2
    go_ret
    refine ⟨congrArg (fun b => Ending.returned (Value.bool b)) ?_, rfl⟩
    exact Bool.eq_iff_iff.2 (by simp [h1])
  · go_enter Tryd.func29, Tryd.ntmps29
    go_wp2
    go_ret
    refine ⟨congrArg (fun b => Ending.returned (Value.bool b)) ?_, rfl⟩
    exact Bool.eq_iff_iff.2 (by simp [h1])
theorem sideOf_any (W : World) (v : Nat) (hv : 251 ≤ v ∧ v ≤ 254) : Calls Tryd.prog 27 #[.int .i64 (v : Int)] W fun e w' => e = .returned (.int .i64 (sideV v : Int)) ∧ w' = W := by
  obtain ⟨b, hb⟩ : ∃ b, b = decide ((v : Int) = 251 ∨ (v : Int) = 252) := ⟨_, rfl⟩
  have hs : (sideV v : Int) = if b then 1 else 0 := by
    unfold sideV
    by_cases h : v < 253
    · rw [if_pos h, hb, decide_eq_true (by omega)]; rfl
    · rw [if_neg h, hb, decide_eq_false (by omega)]; rfl
  have HO := own_any W (v : Int)
  rw [← hb] at HO
  rw [hs]
  clear hb hs
  cases b
  all_goals
    go_enter Tryd.func27, Tryd.ntmps27
    go_wp2_with (go_at_call 42; refine HO.mono ?_; rintro e w' ⟨rfl, rfl⟩)
    go_ret
    exact ⟨rfl, rfl⟩

/-- The verbs that are sent. -/
def verbsC : List Value := [.int .i64 0, .int .i64 251, .int .i64 252, .int .i64 0, .int .i64 253, .int .i64 254]
def VerbsAt (W : World) : Prop := W.rangeAt 3 0 verbsC
theorem VerbsAt.only {W W' : World} (h : VerbsAt W) (ho : Only (fun _ => False) W W') : VerbsAt W' := fun j v hj => ho.cellv (h j v hj) (fun h => h)
theorem VerbsAt.at_ {W : World} (h : VerbsAt W) {s k : Nat} (hs : s < 2) (hk : k ≤ 2) : W.cell? ⟨3, s * 3 + k, none⟩ = some (.int .i64 (toldV s k : Int)) := by
  have := h (s * 3 + k) (.int .i64 (toldV s k : Int)) (by
    rcases s with _ | _ | s
    · rcases k with _ | _ | _ | k
      · rfl
      · rfl
      · rfl
      · omega
    · rcases k with _ | _ | _ | k
      · rfl
      · rfl
      · rfl
      · omega
    · omega)
  rwa [Nat.zero_add] at this

theorem move_any {W : World} (hV : VerbsAt W) {p : Nat} {ag : Nat → Nat → Bool} {t : Tb} (h : TbAt W p ag t) {s o : Nat} (hs : s < 2) (ho : o < 256) (q : Qs) (k : Nat) (hk : k ≤ 2) (b : Bool) (hn : t.sent ≤ 1000000) :
    Calls Tryd.prog 30 #[.pointer (some ⟨p, 0, none⟩), .int .i64 (s : Int), .int .i64 (o : Int), .agg #[.int .i64 (q.kind : Int), .bool q.opp, .int .i64 (k : Int), .bool b]] W fun e w' =>
      e = .returned (.int .i64 (toldV s k : Int)) ∧ TbAt w' p ag { t with st := setQ t.st s o q, sent := t.sent + sentN k } ∧ Only (· = p) W w' := by
  obtain ⟨cs, hB, hC⟩ := h
  have HB := Lib.hid hB
  have HC := Lib.hid hC
  have HV := Lib.hid hV
  have hp := hB.lt
  obtain ⟨sk, hsk⟩ : ∃ sk, sk = (q.kind : Int) := ⟨_, rfl⟩
  obtain ⟨so, hso⟩ : ∃ so, so = q.opp := ⟨_, rfl⟩
  have HSK := Lib.hid hsk
  have HSO := Lib.hid hso
  have hs2 : (s : Int) < 2 := by omega
  have ho2 : (o : Int) < 256 := by omega
  rw [← hsk, ← hso]
  clear hV hB hC hsk hso
  go_enter Tryd.func30, Tryd.ntmps30
  go_wp2
  refine region_tail 9 (by kernel_rfl) (by kernel_rfl) ?_
  simp only [List.take_succ_cons, List.take_zero, List.drop_succ_cons, List.drop_zero]
  repeat still_step
  refine wpStill_nil ?_
  refine step_store2 rfl 53 _ _ rfl p (s * 512 + o * 2) rfl (.int .i64 sk) (.bool so) rfl _ cs ((HB.out.alloc _).drew) (by rw [HC.out.len]; omega) size_state rfl rfl ?_
  intro w4 hB4 hz4 ho4
  have HC4 := Lib.hid (HSO.out ▸ HSK.out ▸ HC.out.setSt hs ho rfl q)
  have HO4 := Lib.hid ((((Only.refl (· = p) W).alloc (.cells #[.int .i64 sk, .bool so, .int .i64 (k : Int), .bool b] 81)).drew).trans ho4 (fun i hi => .inl hi))
  have hx4 : w4.cell? ⟨W.heap.size, 2, none⟩ = some (.int .i64 (k : Int)) := ((Blk.new W 81 [.int .i64 sk, .bool so, .int .i64 (k : Int), .bool b]).drew.only ho4 (by omega)).cell 2
  obtain ⟨z, hz⟩ : ∃ z, z = (toldV s k : Int) := ⟨_, rfl⟩
  have hgp : 3 ≠ p := fun e => by
    have h3 := HC.out.opp 1 0 0 (by omega) (by omega) rfl
    have h4 : W.cell? ⟨3, 1, none⟩ = some (.int .i64 (toldV 0 1 : Int)) := HV.out.at_ (s := 0) (k := 1) (by omega) (by omega)
    rw [e, HB.out.cell, h3] at h4
    cases h4
  have hv4 : w4.cell? ⟨3, s * 3 + k, none⟩ = some (.int .i64 z) := by
    rw [hz]
    exact HO4.out.cellv (HV.out.at_ hs hk) hgp
  have c38 : w4.cell? ⟨p, 1538, none⟩ = some (.int .i64 (t.sent : Int)) := by
    rw [hB4.out.cell]
    exact HC4.out.sent
  have f38 := hB4.out.frozen 1538
  have hk3 : (k : Int) < 3 := by omega
  obtain ⟨n, hnn⟩ : ∃ n, n = t.sent := ⟨_, rfl⟩
  rw [← hnn] at c38 hn
  have HN := Lib.hid hnn
  have HZ := Lib.hid hz
  clear ho4 hz4 hz hnn
  by_cases hk0 : k = 0
  · have hz0 : (z != 0) = false := by rw [HZ.out]; unfold toldV; rw [if_pos hk0]; rfl
    have HK0 := Lib.hid hk0
    clear hk0
    go_wp2
    go_quiet (fail)
    go_wp2
    go_ret
    refine ⟨by rw [HZ.out]; rfl, ⟨_, hB4.out.drewN _, ?_⟩, HO4.out.drewN _⟩
    have e : sentN k = 0 := by unfold sentN; rw [if_pos HK0.out]
    rw [e]
    exact HC4.out
  · have hz0 : (z != 0) = true := by rw [HZ.out]; unfold toldV; rw [if_neg hk0]; simp; omega
    have HK0 := Lib.hid hk0
    clear hk0
    go_wp2
    go_quiet (fail)
    go_wp2
    go_ret
    have e : sentN k = 1 := by unfold sentN; rw [if_neg HK0.out]
    refine ⟨by rw [HZ.out]; rfl, ⟨_, (hB4.out.drewN _).setCell 1538 _, ?_⟩, (HO4.out.drewN _).setCell (.inl rfl) _⟩
    rw [e, ← HN.out]
    have := HC4.out.setSent (n + 1)
    exact this
end Go.Proofs.YtpobglejobgmlaaDoor
