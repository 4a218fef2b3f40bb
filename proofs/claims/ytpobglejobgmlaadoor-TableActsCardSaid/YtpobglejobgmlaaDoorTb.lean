/- Package table: a table's cells: the states, what is agreed to, the counts. -/
import Derived.Test.YtpobglejobgmlaaDoorQsAsk
import Derived.Test.YtpobglejobgmlaaDoorMid
import Derived.Test.YtpobglejobgmlaaDoorTbSay
namespace Go.Proofs.YtpobglejobgmlaaDoor
open Go Go.RowKit
set_option maxRecDepth 100000
set_option maxHeartbeats 4000000

/-- A table's cells. -/
structure TbC (cs : List Value) (ag : Nat → Nat → Bool) (t : Tb) : Prop where
  len : cs.length = 1539
  kind : ∀ i s o, s < 2 → o < 256 → i = s * 512 + o * 2 → cs[i]? = some (.int .i64 ((t.st s o).kind : Int))
  opp : ∀ i s o, s < 2 → o < 256 → i = s * 512 + o * 2 + 1 → cs[i]? = some (.bool (t.st s o).opp)
  agr : ∀ i s o, s < 2 → o < 256 → i = 1024 + (s * 256 + o) → cs[i]? = some (.bool (ag s o))
  heard : cs[1536]? = some (.int .i64 (t.heard : Int))
  asked : cs[1537]? = some (.int .i64 (t.asked : Int))
  sent : cs[1538]? = some (.int .i64 (t.sent : Int))

def tb0 : List Value := ((List.range 1024).map fun i => if i % 2 = 0 then Value.int .i64 0 else .bool false) ++ (List.replicate 512 (Value.bool false) ++ [.int .i64 0, .int .i64 0, .int .i64 0])
theorem tb0_length : tb0.length = 1539 := by simp [tb0]
theorem tb0_one : ∀ v ∈ tb0, v.oneCell' = true := by
  intro v hv
  simp only [tb0, List.mem_append, List.mem_map, List.mem_replicate, List.mem_cons, List.not_mem_nil, or_false] at hv
  rcases hv with ⟨i, _, rfl⟩ | ⟨_, rfl⟩ | rfl | rfl | rfl
  · split <;> rfl
  all_goals rfl
theorem tb0_c : TbC tb0 (fun _ _ => false) Tb.zero := by
  refine ⟨tb0_length, fun i s o hs ho hi => ?_, fun i s o hs ho hi => ?_, fun i s o hs ho hi => ?_, ?_, ?_, ?_⟩
  · rw [tb0, List.getElem?_append_left (by simp; omega), List.getElem?_map, List.getElem?_range (by omega)]
    simp only [Option.map_some]
    rw [if_pos (by omega)]
    rfl
  · rw [tb0, List.getElem?_append_left (by simp; omega), List.getElem?_map, List.getElem?_range (by omega)]
    simp only [Option.map_some]
    rw [if_neg (by omega)]
    rfl
  · rw [tb0, List.getElem?_append_right (by simp; omega), List.getElem?_append_left (by simp; omega), List.getElem?_replicate, if_pos (by simp; omega)]
  · rw [tb0, List.getElem?_append_right (by simp), List.getElem?_append_right (by simp)]; simp; rfl
  · rw [tb0, List.getElem?_append_right (by simp), List.getElem?_append_right (by simp)]; simp; rfl
  · rw [tb0, List.getElem?_append_right (by simp), List.getElem?_append_right (by simp)]; simp; rfl

theorem set2_eq (cs : List Value) (i : Nat) (a b : Value) (h : i + 1 < cs.length) : cs.take i ++ ([a, b] ++ cs.drop (i + 2)) = (cs.set i a).set (i + 1) b := by
  apply List.ext_getElem?
  intro j
  rw [List.getElem?_set, List.getElem?_set]
  rcases Nat.lt_trichotomy j i with hj | rfl | hj
  · rw [List.getElem?_append_left (by simp; omega), List.getElem?_take, if_pos hj, if_neg (by omega), if_neg (by omega)]
  · rw [List.getElem?_append_right (by simp; omega), if_neg (by omega)]
    simp [Nat.min_eq_left (Nat.le_of_lt (Nat.lt_of_succ_lt h)), Nat.lt_of_succ_lt h]
  · rw [List.getElem?_append_right (by simp; omega)]
    have hm : (cs.take i).length = i := by rw [List.length_take]; omega
    rw [hm]
    rcases Nat.lt_or_ge j (i + 2) with h2 | h2
    · obtain rfl : j = i + 1 := by omega
      rw [if_pos rfl, if_pos (by simp; omega)]
      simp
    · rw [if_neg (by omega), if_neg (by omega), List.getElem?_append_right (by simp; omega), List.getElem?_drop]
      congr 1
      simp
      omega
section
variable {cs : List Value} {ag : Nat → Nat → Bool} {t : Tb}
theorem TbC.setSt (h : TbC cs ag t) {s o i : Nat} (hs : s < 2) (ho : o < 256) (hi : i = s * 512 + o * 2) (q : Qs) :
    TbC (cs.take i ++ ([.int .i64 (q.kind : Int), .bool q.opp] ++ cs.drop (i + 2))) ag { t with st := setQ t.st s o q } := by
  have hl := h.len
  rw [set2_eq _ _ _ _ (by omega)]
  have key : ∀ j, (j ≠ i ∧ j ≠ i + 1) → ((cs.set i (.int .i64 (q.kind : Int))).set (i + 1) (.bool q.opp))[j]? = cs[j]? := fun j hj => by
    rw [List.getElem?_set_ne (by omega), List.getElem?_set_ne (by omega)]
  have k0 : ((cs.set i (.int .i64 (q.kind : Int))).set (i + 1) (.bool q.opp))[i]? = some (.int .i64 (q.kind : Int)) := by
    rw [List.getElem?_set_ne (by omega), List.getElem?_set_self (by omega)]
  have k1 : ((cs.set i (.int .i64 (q.kind : Int))).set (i + 1) (.bool q.opp))[i + 1]? = some (.bool q.opp) := by
    rw [List.getElem?_set_self (by simp; omega)]
  refine ⟨by simp [hl], fun j s' o' hs' ho' hj => ?_, fun j s' o' hs' ho' hj => ?_, fun j s' o' hs' ho' hj => ?_, ?_, ?_, ?_⟩
  · show _ = some (Value.int .i64 ((setQ t.st s o q s' o').kind : Int))
    unfold setQ
    by_cases e : s' = s ∧ o' = o
    · rw [if_pos e]
      obtain rfl : j = i := by obtain ⟨rfl, rfl⟩ := e; omega
      exact k0
    · rw [if_neg e, key j (by omega)]
      exact h.kind j s' o' hs' ho' hj
  · show _ = some (Value.bool (setQ t.st s o q s' o').opp)
    unfold setQ
    by_cases e : s' = s ∧ o' = o
    · rw [if_pos e]
      obtain rfl : j = i + 1 := by obtain ⟨rfl, rfl⟩ := e; omega
      exact k1
    · rw [if_neg e, key j (by omega)]
      exact h.opp j s' o' hs' ho' hj
  · rw [key j (by omega)]; exact h.agr j s' o' hs' ho' hj
  · rw [key _ (by omega)]; exact h.heard
  · rw [key _ (by omega)]; exact h.asked
  · rw [key _ (by omega)]; exact h.sent
theorem TbC.setAg (h : TbC cs ag t) {s o i : Nat} (hs : s < 2) (ho : o < 256) (hi : i = 1024 + (s * 256 + o)) (b : Bool) :
    TbC (cs.set i (.bool b)) (fun x y => if x = s ∧ y = o then b else ag x y) t := by
  have hl := h.len
  have key : ∀ j, j ≠ i → (cs.set i (.bool b))[j]? = cs[j]? := fun j hj => List.getElem?_set_ne (by omega)
  refine ⟨by simp [hl], fun j s' o' hs' ho' hj => ?_, fun j s' o' hs' ho' hj => ?_, fun j s' o' hs' ho' hj => ?_, ?_, ?_, ?_⟩
  · rw [key j (by omega)]; exact h.kind j s' o' hs' ho' hj
  · rw [key j (by omega)]; exact h.opp j s' o' hs' ho' hj
  · by_cases e : s' = s ∧ o' = o
    · rw [if_pos e]
      obtain rfl : j = i := by obtain ⟨rfl, rfl⟩ := e; omega
      rw [List.getElem?_set_self (by omega)]
    · rw [if_neg e, key j (by omega)]; exact h.agr j s' o' hs' ho' hj
  · rw [key _ (by omega)]; exact h.heard
  · rw [key _ (by omega)]; exact h.asked
  · rw [key _ (by omega)]; exact h.sent
theorem TbC.setHeard (h : TbC cs ag t) (n : Nat) : TbC (cs.set 1536 (.int .i64 (n : Int))) ag { t with heard := n } := by
  have hl := h.len
  have key : ∀ j, j ≠ 1536 → (cs.set 1536 (.int .i64 (n : Int)))[j]? = cs[j]? := fun j hj => List.getElem?_set_ne (by omega)
  refine ⟨by simp [hl], fun j s' o' hs' ho' hj => ?_, fun j s' o' hs' ho' hj => ?_, fun j s' o' hs' ho' hj => ?_, List.getElem?_set_self (by omega), ?_, ?_⟩
  · rw [key j (by omega)]; exact h.kind j s' o' hs' ho' hj
  · rw [key j (by omega)]; exact h.opp j s' o' hs' ho' hj
  · rw [key j (by omega)]; exact h.agr j s' o' hs' ho' hj
  · rw [key _ (by omega)]; exact h.asked
  · rw [key _ (by omega)]; exact h.sent
theorem TbC.setAsked (h : TbC cs ag t) (n : Nat) : TbC (cs.set 1537 (.int .i64 (n : Int))) ag { t with asked := n } := by
  have hl := h.len
  have key : ∀ j, j ≠ 1537 → (cs.set 1537 (.int .i64 (n : Int)))[j]? = cs[j]? := fun j hj => List.getElem?_set_ne (by omega)
  refine ⟨by simp [hl], fun j s' o' hs' ho' hj => ?_, fun j s' o' hs' ho' hj => ?_, fun j s' o' hs' ho' hj => ?_, ?_, List.getElem?_set_self (by omega), ?_⟩
  · rw [key j (by omega)]; exact h.kind j s' o' hs' ho' hj
  · rw [key j (by omega)]; exact h.opp j s' o' hs' ho' hj
  · rw [key j (by omega)]; exact h.agr j s' o' hs' ho' hj
  · rw [key _ (by omega)]; exact h.heard
  · rw [key _ (by omega)]; exact h.sent
theorem TbC.setSent (h : TbC cs ag t) (n : Nat) : TbC (cs.set 1538 (.int .i64 (n : Int))) ag { t with sent := n } := by
  have hl := h.len
  have key : ∀ j, j ≠ 1538 → (cs.set 1538 (.int .i64 (n : Int)))[j]? = cs[j]? := fun j hj => List.getElem?_set_ne (by omega)
  refine ⟨by simp [hl], fun j s' o' hs' ho' hj => ?_, fun j s' o' hs' ho' hj => ?_, fun j s' o' hs' ho' hj => ?_, ?_, ?_, List.getElem?_set_self (by omega)⟩
  · rw [key j (by omega)]; exact h.kind j s' o' hs' ho' hj
  · rw [key j (by omega)]; exact h.opp j s' o' hs' ho' hj
  · rw [key j (by omega)]; exact h.agr j s' o' hs' ho' hj
  · rw [key _ (by omega)]; exact h.heard
  · rw [key _ (by omega)]; exact h.asked
end

/-- A table that lies in block p. -/
def TbAt (w : World) (p : Nat) (ag : Nat → Nat → Bool) (t : Tb) : Prop := ∃ cs, Blk w p 76 cs ∧ TbC cs ag t
section
variable {w w' : World} {p : Nat} {ag : Nat → Nat → Bool} {t : Tb}
theorem TbAt.lt (h : TbAt w p ag t) : p < w.heap.size := by obtain ⟨cs, h, _⟩ := h; exact h.lt
theorem TbAt.only {S : Nat → Prop} (h : TbAt w p ag t) (ho : Only S w w') (hS : ¬ S p) : TbAt w' p ag t := by
  obtain ⟨cs, h, hc⟩ := h
  exact ⟨cs, h.only ho hS, hc⟩
theorem TbAt.same (h : TbAt w p ag t) (ho : Only (fun _ => False) w w') : TbAt w' p ag t := h.only ho (fun h => h)
end
/-- A state's cells, where they lie. -/
theorem st_range {w : World} {p : Nat} {cs : List Value} {ag : Nat → Nat → Bool} {t : Tb} (h : Blk w p 76 cs) (hc : TbC cs ag t) {s o i : Nat} (hs : s < 2) (ho : o < 256) (hi : i = s * 512 + o * 2) : w.rangeAt p i (qsC (t.st s o)) := by
  intro j v hj
  rw [h.cell]
  rcases j with _ | _ | j
  · rw [← hj, Nat.add_zero, hc.kind i s o hs ho hi]; rfl
  · rw [← hj, hc.opp (i + 1) s o hs ho (by omega)]; rfl
  · simp [qsC] at hj

theorem zero_table : (Tryd.prog.info? 76).map (fun i => (i.zero, i.size)) = some (some (.agg tb0.toArray), 1539) := by kernel_rfl
theorem built_table : Tryd.prog.built 76 [] = some tb0.toArray := by
  unfold Program.built
  have h := zero_table
  cases hi : Tryd.prog.info? 76 with
  | none => rw [hi] at h; cases h
  | some i =>
    rw [hi] at h
    simp only [Option.map_some, Option.some.injEq, Prod.mk.injEq] at h
    simp only [Tryd.underlying76, h.1]
    rfl

section
variable {P : Program} {ops : Array Oper} {rest : List Oper} {o : Oper} {a : Act} {w : World} {Q : Exit → Act → World → Prop}
/-- &T{}: a new variable that holds so many cells. -/
theorem step_box (hgd : o.guard = none) (t : TypeId) (x : Operand) (ho : o.op = .box t x) (cells : List Value) (hx : a.eval x = .agg cells.toArray)
    (h : wpList P ops Q rest (a.put o.dst (.pointer (some ⟨w.heap.size, 0, none⟩))) (w.alloc (.cells cells.toArray t))) : wpList P ops Q (o :: rest) a w := by
  refine wpList_plain hgd fun K hK => ?_
  unfold Oper.wp execOp
  simp only [ho, hx, Sem.run_bind, Instr.box, newVar, newRow, run_newObj_alloc, Sem.run_pure, Result.andThen_ok]
  exact hK _ _ h
/-- Two cells are stored into a block known whole. -/
theorem step_store2 (hgd : o.guard = none) (ty : TypeId) (x y : Operand) (ho : o.op = .store ty x y) (g mo : Nat) (hx : a.eval x = .pointer (some ⟨g, mo, none⟩)) (u v : Value) (hy : a.eval y = .agg #[u, v])
    (t : TypeId) (cs : List Value) (hg : Blk w g t cs) (hl : mo + 1 < cs.length) (hi : (P.info? ty).map (·.size) = some 2) (hu : u.oneCell' = true) (hv : v.oneCell' = true)
    (h : ∀ w', Hid (Blk w' g t (cs.take mo ++ ([u, v] ++ cs.drop (mo + 2)))) → Hid (w'.heap.size = w.heap.size) → Only (· = g) w w' → wpList P ops Q rest (a.put o.dst undef) w') : wpList P ops Q (o :: rest) a w := by
  have e : cs = cs.take mo ++ ((cs.drop mo).take 2 ++ cs.drop (mo + 2)) := by
    rw [← List.drop_drop, List.take_append_drop, List.take_append_drop]
  rw [e] at hg
  exact step_storeM hgd ty x y ho g mo hx [u, v] hy t (cs.take mo) ((cs.drop mo).take 2) (cs.drop (mo + 2)) hg (by rw [List.length_take]; omega) hi (by simp; omega) (fun z hz => by simp at hz; rcases hz with rfl | rfl <;> assumption) h
end
end Go.Proofs.YtpobglejobgmlaaDoor
