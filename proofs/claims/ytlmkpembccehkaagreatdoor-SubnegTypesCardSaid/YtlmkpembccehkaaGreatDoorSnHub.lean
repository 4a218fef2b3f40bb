/- A hub in memory: its cells, and what it has at each place. -/
import Derived.Test.YtlmkpembccehkaaGreatDoorSnIn
import Derived.Test.YtlmkpembccehkaaGreatDoorTtAll
import Derived.Test.YtlmkpembccehkaaGreatDoorScAll
namespace Go.Proofs.YtlmkpembccehkaaGreatDoor
open Go Go.RowKit
set_option maxRecDepth 100000
set_option maxHeartbeats 4000000

/-- A hub's fields. -/
structure Hb where
  sz : Value
  ca : Value
  ck : Int
  ho : Value
  can : Int
  pc : Int
  pr : Int
  li : Ls
  rep : Value
  sd : List Value
  hm : Int
  hw : Bool
  tc : Int
  tm : Int
  ma : List Value
  ms : Bool
@[reducible] def Hb.s0 (h : Hb) : List Value := [h.sz, h.ca, .int .i64 h.ck, h.ho, .int .i64 h.can, .int .i64 h.pc, .int .i64 h.pr]
@[reducible] def Hb.s4 (h : Hb) : List Value := [.int .i64 h.hm, .bool h.hw, .int .i64 h.tc, .int .i64 h.tm]
/-- A hub's cells. -/
def Hb.cs (h : Hb) : List Value := h.s0 ++ (cellsL h.li ++ ([h.rep] ++ (h.sd ++ (h.s4 ++ (h.ma ++ [.bool h.ms])))))
/-- What a hub keeps. -/
structure Hb.Ok (h : Hb) : Prop where
  li : h.li.Ok
  sd : ∃ S, ScC h.sd S
  ma : h.ma.length = 32
section
variable {h : Hb} (k : h.Ok)
include k
theorem Hb.Ok.l1 : (cellsL h.li).length = 10 := cellsL_len k.li
theorem Hb.Ok.l3 : h.sd.length = 90 := by obtain ⟨S, hS⟩ := k.sd; exact hS.len
theorem Hb.Ok.len : h.cs.length = 145 := by
  have h1 := k.l1
  have h3 := k.l3
  have h5 := k.ma
  simp [Hb.cs]
  omega
end

/-- A hub in memory. -/
structure HuAt (w : World) (p : Nat) (h : Hb) : Prop where
  ok : h.Ok
  blk : Blk w p 88 h.cs
section
variable {w w' : World} {p : Nat} {h : Hb}
theorem HuAt.only {S : Nat → Prop} (k : HuAt w p h) (ho : Only S w w') (hS : ¬ S p) : HuAt w' p h := ⟨k.ok, k.blk.only ho hS⟩
theorem HuAt.same (k : HuAt w p h) (ho : Only (fun _ => False) w w') : HuAt w' p h := k.only ho (fun h => h)
theorem HuAt.lt (k : HuAt w p h) : p < w.heap.size := k.blk.lt
theorem HuAt.frozen (k : HuAt w p h) (i : Nat) : w.frozen? ⟨p, i, none⟩ = false := k.blk.frozen i
/-- Its first seven cells. -/
theorem HuAt.in0 (k : HuAt w p h) : InB w p 88 [] (cellsL h.li ++ ([h.rep] ++ (h.sd ++ (h.s4 ++ (h.ma ++ [.bool h.ms]))))) 0 h.s0 := ⟨k.blk, rfl⟩
theorem HuAt.in1 (k : HuAt w p h) : InB w p 88 h.s0 ([h.rep] ++ (h.sd ++ (h.s4 ++ (h.ma ++ [.bool h.ms])))) 7 (cellsL h.li) := ⟨k.blk, rfl⟩
theorem HuAt.in2 (k : HuAt w p h) : InB w p 88 (h.s0 ++ cellsL h.li) (h.sd ++ (h.s4 ++ (h.ma ++ [.bool h.ms]))) 17 [h.rep] := ⟨by
  have := k.blk
  simpa only [Hb.cs, List.append_assoc] using this, by rw [List.length_append, k.ok.l1]; rfl⟩
theorem HuAt.in3 (k : HuAt w p h) : InB w p 88 (h.s0 ++ (cellsL h.li ++ [h.rep])) (h.s4 ++ (h.ma ++ [.bool h.ms])) 18 h.sd := ⟨by
  have := k.blk
  simpa only [Hb.cs, List.append_assoc] using this, by rw [List.length_append, List.length_append, k.ok.l1]; rfl⟩
theorem HuAt.in4 (k : HuAt w p h) : InB w p 88 (h.s0 ++ (cellsL h.li ++ ([h.rep] ++ h.sd))) (h.ma ++ [.bool h.ms]) 108 h.s4 := ⟨by
  have := k.blk
  simpa only [Hb.cs, List.append_assoc] using this, by rw [List.length_append, List.length_append, List.length_append, k.ok.l1, k.ok.l3]; rfl⟩
theorem HuAt.in5 (k : HuAt w p h) : InB w p 88 (h.s0 ++ (cellsL h.li ++ ([h.rep] ++ (h.sd ++ h.s4)))) [.bool h.ms] 112 h.ma := ⟨by
  have := k.blk
  simpa only [Hb.cs, List.append_assoc] using this, by rw [List.length_append, List.length_append, List.length_append, List.length_append, k.ok.l1, k.ok.l3]; rfl⟩
theorem HuAt.in6 (k : HuAt w p h) : InB w p 88 (h.s0 ++ (cellsL h.li ++ ([h.rep] ++ (h.sd ++ (h.s4 ++ h.ma))))) [] 144 [.bool h.ms] := ⟨by
  have := k.blk
  simpa only [Hb.cs, List.append_assoc, List.append_nil] using this, by rw [List.length_append, List.length_append, List.length_append, List.length_append, List.length_append, k.ok.l1, k.ok.l3, k.ok.ma]; rfl⟩
theorem HuAt.head (k : HuAt w p h) : InB w p 88 (h.s0 ++ (cellsL h.li ++ ([h.rep] ++ h.sd))) ([.int .i64 h.tc, .int .i64 h.tm] ++ (h.ma ++ [.bool h.ms])) 108 [.int .i64 h.hm, .bool h.hw] := ⟨k.in4.blk, k.in4.len⟩
theorem HuAt.tail (k : HuAt w p h) : InB w p 88 (h.s0 ++ (cellsL h.li ++ ([h.rep] ++ (h.sd ++ [.int .i64 h.hm, .bool h.hw])))) (h.ma ++ [.bool h.ms]) 110 [.int .i64 h.tc, .int .i64 h.tm] := ⟨by
  have := k.in4.blk
  simpa only [List.append_assoc, List.cons_append, List.nil_append] using this, by rw [List.length_append, List.length_append, List.length_append, List.length_append, k.ok.l1, k.ok.l3]; rfl⟩
theorem HuAt.cyc (k : HuAt w p h) : InB w p 88 [h.sz] ([h.ho, .int .i64 h.can, .int .i64 h.pc, .int .i64 h.pr] ++ (cellsL h.li ++ ([h.rep] ++ (h.sd ++ (h.s4 ++ (h.ma ++ [.bool h.ms])))))) 1 [h.ca, .int .i64 h.ck] := ⟨k.blk, rfl⟩
theorem HuAt.peer (k : HuAt w p h) : InB w p 88 [h.sz, h.ca, .int .i64 h.ck, h.ho, .int .i64 h.can] (cellsL h.li ++ ([h.rep] ++ (h.sd ++ (h.s4 ++ (h.ma ++ [.bool h.ms]))))) 5 [.int .i64 h.pc, .int .i64 h.pr] := ⟨k.blk, rfl⟩
/-! Back: what stands at one place is another; the rest is the same. -/
theorem HuAt.of_cyc {v : Value} {c : Int} (ok : h.Ok) (k : InB w p 88 [h.sz] ([h.ho, .int .i64 h.can, .int .i64 h.pc, .int .i64 h.pr] ++ (cellsL h.li ++ ([h.rep] ++ (h.sd ++ (h.s4 ++ (h.ma ++ [.bool h.ms])))))) 1 [v, .int .i64 c]) : HuAt w p { h with ca := v, ck := c } := ⟨⟨ok.li, ok.sd, ok.ma⟩, k.blk⟩
theorem HuAt.of_peer {c r : Int} (ok : h.Ok) (k : InB w p 88 [h.sz, h.ca, .int .i64 h.ck, h.ho, .int .i64 h.can] (cellsL h.li ++ ([h.rep] ++ (h.sd ++ (h.s4 ++ (h.ma ++ [.bool h.ms]))))) 5 [.int .i64 c, .int .i64 r]) : HuAt w p { h with pc := c, pr := r } := ⟨⟨ok.li, ok.sd, ok.ma⟩, k.blk⟩
theorem HuAt.of_list {l : Ls} (hl : l.Ok) (ok : h.Ok) (k : InB w p 88 h.s0 ([h.rep] ++ (h.sd ++ (h.s4 ++ (h.ma ++ [.bool h.ms])))) 7 (cellsL l)) : HuAt w p { h with li := l } := ⟨⟨hl, ok.sd, ok.ma⟩, k.blk⟩
theorem HuAt.of_rep {v : Value} (ok : h.Ok) (k : InB w p 88 (h.s0 ++ cellsL h.li) (h.sd ++ (h.s4 ++ (h.ma ++ [.bool h.ms]))) 17 [v]) : HuAt w p { h with rep := v } := ⟨⟨ok.li, ok.sd, ok.ma⟩, by
  have := k.blk
  simpa only [Hb.cs, List.append_assoc] using this⟩
theorem HuAt.of_side {cs : List Value} {S : Sd} (hS : ScC cs S) (ok : h.Ok) (k : InB w p 88 (h.s0 ++ (cellsL h.li ++ [h.rep])) (h.s4 ++ (h.ma ++ [.bool h.ms])) 18 cs) : HuAt w p { h with sd := cs } := ⟨⟨ok.li, ⟨S, hS⟩, ok.ma⟩, by
  have := k.blk
  simpa only [Hb.cs, List.append_assoc] using this⟩
theorem HuAt.of_head {m : Int} {b : Bool} (ok : h.Ok) (k : InB w p 88 (h.s0 ++ (cellsL h.li ++ ([h.rep] ++ h.sd))) ([.int .i64 h.tc, .int .i64 h.tm] ++ (h.ma ++ [.bool h.ms])) 108 [.int .i64 m, .bool b]) : HuAt w p { h with hm := m, hw := b } := ⟨⟨ok.li, ok.sd, ok.ma⟩, by
  have := k.blk
  simpa only [Hb.cs, List.append_assoc, List.cons_append, List.nil_append] using this⟩
theorem HuAt.of_tail {c m : Int} (ok : h.Ok) (k : InB w p 88 (h.s0 ++ (cellsL h.li ++ ([h.rep] ++ (h.sd ++ [.int .i64 h.hm, .bool h.hw])))) (h.ma ++ [.bool h.ms]) 110 [.int .i64 c, .int .i64 m]) : HuAt w p { h with tc := c, tm := m } := ⟨⟨ok.li, ok.sd, ok.ma⟩, by
  have := k.blk
  simpa only [Hb.cs, List.append_assoc, List.cons_append, List.nil_append] using this⟩
theorem HuAt.of_mask {m : List Value} (hm : m.length = 32) (ok : h.Ok) (k : InB w p 88 (h.s0 ++ (cellsL h.li ++ ([h.rep] ++ (h.sd ++ h.s4)))) [.bool h.ms] 112 m) : HuAt w p { h with ma := m } := ⟨⟨ok.li, ok.sd, hm⟩, by
  have := k.blk
  simpa only [Hb.cs, List.append_assoc] using this⟩
theorem HuAt.of_masked {b : Bool} (ok : h.Ok) (k : InB w p 88 (h.s0 ++ (cellsL h.li ++ ([h.rep] ++ (h.sd ++ (h.s4 ++ h.ma))))) [] 144 [.bool b]) : HuAt w p { h with ms := b } := ⟨⟨ok.li, ok.sd, ok.ma⟩, by
  have := k.blk
  simpa only [Hb.cs, List.append_assoc, List.append_nil] using this⟩
end
/-- A struct stored into a block from place mo on. -/
theorem InB.store {P : Program} {ops : Array Oper} {rest : List Oper} {o : Oper} {a : Act} {w : World} {Q : Exit → Act → World → Prop} (hgd : o.guard = none) (ty : TypeId) (x y : Operand) (ho : o.op = .store ty x y) {p mo : Nat} {t : TypeId} {pre post old : List Value} (k : InB w p t pre post mo old)
    (hx : a.eval x = .pointer (some ⟨p, mo, none⟩)) (cells : List Value) (hy : a.eval y = .agg cells.toArray) (hi : (P.info? ty).map (·.size) = some cells.length) (hold : old.length = cells.length) (h1 : ∀ v ∈ cells, v.oneCell' = true)
    (h : ∀ w', Hid (InB w' p t pre post mo cells) → Hid (w'.heap.size = w.heap.size) → Only (· = p) w w' → wpList P ops Q rest (a.put o.dst undef) w') : wpList P ops Q (o :: rest) a w :=
  step_storeM hgd ty x y ho p mo hx cells hy t pre old post k.blk k.len hi hold h1 (fun w' hb hz ho => h w' ⟨hb.out, k.len⟩ hz ho)
end Go.Proofs.YtlmkpembccehkaaGreatDoor
