/- Several texts in one. -/
import Derived.Test.YtbnfhklpobephaaGreatDoorJTk
import Derived.Test.YtbnfhklpobephaaGreatDoorJTbSay
import Derived.Test.YtbnfhklpobephaaGreatDoorJIacSay
import Derived.Test.YtbnfhklpobephaaGreatDoorJSnIn
import Derived.BigQuiet
/- Package iac: Feed, a walk for each state and kind of byte. -/
namespace Go.Proofs.YtbnfhklpobephaaGreatDoor
open Go Go.RowKit
set_option maxRecDepth 100000

def tokOf (o : Option Tk) : Tk := o.getD Tk.none
/-- What a byte leaves. -/
def FedIn (w : World) (p mo : Nat) (tp : TypeId) (pre post : List Value) (B : Nat) (r : Ms × Option Tk) (e : Ending) (w' : World) : Prop :=
  ∃ A n c, e = .returned (.tuple #[.agg (tkCells (tokOf r.2) (.slice A n c)).toArray, .bool r.2.isSome]) ∧ n = (tokOf r.2).body.length ∧ Body w' B (.slice A n c) (tokOf r.2).body ∧ MsAt w' p mo tp pre r.1 post ∧ Only (· = p) w w'
theorem msAt_far {w : World} {p mo B : Nat} {tp : TypeId} {pre post : List Value} {m : Ms} {v : Value} {b : List UInt8} (htp : tp ≠ 5) (h : Body w B v b) (hm : MsAt w p mo tp pre m post) : ∀ k, v.ownBlock = some k → ¬ k = p := by
  obtain ⟨_, hb⟩ := hm.blk
  exact own_ne h hb (fun e => htp e.symm)

set_option maxHeartbeats 2000000 in
theorem fin_data {w : World} {p mo : Nat} {tp : TypeId} {pre post : List Value} {m : Ms} (_htp : tp ≠ 5) (h : MsAt w p mo tp pre m post) (c : UInt8) (B : Nat) (_hB : B ≤ w.heap.size) (hst : m.st = 0) (hc : c.toNat ≠ 255) :
    Calls Tryz.prog 112 #[.pointer (some ⟨p, mo, none⟩), B8 c] w (FedIn w p mo tp pre post B (Ms.zero, some ⟨1, (c.toNat : Int), 0, [], false⟩)) := by
  have HR := Lib.hid (Blk.new w 178 (tkCells Tk.none (.slice none 0 0)))
  have HO := Lib.hid ((Only.refl (· = p) w).alloc (.cells (tkCells Tk.none (.slice none 0 0)).toArray 178))
  have HM := Lib.hid (h.alloc (.cells (tkCells Tk.none (.slice none 0 0)).toArray 178))
  have hlt := h.lt
  have hpR : w.heap.size ≠ p := by omega
  have c0 : w.cell? ⟨p, mo, none⟩ = some (.int .i64 0) := by rw [h.c0, hst]; rfl
  have c1 := h.c1
  have c2 := h.c2
  have f1 := h.frozen (mo + 1)
  have f2 := h.frozen (mo + 2)
  have HS := Lib.hid hst
  have hd : decide ((c.toNat : Int) = 255) = false := by simp; omega
  have hb := c.toNat_lt
  unfold B8
  clear h hst
  go_enter Tryz.func112, Tryz.ntmps112
  go_wp2_with fail
  refine wp_scope_hops 3 (fun C hC => ?_)
  go_wp2_with fail
  go_step3
  go_wp2_with (first
    | (go_at_call 157; refine (tell_in HM.out ⟨1, (c.toNat : Int), 0, [], false⟩ none 0 0).mono ?_; rintro e w1 ⟨rfl, hm1, ho1⟩; replace HM := Lib.hid hm1; replace HO := Lib.hid (HO.out.trans ho1 (fun i hi => .inl hi)); replace HR := Lib.hid (HR.out.only ho1 hpR))
    | ((with_reducible show wpList _ _ _ (⟨none, .store 178 _ _, _, _, _, _⟩ :: _) _ _); refine step_store rfl 178 _ _ rfl w.heap.size rfl (tkCells ⟨1, (c.toNat : Int), 0, [], false⟩ (.slice none 0 0)) rfl _ _ HR.out (by exact size_tok) rfl (tk_one _ _ _ _) ?_; intro w3 hB3 hz3 ho3))
  refine hop_ret 3 ?_
  refine ret_cell2 rfl _ rfl _ _ _ hB3.out Tryz.underlying178 rfl (by exact size_tok) rfl ?_
  exact ⟨none, 0, 0, rfl, rfl, (nil_body _ _), HM.out.only ho3 hpR.symm, HO.out.trans ho3 (fun i hi => .inr (by omega))⟩


set_option maxHeartbeats 2000000 in
theorem fin_iac {w : World} {p mo : Nat} {tp : TypeId} {pre post : List Value} {m : Ms} (_htp : tp ≠ 5) (h : MsAt w p mo tp pre m post) (c : UInt8) (B : Nat) (_hB : B ≤ w.heap.size) (hst : m.st = 0) (hc : c.toNat = 255) :
    Calls Tryz.prog 112 #[.pointer (some ⟨p, mo, none⟩), B8 c] w (FedIn w p mo tp pre post B (m.to 1, .none)) := by
  have HR := Lib.hid (Blk.new w 178 (tkCells Tk.none (.slice none 0 0)))
  have HO := Lib.hid ((Only.refl (· = p) w).alloc (.cells (tkCells Tk.none (.slice none 0 0)).toArray 178))
  have HM := Lib.hid (h.alloc (.cells (tkCells Tk.none (.slice none 0 0)).toArray 178))
  have hlt := h.lt
  have hpR : w.heap.size ≠ p := by omega
  have c0 : w.cell? ⟨p, mo, none⟩ = some (.int .i64 0) := by rw [h.c0, hst]; rfl
  have c1 := h.c1
  have c2 := h.c2
  have f1 := h.frozen (mo + 1)
  have f2 := h.frozen (mo + 2)
  have HS := Lib.hid hst
  have hd : decide ((c.toNat : Int) = 255) = true := by simp; omega
  have hb := c.toNat_lt
  unfold B8
  clear h hst
  go_enter Tryz.func112, Tryz.ntmps112
  go_wp2_with fail
  refine wp_scope_hops 3 (fun C hC => ?_)
  go_wp2_with (first
    | (go_at_call 156; refine (wait_in HM.out 1 (by omega) (by omega) _ rfl).mono ?_; rintro e w1 ⟨rfl, hm1, ho1⟩; replace HM := Lib.hid hm1; replace HO := Lib.hid (HO.out.trans ho1 (fun i hi => .inl hi)); replace HR := Lib.hid (HR.out.only ho1 hpR))
    | ((with_reducible show wpList _ _ _ (⟨none, .store 178 _ _, _, _, _, _⟩ :: _) _ _); refine step_store rfl 178 _ _ rfl w.heap.size rfl (tkCells Tk.none (.slice none 0 0)) rfl _ _ HR.out (by exact size_tok) rfl (tk_one _ _ _ _) ?_; intro w3 hB3 hz3 ho3))
  refine hop_ret 3 ?_
  refine ret_cell2 rfl _ rfl _ _ _ hB3.out Tryz.underlying178 rfl (by exact size_tok) rfl ?_
  exact ⟨none, 0, 0, rfl, rfl, (nil_body _ _), HM.out.only ho3 hpR.symm, HO.out.trans ho3 (fun i hi => .inr (by omega))⟩


set_option maxHeartbeats 2000000 in
theorem fin_ff {w : World} {p mo : Nat} {tp : TypeId} {pre post : List Value} {m : Ms} (_htp : tp ≠ 5) (h : MsAt w p mo tp pre m post) (c : UInt8) (B : Nat) (_hB : B ≤ w.heap.size) (hst : m.st = 1) (hc : c.toNat = 255) :
    Calls Tryz.prog 112 #[.pointer (some ⟨p, mo, none⟩), B8 c] w (FedIn w p mo tp pre post B (Ms.zero, some ⟨1, 255, 0, [], false⟩)) := by
  have HR := Lib.hid (Blk.new w 178 (tkCells Tk.none (.slice none 0 0)))
  have HO := Lib.hid ((Only.refl (· = p) w).alloc (.cells (tkCells Tk.none (.slice none 0 0)).toArray 178))
  have HM := Lib.hid (h.alloc (.cells (tkCells Tk.none (.slice none 0 0)).toArray 178))
  have hlt := h.lt
  have hpR : w.heap.size ≠ p := by omega
  have c0 : w.cell? ⟨p, mo, none⟩ = some (.int .i64 1) := by rw [h.c0, hst]; rfl
  have c1 := h.c1
  have c2 := h.c2
  have f1 := h.frozen (mo + 1)
  have f2 := h.frozen (mo + 2)
  have HS := Lib.hid hst
  have hd : decide ((c.toNat : Int) = 255) = true := by simp; omega
  have hb := c.toNat_lt
  unfold B8
  clear h hst
  go_enter Tryz.func112, Tryz.ntmps112
  go_wp2_with fail
  refine wp_scope_hops 3 (fun C hC => ?_)
  go_wp2_with fail
  go_step3
  refine hop_goto 2 0 hC rfl ?_
  go_wp2_with fail
  go_step3
  refine hop_goto 1 5 hC rfl ?_
  go_wp2_with (first
    | (go_at_call 157; refine (tell_in HM.out ⟨1, 255, 0, [], false⟩ none 0 0).mono ?_; rintro e w1 ⟨rfl, hm1, ho1⟩; replace HM := Lib.hid hm1; replace HO := Lib.hid (HO.out.trans ho1 (fun i hi => .inl hi)); replace HR := Lib.hid (HR.out.only ho1 hpR))
    | ((with_reducible show wpList _ _ _ (⟨none, .store 178 _ _, _, _, _, _⟩ :: _) _ _); refine step_store rfl 178 _ _ rfl w.heap.size rfl (tkCells ⟨1, 255, 0, [], false⟩ (.slice none 0 0)) rfl _ _ HR.out (by exact size_tok) rfl (tk_one _ _ _ _) ?_; intro w3 hB3 hz3 ho3))
  refine hop_ret 1 ?_
  refine ret_cell2 rfl _ rfl _ _ _ hB3.out Tryz.underlying178 rfl (by exact size_tok) rfl ?_
  exact ⟨none, 0, 0, rfl, rfl, (nil_body _ _), HM.out.only ho3 hpR.symm, HO.out.trans ho3 (fun i hi => .inr (by omega))⟩


set_option maxHeartbeats 2000000 in
theorem fin_sb {w : World} {p mo : Nat} {tp : TypeId} {pre post : List Value} {m : Ms} (_htp : tp ≠ 5) (h : MsAt w p mo tp pre m post) (c : UInt8) (B : Nat) (_hB : B ≤ w.heap.size) (hst : m.st = 1) (hc : c.toNat = 250) :
    Calls Tryz.prog 112 #[.pointer (some ⟨p, mo, none⟩), B8 c] w (FedIn w p mo tp pre post B (m.to 3, .none)) := by
  have HR := Lib.hid (Blk.new w 178 (tkCells Tk.none (.slice none 0 0)))
  have HO := Lib.hid ((Only.refl (· = p) w).alloc (.cells (tkCells Tk.none (.slice none 0 0)).toArray 178))
  have HM := Lib.hid (h.alloc (.cells (tkCells Tk.none (.slice none 0 0)).toArray 178))
  have hlt := h.lt
  have hpR : w.heap.size ≠ p := by omega
  have c0 : w.cell? ⟨p, mo, none⟩ = some (.int .i64 1) := by rw [h.c0, hst]; rfl
  have c1 := h.c1
  have c2 := h.c2
  have f1 := h.frozen (mo + 1)
  have f2 := h.frozen (mo + 2)
  have HS := Lib.hid hst
  have hd : decide ((c.toNat : Int) = 255) = false := by simp; omega
  have hd250 : decide ((c.toNat : Int) = 250) = true := by simp; omega
  have hb := c.toNat_lt
  unfold B8
  clear h hst
  go_enter Tryz.func112, Tryz.ntmps112
  go_wp2_with fail
  refine wp_scope_hops 3 (fun C hC => ?_)
  go_wp2_with fail
  go_step3
  refine hop_goto 2 0 hC rfl ?_
  go_wp2_with (first
    | (go_at_call 156; refine (wait_in HM.out 3 (by omega) (by omega) _ rfl).mono ?_; rintro e w1 ⟨rfl, hm1, ho1⟩; replace HM := Lib.hid hm1; replace HO := Lib.hid (HO.out.trans ho1 (fun i hi => .inl hi)); replace HR := Lib.hid (HR.out.only ho1 hpR))
    | ((with_reducible show wpList _ _ _ (⟨none, .store 178 _ _, _, _, _, _⟩ :: _) _ _); refine step_store rfl 178 _ _ rfl w.heap.size rfl (tkCells Tk.none (.slice none 0 0)) rfl _ _ HR.out (by exact size_tok) rfl (tk_one _ _ _ _) ?_; intro w3 hB3 hz3 ho3))
  refine hop_ret 2 ?_
  refine ret_cell2 rfl _ rfl _ _ _ hB3.out Tryz.underlying178 rfl (by exact size_tok) rfl ?_
  exact ⟨none, 0, 0, rfl, rfl, (nil_body _ _), HM.out.only ho3 hpR.symm, HO.out.trans ho3 (fun i hi => .inr (by omega))⟩


set_option maxHeartbeats 2000000 in
theorem fin_verb {w : World} {p mo : Nat} {tp : TypeId} {pre post : List Value} {m : Ms} (_htp : tp ≠ 5) (h : MsAt w p mo tp pre m post) (c : UInt8) (B : Nat) (_hB : B ≤ w.heap.size) (hst : m.st = 1) (hc : 251 ≤ c.toNat ∧ c.toNat ≤ 254) :
    Calls Tryz.prog 112 #[.pointer (some ⟨p, mo, none⟩), B8 c] w (FedIn w p mo tp pre post B (({ m with verb := (c.toNat : Int) } : Ms).to 2, .none)) := by
  have hne0 : m.st ≠ 0 := by omega
  have HM := Lib.hid ((h.setVerb hne0 (c.toNat : Int)).alloc (.cells (tkCells Tk.none (.slice none 0 0)).toArray 178))
  have HO := Lib.hid (((Only.refl (· = p) w).setCell (p := ⟨p, mo + 1, none⟩) (.inl rfl) (.int .i64 (c.toNat : Int))).alloc (.cells (tkCells Tk.none (.slice none 0 0)).toArray 178))
  have HR := Lib.hid (Blk.new' (n := w.heap.size) (w.setCell ⟨p, mo + 1, none⟩ (.int .i64 (c.toNat : Int))) 178 (tkCells Tk.none (.slice none 0 0)) (setCell_size _ _ _))
  have hlt := h.lt
  have hpR : w.heap.size ≠ p := by omega
  have c0 : w.cell? ⟨p, mo, none⟩ = some (.int .i64 1) := by rw [h.c0, hst]; rfl
  have c1 := h.c1
  have c2 := h.c2
  have f1 := h.frozen (mo + 1)
  have f2 := h.frozen (mo + 2)
  have HS := Lib.hid hst
  have hd : decide ((c.toNat : Int) = 255) = false := by simp; omega
  have hd250 : decide ((c.toNat : Int) = 250) = false := by simp; omega
  have hv : decide (251 ≤ (c.toNat : Int) ∧ (c.toNat : Int) ≤ 254) = true := by simp; omega
  have hb := c.toNat_lt
  unfold B8
  clear h hst
  go_enter Tryz.func112, Tryz.ntmps112
  go_wp2_with fail
  refine wp_scope_hops 3 (fun C hC => ?_)
  go_wp2_with fail
  go_step3
  refine hop_goto 2 0 hC rfl ?_
  go_wp2_with (first
    | (go_at_call 158; refine (verb_any _ _).mono ?_; rw [hv]; rintro e wv ⟨rfl, rfl⟩)
    | (go_at_call 156; refine (wait_in HM.out 2 (by omega) (by omega) _ rfl).mono ?_; rintro e w1 ⟨rfl, hm1, ho1⟩; replace HM := Lib.hid hm1; replace HO := Lib.hid (HO.out.trans ho1 (fun i hi => .inl hi)); replace HR := Lib.hid (HR.out.only ho1 hpR))
    | ((with_reducible show wpList _ _ _ (⟨none, .store 178 _ _, _, _, _, _⟩ :: _) _ _); refine step_store rfl 178 _ _ rfl w.heap.size rfl (tkCells Tk.none (.slice none 0 0)) rfl _ _ HR.out (by exact size_tok) rfl (tk_one _ _ _ _) ?_; intro w3 hB3 hz3 ho3))
  refine hop_ret 2 ?_
  refine ret_cell2 rfl _ rfl _ _ _ hB3.out Tryz.underlying178 rfl (by exact size_tok) rfl ?_
  exact ⟨none, 0, 0, rfl, rfl, (nil_body _ _), HM.out.only ho3 hpR.symm, HO.out.trans ho3 (fun i hi => .inr (by omega))⟩


set_option maxHeartbeats 2000000 in
theorem fin_plain {w : World} {p mo : Nat} {tp : TypeId} {pre post : List Value} {m : Ms} (_htp : tp ≠ 5) (h : MsAt w p mo tp pre m post) (c : UInt8) (B : Nat) (_hB : B ≤ w.heap.size) (hst : m.st = 1) (hc : c.toNat ≠ 255) (hc2 : c.toNat ≠ 250) (hc3 : ¬ (251 ≤ c.toNat ∧ c.toNat ≤ 254)) :
    Calls Tryz.prog 112 #[.pointer (some ⟨p, mo, none⟩), B8 c] w (FedIn w p mo tp pre post B (Ms.zero, some ⟨2, (c.toNat : Int), 0, [], false⟩)) := by
  have HR := Lib.hid (Blk.new w 178 (tkCells Tk.none (.slice none 0 0)))
  have HO := Lib.hid ((Only.refl (· = p) w).alloc (.cells (tkCells Tk.none (.slice none 0 0)).toArray 178))
  have HM := Lib.hid (h.alloc (.cells (tkCells Tk.none (.slice none 0 0)).toArray 178))
  have hlt := h.lt
  have hpR : w.heap.size ≠ p := by omega
  have c0 : w.cell? ⟨p, mo, none⟩ = some (.int .i64 1) := by rw [h.c0, hst]; rfl
  have c1 := h.c1
  have c2 := h.c2
  have f1 := h.frozen (mo + 1)
  have f2 := h.frozen (mo + 2)
  have HS := Lib.hid hst
  have hd : decide ((c.toNat : Int) = 255) = false := by simp; omega
  have hd250 : decide ((c.toNat : Int) = 250) = false := by simp; omega
  have hv : decide (251 ≤ (c.toNat : Int) ∧ (c.toNat : Int) ≤ 254) = false := by simp; omega
  have hb := c.toNat_lt
  unfold B8
  clear h hst
  go_enter Tryz.func112, Tryz.ntmps112
  go_wp2_with fail
  refine wp_scope_hops 3 (fun C hC => ?_)
  go_wp2_with fail
  go_step3
  refine hop_goto 2 0 hC rfl ?_
  go_wp2_with (first
    | (go_at_call 158; refine (verb_any _ _).mono ?_; rw [hv]; rintro e wv ⟨rfl, rfl⟩)
    | (go_at_call 157; refine (tell_in HM.out ⟨2, (c.toNat : Int), 0, [], false⟩ none 0 0).mono ?_; rintro e w1 ⟨rfl, hm1, ho1⟩; replace HM := Lib.hid hm1; replace HO := Lib.hid (HO.out.trans ho1 (fun i hi => .inl hi)); replace HR := Lib.hid (HR.out.only ho1 hpR))
    | ((with_reducible show wpList _ _ _ (⟨none, .store 178 _ _, _, _, _, _⟩ :: _) _ _); refine step_store rfl 178 _ _ rfl w.heap.size rfl (tkCells ⟨2, (c.toNat : Int), 0, [], false⟩ (.slice none 0 0)) rfl _ _ HR.out (by exact size_tok) rfl (tk_one _ _ _ _) ?_; intro w3 hB3 hz3 ho3))
  refine hop_ret 2 ?_
  refine ret_cell2 rfl _ rfl _ _ _ hB3.out Tryz.underlying178 rfl (by exact size_tok) rfl ?_
  exact ⟨none, 0, 0, rfl, rfl, (nil_body _ _), HM.out.only ho3 hpR.symm, HO.out.trans ho3 (fun i hi => .inr (by omega))⟩


set_option maxHeartbeats 2000000 in
theorem fin_option {w : World} {p mo : Nat} {tp : TypeId} {pre post : List Value} {m : Ms} (_htp : tp ≠ 5) (h : MsAt w p mo tp pre m post) (c : UInt8) (B : Nat) (_hB : B ≤ w.heap.size) (hst : m.st = 2) :
    Calls Tryz.prog 112 #[.pointer (some ⟨p, mo, none⟩), B8 c] w (FedIn w p mo tp pre post B (Ms.zero, some ⟨3, m.verb, (c.toNat : Int), [], false⟩)) := by
  have HR := Lib.hid (Blk.new w 178 (tkCells Tk.none (.slice none 0 0)))
  have HO := Lib.hid ((Only.refl (· = p) w).alloc (.cells (tkCells Tk.none (.slice none 0 0)).toArray 178))
  have HM := Lib.hid (h.alloc (.cells (tkCells Tk.none (.slice none 0 0)).toArray 178))
  have hlt := h.lt
  have hpR : w.heap.size ≠ p := by omega
  have c0 : w.cell? ⟨p, mo, none⟩ = some (.int .i64 2) := by rw [h.c0, hst]; rfl
  have c1 := h.c1
  have c2 := h.c2
  have f1 := h.frozen (mo + 1)
  have f2 := h.frozen (mo + 2)
  have HS := Lib.hid hst
  have hb := c.toNat_lt
  unfold B8
  clear h hst
  go_enter Tryz.func112, Tryz.ntmps112
  go_wp2_with fail
  refine wp_scope_hops 3 (fun C hC => ?_)
  go_wp2_with fail
  go_step3
  refine hop_goto 2 1 hC rfl ?_
  go_wp2_with (first
    | (go_at_call 157; refine (tell_in HM.out ⟨3, m.verb, (c.toNat : Int), [], false⟩ none 0 0).mono ?_; rintro e w1 ⟨rfl, hm1, ho1⟩; replace HM := Lib.hid hm1; replace HO := Lib.hid (HO.out.trans ho1 (fun i hi => .inl hi)); replace HR := Lib.hid (HR.out.only ho1 hpR))
    | ((with_reducible show wpList _ _ _ (⟨none, .store 178 _ _, _, _, _, _⟩ :: _) _ _); refine step_store rfl 178 _ _ rfl w.heap.size rfl (tkCells ⟨3, m.verb, (c.toNat : Int), [], false⟩ (.slice none 0 0)) rfl _ _ HR.out (by exact size_tok) rfl (tk_one _ _ _ _) ?_; intro w3 hB3 hz3 ho3))
  refine hop_ret 2 ?_
  refine ret_cell2 rfl _ rfl _ _ _ hB3.out Tryz.underlying178 rfl (by exact size_tok) rfl ?_
  exact ⟨none, 0, 0, rfl, rfl, (nil_body _ _), HM.out.only ho3 hpR.symm, HO.out.trans ho3 (fun i hi => .inr (by omega))⟩


set_option maxHeartbeats 2000000 in
theorem fin_begin {w : World} {p mo : Nat} {tp : TypeId} {pre post : List Value} {m : Ms} (_htp : tp ≠ 5) (h : MsAt w p mo tp pre m post) (c : UInt8) (B : Nat) (_hB : B ≤ w.heap.size) (hst : m.st = 3) :
    Calls Tryz.prog 112 #[.pointer (some ⟨p, mo, none⟩), B8 c] w (FedIn w p mo tp pre post B (({ m with opt := (c.toNat : Int) } : Ms).to 4, .none)) := by
  have hne0 : m.st ≠ 0 := by omega
  have HM := Lib.hid ((h.setOpt hne0 (c.toNat : Int)).alloc (.cells (tkCells Tk.none (.slice none 0 0)).toArray 178))
  have HO := Lib.hid (((Only.refl (· = p) w).setCell (p := ⟨p, mo + 2, none⟩) (.inl rfl) (.int .i64 (c.toNat : Int))).alloc (.cells (tkCells Tk.none (.slice none 0 0)).toArray 178))
  have HR := Lib.hid (Blk.new' (n := w.heap.size) (w.setCell ⟨p, mo + 2, none⟩ (.int .i64 (c.toNat : Int))) 178 (tkCells Tk.none (.slice none 0 0)) (setCell_size _ _ _))
  have hlt := h.lt
  have hpR : w.heap.size ≠ p := by omega
  have c0 : w.cell? ⟨p, mo, none⟩ = some (.int .i64 3) := by rw [h.c0, hst]; rfl
  have c1 := h.c1
  have c2 := h.c2
  have f1 := h.frozen (mo + 1)
  have f2 := h.frozen (mo + 2)
  have HS := Lib.hid hst
  have hb := c.toNat_lt
  unfold B8
  clear h hst
  go_enter Tryz.func112, Tryz.ntmps112
  go_wp2_with fail
  refine wp_scope_hops 3 (fun C hC => ?_)
  go_wp2_with fail
  go_step3
  refine hop_goto 2 2 hC rfl ?_
  go_wp2_with (first
    | (go_at_call 156; refine (wait_in HM.out 4 (by omega) (by omega) _ rfl).mono ?_; rintro e w1 ⟨rfl, hm1, ho1⟩; replace HM := Lib.hid hm1; replace HO := Lib.hid (HO.out.trans ho1 (fun i hi => .inl hi)); replace HR := Lib.hid (HR.out.only ho1 hpR))
    | ((with_reducible show wpList _ _ _ (⟨none, .store 178 _ _, _, _, _, _⟩ :: _) _ _); refine step_store rfl 178 _ _ rfl w.heap.size rfl (tkCells Tk.none (.slice none 0 0)) rfl _ _ HR.out (by exact size_tok) rfl (tk_one _ _ _ _) ?_; intro w3 hB3 hz3 ho3))
  refine hop_ret 2 ?_
  refine ret_cell2 rfl _ rfl _ _ _ hB3.out Tryz.underlying178 rfl (by exact size_tok) rfl ?_
  exact ⟨none, 0, 0, rfl, rfl, (nil_body _ _), HM.out.only ho3 hpR.symm, HO.out.trans ho3 (fun i hi => .inr (by omega))⟩


set_option maxHeartbeats 2000000 in
theorem fin_inner {w : World} {p mo : Nat} {tp : TypeId} {pre post : List Value} {m : Ms} (_htp : tp ≠ 5) (h : MsAt w p mo tp pre m post) (c : UInt8) (B : Nat) (_hB : B ≤ w.heap.size) (hst : m.st = 4) (hc : c.toNat = 255) :
    Calls Tryz.prog 112 #[.pointer (some ⟨p, mo, none⟩), B8 c] w (FedIn w p mo tp pre post B (m.to 5, .none)) := by
  have HR := Lib.hid (Blk.new w 178 (tkCells Tk.none (.slice none 0 0)))
  have HO := Lib.hid ((Only.refl (· = p) w).alloc (.cells (tkCells Tk.none (.slice none 0 0)).toArray 178))
  have HM := Lib.hid (h.alloc (.cells (tkCells Tk.none (.slice none 0 0)).toArray 178))
  have hlt := h.lt
  have hpR : w.heap.size ≠ p := by omega
  have c0 : w.cell? ⟨p, mo, none⟩ = some (.int .i64 4) := by rw [h.c0, hst]; rfl
  have c1 := h.c1
  have c2 := h.c2
  have f1 := h.frozen (mo + 1)
  have f2 := h.frozen (mo + 2)
  have HS := Lib.hid hst
  have hd : decide ((c.toNat : Int) = 255) = true := by simp; omega
  have hb := c.toNat_lt
  unfold B8
  clear h hst
  go_enter Tryz.func112, Tryz.ntmps112
  go_wp2_with fail
  refine wp_scope_hops 3 (fun C hC => ?_)
  go_wp2_with fail
  go_step3
  refine hop_goto 2 3 hC rfl ?_
  go_wp2_with (first
    | (go_at_call 156; refine (wait_in HM.out 5 (by omega) (by omega) _ rfl).mono ?_; rintro e w1 ⟨rfl, hm1, ho1⟩; replace HM := Lib.hid hm1; replace HO := Lib.hid (HO.out.trans ho1 (fun i hi => .inl hi)); replace HR := Lib.hid (HR.out.only ho1 hpR))
    | ((with_reducible show wpList _ _ _ (⟨none, .store 178 _ _, _, _, _, _⟩ :: _) _ _); refine step_store rfl 178 _ _ rfl w.heap.size rfl (tkCells Tk.none (.slice none 0 0)) rfl _ _ HR.out (by exact size_tok) rfl (tk_one _ _ _ _) ?_; intro w3 hB3 hz3 ho3))
  refine hop_ret 2 ?_
  refine ret_cell2 rfl _ rfl _ _ _ hB3.out Tryz.underlying178 rfl (by exact size_tok) rfl ?_
  exact ⟨none, 0, 0, rfl, rfl, (nil_body _ _), HM.out.only ho3 hpR.symm, HO.out.trans ho3 (fun i hi => .inr (by omega))⟩


set_option maxHeartbeats 2000000 in
theorem fin_body {w : World} {p mo : Nat} {tp : TypeId} {pre post : List Value} {m : Ms} (_htp : tp ≠ 5) (h : MsAt w p mo tp pre m post) (c : UInt8) (B : Nat) (_hB : B ≤ w.heap.size) (hst : m.st = 4) (hc : c.toNat ≠ 255) :
    Calls Tryz.prog 112 #[.pointer (some ⟨p, mo, none⟩), B8 c] w (FedIn w p mo tp pre post B ((m.keep c).to 4, .none)) := by
  have HR := Lib.hid (Blk.new w 178 (tkCells Tk.none (.slice none 0 0)))
  have HO := Lib.hid ((Only.refl (· = p) w).alloc (.cells (tkCells Tk.none (.slice none 0 0)).toArray 178))
  have HM := Lib.hid (h.alloc (.cells (tkCells Tk.none (.slice none 0 0)).toArray 178))
  have hlt := h.lt
  have hpR : w.heap.size ≠ p := by omega
  have c0 : w.cell? ⟨p, mo, none⟩ = some (.int .i64 4) := by rw [h.c0, hst]; rfl
  have c1 := h.c1
  have c2 := h.c2
  have f1 := h.frozen (mo + 1)
  have f2 := h.frozen (mo + 2)
  have HS := Lib.hid hst
  have hd : decide ((c.toNat : Int) = 255) = false := by simp; omega
  have hb := c.toNat_lt
  unfold B8
  clear h hst
  go_enter Tryz.func112, Tryz.ntmps112
  go_wp2_with fail
  refine wp_scope_hops 3 (fun C hC => ?_)
  go_wp2_with fail
  go_step3
  refine hop_goto 2 3 hC rfl ?_
  go_wp2_with fail
  go_step3
  go_wp2_with (first
    | (go_at_call 159; refine (keep_in HM.out (by have := HS.out; omega) c _ (by omega)).mono ?_; rintro e w1 ⟨rfl, hm1, ho1⟩; replace HM := Lib.hid hm1; replace HO := Lib.hid (HO.out.trans ho1 (fun i hi => .inl hi)); replace HR := Lib.hid (HR.out.only ho1 hpR))
    | (go_at_call 156; refine (wait_in HM.out 4 (by omega) (by omega) _ rfl).mono ?_; rintro e w1 ⟨rfl, hm1, ho1⟩; replace HM := Lib.hid hm1; replace HO := Lib.hid (HO.out.trans ho1 (fun i hi => .inl hi)); replace HR := Lib.hid (HR.out.only ho1 hpR))
    | ((with_reducible show wpList _ _ _ (⟨none, .store 178 _ _, _, _, _, _⟩ :: _) _ _); refine step_store rfl 178 _ _ rfl w.heap.size rfl (tkCells Tk.none (.slice none 0 0)) rfl _ _ HR.out (by exact size_tok) rfl (tk_one _ _ _ _) ?_; intro w3 hB3 hz3 ho3))
  refine hop_ret 2 ?_
  refine ret_cell2 rfl _ rfl _ _ _ hB3.out Tryz.underlying178 rfl (by exact size_tok) rfl ?_
  exact ⟨none, 0, 0, rfl, rfl, (nil_body _ _), HM.out.only ho3 hpR.symm, HO.out.trans ho3 (fun i hi => .inr (by omega))⟩


set_option maxHeartbeats 2000000 in
theorem fin_bodyff {w : World} {p mo : Nat} {tp : TypeId} {pre post : List Value} {m : Ms} (_htp : tp ≠ 5) (h : MsAt w p mo tp pre m post) (c : UInt8) (B : Nat) (_hB : B ≤ w.heap.size) (hst : m.st = 5) (hc : c.toNat = 255) :
    Calls Tryz.prog 112 #[.pointer (some ⟨p, mo, none⟩), B8 c] w (FedIn w p mo tp pre post B ((m.keep c).to 4, .none)) := by
  have HR := Lib.hid (Blk.new w 178 (tkCells Tk.none (.slice none 0 0)))
  have HO := Lib.hid ((Only.refl (· = p) w).alloc (.cells (tkCells Tk.none (.slice none 0 0)).toArray 178))
  have HM := Lib.hid (h.alloc (.cells (tkCells Tk.none (.slice none 0 0)).toArray 178))
  have hlt := h.lt
  have hpR : w.heap.size ≠ p := by omega
  have c0 : w.cell? ⟨p, mo, none⟩ = some (.int .i64 5) := by rw [h.c0, hst]; rfl
  have c1 := h.c1
  have c2 := h.c2
  have f1 := h.frozen (mo + 1)
  have f2 := h.frozen (mo + 2)
  have HS := Lib.hid hst
  have hd : decide ((c.toNat : Int) = 255) = true := by simp; omega
  have hb := c.toNat_lt
  unfold B8
  clear h hst
  go_enter Tryz.func112, Tryz.ntmps112
  go_wp2_with fail
  refine wp_scope_hops 3 (fun C hC => ?_)
  go_wp2_with fail
  go_step3
  refine hop_goto 2 4 hC rfl ?_
  go_wp2_with fail
  go_step3
  refine hop_goto 1 6 hC rfl ?_
  go_wp2_with (first
    | (go_at_call 159; refine (keep_in HM.out (by have := HS.out; omega) c _ (by omega)).mono ?_; rintro e w1 ⟨rfl, hm1, ho1⟩; replace HM := Lib.hid hm1; replace HO := Lib.hid (HO.out.trans ho1 (fun i hi => .inl hi)); replace HR := Lib.hid (HR.out.only ho1 hpR))
    | (go_at_call 156; refine (wait_in HM.out 4 (by omega) (by omega) _ rfl).mono ?_; rintro e w1 ⟨rfl, hm1, ho1⟩; replace HM := Lib.hid hm1; replace HO := Lib.hid (HO.out.trans ho1 (fun i hi => .inl hi)); replace HR := Lib.hid (HR.out.only ho1 hpR))
    | ((with_reducible show wpList _ _ _ (⟨none, .store 178 _ _, _, _, _, _⟩ :: _) _ _); refine step_store rfl 178 _ _ rfl w.heap.size rfl (tkCells Tk.none (.slice none 0 0)) rfl _ _ HR.out (by exact size_tok) rfl (tk_one _ _ _ _) ?_; intro w3 hB3 hz3 ho3))
  refine hop_ret 1 ?_
  refine ret_cell2 rfl _ rfl _ _ _ hB3.out Tryz.underlying178 rfl (by exact size_tok) rfl ?_
  exact ⟨none, 0, 0, rfl, rfl, (nil_body _ _), HM.out.only ho3 hpR.symm, HO.out.trans ho3 (fun i hi => .inr (by omega))⟩


set_option maxHeartbeats 2000000 in
theorem fin_bad {w : World} {p mo : Nat} {tp : TypeId} {pre post : List Value} {m : Ms} (_htp : tp ≠ 5) (h : MsAt w p mo tp pre m post) (c : UInt8) (B : Nat) (_hB : B ≤ w.heap.size) (hst : m.st = 5) (hc : c.toNat ≠ 255) (hc2 : c.toNat ≠ 240) :
    Calls Tryz.prog 112 #[.pointer (some ⟨p, mo, none⟩), B8 c] w (FedIn w p mo tp pre post B (Ms.zero, some ⟨5, (c.toNat : Int), m.opt, [], false⟩)) := by
  have HR := Lib.hid (Blk.new w 178 (tkCells Tk.none (.slice none 0 0)))
  have HO := Lib.hid ((Only.refl (· = p) w).alloc (.cells (tkCells Tk.none (.slice none 0 0)).toArray 178))
  have HM := Lib.hid (h.alloc (.cells (tkCells Tk.none (.slice none 0 0)).toArray 178))
  have hlt := h.lt
  have hpR : w.heap.size ≠ p := by omega
  have c0 : w.cell? ⟨p, mo, none⟩ = some (.int .i64 5) := by rw [h.c0, hst]; rfl
  have c1 := h.c1
  have c2 := h.c2
  have f1 := h.frozen (mo + 1)
  have f2 := h.frozen (mo + 2)
  have HS := Lib.hid hst
  have hd : decide ((c.toNat : Int) = 255) = false := by simp; omega
  have hd240 : decide ((c.toNat : Int) = 240) = false := by simp; omega
  have hb := c.toNat_lt
  unfold B8
  clear h hst
  go_enter Tryz.func112, Tryz.ntmps112
  go_wp2_with fail
  refine wp_scope_hops 3 (fun C hC => ?_)
  go_wp2_with fail
  go_step3
  refine hop_goto 2 4 hC rfl ?_
  go_wp2_with (first
    | (go_at_call 157; refine (tell_in HM.out ⟨5, (c.toNat : Int), m.opt, [], false⟩ none 0 0).mono ?_; rintro e w1 ⟨rfl, hm1, ho1⟩; replace HM := Lib.hid hm1; replace HO := Lib.hid (HO.out.trans ho1 (fun i hi => .inl hi)); replace HR := Lib.hid (HR.out.only ho1 hpR))
    | ((with_reducible show wpList _ _ _ (⟨none, .store 178 _ _, _, _, _, _⟩ :: _) _ _); refine step_store rfl 178 _ _ rfl w.heap.size rfl (tkCells ⟨5, (c.toNat : Int), m.opt, [], false⟩ (.slice none 0 0)) rfl _ _ HR.out (by exact size_tok) rfl (tk_one _ _ _ _) ?_; intro w3 hB3 hz3 ho3))
  refine hop_ret 2 ?_
  refine ret_cell2 rfl _ rfl _ _ _ hB3.out Tryz.underlying178 rfl (by exact size_tok) rfl ?_
  exact ⟨none, 0, 0, rfl, rfl, (nil_body _ _), HM.out.only ho3 hpR.symm, HO.out.trans ho3 (fun i hi => .inr (by omega))⟩


set_option maxHeartbeats 2000000 in
theorem fin_sub {w : World} {p mo : Nat} {tp : TypeId} {pre post : List Value} {m : Ms} (htp : tp ≠ 5) (h : MsAt w p mo tp pre m post) (c : UInt8) (B : Nat) (_hB : B ≤ w.heap.size) (hst : m.st = 5) (hc : c.toNat = 240) :
    Calls Tryz.prog 112 #[.pointer (some ⟨p, mo, none⟩), B8 c] w (FedIn w p mo tp pre post B (Ms.zero, some ⟨4, 0, m.opt, m.body, m.cut⟩)) := by
  have HR := Lib.hid (Blk.new w 178 (tkCells Tk.none (.slice none 0 0)))
  have HO := Lib.hid ((Only.refl (· = p) w).alloc (.cells (tkCells Tk.none (.slice none 0 0)).toArray 178))
  have HM := Lib.hid (h.alloc (.cells (tkCells Tk.none (.slice none 0 0)).toArray 178))
  have hlt := h.lt
  have hpR : w.heap.size ≠ p := by omega
  have c0 : w.cell? ⟨p, mo, none⟩ = some (.int .i64 5) := by rw [h.c0, hst]; rfl
  have c1 := h.c1
  have c2 := h.c2
  have f1 := h.frozen (mo + 1)
  have f2 := h.frozen (mo + 2)
  have HS := Lib.hid hst
  have hd : decide ((c.toNat : Int) = 255) = false := by simp; omega
  have hd240 : decide ((c.toNat : Int) = 240) = true := by simp; omega
  have hb := c.toNat_lt
  unfold B8
  clear h hst
  go_enter Tryz.func112, Tryz.ntmps112
  go_wp2_with fail
  refine wp_scope_hops 3 (fun C hC => ?_)
  go_wp2_with fail
  go_step3
  refine hop_goto 2 4 hC rfl ?_
  go_wp2_with (first
    | (go_at_call 160; refine (sub_in HM.out B (by show B ≤ (w.alloc _).heap.size; simp; omega)).mono ?_; rintro e w1 ⟨A1, cc1, rfl, hbd, hm1, ho1⟩; replace HM := Lib.hid hm1; replace HO := Lib.hid (HO.out.trans ho1 (fun i hi => hi.elim)); replace HR := Lib.hid (HR.out.only ho1 (fun h => h)); have HBd := Lib.hid hbd)
    | (go_at_call 157; refine (tell_in HM.out ⟨4, 0, m.opt, m.body, m.cut⟩ A1 m.body.length cc1).mono ?_; rintro e w2 ⟨rfl, hm1, ho1⟩; replace HBd := Lib.hid (own_only HBd.out ho1 (msAt_far htp HBd.out HM.out)); replace HM := Lib.hid hm1; replace HO := Lib.hid (HO.out.trans ho1 (fun i hi => .inl hi)); replace HR := Lib.hid (HR.out.only ho1 hpR))
    | ((with_reducible show wpList _ _ _ (⟨none, .store 178 _ _, _, _, _, _⟩ :: _) _ _); refine step_store rfl 178 _ _ rfl w.heap.size rfl (tkCells ⟨4, 0, m.opt, m.body, m.cut⟩ (.slice A1 m.body.length cc1)) rfl _ _ HR.out (by exact size_tok) rfl (tk_one _ _ _ _) ?_; intro w3 hB3 hz3 ho3))
  refine hop_ret 2 ?_
  refine ret_cell2 rfl _ rfl _ _ _ hB3.out Tryz.underlying178 rfl (by exact size_tok) rfl ?_
  exact ⟨A1, m.body.length, cc1, rfl, rfl, (own_only HBd.out ho3 (own_ne HBd.out HR.out (by decide))), HM.out.only ho3 hpR.symm, HO.out.trans ho3 (fun i hi => .inr (by omega))⟩


theorem fin_any {w : World} {p mo : Nat} {tp : TypeId} {pre post : List Value} {m : Ms} (htp : tp ≠ 5) (h : MsAt w p mo tp pre m post) (c : UInt8) (B : Nat) (hB : B ≤ w.heap.size) :
    Calls Tryz.prog 112 #[.pointer (some ⟨p, mo, none⟩), B8 c] w (FedIn w p mo tp pre post B (feed m c)) := by
  have hok := h.1
  have h5 := hok.st
  have hcase : m.st = 0 ∨ m.st = 1 ∨ m.st = 2 ∨ m.st = 3 ∨ m.st = 4 ∨ m.st = 5 := by omega
  rcases hcase with hst | hst | hst | hst | hst | hst
  · by_cases hc : c.toNat = 255
    · rw [show feed m c = (m.to 1, .none) by simp [feed, hst, hc]]
      exact fin_iac htp h c B hB hst hc
    · rw [show feed m c = (Ms.zero, some ⟨1, (c.toNat : Int), 0, [], false⟩) by simp [feed, hst, hc]]
      exact fin_data htp h c B hB hst hc
  · by_cases hc : c.toNat = 255
    · rw [show feed m c = (Ms.zero, some ⟨1, 255, 0, [], false⟩) by simp [feed, hst, hc]]
      exact fin_ff htp h c B hB hst hc
    · by_cases hc2 : c.toNat = 250
      · rw [show feed m c = (m.to 3, .none) by simp [feed, hst, hc2]]
        exact fin_sb htp h c B hB hst hc2
      · by_cases hc3 : 251 ≤ c.toNat ∧ c.toNat ≤ 254
        · rw [show feed m c = (({ m with verb := (c.toNat : Int) } : Ms).to 2, .none) by simp [feed, hst, hc, hc2, hc3]]
          exact fin_verb htp h c B hB hst hc3
        · rw [show feed m c = (Ms.zero, some ⟨2, (c.toNat : Int), 0, [], false⟩) by unfold feed; rw [hst]; simp only [if_neg hc, if_neg hc2, if_neg hc3]]
          exact fin_plain htp h c B hB hst hc hc2 hc3
  · rw [show feed m c = (Ms.zero, some ⟨3, m.verb, (c.toNat : Int), [], false⟩) by simp [feed, hst]]
    exact fin_option htp h c B hB hst
  · rw [show feed m c = (({ m with opt := (c.toNat : Int) } : Ms).to 4, .none) by simp [feed, hst]]
    exact fin_begin htp h c B hB hst
  · by_cases hc : c.toNat = 255
    · rw [show feed m c = (m.to 5, .none) by simp [feed, hst, hc]]
      exact fin_inner htp h c B hB hst hc
    · rw [show feed m c = ((m.keep c).to 4, .none) by simp [feed, hst, hc]]
      exact fin_body htp h c B hB hst hc
  · by_cases hc : c.toNat = 255
    · rw [show feed m c = ((m.keep c).to 4, .none) by simp [feed, hst, hc]]
      exact fin_bodyff htp h c B hB hst hc
    · by_cases hc2 : c.toNat = 240
      · rw [show feed m c = (Ms.zero, some ⟨4, 0, m.opt, m.body, m.cut⟩) by simp [feed, hst, hc2]]
        exact fin_sub htp h c B hB hst hc2
      · rw [show feed m c = (Ms.zero, some ⟨5, (c.toNat : Int), m.opt, [], false⟩) by simp [feed, hst, hc, hc2]]
        exact fin_bad htp h c B hB hst hc hc2

end Go.Proofs.YtbnfhklpobephaaGreatDoor
/- Package nvt: what has come in, wherever it lies in a block. -/
namespace Go.Proofs.YtbnfhklpobephaaGreatDoor
open Go Go.RowKit
set_option maxRecDepth 100000
set_option maxHeartbeats 4000000

theorem drop_at {α : Type} {l : List α} {k : Nat} {x : α} (h : l[k]? = some x) : l.drop k = x :: l.drop (k + 1) := by
  obtain ⟨hk, e⟩ := List.getElem?_eq_some_iff.1 h
  rw [List.drop_eq_getElem_cons hk, e]

theorem next_in {w : World} {g mo : Nat} {tp : TypeId} {cs : List Value} {b : Bool} (hg : Blk w g tp cs) (hm : cs[mo]? = some (.bool b)) (x : UInt8) (r : Bool) :
    Calls Tryz.prog 161 #[.pointer (some ⟨g, mo, none⟩), .int .u8 (x.toNat : Int), .bool r] w fun e w' => e = .returned (.bool (!(b && decide (x.toNat = 0) && !r))) ∧ Hid (Blk w' g tp (cs.set mo (.bool (decide (x.toNat = 13) && !r)))) ∧ Hid (Only (· = g) w w') := by
  have HG := Lib.hid hg
  have c0 : w.cell? ⟨g, mo, none⟩ = some (.bool b) := by rw [hg.cell]; exact hm
  have f0 := hg.frozen mo
  obtain ⟨z, hz⟩ : ∃ z : Int, z = (x.toNat : Int) := ⟨_, rfl⟩
  rw [← hz]
  obtain ⟨p0, h0⟩ : ∃ p, p = decide (x.toNat = 0) := ⟨_, rfl⟩
  obtain ⟨p1, h1⟩ : ∃ p, p = decide (x.toNat = 13) := ⟨_, rfl⟩
  rw [← h0, ← h1]
  have e0 : (z == 0) = p0 := by rw [h0, hz, Bool.eq_iff_iff]; simp
  have e0' : decide (z = 0) = p0 := by rw [h0, hz, Bool.eq_iff_iff]; simp
  have e1 : (z == 13) = p1 := by rw [h1, hz, Bool.eq_iff_iff]; simp; omega
  have e1' : decide (z = 13) = p1 := by rw [h1, hz, Bool.eq_iff_iff]; simp; omega
  clear hg h0 h1 hz hm
  cases b <;> cases r <;> cases p0 <;> cases p1
  all_goals
    go_enter Tryz.func161, Tryz.ntmps161
    go_wp2
    go_ret
    exact ⟨rfl, HG.out.setCell mo _, (Only.refl (· = g) w).setCell (p := ⟨g, mo, none⟩) (.inl rfl) _⟩
end Go.Proofs.YtbnfhklpobephaaGreatDoor
