
/- Words for memory that the proofs of this seat share: a block known whole, a source of bytes, what has turned between two worlds; the copy of bytes, and the text of bytes. -/
import Derived.Test.YtgknhojjnnljkaaDoorRows
import Derived.WalkKit
import Derived.WalkSpells
import Derived.WalkLawsBesides
import Derived.BigQuiet
import Derived.BigRegion
import Derived.Lib.Hide
import Derived.Laws.CopyOwn
import Derived.Deep.Draws
import Derived.StillTailTactics
namespace Go.Proofs.YtgknhojjnnljkaaDoor
open Go Go.RowKit

/-- A byte as a cell holds it. -/
def B8 (x : UInt8) : Value := .int .u8 (x.toNat : Int)
theorem B8_one (x : UInt8) : (B8 x).oneCell' = true := rfl

/-- Block g is known whole. -/
def Blk (w : World) (g : Nat) (t : TypeId) (cs : List Value) : Prop := w.heap[g]? = some (.cells cs.toArray t (0, 0))

/-- Between a and w only the blocks of S, and new ones, have turned. -/
structure Only (S : Nat → Prop) (a w : World) : Prop where
  os : w.os = a.os
  tape : w.tape = a.tape
  output : w.output = a.output
  size : a.heap.size ≤ w.heap.size
  block : ∀ k, k < a.heap.size → ¬ S k → w.heap[k]? = a.heap[k]?

section
variable {S T : Nat → Prop} {a b c w : World}
theorem Only.refl (S : Nat → Prop) (a : World) : Only S a a := ⟨rfl, rfl, rfl, Nat.le_refl _, fun _ _ _ => rfl⟩
theorem Only.trans (h : Only S a b) (k : Only T b c) (hT : ∀ i, T i → S i ∨ a.heap.size ≤ i) : Only S a c :=
  ⟨k.os.trans h.os, k.tape.trans h.tape, k.output.trans h.output, Nat.le_trans h.size k.size, fun i hi hS =>
    (k.block i (Nat.lt_of_lt_of_le hi h.size) (fun ht => by rcases hT i ht with h1 | h1; exact hS h1; omega)).trans (h.block i hi hS)⟩
theorem Only.mono (h : Only S a w) (hT : ∀ i, S i → T i ∨ a.heap.size ≤ i) : Only T a w := (Only.refl T a).trans h hT
theorem Only.drew (h : Only S a w) : Only S a w.drew := ⟨h.os, h.tape, h.output, h.size, h.block⟩
theorem Only.drewN (h : Only S a w) (n : Nat) : Only S a (w.drewN n) := ⟨h.os, h.tape, h.output, h.size, h.block⟩
theorem Only.alloc (h : Only S a w) (o : Obj) : Only S a (w.alloc o) :=
  ⟨h.os, h.tape, h.output, Nat.le_trans h.size (by simp), fun k hk hS => (Below.heap_alloc w o k (Nat.lt_of_lt_of_le hk h.size)).trans (h.block k hk hS)⟩
theorem Only.setCell (h : Only S a w) {p : Addr} (hp : S p.block ∨ a.heap.size ≤ p.block) (u : Value) : Only S a (w.setCell p u) :=
  ⟨h.os, h.tape, h.output, by simpa [World.setCell] using h.size, fun k hk hS => (Below.heap_setCell w p u k (by rintro rfl; rcases hp with hp | hp; exact hS hp; omega)).trans (h.block k hk hS)⟩
theorem Only.setRow (h : Only S a w) {g : Nat} (hg : S g ∨ a.heap.size ≤ g) (cs : Array Value) : Only S a (w.setRow g cs) :=
  ⟨h.os, h.tape, h.output, by simpa [World.setRow] using h.size, fun k hk hS => (setRow_other w g k cs (by rintro rfl; rcases hg with hg | hg; exact hS hg; omega)).trans (h.block k hk hS)⟩
theorem Only.below (h : Only S a w) {B : Nat} (hB : B ≤ a.heap.size) (hS : ∀ i, S i → B ≤ i) : Below B a w :=
  ⟨h.os, h.tape, h.output, h.size, fun k hk => h.block k (by omega) (fun hs => by have := hS k hs; omega)⟩
theorem Only.cell (h : Only S a w) {p : Addr} (hp : p.block < a.heap.size) (hS : ¬ S p.block) : w.cell? p = a.cell? p := World.cell?_of_block (h.block _ hp hS)
theorem Only.frozen (h : Only S a w) {p : Addr} (hp : p.block < a.heap.size) (hS : ¬ S p.block) : w.frozen? p = a.frozen? p := World.frozen?_of_block (h.block _ hp hS)
theorem Only.cellv (h : Only S a w) {p : Addr} {v : Value} (hc : a.cell? p = some v) (hS : ¬ S p.block) : w.cell? p = some v :=
  (h.cell (World.block_lt_of_cell? a p hc) hS).trans hc
end

section
variable {w w' : World} {g : Nat} {t : TypeId} {cs : List Value}
theorem Blk.lt (h : Blk w g t cs) : g < w.heap.size := by
  rcases Nat.lt_or_ge g w.heap.size with hlt | hge
  · exact hlt
  · unfold Blk at h; rw [Array.getElem?_eq_none hge] at h; cases h
theorem Blk.cell (h : Blk w g t cs) (i : Nat) : w.cell? ⟨g, i, none⟩ = cs[i]? := by
  rw [cell_of_row w g i cs.toArray t (0, 0) h]; simp
theorem Blk.frozen (h : Blk w g t cs) (i : Nat) : w.frozen? ⟨g, i, none⟩ = false := by
  unfold Blk at h
  simp [World.frozen?, h]
theorem Blk.drew (h : Blk w g t cs) : Blk w.drew g t cs := h
theorem Blk.drewN (h : Blk w g t cs) (n : Nat) : Blk (w.drewN n) g t cs := h
theorem Blk.only {S : Nat → Prop} (h : Blk w g t cs) (ho : Only S w w') (hS : ¬ S g) : Blk w' g t cs := (ho.block g h.lt hS).trans h
theorem Blk.alloc (h : Blk w g t cs) (o : Obj) : Blk (w.alloc o) g t cs := (Below.heap_alloc w o g h.lt).trans h
theorem Blk.new (w : World) (t : TypeId) (cs : List Value) : Blk (w.alloc (.cells cs.toArray t)) w.heap.size t cs := heap_alloc_new w _
theorem Blk.setCell (h : Blk w g t cs) (i : Nat) (u : Value) : Blk (w.setCell ⟨g, i, none⟩ u) g t (cs.set i u) := by
  unfold Blk at h ⊢
  simp [World.setCell, Array.getElem?_modify, h]
theorem Blk.far (h : Blk w g t cs) {p : Addr} (hp : g ≠ p.block) (u : Value) : Blk (w.setCell p u) g t cs := (Below.heap_setCell w p u g hp).trans h
theorem Blk.ne {g' : Nat} {t' : TypeId} {cs' : List Value} (h : Blk w g t cs) (h' : Blk w g' t' cs') (hne : t ≠ t') : g ≠ g' := by
  rintro rfl
  unfold Blk at h h'
  rw [h] at h'
  injection h' with h'
  injection h' with _ ht
  exact hne ht
end

/-- A slice value '.slice A n _' that holds the bytes xs. -/
def Src (w : World) (A : Option Addr) (n : Nat) (xs : List UInt8) : Prop :=
  xs.length = n ∧ (0 < n → ∃ ad, A = some ad ∧ ∀ (j : Nat) (x : UInt8), xs[j]? = some x → w.cell? (ad.add j) = some (B8 x))

section
variable {w w' : World} {A : Option Addr} {n : Nat} {xs : List UInt8}
theorem Src.nil (w : World) (A : Option Addr) : Src w A 0 [] := ⟨rfl, fun h => absurd h (by omega)⟩
theorem block_add (a : Addr) (n : Nat) : (a.add n).block = a.block := by unfold Addr.add; split <;> rfl
theorem Src.keep (h : Src w A n xs) (hk : ∀ ad, A = some ad → ∀ p : Addr, p.block = ad.block → w'.cell? p = w.cell? p ∨ w.cell? p = none) : Src w' A n xs :=
  ⟨h.1, fun hn => by
    obtain ⟨ad, e, hc⟩ := h.2 hn
    refine ⟨ad, e, fun j x hx => ?_⟩
    rcases hk ad e (ad.add j) (block_add _ _) with h1 | h1
    · rw [h1]; exact hc j x hx
    · rw [hc j x hx] at h1; cases h1⟩
theorem Src.only {S : Nat → Prop} (h : Src w A n xs) (ho : Only S w w') (hS : 0 < n → ∀ ad, A = some ad → ¬ S ad.block) : Src w' A n xs :=
  ⟨h.1, fun hn => by
    obtain ⟨ad, e, hc⟩ := h.2 hn
    exact ⟨ad, e, fun j x hx => ho.cellv (hc j x hx) (by rw [block_add]; exact hS hn ad e)⟩⟩
/-- It lies in memory that is there. -/
theorem Src.lt (h : Src w A n xs) (hn : 0 < n) : ∀ ad, A = some ad → ad.block < w.heap.size := by
  obtain ⟨ad, e, hc⟩ := h.2 hn
  intro ad' e'
  rw [e] at e'
  injection e' with e'
  subst e'
  have hl := h.1
  have h1 := World.block_lt_of_cell? w _ (hc 0 (xs[0]'(by omega)) (List.getElem?_eq_getElem (by omega)))
  rwa [block_add] at h1
end

/-- copy(dst, src): dst in a block known whole, src a source of bytes: so many bytes are laid from place off on. -/
theorem step_copy {P : Program} {ops : Array Oper} {rest : List Oper} {o : Oper} {a : Act} {w : World} {Q : Exit → Act → World → Prop} (hgd : o.guard = none) (d s : Operand) (dT sT : TypeId)
    (ho : o.op = .call { callee := .builtin .copy, args := #[d, s], argTypes := #[dT, sT] }) (elem : TypeId) (hu : P.underlying dT = some (.slice elem)) (hsz : (P.info? elem).map (·.size) = some 1)
    (dp sp : Option Addr) (dLen dCap sLen sCap : Nat) (hd : a.eval d = .slice dp dLen dCap) (hs : a.eval s = .slice sp sLen sCap)
    (g off : Nat) (cur : List Value) (t : TypeId) (hg : Blk w g t cur) (xs : List UInt8) (hn : xs.length = Nat.min sLen dLen)
    (hpos : 0 < xs.length → dp = some ⟨g, off, none⟩ ∧ Src w sp xs.length xs) (hfit : off + xs.length ≤ cur.length)
    (h : ∀ w', Hid (Blk w' g t (splice cur off (xs.map B8))) → Hid (w'.heap.size = w.heap.size) → Only (· = g) w w' → wpList P ops Q rest (a.put o.dst (.int .i64 (xs.length : Int))) w') :
    wpList P ops Q (o :: rest) a w := by
  by_cases h0 : xs.length = 0
  · obtain rfl : xs = [] := List.eq_nil_of_length_eq_zero h0
    refine wpList_copy_nothing hgd d s dT sT ho elem hu hsz dp sp dLen dCap sLen sCap hd hs (by simpa using hn.symm) ?_
    exact h w (show Blk _ _ _ _ by simpa [splice] using hg) (show _ = _ from rfl) (Only.refl _ _)
  · obtain ⟨rfl, hsrc⟩ := hpos (by omega)
    obtain ⟨ad, rfl, hc⟩ := hsrc.2 (by omega)
    have hl : (xs.map B8).length = xs.length := by simp
    have := wpList_copy_own (P := P) (w := w) (ops := ops) (rest := rest) (o := o) (a := a) (Q := Q) hgd d s dT sT ho elem hu hsz g off dLen dCap ad sLen sCap hd hs cur.toArray t hg (xs.map B8) (by simpa using hn)
      (fun j v hv => by
        rw [List.getElem?_map] at hv
        cases hx : xs[j]? with
        | none => rw [hx] at hv; cases hv
        | some x =>
          rw [hx] at hv
          injection hv with hv
          subst hv
          exact hc j x hx)
      (by simpa using hfit) (fun v hv => by
        obtain ⟨x, _, rfl⟩ := List.mem_map.1 hv
        exact B8_one x)
    refine this ?_
    rw [hl]
    exact h _ (show Blk _ _ _ _ by
      unfold Blk
      have := setRow_heap w g cur.toArray (splice cur off (xs.map B8)).toArray t (0, 0) hg
      simpa [splice] using this) (show _ = _ by simp [World.setRow]) ((Only.refl (· = g) w).setRow (.inl rfl) _)

/-- string(b). -/
theorem text_of {P : Program} {w : World} {A : Option Addr} {n : Nat} {xs : List UInt8} (h : Src w A n xs) (c : Nat) (src dst e : TypeId) (hs : P.underlying src = some (.slice e)) (he : P.underlying e = some (.int .u8)) (hd : P.underlying dst = some .string) :
    (convert src dst (.slice A n c)).run P w = .ok (.string ⟨xs.toArray⟩) w := by
  rw [run_convert_bytes_string w src dst e A n c hs he hd]
  obtain ⟨hl, hc⟩ := h
  subst hl
  cases A with
  | none =>
    have : xs = [] := by
      rcases xs with _ | ⟨x, xs⟩
      · rfl
      · obtain ⟨ad, h, _⟩ := hc (by simp)
        cases h
    subst this
    simp [Conv.bytesToString]
    rfl
  | some ad =>
    have hload : (loadCells ad xs.length).run P w = .ok ((xs.map fun x => (x.toNat : Int)).map (Value.int .u8)).toArray w := by
      have h1 := run_loadCells_list (P := P) w ad (xs.map B8) (fun j v hv => by
        rw [List.getElem?_map] at hv
        cases hx : xs[j]? with
        | none => rw [hx] at hv; cases hv
        | some x =>
          rw [hx] at hv
          injection hv with hv
          subst hv
          obtain ⟨ad', e, hc'⟩ := hc (by have := (List.getElem?_eq_some_iff.1 hx).1; omega)
          cases e
          exact hc' j x hx)
      rw [List.length_map] at h1
      rw [h1, List.map_map]
      rfl
    rw [run_bytesToString w ad xs.length c _ hload]
    have key : ∀ (l : List UInt8) (r : ByteArray), (l.map fun x => (x.toNat : Int)).foldl (fun r n => r.push (UInt8.ofNat n.toNat)) r = r ++ ByteArray.mk l.toArray := by
      intro l
      induction l with
      | nil =>
        intro r
        simp only [List.map_nil, List.foldl_nil]
        apply ByteArray.ext
        simp
      | cons x l ih =>
        intro r
        simp only [List.map_cons, List.foldl_cons, ih]
        apply ByteArray.ext
        simp [ByteArray.push]
    rw [key]
    congr 2

/-- make([]byte, n). -/
def zeros (m : Nat) : List Value := List.replicate m (.int .u8 0)
theorem length_zeros (m : Nat) : (zeros m).length = m := by simp [zeros]
theorem made_zeros (m : Nat) : madeCells #[.int .u8 0] m = (zeros m).toArray := by
  apply Array.ext
  · simp [madeCells, zeros]
  · intro i h1 h2
    simp [madeCells, zeros, Nat.mod_one]
theorem run_make_bytes {P : Program} (t e : TypeId) (i : TypeInfo) (ht : P.underlying t = some (.slice e)) (hi : P.info? e = some i) (hz : i.zero = some (.int .u8 0)) (hs : i.size = 1) (hb : i.bytes = 1)
    (kl kc : IntKind) (m : Nat) (hm : m ≤ 281474976710656) (W : World) :
    (Instr.makeSlice t (.int kl (m : Int)) (.int kc (m : Int))).run P W = .ok (.slice (some ⟨W.heap.size, 0, none⟩) m m) (W.alloc (.cells (zeros m).toArray e)) := by
  have h := run_make (P := P) W t e i (.int .u8 0) ht hi hz kl kc m m (by omega) (Int.le_refl _) (by rw [hb]; omega) (by omega)
  rw [h, hs, Nat.mul_one]
  simp only [Int.toNat_natCast]
  rw [← made_zeros]
  rfl

/-- A region that draws its order, whose first n operations read or call quietly; the others come in the order of the text. -/
theorem region_tail {P : Program} {id : Nat} {Q : Exit → Act → World → Prop} {a : Act} {w : World} {l : List Oper} (n : Nat) (hm : P.follows .mixedOrders = true) (hB : Region.lexTailB .any l.toArray n = true)
    (h : wpStill P l.toArray w.drew (fun a' => wpList P l.toArray Q (l.drop n) a' w.drew) (l.take n) a) : (Code.region id l.toArray true).wp P Q a w := wp_region_still_tail n hm hB h
/-- A callee's contract, as such a region asks it. -/
theorem still_of {P : Program} {f : FuncId} {args : Array Value} {w : World} {v : Value} (h : Calls P f args w fun e w' => e = .returned v ∧ w = w') : Calls P f args w fun e w' => e = .returned v ∧ w' = w :=
  h.mono fun _ _ ⟨he, hw⟩ => ⟨he, hw.symm⟩

/-- A slice of bytes that was made from block B on: it holds xs, and nothing else; nil, if there are none. -/
def Made (B : Nat) (e : TypeId) (w : World) (A : Option Addr) (n : Nat) (xs : List UInt8) : Prop :=
  xs.length = n ∧ (n = 0 ∧ A = none ∨ ∃ N, A = some ⟨N, 0, none⟩ ∧ B ≤ N ∧ Blk w N e (xs.map B8))
section
variable {B : Nat} {e : TypeId} {w w' : World} {A : Option Addr} {n : Nat} {xs : List UInt8}
theorem Blk.src {N off : Nat} {cs : List Value} {m : Nat} (h : Blk w N e cs) (hl : xs.length = m) (hx : ∀ (j : Nat) (x : UInt8), xs[j]? = some x → cs[off + j]? = some (B8 x)) : Src w (some ⟨N, off, none⟩) m xs :=
  ⟨hl, fun _ => ⟨_, rfl, fun j x hj => by
    rw [show (⟨N, off, none⟩ : Addr).add j = ⟨N, off + j, none⟩ from by unfold Addr.add; split <;> simp_all, h.cell]
    exact hx j x hj⟩⟩
theorem Made.src (h : Made B e w A n xs) : Src w A n xs := by
  obtain ⟨hl, ⟨rfl, rfl⟩ | ⟨N, rfl, _, hb⟩⟩ := h
  · obtain rfl : xs = [] := List.eq_nil_of_length_eq_zero hl
    exact Src.nil _ _
  · exact hb.src hl fun j x hj => by simp [hj]
theorem Made.far (h : Made B e w A n xs) : ∀ ad, A = some ad → B ≤ ad.block ∧ ad.block < w.heap.size := by
  obtain ⟨_, ⟨_, rfl⟩ | ⟨N, rfl, h1, hb⟩⟩ := h
  · rintro ad ⟨⟩
  · rintro ad ⟨⟩
    exact ⟨h1, hb.lt⟩
theorem Made.only {S : Nat → Prop} (h : Made B e w A n xs) (ho : Only S w w') (hS : ∀ i, B ≤ i → i < w.heap.size → ¬ S i) : Made B e w' A n xs := by
  obtain ⟨h1, h2 | ⟨N, rfl, h3, hb⟩⟩ := h
  · exact ⟨h1, .inl h2⟩
  · exact ⟨h1, .inr ⟨N, rfl, h3, hb.only ho (hS N h3 hb.lt)⟩⟩
end

/-- A new block of bytes, marked or not. -/
theorem src_new (w : World) (xs : List UInt8) (cs : Array Value) (e : TypeId) (fr : Nat × Nat) (n : Nat) (hc : cs = (xs.map B8).toArray) (hn : xs.length = n) : Src (w.alloc (.cells cs e fr)) (some ⟨w.heap.size, 0, none⟩) n xs := by
  subst hc
  refine ⟨hn, fun _ => ⟨_, rfl, fun j x hx => ?_⟩⟩
  rw [show (⟨w.heap.size, 0, none⟩ : Addr).add j = ⟨w.heap.size, j, none⟩ from by unfold Addr.add; split <;> simp_all]
  rw [cell_of_row _ _ _ _ e fr (heap_alloc_new w _)]
  simp [hx]

/-- int(uint(s) % m). -/
theorem u64_rem (s : Int) (m : Nat) (hm : 0 < m) : ∃ K : Nat, K < m ∧ (IntKind.u64.wrap s).tmod (m : Int) = (K : Int) := by
  have h0 : 0 ≤ IntKind.u64.wrap s := by
    rw [IntKind.wrap_u64]
    exact Int.emod_nonneg _ (by decide)
  rw [Int.tmod_eq_emod_of_nonneg h0]
  have h1 := Int.emod_nonneg (IntKind.u64.wrap s) (b := (m : Int)) (by omega)
  have h2 := Int.emod_lt_of_pos (IntKind.u64.wrap s) (b := (m : Int)) (by omega)
  exact ⟨((IntKind.u64.wrap s) % (m : Int)).toNat, by omega, by omega⟩
theorem wrap64_nat (K : Nat) (h : K ≤ 9223372036854775807) : wrap64 (K : Int) = (K : Int) := IntWalk.wrap64_in _ (by omega)
end Go.Proofs.YtgknhojjnnljkaaDoor
