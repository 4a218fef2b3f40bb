/- Several texts in one. -/
import Derived.Test.YtbnfhklpobephaaGreatDoorRows
import Derived.WalkKit
import Derived.WalkSpells
import Derived.WalkLawsBesides
import Derived.BigQuiet
import Derived.BigRegion
import Derived.Lib.Hide
import Derived.Laws.CopyOwn
import Derived.Deep.Draws
import Derived.StillTailTactics
import Derived.Laws.OwnMore
import Derived.Deep.AppendLies
import Derived.Maps.AppendAt
import Derived.OwnWalk
import Derived.Lib.AppendZerosOnto
import Derived.Lib.Overlaps
import Derived.Deep.RegionLaw
import Derived.Outline
import Derived.WalkMore
import Derived.ScopeJumps
import Derived.Deep.MidRow
import Derived.Laws.ResultCell
import Derived.Deep.AppendSrc
import Derived.Deep.DeepCutAuto
import Derived.Deep.Slices
import Derived.Deep.Upon
import Derived.Great.BuildSlice
import Derived.Deep.WholeRow
/- Words for memory that the proofs of this seat share: a block known whole, a source of bytes, what has turned between two worlds; the copy of bytes, and the text of bytes. -/
namespace Go.Proofs.YtbnfhklpobephaaGreatDoor
open Go Go.RowKit

/-- A byte as a cell holds it. -/
def B8 (x : UInt8) : Value := .int .u8 (x.toNat : Int)
theorem B8_one (x : UInt8) : (B8 x).oneCell' = true := rfl

/-- Block g is known whole. -/
def Blk (w : World) (g : Nat) (t : TypeId) (cs : List Value) : Prop := w.heap[g]? = some (.cells cs.toArray t (0, 0))

/-- Between a and w only the blocks of S, and new ones, have turned. -/
structure Only (S : Nat → Prop) (a w : World) : Prop where
  os : w.os = a.os
  tape : w.tape = a.tape
  output : w.output = a.output
  size : a.heap.size ≤ w.heap.size
  block : ∀ k, k < a.heap.size → ¬ S k → w.heap[k]? = a.heap[k]?

section
variable {S T : Nat → Prop} {a b c w : World}
theorem Only.refl (S : Nat → Prop) (a : World) : Only S a a := ⟨rfl, rfl, rfl, Nat.le_refl _, fun _ _ _ => rfl⟩
theorem Only.trans (h : Only S a b) (k : Only T b c) (hT : ∀ i, T i → S i ∨ a.heap.size ≤ i) : Only S a c :=
  ⟨k.os.trans h.os, k.tape.trans h.tape, k.output.trans h.output, Nat.le_trans h.size k.size, fun i hi hS =>
    (k.block i (Nat.lt_of_lt_of_le hi h.size) (fun ht => by rcases hT i ht with h1 | h1; exact hS h1; omega)).trans (h.block i hi hS)⟩
theorem Only.mono (h : Only S a w) (hT : ∀ i, S i → T i ∨ a.heap.size ≤ i) : Only T a w := (Only.refl T a).trans h hT
theorem Only.drew (h : Only S a w) : Only S a w.drew := ⟨h.os, h.tape, h.output, h.size, h.block⟩
theorem Only.drewN (h : Only S a w) (n : Nat) : Only S a (w.drewN n) := ⟨h.os, h.tape, h.output, h.size, h.block⟩
theorem Only.alloc (h : Only S a w) (o : Obj) : Only S a (w.alloc o) :=
  ⟨h.os, h.tape, h.output, Nat.le_trans h.size (by simp), fun k hk hS => (Below.heap_alloc w o k (Nat.lt_of_lt_of_le hk h.size)).trans (h.block k hk hS)⟩
theorem Only.setCell (h : Only S a w) {p : Addr} (hp : S p.block ∨ a.heap.size ≤ p.block) (u : Value) : Only S a (w.setCell p u) :=
  ⟨h.os, h.tape, h.output, by simpa [World.setCell] using h.size, fun k hk hS => (Below.heap_setCell w p u k (by rintro rfl; rcases hp with hp | hp; exact hS hp; omega)).trans (h.block k hk hS)⟩
theorem Only.setRow (h : Only S a w) {g : Nat} (hg : S g ∨ a.heap.size ≤ g) (cs : Array Value) : Only S a (w.setRow g cs) :=
  ⟨h.os, h.tape, h.output, by simpa [World.setRow] using h.size, fun k hk hS => (setRow_other w g k cs (by rintro rfl; rcases hg with hg | hg; exact hS hg; omega)).trans (h.block k hk hS)⟩
theorem Only.below (h : Only S a w) {B : Nat} (hB : B ≤ a.heap.size) (hS : ∀ i, S i → B ≤ i) : Below B a w :=
  ⟨h.os, h.tape, h.output, h.size, fun k hk => h.block k (by omega) (fun hs => by have := hS k hs; omega)⟩
theorem Only.cell (h : Only S a w) {p : Addr} (hp : p.block < a.heap.size) (hS : ¬ S p.block) : w.cell? p = a.cell? p := World.cell?_of_block (h.block _ hp hS)
theorem Only.frozen (h : Only S a w) {p : Addr} (hp : p.block < a.heap.size) (hS : ¬ S p.block) : w.frozen? p = a.frozen? p := World.frozen?_of_block (h.block _ hp hS)
theorem Only.cellv (h : Only S a w) {p : Addr} {v : Value} (hc : a.cell? p = some v) (hS : ¬ S p.block) : w.cell? p = some v :=
  (h.cell (World.block_lt_of_cell? a p hc) hS).trans hc
end

section
variable {w w' : World} {g : Nat} {t : TypeId} {cs : List Value}
theorem Blk.lt (h : Blk w g t cs) : g < w.heap.size := by
  rcases Nat.lt_or_ge g w.heap.size with hlt | hge
  · exact hlt
  · unfold Blk at h; rw [Array.getElem?_eq_none hge] at h; cases h
theorem Blk.cell (h : Blk w g t cs) (i : Nat) : w.cell? ⟨g, i, none⟩ = cs[i]? := by
  rw [cell_of_row w g i cs.toArray t (0, 0) h]; simp
theorem Blk.frozen (h : Blk w g t cs) (i : Nat) : w.frozen? ⟨g, i, none⟩ = false := by
  unfold Blk at h
  simp [World.frozen?, h]
theorem Blk.drew (h : Blk w g t cs) : Blk w.drew g t cs := h
theorem Blk.drewN (h : Blk w g t cs) (n : Nat) : Blk (w.drewN n) g t cs := h
theorem Blk.only {S : Nat → Prop} (h : Blk w g t cs) (ho : Only S w w') (hS : ¬ S g) : Blk w' g t cs := (ho.block g h.lt hS).trans h
theorem Blk.alloc (h : Blk w g t cs) (o : Obj) : Blk (w.alloc o) g t cs := (Below.heap_alloc w o g h.lt).trans h
theorem Blk.new (w : World) (t : TypeId) (cs : List Value) : Blk (w.alloc (.cells cs.toArray t)) w.heap.size t cs := heap_alloc_new w _
theorem Blk.setCell (h : Blk w g t cs) (i : Nat) (u : Value) : Blk (w.setCell ⟨g, i, none⟩ u) g t (cs.set i u) := by
  unfold Blk at h ⊢
  simp [World.setCell, Array.getElem?_modify, h]
theorem Blk.far (h : Blk w g t cs) {p : Addr} (hp : g ≠ p.block) (u : Value) : Blk (w.setCell p u) g t cs := (Below.heap_setCell w p u g hp).trans h
theorem Blk.ne {g' : Nat} {t' : TypeId} {cs' : List Value} (h : Blk w g t cs) (h' : Blk w g' t' cs') (hne : t ≠ t') : g ≠ g' := by
  rintro rfl
  unfold Blk at h h'
  rw [h] at h'
  injection h' with h'
  injection h' with _ ht
  exact hne ht
end

/-- A slice value '.slice A n _' that holds the bytes xs. -/
def Src (w : World) (A : Option Addr) (n : Nat) (xs : List UInt8) : Prop :=
  xs.length = n ∧ (0 < n → ∃ ad, A = some ad ∧ ∀ (j : Nat) (x : UInt8), xs[j]? = some x → w.cell? (ad.add j) = some (B8 x))

section
variable {w w' : World} {A : Option Addr} {n : Nat} {xs : List UInt8}
theorem Src.nil (w : World) (A : Option Addr) : Src w A 0 [] := ⟨rfl, fun h => absurd h (by omega)⟩
theorem block_add (a : Addr) (n : Nat) : (a.add n).block = a.block := by unfold Addr.add; split <;> rfl
theorem Src.keep (h : Src w A n xs) (hk : ∀ ad, A = some ad → ∀ p : Addr, p.block = ad.block → w'.cell? p = w.cell? p ∨ w.cell? p = none) : Src w' A n xs :=
  ⟨h.1, fun hn => by
    obtain ⟨ad, e, hc⟩ := h.2 hn
    refine ⟨ad, e, fun j x hx => ?_⟩
    rcases hk ad e (ad.add j) (block_add _ _) with h1 | h1
    · rw [h1]; exact hc j x hx
    · rw [hc j x hx] at h1; cases h1⟩
theorem Src.only {S : Nat → Prop} (h : Src w A n xs) (ho : Only S w w') (hS : 0 < n → ∀ ad, A = some ad → ¬ S ad.block) : Src w' A n xs :=
  ⟨h.1, fun hn => by
    obtain ⟨ad, e, hc⟩ := h.2 hn
    exact ⟨ad, e, fun j x hx => ho.cellv (hc j x hx) (by rw [block_add]; exact hS hn ad e)⟩⟩
/-- It lies in memory that is there. -/
theorem Src.lt (h : Src w A n xs) (hn : 0 < n) : ∀ ad, A = some ad → ad.block < w.heap.size := by
  obtain ⟨ad, e, hc⟩ := h.2 hn
  intro ad' e'
  rw [e] at e'
  injection e' with e'
  subst e'
  have hl := h.1
  have h1 := World.block_lt_of_cell? w _ (hc 0 (xs[0]'(by omega)) (List.getElem?_eq_getElem (by omega)))
  rwa [block_add] at h1
end

/-- copy(dst, src): dst in a block known whole, src a source of bytes: so many bytes are laid from place off on. -/
theorem step_copy {P : Program} {ops : Array Oper} {rest : List Oper} {o : Oper} {a : Act} {w : World} {Q : Exit → Act → World → Prop} (hgd : o.guard = none) (d s : Operand) (dT sT : TypeId)
    (ho : o.op = .call { callee := .builtin .copy, args := #[d, s], argTypes := #[dT, sT] }) (elem : TypeId) (hu : P.underlying dT = some (.slice elem)) (hsz : (P.info? elem).map (·.size) = some 1)
    (dp sp : Option Addr) (dLen dCap sLen sCap : Nat) (hd : a.eval d = .slice dp dLen dCap) (hs : a.eval s = .slice sp sLen sCap)
    (g off : Nat) (cur : List Value) (t : TypeId) (hg : Blk w g t cur) (xs : List UInt8) (hn : xs.length = Nat.min sLen dLen)
    (hpos : 0 < xs.length → dp = some ⟨g, off, none⟩ ∧ Src w sp xs.length xs) (hfit : off + xs.length ≤ cur.length)
    (h : ∀ w', Hid (Blk w' g t (splice cur off (xs.map B8))) → Hid (w'.heap.size = w.heap.size) → Only (· = g) w w' → wpList P ops Q rest (a.put o.dst (.int .i64 (xs.length : Int))) w') :
    wpList P ops Q (o :: rest) a w := by
  by_cases h0 : xs.length = 0
  · obtain rfl : xs = [] := List.eq_nil_of_length_eq_zero h0
    refine wpList_copy_nothing hgd d s dT sT ho elem hu hsz dp sp dLen dCap sLen sCap hd hs (by simpa using hn.symm) ?_
    exact h w (show Blk _ _ _ _ by simpa [splice] using hg) (show _ = _ from rfl) (Only.refl _ _)
  · obtain ⟨rfl, hsrc⟩ := hpos (by omega)
    obtain ⟨ad, rfl, hc⟩ := hsrc.2 (by omega)
    have hl : (xs.map B8).length = xs.length := by simp
    have := wpList_copy_own (P := P) (w := w) (ops := ops) (rest := rest) (o := o) (a := a) (Q := Q) hgd d s dT sT ho elem hu hsz g off dLen dCap ad sLen sCap hd hs cur.toArray t hg (xs.map B8) (by simpa using hn)
      (fun j v hv => by
        rw [List.getElem?_map] at hv
        cases hx : xs[j]? with
        | none => rw [hx] at hv; cases hv
        | some x =>
          rw [hx] at hv
          injection hv with hv
          subst hv
          exact hc j x hx)
      (by simpa using hfit) (fun v hv => by
        obtain ⟨x, _, rfl⟩ := List.mem_map.1 hv
        exact B8_one x)
    refine this ?_
    rw [hl]
    exact h _ (show Blk _ _ _ _ by
      unfold Blk
      have := setRow_heap w g cur.toArray (splice cur off (xs.map B8)).toArray t (0, 0) hg
      simpa [splice] using this) (show _ = _ by simp [World.setRow]) ((Only.refl (· = g) w).setRow (.inl rfl) _)

/-- string(b). -/
theorem text_of {P : Program} {w : World} {A : Option Addr} {n : Nat} {xs : List UInt8} (h : Src w A n xs) (c : Nat) (src dst e : TypeId) (hs : P.underlying src = some (.slice e)) (he : P.underlying e = some (.int .u8)) (hd : P.underlying dst = some .string) :
    (convert src dst (.slice A n c)).run P w = .ok (.string ⟨xs.toArray⟩) w := by
  rw [run_convert_bytes_string w src dst e A n c hs he hd]
  obtain ⟨hl, hc⟩ := h
  subst hl
  cases A with
  | none =>
    have : xs = [] := by
      rcases xs with _ | ⟨x, xs⟩
      · rfl
      · obtain ⟨ad, h, _⟩ := hc (by simp)
        cases h
    subst this
    simp [Conv.bytesToString]
    rfl
  | some ad =>
    have hload : (loadCells ad xs.length).run P w = .ok ((xs.map fun x => (x.toNat : Int)).map (Value.int .u8)).toArray w := by
      have h1 := run_loadCells_list (P := P) w ad (xs.map B8) (fun j v hv => by
        rw [List.getElem?_map] at hv
        cases hx : xs[j]? with
        | none => rw [hx] at hv; cases hv
        | some x =>
          rw [hx] at hv
          injection hv with hv
          subst hv
          obtain ⟨ad', e, hc'⟩ := hc (by have := (List.getElem?_eq_some_iff.1 hx).1; omega)
          cases e
          exact hc' j x hx)
      rw [List.length_map] at h1
      rw [h1, List.map_map]
      rfl
    rw [run_bytesToString w ad xs.length c _ hload]
    have key : ∀ (l : List UInt8) (r : ByteArray), (l.map fun x => (x.toNat : Int)).foldl (fun r n => r.push (UInt8.ofNat n.toNat)) r = r ++ ByteArray.mk l.toArray := by
      intro l
      induction l with
      | nil =>
        intro r
        simp only [List.map_nil, List.foldl_nil]
        apply ByteArray.ext
        simp
      | cons x l ih =>
        intro r
        simp only [List.map_cons, List.foldl_cons, ih]
        apply ByteArray.ext
        simp [ByteArray.push]
    rw [key]
    congr 2

/-- make([]byte, n). -/
def zeros (m : Nat) : List Value := List.replicate m (.int .u8 0)
/-- A region that draws its order, whose first n operations read or call quietly; the others come in the order of the text. -/
theorem region_tail {P : Program} {id : Nat} {Q : Exit → Act → World → Prop} {a : Act} {w : World} {l : List Oper} (n : Nat) (hm : P.follows .mixedOrders = true) (hB : Region.lexTailB .any l.toArray n = true)
    (h : wpStill P l.toArray w.drew (fun a' => wpList P l.toArray Q (l.drop n) a' w.drew) (l.take n) a) : (Code.region id l.toArray true).wp P Q a w := wp_region_still_tail n hm hB h
/-- A slice of bytes that was made from block B on: it holds xs, and nothing else; nil, if there are none. -/
def Made (B : Nat) (e : TypeId) (w : World) (A : Option Addr) (n : Nat) (xs : List UInt8) : Prop :=
  xs.length = n ∧ (n = 0 ∧ A = none ∨ ∃ N, A = some ⟨N, 0, none⟩ ∧ B ≤ N ∧ Blk w N e (xs.map B8))
section
variable {B : Nat} {e : TypeId} {w w' : World} {A : Option Addr} {n : Nat} {xs : List UInt8}
theorem Blk.src {N off : Nat} {cs : List Value} {m : Nat} (h : Blk w N e cs) (hl : xs.length = m) (hx : ∀ (j : Nat) (x : UInt8), xs[j]? = some x → cs[off + j]? = some (B8 x)) : Src w (some ⟨N, off, none⟩) m xs :=
  ⟨hl, fun _ => ⟨_, rfl, fun j x hj => by
    rw [show (⟨N, off, none⟩ : Addr).add j = ⟨N, off + j, none⟩ from by unfold Addr.add; split <;> simp_all, h.cell]
    exact hx j x hj⟩⟩
theorem Made.src (h : Made B e w A n xs) : Src w A n xs := by
  obtain ⟨hl, ⟨rfl, rfl⟩ | ⟨N, rfl, _, hb⟩⟩ := h
  · obtain rfl : xs = [] := List.eq_nil_of_length_eq_zero hl
    exact Src.nil _ _
  · exact hb.src hl fun j x hj => by simp [hj]
theorem Made.far (h : Made B e w A n xs) : ∀ ad, A = some ad → B ≤ ad.block ∧ ad.block < w.heap.size := by
  obtain ⟨_, ⟨_, rfl⟩ | ⟨N, rfl, h1, hb⟩⟩ := h
  · rintro ad ⟨⟩
  · rintro ad ⟨⟩
    exact ⟨h1, hb.lt⟩
theorem Made.only {S : Nat → Prop} (h : Made B e w A n xs) (ho : Only S w w') (hS : ∀ i, B ≤ i → i < w.heap.size → ¬ S i) : Made B e w' A n xs := by
  obtain ⟨h1, h2 | ⟨N, rfl, h3, hb⟩⟩ := h
  · exact ⟨h1, .inl h2⟩
  · exact ⟨h1, .inr ⟨N, rfl, h3, hb.only ho (hS N h3 hb.lt)⟩⟩
end

/-- A new block of bytes, marked or not. -/
theorem src_new (w : World) (xs : List UInt8) (cs : Array Value) (e : TypeId) (fr : Nat × Nat) (n : Nat) (hc : cs = (xs.map B8).toArray) (hn : xs.length = n) : Src (w.alloc (.cells cs e fr)) (some ⟨w.heap.size, 0, none⟩) n xs := by
  subst hc
  refine ⟨hn, fun _ => ⟨_, rfl, fun j x hx => ?_⟩⟩
  rw [show (⟨w.heap.size, 0, none⟩ : Addr).add j = ⟨w.heap.size, j, none⟩ from by unfold Addr.add; split <;> simp_all]
  rw [cell_of_row _ _ _ _ e fr (heap_alloc_new w _)]
  simp [hx]

theorem wrap64_nat (K : Nat) (h : K ≤ 9223372036854775807) : wrap64 (K : Int) = (K : Int) := IntWalk.wrap64_in _ (by omega)
end Go.Proofs.YtbnfhklpobephaaGreatDoor
/- Words for rows: slices that the program has laid itself, of whatever number of cells an element; the copy of elements of more cells than one. -/
namespace Go.Proofs.YtbnfhklpobephaaGreatDoor
open Go Go.RowKit

section
variable {S : Nat → Prop} {a w w' : World} {row : Option Nat} {B : Nat} {e : TypeId} {s n c : Nat} {v : Value} {A : Option Addr} {xs : List Value}
theorem Only.grown (h : Only S a w) (hg : w.grownBy w' row) (hr : ∀ k, row = some k → S k ∨ a.heap.size ≤ k) : Only S a w' :=
  ⟨hg.os.trans h.os, hg.tape.trans h.tape, hg.output.trans h.output, Nat.le_trans h.size hg.size, fun k hk hS =>
    (hg.block k (Nat.lt_of_lt_of_le hk h.size) (fun e => by rcases hr k e.symm with h1 | h1; exact hS h1; omega)).trans (h.block k hk hS)⟩
theorem own_only (h : w.ownsRow B e s v n xs) (ho : Only S w w') (hS : ∀ k, v.ownBlock = some k → ¬ S k) : w'.ownsRow B e s v n xs := by
  refine ⟨h.1, ?_⟩
  rcases h.2 with hn | ⟨g, cap, cur, rfl, hb, hgg, rest⟩
  · exact .inl hn
  · exact .inr ⟨g, cap, cur, rfl, hb, (ho.block g (Array.getElem?_eq_some_iff.1 hgg).1 (hS g rfl)).trans hgg, rest⟩
theorem own_same (h : w.ownsRow B e s v n xs) (ho : Only (fun _ => False) w w') : w'.ownsRow B e s v n xs := own_only h ho (fun _ _ h => h)
theorem own_mono {B' : Nat} (h : w.ownsRow B e s v n xs) (hB : B' ≤ B) : w.ownsRow B' e s v n xs := by
  refine ⟨h.1, ?_⟩
  rcases h.2 with hn | ⟨g, cap, cur, rfl, hb, rest⟩
  · exact .inl hn
  · exact .inr ⟨g, cap, cur, rfl, Nat.le_trans hB hb, rest⟩
theorem own_form (h : w.ownsRow B e s v n xs) : ∃ A c, v = .slice A n c ∧ n ≤ c ∧ c ≤ 9223372036854775807 := by
  rcases h.2 with ⟨rfl, rfl⟩ | ⟨g, cap, cur, rfl, _, _, h1, h2, _⟩
  · exact ⟨_, _, rfl, Nat.le_refl _, by omega⟩
  · exact ⟨_, _, rfl, h1, by simpa [maxLen] using h2⟩
theorem own_le (h : w.ownsRow B e s (.slice A n c) n xs) : n ≤ c ∧ c ≤ 9223372036854775807 := by
  obtain ⟨A', c', hv, h1, h2⟩ := own_form h
  injection hv with _ _ hc
  subst hc
  exact ⟨h1, h2⟩
theorem own_at (h : w.ownsRow B e s (.slice A n c) n xs) (hn : 0 < n) : ∃ g, A = some ⟨g, 0, none⟩ ∧ B ≤ g ∧ g < w.heap.size ∧ ∀ (j : Nat) (v : Value), xs[j]? = some v → w.cell? ⟨g, j, none⟩ = some v := by
  obtain ⟨g, cap, hv, hb, hlt⟩ := h.form hn
  injection hv with hA _ hc
  subst hA hc
  refine ⟨g, rfl, hb, hlt, fun j v hj => ?_⟩
  have := h.cells (g := g) rfl j v hj
  rwa [show (⟨g, 0, none⟩ : Addr).add j = ⟨g, j, none⟩ from by unfold Addr.add; split <;> simp_all] at this
theorem own_lt (h : w.ownsRow B e s v n xs) : ∀ k, v.ownBlock = some k → B ≤ k ∧ k < w.heap.size := h.lt
theorem own_ne {g : Nat} {t : TypeId} {cs : List Value} (h : w.ownsRow B e s v n xs) (hg : Blk w g t cs) (hne : e ≠ t) : ∀ k, v.ownBlock = some k → k ≠ g := by
  rcases h.2 with ⟨rfl, _⟩ | ⟨g', cap, cur, rfl, _, hh, _⟩
  · rintro k ⟨⟩
  · rintro k ⟨⟩ rfl
    unfold Blk at hg
    rw [hh] at hg
    injection hg with hg
    injection hg with _ ht
    exact hne ht
theorem own_own_ne {B' : Nat} {e' : TypeId} {s' n' : Nat} {v' : Value} {xs' : List Value} (h : w.ownsRow B e s v n xs) (h' : w.ownsRow B' e' s' v' n' xs') (hne : e ≠ e') : ∀ k, v.ownBlock = some k → v'.ownBlock ≠ some k := by
  intro k hk hk'
  rcases h'.2 with ⟨rfl, _⟩ | ⟨g', cap, cur, rfl, _, hh, _⟩
  · cases hk'
  · cases hk'
    exact own_ne (g := g') (t := e') (cs := cur.toList) h (by unfold Blk; simpa using hh) hne _ hk rfl
theorem own_kept {B' : Nat} {e' : TypeId} {s' n' : Nat} {v' : Value} {xs' : List Value} (h : w.ownsRow B e s v n xs) (h' : w.ownsRow B' e' s' v' n' xs') (hne : e ≠ e') (hg : w.grownBy w' v'.ownBlock) : w'.ownsRow B e s v n xs :=
  h.kept hg (by
    cases hq : v.ownBlock with
    | none => exact .inl rfl
    | some k => exact .inr (fun e => own_own_ne h h' hne k hq e.symm))
theorem own_nil (w : World) (B : Nat) (e : TypeId) (s : Nat) : w.ownsRow B e s (.slice none 0 0) 0 [] := World.ownsRow_nil w B e s
theorem own_of_blk {g : Nat} {cur : List Value} (hg : Blk w g e cur) (hl : cur.length = c * s) (ht : cur.take (n * s) = xs) (hn : n ≤ c) (hc : c ≤ 9223372036854775807) (hB : B ≤ g) : w.ownsRow B e s (.slice (some ⟨g, 0, none⟩) n c) n xs := by
  refine ⟨?_, .inr ⟨g, c, cur.toArray, rfl, hB, hg, hn, by simpa [maxLen] using hc, by simpa using hl, by simpa using ht⟩⟩
  rw [← ht, List.length_take, hl]
  exact Nat.min_eq_left (Nat.mul_le_mul_right _ hn)
end

section
variable {P : Program} {ops : Array Oper} {rest : List Oper} {o : Oper} {a : Act} {w : World} {Q : Exit → Act → World → Prop}
end

section
variable {P : Program} {ops : Array Oper} {rest : List Oper} {o : Oper} {a : Act} {w : World} {Q : Exit → Act → World → Prop}
end

end Go.Proofs.YtbnfhklpobephaaGreatDoor
/- What the walks of a seat share beside memory: a byte's row of the types' table, a struct's store and load as steps of the walk, a struct handed back out of a variable, a scope whose jumps lead on. -/
namespace Go.Proofs.YtbnfhklpobephaaGreatDoor
open Go Go.RowKit
set_option maxRecDepth 100000

theorem info_byte : (Tryz.prog.info? 5).map (fun i => (i.zero, i.size, i.bytes)) = some (some (.int .u8 0), 1, 1) := by kernel_rfl
theorem size_byte : (Tryz.prog.info? 5).map (·.size) = some 1 := by
  obtain ⟨i, hi, _, h1, _⟩ := info_parts info_byte
  rw [hi]
  simp [h1]

section
variable {P : Program} {ops : Array Oper} {rest : List Oper} {o : Oper} {a : Act} {w : World} {Q : Exit → Act → World → Prop}
/-- *p = v, a struct of so many cells, into a block known whole. -/
theorem step_store (hgd : o.guard = none) (ty : TypeId) (x y : Operand) (ho : o.op = .store ty x y) (g : Nat) (hx : a.eval x = .pointer (some ⟨g, 0, none⟩)) (cells : List Value) (hy : a.eval y = .agg cells.toArray)
    (t : TypeId) (old : List Value) (hg : Blk w g t old) (hi : (P.info? ty).map (·.size) = some cells.length) (hold : old.length = cells.length) (h1 : ∀ v ∈ cells, v.oneCell' = true)
    (h : ∀ w', Hid (Blk w' g t cells) → Hid (w'.heap.size = w.heap.size) → Only (· = g) w w' → wpList P ops Q rest (a.put o.dst undef) w') : wpList P ops Q (o :: rest) a w := by
  refine wpList_store_row hgd ty x y ho g cells.toArray hx hy t old.toArray hg (by simpa using hi) (by simpa using hold) (all_oneCell_toArray h1) ?_
  refine h _ (show Blk _ _ _ _ by
    unfold Blk
    exact setRow_heap w g old.toArray cells.toArray t (0, 0) hg) (show _ = _ by simp [World.setRow]) ((Only.refl (· = g) w).setRow (.inl rfl) _)
/-- A struct's value, as its type's zero and so many fields make it. -/
theorem step_build (hgd : o.guard = none) (t : TypeId) (parts : Array (Nat × Operand)) (ho : o.op = .build t parts) (cells : List Value) (hc : P.built t (parts.map fun (i, x) => (i, a.eval x)).toList = some cells.toArray)
    (h : wpList P ops Q rest (a.put o.dst (.agg cells.toArray)) w) : wpList P ops Q (o :: rest) a w := by
  refine wpList_build hgd t parts ho (by rw [hc]; rfl) ?_
  rw [hc]
  exact h
end

theorem Blk.new' {n : Nat} (w : World) (t : TypeId) (cs : List Value) (h : w.heap.size = n) : Blk (w.alloc (.cells cs.toArray t)) n t cs := by
  subst h
  exact Blk.new w t cs
theorem range_of {w : World} {g : Nat} {t : TypeId} {cs : List Value} (h : Blk w g t cs) : w.rangeAt g 0 cs := fun j v hv => by rw [Nat.zero_add, h.cell]; exact hv
theorem setCell_size (w : World) (p : Addr) (u : Value) : (w.setCell p u).heap.size = w.heap.size := by simp [World.setCell]

/-- A struct handed back out of a variable, beside a plain result. -/
theorem ret_cell2 {P : Program} {fn : Func} {R : Ending → World → Prop} {a : Act} {w : World} {p u : Tmp} {ty : TypeId} (h : fn.results = #[.cell p ty, .tmp u]) (g : Nat) (hp : a.tmps.getD p undef = .pointer (some ⟨g, 0, none⟩))
    (t : TypeId) (cs : List Value) (d : TypeDesc) (hb : Blk w g t cs) (hu : P.underlying ty = some d) (hd : d.isRow = true) (hi : (P.info? ty).map (·.size) = some cs.length) (hdf : a.defers = [])
    (hR : R (.returned (.tuple #[.agg cs.toArray, a.tmps.getD u undef])) w) : bodyPost P fn R .ret a w := by
  refine bodyPost_ret (v := .tuple #[.agg cs.toArray, a.tmps.getD u undef]) ?_ hdf hR
  rw [results_cell_tmp h, hp]
  have := run_loadVar_mid (P := P) w g 0 ty cs d (fun j v hv => by rw [Nat.zero_add, hb.cell]; exact hv) hu hd hi
  simp [asAddr, Result.andThen, this]
theorem ret_cell1 {P : Program} {fn : Func} {R : Ending → World → Prop} {a : Act} {w : World} {p : Tmp} {ty : TypeId} (h : fn.results = #[.cell p ty]) (g : Nat) (hp : a.tmps.getD p undef = .pointer (some ⟨g, 0, none⟩))
    (t : TypeId) (cs : List Value) (d : TypeDesc) (hb : Blk w g t cs) (hu : P.underlying ty = some d) (hd : d.isRow = true) (hi : (P.info? ty).map (·.size) = some cs.length) (hdf : a.defers = [])
    (hR : R (.returned (.agg cs.toArray)) w) : bodyPost P fn R .ret a w := by
  refine bodyPost_ret (v := .agg cs.toArray) ?_ hdf hR
  exact results_cell_row h a.tmps w g t cs.toArray (0, 0) d hp hb hu (by cases d <;> simp_all [TypeDesc.isRow]) (by simpa using hi)

/-- As Q; a jump leads on into the scope's own text, so many times at most. -/
def Exit.hop (P : Program) (c : Code) : Nat → (Exit → Act → World → Prop) → Exit → Act → World → Prop
  | 0, Q => fun e a w => match e with
    | .goto _ => False
    | e => Q e a w
  | n + 1, Q => fun e a w => match e with
    | .goto l => ∃ rest, findLabel c l = some rest ∧ rest.wp P (Exit.hop P c n Q) a w
    | e => Q e a w
theorem hop_ret {P : Program} {c : Code} {Q : Exit → Act → World → Prop} {a : Act} {w : World} (n : Nat) (h : Q .ret a w) : Exit.hop P c n Q .ret a w := by cases n <;> exact h
theorem hop_goto {P : Program} {C c : Code} {Q : Exit → Act → World → Prop} {a : Act} {w : World} (n l : Nat) (hC : Hid (C = c)) {rest : Code} (hf : findLabel c l = some rest) (h : rest.wp P (Exit.hop P C n Q) a w) : Exit.hop P C (n + 1) Q (.goto l) a w := by
  have := hC.out
  subst this
  exact ⟨rest, hf, h⟩
theorem wp_scope_hops {P : Program} {a : Act} {w : World} {Q : Exit → Act → World → Prop} {c : Code} (n : Nat) (h : ∀ C, Hid (C = c) → c.wp P (Exit.hop P C n Q) a w) : (Code.scope c).wp P Q a w := by
  have h := h c (Lib.hid rfl)
  have key : ∀ (n : Nat) (code : Code) (a : Act) (w : World), code.wp P (Exit.hop P c n Q) a w → ∀ b k cs, ∃ e a' w', Q e a' w' ∧ Arrives P (lone (b.at a (.code code :: .inScope c :: k)) cs w) b k cs e a' w' := by
    intro n
    induction n with
    | zero =>
      intro code a w h b k cs
      obtain ⟨e, a₁, w₁, hq, harr⟩ := h b (.inScope c :: k) cs
      cases e with
      | normal => exact ⟨.normal, a₁, w₁, hq, Steps.trans harr (.one step_inScope)⟩
      | exit id => exact ⟨.exit id, a₁, w₁, hq, fun k' hk => harr k' (by simp [exitTo, hk])⟩
      | goto l => exact hq.elim
      | ret => exact ⟨_, a₁, w₁, hq, harr⟩
      | panic ch => exact ⟨_, a₁, w₁, hq, harr⟩
      | outgrown => exact ⟨_, a₁, w₁, hq, harr⟩
    | succ n ih =>
      intro code a w h b k cs
      obtain ⟨e, a₁, w₁, hq, harr⟩ := h b (.inScope c :: k) cs
      cases e with
      | normal => exact ⟨.normal, a₁, w₁, hq, Steps.trans harr (.one step_inScope)⟩
      | exit id => exact ⟨.exit id, a₁, w₁, hq, fun k' hk => harr k' (by simp [exitTo, hk])⟩
      | goto l =>
        obtain ⟨rest, hf, hr⟩ := hq
        obtain ⟨e₂, a₂, w₂, hq₂, harr₂⟩ := ih rest a₁ w₁ hr b k cs
        have hg : gotoIn l (.inScope c :: k) = some (.code rest :: .inScope c :: k) := by simp [gotoIn, hf]
        exact ⟨e₂, a₂, w₂, hq₂, .of_steps (harr _ hg) harr₂⟩
      | ret => exact ⟨_, a₁, w₁, hq, harr⟩
      | panic ch => exact ⟨_, a₁, w₁, hq, harr⟩
      | outgrown => exact ⟨_, a₁, w₁, hq, harr⟩
  intro b k cs
  obtain ⟨e, a₁, w₁, hq, harr⟩ := key n c a w h b k cs
  exact ⟨e, a₁, w₁, hq, .of_steps (.one step_scope) harr⟩

/-- A scope that jumps back to one label: what holds at the label whenever the run comes to it, also the first time. -/
theorem wp_scope_back {P : Program} {a : Act} {w : World} {Q : Exit → Act → World → Prop} {c R : Code} (l : Nat) (J : Act → World → Prop) (μ : Act → World → Nat) (hf : findLabel c l = some (Code.skip.seq R))
    (first : (∀ a w, J a w → R.wp P (Exit.jump l J Q) a w) → c.wp P (Exit.jump l J Q) a w)
    (pass : ∀ a w, J a w → R.wp P (Exit.jump l (fun a' w' => J a' w' ∧ μ a' w' < μ a w) Q) a w) : (Code.scope c).wp P Q a w := by
  refine wp_scope_jumps l J μ hf (first fun a w hJ => Code.wp_mono (fun e a' w' h => ?_) (pass a w hJ)) (fun a w hJ => wp_seq (wp_skip (pass a w hJ)))
  cases e <;> first | exact ⟨h.1, h.2.1⟩ | exact h

theorem run_append_zero' {P : Program} (w : World) (t ty e : TypeId) (i : TypeInfo) (ht : P.underlying t = some (.slice e)) (hi : P.info? e = some i) (base : Option Addr) (n c : Nat) (hle : n ≤ c) (A : Option Addr) (c2 : Nat) :
    (Builtin.append_ #[t, t] ty #[.slice base n c, .slice A 0 c2]).run P w = .ok (.slice base n c) w := by
  cases A with
  | none => exact run_append_nothing w t t ty e i ht hi base n c hle _ (Go.Src.ofNil w ht c2)
  | some a => exact run_append_nothing w t t ty e i ht hi base n c hle _ (Go.Src.ofSlice w ht a 0 c2 [] (by simp) (by intro j u h; cases h) (by intro u h; cases h))
/-- append onto a row of the call's own: so many elements, or none. -/
theorem step_append_own {P : Program} {ops : Array Oper} {rest : List Oper} {o : Oper} {a : Act} {w : World} {Q : Exit → Act → World → Prop} (hgd : o.guard = none) (sx x : Operand) (t : TypeId) (ho : o.op = .call { callee := .builtin .append, args := #[sx, x], argTypes := #[t, t] })
    (B : Nat) (e : TypeId) (i : TypeInfo) (z : Value) (size bytes : Nat) (ht : P.underlying t = some (.slice e)) (hi : P.info? e = some i) (hz : i.zero = some z)
    (hsize : i.size = size) (hby : i.bytes = bytes) (hzs : z.cells.size = size) (hsz : 0 < size)
    (v : Value) (n : Nat) (xs : List Value) (hs : a.eval sx = v) (hrow : w.ownsRow B e size v n xs) (A : Option Addr) (m c : Nat) (news : List Value) (hx : a.eval x = .slice A m c) (hl : news.length = m * size)
    (hnews : 0 < m → ∃ ad, A = some ad ∧ ∀ (j : Nat) (u : Value), news[j]? = some u → w.cell? (ad.add j) = some u) (h1 : ∀ u ∈ news, u.oneCell' = true)
    (h63 : n + m ≤ 9223372036854775807) (hbytes : (n + m) * bytes ≤ 140737488355328) (hB : B ≤ w.heap.size)
    (h : ∀ A' c' w', n + m ≤ c' → c' ≤ 9223372036854775807 → Hid (w'.ownsRow B e size (.slice A' (n + m) c') (n + m) (xs ++ news) ∧ w.grownBy w' v.ownBlock ∧ (∀ k, (Value.slice A' (n + m) c').ownBlock = some k → v.ownBlock = some k ∨ w.heap.size ≤ k)) → wpList P ops Q rest (a.put o.dst (.slice A' (n + m) c')) w') :
    wpList P ops Q (o :: rest) a w := by
  by_cases hm : m = 0
  · subst hm
    obtain rfl : news = [] := List.eq_nil_of_length_eq_zero (by simpa using hl)
    obtain ⟨A0, c0, rfl, h2, h3⟩ := own_form hrow
    refine Lib.wpList_append_run w hgd sx x t t ho _ _ hs hx _ _ (run_append_zero' w t _ e i ht hi A0 n c0 h2 A c) ?_
    exact h A0 c0 w h2 h3 (show _ ∧ _ ∧ _ from ⟨by rw [List.append_nil]; exact hrow, ⟨rfl, rfl, rfl, Nat.le_refl _, fun _ _ _ => rfl⟩, fun k hk => .inl hk⟩)
  · obtain ⟨ad, rfl, hc⟩ := hnews (by omega)
    refine wpList_append_lies w hgd sx x t ho B e i z size bytes ht hi hz hsize hby hzs hsz v n xs hs hrow ad m c news hx hl hc h1 (by omega) (by simpa [maxLen] using h63) hbytes hB _ rfl ?_
    intro g cap w' hown hgr hat hlt
    have := own_le hown
    refine h _ _ w' this.1 this.2 (show _ ∧ _ ∧ _ from ⟨hown, hgr, fun k hk => ?_⟩)
    rcases hat with h2 | h2
    · exact .inl (h2.trans hk)
    · have h3 : g = k := by simpa [Value.ownBlock] using hk
      exact .inr (by omega)
end Go.Proofs.YtbnfhklpobephaaGreatDoor
/- A variable of a struct's type; the store of a whole struct in a region that draws its order. -/
namespace Go.Proofs.YtbnfhklpobephaaGreatDoor
open Go Go.RowKit

theorem at_add (g j : Nat) : (⟨g, 0, none⟩ : Addr).add j = ⟨g, j, none⟩ := by unfold Addr.add; split <;> simp_all

section
variable {P : Program} {ops : Array Oper} {rest : List Oper} {o : Oper} {a : Act} {w : World} {Q : Exit → Act → World → Prop}
/-- A variable of a struct's type. -/
theorem step_alloc (hgd : o.guard = none) (t : TypeId) (ho : o.op = .alloc t) (cells : List Value) (n : Nat) (hz : (P.info? t).map (fun i => (i.zero, i.size)) = some (some (.agg cells.toArray), n))
    (h : wpList P ops Q rest (a.put o.dst (.pointer (some ⟨w.heap.size, 0, none⟩))) (w.alloc (.cells cells.toArray t))) : wpList P ops Q (o :: rest) a w := by
  refine wpList_plain hgd fun K hK => ?_
  have hzz := (zero_of_info hz).1
  unfold Oper.wp execOp
  simp only [ho, Sem.run_bind, Instr.alloc, newVar, newRow, hzz, run_newObj_alloc, Sem.run_pure, Result.andThen_ok]
  exact hK _ _ h
end
/-- *p = v in a region that draws its order. -/
theorem step_storeR {P : Program} {ops : Array Oper} {o : Oper} {a : Act} {w : World} {K : Act → World → Prop} {Q : Exit → Act → World → Prop} {E : Prop} (ty : TypeId) (x y : Operand) (ho : o.op = .store ty x y) (hw : Region.wanted o (yielded ops a.tmps) = true)
    (g : Nat) (hx : a.eval x = .pointer (some ⟨g, 0, none⟩)) (cells : List Value) (hy : a.eval y = .agg cells.toArray) (t : TypeId) (old : List Value) (hg : Blk w g t old) (hi : (P.info? ty).map (·.size) = some cells.length) (hold : old.length = cells.length) (h1 : ∀ v ∈ cells, v.oneCell' = true)
    (h : ∀ w', Hid (Blk w' g t cells) → Hid (w'.heap.size = w.heap.size) → Only (· = g) w w' → K (a.put o.dst undef) w') : if Region.wanted o (yielded ops a.tmps) = true then Oper.wp P o a w K Q else E := by
  rw [if_pos hw]
  refine wp_store_row ty x y ho g cells.toArray hx hy t old.toArray hg (by simpa using hi) (by simpa using hold) (all_oneCell_toArray h1) ?_
  refine h _ (show Blk _ _ _ _ by
    unfold Blk
    exact setRow_heap w g old.toArray cells.toArray t (0, 0) hg) (show _ = _ by simp [World.setRow]) ((Only.refl (· = g) w).setRow (.inl rfl) _)
end Go.Proofs.YtbnfhklpobephaaGreatDoor
/- A struct in the midst of a block known whole: its cells, and its store. -/
namespace Go.Proofs.YtbnfhklpobephaaGreatDoor
open Go Go.RowKit
set_option maxRecDepth 100000

theorem get_mid {pre xs post : List Value} {mo : Nat} (h : pre.length = mo) (i : Nat) (hi : i < xs.length) : (pre ++ (xs ++ post))[mo + i]? = xs[i]? := by
  subst h
  rw [List.getElem?_append_right (by omega), Nat.add_sub_cancel_left, List.getElem?_append_left hi]
theorem set_mid {pre xs post : List Value} {mo : Nat} (h : pre.length = mo) (i : Nat) (hi : i < xs.length) (v : Value) : (pre ++ (xs ++ post)).set (mo + i) v = pre ++ (xs.set i v ++ post) := by
  subst h
  rw [List.set_append_right _ _ (by omega), Nat.add_sub_cancel_left, List.set_append_left _ _ hi]
section
variable {P : Program} {ops : Array Oper} {rest : List Oper} {o : Oper} {a : Act} {w : World} {Q : Exit → Act → World → Prop}
theorem Blk.setCells : ∀ (cells : List Value) {w : World} {g : Nat} {t : TypeId} {pre old post : List Value} {mo : Nat}, Blk w g t (pre ++ (old ++ post)) → pre.length = mo → old.length = cells.length → Blk (w.setCells g mo cells) g t (pre ++ (cells ++ post)) ∧ (w.setCells g mo cells).heap.size = w.heap.size ∧ Only (· = g) w (w.setCells g mo cells)
  | [], w, g, t, pre, old, post, mo, h, hp, hl => by
    obtain rfl : old = [] := List.eq_nil_of_length_eq_zero hl
    exact ⟨h, rfl, Only.refl _ _⟩
  | v :: cells, w, g, t, pre, u :: old, post, mo, h, hp, hl => by
    have h1 := h.setCell mo v
    have e : (pre ++ (u :: old ++ post)).set mo v = (pre ++ [v]) ++ (old ++ post) := by
      rw [List.set_append_right _ _ (by omega), show mo - pre.length = 0 from by omega]
      simp
    rw [e] at h1
    obtain ⟨h2, h3, h4⟩ := Blk.setCells cells h1 (mo := mo + 1) (by simp; omega) (by simpa using hl)
    rw [World.setCells]
    refine ⟨by simpa using h2, by rw [h3, setCell_size], ((Only.refl (· = g) w).setCell (p := ⟨g, mo, none⟩) (.inl rfl) v).trans h4 (fun i hi => .inl hi)⟩
/-- *p = v, a struct of so many cells, into the middle of a block known whole. -/
theorem step_storeM (hgd : o.guard = none) (ty : TypeId) (x y : Operand) (ho : o.op = .store ty x y) (g mo : Nat) (hx : a.eval x = .pointer (some ⟨g, mo, none⟩)) (cells : List Value) (hy : a.eval y = .agg cells.toArray)
    (t : TypeId) (pre old post : List Value) (hg : Blk w g t (pre ++ (old ++ post))) (hp : pre.length = mo) (hi : (P.info? ty).map (·.size) = some cells.length) (hold : old.length = cells.length) (h1 : ∀ v ∈ cells, v.oneCell' = true)
    (h : ∀ w', Hid (Blk w' g t (pre ++ (cells ++ post))) → Hid (w'.heap.size = w.heap.size) → Only (· = g) w w' → wpList P ops Q rest (a.put o.dst undef) w') : wpList P ops Q (o :: rest) a w := by
  obtain ⟨h2, h3, h4⟩ := Blk.setCells cells hg hp hold
  refine wpList_store_mid hgd ty x y ho g mo cells.toArray hx hy (fun j hj => ?_) (by simpa using hi) (all_oneCell_toArray h1) (by simpa using h _ h2 h3 h4)
  refine ⟨?_, hg.frozen _⟩
  rw [hg.cell, get_mid hp j (by rw [hold]; simpa using hj), List.getElem?_eq_getElem (by rw [hold]; simpa using hj)]
  rfl
end
end Go.Proofs.YtbnfhklpobephaaGreatDoor
