/- Package clean: the walk over the tokens that stay, whatever they are told to. -/
import Derived.Test.YtelmfncdamakfaaClean
import Derived.Test.YtelmfncdamakfaaCleanDoc
import Derived.Test.YtelmfncdamakfaaPlaces
import Derived.Shelf.Abstract
import Derived.Great.Ranges
namespace Go.Proofs.Ytelmfncdamakfaa
open Go Go.RowKit
set_option maxRecDepth 100000
set_option maxHeartbeats 4000000

/-- Bytes with their marks, all raw or none. -/
def bts (xs : List UInt8) (ms : List Bool) (raw : Bool) : List Bt := List.zipWith (fun c m => ⟨c, m, raw⟩) xs ms
theorem bts_at {xs : List UInt8} {ms : List Bool} {raw : Bool} {k : Nat} {x : UInt8} {m : Bool} (hx : xs[k]? = some x) (hm : ms[k]? = some m) : (bts xs ms raw)[k]? = some ⟨x, m, raw⟩ := by
  unfold bts
  rw [List.getElem?_zipWith, hx, hm]
theorem bts_length {xs : List UInt8} {ms : List Bool} {raw : Bool} (h : ms.length = xs.length) : (bts xs ms raw).length = xs.length := by
  unfold bts
  rw [List.length_zipWith, h, Nat.min_self]
theorem bts_c {xs : List UInt8} {ms : List Bool} {raw : Bool} (h : ms.length = xs.length) : (bts xs ms raw).map Bt.c = xs := by
  unfold bts
  induction xs generalizing ms with
  | nil => simp
  | cons x xs ih =>
    cases ms with
    | nil => simp at h
    | cons m ms => simp [ih (ms := ms) (by simpa using h)]
/-- What is asked of a function to which the tokens are told: J says what it has made of them. -/
structure Tells9 (w : World) (n : Nat) (g : Nat) (lb : Array Value) (J : List Tk → World → Prop) : Prop where
  only : ∀ ts W, J ts W → Only (fun _ => False) w W
  news : ∀ ts W W', J ts W → Only (fun i => W.heap.size ≤ i) W W' → J ts W'
  beside : ∀ ts W W' p cs, J ts W → w.heap.size ≤ p → Blk W p 50 cs → Only (· = p) W W' → J ts W'
  tell : ∀ ts W (x : TkP), J ts W → ts.length ≤ n → x.t.Byte → Body W w.heap.size x.val x.t.body →
    Calls Try.prog g (#[.agg x.cells.toArray] ++ lb) W fun e w' => e = .returned (.tuple #[]) ∧ J (ts ++ [x.t]) w' ∧ W.heap.size ≤ w'.heap.size ∧ ∀ k t cs, Blk W k t cs → (t = 50 ∨ t = 4) → Blk w' k t cs

/-- Where walk stands. -/
structure WalkAt9 (l : List Bt) (J : List Tk → World → Prop) (p q : Nat) (ms : List Bool) (W : World) (k : Nat) (ts : List Tk) (kk : Cl) : Prop where
  few : ts.length ≤ k
  j : J ts W
  cl : ClAt W p 0 50 [] kk []
  marks : Blk W q 4 (ms.map .bool)
  told : ts ++ (feeds9 kk k (l.drop k)).1.map Prod.fst = (feeds9 .zero 0 l).1.map Prod.fst

theorem info_cl : (Try.prog.info? 50).map (fun i => (i.zero, i.size)) = some (some (.agg (msCells Ms.zero (zeros 256) ++ [Value.bool false, Value.bool false]).toArray), 263) := by kernel_rfl

theorem cwalk_any {w : World} {A B : Option Addr} {n c m d : Nat} {xs : List UInt8} {zs : List Int} (hs : Src w A n xs) (hz : Ints w B m zs) (raw : Bool) (hn : n ≤ 100000) (hm : m ≤ 1048576)
    (g : Nat) (lb : Array Value) (eg : ∀ args w, (callFunc g args).run Try.prog w = .ok (.enter g args) w) {J : List Tk → World → Prop} (hT : Tells9 w n g lb J) {w1 : World} (h1 : J [] w1) :
    Calls Try.prog 24 #[.slice A n c, .slice B m d, .bool raw, .func (.func g) #[] lb] w1 fun e w' => e = .returned (.tuple #[]) ∧ Hid (J ((feeds9 .zero 0 (bts xs (mkd n zs) raw)).1.map Prod.fst) w') := by
  have HS := Lib.hid hs
  have HT := Lib.hid hT
  have HO1 := Lib.hid (hT.only _ _ h1)
  have HZ := Lib.hid hz
  have HJ := Lib.hid h1
  clear hs hz hT h1
  go_enter Try.func24, Try.ntmps24
  go_wp2_with (first
    | ((with_reducible show wpList _ _ _ (⟨some 8, _, _, _, _, _⟩ :: _) _ _); refine step_alloc rfl 50 rfl (msCells Ms.zero (zeros 256) ++ [Value.bool false, Value.bool false]) 263 info_cl ?_)
    | (go_at_call 31; refine (places_any (c := d) (HZ.out.same (HO1.out.alloc _)) hm (by omega)).mono ?_; rintro e w2 ⟨rfl, hq, ho2⟩))
  obtain ⟨W0, hW0⟩ : ∃ W0, W0 = w1.alloc (.cells (msCells Ms.zero (zeros 256) ++ [Value.bool false, Value.bool false]).toArray 50) := ⟨_, rfl⟩
  have hO : Only (fun i => w1.heap.size ≤ i) w1 W0 := by rw [hW0]; exact (Only.refl _ _).alloc _
  have hCl : ClAt W0 w1.heap.size 0 50 [] .zero [] := by
    rw [hW0]
    exact ⟨Ms.zero_ok, rfl, zeros 256, by simpa [List.append_assoc, Cl.zero] using Blk.new w1 50 (msCells Ms.zero (zeros 256) ++ [Value.bool false, Value.bool false]), rfl, fun v hv => by rw [List.eq_of_mem_replicate hv]; rfl⟩
  rw [← hW0] at hq ho2
  have hz0 : W0.heap.size = w1.heap.size + 1 := by rw [hW0]; simp
  rw [hz0] at hq
  obtain ⟨q, hqe⟩ : ∃ q, q = w1.heap.size + 1 := ⟨_, rfl⟩
  rw [← hqe] at hq ⊢
  obtain ⟨p, hpe⟩ : ∃ p, p = w1.heap.size := ⟨_, rfl⟩
  rw [← hpe] at hCl ⊢
  have hpw : w.heap.size ≤ p := by rw [hpe]; exact HO1.out.size
  have HJ2 := HT.out.news _ _ _ (HT.out.news _ _ _ HJ.out hO) (ho2.out.mono (fun _ h => h.elim))
  have H0 : Hid (WalkAt9 (bts xs (mkd n zs) raw) J p q (mkd n zs) w2 0 [] .zero) := ⟨Nat.le_refl _, HJ2, hCl.only ho2.out (fun h => h), hq.out, by simp⟩
  clear HJ HJ2 hq ho2 hO hCl hW0 hqe hpe HO1 HZ hz0
  go_loopw [20] (fun i W => ∃ k : Nat, k ≤ n ∧ i = .int .i64 (k : Int) ∧ Hid (∃ ts kk, WalkAt9 (bts xs (mkd n zs) raw) J p q (mkd n zs) W k ts kk)) (fun i _ => n - (intOf i).toNat)
  case atStart => exact ⟨0, Nat.zero_le _, rfl, _, _, H0.out⟩
  case round =>
    clear H0
    obtain ⟨k, hk, rfl, HD⟩ := hrel
    obtain ⟨ts, kk, hW⟩ := HD.out
    by_cases hlt : k < n
    · obtain ⟨x, hx⟩ : ∃ x, xs[k]? = some x := ⟨_, List.getElem?_eq_getElem (by rw [HS.out.1]; exact hlt)⟩
      obtain ⟨mk, hmk⟩ : ∃ mk, (mkd n zs)[k]? = some mk := ⟨_, List.getElem?_eq_getElem (by rw [mkd_length]; exact hlt)⟩
      have hb := bts_at (raw := raw) hx hmk
      have htold := hW.told
      rw [at_drop hb] at htold
      simp only [feeds9] at htold
      have hOnly := HT.out.only _ _ hW.j
      obtain ⟨ad, rfl, hcell⟩ := (HS.out.only hOnly (fun _ _ _ h => h)).2 (by omega)
      have c0 := hcell k x hx
      unfold B8 at c0
      have c1 : wr.cell? ⟨q, k, none⟩ = some (.bool mk) := by rw [hW.marks.cell, List.getElem?_map, hmk]; rfl
      have hF := cfeed_in (by decide) (by decide) hW.cl ⟨x, mk, raw⟩ w.heap.size hOnly.size
      have hby := feed9_byte kk ⟨x, mk, raw⟩
      obtain ⟨k', o, hfe⟩ : ∃ k' o, feed9 kk ⟨x, mk, raw⟩ = (k', o) := ⟨_, _, rfl⟩
      rw [hfe] at hby
      rw [hfe] at htold hF
      have HF : Hid (Calls Try.prog 16 #[.pointer (some ⟨p, 0, none⟩), .int .u8 (x.toNat : Int), .bool mk, .bool raw] wr (FedCl wr p 0 50 [] [] w.heap.size (k', o))) := hF
      unfold FedCl at HF
      have HTold := Lib.hid htold
      have HW := Lib.hid hW
      clear hcell hOnly hx hmk hb htold hF hfe hW HD
      cases o with
      | none =>
        go_wp2_with (first
          | (go_at_call 16; (with_reducible refine HF.out.mono ?_); rintro e w3 ⟨cs, rfl, hcl, hco, hcx, hm3, ho3⟩)
          | ((with_reducible show wpList _ _ _ (⟨none, .store 52 (.tmp 12) _, _, _, _, _⟩ :: _) _ _); refine step_store rfl 52 _ _ rfl w3.heap.size rfl cs rfl _ (tkCells Tk.none (.slice none 0 0)) (Blk.new _ _ _) (by rw [hcl.out]; exact size_tok) hcl.out.symm hco.out ?_; intro w4 hB4 hz4 ho4; have hO4 : Hid (Only (fun i => w3.heap.size ≤ i) w3 w4) := ((Only.refl (fun i => w3.heap.size ≤ i) w3).alloc _).trans ho4 (fun i hi => .inl (by omega))))
        have hbl := MsAt.blk HW.out.cl
        obtain ⟨ccs, hcb⟩ := hbl
        have hpl := hcb.lt
        have hs3 := ho3.out.size
        have hJ4 := HT.out.news _ _ _ (HT.out.beside _ _ _ p _ HW.out.j hpw hcb ho3.out) hO4.out
        have hC4 := hm3.out.only hO4.out (by omega)
        have hM4 := (HW.out.marks.only ho3.out (HW.out.marks.ne hcb (by decide))).only hO4.out (by have := HW.out.marks.lt; omega)
        go_roundw
        case rel =>
          refine ⟨k + 1, by omega, by go_num, ts, k', by have := HW.out.few; omega, hJ4, hC4, hM4, ?_⟩
          simpa using HTold.out
        case measure => simp [intOf]; omega
      | some t =>
        have hbl := MsAt.blk HW.out.cl
        obtain ⟨ccs, hcb⟩ := hbl
        have hpl := hcb.lt
        have HCB := Lib.hid hcb
        have HTl : Hid (∀ (W : World) (cs : List Value), J ts W → (∃ x : TkP, cs = x.cells ∧ x.t = tokOf (some t) ∧ Body W w.heap.size x.val x.t.body) → Calls Try.prog g (#[.agg cs.toArray] ++ lb) W fun e w' => e = .returned (.tuple #[]) ∧ Hid (J (ts ++ [t]) w') ∧ Hid (W.heap.size ≤ w'.heap.size) ∧ Hid (∀ k t cs, Blk W k t cs → (t = 50 ∨ t = 4) → Blk w' k t cs)) := fun W cs hj hx => by
          obtain ⟨x, rfl, hxt, hxb⟩ := hx
          refine (HT.out.tell ts W x hj (by have := HW.out.few; omega) (by rw [hxt]; exact hby t rfl) hxb).mono ?_
          rintro e w' ⟨h1, h2, h3, h4⟩
          rw [hxt] at h2
          exact ⟨h1, h2, h3, h4⟩
        clear hcb
        go_wp2_with (first
          | (go_at_call 16; (with_reducible refine HF.out.mono ?_); rintro e w3 ⟨cs, rfl, hcl, hco, hcx, hm3, ho3⟩)
          | ((with_reducible show wpList _ _ _ (⟨none, .store 52 (.tmp 12) _, _, _, _, _⟩ :: _) _ _); refine step_store rfl 52 _ _ rfl w3.heap.size rfl cs rfl _ (tkCells Tk.none (.slice none 0 0)) (Blk.new _ _ _) (by rw [hcl.out]; exact size_tok) hcl.out.symm hco.out ?_; intro w4 hB4 hz4 ho4; have hs3 := ho3.out.size; have hO4 : Hid (Only (fun i => w3.heap.size ≤ i) w3 w4) := ((Only.refl (fun i => w3.heap.size ≤ i) w3).alloc _).trans ho4 (fun i hi => .inl (by omega)); have hJ4 : Hid (J ts w4) := HT.out.news _ _ _ (HT.out.beside _ _ _ p _ HW.out.j hpw HCB.out ho3.out) hO4.out; have hC4 : Hid (ClAt w4 p 0 50 [] k' []) := hm3.out.only hO4.out (by omega); have hM4 : Hid (Blk w4 q 4 ((mkd n zs).map .bool)) := (HW.out.marks.only ho3.out (HW.out.marks.ne HCB.out (by decide))).only hO4.out (by have := HW.out.marks.lt; omega); have hX4 : Hid (∃ x : TkP, cs = x.cells ∧ x.t = tokOf (some t) ∧ Body w4 w.heap.size x.val x.t.body) := (by obtain ⟨x, e1, e2, e3⟩ := hcx.out; exact ⟨x, e1, e2, own_only e3 hO4.out (fun r hr => by have := (own_lt e3 r hr).2; omega)⟩))
          | ((with_reducible show wpList _ _ _ (⟨some 37, _, _, _, _, _⟩ :: _) _ _); refine wpList_load_mid rfl 52 (.tmp 12) rfl w3.heap.size 0 rfl cs _ (range_of hB4.out) Try.underlying52 rfl (by rw [hcl.out]; exact size_tok) ?_)
          | (go_at_fn g; refine (HTl.out w4 cs hJ4.out hX4.out).mono ?_; rintro e w5 ⟨rfl, hJ5, hs5, hB5⟩))
        have hC5 : ClAt w5 p 0 50 [] k' [] := by
          obtain ⟨h1, h2, junk, h3, h4⟩ := hC4.out
          exact ⟨h1, h2, junk, hB5.out _ _ _ h3 (.inl rfl), h4⟩
        have hM5 := hB5.out _ _ _ hM4.out (.inr rfl)
        go_roundw
        case rel =>
          refine ⟨k + 1, by omega, by go_num, ts ++ [t], k', by have := HW.out.few; rw [List.length_append, List.length_singleton]; omega, hJ5.out, hC5, hM5, ?_⟩
          have := HTold.out
          rw [← this]
          simp
        case measure => simp [intOf]; omega
    · obtain rfl : k = n := by omega
      have htold := hW.told
      rw [List.drop_eq_nil_of_le (by rw [bts_length (by rw [mkd_length, HS.out.1]), HS.out.1]; exact Nat.le_refl _)] at htold
      simp only [feeds9, List.map_nil, List.append_nil] at htold
      have HJ := Lib.hid hW.j
      rw [htold] at HJ
      clear HD hW htold
      go_wp2
      refine bodyPost_end (results_none rfl _ _ _) rfl ?_
      exact ⟨rfl, HJ.out⟩
end Go.Proofs.Ytelmfncdamakfaa
