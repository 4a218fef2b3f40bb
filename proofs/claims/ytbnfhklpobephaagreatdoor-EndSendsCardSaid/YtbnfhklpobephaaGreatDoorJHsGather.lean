/- Several texts in one. -/
import Derived.Test.YtbnfhklpobephaaGreatDoorJMkOf
import Derived.Test.YtbnfhklpobephaaGreatDoorJRowK
import Derived.Test.YtbnfhklpobephaaGreatDoorJSnTypeL
import Derived.Test.YtbnfhklpobephaaGreatDoorJRefuse
import Derived.Test.YtbnfhklpobephaaGreatDoorJSc
import Derived.Test.YtbnfhklpobephaaGreatDoorJTbSay
import Derived.Test.YtbnfhklpobephaaGreatDoorJSnIn
/- All that a side tells on triples that it hears, as a plain function tells it. -/
namespace Go.Proofs.YtbnfhklpobephaaGreatDoor
open Go Go.RowKit
set_option maxRecDepth 100000
set_option maxHeartbeats 4000000

theorem gatherS_cons {S S2 : Sd} {t u : Tr} {b : Bool} (h : hearS S t = (S2, u, b)) (L : List Tr) : gatherS S (t :: L) = ((gatherS S2 L).1, (if b then [u] else []) ++ (gatherS S2 L).2) := by
  simp only [gatherS, h]
theorem gatherS_len : ∀ (L : List Tr) (S : Sd), (gatherS S L).2.length ≤ L.length
  | [], _ => Nat.le_refl _
  | t :: L, S => by
    have ih := gatherS_len L (hearS S t).1
    simp only [gatherS, List.length_append, List.length_cons]
    split
    · simp; omega
    · simp; omega
theorem hsGather_any {w : World} {q B : Nat} {S : Sd} (hS : ScSdAt w q S) {A : Option Addr} {n c : Nat} {L : List Tr} (hr : w.ownsRow B 262 4 (.slice A n c) n (csT L)) (hl : L.length = n) (hn : n ≤ 1000) :
    Calls Tryz.prog 239 #[.slice A n c, .func (.func 135) #[.pointer (some ⟨q, 0, none⟩)] #[]] w fun e w' => ∃ A' m c', e = .returned (.slice A' m c') ∧ m = (gatherS S L).2.length ∧ Hid (w'.ownsRow w.heap.size 262 4 (.slice A' m c') m (csT (gatherS S L).2)) ∧ Hid (ScSdAt w' q (gatherS S L).1) ∧ Hid (Only (· = q) w w') := by
  have HNe : Hid (∀ k, (Value.slice A n c).ownBlock = some k → k ≠ q) := by
    obtain ⟨cs, hb, _⟩ := hS
    exact own_ne hr hb (by decide)
  have HS := Lib.hid hS
  have HR := Lib.hid hr
  have HL := Lib.hid hl
  have hq := hS.lt
  obtain ⟨i, hi, hz, h1, h2⟩ := infoK info_tri
  have HI := Lib.hid hi
  have HZ := Lib.hid hz
  have HI1 := Lib.hid h1
  have HI2 := Lib.hid h2
  have HHr := Lib.hid (fun W (S : Sd) (h : ScSdAt W q S) t => hear_any h t)
  obtain ⟨G, hG⟩ : ∃ G, G = gatherS S L := ⟨_, rfl⟩
  have HG0 := Lib.hid hG
  rw [← hG]
  clear hS hr hl hi hz h1 h2 hG
  go_enter Tryz.func239, Tryz.ntmps239
  go_wp2
  go_loopw [5, 12] (fun lst s W => ∃ (k m : Nat) (D : Option Addr) (cd : Nat), k ≤ n ∧ s = .int .i64 (k : Int) ∧ lst = .slice D m cd ∧ Hid (∃ M S', m = M.length ∧ m ≤ k ∧ W.ownsRow w.heap.size 262 4 (.slice D m cd) m (csT M) ∧ ScSdAt W q S' ∧ Only (· = q) w W ∧ G.1 = (gatherS S' (L.drop k)).1 ∧ G.2 = M ++ (gatherS S' (L.drop k)).2)) (fun _ s _ => n - (intOf s).toNat)
  case atStart => exact ⟨0, 0, none, 0, Nat.zero_le _, rfl, rfl, [], S, rfl, Nat.le_refl _, own_nil _ _ _ _, HS.out, Only.refl _ _, by rw [HG0.out]; rfl, by rw [HG0.out]; rfl⟩
  case round =>
    obtain ⟨k, m, D, cd, hk, rfl, rfl, hrel⟩ := hrel
    obtain ⟨M, S', hm, hmk, hown, hsd, hon, hg1, hg2⟩ := hrel.out
    have HM := Lib.hid hm
    have HOw := Lib.hid hown
    have HSd := Lib.hid hsd
    have HOn := Lib.hid hon
    have hMk := hmk
    have hwq : q < wr.heap.size := hsd.lt
    clear hrel hm hown hsd
    by_cases hlt : k < n
    · have hi1 : (k : Int) < (n : Int) := by omega
      have hr2 := own_only HR.out hon HNe.out
      obtain ⟨⟨tf, ⟨tl, tv⟩, ta⟩, ht⟩ : ∃ t, L[k]? = some t := ⟨_, List.getElem?_eq_getElem (by rw [HL.out]; exact hlt)⟩
      obtain ⟨g, rfl, _, _, hcell⟩ := own_at hr2 (by omega)
      have HRg : Hid (wr.rangeAt g (k * 4) [.int .i64 tf, .int .i64 tl, .int .i64 tv, .bool ta]) := fun j v hj => hcell _ v (flat_at (cs := Tr.cs) (m := 4) (fun _ => rfl) hj ht)
      have HHr2 := Lib.hid (fun W (h : ScSdAt W q S') => HHr.out W S' h ⟨tf, ⟨tl, tv⟩, ta⟩)
      obtain ⟨S2, ⟨uf, ⟨ul, uv⟩, ua⟩, b, hu⟩ : ∃ S2 u b, hearS S' ⟨tf, ⟨tl, tv⟩, ta⟩ = (S2, u, b) := ⟨_, _, _, rfl⟩
      rw [hu] at HHr2
      have hdk : L.drop k = ⟨tf, ⟨tl, tv⟩, ta⟩ :: L.drop (k + 1) := by
        rw [List.drop_eq_getElem_cons (List.getElem?_eq_some_iff.1 ht).1]
        rw [(List.getElem?_eq_some_iff.1 ht).2]
      rw [hdk, gatherS_cons hu] at hg1 hg2
      have HG1 := Lib.hid hg1
      have HG2 := Lib.hid hg2
      clear hr2 hcell ht hon hu hg1 hg2 hdk
      cases b
      · go_wp2_with (first
          | ((with_reducible show wpList _ _ _ (⟨some 15, _, _, _, _, _⟩ :: _) _ _); refine wpList_load_mid rfl 262 _ rfl g (k * 4) rfl [.int .i64 tf, .int .i64 tl, .int .i64 tv, .bool ta] _ HRg.out Tryz.underlying262 rfl size_tri ?_)
          | (go_at_call 135; (with_reducible refine (HHr2.out _ (HSd.out.same ((Only.refl _ _).alloc _))).mono ?_); rintro e w5 ⟨rfl, hs5, ho5⟩; have HS5 := Lib.hid hs5; have HO5 : Hid (Only (· = q) wr w5) := (Only.mono (T := (· = q)) ((Only.refl (fun _ => False) wr).alloc _) (fun _ h => h.elim)).trans ho5 (fun i hi => .inl hi); clear hs5 ho5))
        go_roundw
        case rel =>
          have ho := HO5.out.alloc (.cells #[.int .i64 uf, .int .i64 ul, .int .i64 uv, .bool ua] 262)
          exact ⟨k + 1, m, D, cd, by omega, by go_num, rfl, M, S2, HM.out, by omega, own_only HOw.out ho (fun j hj e => by have := (own_lt HOw.out j hj).1; omega), HS5.out.same ((Only.refl _ _).alloc _), HOn.out.trans ho (fun i hi => .inl hi), HG1.out, HG2.out⟩
        case measure => simp [intOf]; omega
      · go_wp2_with (first
          | ((with_reducible show wpList _ _ _ (⟨some 15, _, _, _, _, _⟩ :: _) _ _); refine wpList_load_mid rfl 262 _ rfl g (k * 4) rfl [.int .i64 tf, .int .i64 tl, .int .i64 tv, .bool ta] _ HRg.out Tryz.underlying262 rfl size_tri ?_)
          | (go_at_call 135; (with_reducible refine (HHr2.out _ (HSd.out.same ((Only.refl _ _).alloc _))).mono ?_); rintro e w5 ⟨rfl, hs5, ho5⟩; have HS5 := Lib.hid hs5; have HO5 : Hid (Only (· = q) wr w5) := (Only.mono (T := (· = q)) ((Only.refl (fun _ => False) wr).alloc _) (fun _ h => h.elim)).trans ho5 (fun i hi => .inl hi); clear hs5 ho5)
          | ((with_reducible show wpList _ _ _ (⟨some 26, _, _, _, _, _⟩ :: _) _ _); refine step_append_own rfl (.tmp 23) (.tmp 25) 375 rfl w.heap.size 262 i _ 4 32 Tryz.underlying375 HI.out HZ.out HI1.out HI2.out rfl (by omega) (.slice D m cd) m (csT M) rfl (own_only HOw.out ((HO5.out.alloc _).alloc _) (fun j hj e => by have := (own_lt HOw.out j hj).1; omega)) _ 1 1 [.int .i64 uf, .int .i64 ul, .int .i64 uv, .bool ua] rfl rfl (fun _ => ⟨_, rfl, fun j u hj => by rw [at_add]; exact ((Blk.new' (n := w5.heap.size + 1) (w5.alloc _) 262 [.int .i64 uf, .int .i64 ul, .int .i64 uv, .bool ua] (by simp)).cell j).trans hj⟩) (Tr.cs_one ⟨uf, ⟨ul, uv⟩, ua⟩) (by omega) (by omega) (by have h1 := HO5.out.size; have h2 := HOn.out.size; simp; omega) ?_; intro A7 c7 w7 hq1 hq2 hq3; have HOw7 := Lib.hid hq3.out.1; have HO7 : Hid (Only (· = q) w w7) := Only.grown (HOn.out.trans ((HO5.out.alloc _).alloc _) (fun i hi => .inl hi)) hq3.out.2.1 (fun k hk => .inr (own_lt HOw.out k hk).1); have HS7 : Hid (ScSdAt w7 q S2) := ((HS5.out.same (((Only.refl _ _).alloc _).alloc _)).only (Only.grown (Only.refl (fun i => Value.ownBlock (.slice D m cd) = some i) _) hq3.out.2.1 (fun k hk => .inl hk)) (fun e => by have := (own_lt HOw.out q e).1; omega)); clear hq1 hq2 hq3))
        go_roundw
        case rel => exact ⟨k + 1, m + 1, A7, c7, by omega, by go_num, rfl, M ++ [⟨uf, ⟨ul, uv⟩, ua⟩], S2, by rw [List.length_append, HM.out]; rfl, by omega, by rw [csT_append, csT_one]; exact HOw7.out, HS7.out, HO7.out, HG1.out, by rw [HG2.out, List.append_assoc]; rfl⟩
        case measure => simp [intOf]; omega
    · obtain rfl : k = n := by omega
      have hd : L.drop k = [] := List.drop_eq_nil_of_le (by rw [HL.out]; exact Nat.le_refl _)
      rw [hd] at hg1 hg2
      have HG1 := Lib.hid hg1
      have HG2 := Lib.hid hg2
      clear hg1 hg2 hd
      go_wp2
      go_ret
      have e2 : G.2 = M := by rw [HG2.out]; exact List.append_nil _
      refine ⟨D, m, cd, rfl, by rw [e2]; exact HM.out, ?_, ?_, HOn.out⟩
      · rw [e2]; exact HOw.out
      · rw [HG1.out]; exact HSd.out
end Go.Proofs.YtbnfhklpobephaaGreatDoor
/- A hub in memory that is a hub as told; what hearing leaves. -/
namespace Go.Proofs.YtbnfhklpobephaaGreatDoor
open Go Go.RowKit
set_option maxRecDepth 100000
set_option maxHeartbeats 4000000

theorem LsOf.far {α : Type} {cs : α → List Value} {m : Nat} {W W' : World} {a : Option Addr} {len : Nat} {l : List α} {S : Nat → Prop} (h : LsOf cs m W a len l) (ho : Only S W W') (hS : ∀ ad, a = some ad → 0 < len → ¬ S ad.block) : LsOf cs m W' a len l :=
  ⟨h.1, fun i x hx => by
    obtain ⟨b, off, e, hb, hr⟩ := h.2 i x hx
    have h0 : 0 < len := by have := (List.getElem?_eq_some_iff.1 hx).1; have := h.1; omega
    have hn := hS _ e h0
    exact ⟨b, off, e, Nat.lt_of_lt_of_le hb ho.size, fun j v hv => ho.cellv (hr j v hv) hn⟩⟩
theorem StAt.far {W W' : World} {N len : Nat} {l : List Se} {S : Nat → Prop} (h : StAt W (some ⟨N, 0, none⟩) len l) (ho : Only S W W') (hS : ¬ S N) : StAt W' (some ⟨N, 0, none⟩) len l :=
  ⟨h.1, fun i x hx => by
    obtain ⟨b, off, e, hb, hr⟩ := h.2 i x hx
    injection e with e
    injection e with e1 e2
    subst e1
    exact ⟨N, off, by rw [e2], Nat.lt_of_lt_of_le hb ho.size, fun j v hv => ho.cellv (hr j v hv) hS⟩⟩
theorem StAt.lt' {W : World} {N len : Nat} {l : List Se} (h : StAt W (some ⟨N, 0, none⟩) len l) (h0 : 0 < len) : N < W.heap.size := by
  obtain ⟨b, off, e, hb, _⟩ := h.2 0 _ (List.getElem?_eq_getElem (by rw [h.1]; exact h0))
  injection e with e
  injection e with e1 e2
  omega

/-- The cells are this hub's; what it holds beside lies in blocks of G. -/
structure HsIs (w : World) (p : Nat) (G : Nat → Prop) (h : Hb) (H : Hs) : Prop where
  sz : ∃ N, h.sz = .slice (some ⟨N, 0, none⟩) 4 4 ∧ Src w (some ⟨N, 0, none⟩) 4 H.sz ∧ G N ∧ N ≠ p
  cy : ∃ A c, h.ca = .slice A H.ts.length c ∧ TSrc w A H.ts.length H.ts ∧ ∀ ad, A = some ad → G ad.block ∧ ad.block ≠ p
  ck : h.ck = ((H.k % (H.ts.length + 1) : Nat) : Int)
  one : 1 ≤ H.ts.length
  most : H.ts.length ≤ 8
  okT : ∀ t ∈ H.ts, okT t = true
  ho : ∃ N, h.ho = .slice (some ⟨N, 0, none⟩) 18 18 ∧ StAt w (some ⟨N, 0, none⟩) 18 H.l ∧ G N ∧ N ≠ p
  can : h.can = H.can
  pc : h.pc = H.pc
  pr : h.pr = H.pr
  li : h.li = H.li
  rep : ∃ A n c, h.rep = .slice A n c ∧ EnAt w A n H.rep ∧ n ≤ 1000 ∧ ∀ ad, A = some ad → 0 < n → G ad.block ∧ ad.block ≠ p
  sd : ScC h.sd H.S
  hm : h.hm = H.hm
  hw : h.hw = H.hw
  tc : h.tc = canOf H.can
  tm : h.tm = H.tm
  ma : h.ma = H.m.map B8
  ms : h.ms = H.ms
section
variable {w w' : World} {p : Nat} {G G' : Nat → Prop} {h : Hb} {H : Hs}
theorem HsIs.far {S : Nat → Prop} (k : HsIs w p G h H) (ho : Only S w w') (hS : ∀ i, i < w.heap.size → G i → S i → i = p) : HsIs w' p G h H := by
  obtain ⟨N, z1, z2, z3, z4⟩ := k.sz
  obtain ⟨A, c, c1, c2, c3⟩ := k.cy
  obtain ⟨M, o1, o2, o3, o4⟩ := k.ho
  obtain ⟨B, n, d, r1, r2, r3, r4⟩ := k.rep
  have hz : N < w.heap.size := z2.lt (by omega) _ rfl
  have hm := o2.lt' (by omega)
  refine ⟨⟨N, z1, z2.only ho (fun _ ad e => by injection e with e; subst e; exact fun hs => z4 (hS _ hz z3 hs)), z3, z4⟩, ⟨A, c, c1, c2.only ho (fun h0 ad e hs => (c3 ad e).2 (hS _ (c2.lt h0 ad e) (c3 ad e).1 hs)), c3⟩, k.ck, k.one, k.most, k.okT, ⟨M, o1, o2.far ho (fun hs => o4 (hS _ hm o3 hs)), o3, o4⟩, k.can, k.pc, k.pr, k.li, ⟨B, n, d, r1, r2.far ho (fun ad e h0 hs => (r4 ad e h0).2 (hS _ ?_ (r4 ad e h0).1 hs)), r3, r4⟩, k.sd, k.hm, k.hw, k.tc, k.tm, k.ma, k.ms⟩
  obtain ⟨b, off, e', hb, _⟩ := r2.2 0 _ (List.getElem?_eq_getElem (by rw [r2.1]; exact h0))
  rw [e] at e'
  injection e' with e'
  subst e'
  exact hb
theorem HsIs.grow (k : HsIs w p G h H) (hG : ∀ i, G i → G' i) : HsIs w p G' h H := by
  obtain ⟨N, z1, z2, z3, z4⟩ := k.sz
  obtain ⟨A, c, c1, c2, c3⟩ := k.cy
  obtain ⟨M, o1, o2, o3, o4⟩ := k.ho
  obtain ⟨B, n, d, r1, r2, r3, r4⟩ := k.rep
  exact ⟨⟨N, z1, z2, hG _ z3, z4⟩, ⟨A, c, c1, c2, fun ad e => ⟨hG _ (c3 ad e).1, (c3 ad e).2⟩⟩, k.ck, k.one, k.most, k.okT, ⟨M, o1, o2, hG _ o3, o4⟩, k.can, k.pc, k.pr, k.li, ⟨B, n, d, r1, r2, r3, fun ad e h0 => ⟨hG _ (r4 ad e h0).1, (r4 ad e h0).2⟩⟩, k.sd, k.hm, k.hw, k.tc, k.tm, k.ma, k.ms⟩
theorem HsIs.same (k : HsIs w p G h H) (ho : Only (fun _ => False) w w') : HsIs w' p G h H := k.far ho (fun _ _ _ h => h.elim)
theorem HsIs.own (k : HsIs w p G h H) (ho : Only (· = p) w w') : HsIs w' p G h H := k.far ho (fun _ _ _ h => h)
theorem HsIs.cyOk (k : HsIs w p G h H) : CyOk w h H.ts H.k := by
  obtain ⟨A, c, c1, c2, _⟩ := k.cy
  exact ⟨⟨A, c, c1, c2⟩, k.ck, k.one, k.most, k.okT⟩
end
/-- A hub in memory. -/
structure HsAt (w : World) (p mo : Nat) (tp : TypeId) (pre post : List Value) (G : Nat → Prop) (h : Hb) (H : Hs) : Prop where
  hub : HuAt w p mo tp pre post h
  is : HsIs w p G h H
section
variable {w w' : World} {p mo : Nat} {tp : TypeId} {pre post : List Value} {G : Nat → Prop} {h : Hb} {H : Hs}
theorem HsAt.far {S : Nat → Prop} (k : HsAt w p mo tp pre post G h H) (ho : Only S w w') (hp : ¬ S p) (hS : ∀ i, i < w.heap.size → G i → ¬ S i) : HsAt w' p mo tp pre post G h H := ⟨k.hub.only ho hp, k.is.far ho (fun _ h1 h2 h3 => (hS _ h1 h2 h3).elim)⟩
theorem HsAt.same (k : HsAt w p mo tp pre post G h H) (ho : Only (fun _ => False) w w') : HsAt w' p mo tp pre post G h H := ⟨k.hub.same ho, k.is.same ho⟩
end
/-- What is told: nothing, or one subnegotiation. -/
def HTold (B : Nat) (w : World) (v : Value) (o : Int) : Option (List UInt8) → Prop
  | none => v = .slice none 0 0
  | some b => One B w v o b
theorem HTold.low {B B' : Nat} {w : World} {v : Value} {o : Int} {t : Option (List UInt8)} (h : HTold B w v o t) (hB : B' ≤ B) : HTold B' w v o t := by
  cases t with
  | none => exact h
  | some b => exact One.low h hB
theorem HTold.only {S : Nat → Prop} {B : Nat} {w w' : World} {v : Value} {o : Int} {t : Option (List UInt8)} (h : HTold B w v o t) (ho : Only S w w') (hS : ∀ i, B ≤ i → ¬ S i) : HTold B w' v o t := by
  cases t with
  | none => exact h
  | some b => exact One.only h ho hS
/-- What is answered. -/
structure Ans (w : World) (es : List Addr) (p mo : Nat) (tp : TypeId) (pre post : List Value) (G : Nat → Prop) (o : Int) (r : HsR) (v E : Value) (w' : World) : Prop where
  err : ErrV es E r.1
  told : HTold w.heap.size w' v o r.2.1
  hub : ∃ h G', HsAt w' p mo tp pre post G' h r.2.2 ∧ ∀ i, G' i → G i ∨ w.heap.size ≤ i
  only : Only (· = p) w w'
section
variable {w W w' : World} {es : List Addr} {p mo : Nat} {tp : TypeId} {pre post : List Value} {G : Nat → Prop} {h : Hb} {H : Hs} {o : Int} {r : HsR} {v E : Value}
theorem Ans.from_ (h1 : Ans W es p mo tp pre post G o r v E w') (ho : Only (fun _ => False) w W) : Ans w es p mo tp pre post G o r v E w' :=
  ⟨h1.err, h1.told.low ho.size, (by
    obtain ⟨h, G', h2, h3⟩ := h1.hub
    exact ⟨h, G', h2, fun i hi => (h3 i hi).imp id (Nat.le_trans ho.size)⟩), (Only.mono (T := (· = p)) ho (fun _ h => h.elim)).trans h1.only (fun i hi => .inl hi)⟩
/-- An error, and nothing else. -/
theorem Ans.bad {z : Nat} (k : HsAt w p mo tp pre post G h H) (ho : Only (fun _ => False) w w') (hE : ErrV es E z) : Ans w es p mo tp pre post G o (z, none, H) (.slice none 0 0) E w' :=
  ⟨hE, rfl, ⟨h, G, k.same ho, fun _ h => .inl h⟩, ho.mono (fun _ h => h.elim)⟩
end
/-- What a hub's calls of a body ask. -/
@[reducible] def HearsF (f : FuncId) (w : World) (es : List Addr) (p mo : Nat) (tp : TypeId) (pre post : List Value) (G : Nat → Prop) (q mq : Nat) (o : Int) (A : Option Addr) (n c : Nat) (r : HsR) : Prop :=
  Calls Tryz.prog f #[.pointer (some ⟨p, mo, none⟩), .pointer (some ⟨q, mq, none⟩), .slice A n c] w fun e w' => ∃ v E, e = .returned (.tuple #[v, E]) ∧ Hid (Ans w es p mo tp pre post G o r v E w')
end Go.Proofs.YtbnfhklpobephaaGreatDoor
/- A side within a block: its cells from a place on; Has. -/
namespace Go.Proofs.YtbnfhklpobephaaGreatDoor.SAt
open Go Go.RowKit
set_option maxRecDepth 100000
set_option maxHeartbeats 4000000

/-- A side's cells, from place mo on; what stands ahead of them and behind. -/
structure ScC (mo : Nat) (pre post cs : List Value) (S : Sd) : Prop where
  len : cs.length = mo + 90 + post.length
  front : cs.take mo = pre
  back : cs.drop (mo + 90) = post
  at_ : ∀ i j v, i < 18 → (S i).cs[j]? = some v → cs[mo + i * 5 + j]? = some v
section
variable {mo : Nat} {pre post cs : List Value} {S : Sd}
theorem ScC.upd (h : ScC mo pre post cs S) {i : Nat} (hi : i < 18) {cs' : List Value} {c : Ch} (hl : cs'.length = mo + 90 + post.length) (hf : cs'.take mo = pre) (hb : cs'.drop (mo + 90) = post) (hk : ∀ k, (k < mo + i * 5 ∨ mo + i * 5 + 5 ≤ k) → cs'[k]? = cs[k]?) (hc : ∀ j v, c.cs[j]? = some v → cs'[mo + i * 5 + j]? = some v) : ScC mo pre post cs' (S.set i c) := by
  refine ⟨hl, hf, hb, fun k j v hk' hv => ?_⟩
  have hj : j < 5 := (List.getElem?_eq_some_iff.1 hv).1
  by_cases e : k = i
  · subst e
    rw [Sd.set_self] at hv
    exact hc j v hv
  · rw [Sd.set_ne _ _ e] at hv
    rw [hk _ (by omega)]
    exact h.at_ k j v hk' hv
theorem ScC.c0 (h : ScC mo pre post cs S) {i : Nat} (hi : i < 18) : cs[mo + i * 5]? = some (.int .i64 (S i).has.l) := h.at_ i 0 _ hi rfl
theorem ScC.c1 (h : ScC mo pre post cs S) {i : Nat} (hi : i < 18) : cs[mo + i * 5 + 1]? = some (.int .i64 (S i).has.v) := h.at_ i 1 _ hi rfl
theorem ScC.c2 (h : ScC mo pre post cs S) {i : Nat} (hi : i < 18) : cs[mo + i * 5 + 2]? = some (.int .i64 (S i).holds.l) := h.at_ i 2 _ hi rfl
theorem ScC.c3 (h : ScC mo pre post cs S) {i : Nat} (hi : i < 18) : cs[mo + i * 5 + 3]? = some (.int .i64 (S i).holds.v) := h.at_ i 3 _ hi rfl
theorem ScC.c4 (h : ScC mo pre post cs S) {i : Nat} (hi : i < 18) : cs[mo + i * 5 + 4]? = some (.bool (S i).waits) := h.at_ i 4 _ hi rfl
theorem ScC.setWaits (h : ScC mo pre post cs S) {i : Nat} (hi : i < 18) (b : Bool) : ScC mo pre post (cs.set (mo + i * 5 + 4) (.bool b)) (S.set i ⟨(S i).has, (S i).holds, b⟩) := by
  have hl := h.len
  refine h.upd hi (by rw [List.length_set, hl]) (by rw [take_setIn (by omega), h.front]) (by rw [drop_setIn (by omega), h.back]) (fun k hk => List.getElem?_set_ne (by omega)) (fun j v hv => ?_)
  match j, hv with
  | 0, hv => rw [List.getElem?_set_ne (by omega)]; exact (h.c0 hi).trans hv
  | 1, hv => rw [List.getElem?_set_ne (by omega)]; exact (h.c1 hi).trans hv
  | 2, hv => rw [List.getElem?_set_ne (by omega)]; exact (h.c2 hi).trans hv
  | 3, hv => rw [List.getElem?_set_ne (by omega)]; exact (h.c3 hi).trans hv
  | 4, hv => rw [List.getElem?_set_self (by omega)]; exact hv
theorem ScC.setHas (h : ScC mo pre post cs S) {i : Nat} (hi : i < 18) (x : Se) : ScC mo pre post (cs.take (mo + i * 5) ++ ([.int .i64 x.l, .int .i64 x.v] ++ cs.drop (mo + i * 5 + 2))) (S.set i ⟨x, (S i).holds, (S i).waits⟩) := by
  have hl := h.len
  rw [set2_eq _ _ _ _ (by omega)]
  refine h.upd hi (by simp [hl]) (by rw [take_setIn (by omega), take_setIn (by omega), h.front]) (by rw [drop_setIn (by omega), drop_setIn (by omega), h.back]) (fun k hk => by rw [List.getElem?_set_ne (by omega), List.getElem?_set_ne (by omega)]) (fun j v hv => ?_)
  match j, hv with
  | 0, hv => rw [List.getElem?_set_ne (by omega), Nat.add_zero, List.getElem?_set_self (by omega)]; exact hv
  | 1, hv => rw [List.getElem?_set_self (by rw [List.length_set]; omega)]; exact hv
  | 2, hv => rw [List.getElem?_set_ne (by omega), List.getElem?_set_ne (by omega)]; exact (h.c2 hi).trans hv
  | 3, hv => rw [List.getElem?_set_ne (by omega), List.getElem?_set_ne (by omega)]; exact (h.c3 hi).trans hv
  | 4, hv => rw [List.getElem?_set_ne (by omega), List.getElem?_set_ne (by omega)]; exact (h.c4 hi).trans hv
theorem ScC.setHolds (h : ScC mo pre post cs S) {i : Nat} (hi : i < 18) (x : Se) : ScC mo pre post (cs.take (mo + i * 5 + 2) ++ ([.int .i64 x.l, .int .i64 x.v] ++ cs.drop (mo + i * 5 + 2 + 2))) (S.set i ⟨(S i).has, x, (S i).waits⟩) := by
  have hl := h.len
  rw [set2_eq _ _ _ _ (by omega)]
  refine h.upd hi (by simp [hl]) (by rw [take_setIn (by omega), take_setIn (by omega), h.front]) (by rw [drop_setIn (by omega), drop_setIn (by omega), h.back]) (fun k hk => by rw [List.getElem?_set_ne (by omega), List.getElem?_set_ne (by omega)]) (fun j v hv => ?_)
  match j, hv with
  | 0, hv => rw [List.getElem?_set_ne (by omega), List.getElem?_set_ne (by omega)]; exact (h.c0 hi).trans hv
  | 1, hv => rw [List.getElem?_set_ne (by omega), List.getElem?_set_ne (by omega)]; exact (h.c1 hi).trans hv
  | 2, hv => rw [List.getElem?_set_ne (by omega), List.getElem?_set_self (by omega)]; exact hv
  | 3, hv => rw [List.getElem?_set_self (by rw [List.length_set]; omega)]; exact hv
  | 4, hv => rw [List.getElem?_set_ne (by omega), List.getElem?_set_ne (by omega)]; exact (h.c4 hi).trans hv
end
/-- A side that lies in block p. -/
def ScSdAt (w : World) (p mo : Nat) (tp : TypeId) (pre post : List Value) (S : Sd) : Prop := ∃ cs, Blk w p tp cs ∧ ScC mo pre post cs S
section
variable {w w' : World} {p mo : Nat} {tp : TypeId} {pre post : List Value} {S : Sd}
theorem ScSdAt.lt (h : ScSdAt w p mo tp pre post S) : p < w.heap.size := by obtain ⟨cs, h, _⟩ := h; exact h.lt
theorem ScSdAt.only {D : Nat → Prop} (h : ScSdAt w p mo tp pre post S) (ho : Only D w w') (hD : ¬ D p) : ScSdAt w' p mo tp pre post S := by
  obtain ⟨cs, h, hc⟩ := h
  exact ⟨cs, h.only ho hD, hc⟩
theorem ScSdAt.same (h : ScSdAt w p mo tp pre post S) (ho : Only (fun _ => False) w w') : ScSdAt w' p mo tp pre post S := h.only ho (fun h => h)
end
theorem has_range {w : World} {p mo : Nat} {tp : TypeId} {pre post cs : List Value} {S : Sd} (h : Blk w p tp cs) (hc : ScC mo pre post cs S) {i : Nat} (hi : i < 18) : w.rangeAt p (mo + i * 5) (S i).has.cs := by
  intro j v hj
  rw [h.cell]
  match j, hj with
  | 0, hj => exact (hc.c0 hi).trans hj
  | 1, hj => exact (hc.c1 hi).trans hj
theorem shas_any {W : World} {p mo : Nat} {tp : TypeId} {pre post : List Value} {S : Sd} (h : ScSdAt W p mo tp pre post S) (f : Int) : Calls Tryz.prog 104 #[.pointer (some ⟨p, mo, none⟩), .int .i64 f] W fun e w' => e = .returned (hasS S f).val ∧ Only (fun _ => False) W w' := by
  obtain ⟨cs, hB, hC⟩ := h
  have HF := Lib.hid (fun W => isFn_any W f)
  cases hf : isF f
  · rw [hf] at HF
    have e : hasS S f = ⟨0, 0⟩ := by unfold hasS; rw [hf]; rfl
    rw [e]
    clear e hf hB hC
    go_enter Tryz.func104, Tryz.ntmps104
    go_wp2_with (first
      | (go_at_call 155; refine (HF.out _).mono ?_; rintro e w' ⟨rfl, e2⟩; subst w')
      | fail)
    refine ret_cell1 rfl W.heap.size rfl 109 [.int .i64 0, .int .i64 0] _ (Blk.new' _ _ _ rfl) Tryz.underlying109 rfl size_set rfl ?_
    exact ⟨rfl, (Only.refl _ _).alloc _⟩
  · rw [hf] at HF
    have e : hasS S f = (S (plF f)).has := by unfold hasS; rw [if_pos hf]
    rw [e]
    have hi := plF_lt hf
    have he := plF_at hf
    have e1 : IntKind.i64.wrap (f - 1) = ((plF f : Nat) : Int) := by
      rw [← he]
      exact IntWalk.i64_in _ (by omega)
    obtain ⟨i, hii⟩ : ∃ i, i = plF f := ⟨_, rfl⟩
    rw [← hii] at hi e1 ⊢
    have hi2 : (i : Int) < 18 := by omega
    have HR := Lib.hid (fun ob => has_range (hB.alloc ob) hC hi)
    have hp := hB.lt
    obtain ⟨⟨a, b⟩, hx⟩ : ∃ x, x = (S i).has := ⟨_, rfl⟩
    rw [← hx] at HR ⊢
    clear e hf hB hC he hii hx
    go_enter Tryz.func104, Tryz.ntmps104
    go_wp2_with (first
      | (go_at_call 155; refine (HF.out _).mono ?_; rintro e w' ⟨rfl, e2⟩; subst w')
      | ((with_reducible show wpList _ _ _ (⟨some 16, _, _, _, _, _⟩ :: _) _ _); refine wpList_load_mid rfl 109 _ rfl p (mo + i * 5) rfl [.int .i64 a, .int .i64 b] _ (HR.out _) Tryz.underlying109 rfl size_set ?_)
      | fail)
    refine ret_cell1 rfl W.heap.size rfl 109 [.int .i64 a, .int .i64 b] _ (Blk.new' _ _ _ rfl) Tryz.underlying109 rfl size_set rfl ?_
    exact ⟨rfl, (Only.refl _ _).alloc _⟩
/-- Out of a struct that stands in a block. -/
theorem ScC.of {mo : Nat} {pre post cs : List Value} {S : Sd} (h : Go.Proofs.YtbnfhklpobephaaGreatDoor.ScC cs S) (hp : pre.length = mo) : ScC mo pre post (pre ++ (cs ++ post)) S := by
  have hl := h.len
  subst hp
  refine ⟨by simp only [List.length_append]; omega, List.take_left' rfl, ?_, fun i j v hi hv => ?_⟩
  · rw [← List.append_assoc]
    exact List.drop_left' (by rw [List.length_append, hl])
  · have hj : j < 5 := (List.getElem?_eq_some_iff.1 hv).1
    rw [Nat.add_assoc, get_mid rfl _ (by rw [hl]; omega)]
    exact h.at_ i j v hi hv
/-- And back. -/
theorem ScC.to {mo : Nat} {pre post cs : List Value} {S : Sd} (h : ScC mo pre post cs S) : ∃ c, Go.Proofs.YtbnfhklpobephaaGreatDoor.ScC c S ∧ cs = pre ++ (c ++ post) := by
  have hl := h.len
  refine ⟨(cs.drop mo).take 90, ⟨by rw [List.length_take, List.length_drop]; omega, fun i j v hi hv => ?_⟩, ?_⟩
  · have hj : j < 5 := (List.getElem?_eq_some_iff.1 hv).1
    rw [List.getElem?_take_of_lt (by omega), List.getElem?_drop, ← Nat.add_assoc]
    exact h.at_ i j v hi hv
  · rw [← h.front, ← h.back, ← List.drop_drop, List.take_append_drop, List.take_append_drop]
theorem ScSdAt.of {w : World} {p mo : Nat} {tp : TypeId} {pre post cs : List Value} {S : Sd} (k : InB w p tp pre post mo cs) (h : Go.Proofs.YtbnfhklpobephaaGreatDoor.ScC cs S) : ScSdAt w p mo tp pre post S := ⟨_, k.blk, ScC.of h k.len⟩
theorem ScSdAt.to {w : World} {p mo : Nat} {tp : TypeId} {pre post : List Value} {S : Sd} (h : ScSdAt w p mo tp pre post S) (hp : pre.length = mo) : ∃ cs, InB w p tp pre post mo cs ∧ Go.Proofs.YtbnfhklpobephaaGreatDoor.ScC cs S := by
  obtain ⟨cs, hb, hc⟩ := h
  obtain ⟨c, h1, rfl⟩ := hc.to
  exact ⟨c, ⟨hb, hp⟩, h1⟩
end Go.Proofs.YtbnfhklpobephaaGreatDoor.SAt
