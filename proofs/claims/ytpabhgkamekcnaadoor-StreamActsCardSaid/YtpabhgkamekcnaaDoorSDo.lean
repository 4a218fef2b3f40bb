/- An act on both streams: they answer alike, and stay alike. -/
import Derived.Test.YtpabhgkamekcnaaDoorSActs
import Derived.Test.YtpabhgkamekcnaaDoorBytes
import Derived.Deep.RegionHeld3
import Derived.BigQuiet
namespace Go.Proofs.YtpabhgkamekcnaaDoor
open Go Go.RowKit
set_option maxRecDepth 100000

/-- How an act ends. -/
def DoAns (w : World) (p r : Nat) (s : St) (e : Ending) (w' : World) : Prop :=
  e = .returned (.bool true) ∧ ∃ s', s'.came.length ≤ s.came.length + 300 ∧ s'.sent.length ≤ s.sent.length + 300 ∧ s'.room = s.room ∧ ActAt w w' p r s' s'
theorem del_bound (s : St) (xs : List UInt8) (l : List Int) (h : xs.length ≤ 300) : (delSt s xs l).came.length ≤ s.came.length + 300 ∧ (delSt s xs l).sent.length ≤ s.sent.length + 300 ∧ (delSt s xs l).room = s.room := by
  unfold delSt
  split
  · refine ⟨?_, Nat.le_add_right _ _, rfl⟩
    show (s.came ++ xs).length ≤ _
    rw [List.length_append]
    omega
  · exact ⟨Nat.le_add_right _ _, Nat.le_add_right _ _, rfl⟩
theorem send_bound (s : St) (xs : List UInt8) (h : xs.length ≤ 300) : (sendSt s xs).came.length ≤ s.came.length + 300 ∧ (sendSt s xs).sent.length ≤ s.sent.length + 300 ∧ (sendSt s xs).room = s.room := by
  unfold sendSt
  split
  · refine ⟨Nat.le_add_right _ _, ?_, rfl⟩
    show (s.sent ++ xs).length ≤ _
    rw [List.length_append]
    omega
  · exact ⟨Nat.le_add_right _ _, Nat.le_add_right _ _, rfl⟩
theorem next_bound (s : St) : (nextSt s).came.length = s.came.length ∧ (nextSt s).sent.length = s.sent.length ∧ (nextSt s).room = s.room := by
  unfold nextSt
  split <;> exact ⟨rfl, rfl, rfl⟩

section
variable {w W : World} {p r : Nat} {s : St} {x : SAct}
/-- A boxed act. -/
def boxed (x : SAct) : Array Value := #[.int .i64 x.kind, .int .i64 x.n, .slice x.ad x.len x.cap, .slice x.mad x.mlen x.mcap]

set_option maxHeartbeats 4000000 in
theorem sdo_deliver (h : ActAt w W p r s s) (hok : x.Ok w) (hl : x.len ≤ 300) (hm : x.mlen ≤ 40) {es : List Addr} (hes : ErrsAt w es) (hf : s.came.length ≤ 100000) (hk : x.kind = 0) :
    Calls Tryd.prog 10 #[.pointer (some ⟨p, 0, none⟩), .pointer (some ⟨r, 0, none⟩), .agg #[.int .i64 x.kind, .int .i64 x.n, .slice x.ad x.len x.cap, .slice x.mad x.mlen x.mcap]] W (DoAns w p r s) := by
  have k0 : (x.kind == 0) = true := by rw [hk]; rfl
  obtain ⟨N, hN⟩ : ∃ N, N = W.heap.size := ⟨_, rfl⟩
  obtain ⟨W1, hW1⟩ : ∃ W1, W1 = W.alloc (.cells (boxed x) 38) := ⟨_, rfl⟩
  have HBx := Lib.hid (show Blk W1 N 38 x.vals by rw [hW1, hN]; exact Blk.new W _ x.vals)
  have H1 := Lib.hid (h.same (show Only (fun _ => False) W W1 by rw [hW1]; exact (Only.refl _ W).alloc _))
  have HOk := Lib.hid hok
  have HE := Lib.hid hes
  have c0 : W1.cell? ⟨N, 0, none⟩ = some (.int .i64 x.kind) := HBx.out.cell 0
  have c2 : W1.cell? ⟨N, 2, none⟩ = some (.slice x.ad x.len x.cap) := HBx.out.cell 2
  have hx1 := hok.le
  have hx2 := hok.top
  have hx3 := hok.mle
  have hx4 := hok.mtop
  have HS1 := Lib.hid (hok.src.only (S := fun _ => False) H1.out.only (fun _ _ _ h => h))
  have HX := Lib.hid hok.src.1
  have hNlt : N < W1.heap.size := HBx.out.lt
  have HK := Lib.hid hk
  clear h hok hes hk
  go_enter Tryd.func10, Tryd.ntmps10
  go_upto_region 1 with (fail)
  have hW1' := hW1
  unfold boxed at hW1'
  rw [← hW1', ← hN]
  clear hW1 hW1' hN
  go_wp2_with fail
  refine (bytes_any HS1.out x.cap (by omega)).mono ?_
  rintro e w2 ⟨rfl, hb2, ho2⟩
  have HIn2 := Lib.hid hb2
  have HO2 := Lib.hid ho2
  have HBx2 := Lib.hid (HBx.out.only ho2 (fun h => h))
  have c22 : w2.cell? ⟨N, 2, none⟩ = some (.slice x.ad x.len x.cap) := HBx2.out.cell 2
  have c32 : w2.cell? ⟨N, 3, none⟩ = some (.slice x.mad x.mlen x.mcap) := HBx2.out.cell 3
  have ht2 := text_of (show Src w2.drew x.ad x.len x.xs from HS1.out.only (S := fun _ => False) ho2.drew (fun _ _ _ h => h)) x.cap 35 9 5 Tryd.underlying35 Tryd.underlying5 Tryd.underlying9
  have hin : Src w2.drew (some ⟨W1.heap.size, 0, none⟩) x.len x.xs := hb2.drew.src HX.out (fun j y hy => by
    rw [Nat.zero_add, List.getElem?_append_left (by rw [List.length_map]; exact (List.getElem?_eq_some_iff.1 hy).1), List.getElem?_map, hy]
    rfl)
  have HC1 := Lib.hid (act_deliver H1.out ho2.drew (HE.out.of [0, 1, 13]) (some ⟨W1.heap.size, 0, none⟩) x.len (x.len + 5) x.xs hin (by omega) (by omega) (by rintro _ ad ⟨⟩; exact ⟨Nat.le_refl _, hb2.drew.lt⟩) x.mad x.mlen x.mcap x.ml HOk.out.ints (by omega) (by omega))
  obtain ⟨dn, hdn⟩ : ∃ dn, dn = delNum s x.len x.ml := ⟨_, rfl⟩
  rw [← hdn] at HC1
  have HDn := Lib.hid hdn
  have HB := Lib.hid (del_bound s x.xs x.ml (by rw [HX.out]; exact hl))
  obtain ⟨s5, hs5⟩ : ∃ s5, s5 = delSt s x.xs x.ml := ⟨_, rfl⟩
  rw [← hs5] at HC1 HB
  have HS5e := Lib.hid hs5
  have bs : ((dn : Int) == (dn : Int)) = true := by simp
  clear hb2 ho2 hin hdn hs5 c0 c2
  go_wp2_with fail
  go_region_held3 (fun W => W.cell? ⟨N, 2, none⟩ = some (.slice x.ad x.len x.cap) ∧ W.cell? ⟨N, 3, none⟩ = some (.slice x.mad x.mlen x.mcap) ∧ (convert 35 9 (.slice x.ad x.len x.cap)).run Tryd.prog W = .ok (.string ⟨x.xs.toArray⟩) W)
    (first | exact ⟨c22, c32, ht2⟩ | exact ⟨c27, c37, ht7⟩ | exact ⟨c26, c36, ht6⟩ | exact ⟨c25, c35, ht5⟩)
    (first
      | (go_at_call 17; (with_reducible refine HC1.out.mono ?_); rintro e w5 ⟨v5, rfl, hv5, hA5, hT5⟩; have HBx5 := Lib.hid (hT5.box (show Blk w2.drew _ _ _ from HBx2.out)); have c25 : w5.cell? ⟨N, 2, none⟩ = some (.slice x.ad x.len x.cap) := HBx5.out.cell 2; have c35 : w5.cell? ⟨N, 3, none⟩ = some (.slice x.mad x.mlen x.mcap) := HBx5.out.cell 3; have HIn5 := Lib.hid (hT5.new (show Blk w2.drew _ _ _ from HIn2.out) (Nat.le_refl _)); have HA5 := Lib.hid hA5; have ht5 := text_of (HOk.out.src.only (S := fun _ => False) HA5.out.only (fun _ _ _ h => h)) x.cap 35 9 5 Tryd.underlying35 Tryd.underlying5 Tryd.underlying9; have HC2 := Lib.hid (num_any (HE.out.only HA5.out.only) hv5); clear hv5 hA5 hT5)
      | (go_at_call 9; (with_reducible refine HC2.out.mono ?_); rintro e w6 ⟨rfl, ho6⟩; have HO6 := Lib.hid ho6; have c26 := HO6.out.cellv c25 (fun h => h); have c36 := HO6.out.cellv c35 (fun h => h); have HO06 := Lib.hid (HA5.out.only.trans HO6.out (fun _ h => h.elim)); have ht6 := text_of (HOk.out.src.only (S := fun _ => False) HO06.out (fun _ _ _ h => h)) x.cap 35 9 5 Tryd.underlying35 Tryd.underlying5 Tryd.underlying9; have HC3 := Lib.hid (ract_deliver HA5.out HO6.out x.xs x.len HX.out x.mad x.mlen x.mcap x.ml HOk.out.ints (by omega) (by omega)); (rw [← HDn.out, ← HS5e.out] at HC3); clear ho6)
      | (go_at_call 25; (with_reducible refine HC3.out.mono ?_); rintro e w7 ⟨v7, rfl, rfl, hA7, hT7⟩; have HA7 := Lib.hid hA7; have HBx7 := Lib.hid (hT7.blk (HBx5.out.only HO6.out (fun h => h)) (by decide)); have c27 : w7.cell? ⟨N, 2, none⟩ = some (.slice x.ad x.len x.cap) := HBx7.out.cell 2; have c37 : w7.cell? ⟨N, 3, none⟩ = some (.slice x.mad x.mlen x.mcap) := HBx7.out.cell 3; have ht7 := text_of (HOk.out.src.only (S := fun _ => False) HA7.out.only (fun _ _ _ h => h)) x.cap 35 9 5 Tryd.underlying35 Tryd.underlying5 Tryd.underlying9; have HC4 := Lib.hid (kept_any (HOk.out.src.only (S := fun _ => False) HA7.out.only (fun _ _ _ h => h)) x.cap (by omega) (hT7.blk (HIn5.out.only HO6.out (fun h => h)) (by decide))); clear hA7 hT7)
      | (go_at_call 26; (with_reducible refine HC4.out.mono ?_); rintro e w8 ⟨rfl, rfl⟩))
  all_goals
    go_wp2
    go_ret
    exact ⟨rfl, s5, HB.out.1, HB.out.2.1, HB.out.2.2, HA7.out⟩

set_option maxHeartbeats 4000000 in
theorem sdo_send (h : ActAt w W p r s s) (hok : x.Ok w) (hl : x.len ≤ 300) {es : List Addr} (hes : ErrsAt w es) (hf : s.sent.length ≤ 100000) (hroom : s.room ≤ 4096) (hk : x.kind = 2) :
    Calls Tryd.prog 10 #[.pointer (some ⟨p, 0, none⟩), .pointer (some ⟨r, 0, none⟩), .agg #[.int .i64 x.kind, .int .i64 x.n, .slice x.ad x.len x.cap, .slice x.mad x.mlen x.mcap]] W (DoAns w p r s) := by
  have k0 : (x.kind == 0) = false := by rw [hk]; rfl
  have k1 : (x.kind == 1) = false := by rw [hk]; rfl
  have k2 : (x.kind == 2) = true := by rw [hk]; rfl
  have HK := Lib.hid hk
  clear hk
  obtain ⟨N, hN⟩ : ∃ N, N = W.heap.size := ⟨_, rfl⟩
  obtain ⟨W1, hW1⟩ : ∃ W1, W1 = W.alloc (.cells (boxed x) 38) := ⟨_, rfl⟩
  have HBx := Lib.hid (show Blk W1 N 38 x.vals by rw [hW1, hN]; exact Blk.new W _ x.vals)
  have H1 := Lib.hid (h.same (show Only (fun _ => False) W W1 by rw [hW1]; exact (Only.refl _ W).alloc _))
  have HOk := Lib.hid hok
  have HE := Lib.hid hes
  have c0 : W1.cell? ⟨N, 0, none⟩ = some (.int .i64 x.kind) := HBx.out.cell 0
  have c1 : W1.cell? ⟨N, 1, none⟩ = some (.int .i64 x.n) := HBx.out.cell 1
  have c2 : W1.cell? ⟨N, 2, none⟩ = some (.slice x.ad x.len x.cap) := HBx.out.cell 2
  have hx1 := hok.le
  have hx2 := hok.top
  have hx3 := hok.mle
  have hx4 := hok.mtop
  have HX := Lib.hid hok.src.1
  have hNlt : N < W1.heap.size := HBx.out.lt
  have HH := Lib.hid h
  clear h hok hes
  go_enter Tryd.func10, Tryd.ntmps10
  go_upto_region 1 with (fail)
  have hW1' := hW1
  unfold boxed at hW1'
  rw [← hW1', ← hN]
  clear hW1 hW1' hN
  have hft : s.sent.length - s.out ≤ s.room := by
    obtain ⟨m, V, mk, _, h2, _⟩ := HH.out
    have := h2.ou.fits
    omega
  have ht1 := text_of (show Src W1.drew x.ad x.len x.xs from HOk.out.src.only (S := fun _ => False) H1.out.only.drew (fun _ _ _ h => h)) x.cap 35 9 5 Tryd.underlying35 Tryd.underlying5 Tryd.underlying9
  have HC1 := Lib.hid (act_send H1.out (Only.refl _ W1).drew (HE.out.of [0, 1, 13]) x.ad x.len x.cap x.xs HOk.out.src hx1 hx2 (by omega))
  obtain ⟨dn, hdn⟩ : ∃ dn, dn = sendNum s x.len := ⟨_, rfl⟩
  rw [← hdn] at HC1
  have HDn := Lib.hid hdn
  have HB := Lib.hid (send_bound s x.xs (by rw [HX.out]; exact hl))
  obtain ⟨s5, hs5⟩ : ∃ s5, s5 = sendSt s x.xs := ⟨_, rfl⟩
  rw [← hs5] at HC1 HB
  have HS5e := Lib.hid hs5
  have bs : ((dn : Int) == (dn : Int)) = true := by simp
  clear hdn hs5
  go_wp2_with fail
  go_region_held3 (fun W => W.cell? ⟨N, 2, none⟩ = some (.slice x.ad x.len x.cap) ∧ (convert 35 9 (.slice x.ad x.len x.cap)).run Tryd.prog W = .ok (.string ⟨x.xs.toArray⟩) W)
    (first | exact ⟨c2, ht1⟩ | exact ⟨c27, ht7⟩ | exact ⟨c26, ht6⟩ | exact ⟨c25, ht5⟩)
    (first
      | (go_at_call 19; (with_reducible refine HC1.out.mono ?_); rintro e w5 ⟨v5, rfl, hv5, hA5, hT5⟩; have HBx5 := Lib.hid (hT5.box (show Blk W1.drew _ _ _ from HBx.out)); have c25 : w5.cell? ⟨N, 2, none⟩ = some (.slice x.ad x.len x.cap) := HBx5.out.cell 2; have HA5 := Lib.hid hA5; have ht5 := text_of (HOk.out.src.only (S := fun _ => False) HA5.out.only (fun _ _ _ h => h)) x.cap 35 9 5 Tryd.underlying35 Tryd.underlying5 Tryd.underlying9; have HC2 := Lib.hid (num_any (HE.out.only HA5.out.only) hv5); clear hv5 hA5 hT5)
      | (go_at_call 9; (with_reducible refine HC2.out.mono ?_); rintro e w6 ⟨rfl, ho6⟩; have HO6 := Lib.hid ho6; have c26 := HO6.out.cellv c25 (fun h => h); have HO06 := Lib.hid (HA5.out.only.trans HO6.out (fun _ h => h.elim)); have ht6 := text_of (HOk.out.src.only (S := fun _ => False) HO06.out (fun _ _ _ h => h)) x.cap 35 9 5 Tryd.underlying35 Tryd.underlying5 Tryd.underlying9; have HC3 := Lib.hid (ract_send HA5.out HO6.out x.xs x.len HX.out (by omega) (by omega) hft); (rw [← HDn.out, ← HS5e.out] at HC3); clear ho6)
      | (go_at_call 28; (with_reducible refine HC3.out.mono ?_); rintro e w7 ⟨v7, rfl, rfl, hA7, hT7⟩; have HA7 := Lib.hid hA7; have HBx7 := Lib.hid (hT7.blk (HBx5.out.only HO6.out (fun h => h)) (by decide)); have c27 : w7.cell? ⟨N, 2, none⟩ = some (.slice x.ad x.len x.cap) := HBx7.out.cell 2; have ht7 := text_of (HOk.out.src.only (S := fun _ => False) HA7.out.only (fun _ _ _ h => h)) x.cap 35 9 5 Tryd.underlying35 Tryd.underlying5 Tryd.underlying9; clear hA7 hT7))
  all_goals
    go_wp2
    go_ret
    exact ⟨rfl, s5, HB.out.1, HB.out.2.1, HB.out.2.2, HA7.out⟩

set_option maxHeartbeats 4000000 in
theorem sdo_grant (h : ActAt w W p r s s) (hok : x.Ok w) {es : List Addr} (hes : ErrsAt w es) (hf : s.sent.length ≤ 100000) (hk : x.kind = 3) :
    Calls Tryd.prog 10 #[.pointer (some ⟨p, 0, none⟩), .pointer (some ⟨r, 0, none⟩), .agg #[.int .i64 x.kind, .int .i64 x.n, .slice x.ad x.len x.cap, .slice x.mad x.mlen x.mcap]] W (DoAns w p r s) := by
  have k0 : (x.kind == 0) = false := by rw [hk]; rfl
  have k1 : (x.kind == 1) = false := by rw [hk]; rfl
  have k2 : (x.kind == 2) = false := by rw [hk]; rfl
  have k3 : (x.kind == 3) = true := by rw [hk]; rfl
  have HK := Lib.hid hk
  clear hk
  obtain ⟨N, hN⟩ : ∃ N, N = W.heap.size := ⟨_, rfl⟩
  obtain ⟨W1, hW1⟩ : ∃ W1, W1 = W.alloc (.cells (boxed x) 38) := ⟨_, rfl⟩
  have HBx := Lib.hid (show Blk W1 N 38 x.vals by rw [hW1, hN]; exact Blk.new W _ x.vals)
  have H1 := Lib.hid (h.same (show Only (fun _ => False) W W1 by rw [hW1]; exact (Only.refl _ W).alloc _))
  have HOk := Lib.hid hok
  have HE := Lib.hid hes
  have c0 : W1.cell? ⟨N, 0, none⟩ = some (.int .i64 x.kind) := HBx.out.cell 0
  have c1 : W1.cell? ⟨N, 1, none⟩ = some (.int .i64 x.n) := HBx.out.cell 1
  have c2 : W1.cell? ⟨N, 2, none⟩ = some (.slice x.ad x.len x.cap) := HBx.out.cell 2
  have hx1 := hok.le
  have hx2 := hok.top
  have hx3 := hok.mle
  have hx4 := hok.mtop
  have HX := Lib.hid hok.src.1
  have hNlt : N < W1.heap.size := HBx.out.lt
  have HH := Lib.hid h
  clear h hok hes
  go_enter Tryd.func10, Tryd.ntmps10
  go_upto_region 1 with (fail)
  have hW1' := hW1
  unfold boxed at hW1'
  rw [← hW1', ← hN]
  clear hW1 hW1' hN
  have HC1 := Lib.hid (act_grant H1.out (Only.refl _ W1).drew x.n (by omega))
  obtain ⟨dn, hdn⟩ : ∃ dn, dn = grantNum s x.n := ⟨_, rfl⟩
  rw [← hdn] at HC1
  have HDn := Lib.hid hdn
  obtain ⟨s5, hs5⟩ : ∃ s5, s5 = grantSt s x.n := ⟨_, rfl⟩
  rw [← hs5] at HC1
  have HS5e := Lib.hid hs5
  have HB := Lib.hid (show s5.came.length ≤ s.came.length + 300 ∧ s5.sent.length ≤ s.sent.length + 300 ∧ s5.room = s.room by rw [hs5]; exact ⟨Nat.le_add_right _ _, Nat.le_add_right _ _, rfl⟩)
  have bs : ((dn : Int) == (dn : Int)) = true := by simp
  clear hdn hs5
  go_wp2_with fail
  go_region_held3 (fun W => W.cell? ⟨N, 1, none⟩ = some (.int .i64 x.n))
    (first | exact c1 | exact c17 | exact c15)
    (first
      | (go_at_call 20; (with_reducible refine HC1.out.mono ?_); rintro e w5 ⟨v5, rfl, rfl, hA5, hT5⟩; have HBx5 := Lib.hid (hT5.box (show Blk W1.drew _ _ _ from HBx.out)); have c15 : w5.cell? ⟨N, 1, none⟩ = some (.int .i64 x.n) := HBx5.out.cell 1; have HC3 := Lib.hid (ract_grant hA5 (Only.refl _ _) x.n (by omega)); (rw [← HDn.out, ← HS5e.out] at HC3); clear hA5 hT5)
      | (go_at_call 29; (with_reducible refine HC3.out.mono ?_); rintro e w7 ⟨v7, rfl, rfl, hA7, hT7⟩; have HA7 := Lib.hid hA7; have HBx7 := Lib.hid (hT7.blk HBx5.out (by decide)); have c17 : w7.cell? ⟨N, 1, none⟩ = some (.int .i64 x.n) := HBx7.out.cell 1; clear hA7 hT7))
  all_goals
    go_wp2
    go_ret
    exact ⟨rfl, s5, HB.out.1, HB.out.2.1, HB.out.2.2, HA7.out⟩

def NextsRel (w : World) (p r : Nat) (s : St) (W : World) : Prop := ∃ u : St, u.came.length = s.came.length ∧ u.sent.length = s.sent.length ∧ u.room = s.room ∧ ActAt w W p r u u
set_option maxHeartbeats 4000000 in
theorem sdo_next (h : ActAt w W p r s s) (hok : x.Ok w) {es : List Addr} (hes : ErrsAt w es) (hf : s.came.length ≤ 100000) (hk : x.kind = 1) :
    Calls Tryd.prog 10 #[.pointer (some ⟨p, 0, none⟩), .pointer (some ⟨r, 0, none⟩), .agg #[.int .i64 x.kind, .int .i64 x.n, .slice x.ad x.len x.cap, .slice x.mad x.mlen x.mcap]] W (DoAns w p r s) := by
  have k0 : (x.kind == 0) = false := by rw [hk]; rfl
  have k1 : (x.kind == 1) = true := by rw [hk]; rfl
  have HK := Lib.hid hk
  clear hk
  obtain ⟨N, hN⟩ : ∃ N, N = W.heap.size := ⟨_, rfl⟩
  obtain ⟨W1, hW1⟩ : ∃ W1, W1 = W.alloc (.cells (boxed x) 38) := ⟨_, rfl⟩
  have HBx := Lib.hid (show Blk W1 N 38 x.vals by rw [hW1, hN]; exact Blk.new W _ x.vals)
  have H1 := Lib.hid (h.same (show Only (fun _ => False) W W1 by rw [hW1]; exact (Only.refl _ W).alloc _))
  have HOk := Lib.hid hok
  have HE := Lib.hid hes
  have c0 : W1.cell? ⟨N, 0, none⟩ = some (.int .i64 x.kind) := HBx.out.cell 0
  have c1 : W1.cell? ⟨N, 1, none⟩ = some (.int .i64 x.n) := HBx.out.cell 1
  have c2 : W1.cell? ⟨N, 2, none⟩ = some (.slice x.ad x.len x.cap) := HBx.out.cell 2
  have hx1 := hok.le
  have hx2 := hok.top
  have hx3 := hok.mle
  have hx4 := hok.mtop
  have HX := Lib.hid hok.src.1
  have hNlt : N < W1.heap.size := HBx.out.lt
  have HH := Lib.hid h
  clear h hok hes
  go_enter Tryd.func10, Tryd.ntmps10
  go_upto_region 1 with (fail)
  have hW1' := hW1
  unfold boxed at hW1'
  rw [← hW1', ← hN]
  clear hW1 hW1' hN
  obtain ⟨K, hK, hKe⟩ := u64_rem x.n 50 (by omega)
  have hKe' : (IntKind.u64.wrap x.n).tmod 50 = (K : Int) := hKe
  have HKe := Lib.hid hKe'
  have HR0 := Lib.hid (show NextsRel w p r s W1 from ⟨s, rfl, rfl, rfl, H1.out⟩)
  clear hKe hKe' HBx H1 HOk HE hx1 hx2 hx3 hx4 HX HH HK
  go_wp2_with fail
  rw [HKe.out, wrap64_nat K (by omega)]
  clear HKe
  generalize IntKind.u64.wrap x.n = U
  go_loopw [49] (fun i W => ∃ k : Nat, k ≤ K ∧ i = .int .i64 (k : Int) ∧ Hid (NextsRel w p r s W)) (fun i _ => K - (intOf i).toNat)
  case atStart => exact ⟨0, Nat.zero_le _, rfl, HR0.out⟩
  case round =>
    clear HR0
    obtain ⟨k, hk, rfl, hr⟩ := hrel
    obtain ⟨u, hu1, hu2, hu3, hA⟩ := hr.out
    have HU := Lib.hid (And.intro hu1 (And.intro hu2 hu3))
    have HA := Lib.hid hA
    clear hr hu1 hu2 hu3 hA
    by_cases hlt : k < K
    · go_wp2_with fail
      refine (act_next HA.out (Only.refl _ _)).mono ?_
      rintro e w5 ⟨v5, rfl, rfl, hA5, _⟩
      have HA5 := Lib.hid hA5
      clear hA5 HA
      go_wp2_with fail
      refine (ract_next HA5.out (Only.refl _ _) (by have := HU.out.1; omega)).mono ?_
      rintro e w6 ⟨v6, rfl, rfl, hA6, _⟩
      have HA6 := Lib.hid hA6
      have HN := Lib.hid (next_bound u)
      clear hA6 HA5
      generalize nextC u = n1 at *
      generalize nextM u = n2 at *
      generalize nextIs u = n3 at *
      unfold B8
      have e1 : (((n1.toNat : Nat) : Int) != ((n1.toNat : Nat) : Int)) = false := by simp
      have e2 : (n2 != n2) = false := by simp
      have e3 : (n3 != n3) = false := by simp
      go_wp2
      go_roundw
      case rel => exact ⟨k + 1, by omega, by go_num, nextSt u, HN.out.1.trans HU.out.1, HN.out.2.1.trans HU.out.2.1, HN.out.2.2.trans HU.out.2.2, HA6.out⟩
      case measure => simp [intOf]; omega
    · go_wp2
      go_ret
      have hu := HU.out
      exact ⟨rfl, u, by omega, by omega, hu.2.2, HA.out⟩

theorem sdo_other (h : ActAt w W p r s s) (hok : x.Ok w) {es : List Addr} (hes : ErrsAt w es) (hk : x.kind ≠ 0 ∧ x.kind ≠ 1 ∧ x.kind ≠ 2 ∧ x.kind ≠ 3 ∧ x.kind ≠ 4) :
    Calls Tryd.prog 10 #[.pointer (some ⟨p, 0, none⟩), .pointer (some ⟨r, 0, none⟩), .agg #[.int .i64 x.kind, .int .i64 x.n, .slice x.ad x.len x.cap, .slice x.mad x.mlen x.mcap]] W (DoAns w p r s) := by
  obtain ⟨n0, n1, n2, n3, n4⟩ := hk
  have k0 : (x.kind == 0) = false := by simpa using n0
  have k1 : (x.kind == 1) = false := by simpa using n1
  have k2 : (x.kind == 2) = false := by simpa using n2
  have k3 : (x.kind == 3) = false := by simpa using n3
  have k4 : (x.kind == 4) = false := by simpa using n4
  clear n0 n1 n2 n3 n4
  obtain ⟨N, hN⟩ : ∃ N, N = W.heap.size := ⟨_, rfl⟩
  obtain ⟨W1, hW1⟩ : ∃ W1, W1 = W.alloc (.cells (boxed x) 38) := ⟨_, rfl⟩
  have HBx := Lib.hid (show Blk W1 N 38 x.vals by rw [hW1, hN]; exact Blk.new W _ x.vals)
  have H1 := Lib.hid (h.same (show Only (fun _ => False) W W1 by rw [hW1]; exact (Only.refl _ W).alloc _))
  have HOk := Lib.hid hok
  have HE := Lib.hid hes
  have c0 : W1.cell? ⟨N, 0, none⟩ = some (.int .i64 x.kind) := HBx.out.cell 0
  have c1 : W1.cell? ⟨N, 1, none⟩ = some (.int .i64 x.n) := HBx.out.cell 1
  have c2 : W1.cell? ⟨N, 2, none⟩ = some (.slice x.ad x.len x.cap) := HBx.out.cell 2
  have hx1 := hok.le
  have hx2 := hok.top
  have hx3 := hok.mle
  have hx4 := hok.mtop
  have HX := Lib.hid hok.src.1
  have hNlt : N < W1.heap.size := HBx.out.lt
  have HH := Lib.hid h
  clear h hok hes
  go_enter Tryd.func10, Tryd.ntmps10
  go_upto_region 1 with (fail)
  have hW1' := hW1
  unfold boxed at hW1'
  rw [← hW1', ← hN]
  clear hW1 hW1' hN
  go_wp2
  go_ret
  exact ⟨rfl, s, Nat.le_add_right _ _, Nat.le_add_right _ _, rfl, H1.out⟩

set_option maxHeartbeats 4000000 in
theorem sdo_close (h : ActAt w W p r s s) (hok : x.Ok w) {es : List Addr} (hes : ErrsAt w es) (hk : x.kind = 4) :
    Calls Tryd.prog 10 #[.pointer (some ⟨p, 0, none⟩), .pointer (some ⟨r, 0, none⟩), .agg #[.int .i64 x.kind, .int .i64 x.n, .slice x.ad x.len x.cap, .slice x.mad x.mlen x.mcap]] W (DoAns w p r s) := by
  have k0 : (x.kind == 0) = false := by rw [hk]; rfl
  have k1 : (x.kind == 1) = false := by rw [hk]; rfl
  have k2 : (x.kind == 2) = false := by rw [hk]; rfl
  have k3 : (x.kind == 3) = false := by rw [hk]; rfl
  have k4 : (x.kind == 4) = true := by rw [hk]; rfl
  have HK := Lib.hid hk
  clear hk
  obtain ⟨N, hN⟩ : ∃ N, N = W.heap.size := ⟨_, rfl⟩
  obtain ⟨W1, hW1⟩ : ∃ W1, W1 = W.alloc (.cells (boxed x) 38) := ⟨_, rfl⟩
  have HBx := Lib.hid (show Blk W1 N 38 x.vals by rw [hW1, hN]; exact Blk.new W _ x.vals)
  have H1 := Lib.hid (h.same (show Only (fun _ => False) W W1 by rw [hW1]; exact (Only.refl _ W).alloc _))
  have HOk := Lib.hid hok
  have HE := Lib.hid hes
  have c0 : W1.cell? ⟨N, 0, none⟩ = some (.int .i64 x.kind) := HBx.out.cell 0
  have c1 : W1.cell? ⟨N, 1, none⟩ = some (.int .i64 x.n) := HBx.out.cell 1
  have c2 : W1.cell? ⟨N, 2, none⟩ = some (.slice x.ad x.len x.cap) := HBx.out.cell 2
  have hx1 := hok.le
  have hx2 := hok.top
  have hx3 := hok.mle
  have hx4 := hok.mtop
  have HX := Lib.hid hok.src.1
  have hNlt : N < W1.heap.size := HBx.out.lt
  have HH := Lib.hid h
  clear h hok hes
  go_enter Tryd.func10, Tryd.ntmps10
  go_upto_region 1 with (fail)
  have hW1' := hW1
  unfold boxed at hW1'
  rw [← hW1', ← hN]
  clear hW1 hW1' hN
  obtain ⟨m, V, mk, hm1, hm2, hm3, hm4, hm5, hm6⟩ := H1.out
  have d4 := hm3.c 4 _ rfl
  have hfz := hm3.head.frozen 4
  have hset : Only (· = r) W1 (W1.setCell ⟨r, 4, none⟩ (.bool true)) := (Only.refl (· = r) W1).setCell (p := ⟨r, 4, none⟩) (.inl rfl) _
  have hL : RLeft w.heap.size W1 r V { s with closed := true } (W1.setCell ⟨r, 4, none⟩ (.bool true)) :=
    ⟨V, mk, ⟨hm3.head.setCell 4 (.bool true), own_only hm3.row hset (fun q hq => own_ne hm3.row hm3.head (by decide) q hq), hm3.lo, hm3.back, hm3.backs, hm3.agree, hm3.inside, hm3.rising, hm3.fits⟩, hset, fun i h => .inl h⟩
  have HA2 := Lib.hid (ActAt.right hm1 hm2 hm3 hm4 hm5 hm6 hL).1
  have HC1 := Lib.hid (act_close HA2.out (Only.refl _ _) (HE.out.of [0, 1, 13]))
  have HCn := Lib.hid (show closeNum s = if s.closed then 14 else 0 from rfl)
  clear hm1 hm2 hm3 hm4 hm5 hm6 hset hL
  have hb : s.closed = true ∨ s.closed = false := by cases s.closed <;> simp
  rcases hb with hb | hb
  all_goals
    rw [hb] at d4
    rw [hb] at HCn
    have HB := Lib.hid hb
    clear hb
    go_wp2_with fail
    refine HC1.out.mono ?_
    rintro e w5 ⟨v5, rfl, hv5, hA5, hT5⟩
    have HA5 := Lib.hid hA5
    have HC2 := Lib.hid (num_any (HE.out.only HA5.out.only) hv5)
    rw [HCn.out] at HC2
    simp only [if_true, Bool.false_eq_true, if_false] at HC2
    clear hv5 hA5 hT5 HC1
    go_wp2_with fail
    refine HC2.out.mono ?_
    rintro e w6 ⟨rfl, ho6⟩
    have HO6 := Lib.hid ho6
    clear ho6 HC2
    go_wp2
    go_ret
    exact ⟨rfl, { s with closed := true }, Nat.le_add_right _ _, Nat.le_add_right _ _, rfl, HA5.out.same HO6.out⟩

theorem sdo_any (h : ActAt w W p r s s) (hok : x.Ok w) (hl : x.len ≤ 300) (hm : x.mlen ≤ 40) {es : List Addr} (hes : ErrsAt w es) (hf : s.came.length ≤ 100000) (hf2 : s.sent.length ≤ 100000) (hroom : s.room ≤ 4096) :
    Calls Tryd.prog 10 #[.pointer (some ⟨p, 0, none⟩), .pointer (some ⟨r, 0, none⟩), .agg #[.int .i64 x.kind, .int .i64 x.n, .slice x.ad x.len x.cap, .slice x.mad x.mlen x.mcap]] W (DoAns w p r s) := by
  have hways : x.kind = 0 ∨ x.kind = 1 ∨ x.kind = 2 ∨ x.kind = 3 ∨ x.kind = 4 ∨ (x.kind ≠ 0 ∧ x.kind ≠ 1 ∧ x.kind ≠ 2 ∧ x.kind ≠ 3 ∧ x.kind ≠ 4) := by omega
  rcases hways with hk | hk | hk | hk | hk | hk
  · exact sdo_deliver h hok hl hm hes hf hk
  · exact sdo_next h hok hes hf hk
  · exact sdo_send h hok hl hes hf2 hroom hk
  · exact sdo_grant h hok hes hf2 hk
  · exact sdo_close h hok hes hk
  · exact sdo_other h hok hes hk
end
end Go.Proofs.YtpabhgkamekcnaaDoor
