/- Package timers: its timers in memory; takeOut and putIn. -/
import Derived.Test.YtdcjmfbdmejjjaaDoorInsert
namespace Go.Proofs.YtdcjmfbdmejjjaaDoor
open Go Go.RowKit

theorem info_int : (Tryd.prog.info? 3).map (fun i => (i.zero, i.size, i.bytes)) = some (some (.int .i64 0), 1, 8) := by kernel_rfl

/-- Block p holds timers: the tick that is now; its row, of memory from B on. -/
structure IsTm (B : Nat) (w : World) (p : Nat) (now : Int) (A : Option Addr) (c : Nat) (ts : List Tm) : Prop where
  head : Blk w p 53 [.int .i64 now, .slice A ts.length c]
  row : w.ownsRow B 59 2 (.slice A ts.length c) ts.length (flat ts)
  most : ts.length ≤ 16

section
variable {B p c : Nat} {w w' : World} {now : Int} {A : Option Addr} {ts : List Tm}
theorem IsTm.only {S : Nat → Prop} (h : IsTm B w p now A c ts) (ho : Only S w w') (h1 : ¬ S p) (h2 : ∀ k, (Value.slice A ts.length c).ownBlock = some k → ¬ S k) : IsTm B w' p now A c ts :=
  ⟨h.head.only ho h1, own_only h.row ho h2, h.most⟩
theorem IsTm.same (h : IsTm B w p now A c ts) (ho : Only (fun _ => False) w w') : IsTm B w' p now A c ts := h.only ho (fun h => h) (fun _ _ h => h)
theorem IsTm.mono {B' : Nat} (h : IsTm B w p now A c ts) (hB : B' ≤ B) : IsTm B' w p now A c ts := ⟨h.head, own_mono h.row hB, h.most⟩
theorem IsTm.c0 (h : IsTm B w p now A c ts) : w.cell? ⟨p, 0, none⟩ = some (.int .i64 now) := by rw [h.head.cell 0]; rfl
theorem IsTm.c1 (h : IsTm B w p now A c ts) : w.cell? ⟨p, 1, none⟩ = some (.slice A ts.length c) := by rw [h.head.cell 1]; rfl
theorem IsTm.ne (h : IsTm B w p now A c ts) : ∀ k, (Value.slice A ts.length c).ownBlock = some k → k ≠ p := own_ne h.row h.head (by decide)
end

def keysOf (ts : List Tm) : List Value := ts.map fun x => .int .i64 x.1
/-- What is left, and answered, by taking out. -/
def TookOut (w : World) (p : Nat) (now : Int) (out rest : List Tm) (e : Ending) (w' : World) : Prop :=
  ∃ K kc A c, e = .returned (.slice K out.length kc) ∧ w'.ownsRow w.heap.size 3 1 (.slice K out.length kc) out.length (keysOf out) ∧ IsTm w.heap.size w' p now A c rest ∧ Only (· = p) w w'

/-- Behind k rounds. -/
def TakeRel (w : World) (pr : Tm → Bool) (ts : List Tm) (k : Nat) (ks rs : Value) (W : World) : Prop :=
  Only (fun _ => False) w W ∧ W.ownsRow w.heap.size 3 1 ks ((ts.take k).filter pr).length (keysOf ((ts.take k).filter pr)) ∧
    W.ownsRow w.heap.size 59 2 rs ((ts.take k).filter fun x => !pr x).length (flat ((ts.take k).filter fun x => !pr x))

theorem news_one {w : World} {vb : Nat} {t : TypeId} {x : Tm} (h : Blk w vb t [.int .i64 x.1]) : ∀ (j : Nat) (u : Value), (keysOf [x])[j]? = some u → w.cell? ((⟨vb, 0, none⟩ : Addr).add j) = some u := by
  intro j u hu
  rw [show (⟨vb, 0, none⟩ : Addr).add j = ⟨vb, j, none⟩ from by unfold Addr.add; split <;> simp_all, h.cell]
  exact hu
theorem keys_one (l : List Tm) : ∀ v ∈ keysOf l, v.oneCell' = true := by
  intro v hv
  obtain ⟨x, _, rfl⟩ := List.mem_map.1 hv
  rfl

set_option maxHeartbeats 1000000 in
theorem takeOut_any {B p c : Nat} {w : World} {now : Int} {A : Option Addr} {ts : List Tm} (h : IsTm B w p now A c ts) (g : Nat) (lb : Array Value) (pr : Tm → Bool)
    (eg : ∀ args w, (callFunc g args).run Tryd.prog w = .ok (.enter g args) w) (hp : Asks g lb pr w) :
    Calls Tryd.prog 26 #[.pointer (some ⟨p, 0, none⟩), .func (.func g) #[] lb] w (TookOut w p now (ts.filter pr) (ts.filter fun x => !pr x)) := by
  have c1 := h.c1
  have hle := own_le h.row
  have hm := h.most
  obtain ⟨i0, hi0, hz0, hz1, hz2⟩ := info_parts info_tm
  obtain ⟨j0, hj0, jz0, jz1, jz2⟩ := info_parts info_int
  have HH := Lib.hid h
  have HP := Lib.hid hp
  clear h hp
  obtain ⟨n, hn⟩ : ∃ n, n = ts.length := ⟨_, rfl⟩
  rw [← hn] at c1 hle hm
  have HN := Lib.hid hn
  have HR0 := Lib.hid (show TakeRel w pr ts 0 (.slice none 0 0) (.slice none 0 0) w from ⟨Only.refl _ _, own_nil _ _ _ _, own_nil _ _ _ _⟩)
  clear hn
  go_enter Tryd.func26, Tryd.ntmps26
  go_wp2
  go_loopw [5, 6, 14] (fun ks rs i W => ∃ k : Nat, k ≤ n ∧ i = .int .i64 (k : Int) ∧ Hid (TakeRel w pr ts k ks rs W)) (fun _ _ i _ => n - (intOf i).toNat)
  case atStart => exact ⟨0, Nat.zero_le _, rfl, HR0.out⟩
  case round =>
    clear HR0 c1
    obtain ⟨k, hk, rfl, hr⟩ := hrel
    by_cases hlt : k < n
    · obtain ⟨x, hx⟩ : ∃ x, ts[k]? = some x := ⟨_, List.getElem?_eq_getElem (by rw [← HN.out]; exact hlt)⟩
      have hrow := own_same HH.out.row hr.out.1
      rw [← HN.out] at hrow
      obtain ⟨g0, rfl, _, hg0, c0, c1⟩ := two_of hrow hx hlt
      have Hx := Lib.hid hx
      have Hbl := Lib.hid (Blk.new wr 59 [.int .i64 x.1, .int .i64 x.2])
      have Hal := Lib.hid (hr.out.1.alloc (.cells #[.int .i64 x.1, .int .i64 x.2] 59))
      have Hks := Lib.hid (hr.out.2.1.alloc (.cells #[.int .i64 x.1, .int .i64 x.2] 59))
      have Hrs := Lib.hid (hr.out.2.2.alloc (.cells #[.int .i64 x.1, .int .i64 x.2] 59))
      have hsz := hr.out.1.size
      have hll := List.length_filter_le pr (ts.take k)
      have hll2 := List.length_filter_le (fun x => !pr x) (ts.take k)
      have htk : (ts.take k).length ≤ k := List.length_take_le _ _
      have HT := Lib.hid (show ts.take (k + 1) = ts.take k ++ [x] by rw [List.take_add_one, hx]; rfl)
      have C := HP.out _ x.1 x.2 Hal.out
      clear hx hrow hr
      obtain ⟨b, hb⟩ : ∃ b, pr (x.1, x.2) = b := ⟨_, rfl⟩
      rw [hb] at C
      have HC := Lib.hid C
      have HB := Lib.hid hb
      clear C hb
      cases b
      · go_wp2_with (first
          | (go_at_fn g; refine HC.out.mono ?_; rintro e w' ⟨rfl, ho'⟩; have d0 := (Hbl.out.only ho' (fun h => h)).cell 0; have d1 := (Hbl.out.only ho' (fun h => h)).cell 1; have d0 : w'.cell? ⟨wr.heap.size, 0, none⟩ = some (.int .i64 x.1) := d0; have d1 : w'.cell? ⟨wr.heap.size, 1, none⟩ = some (.int .i64 x.2) := d1)
          | (at_builtin; refine wpList_append_lies _ rfl (.tmp 26) (.tmp 28) 51 rfl w.heap.size 59 i0 _ 2 16 Tryd.underlying51 hi0 hz0 hz1 hz2 rfl (by omega) _ _ _ rfl ((own_same Hrs.out ho').alloc _) ⟨w'.heap.size, 0, none⟩ 1 1 (flat [x]) rfl rfl (news_two (Blk.new w' 59 [.int .i64 x.1, .int .i64 x.2])) (flat_one [x]) (by omega) (by unfold maxLen; omega) (by omega) ((Hal.out.trans ho' (fun _ h => h.elim)).alloc _).size _ rfl ?_; intro g' cap w'' hown hgr hat hlt'))
        go_roundw
        case rel =>
          refine ⟨k + 1, by omega, by go_num, (((Hal.out.trans ho' (fun _ h => h.elim)).alloc _).grown hgr (fun q hq => .inr ?_)), ?_, ?_⟩
          · exact (own_lt Hrs.out q hq).1
          · have e : (ts.take (k + 1)).filter pr = (ts.take k).filter pr := by
              rw [HT.out, List.filter_append, List.filter_cons_of_neg (by rw [HB.out]; simp), List.filter_nil, List.append_nil]
            rw [e]
            exact own_kept ((own_same Hks.out ho').alloc _) ((own_same Hrs.out ho').alloc _) (by decide) hgr
          · have e : (ts.take (k + 1)).filter (fun x => !pr x) = (ts.take k).filter (fun x => !pr x) ++ [x] := by
              rw [HT.out, List.filter_append, List.filter_cons_of_pos (by rw [HB.out]; rfl), List.filter_nil]
            rw [e, List.length_append, flat_append]
            exact hown
        case measure => simp [intOf]; omega
      · go_wp2_with (first
          | (go_at_fn g; refine HC.out.mono ?_; rintro e w' ⟨rfl, ho'⟩; have d0 := (Hbl.out.only ho' (fun h => h)).cell 0; have d1 := (Hbl.out.only ho' (fun h => h)).cell 1; have d0 : w'.cell? ⟨wr.heap.size, 0, none⟩ = some (.int .i64 x.1) := d0; have d1 : w'.cell? ⟨wr.heap.size, 1, none⟩ = some (.int .i64 x.2) := d1)
          | (at_builtin; refine wpList_append_lies _ rfl (.tmp 21) (.tmp 24) 38 rfl w.heap.size 3 j0 _ 1 8 Tryd.underlying38 hj0 jz0 jz1 jz2 rfl (by omega) _ _ _ rfl ((own_same Hks.out ho').alloc _) ⟨w'.heap.size, 0, none⟩ 1 1 (keysOf [x]) rfl rfl (news_one (Blk.new w' 3 [.int .i64 x.1])) (keys_one [x]) (by omega) (by unfold maxLen; omega) (by omega) ((Hal.out.trans ho' (fun _ h => h.elim)).alloc _).size _ rfl ?_; intro g' cap w'' hown hgr hat hlt'))
        go_roundw
        case rel =>
          refine ⟨k + 1, by omega, by go_num, (((Hal.out.trans ho' (fun _ h => h.elim)).alloc _).grown hgr (fun q hq => .inr ?_)), ?_, ?_⟩
          · exact (own_lt Hks.out q hq).1
          · have e : (ts.take (k + 1)).filter pr = (ts.take k).filter pr ++ [x] := by
              rw [HT.out, List.filter_append, List.filter_cons_of_pos (by rw [HB.out]), List.filter_nil]
            rw [e, List.length_append, show keysOf ((ts.take k).filter pr ++ [x]) = keysOf ((ts.take k).filter pr) ++ keysOf [x] from by simp [keysOf]]
            exact hown
          · have e : (ts.take (k + 1)).filter (fun x => !pr x) = (ts.take k).filter (fun x => !pr x) := by
              rw [HT.out, List.filter_append, List.filter_cons_of_neg (by rw [HB.out]; simp), List.filter_nil, List.append_nil]
            rw [e]
            exact own_kept ((own_same Hrs.out ho').alloc _) ((own_same Hks.out ho').alloc _) (by decide) hgr
        case measure => simp [intOf]; omega
    · obtain ⟨hO, hK, hR⟩ := hr.out
      obtain rfl : k = n := by omega
      have htk : ts.take k = ts := List.take_of_length_le (by rw [← HN.out]; omega)
      rw [htk] at hK hR
      obtain ⟨KA, kc, rfl, _, _⟩ := own_form hK
      obtain ⟨RA, rc, rfl, _, _⟩ := own_form hR
      have hB0 := HH.out.head.only hO (fun h => h)
      rw [← HN.out] at hB0
      have hfz := hB0.frozen 1
      have hcell : wr.cell? ⟨p, 1, none⟩ = some (.slice A k c) := by rw [hB0.cell 1]; rfl
      have HB0 := Lib.hid hB0
      have HO := Lib.hid hO
      have HK := Lib.hid hK
      have HR := Lib.hid hR
      have hlr := List.length_filter_le (fun x => !pr x) ts
      clear hB0 hO hK hR hr htk
      go_wp2
      go_ret
      have hset : Only (· = p) wr (wr.setCell ⟨p, 1, none⟩ (.slice RA (ts.filter fun x => !pr x).length rc)) := (Only.refl (· = p) wr).setCell (p := ⟨p, 1, none⟩) (.inl rfl) _
      refine ⟨KA, kc, RA, rc, rfl, own_only HK.out hset (fun q hq => own_ne HK.out HB0.out (by decide) q hq), ⟨HB0.out.setCell 1 _, own_only HR.out hset (fun q hq => own_ne HR.out HB0.out (by decide) q hq), by have := HN.out; omega⟩, (HO.out.mono (fun _ h => h.elim)).trans hset (fun i hi => .inl hi)⟩
end Go.Proofs.YtdcjmfbdmejjjaaDoor
