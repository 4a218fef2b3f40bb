/- Several texts in one. -/
import Derived.Test.YtbnfhklpobephaaGreatDoorJEmit
import Derived.Test.YtbnfhklpobephaaGreatDoorJHsNew
import Derived.Test.YtbnfhklpobephaaGreatDoorJScAskIn
import Derived.Test.YtbnfhklpobephaaGreatDoorJRow1
import Derived.Test.YtbnfhklpobephaaGreatDoorJMkOf
/- An end sends what its hub tells; an option has turned. -/
namespace Go.Proofs.YtbnfhklpobephaaGreatDoor
open Go Go.RowKit
set_option maxRecDepth 100000
set_option maxHeartbeats 4000000

theorem HsIs.cut {w : World} {p : Nat} {G : Nat → Prop} {h : Hb} {H : Hs} (k : HsIs w p G h H) : HsIs w p (fun i => G i ∧ i < w.heap.size) h H := by
  obtain ⟨N, z1, z2, z3, z4⟩ := k.sz
  obtain ⟨A, c, c1, c2, c3⟩ := k.cy
  obtain ⟨M, o1, o2, o3, o4⟩ := k.ho
  obtain ⟨B, n, d, r1, r2, r3, r4⟩ := k.rep
  refine ⟨⟨N, z1, z2, ⟨z3, z2.lt (by omega) _ rfl⟩, z4⟩, ⟨A, c, c1, c2, fun ad e => ⟨⟨(c3 ad e).1, c2.lt k.one ad e⟩, (c3 ad e).2⟩⟩, k.ck, k.one, k.most, k.okT, ⟨M, o1, o2, ⟨o3, o2.lt' (by omega)⟩, o4⟩, k.can, k.pc, k.pr, k.li, ⟨B, n, d, r1, r2, r3, fun ad e h0 => ⟨⟨(r4 ad e h0).1, ?_⟩, (r4 ad e h0).2⟩⟩, k.sd, k.hm, k.hw, k.tc, k.tm, k.ma, k.ms⟩
  obtain ⟨b, off, e', hb, _⟩ := r2.2 0 _ (List.getElem?_eq_getElem (by rw [r2.1]; exact h0))
  rw [e] at e'
  injection e' with e'
  subst e'
  exact hb
/-- A hub's call. -/
theorem EeAt.ofAns {w w' : World} {es : List Addr} {p mo : Nat} {tp : TypeId} {pre post : List Value} {M R : Nat → Prop} {ag : Nat → Nat → Bool} {E : Ee} {ccs tcs : List Value} {h : Hb} {A : Option Addr} {n c : Nat} {xs : List Pc} {o : Int} {r : HsR} {v Er : Value}
    (k : EeAt w p mo tp pre post M R ag E ccs tcs h A n c xs) (ha : Ans w es p (mo + 1802) tp (pre ++ (ccs ++ tcs)) (enTail (.slice A n c) E ++ post) R o r v Er w') : EnGoes w.heap.size w p mo tp pre post M R ag { E with H := r.2.2 } w' := by
  obtain ⟨h', G', h1, h2⟩ := ha.hub
  exact ⟨M, _, ⟨ccs, tcs, h', A, n, c, xs, k.ofHs ha.only ⟨h1.hub, h1.is.cut⟩ (fun i hi => h2 i hi.1) (fun i hi => hi.2)⟩, ⟨ha.only.mono (fun i hi => .inl (hi ▸ k.mp)), fun _ h => .inl h, fun i hi => hi.elim .inl (fun h => h2 i h.1)⟩⟩
section
variable {w : World} {es : List Addr} {p mo : Nat} {tp : TypeId} {pre post : List Value} {M R : Nat → Prop} {ag : Nat → Nat → Bool} {E : Ee}
theorem enSendS (k : IsEe w p mo tp pre post M R ag E) (hes : ErrsAt w es) (hbd : E.out.length ≤ 100000) {B0 : Nat} {v : Value} {o : Int} {t : Option (List UInt8)} (hv : HTold B0 w v o t) :
    Calls Tryz.prog 69 #[.pointer (some ⟨p, mo, none⟩), v] w fun e w' => e = .returned (.tuple #[]) ∧ Hid (EnGoes w.heap.size w p mo tp pre post M R ag (E.sendS o t) w') := by
  have HK := Lib.hid k
  cases t with
  | none =>
    obtain rfl : v = .slice none 0 0 := hv
    have HE : Hid (E.sendS o none = E) := rfl
    rw [HE.out]
    clear k hes
    go_enter Tryz.func69, Tryz.ntmps69
    go_wp2
    refine wp_loop_rounds 1 ?_
    rw [rounds_succ]
    go_wp2
    refine bodyPost_end (results_none rfl _ _ _) rfl ?_
    exact ⟨rfl, EnGoes.still HK.out (Only.refl _ _)⟩
  | some b =>
    obtain ⟨N, A, n, c, rfl, _, hb, hs, _, hnc, hcap⟩ := One.form hv
    have HB := Lib.hid hb
    have HEs : Hid (∀ W, Only (fun _ => False) w W → Calls Tryz.prog 124 #[.int .i64 o, .slice A n c] W fun e w' => ∃ A' c' E, e = .returned (.tuple #[.slice A' (tkBytes (tk4 o b)).length c', E]) ∧ Hid (Body w' W.heap.size (.slice A' (tkBytes (tk4 o b)).length c') (tkBytes (tk4 o b))) ∧ Hid (Only (fun _ => False) W w')) := fun W ho =>
      (esub_any (cap := c) ((hes.only ho).of [0, 3, 8]) 0 o (hs.only ho (fun _ _ _ h => h))).mono (fun e w' ⟨A', c', E, h1, h2, _, h4⟩ => ⟨A', c', E, h1, h2, h4⟩)
    obtain ⟨bs, hbs⟩ : ∃ bs, bs = tkBytes (tk4 o b) := ⟨_, rfl⟩
    have HE : Hid (E.sendS o (some b) = E.send 4 bs) := by rw [hbs]; rfl
    rw [← hbs] at HEs
    have HSd : Hid (∀ W B A n c, Only (fun _ => False) w W → w.heap.size ≤ B → B ≤ W.heap.size → Body W B (.slice A n c) bs → n = bs.length → Calls Tryz.prog 70 #[.pointer (some ⟨p, mo, none⟩), .int .i64 4, .slice A n c] W fun e w' => e = .returned (.tuple #[]) ∧ Hid (EnGoes w.heap.size W p mo tp pre post M R ag (E.send 4 bs) w')) := fun W B A n c ho hz hz2 hb hn =>
      enSend (HK.out.same ho) ho.size (hb.src hn) (hb.caps hn).1 (hb.caps hn).2 (fun h0 ad e => by
        have h1 := hb.newer hn h0 ad e
        exact ⟨by omega, fun hm => by have := HK.out.mlt _ hm; omega⟩) hbd 4
    rw [HE.out]
    clear k hes hv hb hs hbs hnc hcap hbd HE
    go_enter Tryz.func69, Tryz.ntmps69
    go_wp2
    refine wp_loop_rounds 2 ?_
    rw [rounds_succ]
    go_wp2_with (first
      | ((with_reducible show wpList _ _ _ (⟨some 13, .load _ _, _, _, _, _⟩ :: _) _ _); refine wpList_load_mid rfl 191 _ rfl N 0 rfl [.int .i64 o, .slice A n c] _ (rng_blk HB.out) Tryz.underlying191 rfl (by kernel_rfl) ?_)
      | (go_at_call 124; (with_reducible refine (HEs.out _ ((Only.refl _ _).alloc _)).mono ?_); rintro e w2 ⟨A2, c2, E2, rfl, hb2, ho2⟩; have HB2 := Lib.hid hb2.out; have HZ2 : Hid (w.heap.size ≤ (w.alloc (.cells #[.int .i64 o, .slice A n c] 191)).heap.size ∧ (w.alloc (.cells #[.int .i64 o, .slice A n c] 191)).heap.size ≤ w2.heap.size) := ⟨by simp, ho2.out.size⟩; have HO2 : Hid (Only (fun _ => False) w w2) := ((Only.refl _ _).alloc _).trans ho2.out (fun _ h => h.elim); clear hb2 ho2)
      | (go_at_call 70; (with_reducible refine (HSd.out _ _ _ _ _ HO2.out HZ2.out.1 HZ2.out.2 HB2.out rfl).mono ?_); rintro e w3 ⟨rfl, hg3⟩))
    rw [rounds_succ]
    go_wp2
    refine bodyPost_end (results_none rfl _ _ _) rfl ?_
    exact ⟨rfl, EnGoes.from_ hg3.out HO2.out⟩
theorem size_note : (Tryz.prog.info? 87).map (·.size) = some 5 := by kernel_rfl
theorem Nt.one (x : Nt) : ∀ v ∈ x.cs, v.oneCell' = true := by
  intro v hv
  simp only [List.mem_cons, List.not_mem_nil, or_false] at hv
  rcases hv with rfl | rfl | rfl | rfl | rfl <;> rfl
@[reducible] def nt0 : Nt := ⟨0, 0, 0, 0, false⟩
theorem enTurn (k : IsEe w p mo tp pre post M R ag E) (hes : ErrsAt w es) (hbd : E.out.length ≤ 100000) (s o : Int) :
    Calls Tryz.prog 67 #[.pointer (some ⟨p, mo, none⟩), .int .i64 s, .int .i64 o] w fun e w' => e = .returned (.agg (E.turnN s o).cs.toArray) ∧ Hid (EnGoes w.heap.size w p mo tp pre post M R ag (E.turn s o) w') := by
  have HK := Lib.hid k
  have HOn := Lib.hid (fun W (ho : Only (fun _ => False) w W) => enOn (k.same ho) s o)
  have HTu : Hid (∀ W on, Only (fun _ => False) w W → Calls Tryz.prog 122 #[.pointer (some ⟨p, mo + 1802, none⟩), .int .i64 s, .int .i64 o, .bool on] W fun e w' => ∃ v, e = .returned v ∧ Hid (EnGoes W.heap.size W p mo tp pre post M R ag { E with H := (E.H.turned s o on).2 } w' ∧ HTold W.heap.size w' v o (E.H.turned s o on).1 ∧ ErrsAt w' es)) := fun W on ho => by
    obtain ⟨a1, a2, a3, a4, a5, a6, a7, kk⟩ := HK.out.same ho
    refine (hsTurned (hes.only ho) kk.p18 kk.hsAt s o on).mono ?_
    rintro e w' ⟨v, rfl, ha⟩
    exact ⟨v, rfl, kk.ofAns ha.out, ha.out.told, (hes.only ho).far ha.out.only (fun i hi e => by have := kk.p18; omega)⟩
  have HSd : Hid (∀ W M R B0 v t H', IsEe W p mo tp pre post M R ag { E with H := H' } → ErrsAt W es → HTold B0 W v o t → Calls Tryz.prog 69 #[.pointer (some ⟨p, mo, none⟩), v] W fun e w' => e = .returned (.tuple #[]) ∧ Hid (EnGoes W.heap.size W p mo tp pre post M R ag (({ E with H := H' } : Ee).sendS o t) w')) := fun W M R B0 v t H' hk he hv => enSendS hk he hbd hv
  have hE1 : E.turn s o = ({ E with H := (E.H.turned s o (E.on s o)).2 } : Ee).sendS o (E.H.turned s o (E.on s o)).1 := rfl
  obtain ⟨X, hX⟩ : ∃ X, X = E.turn s o := ⟨_, rfl⟩
  rw [← hX] at hE1 ⊢
  unfold Ee.turnN
  obtain ⟨on, hon⟩ : ∃ on, on = E.on s o := ⟨_, rfl⟩
  rw [← hon] at HOn hE1 ⊢
  obtain ⟨t, ht⟩ : ∃ t, t = (E.H.turned s o on).1 := ⟨_, rfl⟩
  obtain ⟨H', hH'⟩ : ∃ H', H' = (E.H.turned s o on).2 := ⟨_, rfl⟩
  have HTu2 := Lib.hid (fun W => HTu.out W on)
  rw [← ht, ← hH'] at HTu2 hE1
  have HX := Lib.hid hE1
  clear k hes hX hon ht hH' HTu hE1
  go_enter Tryz.func67, Tryz.ntmps67
  go_wp2_with (first
    | (go_at_call 19; (with_reducible refine (HOn.out _ ((Only.refl _ _).alloc _)).mono ?_); rintro e w1 ⟨rfl, ho1⟩; have HB1 := Lib.hid ((Blk.new w 87 nt0.cs).only ho1 (fun h => h)); have HO1 : Hid (Only (fun _ => False) w w1) := ((Only.refl _ _).alloc _).trans ho1 (fun _ h => h.elim); clear ho1)
    | (go_at_call 122; (with_reducible refine (HTu2.out _ HO1.out).mono ?_); rintro e w2 ⟨v2, rfl, h2⟩; obtain ⟨⟨M2, R2, k2, g2⟩, ht2, he2⟩ := h2.out; have HK2 := Lib.hid k2; have HG2 := Lib.hid g2; have HT2 := Lib.hid ht2; have HE2 := Lib.hid he2; clear k2 g2 ht2 he2 h2)
    | (go_at_call 69; (with_reducible refine (HSd.out _ _ _ _ _ _ _ HK2.out HE2.out HT2.out).mono ?_); rintro e w3 ⟨rfl, h3⟩; have HB3 : Hid (Blk w3 w.heap.size 87 nt0.cs) := (by obtain ⟨M3, R3, k3, g3⟩ := h3.out; have h5 := HO1.out.size; have h6 := HB1.out.lt; exact (HB1.out.only HG2.out.only (fun hm => by have := HK.out.mlt _ hm; omega)).only g3.only (fun hm => by rcases HG2.out.gm _ hm with h | h; (have := HK.out.mlt _ h; omega); omega)))
    | ((with_reducible show wpList _ _ _ (⟨none, .store 87 _ _, _, _, _, _⟩ :: _) _ _); refine step_store rfl 87 _ _ rfl w.heap.size rfl (Nt.cs ⟨3, 0, s, o, on⟩) rfl _ nt0.cs HB3.out size_note rfl (Nt.one _) ?_; intro w4 hB4 hz4 ho4))
  refine ret_cell1 rfl w.heap.size rfl _ (Nt.cs ⟨3, 0, s, o, on⟩) _ hB4.out Tryz.underlying87 rfl size_note rfl ?_
  refine ⟨rfl, ?_⟩
  rw [HX.out]
  obtain ⟨M3, R3, k3, g3⟩ := h3.out
  have hl2 : w.heap.size ≤ w1.heap.size := HO1.out.size
  have hl2' := HG2.out.only.size
  have hl1 := HB1.out.lt
  have g23 : Goes w.heap.size w1 M R w3 M3 R3 := ⟨HG2.out.only.trans g3.only (fun i hi => (HG2.out.gm i hi)), fun i hi => (g3.gm i hi).elim (fun h => (HG2.out.gm i h).imp id (fun h => by omega)) (fun h => .inr (by omega)), fun i hi => (g3.gr i hi).elim (fun h => (HG2.out.gr i h).imp id (fun h => by omega)) (fun h => .inr (by omega))⟩
  have hnm : ∀ i, M3 i → i ≠ w.heap.size := fun i hi e => by
    subst e
    rcases g3.gm _ hi with h | h
    · rcases HG2.out.gm _ h with h | h
      · have := HK.out.mlt _ h; omega
      · omega
    · omega
  have hnr : ∀ i, R3 i → i ≠ w.heap.size := fun i hi e => by
    subst e
    rcases g3.gr _ hi with h | h
    · rcases HG2.out.gr _ h with h | h
      · have := HK.out.rlt _ h; omega
      · omega
    · omega
  exact ⟨M3, R3, k3.far ho4 hnm hnr, ⟨((Only.mono (T := M) HO1.out (fun _ h => h.elim)).trans g23.only (fun _ h => .inl h)).trans ho4 (fun i hi => .inr (by omega)), g23.gm, g23.gr⟩⟩
end
end Go.Proofs.YtbnfhklpobephaaGreatDoor
/- Package table: what Hear refuses; Ask. -/
namespace Go.Proofs.YtbnfhklpobephaaGreatDoor
open Go Go.RowKit
set_option maxRecDepth 100000
set_option maxHeartbeats 4000000

/-- Ask refuses. -/
@[reducible] def AskedNot (W : World) (n : String) (e : Ending) (w' : World) : Prop := (∃ u x, W.var? Tryz.prog n = some #[.iface u x] ∧ e = .returned (.tuple #[.int .i64 0, .iface u x])) ∧ Only (fun _ => False) W w'
theorem task_kind {W : World} (hT : TbW W) (p mo : Nat) {s : Int} (o : Int) (on : Bool) (hs : ¬ (s = 0 ∨ s = 1)) :
    Calls Tryz.prog 65 #[.pointer (some ⟨p, mo, none⟩), .int .i64 s, .int .i64 o, .bool on] W (AskedNot W "truchman/api.ErrKind") := by
  have H1 : Hid (∀ W, Calls Tryz.prog 100 #[.int .i64 s] W fun e w' => e = .returned (.bool false) ∧ w' = W) := fun W => by
    have := isSide_any W s
    rwa [decide_eq_false hs] at this
  obtain ⟨u, x, hv⟩ := hT.kind
  have hc : W.cell? ⟨8, 0, none⟩ = some (.iface u x) := World.var?_cell rfl hv 0
  have HV := Lib.hid hv
  clear hT hs hv
  go_enter Tryz.func65, Tryz.ntmps65
  go_wp2_with (first
    | (go_at_call 100; refine (H1.out _).mono ?_; rintro e w' ⟨rfl, rfl⟩)
    | fail)
  go_quiet (fail)
  go_wp2
  go_ret2
  exact ⟨⟨u, x, HV.out, rfl⟩, (Only.refl _ _).drewN _⟩
theorem task_range {W : World} (hT : TbW W) (p mo : Nat) {s o : Int} (on : Bool) (hs : s = 0 ∨ s = 1) (ho : ¬ (0 ≤ o ∧ o ≤ 255)) :
    Calls Tryz.prog 65 #[.pointer (some ⟨p, mo, none⟩), .int .i64 s, .int .i64 o, .bool on] W (AskedNot W "truchman/api.ErrRange") := by
  have H1 : Hid (∀ W, Calls Tryz.prog 100 #[.int .i64 s] W fun e w' => e = .returned (.bool true) ∧ w' = W) := fun W => by
    have := isSide_any W s
    rwa [decide_eq_true hs] at this
  have H2 : Hid (∀ W, Calls Tryz.prog 83 #[.int .i64 o] W fun e w' => e = .returned (.bool false) ∧ w' = W) := fun W => by
    have := isOption_any W o
    rwa [decide_eq_false ho] at this
  obtain ⟨u, x, hv⟩ := hT.range
  have hc : W.cell? ⟨0, 0, none⟩ = some (.iface u x) := World.var?_cell rfl hv 0
  have HV := Lib.hid hv
  clear hT hs ho hv
  go_enter Tryz.func65, Tryz.ntmps65
  go_wp2_with (first
    | (go_at_call 100; refine (H1.out _).mono ?_; rintro e w' ⟨rfl, rfl⟩)
    | (go_at_call 83; refine (H2.out _).mono ?_; rintro e w' ⟨rfl, rfl⟩)
    | fail)
  go_quiet (fail)
  go_wp2
  go_ret2
  exact ⟨⟨u, x, HV.out, rfl⟩, (Only.refl _ _).drewN _⟩
theorem task_none {W : World} (hT : TbW W) {p mo : Nat} {tp : TypeId} {pre post : List Value} {ag : Nat → Nat → Bool} {t : Tb} (h : TbAt W p mo tp pre post ag t) {s o : Nat} (hs : s < 2) (ho : o < 256) {on : Bool} (hq : askQ (t.st s o) on = none) :
    Calls Tryz.prog 65 #[.pointer (some ⟨p, mo, none⟩), .int .i64 (s : Int), .int .i64 (o : Int), .bool on] W (AskedNot W "truchman/api.ErrState") := by
  obtain ⟨cs, hB, hC⟩ := h
  have H1 : Hid (∀ W, Calls Tryz.prog 100 #[.int .i64 (s : Int)] W fun e w' => e = .returned (.bool true) ∧ w' = W) := fun W => by
    have := isSide_any W (s : Int)
    rwa [decide_eq_true (by omega)] at this
  have H2 : Hid (∀ W, Calls Tryz.prog 83 #[.int .i64 (o : Int)] W fun e w' => e = .returned (.bool true) ∧ w' = W) := fun W => by
    have := isOption_any W (o : Int)
    rwa [decide_eq_true (by omega)] at this
  obtain ⟨q, hqq⟩ : ∃ q, q = t.st s o := ⟨_, rfl⟩
  rw [← hqq] at hq
  have HA : ∀ w, Only (fun _ => False) W w → Calls Tryz.prog 119 #[.agg #[.int .i64 (q.kind : Int), .bool q.opp], .bool on] w fun e w' => (∃ u v, w.var? Tryz.prog "truchman/api.ErrState" = some #[.iface u v] ∧ e = .returned (.tuple #[.agg #[.int .i64 0, .bool false, .int .i64 0, .bool false], .iface u v])) ∧ Only (fun _ => False) w w' := fun w ho =>
    (ask_someS (hT.qs.only ho) (q.kind : Int) q.opp on (qsOf_kind q)).mono (fun e w' h => by
      rcases h with ⟨r, h1, _⟩ | ⟨_, h2⟩
      · rw [hq] at h1; cases h1
      · exact h2)
  have HSt : Hid (∀ w, Blk w p tp cs → w.rangeAt p (mo + s * 512 + o * 2) [.int .i64 (q.kind : Int), .bool q.opp]) := fun w hb => by rw [hqq]; exact st_range hb hC hs ho rfl
  obtain ⟨qk, hqk⟩ : ∃ x, x = (q.kind : Int) := ⟨_, rfl⟩
  obtain ⟨qo, hqo⟩ : ∃ x, x = q.opp := ⟨_, rfl⟩
  rw [← hqk, ← hqo] at HA HSt
  have HA := Lib.hid HA
  have HB := Lib.hid hB
  have HT := Lib.hid hT
  have hp := hB.lt
  have hs2 : (s : Int) < 2 := by omega
  have ho2 : (o : Int) < 256 := by omega
  clear hB hC hT hq hqq hqk hqo
  go_enter Tryz.func65, Tryz.ntmps65
  go_wp2_with (first
    | (go_at_call 100; refine (H1.out _).mono ?_; rintro e w' ⟨rfl, rfl⟩)
    | (go_at_call 83; refine (H2.out _).mono ?_; rintro e w' ⟨rfl, rfl⟩)
    | ((with_reducible show wpList _ _ _ (⟨some 30, _, _, _, _, _⟩ :: _) _ _); refine wpList_load_mid rfl 65 _ rfl p (mo + s * 512 + o * 2) rfl [.int .i64 qk, .bool qo] _ (HSt.out _ HB.out) Tryz.underlying65 rfl size_state ?_)
    | (go_at_call 119; refine (HA.out _ (Only.refl _ _)).mono ?_; rintro e w1 ⟨⟨u, x, hv, rfl⟩, ho1⟩; have HV := Lib.hid hv; clear hv)
    | fail)
  go_ret2
  exact ⟨⟨u, x, HV.out, rfl⟩, ho1.alloc _⟩
theorem task_some {W : World} (hT : TbW W) {p mo : Nat} {tp : TypeId} {pre post : List Value} {ag : Nat → Nat → Bool} {t : Tb} (h : TbAt W p mo tp pre post ag t) {s o : Nat} (hs : s < 2) (ho : o < 256) {on : Bool} {m : Qs × Nat} (hq : askQ (t.st s o) on = some m) (hn : t.sent ≤ 1000000) (hh : t.asked ≤ 1000000) (hgp : 16 ≠ p) :
    Calls Tryz.prog 65 #[.pointer (some ⟨p, mo, none⟩), .int .i64 (s : Int), .int .i64 (o : Int), .bool on] W fun e w' =>
      e = .returned (.tuple #[.int .i64 (toldV s m.2 : Int), .nilIface]) ∧ TbAt w' p mo tp pre post ag ⟨setQ t.st s o m.1, t.heard, t.asked + 1, t.sent + sentN m.2⟩ ∧ Only (· = p) W w' := by
  obtain ⟨cs, hB, hC⟩ := h
  have H1 : Hid (∀ W, Calls Tryz.prog 100 #[.int .i64 (s : Int)] W fun e w' => e = .returned (.bool true) ∧ w' = W) := fun W => by
    have := isSide_any W (s : Int)
    rwa [decide_eq_true (by omega)] at this
  have H2 : Hid (∀ W, Calls Tryz.prog 83 #[.int .i64 (o : Int)] W fun e w' => e = .returned (.bool true) ∧ w' = W) := fun W => by
    have := isOption_any W (o : Int)
    rwa [decide_eq_true (by omega)] at this
  obtain ⟨q, hqq⟩ : ∃ q, q = t.st s o := ⟨_, rfl⟩
  rw [← hqq] at hq
  have hk := askQ_sends hq
  obtain ⟨mq, mk⟩ := m
  simp only at hk ⊢
  have HA : ∀ w, Only (fun _ => False) W w → Calls Tryz.prog 119 #[.agg #[.int .i64 (q.kind : Int), .bool q.opp], .bool on] w fun e w' => e = .returned (.tuple #[.agg #[.int .i64 (mq.kind : Int), .bool mq.opp, .int .i64 (mk : Int), .bool false], .nilIface]) ∧ Only (fun _ => False) w w' := fun w ho =>
    (ask_someS (hT.qs.only ho) (q.kind : Int) q.opp on (qsOf_kind q)).mono (fun e w' h => by
      rcases h with ⟨r, h1, h2⟩ | ⟨h1, _⟩
      · rw [hq] at h1
        obtain rfl := Option.some.inj h1
        exact h2
      · rw [hq] at h1; cases h1)
  have HMv : ∀ w, VerbsAt w → ∀ t' : Tb, TbAt w p mo tp pre post ag t' → t'.sent ≤ 1000000 → Calls Tryz.prog 120 #[.pointer (some ⟨p, mo, none⟩), .int .i64 (s : Int), .int .i64 (o : Int), .agg #[.int .i64 (mq.kind : Int), .bool mq.opp, .int .i64 (mk : Int), .bool false]] w fun e w' =>
      e = .returned (.int .i64 (toldV s mk : Int)) ∧ TbAt w' p mo tp pre post ag { t' with st := setQ t'.st s o mq, sent := t'.sent + sentN mk } ∧ Only (· = p) w w' := fun w hv t' ht hn => move_any hv ht hs ho mq mk hk false hn hgp
  have HSt : Hid (∀ w, Blk w p tp cs → w.rangeAt p (mo + s * 512 + o * 2) [.int .i64 (q.kind : Int), .bool q.opp]) := fun w hb => by rw [hqq]; exact st_range hb hC hs ho rfl
  obtain ⟨qk, hqk⟩ : ∃ x, x = (q.kind : Int) := ⟨_, rfl⟩
  obtain ⟨qo, hqo⟩ : ∃ x, x = q.opp := ⟨_, rfl⟩
  obtain ⟨zk, hzk⟩ : ∃ x, x = (mq.kind : Int) := ⟨_, rfl⟩
  obtain ⟨zo, hzo⟩ : ∃ x, x = mq.opp := ⟨_, rfl⟩
  obtain ⟨zm, hzm⟩ : ∃ x, x = (mk : Int) := ⟨_, rfl⟩
  obtain ⟨tv, htv⟩ : ∃ x, x = (toldV s mk : Int) := ⟨_, rfl⟩
  rw [← htv] at HMv ⊢
  rw [← hqk, ← hqo] at HA HSt
  rw [← hzk, ← hzo, ← hzm] at HA HMv
  have HA := Lib.hid HA
  have HMv := Lib.hid HMv
  have HB := Lib.hid hB
  have HC := Lib.hid hC
  have HT := Lib.hid hT
  have HN := Lib.hid hn
  have hp := hB.lt
  have hs2 : (s : Int) < 2 := by omega
  have ho2 : (o : Int) < 256 := by omega
  obtain ⟨n, hnn⟩ : ∃ n, n = t.asked := ⟨_, rfl⟩
  rw [← hnn] at hh
  have HNn := Lib.hid hnn
  clear hB hC hT hq hqq hqk hqo hzk hzo hzm htv hn hnn
  go_enter Tryz.func65, Tryz.ntmps65
  go_wp2_with (first
    | (go_at_call 100; refine (H1.out _).mono ?_; rintro e w' ⟨rfl, rfl⟩)
    | (go_at_call 83; refine (H2.out _).mono ?_; rintro e w' ⟨rfl, rfl⟩)
    | ((with_reducible show wpList _ _ _ (⟨some 30, _, _, _, _, _⟩ :: _) _ _); refine wpList_load_mid rfl 65 _ rfl p (mo + s * 512 + o * 2) rfl [.int .i64 qk, .bool qo] _ (HSt.out _ HB.out) Tryz.underlying65 rfl size_state ?_)
    | (go_at_call 119; refine (HA.out _ (Only.refl _ _)).mono ?_; rintro e w1 ⟨rfl, ho1⟩; have HB1 := Lib.hid ((HB.out.only ho1 (fun h => h)).alloc (.cells #[.int .i64 zk, .bool zo, .int .i64 zm, .bool false] 245)); have c37 : (w1.alloc (.cells #[.int .i64 zk, .bool zo, .int .i64 zm, .bool false] 245)).cell? ⟨p, mo + 1537, none⟩ = some (.int .i64 (n : Int)) := (by rw [HB1.out.cell, HNn.out]; exact HC.out.asked); have f37 := HB1.out.frozen (mo + 1537); have HO1 := Lib.hid (ho1.alloc (.cells #[.int .i64 zk, .bool zo, .int .i64 zm, .bool false] 245)); have HMx := Lib.hid ((Blk.new w1 245 [.int .i64 zk, .bool zo, .int .i64 zm, .bool false]).far (p := ⟨p, mo + 1537, none⟩) (by have := ho1.size; show _ ≠ p; omega) (.int .i64 ((n : Int) + 1))); have x0 := HMx.out.cell 0; have x1 := HMx.out.cell 1; have x2 := HMx.out.cell 2; have x3 := HMx.out.cell 3; simp only [List.getElem?_cons_zero, List.getElem?_cons_succ] at x0 x1 x2 x3; clear ho1)
    | (go_at_call 120; refine (HMv.out _ (fun j v hj => ((HO1.out.mono (T := (· = p)) (fun _ h => h.elim)).setCell (p := ⟨p, mo + 1537, none⟩) (.inl rfl) _).cellv (HT.out.verbs j v hj) hgp) { t with asked := t.asked + 1 } ⟨_, HB1.out.setCell (mo + 1537) (.int .i64 ((n : Int) + 1)), by have := HC.out.setAsked (t.asked + 1); rw [← HNn.out] at this ⊢; exact this⟩ HN.out).mono ?_; rintro e w2 ⟨rfl, ht2, ho2⟩)
    | fail)
  go_ret2
  exact ⟨rfl, ht2, ((HO1.out.mono (T := (· = p)) (fun _ h => h.elim)).setCell (p := ⟨p, mo + 1537, none⟩) (.inl rfl) _).trans ho2 (fun i hi => .inl hi)⟩
end Go.Proofs.YtbnfhklpobephaaGreatDoor
/- What a table's calls read at package level, where blocks beyond turn. -/
namespace Go.Proofs.YtbnfhklpobephaaGreatDoor
open Go Go.RowKit
set_option maxRecDepth 100000

theorem var_far {P : Program} {W W' : World} {n : String} {cs : Array Value} {S : Nat → Prop} (h : W.var? P n = some cs) (ho : Only S W W') (hS : ∀ g, P.globalNamed n = some g → ¬ S g) : W'.var? P n = some cs := by
  unfold World.var? at h ⊢
  cases hg : P.globalNamed n with
  | none => simp [hg] at h
  | some g =>
    simp only [hg, Option.bind_some] at h ⊢
    have hlt : g < W.heap.size := by
      rcases Nat.lt_or_ge g W.heap.size with h' | h'
      · exact h'
      · simp [Array.getElem?_eq_none h'] at h
    rw [ho.block g hlt (hS g hg)]
    exact h
theorem err_far {W W' : World} {n : String} {S : Nat → Prop} (h : ErrAt Tryz.prog W n) (ho : Only S W W') (hS : ∀ i, i < 18 → ¬ S i) (hn : ((Tryz.prog.globalNamed n).all fun g => decide (g < 18)) = true) : ErrAt Tryz.prog W' n := by
  obtain ⟨u, v, h⟩ := h
  exact ⟨u, v, var_far h ho (fun g hg => hS g (by rw [hg] at hn; simpa using hn))⟩
theorem TbW.far {W W' : World} {S : Nat → Prop} (h : TbW W) (ho : Only S W W') (hS : ∀ i, i < 18 → ¬ S i) : TbW W' :=
  ⟨⟨fun j v hj => ho.cellv (h.qs.tab j v hj) (hS 17 (by decide)), err_far h.qs.form ho hS (by kernel_rfl), err_far h.qs.state ho hS (by kernel_rfl)⟩,
    fun j v hj => ho.cellv (h.verbs j v hj) (hS 16 (by decide)), err_far h.kind ho hS (by kernel_rfl), err_far h.range ho hS (by kernel_rfl)⟩
theorem EnGoes.tbw {B : Nat} {w w' : World} {p mo : Nat} {tp : TypeId} {pre post : List Value} {M R : Nat → Prop} {ag : Nat → Nat → Bool} {E E' : Ee} (h : EnGoes B w p mo tp pre post M R ag E' w') (k : IsEe w p mo tp pre post M R ag E) (hT : TbW w) : TbW w' := by
  obtain ⟨M', R', _, g⟩ := h
  exact hT.far g.only (fun i hi hm => by have := k.m18 i hm; omega)
theorem EnGoes.errs {B : Nat} {w w' : World} {p mo : Nat} {tp : TypeId} {pre post : List Value} {M R : Nat → Prop} {ag : Nat → Nat → Bool} {E E' : Ee} {es : List Addr} (h : EnGoes B w p mo tp pre post M R ag E' w') (k : IsEe w p mo tp pre post M R ag E) (hT : ErrsAt w es) : ErrsAt w' es := by
  obtain ⟨M', R', _, g⟩ := h
  exact hT.far g.only (fun i hi hm => by have := k.m18 i hm; omega)
end Go.Proofs.YtbnfhklpobephaaGreatDoor
/- A mask's row of bytes, as a slice of it all. -/
namespace Go.Proofs.YtbnfhklpobephaaGreatDoor
open Go Go.RowKit
set_option maxRecDepth 100000
set_option maxHeartbeats 4000000

theorem all_mask (W : World) (N : Nat) : (Instr.sliceAt 120 (.pointer (some ⟨N, 0, none⟩)) none none none).run Tryz.prog W = .ok (.slice (some ⟨N, 0, none⟩) 32 32) W := by
  have hu := Tryz.underlying120
  have hs : ∀ W, (sizeOf 5).run Tryz.prog W = .ok 1 W := fun W => by kernel_rfl
  have h := run_sliceAt_array_all (P := Tryz.prog) (w := W) (a := ⟨N, 0, none⟩) (t := 120) hu
  rw [h]
  exact (show ((sizeOf 5).run Tryz.prog W).andThen _ = _ from by rw [hs W]; rfl)
end Go.Proofs.YtbnfhklpobephaaGreatDoor
/- Package mask: Parse of a right body. -/
namespace Go.Proofs.YtbnfhklpobephaaGreatDoor
open Go Go.RowKit
set_option maxRecDepth 100000
set_option maxHeartbeats 4000000

theorem splice_mask (r : List UInt8) (_ : r.length ≤ 32) : splice (mkZ.map B8) 0 (r.map B8) = (r ++ List.replicate (32 - r.length) 0).map B8 := by
  unfold splice mkZ
  rw [List.map_append, List.map_replicate, List.map_replicate, List.drop_replicate]
  simp
/-- A load of a whole row, in a region that draws its order. -/
theorem still_load {P : Program} {ops : Array Oper} {w : World} {Q : Act → Prop} {a : Act} {o : Oper} {rest : List Oper} (hgd : o.guard = none) (ty : TypeId) (x : Operand) (ho : o.op = .load ty x) (v : Value) (b : Nat) (hx : a.eval x = .pointer (some ⟨b, 0, none⟩))
    (hl : (Instr.loadAt ty (.pointer (some ⟨b, 0, none⟩))).run P w = .ok v w) (h : wpStill P ops w Q rest (a.put o.dst v)) : wpStill P ops w Q (o :: rest) a := by
  refine wpStill_step (fun K hK => ?_)
  rw [if_pos (by unfold Region.wanted; rw [hgd])]
  unfold Oper.still execOp
  simp only [ho, hx, Sem.run_bind, hl, Result.andThen_ok]
  exact ⟨rfl, hK _ h⟩

theorem mparse_ok {w : World} {A : Option Addr} {n : Nat} {cap : Nat} (hnc : n ≤ cap) {xs : List UInt8} {x y : UInt8} {r : List UInt8} (hs : Src w A n xs) (hx : xs = x :: y :: r) (hv : 251 ≤ x.toNat ∧ x.toNat ≤ 254) (hy : y.toNat = 2)
    (hfit : (n : Int) - 2 ≤ mostOf (x.toNat : Int)) :
    Calls Tryz.prog 240 #[.slice A n cap] w fun e w' => e = .returned (.tuple #[.int .i64 (x.toNat : Int), mkV (r ++ List.replicate (32 - r.length) 0), .nilIface]) ∧ Only (fun _ => False) w w' := by
  have hn : n = r.length + 2 := by have := hs.1; rw [hx] at this; simp at this; omega
  have hr32 : r.length ≤ 32 := by unfold mostOf at hfit; split at hfit <;> omega
  obtain ⟨ad, rfl, hcell⟩ := hs.2 (by omega)
  have c0 := hcell 0 x (by rw [hx]; rfl)
  have c1 := hcell 1 y (by rw [hx]; rfl)
  rw [show ad.add 0 = ad from by simp [Addr.add]] at c0
  rw [show ad.add 1 = ⟨ad.block, ad.off + 1, none⟩ from by simp [Addr.add]] at c1
  obtain ⟨D, hD⟩ : ∃ D, (if cap = 2 then some ad else some ⟨ad.block, ad.off + 2, none⟩) = D := ⟨_, rfl⟩
  have HR : Hid (Src w D r.length r) := by
    have h := hs.piece 2 n (by omega) (Nat.le_refl _) D (fun h a e => by
      injection e with e
      subst e
      rw [← hD, if_neg (by omega)]
      simp [Addr.add])
    rw [hx] at h
    rw [hn] at h
    exact (show Src w D r.length r by simpa using h)
  have HZ := Lib.hid zero_mask
  have HC := Lib.hid (MkCells.of (m := mkZ) (by simp))
  have HS := Lib.hid (splice_mask r hr32)
  have HCm := Lib.hid (MkCells.of (m := r ++ List.replicate (32 - r.length) 0) (by simp; omega))
  have hal := all_mask
  unfold mkV
  obtain ⟨zs, hzs⟩ : ∃ zs : List Value, zs = mkZ.map B8 := ⟨_, rfl⟩
  obtain ⟨cs, hcs⟩ : ∃ cs : List Value, cs = (r ++ List.replicate (32 - r.length) 0).map B8 := ⟨_, rfl⟩
  unfold mkZ at *
  rw [← hzs] at HZ HC HS
  rw [← hcs] at HS HCm ⊢
  have HO : Hid (Only (fun _ => False) w (w.alloc (.cells zs.toArray 120))) := (Only.refl _ w).alloc _
  have c01 := HO.out.cellv c0 (fun h => h)
  have c11 := HO.out.cellv c1 (fun h => h)
  have HB : Hid (Blk (w.alloc (.cells zs.toArray 120)) w.heap.size 120 zs) := Blk.new _ _ _
  have HV := Lib.hid (fun W => verb_any W (x.toNat : Int))
  rw [decide_eq_true (by omega : (251 : Int) ≤ (x.toNat : Int) ∧ (x.toNat : Int) ≤ 254)] at HV
  have HM := Lib.hid (fun W => most_any W (x.toNat : Int))
  unfold B8 at *
  rw [hy] at c11
  obtain ⟨k, hk0⟩ : ∃ k, k = r.length := ⟨_, rfl⟩
  rw [← hk0] at hn HR hr32
  have HK := Lib.hid hk0
  clear hzs hcs hs hx c0 c1 hcell hy hk0
  subst hn
  have hxl := x.toNat_lt
  generalize mostOf (x.toNat : Int) = mo at *
  generalize x.toNat = xn at *
  have hk : decide (mo < (k : Int)) = false := by simp; omega
  have hd : decide (((k + 2 : Nat) : Int) < 2) = false := by simp; omega
  have hd2 : (1 : Int) < ((k + 2 : Nat) : Int) := by omega
  clear hfit hv
  go_enter Tryz.func240, Tryz.ntmps240
  go_wp2_with (first
    | ((with_reducible show wpList _ _ _ (⟨some 3, .alloc _, _, _, _, _⟩ :: _) _ _); refine step_alloc rfl 120 rfl zs 32 HZ.out ?_)
    | (go_at_call 158; (with_reducible refine (HV.out _).mono ?_); rintro e w1 ⟨rfl, e1⟩; subst w1)
    | (go_at_call 247; (with_reducible refine (HM.out _).mono ?_); rintro e w1 ⟨rfl, e1⟩; subst w1)
    | ((with_reducible show wpList _ _ _ (⟨some 39, _, _, _, _, _⟩ :: _) _ _); refine step_copy rfl (.tmp 37) (.tmp 38) 45 45 rfl 5 Tryz.underlying45 size_byte _ _ _ _ _ _ rfl rfl w.heap.size 0 zs 120 HB.out r (by rw [← HK.out]; exact (Nat.min_eq_left hr32).symm) (fun hp => ⟨rfl, by rw [← HK.out]; exact HR.out.only HO.out (fun _ _ _ h => h)⟩) (by rw [HC.out.len, ← HK.out]; omega) ?_; intro w2 hb2 hz2 ho2)
    | fail)
  have hB2 := hb2.out
  rw [show splice zs 0 (r.map B8) = cs from HS.out] at hB2
  have HB2 := Lib.hid hB2.drew
  have hld := run_loadAt_mid (P := Tryz.prog) w2.drew w.heap.size 0 120 cs _ (range_of HB2.out) Tryz.underlying120 rfl HCm.out.size
  have HO2 : Hid (Only (fun _ => False) w w2.drew) := HO.out.trans ho2.drew (fun i hi => .inr (by omega))
  clear hb2 hz2 ho2 hB2 hD
  refine region_tail 3 (by kernel_rfl) (by kernel_rfl) ?_
  simp only [List.take_succ_cons, List.take_zero, List.drop_succ_cons, List.drop_zero]
  still_step
  refine still_load rfl 120 _ rfl _ w.heap.size rfl hld ?_
  still_step
  refine wpStill_nil ?_
  refine step_store rfl 120 _ _ rfl w.heap.size rfl cs rfl 120 cs HB2.out HCm.out.size rfl HCm.out.one ?_
  intro w3 hb3 hz3 ho3
  go_wp2
  refine ret_tct rfl w.heap.size rfl 120 cs _ hb3.out Tryz.underlying120 rfl HCm.out.size rfl ?_
  exact ⟨rfl, HO2.out.trans ho3 (fun i hi => .inr (by omega))⟩
end Go.Proofs.YtbnfhklpobephaaGreatDoor
