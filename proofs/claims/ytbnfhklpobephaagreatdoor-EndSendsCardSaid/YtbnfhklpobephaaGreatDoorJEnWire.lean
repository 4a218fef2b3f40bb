/- Several texts in one. -/
import Derived.Test.YtbnfhklpobephaaGreatDoorJEnWi
import Derived.Test.YtbnfhklpobephaaGreatDoorJIacSay
import Derived.Test.YtbnfhklpobephaaGreatDoorJOpenBytes
import Derived.Test.YtbnfhklpobephaaGreatDoorJSnIn
import Derived.Test.YtbnfhklpobephaaGreatDoorJTbSay
import Derived.Deep.RegionHeld3
/- What an end sends is of the grammar, and says what was said: bytes of whole items, as plain functions. -/
namespace Go.Proofs.YtbnfhklpobephaaGreatDoor
open Go Go.RowKit
set_option maxRecDepth 100000

/-- Bytes of whole items, and what these say. -/
inductive Gr (raw : Bool) : List UInt8 → List UInt8 → Prop
  | nil : Gr raw [] []
  | step {b : List UInt8} {x : It} {n : Nat} {s : List UInt8} : cut raw b = .got x n → Gr raw (b.drop n) s → Gr raw b (itSays x ++ s)
theorem Gr.append {raw : Bool} {a s b t : List UInt8} (h : Gr raw a s) (k : Gr raw b t) : Gr raw (a ++ b) (s ++ t) := by
  induction h with
  | nil => exact k
  | step hc _ ih =>
    rename_i a x n s _
    have hn := (cut_bounds hc).2
    rw [List.append_assoc]
    refine Gr.step (n := n) (cut_more hc) ?_
    rw [List.drop_append_of_le_length hn]
    exact ih
theorem Gr.parse {raw : Bool} {b s : List UInt8} (h : Gr raw b s) : ∀ k, ∃ l, parseFrom raw k b = some (l, 0) ∧ says l = s := by
  induction h with
  | nil => exact fun k => ⟨[], parseFrom_few rfl k, rfl⟩
  | step hc _ ih =>
    intro k
    rename_i b x n s _
    obtain ⟨l, h1, h2⟩ := ih (k + n)
    refine ⟨⟨x, k, k + n⟩ :: l, ?_, ?_⟩
    · rw [parseFrom_got hc, h1]
      rfl
    · rw [← h2]
      rfl
theorem Gr.one {raw : Bool} {b : List UInt8} {x : It} (hc : cut raw b = .got x b.length) : Gr raw b (itSays x) := by
  have := Gr.step hc (s := []) (by rw [List.drop_length]; exact .nil)
  rwa [List.append_nil] at this
/-- What begins with 255 is the same, raw or not. -/
theorem cut_255 (raw : Bool) (l : List UInt8) : cut raw (255 :: l) = cut true (255 :: l) := by
  rw [cut_cons, cut_cons, if_pos (by decide), if_pos (by decide)]
/-- Commands, verbs and subnegotiations are of the grammar, and say nothing. -/
theorem gr_tk (raw : Bool) (t : Tk) (h : tkNum t = 0) (hk : t.kind = 2 ∨ t.kind = 3 ∨ t.kind = 4) : Gr raw (tkBytes t) [] ∧ tkBytes t ≠ [] := by
  have hr : tkBytes t = tkRaw t := tkBytes_good h
  obtain ⟨x, hx, hc⟩ := cut_tk t h []
  rw [List.append_nil] at hc
  obtain ⟨l, hl⟩ : ∃ l, tkRaw t = 255 :: l := by
    unfold tkRaw
    rcases hk with hk | hk | hk <;> simp [hk]
  have hs : itSays x = [] := by
    unfold itSays
    have : x.kind = t.kind + 1 := by rw [hx]; unfold kindOf; rcases hk with hk | hk | hk <;> simp [hk]
    rw [if_neg (by omega), if_neg (by omega)]
  rw [hr, hl]
  rw [hl] at hc
  refine ⟨?_, by simp⟩
  have := Gr.one (raw := raw) (b := 255 :: l) (x := x) (by rw [cut_255]; exact hc)
  rwa [hs] at this
/-- Data, as they go out, of a raw stream. -/
theorem gr_raw : ∀ ys : List UInt8, Gr true (dbl ys) ys
  | [] => .nil
  | c :: l => by
    have ih := gr_raw l
    unfold dbl
    split
    · rename_i hc
      have e : cut true (c :: c :: dbl l) = .got ⟨1, 255, 0, []⟩ 2 := by rw [cut_cons, if_pos hc, iacCut_cons, if_pos hc]
      have := Gr.step e ih
      have e2 : itSays ⟨1, 255, 0, []⟩ = [c] := by
        obtain rfl : c = 255 := UInt8.toNat_inj.1 hc
        rfl
      rw [e2] at this
      exact this
    · rename_i hc
      have e : cut true (c :: dbl l) = .got ⟨1, (c.toNat : Int), 0, []⟩ 1 := by rw [cut_cons, if_neg hc, if_neg (by simp)]
      have := Gr.step e ih
      have e2 : itSays ⟨1, (c.toNat : Int), 0, []⟩ = [c] := by simp [itSays]
      rw [e2] at this
      exact this
/-- .. and of one that isn't. -/
theorem gr_out : ∀ (n : Nat) (xs : List UInt8), xs.length ≤ n → Gr false (dbl (out8 false xs)) xs
  | _, [], _ => .nil
  | 0, _ :: _, h => by simp at h
  | n + 1, c :: l, h => by
    have ih := gr_out n l (by simp only [List.length_cons] at h; omega)
    by_cases h13 : c.toNat = 13
    · have c255 : c.toNat ≠ 255 := by omega
      match l, ih, h with
      | d :: l', ih, h =>
        by_cases h10 : d.toNat = 10
        · have ih2 := gr_out n l' (by simp only [List.length_cons] at h; omega)
          have e1 : out8 false (c :: d :: l') = c :: d :: out8 false l' := by
            simp [out8, h10]
          have d255 : d.toNat ≠ 255 := by omega
          have e2 : dbl (c :: d :: out8 false l') = c :: d :: dbl (out8 false l') := by simp [dbl, c255, d255]
          rw [e1, e2]
          have e : cut false (c :: d :: dbl (out8 false l')) = .got ⟨2, 10, 0, []⟩ 2 := by
            rw [cut_cons, if_neg c255, if_pos ⟨h13, rfl⟩, retCut_cons, if_pos (.inr h10), h10]
            rfl
          have := Gr.step e ih2
          have e3 : itSays ⟨2, 10, 0, []⟩ = [c, d] := by
            obtain rfl : c = 13 := UInt8.toNat_inj.1 h13
            obtain rfl : d = 10 := UInt8.toNat_inj.1 h10
            rfl
          rw [e3] at this
          exact this
        · have e1 : out8 false (c :: d :: l') = c :: 0 :: out8 false (d :: l') := by
            conv => lhs; unfold out8
            simp [h13, h10]
          rw [e1, show dbl (c :: 0 :: out8 false (d :: l')) = c :: 0 :: dbl (out8 false (d :: l')) from by simp [dbl, c255]]
          have e : cut false (c :: 0 :: dbl (out8 false (d :: l'))) = .got ⟨2, 0, 0, []⟩ 2 := by
            rw [cut_cons, if_neg c255, if_pos ⟨h13, rfl⟩, retCut_cons, if_pos (.inl rfl)]
            rfl
          have := Gr.step e ih
          have e3 : itSays ⟨2, 0, 0, []⟩ = [c] := by
            obtain rfl : c = 13 := UInt8.toNat_inj.1 h13
            rfl
          rw [e3] at this
          exact this
      | [], ih, h =>
        have e1 : out8 false [c] = [c, 0] := by simp [out8, h13]
        rw [e1, show dbl [c, 0] = [c, 0] from by simp [dbl, c255]]
        have e : cut false [c, 0] = .got ⟨2, 0, 0, []⟩ 2 := by
          rw [cut_cons, if_neg c255, if_pos ⟨h13, rfl⟩, retCut_cons, if_pos (.inl rfl)]
          rfl
        have := Gr.step e (s := []) .nil
        have e3 : itSays ⟨2, 0, 0, []⟩ = [c] := by
          obtain rfl : c = 13 := UInt8.toNat_inj.1 h13
          rfl
        rw [e3] at this
        exact this
    · have e1 : out8 false (c :: l) = c :: out8 false l := by
        conv => lhs; unfold out8
        simp [h13]
      rw [e1]
      unfold dbl
      split
      · rename_i hc
        have e : cut false (c :: c :: dbl (out8 false l)) = .got ⟨1, 255, 0, []⟩ 2 := by rw [cut_cons, if_pos hc, iacCut_cons, if_pos hc]
        have := Gr.step e ih
        have e2 : itSays ⟨1, 255, 0, []⟩ = [c] := by
          obtain rfl : c = 255 := UInt8.toNat_inj.1 hc
          rfl
        rw [e2] at this
        exact this
      · rename_i hc
        have e : cut false (c :: dbl (out8 false l)) = .got ⟨1, (c.toNat : Int), 0, []⟩ 1 := by rw [cut_cons, if_neg hc, if_neg (fun h => h13 h.1)]
        have := Gr.step e ih
        have e2 : itSays ⟨1, (c.toNat : Int), 0, []⟩ = [c] := by simp [itSays]
        rw [e2] at this
        exact this
/-- How many verbs there are among pieces. -/
def cnt3 : List (Int × List UInt8) → Nat
  | [] => 0
  | x :: l => (if x.1 = 3 then 1 else 0) + cnt3 l
theorem cnt3_append (a b : List (Int × List UInt8)) : cnt3 (a ++ b) = cnt3 a + cnt3 b := by
  induction a with
  | nil => simp [cnt3]
  | cons x l ih => simp only [List.cons_append, cnt3, ih]; omega
/-- Pieces that say nothing. -/
def Mute (o : List (Int × List UInt8)) : Prop := ∀ p ∈ o, p.2 ≠ [] ∧ p.2.length ≤ 600 ∧ ∀ raw, Gr raw p.2 []
/-- What a call sends: so many pieces at most, that say nothing, and no more verbs than were heard and asked for. -/
structure Sends (E E' : Ee) (k : Nat) : Prop where
  out : ∃ o, E'.out = E.out ++ o ∧ Mute o ∧ o.length ≤ k ∧ E'.sent = E.sent + cnt3 o
  few : E'.sent + (E.heard + E.asked) ≤ E.sent + (E'.heard + E'.asked)
theorem Sends.more {E E' : Ee} {k m : Nat} (h : Sends E E' k) (hk : k ≤ m) : Sends E E' m := by
  obtain ⟨⟨o, h1, h2, h3, h4⟩, h5⟩ := h
  exact ⟨⟨o, h1, h2, Nat.le_trans h3 hk, h4⟩, h5⟩
theorem Sends.refl (E : Ee) (k : Nat) : Sends E E k := ⟨⟨[], by simp, fun p h => (List.not_mem_nil h).elim, Nat.zero_le _, rfl⟩, Nat.le_refl _⟩
theorem Sends.trans {E F G : Ee} {k m : Nat} (h : Sends E F k) (q : Sends F G m) : Sends E G (k + m) := by
  obtain ⟨⟨o, h1, h2, h3, h4⟩, h5⟩ := h
  obtain ⟨⟨o', k1, k2, k3, k4⟩, k5⟩ := q
  refine ⟨⟨o ++ o', by rw [k1, h1, List.append_assoc], fun p hp => (List.mem_append.1 hp).elim (h2 p) (k2 p), by rw [List.length_append]; omega, by rw [k4, h4, cnt3_append]; omega⟩, by omega⟩
/-- No piece, and nothing counted but what is heard or asked for. -/
theorem Sends.quiet {E E' : Ee} (ho : E'.out = E.out) (hs : E'.sent = E.sent) (hh : E.heard ≤ E'.heard) (ha : E.asked ≤ E'.asked) : Sends E E' 0 :=
  ⟨⟨[], by rw [ho, List.append_nil], fun p h => (List.not_mem_nil h).elim, Nat.le_refl _, by rw [hs]; rfl⟩, by omega⟩
theorem sends_send {E : Ee} {k : Int} (hk : k ≠ 3) {b : List UInt8} (hb : ∀ raw, Gr raw b []) (hl : b.length ≤ 600) : Sends E (E.send k b) 1 := by
  unfold Ee.send
  split
  · exact Sends.refl E 1
  · rename_i h
    refine ⟨⟨[(k, b)], rfl, fun p hp => ?_, Nat.le_refl _, ?_⟩, Nat.le_refl _⟩
    · obtain rfl := List.mem_singleton.1 hp
      exact ⟨h, hl, hb⟩
    · show E.sent = E.sent + ((if k = 3 then 1 else 0) + 0)
      rw [if_neg hk]
      rfl
theorem gr_bytes (raw : Bool) (t : Tk) (hk : t.kind = 2 ∨ t.kind = 3 ∨ t.kind = 4) : Gr raw (tkBytes t) [] := by
  by_cases h : tkNum t = 0
  · exact (gr_tk raw t h hk).1
  · rw [tkBytes_bad h]; exact .nil
theorem sends_S {E : Ee} (o : Int) (t : Option (List UInt8)) : Sends E (E.sendS o t) 1 := by
  cases t with
  | none => exact Sends.refl E 1
  | some b => exact sends_send (by decide) (fun raw => gr_bytes raw _ (.inr (.inr rfl))) (tkBytes_length _)
/-- A verb, behind one that was heard or asked for. -/
theorem sends_V {E : Ee} (v o : Int) {F : Ee} (ho : F.out = E.out) (hs : F.sent = E.sent) (hc : E.heard + E.asked + 1 ≤ F.heard + F.asked) : Sends E (F.sendV v o) 1 := by
  unfold Ee.sendV
  split
  · rename_i h
    obtain ⟨h1, h2⟩ := gr_tk true (tk3 v o) h (.inr (.inl rfl))
    have e : ({ F with sent := F.sent + 1 } : Ee).send 3 (tkBytes (tk3 v o)) = { F with sent := F.sent + 1, out := F.out ++ [(3, tkBytes (tk3 v o))] } := by
      unfold Ee.send
      rw [if_neg h2]
    rw [e]
    refine ⟨⟨[(3, tkBytes (tk3 v o))], by rw [← ho], fun p hp => ?_, Nat.le_refl _, ?_⟩, ?_⟩
    · obtain rfl := List.mem_singleton.1 hp
      exact ⟨h2, tkBytes_length _, fun raw => gr_bytes raw _ (.inr (.inl rfl))⟩
    · show F.sent + 1 = E.sent + 1
      rw [hs]
    · show F.sent + 1 + (E.heard + E.asked) ≤ E.sent + (F.heard + F.asked)
      omega
  · exact ⟨⟨[], by rw [ho, List.append_nil], fun p h => (List.not_mem_nil h).elim, Nat.zero_le _, by rw [hs]; rfl⟩, by omega⟩
theorem sends_turn (E : Ee) (s o : Int) : Sends E (E.turn s o) 1 := by
  have := (Sends.quiet (E := E) (E' := { E with H := (E.H.turned s o (E.on s o)).2 }) rfl rfl (Nat.le_refl _) (Nat.le_refl _)).trans (sends_S (E := { E with H := (E.H.turned s o (E.on s o)).2 }) o (E.H.turned s o (E.on s o)).1)
  exact this.more (by omega)
theorem sends_verb (ag : Nat → Nat → Bool) (E : Ee) (v o : Nat) : Sends E (E.hearVerb ag v o).1 2 := by
  unfold Ee.hearVerb
  split
  · show Sends E (({ E with heard := E.heard + 1 } : Ee).hearMark v) 2
    unfold Ee.hearMark
    split
    · refine Sends.more (k := 1) ?_ (by omega)
      exact sends_V 251 6 (F := { E with heard := E.heard + 1 }) rfl rfl (by show _ ≤ E.heard + 1 + E.asked; omega)
    · refine Sends.more (k := 0) ?_ (by omega)
      exact Sends.quiet rfl rfl (Nat.le_succ _) (Nat.le_refl _)
  · have h1 : Sends E (E.heardT ag v o) 1 := sends_V _ _ (F := { E with heard := E.heard + 1, T := (E.T.hear ag v o).1 }) rfl rfl (by show _ ≤ E.heard + 1 + E.asked; omega)
    show Sends E (if E.verbTurns ag v o then (E.heardT ag v o).turn (sideV v) o else E.heardT ag v o) 2
    split
    · exact h1.trans (sends_turn _ _ _)
    · exact h1.more (by omega)
theorem sends_tok (ag : Nat → Nat → Bool) (E : Ee) (t : Tk) : Sends E (Ee.tok ag E t).1 2 := by
  unfold Ee.tok
  split
  · exact Sends.refl E 2
  split
  · show Sends E (if t.code = 246 then E.send 2 (tkBytes (tk2 241)) else E) 2
    split
    · exact (sends_send (by decide) (fun raw => gr_bytes raw _ (.inl rfl)) (tkBytes_length _)).more (by omega)
    · exact Sends.refl E 2
  split
  · exact sends_verb ag E _ _
  split
  · show Sends E (E.hearSub t.opt t.cut t.body).1 2
    unfold Ee.hearSub
    split
    · exact ((Sends.quiet (E := E) (E' := { E with H := (E.H.hear E.T 4 t.opt t.cut t.body).2.2 }) rfl rfl (Nat.le_refl _) (Nat.le_refl _)).trans (sends_S (E := { E with H := (E.H.hear E.T 4 t.opt t.cut t.body).2.2 }) t.opt _)).more (by omega)
    · exact Sends.refl E 2
  · exact Sends.refl E 2
theorem sends_feed (ag : Nat → Nat → Bool) (E : Ee) (c : UInt8) (mark : Bool) : Sends E (E.feed ag c mark).1 2 := by
  unfold Ee.feed
  cases hf : feed9 E.k ⟨c, mark, E.on 1 0⟩ with
  | mk k' o =>
    cases o with
    | none => exact (Sends.quiet (E := E) (E' := { E with k := k' }) rfl rfl (Nat.le_refl _) (Nat.le_refl _)).more (by omega)
    | some t => exact ((Sends.quiet (E := E) (E' := { E with k := k' }) rfl rfl (Nat.le_refl _) (Nat.le_refl _)).trans (sends_tok ag { E with k := k' } t)).more (by omega)
theorem sends_askedT (E : Ee) (s o : Nat) (on : Bool) : Sends E (E.askedT s o on) 1 := by
  unfold Ee.askedT
  cases hq : E.T.ask s o on with
  | none => exact Sends.refl E 1
  | some r => exact sends_V _ _ (F := { E with T := r.1, asked := E.asked + 1 }) rfl rfl (by show _ ≤ E.heard + (E.asked + 1); omega)
theorem sends_ask (E : Ee) (s o : Int) (on : Bool) : Sends E (E.ask s o on).2.1 2 := by
  unfold Ee.ask
  split
  · split
    · exact Sends.refl E 2
    · refine Sends.more (k := 1) ?_ (by omega)
      exact sends_V 253 6 (F := { E with asked := E.asked + 1 }) rfl rfl (by show _ ≤ E.heard + (E.asked + 1); omega)
  · split
    · exact Sends.refl E 2
    · split
      · exact (sends_askedT E _ _ _).trans (sends_turn _ _ _)
      · exact (sends_askedT E _ _ _).more (by omega)
theorem sends_set (E : Ee) (n : Int) : Sends E (E.set n).2 2 := by
  unfold Ee.set
  split
  · exact ((Sends.quiet (E := E) (E' := { E with H := (E.H.set E.T n).2.2 }) rfl rfl (Nat.le_refl _) (Nat.le_refl _)).trans (sends_S (E := { E with H := (E.H.set E.T n).2.2 }) 34 _)).more (by omega)
  · exact Sends.refl E 2
theorem sends_cmd (E : Ee) (c : Int) : Sends E (E.cmd c).2 2 := by
  show Sends E (if tkNum (tk2 c) = 0 then E.send 2 (tkBytes (tk2 c)) else E) 2
  split
  · exact (sends_send (by decide) (fun raw => gr_bytes raw _ (.inl rfl)) (tkBytes_length _)).more (by omega)
  · exact Sends.refl E 2
theorem sends_feeds (ag : Nat → Nat → Bool) : ∀ (l : List UInt8) (E : Ee), Sends E (feedsE ag E l) (2 * l.length)
  | [], E => Sends.refl E _
  | c :: l, E => ((sends_feed ag E c false).trans (sends_feeds ag l _)).more (by simp only [List.length_cons]; omega)
/-- All bytes of pieces. -/
def flatO (o : List (Int × List UInt8)) : List UInt8 := o.flatMap Prod.snd
theorem flatO_append (a b : List (Int × List UInt8)) : flatO (a ++ b) = flatO a ++ flatO b := List.flatMap_append
theorem flatO_take {o : List (Int × List UInt8)} {t : Nat} {y : Int × List UInt8} (h : o[t]? = some y) : flatO (o.take (t + 1)) = flatO (o.take t) ++ y.2 := by
  rw [List.take_add_one, h, flatO_append]
  simp [flatO]
theorem cnt3_take {o : List (Int × List UInt8)} {t : Nat} {y : Int × List UInt8} (h : o[t]? = some y) : cnt3 (o.take (t + 1)) = cnt3 (o.take t) + if y.1 = 3 then 1 else 0 := by
  rw [List.take_add_one, h, cnt3_append]
  simp [cnt3]
theorem mute_gr (raw : Bool) : ∀ o, Mute o → Gr raw (flatO o) []
  | [], _ => .nil
  | p :: o, h => by
    have := ((h p (List.mem_cons_self ..)).2.2 raw).append (mute_gr raw o (fun q hq => h q (List.mem_cons_of_mem _ hq)))
    exact this
theorem flatO_len : ∀ (o : List (Int × List UInt8)), (∀ p ∈ o, p.2 ≠ [] ∧ p.2.length ≤ 600) → (flatO o).length ≤ 600 * o.length
  | [], _ => Nat.zero_le _
  | p :: o, h => by
    have h1 := flatO_len o (fun q hq => h q (List.mem_cons_of_mem _ hq))
    have h2 := (h p (List.mem_cons_self ..)).2
    show (p.2 ++ flatO o).length ≤ _
    rw [List.length_append, List.length_cons]
    omega
/-- What an act sends: pieces of the grammar, up to each; where the stream isn't raw, they say what is said. -/
structure Says2 (bin : Bool) (o : List (Int × List UInt8)) (s : List UInt8) : Prop where
  each : ∀ p ∈ o, p.2 ≠ [] ∧ p.2.length ≤ 600
  raw : ∀ t, ∃ u, Gr true (flatO (o.take t)) u
  part : bin = false → ∀ t, ∃ u, Gr false (flatO (o.take t)) u
  all : bin = false → Gr false (flatO o) s
theorem Mute.take {o : List (Int × List UInt8)} (h : Mute o) (t : Nat) : Mute (o.take t) := fun p hp => h p (List.mem_of_mem_take hp)
theorem says_mute {o : List (Int × List UInt8)} (h : Mute o) (bin : Bool) : Says2 bin o [] :=
  ⟨fun p hp => ⟨(h p hp).1, (h p hp).2.1⟩, fun t => ⟨[], mute_gr true _ (h.take t)⟩, fun _ t => ⟨[], mute_gr false _ (h.take t)⟩, fun _ => mute_gr false _ h⟩
theorem says_say (E : Ee) (hE : E.out = []) (b : List UInt8) (hl : b.length ≤ 120) (bin : Bool) (hb : bin = false → E.on 0 0 = false) : Says2 bin (E.say b).out b ∧ (E.say b).out.length ≤ 1 ∧ cnt3 (E.say b).out = 0 ∧ (E.say b).sent = E.sent ∧ (E.say b).heard = E.heard ∧ (E.say b).asked = E.asked := by
  have key : ∀ d, d = dbl (out8 (E.on 0 0) b) → Says2 bin (E.send 1 d).out b ∧ (E.send 1 d).out.length ≤ 1 ∧ cnt3 (E.send 1 d).out = 0 ∧ (E.send 1 d).sent = E.sent ∧ (E.send 1 d).heard = E.heard ∧ (E.send 1 d).asked = E.asked := by
    intro d hd
    have hdl : d.length ≤ 600 := by
      have h1 := (dbl_length (out8 (E.on 0 0) b)).2
      have h2 := out8_le (E.on 0 0) b
      rw [hd]
      omega
    have hr : Gr true d (out8 (E.on 0 0) b) := by rw [hd]; exact gr_raw _
    have hf : bin = false → Gr false d b := fun h => by
      rw [hd, hb h]
      exact gr_out b.length b (Nat.le_refl _)
    unfold Ee.send
    split
    · rename_i h0
      subst h0
      refine ⟨⟨fun p hp => ?_, fun t => ⟨[], ?_⟩, fun h t => ⟨[], ?_⟩, fun h => ?_⟩, ?_, ?_, rfl, rfl, rfl⟩
      · rw [hE] at hp; exact (List.not_mem_nil hp).elim
      · rw [hE, List.take_nil]; exact .nil
      · rw [hE, List.take_nil]; exact .nil
      · rw [hE]; exact hf h
      · rw [hE]; exact Nat.zero_le _
      · rw [hE]; rfl
    · rename_i h0
      have e : ({ E with out := E.out ++ [(1, d)] } : Ee).out = [(1, d)] := by show E.out ++ _ = _; rw [hE]; rfl
      refine ⟨⟨fun p hp => ?_, fun t => ?_, fun h t => ?_, fun h => ?_⟩, ?_, ?_, rfl, rfl, rfl⟩
      · rw [e] at hp
        obtain rfl := List.mem_singleton.1 hp
        exact ⟨h0, hdl⟩
      · rw [e]
        cases t with
        | zero => exact ⟨[], .nil⟩
        | succ t => exact ⟨_, by simpa [flatO] using hr⟩
      · rw [e]
        cases t with
        | zero => exact ⟨[], .nil⟩
        | succ t => exact ⟨_, by simpa [flatO] using hf h⟩
      · rw [e]
        simpa [flatO] using hf h
      · rw [e]; exact Nat.le_refl _
      · rw [e]; rfl
  exact key _ rfl
/-- An act that says something. -/
def saidA (a : Ac) : List UInt8 := if a.k = 4 then a.xs else []
theorem act_says (ag : Nat → Nat → Bool) (a : Ac) (E : Ee) (hE : E.out = []) (hl : a.xs.length ≤ 120) (bin : Bool) (hb : bin = false → E.on 0 0 = false) :
    Says2 bin (actE ag a E).out (saidA a) ∧ (actE ag a E).out.length ≤ 2 * (1 + a.xs.length) ∧ (actE ag a E).sent = E.sent + cnt3 (actE ag a E).out ∧ (actE ag a E).sent + (E.heard + E.asked) ≤ E.sent + ((actE ag a E).heard + (actE ag a E).asked) := by
  have mute : ∀ F : Ee, Sends E F (2 * (1 + a.xs.length)) → a.k ≠ 4 → Says2 bin F.out (saidA a) ∧ F.out.length ≤ 2 * (1 + a.xs.length) ∧ F.sent = E.sent + cnt3 F.out ∧ F.sent + (E.heard + E.asked) ≤ E.sent + (F.heard + F.asked) := fun F h h4 => by
    obtain ⟨⟨o, h1, h2, h3, h5⟩, h6⟩ := h
    rw [hE, List.nil_append] at h1
    unfold saidA
    rw [if_neg h4, h1]
    exact ⟨says_mute h2 bin, h3, h5, h6⟩
  unfold actE
  split
  · exact mute _ ((sends_feeds ag a.xs E).more (by omega)) (by omega)
  split
  · exact mute _ ((sends_ask E _ _ _).more (by omega)) (by omega)
  split
  · exact mute _ ((sends_set E _).more (by omega)) (by omega)
  split
  · rename_i h4
    obtain ⟨h1, h2, h3, h5, h6, h7⟩ := says_say E hE a.xs hl bin hb
    unfold saidA
    rw [if_pos h4]
    exact ⟨h1, by omega, by rw [h5, h3]; rfl, by rw [h5, h6, h7]; omega⟩
  split
  · exact mute _ ((sends_cmd E _).more (by omega)) (by omega)
  · exact mute _ (Sends.refl E _) (by omega)
end Go.Proofs.YtbnfhklpobephaaGreatDoor
/- Two ends and the law's row, beside blocks of the law's own that stay as they are. -/
namespace Go.Proofs.YtbnfhklpobephaaGreatDoor
open Go Go.RowKit
set_option maxRecDepth 100000
set_option maxHeartbeats 4000000

def EnAllK (w W : World) (es : List Addr) (p q : Nat) (ag : Nat → Nat → Bool) (E F : Ee) (A : Option Addr) (n c : Nat) (out : List (Int × List UInt8)) (Q : Nat → Prop) : Prop :=
  ∃ M R M' R' K xs, TwoAt w W es p q ag E F M R M' R' ∧ AllAt w W M R M' R' K A n c xs out ∧ ∀ i, Q i → K i
section
variable {w W W' : World} {es : List Addr} {p q : Nat} {ag : Nat → Nat → Bool} {E F E' F' : Ee} {M R M' R' K Q : Nat → Prop} {A : Option Addr} {n c : Nat} {xs : List Pc} {out : List (Int × List UInt8)}
theorem EnAllK.all (h : EnAllK w W es p q ag E F A n c out Q) : EnAll w W es p q ag E F A n c out := by
  obtain ⟨M, R, M', R', K, xs, h, a, _⟩ := h
  exact ⟨M, R, M', R', K, xs, h, a⟩
theorem EnAllK.old (h : EnAllK w W es p q ag E F A n c out Q) : Only (fun _ => False) w W := h.all.old
theorem AllAt.same (a : AllAt w W M R M' R' K A n c xs out) (ho : Only (fun _ => False) W W') : AllAt w W' M R M' R' K A n c xs out :=
  ⟨own_same a.row ho, a.len, a.out, a.far, fun x hx => (a.ok x hx).far ho (fun _ _ h => h), fun i hi => ⟨Nat.lt_of_lt_of_le (a.kd i hi).1 ho.size, (a.kd i hi).2⟩⟩
theorem TwoAt.same (h : TwoAt w W es p q ag E F M R M' R') (ho : Only (fun _ => False) W W') : TwoAt w W' es p q ag E F M R M' R' :=
  ⟨h.e.same ho, h.f.same ho, h.old.trans ho (fun _ h => h.elim), h.me, h.mf, h.mm, h.er, h.fr, h.errs.only ho, h.tbw.only ho⟩
theorem EnAllK.same (h : EnAllK w W es p q ag E F A n c out Q) (ho : Only (fun _ => False) W W') : EnAllK w W' es p q ag E F A n c out Q := by
  obtain ⟨M, R, M', R', K, xs, h, a, hQ⟩ := h
  exact ⟨M, R, M', R', K, xs, h.same ho, a.same ho, hQ⟩
theorem EnAllK.swap (h : EnAllK w W es p q ag E F A n c out Q) : EnAllK w W es q p ag F E A n c out Q := by
  obtain ⟨M, R, M', R', K, xs, h, a, hQ⟩ := h
  exact ⟨M', R', M, R, K, xs, h.swap, a.swap, hQ⟩
/-- New blocks are kept. -/
theorem EnAll.keep (h : EnAll w W es p q ag E F A n c out) (ho : Only (fun _ => False) W W') (hQ : ∀ i, Q i → W.heap.size ≤ i ∧ i < W'.heap.size) : EnAllK w W' es p q ag E F A n c out Q := by
  obtain ⟨M, R, M', R', K, xs, h, a⟩ := h
  have hz := ho.size
  refine ⟨M, R, M', R', fun i => K i ∨ Q i, xs, h.same ho, ⟨own_same a.row ho, a.len, a.out, fun g hg => ⟨(a.far g hg).1, fun hk => hk.elim (a.far g hg).2 (fun hq => ?_)⟩, fun x hx => ((a.ok x hx).far ho (fun _ _ h => h)).grow (fun _ h => .inl h), fun i hi => ?_⟩, fun i hi => .inr hi⟩
  · have h1 := (own_lt a.row g hg).2
    have h2 := (hQ g hq).1
    omega
  · rcases hi with hi | hi
    · exact ⟨Nat.lt_of_lt_of_le (a.kd i hi).1 hz, (a.kd i hi).2⟩
    · refine ⟨(hQ i hi).2, fun hm => ?_, fun hm => ?_⟩
      · have h1 := h.e.mlt i hm
        have h2 := (hQ i hi).1
        omega
      · have h1 := h.f.mlt i hm
        have h2 := (hQ i hi).1
        omega
theorem all_goesK (h : TwoAt w W es p q ag E F M R M' R') (a : AllAt w W M R M' R' K A n c xs out) (g : EnGoes W.heap.size W p 0 132 [] [] M R ag E' W') : (∃ M1 R1, TwoAt w W' es p q ag E' F M1 R1 M' R' ∧ AllAt w W' M1 R1 M' R' K A n c xs out) ∧ Only M W W' := by
  have he := g.errs h.e h.errs
  have ht := g.tbw h.e h.tbw
  obtain ⟨M1, R1, k, g⟩ := g
  have hz := h.old.size
  have hlm := h.f.mlt
  have hlr := h.f.rlt
  refine ⟨⟨M1, R1, ⟨k, h.f.far g.only (fun i a b => h.mm i b a) (fun i a b => h.er i b a), h.old.trans g.only (fun i hi => .inr (h.me i hi)), fun i hi => (g.gm i hi).elim (h.me i) (fun h => Nat.le_trans hz h), h.mf, fun i a b => ?_, fun i a b => ?_, fun i a b => ?_, he, ht⟩, ⟨own_only a.row g.only (fun j hj => (a.far j hj).1.1.1), a.len, a.out, fun j hj => ?_, fun x hx => (a.ok x hx).far g.only (fun i hi => (a.kd i hi).2.1), fun i hi => ⟨Nat.lt_of_lt_of_le (a.kd i hi).1 g.only.size, fun hm => ?_, (a.kd i hi).2.2⟩⟩⟩, g.only⟩
  · rcases g.gm i a with h1 | h1
    · exact h.mm i h1 b
    · have := hlm i b; omega
  · rcases g.gm i a with h1 | h1
    · exact h.er i h1 b
    · have := hlr i b; omega
  · rcases g.gr i b with h1 | h1
    · exact h.fr i a h1
    · have := hlm i a; omega
  · have hj2 := (own_lt a.row j hj).2
    obtain ⟨⟨⟨f1, f2⟩, f3, f4⟩, f5⟩ := a.far j hj
    exact ⟨⟨⟨fun hm => (g.gm j hm).elim f1 (fun h => by omega), f2⟩, fun hr => (g.gr j hr).elim f3 (fun h => by omega), f4⟩, f5⟩
  · have hi2 := (a.kd i hi).1
    exact (g.gm i hm).elim (a.kd i hi).2.1 (fun h => by omega)
/-- A call on the first. -/
theorem EnAllK.call {f : FuncId} {args : Array Value} {P : Ending → Prop} (h : EnAllK w W es p q ag E F A n c out Q)
    (hc : ∀ M R, IsEe W p 0 132 [] [] M R ag E → ErrsAt W es → TbW W → Calls Tryz.prog f args W fun e w' => P e ∧ Hid (EnGoes W.heap.size W p 0 132 [] [] M R ag E' w')) :
    Calls Tryz.prog f args W fun e w' => P e ∧ Hid (EnAllK w w' es p q ag E' F A n c out Q ∧ Only (fun i => ¬ Q i) W w') := by
  obtain ⟨M, R, M', R', K, xs, h, a, hQ⟩ := h
  refine (hc M R h.e h.errs h.tbw).mono ?_
  rintro e w' ⟨h1, h2⟩
  obtain ⟨⟨M1, R1, g1, g2⟩, g3⟩ := all_goesK h a h2.out
  exact ⟨h1, ⟨M1, R1, M', R', K, xs, g1, g2, hQ⟩, g3.mono (fun i hi => .inl (fun hq => (a.kd i (hQ i hq)).2.1 hi))⟩
theorem EnAllK.feed (h : EnAllK w W es p q ag E F A n c out Q) (hv : VOk E.k.m) (hl : E.Lo) (b : UInt8) :
    Calls Tryz.prog 23 #[.pointer (some ⟨p, 0, none⟩), .int .u8 (b.toNat : Int), .bool false] W fun e w' => (∃ v1 v2, e = .returned (.tuple #[v1, v2])) ∧ Hid (EnAllK w w' es p q ag (E.feed ag b false).1 F A n c out Q ∧ Only (fun i => ¬ Q i) W w') :=
  h.call (fun _ _ k he ht => (enFeed k he ht hv hl b false).mono (fun _ _ ⟨v1, v2, h1, h2⟩ => ⟨⟨v1, v2, h1⟩, h2.out.en⟩))
theorem EnAllK.ask (h : EnAllK w W es p q ag E F A n c out Q) (hl : E.Lo) (s o : Int) (on : Bool) :
    Calls Tryz.prog 24 #[.pointer (some ⟨p, 0, none⟩), .int .i64 s, .int .i64 o, .bool on] W fun e w' => (∃ v1 v2, e = .returned (.tuple #[v1, v2])) ∧ Hid (EnAllK w w' es p q ag (E.ask s o on).2.1 F A n c out Q ∧ Only (fun i => ¬ Q i) W w') :=
  h.call (fun _ _ k he ht => (enAsk k he ht hl s o on).mono (fun _ _ ⟨v1, v2, h1, h2⟩ => ⟨⟨v1, v2, h1⟩, h2.out.en⟩))
theorem EnAllK.set (h : EnAllK w W es p q ag E F A n c out Q) (hl : E.Lo) {z : Int} (h64 : In64 z) :
    Calls Tryz.prog 25 #[.pointer (some ⟨p, 0, none⟩), .int .i64 z] W fun e w' => (∃ v, e = .returned v) ∧ Hid (EnAllK w w' es p q ag (E.set z).2 F A n c out Q ∧ Only (fun i => ¬ Q i) W w') :=
  h.call (fun _ _ k he _ => (enSet k he hl h64).mono (fun _ _ ⟨v, h1, h2⟩ => ⟨⟨v, h1⟩, h2.out.en⟩))
theorem EnAllK.say (h : EnAllK w W es p q ag E F A n c out Q) (hl : E.Lo) {B : Option Addr} {m d : Nat} {bs : List UInt8} (hs : Src W B m bs) (hn : m ≤ 1000) (hnc : m ≤ d) :
    Calls Tryz.prog 26 #[.pointer (some ⟨p, 0, none⟩), .slice B m d] W fun e w' => e = .returned (.tuple #[]) ∧ Hid (EnAllK w w' es p q ag (E.say bs) F A n c out Q ∧ Only (fun i => ¬ Q i) W w') :=
  h.call (fun _ _ k _ _ => enSay k hl hs hn hnc)
theorem EnAllK.cmd (h : EnAllK w W es p q ag E F A n c out Q) (hl : E.Lo) (z : Int) :
    Calls Tryz.prog 27 #[.pointer (some ⟨p, 0, none⟩), .int .i64 z] W fun e w' => (∃ v, e = .returned v) ∧ Hid (EnAllK w w' es p q ag (E.cmd z).2 F A n c out Q ∧ Only (fun i => ¬ Q i) W w') :=
  h.call (fun _ _ k he _ => (enCmd k he (by have := hl.out; omega) z).mono (fun _ _ ⟨v, h1, h2⟩ => ⟨⟨v, h1⟩, h2.out.2.2⟩))
end
end Go.Proofs.YtbnfhklpobephaaGreatDoor
/- EndTakes, walked: a config that makes an end. -/
namespace Go.Proofs.YtbnfhklpobephaaGreatDoor
open Go Go.RowKit
set_option maxRecDepth 100000
set_option maxHeartbeats 4000000

section
variable {ag : Nat → Nat → Bool} {a : Ac} {E : Ee}
theorem actE_0 (h : a.k = 0) : actE ag a E = feedsE ag E a.xs := by unfold actE; rw [if_pos h]
theorem actE_1 (h : a.k = 1 ∨ a.k = 2) : actE ag a E = (E.ask a.n a.o (decide (a.k = 1))).2.1 := by unfold actE; rw [if_neg (by omega), if_pos h]
theorem actE_3 (h : a.k = 3) : actE ag a E = (E.set a.n).2 := by unfold actE; rw [if_neg (by omega), if_neg (by omega), if_pos h]
theorem actE_4 (h : a.k = 4) : actE ag a E = E.say a.xs := by unfold actE; rw [if_neg (by omega), if_neg (by omega), if_neg (by omega), if_pos h]
theorem actE_5 (h : a.k = 5) : actE ag a E = (E.cmd a.n).2 := by unfold actE; rw [if_neg (by omega), if_neg (by omega), if_neg (by omega), if_neg (by omega), if_pos h]
theorem actE_6 (h : a.k ≠ 0 ∧ a.k ≠ 1 ∧ a.k ≠ 2 ∧ a.k ≠ 3 ∧ a.k ≠ 4 ∧ a.k ≠ 5) : actE ag a E = E := by unfold actE; rw [if_neg (by omega), if_neg (by omega), if_neg (by omega), if_neg (by omega), if_neg (by omega)]
end
/-- A new end. -/
def NewE (W w' : World) (p : Nat) (ag : Nat → Nat → Bool) (E : Ee) : Prop :=
  (∃ q, IsEe w' p 0 132 [] [] (· = p) (fun i => W.heap.size + 1 ≤ i ∧ i < q) ag E ∧ W.heap.size ≤ p ∧ q ≤ p) ∧ Only (fun _ => False) W w'
theorem lenA_le {l : List Ac} (k : Nat) : lenA (l.take k) ≤ lenA l := by
  conv => rhs; rw [← List.take_append_drop k l, lenA_append]
  omega
theorem info_pcs2 : (Tryz.prog.info? 81).map (·.size) = some 2 := by kernel_rfl

section
variable {w : World} {es : List Addr} {A1 A2 A B A0 : Option Addr} {n1 c1 n2 c2 n cA m cB len cap : Nat} {cc cr can : Int} {ts : List (List UInt8)} {l : List Ac} {sl : List Se} {us hims : List Int}
end
end Go.Proofs.YtbnfhklpobephaaGreatDoor
/- Package gram: a body's bytes, one item. -/
namespace Go.Proofs.YtbnfhklpobephaaGreatDoor
open Go Go.RowKit
set_option maxRecDepth 100000
set_option maxHeartbeats 4000000

/-- Where single stands. -/
structure SgAt (w : World) (xs : List UInt8) (W : World) (k : Nat) (V : Value) (n : Nat) (ys : List UInt8) : Prop where
  len : n = ys.length
  row : Body W w.heap.size V ys
  told : ys ++ single (xs.drop k) = single xs
  only : Only (fun _ => False) w W

end Go.Proofs.YtbnfhklpobephaaGreatDoor
/- Package gram: an item of its bytes. -/
namespace Go.Proofs.YtbnfhklpobephaaGreatDoor
open Go Go.RowKit
set_option maxRecDepth 100000
set_option maxHeartbeats 4000000

theorem add_one_ (ad : Addr) : ad.add 1 = ⟨ad.block, ad.off + 1, none⟩ := by simp [Addr.add]
end Go.Proofs.YtbnfhklpobephaaGreatDoor
