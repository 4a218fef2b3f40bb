/- The document's own answers of layer 6: Token. -/
import Derived.Test.YtgahamdfgjijkaaDoorEmitRefS
namespace Go.Proofs.YtgahamdfgjijkaaDoor
open Go Go.RowKit
set_option maxRecDepth 100000
set_option maxHeartbeats 4000000

/-- What the document's Token answers. -/
def RTold (w : World) (t : Tk) (e : Ending) (w' : World) : Prop := e = .returned (.tuple #[.string ⟨(tkBytes t).toArray⟩, .int .i64 ((tkNum t : Nat) : Int)]) ∧ Only (fun _ => False) w w'

theorem rt_data_lo (w : World) (c o : Int) (b : List UInt8) (cut : Bool) (h1 : c < 0) (_ : b.length ≤ 100000) :
    Calls Tryd.prog 7 #[.agg #[.int .i64 1, .int .i64 c, .int .i64 o, .string ⟨b.toArray⟩, .bool cut]] w (RTold w ⟨1, c, o, b, cut⟩) := by
  have hn : tkNum ⟨1, c, o, b, cut⟩ = 1 := by (unfold tkNum; simp; repeat' split); all_goals omega
  have hb : tkBytes ⟨1, c, o, b, cut⟩ = [] := by rw [tkBytes, if_neg (by rw [hn]; decide)]
  unfold RTold
  rw [hn, hb]
  clear hn hb
  go_enter Tryd.func7, Tryd.ntmps7
  go_wp2
  go_ret2
  exact ⟨rfl, (Only.refl _ w).alloc _⟩
theorem rt_data_hi (w : World) (c o : Int) (b : List UInt8) (cut : Bool) (h1 : ¬ c < 0) (h2 : 255 < c) (_ : b.length ≤ 100000) :
    Calls Tryd.prog 7 #[.agg #[.int .i64 1, .int .i64 c, .int .i64 o, .string ⟨b.toArray⟩, .bool cut]] w (RTold w ⟨1, c, o, b, cut⟩) := by
  have hn : tkNum ⟨1, c, o, b, cut⟩ = 1 := by (unfold tkNum; simp; repeat' split); all_goals omega
  have hb : tkBytes ⟨1, c, o, b, cut⟩ = [] := by rw [tkBytes, if_neg (by rw [hn]; decide)]
  unfold RTold
  rw [hn, hb]
  clear hn hb
  go_enter Tryd.func7, Tryd.ntmps7
  go_wp2
  go_ret2
  exact ⟨rfl, (Only.refl _ w).alloc _⟩
theorem rt_plain_lo (w : World) (c o : Int) (b : List UInt8) (cut : Bool) (h1 : ¬ 240 < c) (_ : b.length ≤ 100000) :
    Calls Tryd.prog 7 #[.agg #[.int .i64 2, .int .i64 c, .int .i64 o, .string ⟨b.toArray⟩, .bool cut]] w (RTold w ⟨2, c, o, b, cut⟩) := by
  have hn : tkNum ⟨2, c, o, b, cut⟩ = 9 := by (unfold tkNum; simp; repeat' split); all_goals omega
  have hb : tkBytes ⟨2, c, o, b, cut⟩ = [] := by rw [tkBytes, if_neg (by rw [hn]; decide)]
  unfold RTold
  rw [hn, hb]
  clear hn hb
  go_enter Tryd.func7, Tryd.ntmps7
  go_wp2
  go_ret2
  exact ⟨rfl, (Only.refl _ w).alloc _⟩
theorem rt_plain_hi (w : World) (c o : Int) (b : List UInt8) (cut : Bool) (h1 : 240 < c) (h2 : ¬ c < 250) (_ : b.length ≤ 100000) :
    Calls Tryd.prog 7 #[.agg #[.int .i64 2, .int .i64 c, .int .i64 o, .string ⟨b.toArray⟩, .bool cut]] w (RTold w ⟨2, c, o, b, cut⟩) := by
  have hn : tkNum ⟨2, c, o, b, cut⟩ = 9 := by (unfold tkNum; simp; repeat' split); all_goals omega
  have hb : tkBytes ⟨2, c, o, b, cut⟩ = [] := by rw [tkBytes, if_neg (by rw [hn]; decide)]
  unfold RTold
  rw [hn, hb]
  clear hn hb
  go_enter Tryd.func7, Tryd.ntmps7
  go_wp2
  go_ret2
  exact ⟨rfl, (Only.refl _ w).alloc _⟩
theorem rt_verb_lo (w : World) (c o : Int) (b : List UInt8) (cut : Bool) (h1 : ¬ 250 < c) (_ : b.length ≤ 100000) :
    Calls Tryd.prog 7 #[.agg #[.int .i64 3, .int .i64 c, .int .i64 o, .string ⟨b.toArray⟩, .bool cut]] w (RTold w ⟨3, c, o, b, cut⟩) := by
  have hn : tkNum ⟨3, c, o, b, cut⟩ = 9 := by (unfold tkNum; simp; repeat' split); all_goals omega
  have hb : tkBytes ⟨3, c, o, b, cut⟩ = [] := by rw [tkBytes, if_neg (by rw [hn]; decide)]
  unfold RTold
  rw [hn, hb]
  clear hn hb
  go_enter Tryd.func7, Tryd.ntmps7
  go_wp2
  go_ret2
  exact ⟨rfl, (Only.refl _ w).alloc _⟩
theorem rt_verb_hi (w : World) (c o : Int) (b : List UInt8) (cut : Bool) (h1 : 250 < c) (h2 : ¬ c < 255) (_ : b.length ≤ 100000) :
    Calls Tryd.prog 7 #[.agg #[.int .i64 3, .int .i64 c, .int .i64 o, .string ⟨b.toArray⟩, .bool cut]] w (RTold w ⟨3, c, o, b, cut⟩) := by
  have hn : tkNum ⟨3, c, o, b, cut⟩ = 9 := by (unfold tkNum; simp; repeat' split); all_goals omega
  have hb : tkBytes ⟨3, c, o, b, cut⟩ = [] := by rw [tkBytes, if_neg (by rw [hn]; decide)]
  unfold RTold
  rw [hn, hb]
  clear hn hb
  go_enter Tryd.func7, Tryd.ntmps7
  go_wp2
  go_ret2
  exact ⟨rfl, (Only.refl _ w).alloc _⟩
theorem rt_verb_olo (w : World) (c o : Int) (b : List UInt8) (cut : Bool) (h1 : 250 < c) (h2 : c < 255) (h3 : o < 0) (_ : b.length ≤ 100000) :
    Calls Tryd.prog 7 #[.agg #[.int .i64 3, .int .i64 c, .int .i64 o, .string ⟨b.toArray⟩, .bool cut]] w (RTold w ⟨3, c, o, b, cut⟩) := by
  have hn : tkNum ⟨3, c, o, b, cut⟩ = 1 := by (unfold tkNum; simp; repeat' split); all_goals omega
  have hb : tkBytes ⟨3, c, o, b, cut⟩ = [] := by rw [tkBytes, if_neg (by rw [hn]; decide)]
  unfold RTold
  rw [hn, hb]
  clear hn hb
  go_enter Tryd.func7, Tryd.ntmps7
  go_wp2
  go_ret2
  exact ⟨rfl, (Only.refl _ w).alloc _⟩
theorem rt_verb_ohi (w : World) (c o : Int) (b : List UInt8) (cut : Bool) (h1 : 250 < c) (h2 : c < 255) (h3 : ¬ o < 0) (h4 : 255 < o) (_ : b.length ≤ 100000) :
    Calls Tryd.prog 7 #[.agg #[.int .i64 3, .int .i64 c, .int .i64 o, .string ⟨b.toArray⟩, .bool cut]] w (RTold w ⟨3, c, o, b, cut⟩) := by
  have hn : tkNum ⟨3, c, o, b, cut⟩ = 1 := by (unfold tkNum; simp; repeat' split); all_goals omega
  have hb : tkBytes ⟨3, c, o, b, cut⟩ = [] := by rw [tkBytes, if_neg (by rw [hn]; decide)]
  unfold RTold
  rw [hn, hb]
  clear hn hb
  go_enter Tryd.func7, Tryd.ntmps7
  go_wp2
  go_ret2
  exact ⟨rfl, (Only.refl _ w).alloc _⟩
theorem rt_sub_olo (w : World) (c o : Int) (b : List UInt8) (cut : Bool) (h3 : o < 0) (_ : b.length ≤ 100000) :
    Calls Tryd.prog 7 #[.agg #[.int .i64 4, .int .i64 c, .int .i64 o, .string ⟨b.toArray⟩, .bool cut]] w (RTold w ⟨4, c, o, b, cut⟩) := by
  have hn : tkNum ⟨4, c, o, b, cut⟩ = 1 := by (unfold tkNum; simp; repeat' split); all_goals omega
  have hb : tkBytes ⟨4, c, o, b, cut⟩ = [] := by rw [tkBytes, if_neg (by rw [hn]; decide)]
  unfold RTold
  rw [hn, hb]
  clear hn hb
  go_enter Tryd.func7, Tryd.ntmps7
  go_wp2
  go_ret2
  exact ⟨rfl, (Only.refl _ w).alloc _⟩
theorem rt_sub_ohi (w : World) (c o : Int) (b : List UInt8) (cut : Bool) (h3 : ¬ o < 0) (h4 : 255 < o) (_ : b.length ≤ 100000) :
    Calls Tryd.prog 7 #[.agg #[.int .i64 4, .int .i64 c, .int .i64 o, .string ⟨b.toArray⟩, .bool cut]] w (RTold w ⟨4, c, o, b, cut⟩) := by
  have hn : tkNum ⟨4, c, o, b, cut⟩ = 1 := by (unfold tkNum; simp; repeat' split); all_goals omega
  have hb : tkBytes ⟨4, c, o, b, cut⟩ = [] := by rw [tkBytes, if_neg (by rw [hn]; decide)]
  unfold RTold
  rw [hn, hb]
  clear hn hb
  go_enter Tryd.func7, Tryd.ntmps7
  go_wp2
  go_ret2
  exact ⟨rfl, (Only.refl _ w).alloc _⟩
theorem rt_sub_cut (w : World) (c o : Int) (b : List UInt8) (h3 : ¬ o < 0) (h4 : ¬ 255 < o) (_ : b.length ≤ 100000) :
    Calls Tryd.prog 7 #[.agg #[.int .i64 4, .int .i64 c, .int .i64 o, .string ⟨b.toArray⟩, .bool true]] w (RTold w ⟨4, c, o, b, true⟩) := by
  have hn : tkNum ⟨4, c, o, b, true⟩ = 4 := by (unfold tkNum; simp; repeat' split); all_goals omega
  have hb : tkBytes ⟨4, c, o, b, true⟩ = [] := by rw [tkBytes, if_neg (by rw [hn]; decide)]
  unfold RTold
  rw [hn, hb]
  clear hn hb
  go_enter Tryd.func7, Tryd.ntmps7
  go_wp2
  go_ret2
  exact ⟨rfl, (Only.refl _ w).alloc _⟩
theorem rt_sub_long (w : World) (c o : Int) (b : List UInt8) (h3 : ¬ o < 0) (h4 : ¬ 255 < o) (h5 : 256 < b.length) (_ : b.length ≤ 100000) :
    Calls Tryd.prog 7 #[.agg #[.int .i64 4, .int .i64 c, .int .i64 o, .string ⟨b.toArray⟩, .bool false]] w (RTold w ⟨4, c, o, b, false⟩) := by
  have hn : tkNum ⟨4, c, o, b, false⟩ = 4 := by (unfold tkNum; simp; repeat' split); all_goals omega
  have hb : tkBytes ⟨4, c, o, b, false⟩ = [] := by rw [tkBytes, if_neg (by rw [hn]; decide)]
  unfold RTold
  rw [hn, hb]
  have d5 : decide ((256 : Int) < (b.length : Int)) = true := by simp; omega
  clear hn hb
  go_enter Tryd.func7, Tryd.ntmps7
  go_wp2
  go_ret2
  exact ⟨rfl, (Only.refl _ w).alloc _⟩
theorem rt_none (w : World) (k : Int) (c o : Int) (b : List UInt8) (cut : Bool) (h1 : k ≠ 1) (h2 : k ≠ 2) (h3 : k ≠ 3) (h4 : k ≠ 4) (_ : b.length ≤ 100000) :
    Calls Tryd.prog 7 #[.agg #[.int .i64 k, .int .i64 c, .int .i64 o, .string ⟨b.toArray⟩, .bool cut]] w (RTold w ⟨k, c, o, b, cut⟩) := by
  have hn : tkNum ⟨k, c, o, b, cut⟩ = 9 := by simp [tkNum, h1, h2, h3, h4]
  have hb : tkBytes ⟨k, c, o, b, cut⟩ = [] := by rw [tkBytes, if_neg (by rw [hn]; decide)]
  unfold RTold
  rw [hn, hb]
  have d1 : (k == 1) = false := by simpa using h1
  have d2 : (k == 2) = false := by simpa using h2
  have d3 : (k == 3) = false := by simpa using h3
  have d4 : (k == 4) = false := by simpa using h4
  clear hn hb
  go_enter Tryd.func7, Tryd.ntmps7
  go_wp2
  go_ret2
  exact ⟨rfl, (Only.refl _ w).alloc _⟩
theorem rt_data (w : World) (c o : Int) (b : List UInt8) (cut : Bool) (h1 : ¬ c < 0) (h2 : ¬ 255 < c) (_ : b.length ≤ 100000) :
    Calls Tryd.prog 7 #[.agg #[.int .i64 1, .int .i64 c, .int .i64 o, .string ⟨b.toArray⟩, .bool cut]] w (RTold w ⟨1, c, o, b, cut⟩) := by
  have hn : tkNum ⟨1, c, o, b, cut⟩ = 0 := by (unfold tkNum; simp; repeat' split); all_goals omega
  have hb : tkBytes ⟨1, c, o, b, cut⟩ = dbl [b8 c] := by rw [tkBytes, if_pos hn]; simp [tkRaw]
  unfold RTold
  rw [hn, hb]
  clear hn hb
  have hw : IntKind.u8.wrap c = c := by rw [IntKind.wrap_u8]; omega
  have HC : #[Value.int .u8 c] = ([b8 c].map B8).toArray := by
    have := b8_int (z := c) (by omega) (by omega)
    simp only [List.map_cons, List.map_nil, B8, this]
  have hcv := text_new (w.alloc (.cells #[.int .i64 1, .int .i64 c, .int .i64 o, .string ⟨b.toArray⟩, .bool cut] 30)) [b8 c] 1 rfl _ HC (w.heap.size + 1) (by simp)
  have HD : Hid (∀ W, Calls Tryd.prog 14 #[.string ⟨#[b8 c]⟩] W fun e w' => e = .returned (.string ⟨(dbl [b8 c]).toArray⟩) ∧ W = w') := fun W => dataRef_any W [b8 c] (by simp)
  obtain ⟨D, hD⟩ : ∃ D, D = dbl [b8 c] := ⟨_, rfl⟩
  rw [← hD] at HD ⊢
  clear HC hD
  go_enter Tryd.func7, Tryd.ntmps7
  go_wp2_with (go_at_call 14; refine (HD.out _).mono ?_; rintro e w2 ⟨rfl, e2⟩; subst w2)
  go_ret2
  exact ⟨rfl, ((Only.refl _ w).alloc _).alloc _⟩
theorem rt_plain (w : World) (c o : Int) (b : List UInt8) (cut : Bool) (h1 : 240 < c) (h2 : c < 250) (_ : b.length ≤ 100000) :
    Calls Tryd.prog 7 #[.agg #[.int .i64 2, .int .i64 c, .int .i64 o, .string ⟨b.toArray⟩, .bool cut]] w (RTold w ⟨2, c, o, b, cut⟩) := by
  have hn : tkNum ⟨2, c, o, b, cut⟩ = 0 := by (unfold tkNum; simp; repeat' split); all_goals omega
  have hb : tkBytes ⟨2, c, o, b, cut⟩ = [255, b8 c] := by rw [tkBytes, if_pos hn]; simp [tkRaw]
  unfold RTold
  rw [hn, hb]
  clear hn hb
  have hw : IntKind.u8.wrap c = c := by rw [IntKind.wrap_u8]; omega
  have HC : #[Value.int .u8 255, Value.int .u8 c] = ([255, b8 c].map B8).toArray := by
    have := b8_int (z := c) (by omega) (by omega)
    simp only [List.map_cons, List.map_nil, B8, this]
    rfl
  obtain ⟨L, hL⟩ : ∃ L, L = [255, b8 c] := ⟨_, rfl⟩
  have hcv := text_new (w.alloc (.cells #[.int .i64 2, .int .i64 c, .int .i64 o, .string ⟨b.toArray⟩, .bool cut] 30)) [255, b8 c] 2 rfl _ HC (w.heap.size + 1) (by simp)
  rw [← hL] at hcv ⊢
  clear HC hL
  go_enter Tryd.func7, Tryd.ntmps7
  go_wp2
  go_ret2
  exact ⟨rfl, ((Only.refl _ w).alloc _).alloc _⟩
theorem rt_verb (w : World) (c o : Int) (b : List UInt8) (cut : Bool) (h1 : 250 < c) (h2 : c < 255) (h3 : ¬ o < 0) (h4 : ¬ 255 < o) (_ : b.length ≤ 100000) :
    Calls Tryd.prog 7 #[.agg #[.int .i64 3, .int .i64 c, .int .i64 o, .string ⟨b.toArray⟩, .bool cut]] w (RTold w ⟨3, c, o, b, cut⟩) := by
  have hn : tkNum ⟨3, c, o, b, cut⟩ = 0 := by (unfold tkNum; simp; repeat' split); all_goals omega
  have hb : tkBytes ⟨3, c, o, b, cut⟩ = [255, b8 c, b8 o] := by rw [tkBytes, if_pos hn]; simp [tkRaw]
  unfold RTold
  rw [hn, hb]
  clear hn hb
  have HD : Hid (∀ W, Calls Tryd.prog 21 #[.int .i64 c, .int .i64 o] W fun e w' => e = .returned (.string ⟨([255, b8 c, b8 o] : List UInt8).toArray⟩) ∧ Only (fun _ => False) W w') := fun W => verbRef_any W c o (by omega) (by omega)
  obtain ⟨L, hL⟩ : ∃ L, L = [255, b8 c, b8 o] := ⟨_, rfl⟩
  rw [← hL] at HD ⊢
  clear hL
  go_enter Tryd.func7, Tryd.ntmps7
  go_wp2_with (go_at_call 21; refine (HD.out _).mono ?_; rintro e w2 ⟨rfl, ho2⟩)
  go_ret2
  exact ⟨rfl, ((Only.refl (fun _ => False) w).alloc _).trans ho2 (fun _ h => h.elim)⟩
theorem rt_sub (w : World) (c o : Int) (b : List UInt8) (h3 : ¬ o < 0) (h4 : ¬ 255 < o) (h5 : ¬ 256 < b.length) (_ : b.length ≤ 100000) :
    Calls Tryd.prog 7 #[.agg #[.int .i64 4, .int .i64 c, .int .i64 o, .string ⟨b.toArray⟩, .bool false]] w (RTold w ⟨4, c, o, b, false⟩) := by
  have hn : tkNum ⟨4, c, o, b, false⟩ = 0 := by (unfold tkNum; simp; repeat' split); all_goals omega
  have hb : tkBytes ⟨4, c, o, b, false⟩ = [255, 250, b8 o] ++ dbl b ++ [255, 240] := by rw [tkBytes, if_pos hn]; simp [tkRaw]
  unfold RTold
  rw [hn, hb]
  clear hn hb
  have HD : Hid (∀ W, Calls Tryd.prog 22 #[.int .i64 o, .string ⟨b.toArray⟩] W fun e w' => e = .returned (.string ⟨([255, 250, b8 o] ++ dbl b ++ [255, 240] : List UInt8).toArray⟩) ∧ Only (fun _ => False) W w') := fun W => subRef_any W o b (by omega) (by omega)
  obtain ⟨L, hL⟩ : ∃ L, L = [255, 250, b8 o] ++ dbl b ++ [255, 240] := ⟨_, rfl⟩
  rw [← hL] at HD ⊢
  have d5 : decide ((256 : Int) < (b.length : Int)) = false := by simp; omega
  clear hL
  go_enter Tryd.func7, Tryd.ntmps7
  go_wp2_with (go_at_call 22; refine (HD.out _).mono ?_; rintro e w2 ⟨rfl, ho2⟩)
  go_ret2
  exact ⟨rfl, ((Only.refl (fun _ => False) w).alloc _).trans ho2 (fun _ h => h.elim)⟩

theorem tokenRef_any (w : World) (k c o : Int) (b : List UInt8) (cut : Bool) (hlen : b.length ≤ 100000) :
    Calls Tryd.prog 7 #[.agg #[.int .i64 k, .int .i64 c, .int .i64 o, .string ⟨b.toArray⟩, .bool cut]] w (RTold w ⟨k, c, o, b, cut⟩) := by
  by_cases h1 : k = 1
  · subst h1
    by_cases a1 : c < 0
    · exact rt_data_lo w c o b cut a1 hlen
    · by_cases a2 : 255 < c
      · exact rt_data_hi w c o b cut a1 a2 hlen
      · exact rt_data w c o b cut a1 a2 hlen
  · by_cases h2 : k = 2
    · subst h2
      by_cases a1 : 240 < c
      · by_cases a2 : c < 250
        · exact rt_plain w c o b cut a1 a2 hlen
        · exact rt_plain_hi w c o b cut a1 a2 hlen
      · exact rt_plain_lo w c o b cut a1 hlen
    · by_cases h3 : k = 3
      · subst h3
        by_cases a1 : 250 < c
        · by_cases a2 : c < 255
          · by_cases a3 : o < 0
            · exact rt_verb_olo w c o b cut a1 a2 a3 hlen
            · by_cases a4 : 255 < o
              · exact rt_verb_ohi w c o b cut a1 a2 a3 a4 hlen
              · exact rt_verb w c o b cut a1 a2 a3 a4 hlen
          · exact rt_verb_hi w c o b cut a1 a2 hlen
        · exact rt_verb_lo w c o b cut a1 hlen
      · by_cases h4 : k = 4
        · subst h4
          by_cases a3 : o < 0
          · exact rt_sub_olo w c o b cut a3 hlen
          · by_cases a4 : 255 < o
            · exact rt_sub_ohi w c o b cut a3 a4 hlen
            · cases cut with
              | true => exact rt_sub_cut w c o b a3 a4 hlen
              | false =>
                by_cases a5 : 256 < b.length
                · exact rt_sub_long w c o b a3 a4 a5 hlen
                · exact rt_sub w c o b a3 a4 a5 hlen
        · exact rt_none w k c o b cut h1 h2 h3 h4 hlen
end Go.Proofs.YtgahamdfgjijkaaDoor
