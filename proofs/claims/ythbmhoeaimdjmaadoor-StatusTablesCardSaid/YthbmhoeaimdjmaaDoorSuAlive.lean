/- The chapter's example of layer 17, as its statements ask it first, comes out as told. -/
import Derived.Test.YthbmhoeaimdjmaaDoorSuLine
import Derived.Test.YthbmhoeaimdjmaaDoorSu
namespace Go.Proofs.YthbmhoeaimdjmaaDoor
open Go Go.RowKit
set_option maxRecDepth 100000
set_option maxHeartbeats 4000000

theorem EnAt.of_blk {w : World} {N : Nat} {t : TypeId} {l : List En} (h : Blk w N t (csE l)) : EnAt w (some ⟨N, 0, none⟩) l.length l :=
  ⟨rfl, fun i x hx => ⟨N, 0, rfl, h.lt, fun j v hv => by rw [Nat.zero_add, h.cell]; exact flat_at (cs := En.cs) (m := 2) (fun _ => rfl) hv hx⟩⟩
theorem line_two : lineAt 0 [⟨251, 1⟩, ⟨253, 3⟩] = [119, 105, 108, 108, 32, 101, 99, 104, 111, 44, 32, 100, 111, 32, 115, 103, 97] := by
  have n1 : nameOf 1 = [101, 99, 104, 111] := by
    unfold nameOf
    rw [if_pos (by omega), nameAt_eq _ (by decide)]
    decide +kernel
  have n3 : nameOf 3 = [115, 103, 97] := by
    unfold nameOf
    rw [if_pos (by omega), nameAt_eq _ (by decide)]
    decide +kernel
  have w1 : wordOf 251 = [119, 105, 108, 108] := by decide +kernel
  have w3 : wordOf 253 = [100, 111] := by decide +kernel
  rw [lineAt, lineAt, lineAt, n1, n3, w1, w3]
  rfl

theorem suAlive_any {w : World} (hC : CdW w) : Calls Tryd.prog 5 #[] w fun e w' => e = .returned (.bool true) ∧ Only (fun _ => False) w w' := by
  have hO : Only (fun _ => False) w (w.alloc (.cells #[.int .i64 251, .int .i64 1, .int .i64 253, .int .i64 3] 70)) := (Only.refl _ _).alloc _
  have HL : Hid (Calls Tryd.prog 10 #[.slice (some ⟨w.heap.size, 0, none⟩) 2 2] (w.alloc (.cells #[.int .i64 251, .int .i64 1, .int .i64 253, .int .i64 3] 70)) fun e w' => e = .returned (.string ⟨#[119, 105, 108, 108, 32, 101, 99, 104, 111, 44, 32, 100, 111, 32, 115, 103, 97]⟩) ∧ Only (fun _ => False) w w') := by
    have h := suLine_any (hC.only hO) (c := 2) (EnAt.of_blk (l := [⟨251, 1⟩, ⟨253, 3⟩]) (Blk.new w 70 [.int .i64 251, .int .i64 1, .int .i64 253, .int .i64 3])) (by decide)
    rw [line_two] at h
    exact h.mono fun e w' ⟨he, ho⟩ => ⟨he, hO.trans ho (fun _ h => h.elim)⟩
  have HA := Lib.hid (fun W => suAsk_any W)
  clear hO hC
  go_enter Tryd.func5, Tryd.ntmps5
  go_wp2_with (first
    | (go_at_call 10; refine HL.out.mono ?_; rintro e w1 ⟨rfl, ho1⟩)
    | (go_at_call 15; refine (HA.out _).mono ?_; rintro e w2 ⟨rfl, _, ho2⟩)
    | fail)
  go_ret
  exact ⟨rfl, ho1.trans ho2 (fun _ h => h.elim)⟩

/-- What a row's list gives them. -/
theorem cd_facts {W : World} {l : List (String × DataW Unit)} (h : laidMet Tryd.prog l W) (h1 : ("truchman/codes.commandWords", texts cmdWords) ∈ l) (h2 : ("truchman/codes.optionWords", texts optWords) ∈ l) (h3 : ("internal/strconv.uint64pow10", Lib.tabData .u64 Lib.pow10Tab) ∈ l) : CdW W :=
  ⟨texts_of h h1 (by kernel_rfl) (by kernel_rfl) Tryd.underlying119 Tryd.underlying9 (by kernel_rfl),
   texts_of h h2 (by kernel_rfl) (by kernel_rfl) Tryd.underlying120 Tryd.underlying9 (by kernel_rfl),
   tab_of h (g := 20) h3 (by kernel_rfl) (by kernel_rfl) Tryd.underlying156 Tryd.underlying150 (by kernel_rfl) (by kernel_rfl)⟩
end Go.Proofs.YthbmhoeaimdjmaaDoor
