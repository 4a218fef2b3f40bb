
/- Rows of triples. -/
import Derived.Test.YtbnfhklpobephaaGreatDoorJScNew
import Derived.Test.YtbnfhklpobephaaGreatDoorRowK
namespace Go.Proofs.YtbnfhklpobephaaGreatDoor
open Go Go.RowKit
set_option maxRecDepth 100000
set_option maxHeartbeats 4000000

theorem info_tri : (Tryz.prog.info? 262).map (fun i => (i.zero, i.size, i.bytes)) = some (some (.agg (Tr.cs Tr.zero).toArray), 4, 32) := by kernel_rfl
def csT (L : List Tr) : List Value := L.flatMap Tr.cs
theorem csT_cons (t : Tr) (L : List Tr) : csT (t :: L) = t.cs ++ csT L := rfl
theorem csT_append (L M : List Tr) : csT (L ++ M) = csT L ++ csT M := by simp [csT]
theorem csT_one (t : Tr) : csT [t] = t.cs := by simp [csT]
theorem csT_len (L : List Tr) : (csT L).length = L.length * 4 := by
  induction L with
  | nil => rfl
  | cons t L ih => rw [csT_cons, List.length_append, ih]; simp; omega
theorem csT_cell (L : List Tr) : ∀ v ∈ csT L, v.oneCell' = true := by
  intro v hv
  unfold csT at hv
  rw [List.mem_flatMap] at hv
  obtain ⟨t, _, hv⟩ := hv
  exact t.cs_one v hv
/-- A row of triples. -/
def RowT (w : World) (B : Nat) (v : Value) (L : List Tr) : Prop := RowAt w B 262 4 v L.length (csT L)

theorem RowT.beside {w w' : World} {B p : Nat} {v : Value} {L : List Tr} {S : Sd} (h : RowT w B v L) (hp : ScSdAt w p S) (ho : Only (· = p) w w') : RowT w' B v L := by
  obtain ⟨cs, hb, _⟩ := hp
  exact RowAt.only h ho (fun k hk => RowAt.ne h hb (by decide) k hk)
theorem RowT.same {w w' : World} {B : Nat} {v : Value} {L : List Tr} (h : RowT w B v L) (ho : Only (fun _ => False) w w') : RowT w' B v L := RowAt.only h ho (fun _ _ h => h)
theorem RowT.tail {w : World} {B g o m c : Nat} {t : Tr} {L : List Tr} {D : Option Addr} (h : RowT w B (.slice (some ⟨g, o, none⟩) (m + 1) c) (t :: L)) (hm : m = L.length) (hD : (if c = 1 then some (⟨g, o, none⟩ : Addr) else some ⟨g, o + 4, none⟩) = D) :
    RowT w B (.slice D m (c - 1)) L ∧ ∀ k, (Value.slice D m (c - 1)).ownBlock = some k → (Value.slice (some ⟨g, o, none⟩) (m + 1) c).ownBlock = some k := by
  subst hm
  have h' : RowAt w B 262 4 (.slice (some ⟨g, o, none⟩) (L.length + 1) c) (L.length + 1) (t.cs ++ csT L) := h
  by_cases hc : c = 1
  · rw [if_pos hc] at hD
    subst hD
    exact ⟨RowAt.tailK h' rfl o (.inr ⟨hc, rfl⟩), fun k hk => hk⟩
  · rw [if_neg hc] at hD
    subst hD
    exact ⟨RowAt.tailK h' rfl (o + 4) (.inl rfl), fun k hk => hk⟩

end Go.Proofs.YtbnfhklpobephaaGreatDoor
