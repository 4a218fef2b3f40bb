/- SubnegTypes: the walk of whatever came in. -/
import Derived.Test.YtlmkpembccehkaaGreatDoorSnTypesL
import Derived.Test.YtlmkpembccehkaaGreatDoorSnFacts
namespace Go.Proofs.YtlmkpembccehkaaGreatDoor
open Go Go.RowKit
set_option maxRecDepth 100000

theorem subnegTypes_walk (W : World) {H : Type} {enc : TypeId × Value → H} {f0 : Nat} {A : Option Addr} {n c : Nat} {x : DataW H × List MemPlace} (hf : DataW.trod enc Tryz.prog W 0 (fun _ => true) true f0 24 [.slice A n c] = some x) {cc cr : Int} (_ : True)
    (hF : TbW W ∧ ∃ es, ErrsAt W es) : Calls Tryz.prog 4 #[.slice A n c, szVal cc cr] W (Fine W) := by
  obtain ⟨hT, es, hE⟩ := hF
  obtain ⟨ts, hts, hnc, hc, _⟩ := opened_texts hf
  unfold szVal
  cases hw : fewT ts 10 40 with
  | false => exact tyWalk_long hts (by omega) cc cr hw
  | true =>
    cases hg : cfGood cc cr ts with
    | false => exact tyWalk_bad hE hts (by omega) hw hg
    | true => exact tyWalk_main hE hT hts (by omega) hw hg
end Go.Proofs.YtlmkpembccehkaaGreatDoor
