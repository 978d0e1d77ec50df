/- zint.Int. -/
import Derived.Test.YtkgbfnmlpajblaaGreatDoorZ8
import Derived.Test.YtkgbfnmlpajblaaGreatDoorR7
import Derived.Test.YtkgbfnmlpajblaaGreatDoorMx
namespace Go.Proofs.YtkgbfnmlpajblaaGreatDoor
open Go.RowKit Dig
theorem take1 {ds : List Nat} (h : 0 < ds.length) : ds.take 1 = [ds[0]?.getD 0] := by
  match ds, h with
  | d :: _, _ => rfl
theorem take2 {ds : List Nat} (h : 1 < ds.length) : ds.take 2 = [ds[0]?.getD 0, ds[1]?.getD 0] := by
  match ds, h with
  | _ :: _ :: _, _ => rfl

end Go.Proofs.YtkgbfnmlpajblaaGreatDoor
