/- What Put answers where it reaches no cell. -/
import Derived.Test.YteekppohhjlmmaaHpPl
namespace Go.Proofs.Yteekppohhjlmmaa
open Go

theorem put_miss {l : List Ob} {obj k : Int} (h : hasO l obj = true) (hn : ¬ Hit l obj k) (v : Int) : ∃ f, putR l obj k v = ([], f, 0) ∧ f ≠ 0 := by
  cases hg : (obAt l obj.toNat).g with
  | true => exact ⟨3, gone_put h hg k v, by decide⟩
  | false => exact ⟨2, out_put h hg (fun hk => hn ⟨h, hg, hk⟩) v, by decide⟩
end Go.Proofs.Yteekppohhjlmmaa
