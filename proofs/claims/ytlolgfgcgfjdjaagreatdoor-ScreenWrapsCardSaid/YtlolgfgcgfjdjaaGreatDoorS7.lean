/- What is proved here: the contract of the document's erasing of a screen. -/
import Derived.Test.YtlolgfgcgfjdjaaGreatDoorS6
import Derived.Deep.QuietTactic
import Derived.BigQuiet
import Derived.Deep.RegionWith
namespace Go.Proofs.YtlolgfgcgfjdjaaGreatDoor
open Go.RowKit
set_option linter.unusedVariables false
set_option linter.unusedSimpArgs false
set_option maxHeartbeats 400000
set_option maxRecDepth 100000
theorem OC.other {w : World} {base : Nat} {v : Value} {l : List Cl} (h : OC w base v l) (a : Addr) (x : Value) (ha : a.block < base) : OC (w.setCell a x) base v l := by
 unfold OC at h ⊢
 refine World.ownsRow.kept h (row := some a.block) ⟨rfl, rfl, rfl, by simp, fun k _ hk => heap_setCell_other w a k x (fun e => hk (by simp [e]))⟩ ?_
 cases hv : v.ownBlock with
 | none => exact Or.inl rfl
 | some k =>
  have := (World.ownsRow.lt h k hv).1
  refine Or.inr ?_
  simp
  omega
end Go.Proofs.YtlolgfgcgfjdjaaGreatDoor
