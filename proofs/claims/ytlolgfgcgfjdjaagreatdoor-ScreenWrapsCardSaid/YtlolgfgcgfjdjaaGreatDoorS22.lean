/- What is proved here: which parsers the document calls right: any parser. -/
import Derived.Test.YtlolgfgcgfjdjaaGreatDoorS21
namespace Go.Proofs.YtlolgfgcgfjdjaaGreatDoor
open Go.RowKit
set_option linter.unusedVariables false
set_option linter.unusedSimpArgs false
set_option maxHeartbeats 400000
set_option maxRecDepth 100000
theorem rightP_ok {p : Pr} (h : PrOk p) : RightP (p.mode : Int) p.priv p.params p.inter p.utf := by
 have hm := h.mode
 refine ⟨⟨by omega, by omega, h.params, h.inter, fun hu => ?_⟩, h.each, h.eachI, h.priv, ?_, ?_⟩
 ·rcases h.utf with e | ⟨e1, e2⟩
  ·rw [e] at hu; simp at hu
  ·exact ⟨by omega, e2⟩
 ·rcases h.csi with e | e | ⟨e1, e2⟩
  ·exact .inl (.inl (by omega))
  ·exact .inl (.inr (by omega))
  ·exact .inr ⟨e1, by rw [e2]; rfl⟩
 ·rw [← h.with_]
  omega
end Go.Proofs.YtlolgfgcgfjdjaaGreatDoor
