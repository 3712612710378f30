/- What is proved here: parts of the proofs of the laws of layer 10. -/
import Derived.Test.YthncoigjfhmldaaGreatS4
import Derived.Test.YthncoigjfhmldaaGreatS7
import Derived.Deep.QuietTactic
import Derived.BigQuiet
namespace Go.Proofs.YthncoigjfhmldaaGreat
open Go.RowKit
set_option linter.unusedVariables false
set_option linter.unusedSimpArgs false
set_option maxHeartbeats 400000
set_option maxRecDepth 100000
def RightP (m : Int) (pv : Nat) (ps : List Int) (is us : List UInt8) : Prop :=
 (0 ≤ m ∧ m ≤ 7 ∧ ps.length ≤ 16 ∧ is.length ≤ 2 ∧ (0 < us.length → m = 0 ∧ beginsL us = true)) ∧ (∀ x ∈ ps, 0 ≤ x ∧ x ≤ 65535) ∧ (∀ b ∈ is, interB b = true) ∧ (pv = 0 ∨ (60 ≤ pv ∧ pv ≤ 63)) ∧ ((m = 4 ∨ m = 5) ∨ (pv = 0 ∧ ps.length = 0)) ∧ ((m = 2 ∨ m = 5) ↔ 0 < is.length)
def RightPost (m : Int) (pv : Nat) (ps : List Int) (is us : List UInt8) (w : World) (e : Ending) (w' : World) : Prop :=
 ∃ r, e = .returned (.bool r) ∧ (r = true ↔ RightP m pv ps is us) ∧ Below w.heap.size w w'
theorem right_no {m : Int} {pv : Nat} {ps : List Int} {is us : List UInt8} {w w' : World} (h : ¬ RightP m pv ps is us) (hb : Below w.heap.size w w') : RightPost m pv ps is us w (.returned (.bool false)) w' := ⟨false, rfl, by simp [h], hb⟩
theorem rightP_ok {p : Pr} (h : PrOk p) : RightP (p.mode : Int) p.priv p.params p.inter p.utf := by
 have hm := h.mode
 refine ⟨⟨by omega, by omega, h.params, h.inter, fun hu => ?_⟩, h.each, h.eachI, h.priv, ?_, ?_⟩
 ·rcases h.utf with e | ⟨e1, e2⟩
  ·rw [e] at hu; simp at hu
  ·exact ⟨by omega, e2⟩
 ·rcases h.csi with e | e | ⟨e1, e2⟩
  ·exact .inl (.inl (by omega))
  ·exact .inl (.inr (by omega))
  ·exact .inr ⟨e1, by rw [e2]; rfl⟩
 ·rw [← h.with_]
  omega
end Go.Proofs.YthncoigjfhmldaaGreat
