/- What is proved here: parts of the proofs of the laws of layer 10. -/
import Derived.Test.YthncoigjfhmldaaGreatS2
import Derived.Test.YthncoigjfhmldaaGreatS11
import Derived.BigQuiet
import Derived.Deep.QuietTactic
import Derived.Deep.RegionHeld3
import Derived.Deep.RegionLaw
namespace Go.Proofs.YthncoigjfhmldaaGreat
open Go.RowKit
set_option linter.unusedVariables false
set_option linter.unusedSimpArgs false
set_option maxHeartbeats 400000
set_option maxRecDepth 100000
def PutCPost (l : List Cl) (w : World) (e : Ending) (w' : World) : Prop := ∃ u, e = .returned (.tuple #[u, .int .i64 ((putCL l).2 : Int)]) ∧ OB w' w.heap.size u (putCL l).1 ∧ Below w.heap.size w w'
theorem below_drewP {B : Nat} {w w' : World} (h : Below B w w') (n : Nat) : Below B w (w'.drewN n) := ⟨h.os, h.tape, h.output, h.size, h.block⟩
theorem bytL_drop (l : List Cl) (j N : Nat) (c : Cl) (hc : l[j]? = some c) (hN : sameN c (l.drop j) = N) : 1 ≤ N ∧ j + N ≤ l.length ∧ bytL (l.drop j) = runB N c ++ bytL (l.drop (j + N)) := by
 have hj : j < l.length := (List.getElem?_eq_some_iff.1 hc).1
 have hd : l.drop j = c :: l.drop (j + 1) := by
  rw [List.drop_eq_getElem_cons hj]
  congr 1
  exact (List.getElem?_eq_some_iff.1 hc).2
 have hle := sameN_le c (l.drop j)
 rw [hN, List.length_drop] at hle
 rw [hd] at hN
 unfold sameN at hN
 rw [if_pos rfl] at hN
 refine ⟨by omega, by omega, ?_⟩
 rw [hd, bytL_cons, hN, List.drop_drop, show j + 1 + sameN c (l.drop (j + 1)) = j + N by omega]
end Go.Proofs.YthncoigjfhmldaaGreat
