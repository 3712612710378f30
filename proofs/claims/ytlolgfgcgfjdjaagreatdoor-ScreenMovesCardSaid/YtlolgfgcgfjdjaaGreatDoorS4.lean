/- What is proved here: contracts of the document's function that takes a byte with nothing pending, part by part: in new memory, or in its argument's; a contract of the document's function that takes a byte with nothing pending: in new memory, or in its argument's. -/
import Derived.Test.YtlolgfgcgfjdjaaGreatDoorS3
namespace Go.Proofs.YtlolgfgcgfjdjaaGreatDoor
open Go.RowKit
set_option linter.unusedVariables false
set_option linter.unusedSimpArgs false
set_option maxHeartbeats 400000
set_option maxRecDepth 100000
theorem two_new (w : World) (x y : Obj) : Below w.heap.size w ((w.alloc x).alloc y) ∧ ((w.alloc x).alloc y).heap.size = w.heap.size + 1 + 1 :=
 ⟨((Below.refl w.heap.size w).alloc (Nat.le_refl _) x).alloc (by simp) y, by simp⟩
end Go.Proofs.YtlolgfgcgfjdjaaGreatDoor

namespace Go.Proofs.YtlolgfgcgfjdjaaGreatDoor
open Go.RowKit
set_option linter.unusedVariables false
set_option linter.unusedSimpArgs false
set_option maxHeartbeats 400000
set_option maxRecDepth 100000
theorem two_keptB {w w4 : World} {x y : Obj} (hb : Below (w.heap.size + 1 + 1) ((w.alloc x).alloc y) w4) : w4.heap[w.heap.size]? = some x ∧ w4.heap[w.heap.size + 1]? = some y := by
 refine ⟨(hb.block _ (by omega)).trans ?_, (hb.block _ (by omega)).trans ?_⟩
 ·show ((w.heap.push x).push y)[w.heap.size]? = some x
  rw [Array.getElem?_push, if_neg (by simp), Array.getElem?_push, if_pos rfl]
 ·show ((w.heap.push x).push y)[w.heap.size + 1]? = some y
  rw [Array.getElem?_push, if_pos (by simp)]
def wset (w w5 : World) (y0 y1 y2 y3 y4 : Value) : World := ((((w5.setCell ⟨w.heap.size + 1, 0, none⟩ y0).setCell ⟨w.heap.size + 1, 1, none⟩ y1).setCell ⟨w.heap.size + 1, 2, none⟩ y2).setCell ⟨w.heap.size + 1, 3, none⟩ y3).setCell ⟨w.heap.size + 1, 4, none⟩ y4
theorem wset_below {w w5 : World} {y0 y1 y2 y3 y4 : Value} (h : Below w.heap.size w w5) : Below w.heap.size w (wset w w5 y0 y1 y2 y3 y4) :=
 ((((h.setCell (Nat.le_succ _) _).setCell (Nat.le_succ _) _).setCell (Nat.le_succ _) _).setCell (Nat.le_succ _) _).setCell (Nat.le_succ _) _
end Go.Proofs.YtlolgfgcgfjdjaaGreatDoor
