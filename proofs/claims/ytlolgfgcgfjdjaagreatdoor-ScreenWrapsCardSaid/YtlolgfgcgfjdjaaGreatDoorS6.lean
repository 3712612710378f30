/- What is proved here: the contracts of the document's line feed on a screen; the contracts of the document's moves on a screen, of a number of a sequence; the contract of the document's new screen; the contract of the document's escapes on a screen. -/
import Derived.Test.YtlolgfgcgfjdjaaGreatDoorS5
import Derived.Deep.LoopGhost
namespace Go.Proofs.YtlolgfgcgfjdjaaGreatDoor
open Go.RowKit
set_option linter.unusedVariables false
set_option linter.unusedSimpArgs false
set_option maxHeartbeats 400000
set_option maxRecDepth 100000
theorem heap_a1 (w : World) (x y : Obj) : ((w.alloc x).alloc y).heap[w.heap.size]? = some x := by
 show ((w.heap.push x).push y)[w.heap.size]? = some x
 simp [Array.getElem?_push]
theorem heap_a2 (w : World) (x y : Obj) : ((w.alloc x).alloc y).heap[w.heap.size + 1]? = some y := by
 show ((w.heap.push x).push y)[w.heap.size + 1]? = some y
 rw [Array.getElem?_push, if_pos (by simp)]
theorem cellR {w : World} {g : Nat} {xs : Array Value} {t : TypeId} (h : w.heap[g]? = some (.cells xs t)) (i : Nat) {v : Value} (hv : xs[i]? = some v) : w.cell? ⟨g, i, none⟩ = some v ∧ w.frozen? ⟨g, i, none⟩ = false :=
 ⟨by rw [cell_of_row w g i _ t _ h]; exact hv, by simp [World.frozen?, h]⟩
end Go.Proofs.YtlolgfgcgfjdjaaGreatDoor

namespace Go.Proofs.YtlolgfgcgfjdjaaGreatDoor
open Go.RowKit
set_option linter.unusedVariables false
set_option linter.unusedSimpArgs false
set_option maxHeartbeats 400000
set_option maxRecDepth 100000
theorem minmax_if (y m : Int) : (if m < (if y < 0 then 0 else y) then m else (if y < 0 then 0 else y)) = min (max y 0) m := by
 by_cases h : y < 0
 ·simp only [h, if_true]
  split <;> omega
 ·simp only [h, if_false]
  split <;> omega
end Go.Proofs.YtlolgfgcgfjdjaaGreatDoor

namespace Go.Proofs.YtlolgfgcgfjdjaaGreatDoor
open Go.RowKit
set_option linter.unusedVariables false
set_option linter.unusedSimpArgs false
set_option maxHeartbeats 400000
set_option maxRecDepth 100000
def NewPost (s : Sc) (w : World) (e : Ending) (w' : World) : Prop := ∃ v, e = .returned (.tuple #[v, .int .i64 0]) ∧ SCV w' (NewB w' w.heap.size) v s ∧ Below w.heap.size w w'
def tabsUp (c x : Nat) : List Bool := (List.range c).map fun i => decide (i % 8 = 0 ∧ i < x)
theorem tabsUp_zero (c : Nat) : tabsUp c 0 = List.replicate c false := by
 apply List.ext_getElem?
 intro i
 by_cases h : i < c
 ·simp [tabsUp, h]
 ·simp [tabsUp, h]
theorem tabsUp_all (c x : Nat) (h : c ≤ x) : tabsUp c x = newTabs c := by
 apply List.ext_getElem?
 intro i
 by_cases hi : i < c
 ·simp only [tabsUp, newTabs, List.getElem?_map, List.getElem?_range hi, Option.map_some]
  congr 1
  rw [decide_eq_decide]
  constructor
  ·intro ⟨a, b⟩; exact a
  ·intro a; exact ⟨a, by omega⟩
 ·simp [tabsUp, newTabs, hi]
theorem resultS2 {fn : Func} {p q : Tmp} (h : fn.results = #[.cell p 31, .tmp q]) {tmps : Array Value} {w : World} {g : Nat} {xs : Array Value} {u : Value} (ht : tmps.getD p undef = .pointer (some ⟨g, 0, none⟩)) (hu : tmps.getD q undef = u) (hg : w.heap[g]? = some (.cells xs 31)) (hn : xs.size = 24) :
  (results fn tmps).run Tryz.prog w = .ok (.tuple #[.agg xs, u]) w := by
 simp only [results, h]
 have := run_loadVar_row (P := Tryz.prog) w g _ 31 xs (0, 0) _ hg Tryz.underlying31 rfl (by rw [scrSize, hn])
 have ht2 : tmps[p]?.getD undef = .pointer (some ⟨g, 0, none⟩) := by simpa using ht
 have hu2 : tmps[q]?.getD undef = u := by simpa using hu
 simp [ht2, hu2, asAddr, this]
end Go.Proofs.YtlolgfgcgfjdjaaGreatDoor

namespace Go.Proofs.YtlolgfgcgfjdjaaGreatDoor
open Go.RowKit
set_option linter.unusedVariables false
set_option linter.unusedSimpArgs false
set_option maxHeartbeats 400000
set_option maxRecDepth 100000
theorem OT.other {w : World} {base : Nat} {v : Value} {l : List Bool} (h : OT w base v l) (a : Addr) (x : Value) (ha : a.block < base) : OT (w.setCell a x) base v l := by
 unfold OT at h ⊢
 refine World.ownsRow.kept h (row := some a.block) ⟨rfl, rfl, rfl, by simp, fun k _ hk => heap_setCell_other w a k x (fun e => hk (by simp [e]))⟩ ?_
 cases hv : v.ownBlock with
 | none => exact Or.inl rfl
 | some k =>
  have := (World.ownsRow.lt h k hv).1
  refine Or.inr ?_
  simp
  omega
end Go.Proofs.YtlolgfgcgfjdjaaGreatDoor
