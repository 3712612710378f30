/- What is proved here: parts of the proofs of the laws of layer 10. -/
import Derived.Test.YthncoigjfhmldaaGreatS3
import Derived.Test.YthncoigjfhmldaaGreatS8
import Derived.Test.YthncoigjfhmldaaGreatS9
namespace Go.Proofs.YthncoigjfhmldaaGreat
open Go.RowKit
set_option linter.unusedVariables false
set_option linter.unusedSimpArgs false
set_option maxHeartbeats 400000
set_option maxRecDepth 100000
structure RightS (m : Int) (s : Sc) : Prop where
 r1 : 1 ≤ s.rows
 r2 : s.rows ≤ 1000
 c1 : 1 ≤ s.cols
 c2 : s.cols ≤ 1000
 cells : CellsR s.cells s.rows.toNat s.cols.toNat
 y0 : 0 ≤ s.y
 y1 : s.y < s.rows
 x0 : 0 ≤ s.x
 x1 : s.x < s.cols
 sy0 : 0 ≤ s.sy
 sy1 : s.sy < s.rows
 sx0 : 0 ≤ s.sx
 sx1 : s.sx < s.cols
 oy0 : 0 ≤ s.oy
 oy1 : s.oy < s.rows
 ox0 : 0 ≤ s.ox
 ox1 : s.ox < s.cols
 wrap : s.wrap = true → s.x = s.cols - 1
 attr : attrB s.attr = true
 sattr : attrB s.sattr = true
 tabs : (s.tabs.length : Int) = s.cols
 p : RightP m s.p.priv s.p.params s.p.inter s.p.utf
 t0 : 0 ≤ s.top
 b1 : s.bottom < s.rows
 tb : s.top < s.bottom ∨ (s.rows = 1 ∧ s.top = 0 ∧ s.bottom = 0)
 other : s.alt = true → CellsR s.other s.rows.toNat s.cols.toNat
 noAlt : s.alt = false → s.other.length = 0 ∧ s.oy = 0 ∧ s.ox = 0
structure FitS (m : Int) (s : Sc) : Prop where
 m0 : -9223372036854775808 ≤ m
 m1 : m ≤ 9223372036854775807
 cells : ∀ x ∈ s.cells, CellFit x
 other : ∀ x ∈ s.other, CellFit x
 nc : s.cells.length ≤ 1048576
 no : s.other.length ≤ 1048576
 nt : s.tabs.length ≤ 1048576
 nu : s.p.utf.length ≤ 1048576
 pv : s.p.priv < 256
def RightSPost (m : Int) (s : Sc) (w : World) (e : Ending) (w' : World) : Prop := ∃ b, e = .returned (.bool b) ∧ (b = true ↔ RightS m s) ∧ Below w.heap.size w w'
theorem rightS_no {m : Int} {s : Sc} {w w' : World} (h : ¬ RightS m s) (hb : Below w.heap.size w w') : RightSPost m s w (.returned (.bool false)) w' := ⟨false, rfl, by simp [h], hb⟩
theorem rightS_of {m : Int} {s : Sc} {r c : Nat} (hr : s.rows = r) (hc : s.cols = c) (r1 : 1 ≤ r) (r2 : r ≤ 1000) (c1 : 1 ≤ c) (c2 : c ≤ 1000) (hcr : CellsR s.cells r c) (h4 : (0 ≤ s.y ∧ s.y < r) ∧ (0 ≤ s.x ∧ s.x < c) ∧ (0 ≤ s.sy ∧ s.sy < r) ∧ (0 ≤ s.sx ∧ s.sx < c) ∧ (0 ≤ s.oy ∧ s.oy < r) ∧ (0 ≤ s.ox ∧ s.ox < c))
  (hw : s.wrap = true → s.x = (c : Int) - 1) (ha : attrB s.attr = true) (ha2 : attrB s.sattr = true) (ht : (s.tabs.length : Int) = c) (hp : RightP m s.p.priv s.p.params s.p.inter s.p.utf) (htb : 0 ≤ s.top ∧ s.bottom < r) (hv : s.top < s.bottom ∨ ((r : Int) = 1 ∧ s.top = 0 ∧ s.bottom = 0))
  (ho : s.alt = true → CellsR s.other r c) (hn : s.alt = false → s.other.length = 0 ∧ s.oy = 0 ∧ s.ox = 0) : RightS m s := by
 have er : s.rows.toNat = r := by omega
 have ec : s.cols.toNat = c := by omega
 obtain ⟨⟨h1, h2⟩, ⟨h3, h5⟩, ⟨h6, h7⟩, ⟨h8, h9⟩, ⟨h10, h11⟩, ⟨h12, h13⟩⟩ := h4
 constructor
 case cells => rw [er, ec]; exact hcr
 case other => rw [er, ec]; exact ho
 case noAlt => exact hn
 case attr => exact ha
 case sattr => exact ha2
 case p => exact hp
 case wrap => rw [hc]; exact hw
 case tabs => rw [hc]; exact ht
 case tb => rw [hr]; exact hv
 all_goals omega
end Go.Proofs.YthncoigjfhmldaaGreat
