/- What is proved here: plain facts on the document's screen: what holds of each screen stays behind each act; no program is named. -/
import Derived.Test.YtlolgfgcgfjdjaaGreatDoorS2
namespace Go.Proofs.YtlolgfgcgfjdjaaGreatDoor
set_option linter.unusedVariables false
set_option linter.unusedSimpArgs false
set_option maxHeartbeats 400000
set_option maxRecDepth 100000
theorem blankC_ok : cellB blankC = true := by decide
theorem getC_ok {l : List Cl} (h : ∀ x ∈ l, cellB x = true) (i : Nat) : cellB (getC l i) = true := by
 unfold getC List.getD
 cases hx : l[i]? with
 | none => exact blankC_ok
 | some x => exact h x (List.mem_of_getElem? hx)
theorem fill_ok {l : List Cl} {f : Nat → Cl} {lo hi : Nat} (h : ∀ x ∈ l, cellB x = true) (hf : ∀ i, cellB (f i) = true) : ∀ x ∈ fillL l f lo hi, cellB x = true := by
 intro x hx
 obtain ⟨i, hi2⟩ := List.mem_iff_getElem?.1 hx
 rw [fillL_get] at hi2
 split at hi2
 ·split at hi2
  ·injection hi2 with e; rw [← e]; exact hf i
  ·exact h x (List.mem_of_getElem? hi2)
 ·cases hi2
theorem upL_ok {l : List Cl} (h : ∀ x ∈ l, cellB x = true) (cols top bottom n : Int) : ∀ x ∈ upL l cols top bottom n, cellB x = true := by
 unfold upL
 split
 ·refine fill_ok h (fun i => ?_)
  unfold upF
  split
  ·exact getC_ok h _
  ·exact blankC_ok
 ·exact h
theorem downL_ok {l : List Cl} (h : ∀ x ∈ l, cellB x = true) (cols top bottom n : Int) : ∀ x ∈ downL l cols top bottom n, cellB x = true := by
 unfold downL
 split
 ·refine fill_ok h (fun i => ?_)
  unfold downF
  split
  ·exact getC_ok h _
  ·exact blankC_ok
 ·exact h
theorem mendL_ok {l : List Cl} (h : ∀ x ∈ l, cellB x = true) (cols y : Int) : ∀ x ∈ mendL l cols y, cellB x = true := by
 unfold mendL
 split
 ·refine fill_ok h (fun i => ?_)
  unfold mendF
  split
  ·exact blankC_ok
  ·exact getC_ok h _
 ·exact h
theorem insertL_ok {l : List Cl} (h : ∀ x ∈ l, cellB x = true) (cols y x n : Int) : ∀ c ∈ insertL l cols y x n, cellB c = true := by
 unfold insertL
 split
 ·refine mendL_ok (fill_ok h (fun i => ?_)) _ _
  unfold insF
  split
  ·exact getC_ok h _
  ·exact blankC_ok
 ·exact h
theorem deleteL_ok {l : List Cl} (h : ∀ x ∈ l, cellB x = true) (cols y x n : Int) : ∀ c ∈ deleteL l cols y x n, cellB c = true := by
 unfold deleteL
 split
 ·refine mendL_ok (fill_ok h (fun i => ?_)) _ _
  unfold delF
  split
  ·exact getC_ok h _
  ·exact blankC_ok
 ·exact h
theorem eraseL_ok {l : List Cl} (h : ∀ x ∈ l, cellB x = true) (cols y fr til : Int) : ∀ c ∈ eraseL l cols y fr til, cellB c = true := by
 unfold eraseL
 split
 ·exact mendL_ok (fill_ok h (fun i => blankC_ok)) _ _
 ·exact h
theorem blankL_ok (rows cols : Int) : ∀ c ∈ blankL rows cols, cellB c = true := by
 unfold blankL
 split
 ·intro c hc; rw [List.eq_of_mem_replicate hc]; exact blankC_ok
 ·intro c hc; cases hc
theorem ScIn.cells_ {s : Sc} {r c : Nat} (h : ScIn s r c) (l : List Cl) (hl : l.length = s.cells.length) (ho : ∀ x ∈ l, cellB x = true) : ScIn { s with cells := l } r c :=
 { h with g := (by show GOk l.length r c; rw [hl]; exact h.g), cells := ho }
theorem ScIn.noWrap {s : Sc} {r c : Nat} (h : ScIn s r c) : ScIn { s with wrap := false } r c := { h with wrap := (fun e => by cases e) }
theorem ScIn.at_ {s : Sc} {r c : Nat} (h : ScIn s r c) (y x : Int) (y0 : 0 ≤ y) (y1 : y < r) (x0 : 0 ≤ x) (x1 : x < c) : ScIn { s with wrap := false, y := y, x := x } r c :=
 { h with wrap := (fun e => by cases e), y0 := y0, y1 := y1, x0 := x0, x1 := x1 }
theorem downS_in {s : Sc} {r c : Nat} (h : ScIn s r c) : ScIn (downS s) r c := by
 have e1 := h.rows
 have e2 := h.y0
 have e3 := h.y1
 have e4 := h.x0
 have e5 := h.x1
 unfold downS
 split
 ·exact h.noWrap.cells_ _ (upL_len _ _ _ _ _) (upL_ok h.cells _ _ _ _)
 ·split
  ·exact h.at_ (s.y + 1) s.x (by omega) (by omega) e4 e5
  ·exact h.noWrap
theorem crS_in {s : Sc} {r c : Nat} (h : ScIn s r c) : ScIn (crS s) r c := by
 have hd := downS_in h
 have hc := hd.g.c1
 unfold crS
 have hw : (downS s).wrap = false := by
  unfold downS
  split
  ·rfl
  ·split <;> rfl
 exact { hd with wrap := (fun e => by rw [hw] at e; cases e), x0 := (Int.le_refl _), x1 := (by show (0 : Int) < c; omega) }
end Go.Proofs.YtlolgfgcgfjdjaaGreatDoor
