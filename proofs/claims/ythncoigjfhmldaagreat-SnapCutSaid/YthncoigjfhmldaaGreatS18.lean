/- What is proved here: parts of the proofs of the laws of layer 10. -/
import Derived.Test.YthncoigjfhmldaaGreatS16
import Derived.Test.YthncoigjfhmldaaGreatS17
import Derived.Test.YthncoigjfhmldaaGreatS9
import Derived.Deep.LoopGhost
import Derived.Test.YthncoigjfhmldaaGreatS14
import Derived.Test.YthncoigjfhmldaaGreatS2
import Derived.Laws.CopyRow
import Derived.Laws.IdiomCopy
import Derived.Test.YthncoigjfhmldaaGreatS3
namespace Go.Proofs.YthncoigjfhmldaaGreat
open Go.RowKit
set_option linter.unusedVariables false
set_option linter.unusedSimpArgs false
set_option maxHeartbeats 2000000
set_option maxRecDepth 100000
theorem GOk.mk' {r c : Nat} (r1 : 1 ≤ r) (r2 : r ≤ 1000) (c1 : 1 ≤ c) (c2 : c ≤ 1000) : GOk (r * c) r c := ⟨c1, c2, r1, r2, rfl⟩
theorem blankL_len (r c : Nat) (r1 : 1 ≤ r) (r2 : r ≤ 1000) (c1 : 1 ≤ c) (c2 : c ≤ 1000) : (blankL (r : Int) (c : Int)).length = r * c := by
 unfold blankL
 rw [if_pos (by unfold sizeOk; rw [decide_eq_true_eq]; omega)]
 simp
theorem newS_in (r c : Nat) (r1 : 1 ≤ r) (r2 : r ≤ 1000) (c1 : 1 ≤ c) (c2 : c ≤ 1000) : ScIn (newS r c) r c where
 rows := rfl
 cols := rfl
 g := by show GOk (blankL (r : Int) (c : Int)).length r c; rw [blankL_len r c r1 r2 c1 c2]; exact GOk.mk' r1 r2 c1 c2
 cells := blankL_ok _ _
 y0 := Int.le_refl _
 y1 := by show (0 : Int) < r; omega
 x0 := Int.le_refl _
 x1 := by show (0 : Int) < c; omega
 wrap := fun e => by cases e
 attr := (by show attrB 0 = true; decide)
 t0 := Int.le_refl _
 t1 := by show (0 : Int) ≤ (r : Int) - 1; omega
 b1 := by show (r : Int) - 1 < r; omega
 tb := by show (0 : Int) < (r : Int) - 1 ∨ r = 1; omega
 tabs := by show (newTabs (c : Int).toNat).length = c; simp [newTabs]
 sy0 := Int.le_refl _
 sy1 := by show (0 : Int) < r; omega
 sx0 := Int.le_refl _
 sx1 := by show (0 : Int) < c; omega
 sattr := (by show attrB 0 = true; decide)
 other := fun e => by cases e
 noAlt := fun _ => ⟨rfl, rfl, rfl⟩
 oy0 := Int.le_refl _
 oy1 := by show (0 : Int) < r; omega
 ox0 := Int.le_refl _
 ox1 := by show (0 : Int) < c; omega
 p := prM_ok 0 (by omega) (by omega) (by omega)
theorem toS_in {s : Sc} {r c : Nat} (h : ScIn s r c) (y x : Int) : ScIn (toS s y x) r c := by
 have e1 := h.rows
 have e2 := h.cols
 have e3 := h.g.r1
 have e4 := h.g.c1
 exact h.at_ _ _ (by omega) (by omega) (by omega) (by omega)
theorem tabX_bd {s : Sc} {r c : Nat} (h : ScIn s r c) : 0 ≤ tabX s ∧ tabX s < c := by
 have e2 := h.cols
 have e4 := h.g.c1
 unfold tabX
 omega
theorem controlS_in {s : Sc} {r c : Nat} (h : ScIn s r c) (b : Nat) : ScIn (controlS s b) r c := by
 have x0 := h.x0
 have x1 := h.x1
 have y0 := h.y0
 have y1 := h.y1
 have c1 := h.g.c1
 have ht := tabX_bd h
 unfold controlS
 split
 ·exact { h with wrap := (fun e => by cases e), x0 := (by show 0 ≤ max (s.x - 1) 0; omega), x1 := (by show max (s.x - 1) 0 < (c : Int); omega) }
 split
 ·exact { h with wrap := (fun e => by cases e), x0 := ht.1, x1 := ht.2 }
 split
 ·exact downS_in h
 split
 ·exact { h with wrap := (fun e => by cases e), x0 := Int.le_refl _, x1 := (by show (0 : Int) < c; omega) }
 ·exact h
theorem escapeS_in {s : Sc} {r c : Nat} (h : ScIn s r c) (b : Nat) : ScIn (escapeS s b) r c := by
 have y0 := h.y0
 have y1 := h.y1
 unfold escapeS
 split
 ·exact { h with sy0 := h.y0, sy1 := h.y1, sx0 := h.x0, sx1 := h.x1, sattr := h.attr }
 split
 ·exact { h with wrap := (fun e => by cases e), y0 := h.sy0, y1 := h.sy1, x0 := h.sx0, x1 := h.sx1, attr := h.sattr }
 split
 ·exact downS_in h
 split
 ·exact crS_in h
 split
 ·split
  ·exact h.noWrap.cells_ _ (downL_len _ _ _ _ _) (downL_ok h.cells _ _ _ _)
  ·split
   ·exact { h with wrap := (fun e => by cases e), y0 := (by show 0 ≤ s.y - 1; omega), y1 := (by show s.y - 1 < (r : Int); omega) }
   ·exact h.noWrap
 split
 ·exact { h with tabs := (by show (s.tabs.set s.x.toNat true).length = c; rw [List.length_set]; exact h.tabs) }
 split
 ·rw [h.rows, h.cols]
  exact newS_in r c h.g.r1 h.g.r2 h.g.c1 h.g.c2
 ·exact h
theorem modeS_in {s : Sc} {r c : Nat} (h : ScIn s r c) (k : Int) (on : Bool) : ScIn (modeS s k on) r c := by
 have e3 := h.g.r1
 have e4 := h.g.c1
 unfold modeS
 split
 ·exact { h with }
 split
 ·exact { h with }
 split
 ·have hb : (blankL s.rows s.cols).length = r * c := by rw [h.rows, h.cols]; exact blankL_len r c h.g.r1 h.g.r2 h.g.c1 h.g.c2
  exact { h with g := (by show GOk (blankL s.rows s.cols).length r c; rw [hb]; exact GOk.mk' h.g.r1 h.g.r2 h.g.c1 h.g.c2), cells := blankL_ok _ _, wrap := (fun e => by cases e), other := (fun _ => ⟨h.g, h.cells⟩), noAlt := (fun e => by cases e), oy0 := h.y0, oy1 := h.y1, ox0 := h.x0, ox1 := h.x1 }
 split
 ·rename_i hc
  have ho := h.other hc.2.2
  exact { h with g := ho.1, cells := ho.2, y0 := h.oy0, y1 := h.oy1, x0 := h.ox0, x1 := h.ox1, wrap := (fun e => by cases e), other := (fun e => by cases e), noAlt := (fun _ => ⟨rfl, rfl, rfl⟩), oy0 := Int.le_refl _, oy1 := (by show (0 : Int) < r; omega), ox0 := Int.le_refl _, ox1 := (by show (0 : Int) < c; omega) }
 ·exact h
theorem eraseS_in {s : Sc} {r c : Nat} (h : ScIn s r c) (row : Bool) (k : Int) : ScIn (eraseS s row k) r c := by
 unfold eraseS
 split
 ·exact h.noWrap
 ·exact h.noWrap.cells_ _ (by rw [mendL_len, fillL_len]) (mendL_ok (fill_ok h.cells (fun _ => blankC_ok)) _ _)
theorem foldl_look_ok (l : List Int) (a : Nat) (h : attrB a = true) : attrB (l.foldl lookN a) = true := by
 induction l generalizing a with
 | nil => exact h
 | cons x l ih => exact ih _ (lookN_ok a x h)
theorem paramL_one (l : List Int) (h : ∀ x ∈ l, 0 ≤ x ∧ x ≤ 65535) : 1 ≤ paramL l 0 1 := by
 unfold paramL
 split
 ·exact Int.le_refl _
 ·rename_i hne
  have hm : 0 ≤ l.getD 0 0 := by
   unfold List.getD
   cases hx : l[0]? with
   | none => exact Int.le_refl _
   | some x => exact (h x (List.mem_of_getElem? hx)).1
  omega
theorem seqS_in {s : Sc} {r c : Nat} (h : ScIn s r c) (b : Nat) (l : List Int) (hl : ∀ x ∈ l, 0 ≤ x ∧ x ≤ 65535) : ScIn (seqS s b l) r c := by
 have n1 := paramL_one l hl
 have rr := h.rows
 have c1 := h.g.c1
 have x0 := h.x0
 unfold seqS
 dsimp only
 by_cases c101 : b = 65
 ·rw [if_pos c101]
  exact toS_in h _ _
 rw [if_neg c101]
 by_cases c102 : b = 66
 ·rw [if_pos c102]
  exact toS_in h _ _
 rw [if_neg c102]
 by_cases c103 : b = 67
 ·rw [if_pos c103]
  exact toS_in h _ _
 rw [if_neg c103]
 by_cases c104 : b = 68
 ·rw [if_pos c104]
  exact toS_in h _ _
 rw [if_neg c104]
 by_cases c105 : b = 71 ∨ b = 96
 ·rw [if_pos c105]
  exact toS_in h _ _
 rw [if_neg c105]
 by_cases c106 : b = 100
 ·rw [if_pos c106]
  exact toS_in h _ _
 rw [if_neg c106]
 by_cases c107 : b = 72 ∨ b = 102
 ·rw [if_pos c107]
  exact toS_in h _ _
 rw [if_neg c107]
 by_cases c108 : b = 74
 ·rw [if_pos c108]
  exact eraseS_in h _ _
 rw [if_neg c108]
 by_cases c109 : b = 75
 ·rw [if_pos c109]
  exact eraseS_in h _ _
 rw [if_neg c109]
 by_cases c110 : b = 76
 ·rw [if_pos c110]
  by_cases hy : s.top ≤ s.y ∧ s.y ≤ s.bottom
  ·rw [if_pos hy]
   exact { h.cells_ _ (downL_len s.cells s.cols s.y s.bottom (paramL l 0 1)) (downL_ok h.cells _ _ _ _) with wrap := (fun e => by cases e), x0 := Int.le_refl _, x1 := (by show (0 : Int) < c; omega) }
  ·rw [if_neg hy]; exact h.noWrap
 rw [if_neg c110]
 by_cases c111 : b = 77
 ·rw [if_pos c111]
  by_cases hy : s.top ≤ s.y ∧ s.y ≤ s.bottom
  ·rw [if_pos hy]
   exact { h.cells_ _ (upL_len s.cells s.cols s.y s.bottom (paramL l 0 1)) (upL_ok h.cells _ _ _ _) with wrap := (fun e => by cases e), x0 := Int.le_refl _, x1 := (by show (0 : Int) < c; omega) }
  ·rw [if_neg hy]; exact h.noWrap
 rw [if_neg c111]
 by_cases c112 : b = 64
 ·rw [if_pos c112]
  exact h.noWrap.cells_ _ (insertL_len _ _ _ _ _) (insertL_ok h.cells _ _ _ _)
 rw [if_neg c112]
 by_cases c113 : b = 80
 ·rw [if_pos c113]
  exact h.noWrap.cells_ _ (deleteL_len _ _ _ _ _) (deleteL_ok h.cells _ _ _ _)
 rw [if_neg c113]
 by_cases c114 : b = 88
 ·rw [if_pos c114]
  exact h.noWrap.cells_ _ (eraseL_len _ _ _ _ _) (eraseL_ok h.cells _ _ _ _)
 rw [if_neg c114]
 by_cases c115 : b = 83
 ·rw [if_pos c115]
  exact h.noWrap.cells_ _ (upL_len _ _ _ _ _) (upL_ok h.cells _ _ _ _)
 rw [if_neg c115]
 by_cases c116 : b = 84
 ·rw [if_pos c116]
  exact h.noWrap.cells_ _ (downL_len _ _ _ _ _) (downL_ok h.cells _ _ _ _)
 rw [if_neg c116]
 by_cases c117 : b = 114
 ·rw [if_pos c117]
  by_cases hc : paramL l 0 1 - 1 < min (paramL l 1 s.rows) s.rows - 1
  ·rw [if_pos hc]
   have ht := toS_in h 0 0
   exact { ht with t0 := (by show 0 ≤ paramL l 0 1 - 1; omega), t1 := (by show paramL l 0 1 - 1 ≤ min (paramL l 1 s.rows) s.rows - 1; omega), b1 := (by show min (paramL l 1 s.rows) s.rows - 1 < (r : Int); omega), tb := (.inl hc) }
  ·rw [if_neg hc]; exact h
 rw [if_neg c117]
 by_cases c118 : b = 103
 ·rw [if_pos c118]
  by_cases g0 : paramL l 0 0 = 0
  ·rw [if_pos g0]
   exact { h with tabs := (by show (s.tabs.set s.x.toNat false).length = c; rw [List.length_set]; exact h.tabs) }
  rw [if_neg g0]
  by_cases g3 : paramL l 0 0 = 3
  ·rw [if_pos g3]
   exact { h with tabs := (by show (List.replicate s.cols.toNat false).length = c; rw [List.length_replicate, h.cols]; simp) }
  rw [if_neg g3]
  exact h
 rw [if_neg c118]
 by_cases c119 : b = 109
 ·rw [if_pos c119]
  refine { h with attr := ?_ }
  show attrB (if l.length = 0 then 0 else l.foldl lookN s.attr) = true
  by_cases hl0 : l.length = 0
  ·rw [if_pos hl0]; decide
  ·rw [if_neg hl0]; exact foldl_look_ok l s.attr h.attr
 rw [if_neg c119]
 exact h
theorem set_ok {l : List Cl} (h : ∀ x ∈ l, cellB x = true) (i : Nat) (c : Cl) (hc : cellB c = true) : ∀ x ∈ l.set i c, cellB x = true := fun x hx => by
 rcases List.mem_or_eq_of_mem_set hx with h1 | h1
 ·exact h x h1
 ·rw [h1]; exact hc
theorem putS_in {s : Sc} {r c : Nat} (h : ScIn s r c) (rn : Int) (w : Int) (hw : w = 1 ∨ (w = 2 ∧ s.x + 1 < s.cols)) (hr : mayR rn = true) (hr0 : rn ≠ 0) : ScIn (putS s rn w) r c := by
 have x0 := h.x0
 have x1 := h.x1
 have e2 := h.cols
 have c1 := h.g.c1
 have ha := h.attr
 have hc1 : ∀ x ∈ cells1 s rn, cellB x = true := set_ok h.cells _ _ (by unfold cellB; simp [hr, ha, hr0])
 have hc2 : ∀ x ∈ cells2 s rn, cellB x = true := set_ok (set_ok h.cells _ _ (by unfold cellB; simp [hr, ha, hr0])) _ _ (by unfold cellB; simp [ha]; decide)
 have hl1 : (cells1 s rn).length = s.cells.length := by simp [cells1]
 have hl2 : (cells2 s rn).length = s.cells.length := by simp [cells2]
 have hcs : ScIn { s with cells := mendL (if w = 2 then cells2 s rn else cells1 s rn) s.cols s.y } r c := by
  by_cases h2 : w = 2
  ·rw [if_pos h2]; exact h.cells_ _ (by rw [mendL_len, hl2]) (mendL_ok hc2 _ _)
  ·rw [if_neg h2]; exact h.cells_ _ (by rw [mendL_len, hl1]) (mendL_ok hc1 _ _)
 unfold putS
 by_cases he : s.cols ≤ s.x + w
 ·rw [if_pos he]
  exact { hcs with wrap := (fun _ => by show s.cols - 1 = (c : Int) - 1; omega), x0 := (by show 0 ≤ s.cols - 1; omega), x1 := (by show s.cols - 1 < (c : Int); omega) }
 ·rw [if_neg he]
  have hnw : s.wrap = true → False := fun e => by have := h.wrap e; omega
  exact { hcs with wrap := (fun e => (hnw e).elim), x0 := (by show 0 ≤ s.x + w; omega), x1 := (by show s.x + w < (c : Int); omega) }
theorem minmax_if (y m : Int) : (if m < (if y < 0 then 0 else y) then m else (if y < 0 then 0 else y)) = min (max y 0) m := by
 by_cases h : y < 0
 ·simp only [h, if_true]
  split <;> omega
 ·simp only [h, if_false]
  split <;> omega
theorem tor_any (v : Value) (s : Sc) (y x : Int) (S : Nat → Prop) (w : World) (hS : ∀ x, S x → x < w.heap.size) (h : SCV w S v s) (hr1 : 1 ≤ s.rows) (hr2 : s.rows ≤ 1000) (hc1 : 1 ≤ s.cols) (hc2 : s.cols ≤ 1000) : Calls Tryz.prog 102 #[v, .int .i64 y, .int .i64 x] w (ScPost S (toS s y x) w) := by
 have HSS := Lib.hid hS
 clear hS
 obtain ⟨vc, vt, vo, vp, vi, vu, rfl, hs⟩ := h
 have HS := Lib.hid hs
 obtain ⟨g1, g2, g3, g4, g5, g6⟩ := hs
 obtain ⟨A1, k1, rfl, p1, q1⟩ := g1.form
 obtain ⟨A2, k2, rfl, p2, q2⟩ := g2.form
 obtain ⟨A3, k3, rfl, p3, q3⟩ := g3.form
 obtain ⟨A4, k4, rfl, p4, q4⟩ := g4.form
 obtain ⟨A5, k5, rfl, p5, q5⟩ := g5.form
 obtain ⟨A6, k6, rfl, p6, q6⟩ := g6.form
 clear g1 g2 g3 g4 g5 g6
 unfold toS
 go_enter Tryz.func102, Tryz.ntmps102
 go_upto_region 2 with fail
 rw [minmax_if, minmax_if]
 generalize (if y < 0 then 0 else y) = qy
 generalize (if x < 0 then 0 else x) = qx
 refine wp_region_lit ?_
 refine wpl_loadS rfl (.tmp 3) rfl rfl (heap_a1 w _ _) rfl ?_
 refine wpl_storeS rfl (.tmp 6) (.tmp 22) rfl rfl rfl (heap_a2 w _ _) rfl rfl all25 ?_
 go_wp2
 refine scEnd (w.heap.size + 1) 6 Tryz.results102 ?_ ?_ (heap_a2 w _ _) (by omega) (two_new w _ _).1 HSS.out (HS.out.like ?_ ?_ ?_ ?_)
 all_goals rfl
theorem paramr_any (v : Value) (l : List Int) (i : Nat) (u : Int) (S : Nat → Prop) (w : World) (h : SL vI w S v l) (hl : l.length ≤ 1048576) (hi : i < 1000) : Calls Tryz.prog 101 #[v, .int .i64 (i : Int), .int .i64 u] w fun e w' => e = .returned (.int .i64 (paramL l i u)) ∧ w = w' := by
 obtain ⟨A, c, rfl, h1, h2⟩ := h.form
 have H := Lib.hid h
 clear h
 by_cases hlt : i < l.length
 ·obtain ⟨x, hx⟩ : ∃ x, l[i]? = some x := ⟨_, List.getElem?_eq_getElem hlt⟩
  have hg : l.getD i 0 = x := by simp [List.getD, hx]
  obtain ⟨A', c', hv, _, _, h3⟩ := H.out
  simp only [Value.slice.injEq] at hv
  obtain ⟨ad, hA, _, hcell⟩ := h3 (by omega)
  have e1 := hcell i x hx
  rw [← hv.1] at hA
  subst hA
  unfold vI at e1
  have HG := Lib.hid hg
  clear hcell hg hx hv h3
  by_cases hz : x = 0
  ·subst hz
   go_enter Tryz.func101, Tryz.ntmps101
   go_wp2
   go_ret
   exact ⟨by unfold paramL; rw [HG.out]; rfl, rfl⟩
  ·have hz1 : (x == 0) = false := by simpa using hz
   go_enter Tryz.func101, Tryz.ntmps101
   go_wp2
   go_ret
   exact ⟨by unfold paramL; rw [HG.out, if_neg hz]; rfl, rfl⟩
 ·have hg : l.getD i 0 = 0 := by simp [List.getD, List.getElem?_eq_none (show l.length ≤ i by omega)]
  have HG := Lib.hid hg
  clear hg
  go_enter Tryz.func101, Tryz.ntmps101
  go_wp2
  go_ret
  exact ⟨by unfold paramL; rw [HG.out]; rfl, rfl⟩
theorem Blank_any (rows cols : Int) (w : World) (h : sizeOk rows cols = true) : Calls Tryz.prog 40 #[.int .i64 rows, .int .i64 cols] w (CellsPost (blankL rows cols) w) := by
 unfold blankL
 rw [if_pos h]
 unfold sizeOk at h
 rw [decide_eq_true_eq] at h
 obtain ⟨r, rfl⟩ : ∃ r : Nat, rows = r := ⟨rows.toNat, by omega⟩
 obtain ⟨c, rfl⟩ : ∃ c : Nat, cols = c := ⟨cols.toNat, by omega⟩
 simp only [Int.toNat_natCast]
 exact Blank_yes r c w (by omega) (by omega) (by omega) (by omega)
theorem sizeOk_mk {rows cols : Int} (h1 : 1 ≤ rows) (h2 : rows ≤ 1000) (h3 : 1 ≤ cols) (h4 : cols ≤ 1000) : sizeOk rows cols = true := by
 unfold sizeOk
 rw [decide_eq_true_eq]
 exact ⟨h1, h2, h3, h4⟩
theorem moder_7 (v : Value) (s : Sc) (k : Int) (on : Bool) (S : Nat → Prop) (w : World) (hS : ∀ x, S x → x < w.heap.size) (h : SCV w S v s) (hk : k = 7) : Calls Tryz.prog 75 #[v, .int .i64 k, .bool on] w (ScPost S { s with auto := on } w) := by
 have HSS := Lib.hid hS
 clear hS
 obtain ⟨vc, vt, vo, vp, vi, vu, rfl, hs⟩ := h
 have HS := Lib.hid hs
 obtain ⟨g1, g2, g3, g4, g5, g6⟩ := hs
 obtain ⟨A1, k1, rfl, p1, q1⟩ := g1.form
 obtain ⟨A2, k2, rfl, p2, q2⟩ := g2.form
 obtain ⟨A3, k3, rfl, p3, q3⟩ := g3.form
 obtain ⟨A4, k4, rfl, p4, q4⟩ := g4.form
 obtain ⟨A5, k5, rfl, p5, q5⟩ := g5.form
 obtain ⟨A6, k6, rfl, p6, q6⟩ := g6.form
 clear g1 g2 g3 g4 g5 g6
 subst hk
 go_enter Tryz.func75, Tryz.ntmps75
 go_upto_region 11 with fail
 refine wp_region_lit ?_
 refine wpl_loadS rfl (.tmp 3) rfl rfl (heap_a1 w _ _) rfl ?_
 refine wpl_storeS rfl (.tmp 6) (.tmp 70) rfl rfl rfl (heap_a2 w _ _) rfl rfl all25 ?_
 go_wp2
 refine scEnd (w.heap.size + 1) 6 Tryz.results75 ?_ ?_ (heap_a2 w _ _) (by omega) (two_new w _ _).1 HSS.out (HS.out.like ?_ ?_ ?_ ?_)
 all_goals rfl
theorem moder_25 (v : Value) (s : Sc) (k : Int) (on : Bool) (S : Nat → Prop) (w : World) (hS : ∀ x, S x → x < w.heap.size) (h : SCV w S v s) (hk : k = 25) : Calls Tryz.prog 75 #[v, .int .i64 k, .bool on] w (ScPost S { s with shown := on } w) := by
 have HSS := Lib.hid hS
 clear hS
 obtain ⟨vc, vt, vo, vp, vi, vu, rfl, hs⟩ := h
 have HS := Lib.hid hs
 obtain ⟨g1, g2, g3, g4, g5, g6⟩ := hs
 obtain ⟨A1, k1, rfl, p1, q1⟩ := g1.form
 obtain ⟨A2, k2, rfl, p2, q2⟩ := g2.form
 obtain ⟨A3, k3, rfl, p3, q3⟩ := g3.form
 obtain ⟨A4, k4, rfl, p4, q4⟩ := g4.form
 obtain ⟨A5, k5, rfl, p5, q5⟩ := g5.form
 obtain ⟨A6, k6, rfl, p6, q6⟩ := g6.form
 clear g1 g2 g3 g4 g5 g6
 subst hk
 go_enter Tryz.func75, Tryz.ntmps75
 go_upto_region 11 with fail
 refine wp_region_lit ?_
 refine wpl_loadS rfl (.tmp 3) rfl rfl (heap_a1 w _ _) rfl ?_
 refine wpl_storeS rfl (.tmp 6) (.tmp 70) rfl rfl rfl (heap_a2 w _ _) rfl rfl all25 ?_
 go_wp2
 refine scEnd (w.heap.size + 1) 6 Tryz.results75 ?_ ?_ (heap_a2 w _ _) (by omega) (two_new w _ _).1 HSS.out (HS.out.like ?_ ?_ ?_ ?_)
 all_goals rfl
theorem moder_no (v : Value) (s : Sc) (k : Int) (on : Bool) (S : Nat → Prop) (w : World) (hS : ∀ x, S x → x < w.heap.size) (h : SCV w S v s) (k7 : ¬ k = 7) (k25 : ¬ k = 25) (k1049 : ¬ k = 1049) : Calls Tryz.prog 75 #[v, .int .i64 k, .bool on] w (ScPost S s w) := by
 have HSS := Lib.hid hS
 clear hS
 obtain ⟨vc, vt, vo, vp, vi, vu, rfl, hs⟩ := h
 have HS := Lib.hid hs
 obtain ⟨g1, g2, g3, g4, g5, g6⟩ := hs
 obtain ⟨A1, k1, rfl, p1, q1⟩ := g1.form
 obtain ⟨A2, k2, rfl, p2, q2⟩ := g2.form
 obtain ⟨A3, k3, rfl, p3, q3⟩ := g3.form
 obtain ⟨A4, k4, rfl, p4, q4⟩ := g4.form
 obtain ⟨A5, k5, rfl, p5, q5⟩ := g5.form
 obtain ⟨A6, k6, rfl, p6, q6⟩ := g6.form
 clear g1 g2 g3 g4 g5 g6
 have n1 : (k == 7) = false := by simpa using k7
 have n2 : (k == 25) = false := by simpa using k25
 have n3 : (k == 1049) = false := by simpa using k1049
 go_enter Tryz.func75, Tryz.ntmps75
 go_upto_region 11 with fail
 refine wp_region_lit ?_
 refine wpl_loadS rfl (.tmp 3) rfl rfl (heap_a1 w _ _) rfl ?_
 refine wpl_storeS rfl (.tmp 6) (.tmp 70) rfl rfl rfl (heap_a2 w _ _) rfl rfl all25 ?_
 go_wp2
 refine scEnd (w.heap.size + 1) 6 Tryz.results75 ?_ ?_ (heap_a2 w _ _) (by omega) (two_new w _ _).1 HSS.out (HS.out.like ?_ ?_ ?_ ?_)
 all_goals rfl
theorem moder_same_true (v : Value) (s : Sc) (k : Int) (on : Bool) (S : Nat → Prop) (w : World) (hS : ∀ x, S x → x < w.heap.size) (h : SCV w S v s) (hk : k = 1049) (ho : on = true) (ha : s.alt = true) : Calls Tryz.prog 75 #[v, .int .i64 k, .bool on] w (ScPost S s w) := by
 have HSS := Lib.hid hS
 clear hS
 obtain ⟨vc, vt, vo, vp, vi, vu, rfl, hs⟩ := h
 have HS := Lib.hid hs
 obtain ⟨g1, g2, g3, g4, g5, g6⟩ := hs
 obtain ⟨A1, k1, rfl, p1, q1⟩ := g1.form
 obtain ⟨A2, k2, rfl, p2, q2⟩ := g2.form
 obtain ⟨A3, k3, rfl, p3, q3⟩ := g3.form
 obtain ⟨A4, k4, rfl, p4, q4⟩ := g4.form
 obtain ⟨A5, k5, rfl, p5, q5⟩ := g5.form
 obtain ⟨A6, k6, rfl, p6, q6⟩ := g6.form
 clear g1 g2 g3 g4 g5 g6
 subst hk ho
 have ha2 := ha
 clear ha
 go_enter Tryz.func75, Tryz.ntmps75
 go_upto_region 11 with fail
 refine wp_region_lit ?_
 refine wpl_loadS rfl (.tmp 3) rfl rfl (heap_a1 w _ _) rfl ?_
 refine wpl_storeS rfl (.tmp 6) (.tmp 70) rfl rfl rfl (heap_a2 w _ _) rfl rfl all25 ?_
 go_wp2
 refine scEnd (w.heap.size + 1) 6 Tryz.results75 ?_ ?_ (heap_a2 w _ _) (by omega) (two_new w _ _).1 HSS.out (HS.out.like ?_ ?_ ?_ ?_)
 all_goals rfl
theorem moder_same_false (v : Value) (s : Sc) (k : Int) (on : Bool) (S : Nat → Prop) (w : World) (hS : ∀ x, S x → x < w.heap.size) (h : SCV w S v s) (hk : k = 1049) (ho : on = false) (ha : s.alt = false) : Calls Tryz.prog 75 #[v, .int .i64 k, .bool on] w (ScPost S s w) := by
 have HSS := Lib.hid hS
 clear hS
 obtain ⟨vc, vt, vo, vp, vi, vu, rfl, hs⟩ := h
 have HS := Lib.hid hs
 obtain ⟨g1, g2, g3, g4, g5, g6⟩ := hs
 obtain ⟨A1, k1, rfl, p1, q1⟩ := g1.form
 obtain ⟨A2, k2, rfl, p2, q2⟩ := g2.form
 obtain ⟨A3, k3, rfl, p3, q3⟩ := g3.form
 obtain ⟨A4, k4, rfl, p4, q4⟩ := g4.form
 obtain ⟨A5, k5, rfl, p5, q5⟩ := g5.form
 obtain ⟨A6, k6, rfl, p6, q6⟩ := g6.form
 clear g1 g2 g3 g4 g5 g6
 subst hk ho
 have ha2 := ha
 clear ha
 go_enter Tryz.func75, Tryz.ntmps75
 go_upto_region 11 with fail
 refine wp_region_lit ?_
 refine wpl_loadS rfl (.tmp 3) rfl rfl (heap_a1 w _ _) rfl ?_
 refine wpl_storeS rfl (.tmp 6) (.tmp 70) rfl rfl rfl (heap_a2 w _ _) rfl rfl all25 ?_
 go_wp2
 refine scEnd (w.heap.size + 1) 6 Tryz.results75 ?_ ?_ (heap_a2 w _ _) (by omega) (two_new w _ _).1 HSS.out (HS.out.like ?_ ?_ ?_ ?_)
 all_goals rfl
theorem moder_off (v : Value) (s : Sc) (k : Int) (on : Bool) (S : Nat → Prop) (w : World) (hS : ∀ x, S x → x < w.heap.size) (h : SCV w S v s) (hk : k = 1049) (ho : on = false) (ha : s.alt = true) : Calls Tryz.prog 75 #[v, .int .i64 k, .bool on] w (ScPost S { s with cells := s.other, y := s.oy, x := s.ox, alt := false, wrap := false, other := [], oy := 0, ox := 0 } w) := by
 have HSS := Lib.hid hS
 clear hS
 obtain ⟨vc, vt, vo, vp, vi, vu, rfl, hs⟩ := h
 have HS := Lib.hid hs
 obtain ⟨g1, g2, g3, g4, g5, g6⟩ := hs
 obtain ⟨A1, k1, rfl, p1, q1⟩ := g1.form
 obtain ⟨A2, k2, rfl, p2, q2⟩ := g2.form
 obtain ⟨A3, k3, rfl, p3, q3⟩ := g3.form
 obtain ⟨A4, k4, rfl, p4, q4⟩ := g4.form
 obtain ⟨A5, k5, rfl, p5, q5⟩ := g5.form
 obtain ⟨A6, k6, rfl, p6, q6⟩ := g6.form
 clear g1 g2 g3 g4 g5 g6
 subst hk ho
 go_enter Tryz.func75, Tryz.ntmps75
 go_upto_region 11 with fail
 refine wp_region_lit ?_
 refine wpl_loadS rfl (.tmp 3) rfl rfl (heap_a1 w _ _) rfl ?_
 refine wpl_storeS rfl (.tmp 6) (.tmp 70) rfl rfl rfl (heap_a2 w _ _) rfl rfl all25 ?_
 go_wp2
 refine scEnd (w.heap.size + 1) 6 Tryz.results75 ?_ ?_ (heap_a2 w _ _) (by omega) (two_new w _ _).1 HSS.out (⟨HS.out.2.2.1, HS.out.2.1, CL.nil _ _, HS.out.2.2.2⟩)
 all_goals rfl
theorem moder_on (v : Value) (s : Sc) (k : Int) (on : Bool) (S : Nat → Prop) (w : World) (hS : ∀ x, S x → x < w.heap.size) (h : SCV w S v s) (hk : k = 1049) (ho : on = true) (ha : s.alt = false) (hz : sizeOk s.rows s.cols = true) : Calls Tryz.prog 75 #[v, .int .i64 k, .bool on] w (ScPost S { s with other := s.cells, oy := s.y, ox := s.x, alt := true, wrap := false, cells := blankL s.rows s.cols } w) := by
 have HSS := Lib.hid hS
 clear hS
 obtain ⟨vc, vt, vo, vp, vi, vu, rfl, hs⟩ := h
 have HS := Lib.hid hs
 obtain ⟨g1, g2, g3, g4, g5, g6⟩ := hs
 obtain ⟨A1, k1, rfl, p1, q1⟩ := g1.form
 obtain ⟨A2, k2, rfl, p2, q2⟩ := g2.form
 obtain ⟨A3, k3, rfl, p3, q3⟩ := g3.form
 obtain ⟨A4, k4, rfl, p4, q4⟩ := g4.form
 obtain ⟨A5, k5, rfl, p5, q5⟩ := g5.form
 obtain ⟨A6, k6, rfl, p6, q6⟩ := g6.form
 clear g1 g2 g3 g4 g5 g6
 subst hk ho
 have h2 := two_new w (.cells #[.int .i64 s.rows, .int .i64 s.cols, .slice A1 s.cells.length k1, .int .i64 s.y, .int .i64 s.x, .bool false, .int .u16 (s.attr : Int), .int .i64 s.top, .int .i64 s.bottom, .slice A2 s.tabs.length k2, .int .i64 s.sy, .int .i64 s.sx, .int .u16 (s.sattr : Int), .bool s.auto, .bool s.shown, .bool true, .slice A1 s.cells.length k1, .int .i64 s.y, .int .i64 s.x, .int .i64 (s.p.mode : Int), .int .u8 (s.p.priv : Int), .slice A4 s.p.params.length k4, .slice A5 s.p.inter.length k5, .slice A6 s.p.utf.length k6] 30) (.cells zQ 30)
 have HZ := Lib.hid hz
 have H2 := Lib.hid h2
 have HS1 : Hid (SSl w S { s with other := s.cells, oy := s.y, ox := s.x, alt := true, wrap := false } (.slice A1 s.cells.length k1) (.slice A2 s.tabs.length k2) (.slice A1 s.cells.length k1) (.slice A4 s.p.params.length k4) (.slice A5 s.p.inter.length k5) (.slice A6 s.p.utf.length k6)) := ⟨HS.out.1, HS.out.2.1, HS.out.1, HS.out.2.2.2⟩
 have HS0 := HS
 clear HS
 have HS := HS1
 clear h2 hz
 go_enter Tryz.func75, Tryz.ntmps75
 go_upto_region 11 with fail
 ((with_reducible refine (Blank_any s.rows s.cols _ HZ.out).mono ?_); rintro e w4 ⟨v4, rfl, o4, b4⟩; have hb4 : Below (w.heap.size + 1 + 1) _ w4 := (by rw [← H2.out.2]; exact b4); obtain ⟨k0, k1⟩ := two_keptB hb4; obtain ⟨c2, f2⟩ := cellR k0 2 rfl; have K0 := Lib.hid k0; have K1 := Lib.hid k1; rw [H2.out.2] at o4; have O4 := Lib.hid o4; have B4 := Lib.hid (H2.out.1.trans (hb4.mono (by omega))); have Z4 := b4.size; rw [H2.out.2] at Z4; clear o4 b4 hb4 k0 k1)
 obtain ⟨A7, k7, rfl, p7, q7⟩ := O4.out.cs.form
 go_upto_region 11 with fail
 refine wp_region_lit ?_
 refine wpl_loadS rfl (.tmp 3) rfl rfl ((heap_setCell_same _ _ 2 _ _ _ K0.out).trans rfl) rfl ?_
 refine wpl_storeS rfl (.tmp 6) (.tmp 70) rfl rfl rfl ((heap_setCell_other _ _ _ _ (by simp)).trans K1.out) rfl rfl all25 ?_
 go_wp2
 refine scEndC (w.heap.size + 1) 6 Tryz.results75 ?_ ?_ ((heap_setCell_other _ _ _ _ (by simp)).trans K1.out) (by omega) (B4.out.setCell (by simp) _) HSS.out HS.out ?_ ?_ ?_ (w.heap.size + 1 + 1) (by omega) O4.out (fun b hb => heap_setCell_other _ _ _ _ (by simp; omega)) (by simp)
 all_goals rfl
theorem moder_any (v : Value) (s : Sc) (k : Int) (on : Bool) (S : Nat → Prop) (w : World) (hS : ∀ x, S x → x < w.heap.size) (h : SCV w S v s) (hz : sizeOk s.rows s.cols = true) : Calls Tryz.prog 75 #[v, .int .i64 k, .bool on] w (ScPost S (modeS s k on) w) := by
 unfold modeS
 by_cases h7 : k = 7
 ·rw [if_pos h7]; exact moder_7 v s k on S w hS h h7
 rw [if_neg h7]
 by_cases h25 : k = 25
 ·rw [if_pos h25]; exact moder_25 v s k on S w hS h h25
 rw [if_neg h25]
 by_cases hk : k = 1049
 ·cases ho : on with
  | true =>
   cases ha : s.alt with
   | true => rw [if_neg (by simp), if_neg (by simp)]; exact moder_same_true v s k true S w hS h hk rfl ha
   | false => rw [if_pos ⟨hk, rfl, rfl⟩]; exact moder_on v s k true S w hS h hk rfl ha hz
  | false =>
   cases ha : s.alt with
   | true => rw [if_neg (by simp), if_pos ⟨hk, rfl, rfl⟩]; exact moder_off v s k false S w hS h hk rfl ha
   | false => rw [if_neg (by simp), if_neg (by simp)]; exact moder_same_false v s k false S w hS h hk rfl ha
 ·rw [if_neg (by simp [hk]), if_neg (by simp [hk])]
  exact moder_no v s k on S w hS h h7 h25 hk
theorem controlr_down (v : Value) (s : Sc) (b : Int) (r c : Nat) (S : Nat → Prop) (w : World) (hS : ∀ x, S x → x < w.heap.size) (h : SCV w S v s) (hi : ScIn s r c) (hb : b = 10 ∨ b = 11 ∨ b = 12) : Calls Tryz.prog 73 #[v, .int .u8 b] w (ScPost S (downS s) w) := by
 have HSS := Lib.hid hS
 clear hS
 obtain ⟨vc, vt, vo, vp, vi, vu, rfl, hs⟩ := h
 have HS := Lib.hid hs
 obtain ⟨g1, g2, g3, g4, g5, g6⟩ := hs
 obtain ⟨A1, k1, rfl, p1, q1⟩ := g1.form
 obtain ⟨A2, k2, rfl, p2, q2⟩ := g2.form
 obtain ⟨A3, k3, rfl, p3, q3⟩ := g3.form
 obtain ⟨A4, k4, rfl, p4, q4⟩ := g4.form
 obtain ⟨A5, k5, rfl, p5, q5⟩ := g5.form
 obtain ⟨A6, k6, rfl, p6, q6⟩ := g6.form
 clear g1 g2 g3 g4 g5 g6
 have HI := Lib.hid hi
 have x0 := hi.x0
 have x1 := hi.x1
 have hcl := hi.cols
 have c2 := hi.g.c2
 have c3 : s.cols ≤ 1000 := by omega
 have c4 : s.x < s.cols := by omega
 clear hi hcl
 have h2 := two_new w (.cells (vA s A1 A2 A3 A4 A5 A6 k1 k2 k3 k4 k5 k6) 30) (.cells zQ 30)
 have HS2 : Hid (∀ x, S x → x < _) := fun x hx => Nat.lt_of_lt_of_le (HSS.out x hx) h2.1.size
 have H2 := Lib.hid h2
 have HV := Lib.hid (show SCV _ S (.agg (vA s A1 A2 A3 A4 A5 A6 k1 k2 k3 k4 k5 k6)) s from ⟨_, _, _, _, _, _, rfl, HS.out.below HSS.out h2.1⟩)
 clear h2
 rcases hb with rfl | rfl | rfl
 all_goals
  go_enter Tryz.func73, Tryz.ntmps73
  go_upto_region 13 with fail
  refine wp_region_lit ?_
  refine wpl_loadS rfl (.tmp 2) rfl rfl (heap_a1 w _ _) rfl ?_
  go_wp2_with fail
  ((with_reducible refine (downr_any _ s r c S _ HS2.out HV.out HI.out).mono ?_); rintro e w4 ⟨v4, rfl, hv4, b4⟩)
  have hb4 : Below (w.heap.size + 1 + 1) _ w4 := (by rw [← H2.out.2]; exact b4)
  obtain ⟨e0, e1⟩ := two_keptB hb4
  have z4 := b4.size
  rw [H2.out.2] at z4
  obtain ⟨uc, ut, uo, up, ui, uu, rfl, hs4⟩ := hv4
  rename_i K hK
  refine hK _ _ ?_
  refine wpl_storeS rfl (.tmp 4) (.tmp 51) rfl rfl rfl e1 rfl rfl hs4.one ?_
  go_wp2
  refine scEndV (w.heap.size + 1) 4 Tryz.results73 rfl rfl e1 (by omega) (H2.out.1.trans (hb4.mono (by omega))) HSS.out hs4 (fun x hx => ?_)
  rcases hx with h | h
  ·exact .inl h
  ·have := h.1
   rw [H2.out.2] at this
   exact .inr ⟨by omega, h.2⟩
theorem max_if (x : Int) : (if x < 0 then 0 else x) = max x 0 := by split <;> omega
theorem controlr_8 (v : Value) (s : Sc) (b : Int) (r c : Nat) (S : Nat → Prop) (w : World) (hS : ∀ x, S x → x < w.heap.size) (h : SCV w S v s) (hi : ScIn s r c) (hb : b = 8) : Calls Tryz.prog 73 #[v, .int .u8 b] w (ScPost S { s with x := max (s.x - 1) 0, wrap := false } w) := by
 have HSS := Lib.hid hS
 clear hS
 obtain ⟨vc, vt, vo, vp, vi, vu, rfl, hs⟩ := h
 have HS := Lib.hid hs
 obtain ⟨g1, g2, g3, g4, g5, g6⟩ := hs
 obtain ⟨A1, k1, rfl, p1, q1⟩ := g1.form
 obtain ⟨A2, k2, rfl, p2, q2⟩ := g2.form
 obtain ⟨A3, k3, rfl, p3, q3⟩ := g3.form
 obtain ⟨A4, k4, rfl, p4, q4⟩ := g4.form
 obtain ⟨A5, k5, rfl, p5, q5⟩ := g5.form
 obtain ⟨A6, k6, rfl, p6, q6⟩ := g6.form
 clear g1 g2 g3 g4 g5 g6
 have HI := Lib.hid hi
 have x0 := hi.x0
 have x1 := hi.x1
 have hcl := hi.cols
 have c2 := hi.g.c2
 have c3 : s.cols ≤ 1000 := by omega
 have c4 : s.x < s.cols := by omega
 clear hi hcl
 subst hb
 go_enter Tryz.func73, Tryz.ntmps73
 go_upto_region 16 with fail
 rw [max_if]
 refine wp_region_lit ?_
 refine wpl_loadS rfl (.tmp 2) rfl rfl (heap_a1 w _ _) rfl ?_
 refine wpl_storeS rfl (.tmp 4) (.tmp 56) rfl rfl rfl (heap_a2 w _ _) rfl rfl all25 ?_
 go_wp2
 refine scEnd (w.heap.size + 1) 4 Tryz.results73 ?_ ?_ (heap_a2 w _ _) (by omega) (two_new w _ _).1 HSS.out (HS.out.like ?_ ?_ ?_ ?_)
 all_goals rfl
theorem controlr_13 (v : Value) (s : Sc) (b : Int) (r c : Nat) (S : Nat → Prop) (w : World) (hS : ∀ x, S x → x < w.heap.size) (h : SCV w S v s) (hi : ScIn s r c) (hb : b = 13) : Calls Tryz.prog 73 #[v, .int .u8 b] w (ScPost S { s with x := 0, wrap := false } w) := by
 have HSS := Lib.hid hS
 clear hS
 obtain ⟨vc, vt, vo, vp, vi, vu, rfl, hs⟩ := h
 have HS := Lib.hid hs
 obtain ⟨g1, g2, g3, g4, g5, g6⟩ := hs
 obtain ⟨A1, k1, rfl, p1, q1⟩ := g1.form
 obtain ⟨A2, k2, rfl, p2, q2⟩ := g2.form
 obtain ⟨A3, k3, rfl, p3, q3⟩ := g3.form
 obtain ⟨A4, k4, rfl, p4, q4⟩ := g4.form
 obtain ⟨A5, k5, rfl, p5, q5⟩ := g5.form
 obtain ⟨A6, k6, rfl, p6, q6⟩ := g6.form
 clear g1 g2 g3 g4 g5 g6
 have HI := Lib.hid hi
 have x0 := hi.x0
 have x1 := hi.x1
 have hcl := hi.cols
 have c2 := hi.g.c2
 have c3 : s.cols ≤ 1000 := by omega
 have c4 : s.x < s.cols := by omega
 clear hi hcl
 subst hb
 go_enter Tryz.func73, Tryz.ntmps73
 go_upto_region 16 with fail
 refine wp_region_lit ?_
 refine wpl_loadS rfl (.tmp 2) rfl rfl (heap_a1 w _ _) rfl ?_
 refine wpl_storeS rfl (.tmp 4) (.tmp 56) rfl rfl rfl (heap_a2 w _ _) rfl rfl all25 ?_
 go_wp2
 refine scEnd (w.heap.size + 1) 4 Tryz.results73 ?_ ?_ (heap_a2 w _ _) (by omega) (two_new w _ _).1 HSS.out (HS.out.like ?_ ?_ ?_ ?_)
 all_goals rfl
theorem controlr_no (v : Value) (s : Sc) (b : Int) (r c : Nat) (S : Nat → Prop) (w : World) (hS : ∀ x, S x → x < w.heap.size) (h : SCV w S v s) (hi : ScIn s r c) (hb : ¬ (b = 8 ∨ b = 9 ∨ b = 10 ∨ b = 11 ∨ b = 12 ∨ b = 13)) : Calls Tryz.prog 73 #[v, .int .u8 b] w (ScPost S s w) := by
 have HSS := Lib.hid hS
 clear hS
 obtain ⟨vc, vt, vo, vp, vi, vu, rfl, hs⟩ := h
 have HS := Lib.hid hs
 obtain ⟨g1, g2, g3, g4, g5, g6⟩ := hs
 obtain ⟨A1, k1, rfl, p1, q1⟩ := g1.form
 obtain ⟨A2, k2, rfl, p2, q2⟩ := g2.form
 obtain ⟨A3, k3, rfl, p3, q3⟩ := g3.form
 obtain ⟨A4, k4, rfl, p4, q4⟩ := g4.form
 obtain ⟨A5, k5, rfl, p5, q5⟩ := g5.form
 obtain ⟨A6, k6, rfl, p6, q6⟩ := g6.form
 clear g1 g2 g3 g4 g5 g6
 have HI := Lib.hid hi
 have x0 := hi.x0
 have x1 := hi.x1
 have hcl := hi.cols
 have c2 := hi.g.c2
 have c3 : s.cols ≤ 1000 := by omega
 have c4 : s.x < s.cols := by omega
 clear hi hcl
 have n8 : (b == 8) = false := by simp; omega
 have n9 : (b == 9) = false := by simp; omega
 have n10 : (b == 10) = false := by simp; omega
 have n11 : (b == 11) = false := by simp; omega
 have n12 : (b == 12) = false := by simp; omega
 have n13 : (b == 13) = false := by simp; omega
 clear hb
 go_enter Tryz.func73, Tryz.ntmps73
 go_upto_region 16 with fail
 refine wp_region_lit ?_
 refine wpl_loadS rfl (.tmp 2) rfl rfl (heap_a1 w _ _) rfl ?_
 refine wpl_storeS rfl (.tmp 4) (.tmp 56) rfl rfl rfl (heap_a2 w _ _) rfl rfl all25 ?_
 go_wp2
 refine scEnd (w.heap.size + 1) 4 Tryz.results73 ?_ ?_ (heap_a2 w _ _) (by omega) (two_new w _ _).1 HSS.out (HS.out.like ?_ ?_ ?_ ?_)
 all_goals rfl
theorem SL.getT {w : World} {S : Nat → Prop} {A : Option Addr} {n c : Nat} {l : List Bool} (h : SL vT w S (.slice A n c) l) (k : Nat) (hk : k < l.length) : ∃ ad, A = some ad ∧ S ad.block ∧ w.cell? (ad.add k) = some (.bool (l.getD k true)) := by
 obtain ⟨A', c', hv, _, _, h3⟩ := h
 simp only [Value.slice.injEq] at hv
 obtain ⟨ad, hA, hb, hc⟩ := h3 (by omega)
 have hx : l[k]? = some (l.getD k true) := by simp [List.getD, List.getElem?_eq_getElem hk]
 exact ⟨ad, hv.1.trans hA, hb, hc k _ hx⟩
theorem controlr_9 (v : Value) (s : Sc) (b : Int) (r c : Nat) (S : Nat → Prop) (w : World) (hS : ∀ x, S x → x < w.heap.size) (h : SCV w S v s) (hi : ScIn s r c) (hb : b = 9) : Calls Tryz.prog 73 #[v, .int .u8 b] w (ScPost S { s with wrap := false, x := tabX s } w) := by
 have HSS := Lib.hid hS
 clear hS
 obtain ⟨vc, vt, vo, vp, vi, vu, rfl, hs⟩ := h
 have HS := Lib.hid hs
 obtain ⟨g1, g2, g3, g4, g5, g6⟩ := hs
 obtain ⟨A1, k1, rfl, p1, q1⟩ := g1.form
 obtain ⟨A2, k2, rfl, p2, q2⟩ := g2.form
 obtain ⟨A3, k3, rfl, p3, q3⟩ := g3.form
 obtain ⟨A4, k4, rfl, p4, q4⟩ := g4.form
 obtain ⟨A5, k5, rfl, p5, q5⟩ := g5.form
 obtain ⟨A6, k6, rfl, p6, q6⟩ := g6.form
 clear g1 g2 g3 g4 g5 g6
 have HI := Lib.hid hi
 have x0 := hi.x0
 have x1 := hi.x1
 have hcl := hi.cols
 have c2 := hi.g.c2
 have c3 : s.cols ≤ 1000 := by omega
 have c4 : s.x < s.cols := by omega
 have ht := hi.tabs
 have ht2 : (s.tabs.length : Int) = s.cols := by omega
 have HT := Lib.hid ht2
 clear hi hcl ht ht2
 subst hb
 unfold tabX
 obtain ⟨N, hN⟩ : ∃ N, N = nextTab s.tabs (s.cols - (s.x + 1)).toNat (s.x + 1).toNat := ⟨_, rfl⟩
 rw [← hN]
 have HN := Lib.hid hN
 obtain ⟨M, hM⟩ : ∃ M, M = min (N : Int) (s.cols - 1) := ⟨_, rfl⟩
 rw [← hM]
 have HM := Lib.hid hM
 clear hM
 obtain ⟨xx, hxx⟩ : ∃ xx : Nat, (xx : Int) = s.x + 1 := ⟨(s.x + 1).toNat, by omega⟩
 have HX := Lib.hid hxx
 clear hN hxx
 go_enter Tryz.func73, Tryz.ntmps73
 go_wp2
 go_loopg [21] (s.cols - (s.x + 1)).toNat (fun g s21 wx => ∃ x : Nat, (x : Int) + (g : Int) = s.cols ∧ s.x + 1 ≤ x ∧ nextTab s.tabs g x = N ∧ wx = (w.alloc (.cells #[.int .i64 s.rows, .int .i64 s.cols, .slice A1 s.cells.length k1, .int .i64 s.y, .int .i64 (x : Int), .bool false, .int .u16 (s.attr : Int), .int .i64 s.top, .int .i64 s.bottom, .slice A2 s.tabs.length k2, .int .i64 s.sy, .int .i64 s.sx, .int .u16 (s.sattr : Int), .bool s.auto, .bool s.shown, .bool s.alt, .slice A3 s.other.length k3, .int .i64 s.oy, .int .i64 s.ox, .int .i64 (s.p.mode : Int), .int .u8 (s.p.priv : Int), .slice A4 s.p.params.length k4, .slice A5 s.p.inter.length k5, .slice A6 s.p.utf.length k6] 30)).alloc (.cells zQ 30))
 case atStart =>
  refine ⟨xx, by have := HX.out; omega, by have := HX.out; omega, ?_, ?_⟩
  ·rw [HN.out, show (s.x + 1).toNat = xx by have := HX.out; omega]
  ·rw [HX.out]
 case round =>
  obtain ⟨x, hxg, hx1, hnt, rfl⟩ := hrel
  have HNT := Lib.hid hnt
  clear hnt
  cases gk with
  | zero =>
   have hxc : (x : Int) = s.cols := by omega
   have hno : ¬ (x : Int) < s.cols := by omega
   have HXC := Lib.hid hxc
   clear hxc hxg
   go_upto_region 16 with fail
   have e : N = x := HNT.out.symm
   have e2 : s.cols - 1 = M := by have := HM.out; have := HXC.out; omega
   rw [e2]
   refine wp_region_lit ?_
   refine wpl_loadS rfl (.tmp 2) rfl rfl (heap_a1 w _ _) rfl ?_
   refine wpl_storeS rfl (.tmp 4) (.tmp 56) rfl rfl rfl (heap_a2 w _ _) rfl rfl all25 ?_
   go_wp2
   refine scEnd (w.heap.size + 1) 4 Tryz.results73 ?_ ?_ (heap_a2 w _ _) (by omega) (two_new w _ _).1 HSS.out (HS.out.like ?_ ?_ ?_ ?_)
   all_goals rfl
  | succ g =>
   have hlt : (x : Int) < s.cols := by omega
   have hxl : x < s.tabs.length := by have := HT.out; omega
   obtain ⟨ad, hA, hSb, e0⟩ := HS.out.2.1.getT x hxl
   subst hA
   have tb : (ad.add x).block < w.heap.size := by rw [block_add]; exact HSS.out _ hSb
   have tb2 : (ad.add x).block < w.heap.size + 1 := by omega
   have hs1 := HNT.out
   unfold nextTab at hs1
   cases ht : s.tabs.getD x true with
   | true =>
    rw [ht] at e0 hs1
    have e : N = x := by simpa using hs1.symm
    have e2 : (x : Int) = M := by have := HM.out; omega
    have E2 := Lib.hid e2
    clear hs1 e ht hxg e2
    go_upto_region 16 with fail
    rw [E2.out]
    refine wp_region_lit ?_
    refine wpl_loadS rfl (.tmp 2) rfl rfl (heap_a1 w _ _) rfl ?_
    refine wpl_storeS rfl (.tmp 4) (.tmp 56) rfl rfl rfl (heap_a2 w _ _) rfl rfl all25 ?_
    go_wp2
    refine scEnd (w.heap.size + 1) 4 Tryz.results73 ?_ ?_ (heap_a2 w _ _) (by omega) (two_new w _ _).1 HSS.out (HS.out.like ?_ ?_ ?_ ?_)
    all_goals rfl
   | false =>
    rw [ht] at e0 hs1
    have hs2 : nextTab s.tabs g (x + 1) = N := by simpa using hs1
    have HS1 := Lib.hid hs2
    clear hs2
    have HXG := Lib.hid hxg
    clear hs1 ht hxg
    go_wp2
    go_roundg g
    case measure => omega
    case rel => exact ⟨x + 1, by have := HXG.out; omega, by omega, HS1.out, by rw [show ((x + 1 : Nat) : Int) = (x : Int) + 1 by omega]⟩
theorem controlr_any (v : Value) (s : Sc) (b : Nat) (r c : Nat) (S : Nat → Prop) (w : World) (hS : ∀ x, S x → x < w.heap.size) (h : SCV w S v s) (hi : ScIn s r c) : Calls Tryz.prog 73 #[v, .int .u8 (b : Int)] w (ScPost S (controlS s b) w) := by
 unfold controlS
 by_cases h8 : b = 8
 ·rw [if_pos h8]; exact controlr_8 v s b r c S w hS h hi (by omega)
 rw [if_neg h8]
 by_cases h9 : b = 9
 ·rw [if_pos h9]; exact controlr_9 v s b r c S w hS h hi (by omega)
 rw [if_neg h9]
 by_cases hd : b = 10 ∨ b = 11 ∨ b = 12
 ·rw [if_pos hd]; exact controlr_down v s b r c S w hS h hi (by omega)
 rw [if_neg hd]
 by_cases h13 : b = 13
 ·rw [if_pos h13]; exact controlr_13 v s b r c S w hS h hi (by omega)
 rw [if_neg h13]
 exact controlr_no v s b r c S w hS h hi (by omega)
theorem OT.at_ {w : World} {base g n cap : Nat} {l : List Bool} (h : OT w base (.slice (some ⟨g, 0, none⟩) n cap) l) (k : Nat) (hk : k < n) : w.cell? ⟨g, k, none⟩ = some (.bool (l.getD k true)) := by
 obtain rfl := h.len
 unfold OT at h
 rw [World.ownsRow.cellAt h k (by omega)]
 simp [vTs, vT, hk, List.getD]
def NewPost (s : Sc) (w : World) (e : Ending) (w' : World) : Prop := ∃ v, e = .returned (.tuple #[v, .int .i64 0]) ∧ SCV w' (NewB w' w.heap.size) v s ∧ Below w.heap.size w w'
theorem run_eqlNil (w : World) (a : Addr) (n c : Nat) : (binOp .eql 22 (.slice (some a) n c) (.slice none 0 0)).run Tryz.prog w = .ok (.bool false) w := by
 have := run_equal_slice_nil w 22 65 (some a) n c Tryz.underlying22
 simp [binOp, this]
def tabsUp (c x : Nat) : List Bool := (List.range c).map fun i => decide (i % 8 = 0 ∧ i < x)
theorem tabsUp_zero (c : Nat) : tabsUp c 0 = List.replicate c false := by
 apply List.ext_getElem?
 intro i
 by_cases h : i < c
 ·simp [tabsUp, h]
 ·simp [tabsUp, h]
theorem tabsUp_set (c x : Nat) (h8 : x % 8 = 0) : (tabsUp c x).set x true = tabsUp c (x + 8) := by
 apply List.ext_getElem?
 intro i
 rw [List.getElem?_set]
 by_cases h : i < c
 ·by_cases e : x = i
  ·subst e
   simp [tabsUp, h, h8]
  ·rw [if_neg e]
   simp only [tabsUp, List.getElem?_map, List.getElem?_range h, Option.map_some]
   congr 1
   rw [decide_eq_decide]
   constructor
   ·intro ⟨a, b⟩; exact ⟨a, by omega⟩
   ·intro ⟨a, b⟩; exact ⟨a, by omega⟩
 ·by_cases e : x = i
  ·subst e
   simp [tabsUp, h]
  ·rw [if_neg e]
   simp [tabsUp, h]
theorem tabsUp_all (c x : Nat) (h : c ≤ x) : tabsUp c x = newTabs c := by
 apply List.ext_getElem?
 intro i
 by_cases hi : i < c
 ·simp only [tabsUp, newTabs, List.getElem?_map, List.getElem?_range hi, Option.map_some]
  congr 1
  rw [decide_eq_decide]
  constructor
  ·intro ⟨a, b⟩; exact a
  ·intro a; exact ⟨a, by omega⟩
 ·simp [tabsUp, newTabs, hi]
def NewRel (c : Nat) (w4 W5 : World) (i : Value) (wr : World) : Prop :=
 ∃ x : Nat, x % 8 = 0 ∧ x < c + 8 ∧ i = .int .i64 (x : Int) ∧ OT wr w4.heap.size (.slice (some ⟨w4.heap.size, 0, none⟩) c c) (tabsUp c x) ∧ wr.heap.size = W5.heap.size ∧ (∀ b, b ≠ w4.heap.size → wr.heap[b]? = W5.heap[b]?) ∧ Below w4.heap.size W5 wr
theorem resultS2 {fn : Func} {p q : Tmp} (h : fn.results = #[.cell p 30, .tmp q]) {tmps : Array Value} {w : World} {g : Nat} {xs : Array Value} {u : Value} (ht : tmps.getD p undef = .pointer (some ⟨g, 0, none⟩)) (hu : tmps.getD q undef = u) (hg : w.heap[g]? = some (.cells xs 30)) (hn : xs.size = 24) :
  (results fn tmps).run Tryz.prog w = .ok (.tuple #[.agg xs, u]) w := by
 simp only [results, h]
 have := run_loadVar_row (P := Tryz.prog) w g _ 30 xs (0, 0) _ hg Tryz.underlying30 rfl (by rw [scrSize, hn])
 have ht2 : tmps[p]?.getD undef = .pointer (some ⟨g, 0, none⟩) := by simpa using ht
 have hu2 : tmps[q]?.getD undef = u := by simpa using hu
 simp [ht2, hu2, asAddr, this]
theorem Newr_yes (r c : Nat) (w : World) (r1 : 1 ≤ r) (r2 : r ≤ 1000) (c1 : 1 ≤ c) (c2 : c ≤ 1000) : Calls Tryz.prog 15 #[.int .i64 (r : Int), .int .i64 (c : Int)] w (NewPost (newS r c) w) := by
 have hrc := rc_le r2 c2
 have hpos : 1 ≤ r * c := Nat.mul_pos r1 c1
 have hmk := run_makeT c (by omega)
 go_enter Tryz.func15, Tryz.ntmps15
 go_upto_region 4 with fail
 (with_reducible refine (Blank_yes r c _ r1 r2 c1 c2).mono ?_); rintro e w4 ⟨v4, rfl, o4, b4⟩
 have h1 : (w.alloc (.cells zQ 30)).heap.size = w.heap.size + 1 := by simp
 rw [h1] at o4 b4
 obtain ⟨gb, cap, rfl, hg1, hg2, hg3, hg4⟩ := o4.open_ (by rw [List.length_replicate]; omega)
 have hnil := run_eqlNil w4 ⟨gb, 0, none⟩ (r * c) cap
 have HO := Lib.hid o4
 have HB := Lib.hid b4
 have hz4 := b4.size
 rw [h1] at hz4
 rw [List.length_replicate]
 clear o4 b4 h1
 go_upto_region 4 with fail
 clear hnil
 refine wp_region_lit ?_
 iterate 9 (refine wpList_plain rfl fun K hK => ?_; go_simp; refine hK _ _ ?_; clear hK K)
 refine wpl_storeS rfl (.tmp 7) (.tmp 22) rfl rfl rfl (heap_a2 w4 _ _) rfl rfl all25 ?_
 go_simp
 rw [IntWalk.i64_in ((r : Int) - 1) (by omega)]
 obtain ⟨W5, hW5⟩ : ∃ W5, W5 = ((w4.alloc (.cells (madeCells #[.bool false] c) 4)).alloc (.cells zQ 30)).setRow (w4.heap.size + 1) #[.int .i64 (r : Int), .int .i64 (c : Int), .slice (some ⟨gb, 0, none⟩) (r * c) cap, .int .i64 0, .int .i64 0, .bool false, .int .u16 0, .int .i64 0, .int .i64 ((r : Int) - 1), .slice (some ⟨w4.heap.size, 0, none⟩) c c, .int .i64 0, .int .i64 0, .int .u16 0, .bool true, .bool true, .bool false, .slice none 0 0, .int .i64 0, .int .i64 0, .int .i64 0, .int .u8 0, .slice none 0 0, .slice none 0 0, .slice none 0 0] := ⟨_, rfl⟩
 rw [← hW5]
 have k5 : W5.heap[w4.heap.size + 1]? = some (.cells #[.int .i64 (r : Int), .int .i64 (c : Int), .slice (some ⟨gb, 0, none⟩) (r * c) cap, .int .i64 0, .int .i64 0, .bool false, .int .u16 0, .int .i64 0, .int .i64 ((r : Int) - 1), .slice (some ⟨w4.heap.size, 0, none⟩) c c, .int .i64 0, .int .i64 0, .int .u16 0, .bool true, .bool true, .bool false, .slice none 0 0, .int .i64 0, .int .i64 0, .int .i64 0, .int .u8 0, .slice none 0 0, .slice none 0 0, .slice none 0 0] 30) := by rw [hW5]; exact heap_setRow_same (heap_a2 w4 _ _)
 have z5 : W5.heap.size = w4.heap.size + 1 + 1 := by rw [hW5, size_setRow]; simp
 have b5 : Below w4.heap.size w4 W5 := by rw [hW5]; exact below_setRow (two_new w4 _ _).1 (by omega) _
 have t5 : OT W5 w4.heap.size (.slice (some ⟨w4.heap.size, 0, none⟩) c c) (List.replicate c false) := by
  rw [hW5]
  refine World.ownsRow.kept (World.ownsRow.alloc (OT.made w4 c (by omega)) _) (row := some (w4.heap.size + 1)) ⟨rfl, rfl, rfl, by rw [size_setRow]; exact Nat.le_refl _, fun k hk hne => heap_setRow_other (fun e => hne (by rw [e]))⟩ (Or.inr ?_)
  simp [Value.ownBlock]
 have K5 := Lib.hid k5
 have B5 := Lib.hid b5
 have T5 := Lib.hid t5
 have HW5 := Lib.hid hW5
 have Z5 := Lib.hid z5
 clear hmk k5 b5 t5 hW5 z5
 go_wp2
 go_loopw [8] (fun i wr => NewRel c w4 W5 i wr) (fun i _ => c + 8 - (intOf i).toNat)
 case atStart => exact ⟨0, by omega, by omega, rfl, by rw [tabsUp_zero]; exact T5.out, rfl, fun _ _ => rfl, Below.refl _ _⟩
 case round =>
  obtain ⟨x, hx8, hxc, rfl, ht, hz, hk, hb⟩ := hrel
  obtain ⟨c9, f9⟩ := cellR ((hk (w4.heap.size + 1) (by omega)).trans K5.out) 9 rfl
  have HT := Lib.hid ht
  have HK := Lib.hid hk
  have HBR := Lib.hid hb
  have HZ := Lib.hid hz
  have hx8' := Lib.hid hx8
  clear ht hk hb hz hx8
  by_cases hlt : x < c
  ·obtain ⟨q, s0, f0⟩ := HT.out.spot x hlt
   have hgx : w4.heap.size < wr.heap.size := by rw [HZ.out, Z5.out]; omega
   go_wp2
   go_roundw
   case rel =>
    refine ⟨x + 8, by have := hx8'.out; omega, by omega, by go_num, ?_, by simpa using HZ.out, fun b hb => ?_, HBR.out.setCell (by simp) _⟩
    ·have := HT.out.put x true
     rw [tabsUp_set c x hx8'.out] at this
     exact this
    ·rw [heap_setCell_other _ _ _ _ (by simpa using hb)]
     exact HK.out b hb
   case measure => simp [intOf]; omega
  ·have hres : wr.heap[w.heap.size]? = some (.cells zQ 30) := by
    rw [HK.out _ (by omega), HW5.out, heap_setRow_other (by omega)]
    refine ((two_new w4 _ _).1.block _ (by omega)).trans ((HB.out.block _ (by omega)).trans ?_)
    exact heap_alloc_new w _
   have hvar := (HK.out (w4.heap.size + 1) (by omega)).trans K5.out
   have HR := Lib.hid hres
   have HV := Lib.hid hvar
   clear hres hvar c9 f9
   go_upto_region 9 with fail
   refine wp_region_lit ?_
   refine wpl_loadS rfl (.tmp 7) rfl rfl HV.out rfl ?_
   refine wpl_storeS rfl (.tmp 4) (.tmp 32) rfl rfl rfl HR.out rfl rfl all25 ?_
   go_wp2
   have hx9 : tabsUp c x = newTabs c := tabsUp_all c x (by omega)
   have hbl : blankL (r : Int) (c : Int) = List.replicate (r * c) blankC := by
    unfold blankL
    rw [if_pos (sizeOk_mk (by omega) (by omega) (by omega) (by omega))]
    simp
   have hB0 : Below w.heap.size w wr := (((Below.refl w.heap.size w).alloc (Nat.le_refl _) _).trans (HB.out.mono (by omega))).trans (((B5.out.trans HBR.out)).mono (by omega))
   refine bodyPost_ret (v := .tuple #[.agg #[.int .i64 (r : Int), .int .i64 (c : Int), .slice (some ⟨gb, 0, none⟩) (r * c) cap, .int .i64 0, .int .i64 0, .bool false, .int .u16 0, .int .i64 0, .int .i64 ((r : Int) - 1), .slice (some ⟨w4.heap.size, 0, none⟩) c c, .int .i64 0, .int .i64 0, .int .u16 0, .bool true, .bool true, .bool false, .slice none 0 0, .int .i64 0, .int .i64 0, .int .i64 0, .int .u8 0, .slice none 0 0, .slice none 0 0, .slice none 0 0], .int .i64 0]) (resultS2 Tryz.results15 rfl rfl (heap_setRow_same HR.out) rfl) rfl ?_
   refine ⟨_, rfl, ⟨_, _, _, _, _, _, rfl, ?_, ?_, CL.nil _ _, SL.nil _ _ _, SL.nil _ _ _, SL.nil _ _ _⟩, below_setRow hB0 (Nat.le_refl _) _⟩
   ·show CL _ _ _ (blankL (r : Int) (c : Int))
    rw [hbl]
    have ho2 := HO.out
    rw [List.length_replicate] at ho2
    refine (ho2.cl.keep (fun q hq => World.cell?_of_block ?_)).mono (fun x hx => ⟨by have := hx.1; omega, ?_⟩)
    ·have h1 := hq.1
     have h2 := hq.2
     rw [heap_setRow_other (by omega), HK.out _ (by omega)]
     exact B5.out.block _ h2
    ·rw [size_setRow, HZ.out, Z5.out]
     have := hx.2
     omega
   ·show SL vT _ _ _ (newTabs (c : Int).toNat)
    rw [Int.toNat_natCast, ← hx9]
    refine (HT.out.sl.keep (fun q hq => World.cell?_of_block (heap_setRow_other ?_))).mono (fun x hx => ⟨by have := hx.1; omega, by rw [size_setRow]; exact hx.2⟩)
    have := hq.1
    omega
theorem psize_any (n : Int) (w : World) : Calls Tryz.prog 43 #[.int .i64 n] w fun e w' => e = .returned (.bool (sizeB n)) ∧ w = w' := by
 unfold sizeB
 by_cases h1 : 1 ≤ n
 ·by_cases h2 : n ≤ 1000
  ·rw [decide_eq_true ⟨h1, h2⟩]
   go_enter Tryz.func43, Tryz.ntmps43
   go_wp2
   go_ret
   exact ⟨rfl, rfl⟩
  ·rw [decide_eq_false (fun h => h2 h.2)]
   have h3 : decide (n ≤ 1000) = false := decide_eq_false h2
   go_enter Tryz.func43, Tryz.ntmps43
   go_wp2
   go_ret
   exact ⟨rfl, rfl⟩
 ·rw [decide_eq_false (fun h => h1 h.1)]
  have h3 : decide (1 ≤ n) = false := decide_eq_false h1
  go_enter Tryz.func43, Tryz.ntmps43
  go_wp2
  go_ret
  exact ⟨rfl, rfl⟩
theorem pisRegion_any (m : Int) (s : Sc) (A1 A2 A3 A4 A5 A6 : Option Addr) (n1 n2 n3 n4 n5 n6 k1 k2 k3 k4 k5 k6 : Nat) (a b : Int) (w : World) : Calls Tryz.prog 80 #[.agg (vNq m s A1 A2 A3 A4 A5 A6 n1 n2 n3 n4 n5 n6 k1 k2 k3 k4 k5 k6), .int .i64 a, .int .i64 b] w fun e w' => e = .returned (.bool (decide (0 ≤ a ∧ a < b ∧ b < s.rows))) ∧ Below w.heap.size w w' := by
 by_cases h0 : 0 ≤ a
 ·by_cases h1 : a < b
  ·by_cases h2 : b < s.rows
   ·rw [decide_eq_true ⟨h0, h1, h2⟩]
    go_enter Tryz.func80, Tryz.ntmps80
    go_wp2
    go_ret
    exact ⟨rfl, (Below.refl _ _).alloc (Nat.le_refl _) _⟩
   ·rw [decide_eq_false (fun h => h2 h.2.2)]
    go_enter Tryz.func80, Tryz.ntmps80
    go_wp2
    go_ret
    exact ⟨rfl, (Below.refl _ _).alloc (Nat.le_refl _) _⟩
  ·rw [decide_eq_false (fun h => h1 h.2.1)]
   go_enter Tryz.func80, Tryz.ntmps80
   go_wp2
   go_ret
   exact ⟨rfl, (Below.refl _ _).alloc (Nat.le_refl _) _⟩
 ·rw [decide_eq_false (fun h => h0 h.1)]
  go_enter Tryz.func80, Tryz.ntmps80
  go_wp2
  go_ret
  exact ⟨rfl, (Below.refl _ _).alloc (Nat.le_refl _) _⟩
theorem pisPlace_any (m : Int) (s : Sc) (A1 A2 A3 A4 A5 A6 : Option Addr) (n1 n2 n3 n4 n5 n6 k1 k2 k3 k4 k5 k6 : Nat) (y x : Int) (w : World) : Calls Tryz.prog 46 #[.agg (vNq m s A1 A2 A3 A4 A5 A6 n1 n2 n3 n4 n5 n6 k1 k2 k3 k4 k5 k6), .int .i64 y, .int .i64 x] w fun e w' => e = .returned (.bool (decide (0 ≤ y ∧ y < s.rows ∧ 0 ≤ x ∧ x < s.cols))) ∧ Below w.heap.size w w' := by
 by_cases h0 : 0 ≤ y
 ·by_cases h1 : y < s.rows
  ·by_cases h2 : 0 ≤ x
   ·by_cases h3 : x < s.cols
    ·rw [decide_eq_true ⟨h0, h1, h2, h3⟩]
     go_enter Tryz.func46, Tryz.ntmps46
     go_wp2
     go_ret
     exact ⟨rfl, (Below.refl _ _).alloc (Nat.le_refl _) _⟩
    ·rw [decide_eq_false (fun h => h3 h.2.2.2)]
     go_enter Tryz.func46, Tryz.ntmps46
     go_wp2
     go_ret
     exact ⟨rfl, (Below.refl _ _).alloc (Nat.le_refl _) _⟩
   ·rw [decide_eq_false (fun h => h2 h.2.2.1)]
    go_enter Tryz.func46, Tryz.ntmps46
    go_wp2
    go_ret
    exact ⟨rfl, (Below.refl _ _).alloc (Nat.le_refl _) _⟩
  ·rw [decide_eq_false (fun h => h1 h.2.1)]
   go_enter Tryz.func46, Tryz.ntmps46
   go_wp2
   go_ret
   exact ⟨rfl, (Below.refl _ _).alloc (Nat.le_refl _) _⟩
 ·rw [decide_eq_false (fun h => h0 h.1)]
  go_enter Tryz.func46, Tryz.ntmps46
  go_wp2
  go_ret
  exact ⟨rfl, (Below.refl _ _).alloc (Nat.le_refl _) _⟩
theorem prightAttr_any (a : Nat) (w : World) : Calls Tryz.prog 47 #[.int .u16 (a : Int)] w fun e w' => e = .returned (.bool (attrB a)) ∧ Below w.heap.size w w' := by
 have h := fun W => right_fit ⟨32, a, 0⟩ (by show (-2147483648 : Int) ≤ 32; omega) (by show (32 : Int) ≤ 2147483647; omega) (by show 0 < 256; omega) W
 rw [show cellB ⟨32, a, 0⟩ = attrB a by
  have e : mayR 32 = true := by decide
  unfold cellB
  rw [e]
  simp] at h
 have H := Lib.hid h
 clear h
 go_enter Tryz.func47, Tryz.ntmps47
 go_wp2_with (refine (H.out _).mono ?_; rintro e w4 ⟨rfl, b4⟩)
 go_ret
 exact ⟨rfl, b4⟩
theorem prightRegion_any (m : Int) (s : Sc) (A1 A2 A3 A4 A5 A6 : Option Addr) (n1 n2 n3 n4 n5 n6 k1 k2 k3 k4 k5 k6 : Nat) (w : World) : Calls Tryz.prog 48 #[.agg (vNq m s A1 A2 A3 A4 A5 A6 n1 n2 n3 n4 n5 n6 k1 k2 k3 k4 k5 k6)] w fun e w' => (∃ b, e = .returned (.bool b) ∧ (b = true ↔ (s.rows = 1 ∧ s.top = 0 ∧ s.bottom = 0) ∨ (s.rows ≠ 1 ∧ 0 ≤ s.top ∧ s.top < s.bottom ∧ s.bottom < s.rows))) ∧ Below w.heap.size w w' := by
 by_cases h1 : s.rows = 1
 ·have e1 : (s.rows == 1) = true := by simpa using h1
  have HH1 := Lib.hid h1
  clear h1
  by_cases h2 : s.top = 0
  ·have e2 : (s.top == 0) = true := by simpa using h2
   have HH2 := Lib.hid h2
   clear h2
   by_cases h3 : s.bottom = 0
   ·have e3 : (s.bottom == 0) = true := by simpa using h3
    have HH3 := Lib.hid h3
    clear h3
    go_enter Tryz.func48, Tryz.ntmps48
    go_wp2
    go_ret
    exact ⟨⟨_, rfl, by simp [HH1.out, HH2.out, HH3.out]⟩, (Below.refl _ _).alloc (Nat.le_refl _) _⟩
   ·have e3 : (s.bottom == 0) = false := by simpa using h3
    have HH3 := Lib.hid h3
    clear h3
    go_enter Tryz.func48, Tryz.ntmps48
    go_wp2
    go_ret
    exact ⟨⟨_, rfl, by simp [HH1.out, HH2.out, HH3.out]⟩, (Below.refl _ _).alloc (Nat.le_refl _) _⟩
  ·have e2 : (s.top == 0) = false := by simpa using h2
   have HH2 := Lib.hid h2
   clear h2
   go_enter Tryz.func48, Tryz.ntmps48
   go_wp2
   go_ret
   exact ⟨⟨_, rfl, by simp [HH1.out, HH2.out]⟩, (Below.refl _ _).alloc (Nat.le_refl _) _⟩
 ·have e1 : (s.rows == 1) = false := by simpa using h1
  have HH1 := Lib.hid h1
  have K0 := Lib.hid (heap_alloc_new w (.cells (vNq m s A1 A2 A3 A4 A5 A6 n1 n2 n3 n4 n5 n6 k1 k2 k3 k4 k5 k6) 30))
  have HC := Lib.hid (fun W => pisRegion_any m s A1 A2 A3 A4 A5 A6 n1 n2 n3 n4 n5 n6 k1 k2 k3 k4 k5 k6 s.top s.bottom W)
  clear h1
  go_enter Tryz.func48, Tryz.ntmps48
  go_upto_region 3 with fail
  refine wp_region_lit ?_
  refine wpl_loadS rfl (.tmp 1) rfl rfl K0.out rfl ?_
  go_wp2_with (refine (HC.out _).mono ?_; rintro e w4 ⟨rfl, b4⟩)
  go_ret
  exact ⟨⟨_, rfl, by simp [HH1.out]⟩, ((Below.refl _ _).alloc (Nat.le_refl _) _).trans (b4.mono (by simp))⟩
def rowL (l : List Cl) (c y : Nat) : List Cl := (l.drop (y * c)).take c
section
variable {l : List Cl} {r c : Nat}
theorem row_end {y : Nat} (hy : y < r) : y * c + c ≤ r * c := by
 have := Nat.mul_le_mul_right c (show y + 1 ≤ r from hy)
 rw [Nat.add_mul, Nat.one_mul] at this
 exact this
theorem rowL_len (hg : GOk l.length r c) {y : Nat} (hy : y < r) : (rowL l c y).length = c := by
 have h := row_end (c := c) hy
 rw [← hg.n] at h
 unfold rowL
 simp
 omega
theorem rowL_ok (hg : GOk l.length r c) {y : Nat} (hy : y < r) : GOk (rowL l c y).length 1 c := ⟨hg.c1, hg.c2, Nat.le_refl _, by omega, by rw [rowL_len hg hy, Nat.one_mul]⟩
theorem rowL_getC (y x : Nat) (hx : x < c) : getC (rowL l c y) x = getC l (y * c + x) := by
 unfold rowL
 rw [getC_take _ _ hx, getC_drop]
theorem badH_two {l m : List Cl} {c y y' x : Nat} (he : ∀ x, x < c → getC m (y * c + x) = getC l (y' * c + x)) (hx : x < c) : badH m c (y * c + x) x = badH l c (y' * c + x) x := by
 unfold badH
 rw [he x hx]
 have e1 : (decide (x + 1 = c) || decide ((getC m (y * c + x + 1)).h ≠ 2)) = (decide (x + 1 = c) || decide ((getC l (y' * c + x + 1)).h ≠ 2)) := by
  by_cases h : x + 1 = c
  ·simp [h]
  ·rw [Nat.add_assoc, he (x + 1) (by omega), ← Nat.add_assoc]
 have e2 : (decide (x = 0) || decide ((getC m (y * c + x - 1)).h ≠ 1)) = (decide (x = 0) || decide ((getC l (y' * c + x - 1)).h ≠ 1)) := by
  by_cases h : x = 0
  ·simp [h]
  ·rw [show y * c + x - 1 = y * c + (x - 1) by omega, he (x - 1) (by omega), show y' * c + x - 1 = y' * c + (x - 1) by omega]
 rw [e1, e2]
theorem mend_row0 {F G : List Cl} {y : Nat} (hF : GOk F.length r c) (hG : GOk G.length 1 c) (hy : y < r) (h1 : ∀ x, x < c → getC G x = getC F (y * c + x)) (x : Nat) (hx : x < c) : getC (mendL G (c : Int) 0) x = getC (mendL F (c : Int) (y : Int)) (y * c + x) := by
 have a := mendL_row hG 0 (by omega) x hx
 rw [Nat.zero_mul, Nat.zero_add] at a
 have b := badH_two (l := F) (m := G) (c := c) (y := 0) (y' := y) (x := x) (fun z hz => by rw [Nat.zero_mul, Nat.zero_add]; exact h1 z hz) hx
 rw [Nat.zero_mul, Nat.zero_add] at b
 rw [show ((0 : Nat) : Int) = 0 from rfl] at a
 rw [a, mendL_row hF y hy x hx, b, h1 x hx]
end
section
variable {l : List Cl} {r c : Nat}
end
end Go.Proofs.YthncoigjfhmldaaGreat
