/- What is proved here: the contract of the landed screen's own: the same screen, all its lists in new memory; the contract of the document's cellsRight: which cells a screen may have, halves whole; which parsers the document calls right, where no bytes are pending and the first test goes through. -/
import Derived.Test.YtlolgfgcgfjdjaaGreatDoorS20
import Derived.Test.YtlolgfgcgfjdjaaGreatDoorS10
import Derived.Test.YtlolgfgcgfjdjaaGreatDoorS15
import Derived.Test.YtlolgfgcgfjdjaaGreatDoorS5
import Derived.Deep.QuietTactic
import Derived.BigQuiet
import Derived.Test.YtlolgfgcgfjdjaaGreatDoorS9
namespace Go.Proofs.YtlolgfgcgfjdjaaGreatDoor
open Go.RowKit
set_option linter.unusedVariables false
set_option linter.unusedSimpArgs false
set_option maxHeartbeats 4000000
set_option maxRecDepth 100000
structure OwnS (w : World) (base : Nat) (s : Sc) (xc xt xo xp xi xu : Value) : Prop where
 c : OC w base xc s.cells
 t : OT w base xt s.tabs
 o : OC w base xo s.other
 p : OI w base xp s.p.params
 i : OB w base xi s.p.inter
 u : OB w base xu s.p.utf
 ap : ∀ g, xc.ownBlock = some g → xo.ownBlock = some g → False
def SelfPost (s : Sc) (w : World) (e : Ending) (w' : World) : Prop := ∃ xc xt xo xp xi xu, e = .returned (.agg (vS s xc xt xo xp xi xu)) ∧ OwnS w' w.heap.size s xc xt xo xp xi xu ∧ Below w.heap.size w w'
theorem OwnS.ps {w : World} {base : Nat} {s : Sc} {xc xt xo xp xi xu : Value} (h : OwnS w base s xc xt xo xp xi xu) : PsL w base xc xt xo s := ⟨h.c, h.t, h.o, h.ap⟩
theorem ownF {w w4 w5 : World} {X X' : Array Value} {t : TypeId} {y : Obj} (i : Nat) (u : Value) (hb4 : Below w.heap.size w w4) (hz4 : w.heap.size + 1 + 1 ≤ w4.heap.size) (k0 : w4.heap[w.heap.size]? = some (.cells X t)) (k1 : w4.heap[w.heap.size + 1]? = some y) (hX : X.setIfInBounds i u = X') (hb : Below (w4.setCell ⟨w.heap.size, i, none⟩ u).heap.size (w4.setCell ⟨w.heap.size, i, none⟩ u) w5) :
  w5.heap[w.heap.size]? = some (.cells X' t) ∧ w5.heap[w.heap.size + 1]? = some y ∧ Below w.heap.size w w5 ∧ w.heap.size + 1 + 1 ≤ w5.heap.size ∧ (∀ e size n v xs, w4.ownsRow (w.heap.size + 1 + 1) e size v n xs → w5.ownsRow (w.heap.size + 1 + 1) e size v n xs) := by
 subst hX
 have hs : (w4.setCell ⟨w.heap.size, i, none⟩ u).heap.size = w4.heap.size := by simp
 have hz := hb.size
 refine ⟨(hb.block _ (by omega)).trans (heap_setCell_same w4 _ i _ t u k0), (hb.block _ (by omega)).trans ((Below.heap_setCell _ _ _ _ (by simp)).trans k1), (hb4.setCell (p := ⟨w.heap.size, i, none⟩) (Nat.le_refl _) u).trans (hb.mono (by have := hb4.size; omega)), by omega, fun e size n v xs h => ?_⟩
 have h1 := ownsRow_setCell_below h (a := ⟨w.heap.size, i, none⟩) (by show w.heap.size < w.heap.size + 1 + 1; omega) u
 exact own_keep h1 (fun g hg => hb.block g (World.ownsRow.lt h1 g hg).2)
theorem pown_any (s : Sc) (vc vt vo vp vi vu : Value) (S : Nat → Prop) (w : World) (hS : ∀ x, S x → x < w.heap.size) (hs : SSl w S s vc vt vo vp vi vu) (hn : s.cells.length ≤ 1048576 ∧ s.other.length ≤ 1048576 ∧ s.tabs.length ≤ 1048576 ∧ s.p.params.length ≤ 1048576 ∧ s.p.inter.length ≤ 1048576 ∧ s.p.utf.length ≤ 1048576) :
  Calls Tryz.prog 39 #[.agg (vS s vc vt vo vp vi vu)] w (SelfPost s w) := by
 obtain ⟨g1, g2, g3, g4, g5, g6⟩ := hs
 have HC : Hid (∀ w2, Below w.heap.size w w2 → CS w2 w2.heap.size vc s.cells) := fun w2 hb => ((g1.cs hS).below hb).more hb.size
 have HT : Hid (∀ w2, Below w.heap.size w w2 → TS w2 w2.heap.size vt s.tabs) := fun w2 hb => ((show TS w w.heap.size vt s.tabs from g2.mono hS).below hb).more hb.size
 have HO : Hid (∀ w2, Below w.heap.size w w2 → CS w2 w2.heap.size vo s.other) := fun w2 hb => ((g3.cs hS).below hb).more hb.size
 have HP : Hid (∀ w2, Below w.heap.size w w2 → IS w2 w2.heap.size vp s.p.params) := fun w2 hb => ((g4.is hS).below hb).more hb.size
 have HI : Hid (∀ w2, Below w.heap.size w w2 → BS w2 w2.heap.size vi s.p.inter) := fun w2 hb => ((g5.bs hS).below hb).more hb.size
 have HU : Hid (∀ w2, Below w.heap.size w w2 → BS w2 w2.heap.size vu s.p.utf) := fun w2 hb => ((g6.bs hS).below hb).more hb.size
 obtain ⟨A1, k1, rfl, p1, q1⟩ := g1.form
 obtain ⟨A2, k2, rfl, p2, q2⟩ := g2.form
 obtain ⟨A3, k3, rfl, p3, q3⟩ := g3.form
 obtain ⟨A4, k4, rfl, p4, q4⟩ := g4.form
 obtain ⟨A5, k5, rfl, p5, q5⟩ := g5.form
 obtain ⟨A6, k6, rfl, p6, q6⟩ := g6.form
 clear g1 g2 g3 g4 g5 g6 hS
 have HL := Lib.hid hn
 clear hn
 have HN := Lib.hid (two_new w)
 go_enter Tryz.func39, Tryz.ntmps39
 go_upto_region 7 with (first
  | (go_at_call 50; (with_reducible refine (cloneC_any _ s.cells _ (HC.out _ (HN.out _ _).1) HL.out.1).mono ?_); rintro e w1 ⟨v1, rfl, ho, hb⟩; obtain ⟨⟨k0, k1'⟩, hb', hz'⟩ := two_keptS hb; rw [(HN.out _ _).2] at ho; have HO1 := Lib.hid ho; obtain ⟨B1, m1, rfl, t1, u1⟩ := ho.cs.form; have K1 := Lib.hid k0; have Z1 := Lib.hid k1'; have HB1 := Lib.hid hb'; have HZ1 := Lib.hid hz'; obtain ⟨a1, b1⟩ := cellR (v := .slice A1 s.cells.length k1) k0 2 rfl; obtain ⟨c1, -⟩ := cellR (v := .slice A3 s.other.length k3) k0 16 rfl; clear k0 k1' hb hb' hz' ho)
  | (go_at_call 50; (with_reducible refine (cloneC_any _ s.other _ (HO.out _ (HB1.out.setCell (Nat.le_refl _) _)) HL.out.2.1).mono ?_); rintro e w2 ⟨v2, rfl, ho, hb⟩; obtain ⟨k0, k1', hb', hz', hkeep⟩ := ownF (X' := vS s (.slice B1 s.cells.length m1) (.slice A2 s.tabs.length k2) (.slice A3 s.other.length k3) (.slice A4 s.p.params.length k4) (.slice A5 s.p.inter.length k5) (.slice A6 s.p.utf.length k6)) 2 _ HB1.out HZ1.out K1.out Z1.out rfl hb; rw [size_set] at ho; have HO1_2 := Lib.hid (hkeep _ _ _ _ _ HO1.out); have HO2 := Lib.hid (own_lower ho HZ1.out); have HAP := Lib.hid (show ∀ g, Value.ownBlock (.slice B1 s.cells.length m1) = some g → v2.ownBlock = some g → False from fun g e e2 => by have h1 := (World.ownsRow.lt HO1.out g e).2; have h2 := (World.ownsRow.lt ho g e2).1; omega); obtain ⟨B2, m2, rfl, t2, u2⟩ := ho.cs.form; have K2 := Lib.hid k0; have Z2 := Lib.hid k1'; have HB2 := Lib.hid hb'; have HZ2 := Lib.hid hz'; obtain ⟨a2, b2⟩ := cellR (v := .slice A3 s.other.length k3) k0 16 rfl; obtain ⟨c2, -⟩ := cellR (v := .slice A2 s.tabs.length k2) k0 9 rfl; clear k0 k1' hb hb' hz' ho hkeep)
  | (go_at_call 65; (with_reducible refine (cloneT_any _ s.tabs _ (HT.out _ (HB2.out.setCell (Nat.le_refl _) _)) HL.out.2.2.1).mono ?_); rintro e w3 ⟨v3, rfl, ho, hb⟩; obtain ⟨k0, k1', hb', hz', hkeep⟩ := ownF (X' := vS s (.slice B1 s.cells.length m1) (.slice A2 s.tabs.length k2) (.slice B2 s.other.length m2) (.slice A4 s.p.params.length k4) (.slice A5 s.p.inter.length k5) (.slice A6 s.p.utf.length k6)) 16 _ HB2.out HZ2.out K2.out Z2.out rfl hb; rw [size_set] at ho; have HO1_3 := Lib.hid (hkeep _ _ _ _ _ HO1_2.out); have HO2_3 := Lib.hid (hkeep _ _ _ _ _ HO2.out); have HO3 := Lib.hid (own_lower ho HZ2.out); obtain ⟨B3, m3, rfl, t3, u3⟩ := ho.sl.form; have K3 := Lib.hid k0; have Z3 := Lib.hid k1'; have HB3 := Lib.hid hb'; have HZ3 := Lib.hid hz'; obtain ⟨a3, b3⟩ := cellR (v := .slice A2 s.tabs.length k2) k0 9 rfl; obtain ⟨c3, -⟩ := cellR (v := .slice A4 s.p.params.length k4) k0 21 rfl; clear k0 k1' hb hb' hz' ho hkeep)
  | (go_at_call 66; (with_reducible refine (cloneI_any _ s.p.params _ (HP.out _ (HB3.out.setCell (Nat.le_refl _) _)) HL.out.2.2.2.1).mono ?_); rintro e w4 ⟨v4, rfl, ho, hb⟩; obtain ⟨k0, k1', hb', hz', hkeep⟩ := ownF (X' := vS s (.slice B1 s.cells.length m1) (.slice B3 s.tabs.length m3) (.slice B2 s.other.length m2) (.slice A4 s.p.params.length k4) (.slice A5 s.p.inter.length k5) (.slice A6 s.p.utf.length k6)) 9 _ HB3.out HZ3.out K3.out Z3.out rfl hb; rw [size_set] at ho; have HO1_4 := Lib.hid (hkeep _ _ _ _ _ HO1_3.out); have HO2_4 := Lib.hid (hkeep _ _ _ _ _ HO2_3.out); have HO3_4 := Lib.hid (hkeep _ _ _ _ _ HO3.out); have HO4 := Lib.hid (own_lower ho HZ3.out); obtain ⟨B4, m4, rfl, t4, u4⟩ := ho.sl.form; have K4 := Lib.hid k0; have Z4 := Lib.hid k1'; have HB4 := Lib.hid hb'; have HZ4 := Lib.hid hz'; obtain ⟨a4, b4⟩ := cellR (v := .slice A4 s.p.params.length k4) k0 21 rfl; obtain ⟨c4, -⟩ := cellR (v := .slice A5 s.p.inter.length k5) k0 22 rfl; clear k0 k1' hb hb' hz' ho hkeep)
  | (go_at_call 67; (with_reducible refine (cloneB_any _ s.p.inter _ (HI.out _ (HB4.out.setCell (Nat.le_refl _) _)) HL.out.2.2.2.2.1).mono ?_); rintro e w5 ⟨v5, rfl, ho, hb⟩; obtain ⟨k0, k1', hb', hz', hkeep⟩ := ownF (X' := vS s (.slice B1 s.cells.length m1) (.slice B3 s.tabs.length m3) (.slice B2 s.other.length m2) (.slice B4 s.p.params.length m4) (.slice A5 s.p.inter.length k5) (.slice A6 s.p.utf.length k6)) 21 _ HB4.out HZ4.out K4.out Z4.out rfl hb; rw [size_set] at ho; have HO1_5 := Lib.hid (hkeep _ _ _ _ _ HO1_4.out); have HO2_5 := Lib.hid (hkeep _ _ _ _ _ HO2_4.out); have HO3_5 := Lib.hid (hkeep _ _ _ _ _ HO3_4.out); have HO4_5 := Lib.hid (hkeep _ _ _ _ _ HO4.out); have HO5 := Lib.hid (own_lower ho HZ4.out); obtain ⟨B5, m5, rfl, t5, u5⟩ := ho.sl.form; have K5 := Lib.hid k0; have Z5 := Lib.hid k1'; have HB5 := Lib.hid hb'; have HZ5 := Lib.hid hz'; obtain ⟨a5, b5⟩ := cellR (v := .slice A5 s.p.inter.length k5) k0 22 rfl; obtain ⟨c5, -⟩ := cellR (v := .slice A6 s.p.utf.length k6) k0 23 rfl; clear k0 k1' hb hb' hz' ho hkeep)
  | (go_at_call 67; (with_reducible refine (cloneB_any _ s.p.utf _ (HU.out _ (HB5.out.setCell (Nat.le_refl _) _)) HL.out.2.2.2.2.2).mono ?_); rintro e w6 ⟨v6, rfl, ho, hb⟩; obtain ⟨k0, k1', hb', hz', hkeep⟩ := ownF (X' := vS s (.slice B1 s.cells.length m1) (.slice B3 s.tabs.length m3) (.slice B2 s.other.length m2) (.slice B4 s.p.params.length m4) (.slice B5 s.p.inter.length m5) (.slice A6 s.p.utf.length k6)) 22 _ HB5.out HZ5.out K5.out Z5.out rfl hb; rw [size_set] at ho; have HO1_6 := Lib.hid (hkeep _ _ _ _ _ HO1_5.out); have HO2_6 := Lib.hid (hkeep _ _ _ _ _ HO2_5.out); have HO3_6 := Lib.hid (hkeep _ _ _ _ _ HO3_5.out); have HO4_6 := Lib.hid (hkeep _ _ _ _ _ HO4_5.out); have HO5_6 := Lib.hid (hkeep _ _ _ _ _ HO5.out); have HO6 := Lib.hid (own_lower ho HZ5.out); obtain ⟨B6, m6, rfl, t6, u6⟩ := ho.sl.form; have K6 := Lib.hid k0; have Z6 := Lib.hid k1'; have HB6 := Lib.hid hb'; have HZ6 := Lib.hid hz'; obtain ⟨a6, b6⟩ := cellR (v := .slice A6 s.p.utf.length k6) k0 23 rfl; clear k0 k1' hb hb' hz' ho hkeep))
 have hk7 : (World.setCell w6 ⟨w.heap.size, 23, none⟩ (.slice B6 s.p.utf.length m6)).heap[w.heap.size]? = some (.cells (vS s (.slice B1 s.cells.length m1) (.slice B3 s.tabs.length m3) (.slice B2 s.other.length m2) (.slice B4 s.p.params.length m4) (.slice B5 s.p.inter.length m5) (.slice B6 s.p.utf.length m6)) 31) := heap_setCell_same w6 _ 23 _ _ _ K6.out
 have hz7 : (World.setCell w6 ⟨w.heap.size, 23, none⟩ (.slice B6 s.p.utf.length m6)).heap[w.heap.size + 1]? = _ := (Below.heap_setCell _ _ _ _ (by simp)).trans Z6.out
 have hs7 := size_set w6 ⟨w.heap.size, 23, none⟩ (.slice B6 s.p.utf.length m6)
 have hb7 := HB6.out.setCell (p := ⟨w.heap.size, 23, none⟩) (Nat.le_refl _) (.slice B6 s.p.utf.length m6)
 have ho1 := ownsRow_setCell_below HO1_6.out (a := ⟨w.heap.size, 23, none⟩) (by show w.heap.size < w.heap.size + 1 + 1; omega) (.slice B6 s.p.utf.length m6)
 have ho2 := ownsRow_setCell_below HO2_6.out (a := ⟨w.heap.size, 23, none⟩) (by show w.heap.size < w.heap.size + 1 + 1; omega) (.slice B6 s.p.utf.length m6)
 have ho3 := ownsRow_setCell_below HO3_6.out (a := ⟨w.heap.size, 23, none⟩) (by show w.heap.size < w.heap.size + 1 + 1; omega) (.slice B6 s.p.utf.length m6)
 have ho4 := ownsRow_setCell_below HO4_6.out (a := ⟨w.heap.size, 23, none⟩) (by show w.heap.size < w.heap.size + 1 + 1; omega) (.slice B6 s.p.utf.length m6)
 have ho5 := ownsRow_setCell_below HO5_6.out (a := ⟨w.heap.size, 23, none⟩) (by show w.heap.size < w.heap.size + 1 + 1; omega) (.slice B6 s.p.utf.length m6)
 have ho6 := ownsRow_setCell_below HO6.out (a := ⟨w.heap.size, 23, none⟩) (by show w.heap.size < w.heap.size + 1 + 1; omega) (.slice B6 s.p.utf.length m6)
 have hz6 := HZ6.out
 generalize World.setCell w6 _ _ = W7 at *
 have hz8 : W7.heap.size = w6.heap.size := hs7
 refine wp_region_lit ?_
 refine wpl_loadS rfl (.tmp 1) rfl rfl hk7 rfl ?_
 refine wpl_storeS rfl (.tmp 2) (.tmp 33) rfl rfl rfl hz7 rfl rfl (vS_one s rfl rfl rfl rfl rfl rfl) ?_
 go_wp2
 refine bodyPost_ret (v := .agg (vS s (.slice B1 s.cells.length m1) (.slice B3 s.tabs.length m3) (.slice B2 s.other.length m2) (.slice B4 s.p.params.length m4) (.slice B5 s.p.inter.length m5) (.slice B6 s.p.utf.length m6))) (resultS Tryz.results39 rfl (heap_setRow_same hz7) rfl) rfl ?_
 have hlow : ∀ e size n v xs, W7.ownsRow (w.heap.size + 1 + 1) e size v n xs → (W7.setRow (w.heap.size + 1) (vS s (.slice B1 s.cells.length m1) (.slice B3 s.tabs.length m3) (.slice B2 s.other.length m2) (.slice B4 s.p.params.length m4) (.slice B5 s.p.inter.length m5) (.slice B6 s.p.utf.length m6))).ownsRow w.heap.size e size v n xs := fun e size n v xs h => own_lower (own_keep h (fun g hg => heap_setRow_other (by have := (World.ownsRow.lt h g hg).1; omega))) (by omega)
 refine ⟨_, _, _, _, _, _, rfl, ⟨hlow _ _ _ _ _ ho1, hlow _ _ _ _ _ ho3, hlow _ _ _ _ _ ho2, hlow _ _ _ _ _ ho4, hlow _ _ _ _ _ ho5, hlow _ _ _ _ _ ho6, HAP.out⟩, below_setRow hb7 (by omega) _⟩
end Go.Proofs.YtlolgfgcgfjdjaaGreatDoor

namespace Go.Proofs.YtlolgfgcgfjdjaaGreatDoor
open Go.RowKit
set_option linter.unusedVariables false
set_option linter.unusedSimpArgs false
set_option maxHeartbeats 400000
set_option maxRecDepth 100000
def CellsR (l : List Cl) (r c : Nat) : Prop := l.length = r * c ∧ (∀ x ∈ l, cellB x = true) ∧ Whole l r c
def CellFit (c : Cl) : Prop := -2147483648 ≤ c.r ∧ c.r ≤ 2147483647 ∧ c.h < 256
def CellsRPost (l : List Cl) (r c : Nat) (w : World) (e : Ending) (w' : World) : Prop := ∃ b, e = .returned (.bool b) ∧ (b = true ↔ CellsR l r c) ∧ Below w.heap.size w w'
theorem cellsR_no {l : List Cl} {r c : Nat} {w w' : World} (h : ¬ CellsR l r c) (hb : Below w.heap.size w w') : CellsRPost l r c w (.returned (.bool false)) w' := ⟨false, rfl, by simp [h], hb⟩
def CrRel1 (l : List Cl) (w : World) (i : Value) (wr : World) : Prop := ∃ k : Nat, k ≤ l.length ∧ i = .int .i64 (k : Int) ∧ (∀ j x, j < k → l[j]? = some x → cellB x = true) ∧ Below w.heap.size w wr
theorem row_of_mend {l : List Cl} {r c y : Nat} (hg : GOk l.length r c) (hy : y < r) (h : ∀ x, x < c → getC (mendL l c y) (y * c + x) = getC l (y * c + x)) : RowW l c y := by
 intro x hx
 have e := h x hx
 rw [mendL_row hg y hy x hx] at e
 cases hb : badH l c (y * c + x) x with
 | false => rfl
 | true =>
  rw [if_pos hb] at e
  have h0 : (getC l (y * c + x)).h = 0 := by rw [← e]; rfl
  have : badH l c (y * c + x) x = false := badH_no.2 ⟨fun e1 => by omega, fun e1 => by omega⟩
  rw [this] at hb
  cases hb
theorem cl_ne {a b : Cl} (hne : a ≠ b) : ((a.r == b.r) = false) ∨ (a.r = b.r ∧ ((a.a : Int) == (b.a : Int)) = false) ∨ (a.r = b.r ∧ a.a = b.a ∧ ((a.h : Int) == (b.h : Int)) = false) := by
 by_cases e1 : a.r = b.r
 ·by_cases e2 : a.a = b.a
  ·refine .inr (.inr ⟨e1, e2, beq_eq_false_iff_ne.2 fun e => hne ?_⟩)
   cases a
   cases b
   simp only at e1 e2 e
   rw [e1, e2]
   congr 1
   omega
  ·exact .inr (.inl ⟨e1, beq_eq_false_iff_ne.2 (by omega)⟩)
 ·exact .inl (beq_eq_false_iff_ne.2 e1)
end Go.Proofs.YtlolgfgcgfjdjaaGreatDoor

namespace Go.Proofs.YtlolgfgcgfjdjaaGreatDoor
open Go.RowKit
set_option linter.unusedVariables false
set_option linter.unusedSimpArgs false
set_option maxHeartbeats 400000
set_option maxRecDepth 100000
def RightP (m : Int) (pv : Nat) (ps : List Int) (is us : List UInt8) : Prop :=
 (0 ≤ m ∧ m ≤ 7 ∧ ps.length ≤ 16 ∧ is.length ≤ 2 ∧ (0 < us.length → m = 0 ∧ beginsL us = true)) ∧ (∀ x ∈ ps, 0 ≤ x ∧ x ≤ 65535) ∧ (∀ b ∈ is, interB b = true) ∧ (pv = 0 ∨ (60 ≤ pv ∧ pv ≤ 63)) ∧ ((m = 4 ∨ m = 5) ∨ (pv = 0 ∧ ps.length = 0)) ∧ ((m = 2 ∨ m = 5) ↔ 0 < is.length)
def RightPost (m : Int) (pv : Nat) (ps : List Int) (is us : List UInt8) (w : World) (e : Ending) (w' : World) : Prop :=
 ∃ r, e = .returned (.bool r) ∧ (r = true ↔ RightP m pv ps is us) ∧ Below w.heap.size w w'
theorem right_no {m : Int} {pv : Nat} {ps : List Int} {is us : List UInt8} {w w' : World} (h : ¬ RightP m pv ps is us) (hb : Below w.heap.size w w') : RightPost m pv ps is us w (.returned (.bool false)) w' := ⟨false, rfl, by simp [h], hb⟩
end Go.Proofs.YtlolgfgcgfjdjaaGreatDoor
