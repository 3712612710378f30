/- What is proved here: parts of layer 10's proofs. -/
import Derived.Test.YthepofkdgbcifaaGreatS8
import Derived.Laws.Cover3
namespace Go.Proofs.YthepofkdgbcifaaGreat
open Go.RowKit
set_option linter.unusedVariables false
set_option linter.unusedSimpArgs false
set_option maxHeartbeats 8000000
set_option maxRecDepth 100000
@[reducible] def zN : List Value := [.int .i64 0, .int .i64 0, .slice none 0 0, .int .i64 0, .int .i64 0, .bool false, .int .u16 0, .int .i64 0, .int .i64 0, .slice none 0 0, .int .i64 0, .int .i64 0, .int .u16 0, .bool false, .bool false, .bool false, .slice none 0 0, .int .i64 0, .int .i64 0, .int .i64 0, .int .u8 0, .slice none 0 0, .slice none 0 0, .slice none 0 0]
@[reducible] def sO (xs : List Value) : Obj := .cells xs.toArray 30
structure SBox (w : World) (g : Nat) (q : Rd) (xs : List Value) (vt : Value) (ts : List Bool) (vc : Value) (cs : List Cl) (vo : Value) (os : List Cl) (wr : World) : Prop where
 z : wr.heap[w.heap.size]? = some (sO zN)
 b : wr.heap[w.heap.size + 1]? = some (sO xs)
 s : w.heap.size + 2 ≤ wr.heap.size
 r : RD wr g q
 f : FrG g w wr
 t : OT wr (w.heap.size + 2) vt ts
 c : OC wr (w.heap.size + 2) vc cs
 o : OC wr (w.heap.size + 2) vo os
section
variable {w wr w2 : World} {g : Nat} {q q2 : Rd} {xs : List Value} {vt vc vo : Value} {ts : List Bool} {cs os : List Cl}
theorem SBox.fr (h : SBox w g q xs vt ts vc cs vo os wr) (hg : g < w.heap.size) (hr : RD w2 g q2) (hf : FrG g wr w2) : SBox w g q2 xs vt ts vc cs vo os w2 := by
 have := h.s
 exact ⟨(hf.block _ (by omega) (by omega)).trans h.z, (hf.block _ (by omega) (by omega)).trans h.b, Nat.le_trans h.s hf.size, hr, h.f.trans hf, own_fr h.t (by omega) hf, own_fr h.c (by omega) hf, own_fr h.o (by omega) hf⟩
theorem SBox.set (i : Nat) (u : Value) (h : SBox w g q xs vt ts vc cs vo os wr) (hg : g < w.heap.size) : SBox w g q (xs.set i u) vt ts vc cs vo os (wr.setCell ⟨w.heap.size + 1, i, none⟩ u) :=
 ⟨(Below.heap_setCell _ _ _ _ (by simp)).trans h.z, (heap_setCell_same _ _ i _ _ u h.b).trans (by rw [List.setIfInBounds_toArray]), by simpa using h.s, h.r.set (by simp; omega) _, Fr.setCell h.f (.inr (by simp)) _, own_set h.t (by simp) _, own_set h.c (by simp) _, own_set h.o (by simp) _⟩
theorem SBox.tabs {vt' : Value} {ts' : List Bool} (h : SBox w g q xs vt ts vc cs vo os wr) (ho : OT wr (w.heap.size + 2) vt' ts') : SBox w g q xs vt' ts' vc cs vo os wr := ⟨h.z, h.b, h.s, h.r, h.f, ho, h.c, h.o⟩
theorem SBox.cells {vt' : Value} {ts' : List Cl} (h : SBox w g q xs vt ts vc cs vo os wr) (ho : OC wr (w.heap.size + 2) vt' ts') : SBox w g q xs vt ts vt' ts' vo os wr := ⟨h.z, h.b, h.s, h.r, h.f, h.t, ho, h.o⟩
theorem SBox.others {vt' : Value} {ts' : List Cl} (h : SBox w g q xs vt ts vc cs vo os wr) (ho : OC wr (w.heap.size + 2) vt' ts') : SBox w g q xs vt ts vc cs vt' ts' wr := ⟨h.z, h.b, h.s, h.r, h.f, h.t, h.c, ho⟩
theorem SBox.cell {u : Value} (h : SBox w g q xs vt ts vc cs vo os wr) (i : Nat) (hu : xs[i]? = some u) : wr.cell? ⟨w.heap.size + 1, i, none⟩ = some u ∧ wr.frozen? ⟨w.heap.size + 1, i, none⟩ = false := cellR h.b i (by rw [List.getElem?_toArray]; exact hu)
end
theorem sbox0 {w : World} {g : Nat} {q : Rd} (h : RD w g q) : SBox w g q zN (.slice none 0 0) [] (.slice none 0 0) [] (.slice none 0 0) [] ((w.alloc (sO zN)).alloc (sO zN)) := by
 have hl := h.lt
 have h2 := two_new w (sO zN) (sO zN)
 obtain ⟨k0, k1⟩ := two_keptB (w := w) (x := sO zN) (y := sO zN) (Below.refl _ _)
 exact ⟨k0, k1, by rw [h2.2]; omega, h.keep h2.1, Fr.of h2.1 _, OT.nil _ _, World.ownsRow_nil _ _ _ _, World.ownsRow_nil _ _ _ _⟩
theorem own_row {w wr : World} {size n : Nat} {e : TypeId} {v : Value} {xs : List Value} {ys : Array Value} (h : wr.ownsRow (w.heap.size + 2) e size v n xs) : (wr.setRow w.heap.size ys).ownsRow w.heap.size e size v n xs :=
 own_lowS (own_keep h (fun b hb => heap_setRow_other (by have := (World.ownsRow.lt h b hb).1; omega))) (by omega)
theorem RD.row {w wr : World} {g : Nat} {q : Rd} {ys : Array Value} (h : RD wr g q) (hg : g < w.heap.size) : RD (wr.setRow w.heap.size ys) g q := by
 obtain ⟨A, c, h1, h2⟩ := h
 exact ⟨A, c, (heap_setRow_other (by omega)).trans h1, h2.below (below_setRow (Below.refl g wr) (by omega) _)⟩
theorem FrG.row {w wr : World} {g : Nat} {ys : Array Value} (h : FrG g w wr) : FrG g w (wr.setRow w.heap.size ys) := h.low (below_setRow (Below.refl _ wr) (Nat.le_refl _) _)
def ScrnPost (g : Nat) (s : Sc) (q : Rd) (w : World) (e : Ending) (w' : World) : Prop := ∃ vc vt vo vp vi vu, e = .returned (.agg (vS s vc vt vo vp vi vu)) ∧ OC w' w.heap.size vc s.cells ∧ OT w' w.heap.size vt s.tabs ∧ OC w' w.heap.size vo s.other ∧ OI w' w.heap.size vp s.p.params ∧ OB w' w.heap.size vi s.p.inter ∧ OB w' w.heap.size vu s.p.utf ∧ RD w' g q ∧ FrG g w w'
def PlPost (g : Nat) (x y : Nat) (q : Rd) (w : World) (e : Ending) (w' : World) : Prop := e = .returned (.tuple #[.int .i64 (x : Int), .int .i64 (y : Int)]) ∧ RD w' g q ∧ FrG g w w'
theorem and_bits : (List.range 16).all (fun n => ((bits .and .i64 (n : Int) 1 != 0) == decide (n % 2 = 1)) && ((bits .and .i64 (n : Int) 2 != 0) == decide (n / 2 % 2 = 1)) && ((bits .and .i64 (n : Int) 4 != 0) == decide (n / 4 % 2 = 1)) && ((bits .and .i64 (n : Int) 8 != 0) == decide (n / 8 % 2 = 1))) = true := by kernel_rfl
theorem and_bit (n : Nat) (h : n ≤ 15) : (bits .and .i64 (n : Int) 1 != 0) = decide (n % 2 = 1) ∧ (bits .and .i64 (n : Int) 2 != 0) = decide (n / 2 % 2 = 1) ∧ (bits .and .i64 (n : Int) 4 != 0) = decide (n / 4 % 2 = 1) ∧ (bits .and .i64 (n : Int) 8 != 0) = decide (n / 8 % 2 = 1) := by
 have := List.all_eq_true.1 and_bits n (List.mem_range.2 (by omega))
 simp only [Bool.and_eq_true, beq_iff_eq] at this
 exact ⟨this.1.1.1, this.1.1.2, this.1.2, this.2⟩
theorem tabsR_rest (n : Nat) : ∀ q : Rd, (tabsR n q).2.1.length ≤ q.1.length := by
 induction n with
 | zero => intro q; simp [tabsR]
 | succ n ih => intro q; exact Nat.le_trans (ih _) (numR_rest _ _)
theorem cellsR_rest (n : Nat) (q : Rd) : (cellsR n q).2.1.length ≤ q.1.length := by
 unfold cellsR
 split <;> simp
theorem screen_any (g : Nat) (q : Rd) (w : World) (h : RD w g q) (hl : q.1.length ≤ 1048576) : Calls Tryz.prog 36 #[.pointer (some ⟨g, 0, none⟩)] w (ScrnPost g (screenR q).1 (screenR q).2 w) := by
 have hg := h.lt
 have P (Q : Rd) (x y : Nat × Rd) (e1 : numR 1000 Q = x) (e2 : numR 1000 x.2 = y) (hl : Q.1.length ≤ 1048576) : y.2.1.length ≤ 1048576 ∧ x.1 ≤ 1000 ∧ y.1 ≤ 1000 ∧ Hid (∀ W, RD W g Q → Calls Tryz.prog 59 #[.pointer (some ⟨g, 0, none⟩)] W (PlPost g x.1 y.1 y.2 W)) := by
  subst e1
  subst e2
  exact ⟨Nat.le_trans (numR_rest _ _) (Nat.le_trans (numR_rest _ _) hl), numR_le _ _, numR_le _ _, Lh fun W h => place_any g Q W h hl⟩
 have N (Q : Rd) (m : Nat) (mi : Int) (hmi : (m : Int) = mi) (x : Nat × Rd) (e1 : numR m Q = x) (hm : m ≤ 65535) (hl : Q.1.length ≤ 1048576) : x.2.1.length ≤ 1048576 ∧ x.1 ≤ m ∧ Hid (∀ W, RD W g Q → Calls Tryz.prog 60 #[.pointer (some ⟨g, 0, none⟩), .int .u64 mi] W (NumPost g (x.1 : Int) x.2 W)) := by
  subst e1
  subst hmi
  exact ⟨Nat.le_trans (numR_rest _ _) hl, numR_le _ _, Lh fun W h => number_any g m Q W h hl (by omega)⟩
 obtain ⟨a1, h1⟩ : ∃ x, numR 1000 q = x := ⟨_, rfl⟩
 obtain ⟨a2, h2⟩ : ∃ x, numR 1000 a1.2 = x := ⟨_, rfl⟩
 obtain ⟨a3, h3⟩ : ∃ x, numR 1000 a2.2 = x := ⟨_, rfl⟩
 obtain ⟨a4, h4⟩ : ∃ x, numR 1000 a3.2 = x := ⟨_, rfl⟩
 obtain ⟨a5, h5⟩ : ∃ x, numR 15 a4.2 = x := ⟨_, rfl⟩
 obtain ⟨a6, h6⟩ : ∃ x, numR 65535 a5.2 = x := ⟨_, rfl⟩
 obtain ⟨a7, h7⟩ : ∃ x, numR 1000 a6.2 = x := ⟨_, rfl⟩
 obtain ⟨a8, h8⟩ : ∃ x, numR 1000 a7.2 = x := ⟨_, rfl⟩
 obtain ⟨a9, h9⟩ : ∃ x, numR 1000 a8.2 = x := ⟨_, rfl⟩
 obtain ⟨a10, h10⟩ : ∃ x, numR 1000 a9.2 = x := ⟨_, rfl⟩
 obtain ⟨a11, h11⟩ : ∃ x, numR 65535 a10.2 = x := ⟨_, rfl⟩
 obtain ⟨tb, h12⟩ : ∃ x, tabsR a2.1 a11.2 = x := ⟨_, rfl⟩
 obtain ⟨ce, h13⟩ : ∃ x, cellsR (a1.1 * a2.1) tb.2 = x := ⟨_, rfl⟩
 obtain ⟨ot, h14⟩ : ∃ x, otherR (decide (a5.1 / 8 % 2 = 1)) (a1.1 * a2.1) ce.2 = x := ⟨_, rfl⟩
 obtain ⟨pa, h15⟩ : ∃ x, parserR ot.2 = x := ⟨_, rfl⟩
 have hS : screenR q = (mkS ⟨a1.1, a2.1, a3.1, a4.1, a5.1, a6.1, a7.1, a8.1, a9.1, a10.1, a11.1⟩ tb.1 ce.1 ot.1 pa.1, pa.2) := by
  unfold screenR headR
  simp only [h1, h2, h3, h4, h5, h6, h7, h8, h9, h10, h11, h12, h13, h14, h15]
 rw [hS]
 obtain ⟨l2, n1, n2, P1⟩ := P _ _ _ h1 h2 hl
 obtain ⟨l4, n3, n4, P2⟩ := P _ _ _ h3 h4 l2
 obtain ⟨l5, n5, N5⟩ := N _ 15 15 (by omega) _ h5 (by omega) l4
 obtain ⟨l6, n6, N6⟩ := N _ 65535 65535 (by omega) _ h6 (by omega) l5
 obtain ⟨l8, n7, n8, P7⟩ := P _ _ _ h7 h8 l6
 obtain ⟨l10, n9, n10, P9⟩ := P _ _ _ h9 h10 l8
 obtain ⟨l11, n11, N11⟩ := N _ 65535 65535 (by omega) _ h11 (by omega) l10
 have lt : tb.2.1.length ≤ 1048576 := by have := tabsR_rest a2.1 a11.2; rw [h12] at this; omega
 have lc : ce.2.1.length ≤ 1048576 := by have := cellsR_rest (a1.1 * a2.1) tb.2; rw [h13] at this; omega
 obtain ⟨nn, hnn⟩ : ∃ nn, a1.1 * a2.1 = nn := ⟨_, rfl⟩
 have nnl : nn ≤ 1000000 := by have : a1.1 * a2.1 ≤ 1000 * 1000 := Nat.mul_le_mul n1 n2; omega
 have T12 : Hid (∀ W, RD W g a11.2 → Calls Tryz.prog 61 #[.pointer (some ⟨g, 0, none⟩), .int .i64 (a2.1 : Int)] W (TabPost g tb.1 tb.2 W)) := fun W h => by have := tabs_any g a2.1 a11.2 W h l11 n2; rw [h12] at this; exact this
 rw [hnn] at h13 h14
 have C13 : Hid (∀ W, RD W g tb.2 → Calls Tryz.prog 62 #[.pointer (some ⟨g, 0, none⟩), .int .i64 (nn : Int)] W (CelPost g ce.1 ce.2 W)) := fun W h => by have := cells_any g nn tb.2 W h lt (by omega); rw [h13] at this; exact this
 have mm : (a1.1 : Int) * (a2.1 : Int) = (nn : Int) := by rw [← hnn, Int.natCast_mul]
 obtain ⟨w1, w2, w3, w4⟩ := and_bit a5.1 n5
 have H14 := Lh h14
 have H15 := Lh h15
 have cv6 : IntKind.u16.wrap (a6.1 : Int) = (a6.1 : Int) := by have : IntKind.u16.wrap (a6.1 : Int) = ((a6.1 : Int) % 65536) := rfl; omega
 have cv11 : IntKind.u16.wrap (a11.1 : Int) = (a11.1 : Int) := by have : IntKind.u16.wrap (a11.1 : Int) = ((a11.1 : Int) % 65536) := rfl; omega
 have B0 := Lh (sbox0 h)
 have PP := Lh P
 clear h1 h2 h3 h4 h5 h6 h7 h8 h9 h10 h11 h12 h13 h14 h15 hS hnn P N h hl l2 l4 l5 l6 l8 l10 l11 lt
 go_enter Tryz.func36, Tryz.ntmps36
 go_wp2_with fail
 refine (P1.out _ B0.out.r).mono ?_
 rintro e w1 ⟨rfl, ra, fa⟩
 have A1 := Lh ((B0.out.fr hg ra fa))
 clear B0 ra fa
 obtain ⟨d0, i0⟩ := A1.out.cell 0 rfl
 obtain ⟨d1, i1⟩ := A1.out.cell 1 rfl
 go_wp2_with fail
 have hA := ((A1.out.set 0 (.int .i64 a1.1) hg).set 1 (.int .i64 a2.1) hg)
 simp only [zN, List.set_cons_succ, List.set_cons_zero] at hA
 have A2 := Lh hA
 clear hA A1 d0 i0 d1 i1
 generalize World.setCell _ _ _ = V2 at A2 ⊢
 refine (P2.out _ A2.out.r).mono ?_
 rintro e w3 ⟨rfl, ra, fa⟩
 have A3 := Lh ((A2.out.fr hg ra fa))
 clear A2 ra fa
 obtain ⟨d3, i3⟩ := A3.out.cell 3 rfl
 obtain ⟨d4, i4⟩ := A3.out.cell 4 rfl
 go_wp2_with fail
 have hA := ((A3.out.set 3 (.int .i64 a3.1) hg).set 4 (.int .i64 a4.1) hg)
 simp only [zN, List.set_cons_succ, List.set_cons_zero] at hA
 have A4 := Lh hA
 clear hA A3 d3 i3 d4 i4
 generalize World.setCell _ _ _ = V4 at A4 ⊢
 refine (N5.out _ A4.out.r).mono ?_
 rintro e w5 ⟨rfl, ra, fa⟩
 have A5 := Lh ((A4.out.fr hg ra fa))
 clear A4 ra fa
 obtain ⟨d5, i5⟩ := A5.out.cell 5 rfl
 obtain ⟨d13, i13⟩ := A5.out.cell 13 rfl
 obtain ⟨d14, i14⟩ := A5.out.cell 14 rfl
 obtain ⟨d15, i15⟩ := A5.out.cell 15 rfl
 go_wp2_with fail
 have hA := ((((A5.out.set 5 (.bool (decide (a5.1 % 2 = 1))) hg).set 13 (.bool (decide (a5.1 / 2 % 2 = 1))) hg).set 14 (.bool (decide (a5.1 / 4 % 2 = 1))) hg).set 15 (.bool (decide (a5.1 / 8 % 2 = 1))) hg)
 simp only [zN, List.set_cons_succ, List.set_cons_zero] at hA
 have A6 := Lh hA
 clear hA A5 d5 i5 d13 i13 d14 i14 d15 i15
 generalize World.setCell _ _ _ = V6 at A6 ⊢
 refine (N6.out _ A6.out.r).mono ?_
 rintro e w7 ⟨rfl, ra, fa⟩
 have A7 := Lh ((A6.out.fr hg ra fa))
 clear A6 ra fa
 obtain ⟨d6, i6⟩ := A7.out.cell 6 rfl
 go_wp2_with fail
 have hA := (A7.out.set 6 (.int .u16 a6.1) hg)
 simp only [zN, List.set_cons_succ, List.set_cons_zero] at hA
 have A8 := Lh hA
 clear hA A7 d6 i6
 generalize World.setCell _ _ _ = V8 at A8 ⊢
 refine (P7.out _ A8.out.r).mono ?_
 rintro e w9 ⟨rfl, ra, fa⟩
 have A9 := Lh ((A8.out.fr hg ra fa))
 clear A8 ra fa
 obtain ⟨d7, i7⟩ := A9.out.cell 7 rfl
 obtain ⟨d8, i8⟩ := A9.out.cell 8 rfl
 go_wp2_with fail
 have hA := ((A9.out.set 7 (.int .i64 a7.1) hg).set 8 (.int .i64 a8.1) hg)
 simp only [zN, List.set_cons_succ, List.set_cons_zero] at hA
 have A10 := Lh hA
 clear hA A9 d7 i7 d8 i8
 generalize World.setCell _ _ _ = V10 at A10 ⊢
 refine (P9.out _ A10.out.r).mono ?_
 rintro e w11 ⟨rfl, ra, fa⟩
 have A11 := Lh ((A10.out.fr hg ra fa))
 clear A10 ra fa
 obtain ⟨d10, i10⟩ := A11.out.cell 10 rfl
 obtain ⟨d11, i11⟩ := A11.out.cell 11 rfl
 go_wp2_with fail
 have hA := ((A11.out.set 10 (.int .i64 a9.1) hg).set 11 (.int .i64 a10.1) hg)
 simp only [zN, List.set_cons_succ, List.set_cons_zero] at hA
 have A12 := Lh hA
 clear hA A11 d10 i10 d11 i11
 generalize World.setCell _ _ _ = V12 at A12 ⊢
 refine (N11.out _ A12.out.r).mono ?_
 rintro e w13 ⟨rfl, ra, fa⟩
 have A13 := Lh (A12.out.fr hg ra fa)
 clear A12 ra fa
 obtain ⟨d1, i1⟩ := A13.out.cell 1 rfl
 obtain ⟨d12, i12⟩ := A13.out.cell 12 rfl
 go_wp2_with fail
 have hA := (A13.out.set 12 (.int .u16 a11.1) hg)
 simp only [zN, List.set_cons_succ, List.set_cons_zero] at hA
 have A14 := Lh hA
 clear hA A13 d12 i12
 generalize World.setCell _ _ _ = V14 at A14 ⊢
 clear d1 i1
 refine (T12.out _ A14.out.r).mono ?_
 rintro e w15 ⟨v15, rfl, ho, ra, fa⟩
 obtain ⟨L15, c15, rfl, -, -⟩ := ho.sl.form
 have A15 := Lh ((A14.out.fr hg ra fa).tabs (own_lowS ho A14.out.s))
 clear A14 ra fa ho
 obtain ⟨d0, i0⟩ := A15.out.cell 0 rfl
 obtain ⟨d1, i1⟩ := A15.out.cell 1 rfl
 obtain ⟨d9, i9⟩ := A15.out.cell 9 rfl
 go_wp2_with fail
 have hA := (A15.out.set 9 (.slice L15 tb.1.length c15) hg)
 simp only [zN, List.set_cons_succ, List.set_cons_zero] at hA
 have A16 := Lh hA
 clear hA A15 d9 i9
 generalize World.setCell _ _ _ = V16 at A16 ⊢
 clear d0 i0 d1 i1
 refine (C13.out _ A16.out.r).mono ?_
 rintro e w17 ⟨v17, rfl, ho, ra, fa⟩
 obtain ⟨L17, c17, rfl, -, -⟩ := ho.cl.form
 have A17 := Lh ((A16.out.fr hg ra fa).cells (own_lowS ho A16.out.s))
 clear A16 ra fa ho
 obtain ⟨d15, i15⟩ := A17.out.cell 15 rfl
 obtain ⟨d2, i2⟩ := A17.out.cell 2 rfl
 go_upto_region 13 with fail
 have hA := (A17.out.set 2 (.slice L17 ce.1.length c17) hg)
 simp only [zN, List.set_cons_succ, List.set_cons_zero] at hA
 have A18 := Lh hA
 clear hA A17 d2 i2
 generalize World.setCell _ _ _ = V18 at A18 ⊢
 clear d15 i15
 obtain ⟨d15, i15⟩ := A18.out.cell 15 rfl
 trace "by"
 by_cases hb4 : decide (a5.1 / 8 % 2 = 1) = true
 focus
  have h14 := H14.out
  rw [hb4] at h14
  obtain ⟨o1, g1⟩ : ∃ x, numR 1000 ce.2 = x := ⟨_, rfl⟩
  obtain ⟨o2, g2⟩ : ∃ x, numR 1000 o1.2 = x := ⟨_, rfl⟩
  obtain ⟨o3, g3⟩ : ∃ x, cellsR nn o2.2 = x := ⟨_, rfl⟩
  simp only [otherR, if_true, g1, g2, g3] at h14
  subst h14
  have lo := Nat.le_trans (numR_rest 1000 o1.2) (Nat.le_trans (numR_rest 1000 ce.2 |> fun x => by rw [g1] at x; exact x) lc)
  rw [g2] at lo
  obtain ⟨-, q1, q2, P14⟩ := PP.out ce.2 o1 o2 g1 g2 lc
  have C15 : Hid (∀ W, RD W g o2.2 → Calls Tryz.prog 62 #[.pointer (some ⟨g, 0, none⟩), .int .i64 (nn : Int)] W (CelPost g o3.1 o3.2 W)) := fun W h => by have := cells_any g nn o2.2 W h lo (by omega); rw [g3] at this; exact this
  have lo3 : o3.2.1.length ≤ 1048576 := by have := cellsR_rest nn o2.2; rw [g3] at this; omega
  clear g1 g2 g3 lo
  go_wp2_with fail
  clear d15 i15
  refine (P14.out _ A18.out.r).mono ?_
  rintro e w19 ⟨rfl, ra, fa⟩
  have A19 := Lh ((A18.out.fr hg ra fa))
  clear A18 ra fa
  obtain ⟨d17, i17⟩ := A19.out.cell 17 rfl
  obtain ⟨d18, i18⟩ := A19.out.cell 18 rfl
  obtain ⟨d1, i1⟩ := A19.out.cell 1 rfl
  obtain ⟨d0, i0⟩ := A19.out.cell 0 rfl
  go_wp2_with fail
  have hA := ((A19.out.set 17 (.int .i64 o1.1) hg).set 18 (.int .i64 o2.1) hg)
  simp only [zN, List.set_cons_succ, List.set_cons_zero] at hA
  have A20 := Lh hA
  clear hA A19 d17 i17 d18 i18
  generalize World.setCell _ _ _ = V20 at A20 ⊢
  clear d0 i0 d1 i1
  refine (C15.out _ A20.out.r).mono ?_
  rintro e w21 ⟨v21, rfl, ho, ra, fa⟩
  obtain ⟨L21, c21, rfl, -, -⟩ := ho.cl.form
  have A21 := Lh ((A20.out.fr hg ra fa).others (own_lowS ho A20.out.s))
  clear A20 ra fa ho
  obtain ⟨d16, i16⟩ := A21.out.cell 16 rfl
  go_wp2_with fail
  have hA := (A21.out.set 16 (.slice L21 o3.1.length c21) hg)
  simp only [zN, List.set_cons_succ, List.set_cons_zero] at hA
  have A22 := Lh hA
  clear hA A21 d16 i16
  generalize World.setCell _ _ _ = V22 at A22 ⊢
  have AX : Hid (SBox w g o3.2 ([.int .i64 a1.1, .int .i64 a2.1, .slice L17 ce.1.length c17, .int .i64 a3.1, .int .i64 a4.1, .bool (decide (a5.1 % 2 = 1)), .int .u16 a6.1, .int .i64 a7.1, .int .i64 a8.1, .slice L15 tb.1.length c15, .int .i64 a9.1, .int .i64 a10.1, .int .u16 a11.1, .bool (decide (a5.1 / 2 % 2 = 1)), .bool (decide (a5.1 / 4 % 2 = 1)), .bool (decide (a5.1 / 8 % 2 = 1)), .slice L21 o3.1.length c21, .int .i64 o1.1, .int .i64 o2.1, .int .i64 0, .int .u8 0, .slice none 0 0, .slice none 0 0, .slice none 0 0]) (.slice L15 tb.1.length c15) tb.1 (.slice L17 ce.1.length c17) ce.1 (.slice L21 o3.1.length c21) o3.1 V22) := Lh A22.out
  clear A22
  have HPX : Hid (∀ W, RD W g o3.2 → Calls Tryz.prog 63 #[.pointer (some ⟨g, 0, none⟩)] W (ParPost g pa.1 pa.2 W)) := fun W h => by have := parser_any g o3.2 W h lo3; rw [H15.out] at this; exact this
  generalize V22 = VX at *
 rotate_left
 focus
  have h14 := H14.out
  have hb5 : decide (a5.1 / 8 % 2 = 1) = false := by simpa using hb4
  rw [hb5] at h14
  simp only [otherR, Bool.false_eq_true, if_false] at h14
  subst h14
  go_wp2_with fail
  clear d15 i15
  have AX : Hid (SBox w g ce.2 ([.int .i64 a1.1, .int .i64 a2.1, .slice L17 ce.1.length c17, .int .i64 a3.1, .int .i64 a4.1, .bool (decide (a5.1 % 2 = 1)), .int .u16 a6.1, .int .i64 a7.1, .int .i64 a8.1, .slice L15 tb.1.length c15, .int .i64 a9.1, .int .i64 a10.1, .int .u16 a11.1, .bool (decide (a5.1 / 2 % 2 = 1)), .bool (decide (a5.1 / 4 % 2 = 1)), .bool (decide (a5.1 / 8 % 2 = 1)), .slice none 0 0, .int .i64 (0 : Nat), .int .i64 (0 : Nat), .int .i64 0, .int .u8 0, .slice none 0 0, .slice none 0 0, .slice none 0 0]) (.slice L15 tb.1.length c15) tb.1 (.slice L17 ce.1.length c17) ce.1 (.slice none 0 0) [] V18) := Lh A18.out
  clear A18
  have HPX : Hid (∀ W, RD W g ce.2 → Calls Tryz.prog 63 #[.pointer (some ⟨g, 0, none⟩)] W (ParPost g pa.1 pa.2 W)) := fun W h => by have := parser_any g ce.2 W h lc; rw [H15.out] at this; exact this
  generalize V18 = VX at *
 all_goals
  refine (HPX.out _ AX.out.r).mono ?_
  rintro e wz ⟨vp, vi, vu, rfl, op, oi, ou, ra, fa⟩
  obtain ⟨Lp, cp, rfl, -, -⟩ := op.sl.form
  obtain ⟨Li, ci, rfl, -, -⟩ := oi.sl.form
  obtain ⟨Lu, cu, rfl, -, -⟩ := ou.sl.form
  have AY := Lh (AX.out.fr hg ra fa)
  have OP := Lh (own_lowS op AX.out.s)
  have OJ := Lh (own_lowS oi AX.out.s)
  have OU := Lh (own_lowS ou AX.out.s)
  clear AX ra fa op oi ou
  obtain ⟨d19, i19⟩ := AY.out.cell 19 rfl
  obtain ⟨d20, i20⟩ := AY.out.cell 20 rfl
  obtain ⟨d21, i21⟩ := AY.out.cell 21 rfl
  obtain ⟨d22, i22⟩ := AY.out.cell 22 rfl
  obtain ⟨d23, i23⟩ := AY.out.cell 23 rfl
  go_upto_region 17 with fail
  have hA := (((((AY.out.set 19 (.int .i64 pa.1.mode) hg).set 20 (.int .u8 pa.1.priv) hg).set 21 (.slice Lp pa.1.params.length cp) hg).set 22 (.slice Li pa.1.inter.length ci) hg).set 23 (.slice Lu pa.1.utf.length cu) hg)
  simp only [List.set_cons_succ, List.set_cons_zero] at hA
  have AZ := Lh hA
  have ob {size n : Nat} {e : TypeId} {v : Value} {xs : List Value} (h : wz.ownsRow (w.heap.size + 2) e size v n xs) := (own_set (p := ⟨w.heap.size + 1, 23, none⟩) (own_set (p := ⟨w.heap.size + 1, 22, none⟩) (own_set (p := ⟨w.heap.size + 1, 21, none⟩) (own_set (p := ⟨w.heap.size + 1, 20, none⟩) (own_set (p := ⟨w.heap.size + 1, 19, none⟩) h (by simp) (.int .i64 pa.1.mode)) (by simp) (.int .u8 pa.1.priv)) (by simp) (.slice Lp pa.1.params.length cp)) (by simp) (.slice Li pa.1.inter.length ci)) (by simp) (.slice Lu pa.1.utf.length cu))
  have OP2 := Lh (ob OP.out)
  have OJ2 := Lh (ob OJ.out)
  have OU2 := Lh (ob OU.out)
  clear ob hA AY OP OJ OU d19 i19 d20 i20 d21 i21 d22 i22 d23 i23
  generalize World.setCell _ _ _ = VZ at AZ OP2 OJ2 OU2 ⊢
  refine wp_region_lit ?_
  refine wpl_loadS rfl (.tmp 3) rfl rfl (AZ.out.b) rfl ?_
  refine wpl_storeS rfl (.tmp 2) (.tmp 92) rfl rfl rfl (AZ.out.z) rfl rfl all25 ?_
  go_wp2
  refine bodyPost_ret (v := .agg _) (resultS Tryz.results36 rfl (heap_setRow_same AZ.out.z) rfl) rfl ?_
  have hs := AZ.out.s
  exact ⟨_, _, _, _, _, _, rfl, own_row AZ.out.c, own_row AZ.out.t, own_row AZ.out.o, own_row OP2.out, own_row OJ2.out, own_row OU2.out, AZ.out.r.row hg, AZ.out.f.row⟩
def CsPost (l : List Cl) (w : World) (e : Ending) (w' : World) : Prop := ∃ v, e = .returned v ∧ CS w' w'.heap.size v l ∧ Below w.heap.size w w'
theorem CellsPost.toCs {l : List Cl} {w w' : World} {e : Ending} (h : CellsPost l w e w') : CsPost l w e w' := by
 obtain ⟨v, he, ho, hb⟩ := h
 exact ⟨v, he, ho.cs, hb⟩
def sizeB (n : Int) : Bool := decide (1 ≤ n ∧ n ≤ 1000)
theorem isSize_any (n : Int) (w : World) : Calls Tryz.prog 134 #[.int .i64 n] w fun e w' => e = .returned (.bool (sizeB n)) ∧ w = w' := by
 unfold sizeB
 by_cases h1 : 1 ≤ n
 ·by_cases h2 : n ≤ 1000
  ·rw [decide_eq_true ⟨h1, h2⟩]
   go_enter Tryz.func134, Tryz.ntmps134
   go_wp2
   go_ret
   exact ⟨rfl, rfl⟩
  ·rw [decide_eq_false (fun h => h2 h.2)]
   have h3 : decide (n ≤ 1000) = false := decide_eq_false h2
   go_enter Tryz.func134, Tryz.ntmps134
   go_wp2
   go_ret
   exact ⟨rfl, rfl⟩
 ·rw [decide_eq_false (fun h => h1 h.1)]
  have h3 : decide (1 ≤ n) = false := decide_eq_false h1
  go_enter Tryz.func134, Tryz.ntmps134
  go_wp2
  go_ret
  exact ⟨rfl, rfl⟩
theorem gblankp_any (w : World) : Calls Tryz.prog 127 #[] w fun e w' => e = .returned (.agg #[.int .i32 32, .int .u16 0, .int .u8 0]) ∧ Below w.heap.size w w' := by
 go_enter Tryz.func127, Tryz.ntmps127
 go_wp2
 exact bodyPost_ret (v := .agg #[.int .i32 32, .int .u16 0, .int .u8 0]) (by simp [results, Tryz.results127, go_sem]) rfl ⟨rfl, (Below.refl _ _).alloc (Nat.le_refl _) _⟩
theorem ownp_any (v : Value) (l : List Cl) (w : World) (h : CS w w.heap.size v l) (hl : l.length ≤ 1099511627776) : Calls Tryz.prog 109 #[v] w (CellsPost l w) := by
 have H := Lh h
 obtain ⟨A, c, rfl, h1, h2⟩ := h.form
 clear h
 go_enter Tryz.func109, Tryz.ntmps109
 go_wp2_with (refine wpl_appC _ rfl _ _ rfl w.heap.size w.heap.size (.slice none 0 0) (.slice A l.length c) [] l rfl rfl (OC.nil _ _) H.out (by simp; omega) (Nat.le_refl _) ?_; intro v' w' g1 g2 g3 g4)
 go_ret
 exact ⟨v', rfl, g1, g3⟩
theorem rowOf_any (ad : Addr) (n k c y p : Nat) (w : World) (hp : (y : Int) * (c : Int) = (p : Int)) (hp2 : ((y : Int) + 1) * (c : Int) = (p : Int) + (c : Int)) (hn : p + c ≤ n) (hk : n ≤ k) (hk2 : k ≤ 9223372036854775807) (hc : 1 ≤ c) (hy : y ≤ 1000000) :
  Calls Tryz.prog 112 #[.slice (some ad) n k, .int .i64 (c : Int), .int .i64 (y : Int)] w fun e w' => e = .returned (.slice (some (ad.add (p * 3))) c (k - p)) ∧ w = w' := by
 have hq : p + c - p = c := by omega
 have hne : ¬ k = p := by omega
 go_enter Tryz.func112, Tryz.ntmps112
 go_wp2
 go_ret
 refine ⟨?_, rfl⟩
 show Ending.returned (.slice (some (ad.add (p * 3))) (p + c - p) (k - p)) = _
 rw [hq]
theorem CS.cut {w : World} {B : Nat} {A : Option Addr} {n c : Nat} {l : List Cl} (h : CS w B (.slice A n c) l) (k m j : Nat) (hk : k + m ≤ l.length) (hj : j = m) :
  CS w B (.slice (if c = k then A else Option.map (fun x => x.add (k * 3)) A) j (c - k)) ((l.drop k).take m) := by
 subst hj
 obtain ⟨A', c', hv, h1, h2, h3⟩ := h
 simp only [Value.slice.injEq] at hv
 obtain ⟨rfl, rfl, rfl⟩ := hv
 have hlen : ((l.drop k).take j).length = j := by simp; omega
 refine ⟨_, c - k, by rw [hlen], by rw [hlen]; omega, by omega, fun hl => ?_⟩
 rw [hlen] at hl
 obtain ⟨ad, rfl, hb, hc⟩ := h3 (by omega)
 rw [if_neg (by omega)]
 refine ⟨ad.add (k * 3), rfl, by rw [block_add]; exact hb, fun i b hi => ?_⟩
 rw [add_add, ← Nat.add_mul]
 refine hc _ b ?_
 rw [List.getElem?_take] at hi
 split at hi
 ·rw [List.getElem?_drop] at hi; exact hi
 ·cases hi
theorem upB_iff (n : Nat) (cols top bottom : Int) : upB n cols top bottom = true ↔ (gOk n cols = true ∧ 0 ≤ top ∧ top ≤ bottom ∧ bottom < (n : Int) / cols) := by
 unfold upB
 rw [decide_eq_true_eq]
 constructor
 ·rintro ⟨a, f, g, h⟩
  exact ⟨a, f, h, g⟩
 ·rintro ⟨a, f, h, g⟩
  exact ⟨a, f, g, h⟩
theorem isGrid_any (v : Value) (l : List Cl) (cols : Int) (w : World) (h : CS w w.heap.size v l) (hl : l.length ≤ 1048576) :
  Calls Tryz.prog 126 #[v, .int .i64 cols] w fun e w' => e = .returned (.bool (gOk l.length cols)) ∧ w = w' := by
 obtain ⟨A, k, rfl, h1, h2⟩ := h.form
 clear h
 have hU : gOk l.length cols = true ↔ (1 ≤ cols ∧ cols ≤ 1000 ∧ (l.length : Int) % cols = 0 ∧ 1 ≤ (l.length : Int) / cols ∧ (l.length : Int) / cols ≤ 1000) := by
  unfold gOk
  rw [decide_eq_true_eq]
 generalize gOk l.length cols = B at hU ⊢
 cases hs : sizeB cols with
 | false =>
  have e : B = false := by
   cases B with
   | false => rfl
   | true =>
    obtain ⟨a, b, -⟩ := hU.1 rfl
    unfold sizeB at hs
    rw [decide_eq_false_iff_not] at hs
    exact absurd ⟨a, b⟩ hs
  subst e
  clear hU
  go_enter Tryz.func126, Tryz.ntmps126
  go_wp2_with ((with_reducible refine (isSize_any _ _).mono ?_); rintro e w' ⟨rfl, rfl⟩)
  go_ret
  exact ⟨rfl, rfl⟩
 | true =>
  have c0 := hs
  unfold sizeB at c0
  rw [decide_eq_true_eq] at c0
  obtain ⟨c1, c2⟩ := c0
  have hz : ¬ cols = 0 := by omega
  have hq0 : 0 ≤ (l.length : Int) / cols := Int.ediv_nonneg (by omega) (by omega)
  have hq1 : (l.length : Int) / cols ≤ l.length := Int.ediv_le_self _ (by omega)
  by_cases g1 : (l.length : Int) % cols = 0
  ·obtain ⟨q, hq⟩ : ∃ q : Nat, (l.length : Int) / cols = (q : Int) := ⟨((l.length : Int) / cols).toNat, by omega⟩
   rw [hq] at hq0 hq1 hU
   have e : B = sizeB (q : Int) := by
    rw [Bool.eq_iff_iff, hU]
    unfold sizeB
    rw [decide_eq_true_eq]
    exact ⟨fun h => h.2.2.2, fun h => ⟨c1, c2, g1, h⟩⟩
   subst e
   clear hU
   go_enter Tryz.func126, Tryz.ntmps126
   go_wp2_with ((with_reducible refine (isSize_any _ _).mono ?_); rintro e w' ⟨rfl, rfl⟩)
   go_ret
   exact ⟨rfl, rfl⟩
  ·have e : B = false := by
    cases B with
    | false => rfl
    | true => exact absurd (hU.1 rfl).2.2.1 g1
   have g5 : ((l.length : Int) % cols == 0) = false := bF g1
   subst e
   clear hU
   go_enter Tryz.func126, Tryz.ntmps126
   go_wp2_with ((with_reducible refine (isSize_any _ _).mono ?_); rintro e w' ⟨rfl, rfl⟩)
   go_ret
   exact ⟨rfl, rfl⟩
theorem hasRows_any (v : Value) (l : List Cl) (cols top bottom : Int) (w : World) (h : CS w w.heap.size v l) (hl : l.length ≤ 1048576) :
  Calls Tryz.prog 110 #[v, .int .i64 cols, .int .i64 top, .int .i64 bottom] w fun e w' => e = .returned (.bool (upB l.length cols top bottom)) ∧ w = w' := by
 have hG := isGrid_any v l cols w h hl
 obtain ⟨A, k, rfl, h1, h2⟩ := h.form
 clear h
 have hU := upB_iff l.length cols top bottom
 generalize upB l.length cols top bottom = B at hU ⊢
 cases hs : gOk l.length cols with
 | false =>
  rw [hs] at hG hU
  have e : B = false := by
   cases B with
   | false => rfl
   | true => exact absurd (hU.1 rfl).1 (by decide)
  subst e
  clear hU
  go_enter Tryz.func110, Tryz.ntmps110
  go_wp2_with ((with_reducible refine hG.mono ?_); rintro e w' ⟨rfl, rfl⟩)
  go_ret
  exact ⟨rfl, rfl⟩
 | true =>
  rw [hs] at hG hU
  have c0 := hs
  unfold gOk at c0
  rw [decide_eq_true_eq] at c0
  obtain ⟨c1, c2, c3, c4, c5⟩ := c0
  have hz : ¬ cols = 0 := by omega
  by_cases g2 : 0 ≤ top
  ·by_cases g3 : top ≤ bottom
   ·by_cases g4 : bottom < (l.length : Int) / cols
    ·have e : B = true := hU.2 ⟨rfl, g2, g3, g4⟩
     subst e
     clear hU
     go_enter Tryz.func110, Tryz.ntmps110
     go_wp2_with ((with_reducible refine hG.mono ?_); rintro e w' ⟨rfl, rfl⟩)
     go_ret
     exact ⟨rfl, rfl⟩
    ·have e : B = false := by
      cases B with
      | false => rfl
      | true => exact absurd (hU.1 rfl).2.2.2 g4
     have g5 : decide (bottom < (l.length : Int) / cols) = false := decide_eq_false g4
     subst e
     clear hU
     go_enter Tryz.func110, Tryz.ntmps110
     go_wp2_with ((with_reducible refine hG.mono ?_); rintro e w' ⟨rfl, rfl⟩)
     go_ret
     exact ⟨rfl, rfl⟩
   ·have e : B = false := by
     cases B with
     | false => rfl
     | true => exact absurd (hU.1 rfl).2.2.1 g3
    have g5 : decide (top ≤ bottom) = false := decide_eq_false g3
    subst e
    clear hU
    go_enter Tryz.func110, Tryz.ntmps110
    go_wp2_with ((with_reducible refine hG.mono ?_); rintro e w' ⟨rfl, rfl⟩)
    go_ret
    exact ⟨rfl, rfl⟩
  ·have e : B = false := by
    cases B with
    | false => rfl
    | true => exact absurd (hU.1 rfl).2.1 g2
   have g5 : decide (0 ≤ top) = false := decide_eq_false g2
   subst e
   clear hU
   go_enter Tryz.func110, Tryz.ntmps110
   go_wp2_with ((with_reducible refine hG.mono ?_); rintro e w' ⟨rfl, rfl⟩)
   go_ret
   exact ⟨rfl, rfl⟩
theorem OC.at3 {w : World} {base g n cap : Nat} {l : List Cl} (h : OC w base (.slice (some ⟨g, 0, none⟩) n cap) l) (q Q : Nat) (c : Cl) (hc : l[q]? = some c) (hQ : q * 3 = Q) :
  w.cell? ⟨g, Q, none⟩ = some (.int .i32 c.r) ∧ w.cell? ⟨g, Q + 1, none⟩ = some (.int .u16 (c.a : Int)) ∧ w.cell? ⟨g, Q + 2, none⟩ = some (.int .u8 (c.h : Int)) ∧ w.frozen? ⟨g, Q, none⟩ = false ∧ w.frozen? ⟨g, Q + 1, none⟩ = false ∧ w.frozen? ⟨g, Q + 2, none⟩ = false := by
 obtain rfl := h.len
 subst hQ
 obtain ⟨a, b, d⟩ := h.threeAt q c hc
 exact ⟨a, b, d, h.frozenAt _, h.frozenAt _, h.frozenAt _⟩
theorem mend_at {l : List Cl} {f : Nat → Cl} {lo q i : Nat} (hi : i < l.length) (hq : q ≤ i) : (fillL l f lo q)[i]? = some (getC l i) := by
 rw [fillL_get, if_pos hi, if_neg (by omega)]
 exact getC_of hi
theorem mend_prev {l : List Cl} {c y x : Nat} (hx : x < c) (hx0 : 1 ≤ x) (hl : y * c + c ≤ l.length) (h2 : (getC l (y * c + x)).h = 2) :
  ∃ d, (fillL l (mendF l c) (y * c) (y * c + x))[y * c + x - 1]? = some d ∧ (d.h = 1 ↔ (getC l (y * c + x - 1)).h = 1) := by
 have hdv := rc_div y c (x - 1) (by omega)
 rw [show y * c + (x - 1) = y * c + x - 1 by omega] at hdv
 rw [fillL_get, if_pos (by omega), if_pos (by omega)]
 refine ⟨_, rfl, ?_⟩
 unfold mendF
 rw [hdv.2]
 by_cases h1 : (getC l (y * c + x - 1)).h = 1
 ·have hb : badH l c (y * c + x - 1) (x - 1) = false := by
   unfold badH
   rw [h1, show y * c + x - 1 + 1 = y * c + x by omega, h2]
   simp
   omega
  rw [hb, if_neg (by decide)]
 ·constructor
  ·intro h
   split at h
   ·exact absurd h (by decide)
   ·exact h
  ·intro h
   exact absurd h h1
def MdRel (l : List Cl) (c y : Nat) (w : World) (base g n cap : Nat) (i : Value) (wr : World) : Prop :=
 ∃ x : Nat, x ≤ c ∧ i = .int .i64 (x : Int) ∧ OC wr base (.slice (some ⟨g, 0, none⟩) n cap) (fillL l (mendF l c) (y * c) (y * c + x)) ∧ Below base w wr
def MdPost (l : List Cl) (base : Nat) (v : Value) (w : World) (e : Ending) (w' : World) : Prop := e = .returned (.tuple #[]) ∧ OC w' base v l ∧ Below base w w'
theorem mend_put {W : World} {base g n cap c y x Q : Nat} {l : List Cl} (h : OC W base (.slice (some ⟨g, 0, none⟩) n cap) (fillL l (mendF l c) (y * c) (y * c + x))) (hx : x < c) (hl : y * c + c ≤ l.length) (hQ : (y * c + x) * 3 = Q) (hbad : badH l c (y * c + x) x = true) :
  OC (((W.setCell ⟨g, Q, none⟩ (.int .i32 32)).setCell ⟨g, Q + 1, none⟩ (.int .u16 0)).setCell ⟨g, Q + 2, none⟩ (.int .u8 0)) base (.slice (some ⟨g, 0, none⟩) n cap) (fillL l (mendF l c) (y * c) (y * c + (x + 1))) := by
 have hn := h.len
 rw [fillL_len] at hn
 have e : blankC = mendF l c (y * c + x) := by
  unfold mendF
  rw [(rc_div y c x hx).2, hbad]
  rfl
 have := h.put (y * c + x) (by omega) blankC
 rw [fillL_set _ _ _ _ _ (by omega) e, hQ] at this
 exact this
theorem mend_stay {W : World} {base g n cap c y x : Nat} {l : List Cl} (h : OC W base (.slice (some ⟨g, 0, none⟩) n cap) (fillL l (mendF l c) (y * c) (y * c + x))) (hx : x < c) (hl : y * c + c ≤ l.length) (hbad : badH l c (y * c + x) x = false) :
  OC W base (.slice (some ⟨g, 0, none⟩) n cap) (fillL l (mendF l c) (y * c) (y * c + (x + 1))) := by
 have e : l[y * c + x]? = some (mendF l c (y * c + x)) := by
  unfold mendF
  rw [(rc_div y c x hx).2, hbad]
  exact getC_of (by omega)
 rw [← Nat.add_assoc, ← fillL_skip _ _ _ _ e]
 exact h
theorem mend_any (l : List Cl) (c y base g n cap P K : Nat) (w : World) (h : OC w base (.slice (some ⟨g, 0, none⟩) n cap) l) (hb : base ≤ w.heap.size) (hl : y * c + c ≤ l.length) (hlen : l.length ≤ 1048576) (c1 : 1 ≤ c) (c2 : c ≤ 1000)
  (hP : P = y * c * 3) (hK : c ≤ K) (hK2 : K ≤ 9223372036854775807) :
  Calls Tryz.prog 111 #[.slice (some ⟨g, P, none⟩) c K] w (MdPost (fillL l (mendF l c) (y * c) (y * c + c)) base (.slice (some ⟨g, 0, none⟩) n cap) w) := by
 have H := Lh h
 have HP := Lh hP
 have hbg := h.block.1
 clear h hP
 go_enter Tryz.func111, Tryz.ntmps111
 go_wp2
 go_loopw [6] (fun i wr => MdRel l c y w base g n cap i wr) (fun i _ => c - (intOf i).toNat)
 case atStart => exact ⟨0, Nat.zero_le _, rfl, by rw [fillL_none _ _ _ _ (by omega)]; exact H.out, Below.refl _ _⟩
 case round =>
  generalize wr = w3 at *
  obtain ⟨x, hx, rfl, ho, hbel⟩ := hrel
  have HO := Lh ho
  have HB := Lh hbel
  have hz3 := Nat.le_trans hb hbel.size
  have hg3 := ho.block.2
  by_cases hxc : x < c
  ·have hxc2 : (x : Int) < (c : Int) := by omega
   have hq : (y * c + x) * 3 = P + x * 3 := by rw [HP.out]; omega
   obtain ⟨t0, t1, t2, f0, f1, f2⟩ := ho.at3 _ _ _ (mend_at (show y * c + x < l.length by omega) (Nat.le_refl _)) hq
   have HQ := Lh hq
   clear ho hbel hq
   have hgd : ∃ d, d = getC l (y * c + x) := ⟨_, rfl⟩
   obtain ⟨d, hd⟩ := hgd
   rw [← hd] at t0 t1 t2
   have HO1 := Lh (HO.out.alloc (.cells #[.int .i32 d.r, .int .u16 (d.a : Int), .int .u8 (d.h : Int)] 65))
   have HB1 := Lh (HB.out.alloc hz3 (.cells #[.int .i32 d.r, .int .u16 (d.a : Int), .int .u8 (d.h : Int)] 65))
   have KC := Lh (show (w3.alloc (.cells #[.int .i32 d.r, .int .u16 (d.a : Int), .int .u8 (d.h : Int)] 65)).heap[w3.heap.size]? = some (.cells #[.int .i32 d.r, .int .u16 (d.a : Int), .int .u8 (d.h : Int)] 65) by
    show (w3.heap.push _)[w3.heap.size]? = _
    simp)
   have HD := Lh hd
   clear hd
   go_upto_region 3 with fail
   generalize World.alloc w3 _ = W at HO1 HB1 KC ⊢
   generalize w3.heap.size = sb at *
   clear t0 t1 t2 f0 f1 f2
   have k2 : W.cell? ⟨sb, 2, none⟩ = some (.int .u8 (d.h : Int)) := by rw [cell_of_row W sb 2 _ _ _ KC.out]; rfl
   have hsW : sb < W.heap.size := by
    rcases Nat.lt_or_ge sb W.heap.size with a | a
    ·exact a
    ·have := KC.out; rw [Array.getElem?_eq_none a] at this; cases this
   have hz1 := HB1.out.size
   by_cases h1 : d.h = 1
   ·rw [h1] at k2
    by_cases h2 : x + 1 = c
    ·have hbad : badH l c (y * c + x) x = true := by unfold badH; rw [← HD.out, h1]; simp [h2]
     have HBAD := Lh hbad
     have e1 : ((x : Int) + 1 == (c : Int)) = true := by simp; omega
     have e2 : (x : Int) + 1 = (c : Int) := by omega
     clear hbad
     have HE2 := Lh e2
     have H2 := Lh h2
     clear e2 h1 h2
     go_wp2_with ((with_reducible refine (gblankp_any _).mono ?_); rintro e w2 ⟨rfl, hw⟩; have z2 := hw.size; have HW := Lh hw; obtain ⟨s0, s1, s2, f0, f1, f2⟩ := (HO1.out.below hw).at3 _ _ _ (mend_at (show y * c + x < l.length by omega) (Nat.le_refl _)) HQ.out; clear hw)
     go_roundw
     case rel => exact ⟨x + 1, by omega, by go_num, mend_put (HO1.out.below HW.out) hxc hl HQ.out HBAD.out, below_put (HB1.out.trans (HW.out.mono (by omega))) hbg _ _ _ _⟩
     case measure => simp [intOf]; omega
    ·have e1 : ((x : Int) + 1 == (c : Int)) = false := by simp; omega
     have e2 : ¬ (x : Int) + 1 = (c : Int) := by omega
     have hx1 : x + 1 < c := by omega
     obtain ⟨d2, hd2⟩ : ∃ d2, d2 = getC l (y * c + x + 1) := ⟨_, rfl⟩
     have n0 := HO1.out.at3 _ (P + (x + 1) * 3) _ (mend_at (show y * c + x + 1 < l.length by omega) (by omega)) (by have := HQ.out; omega)
     rw [← hd2] at n0
     obtain ⟨-, -, n2, -⟩ := n0
     have HD2 := Lh hd2
     clear hd2
     by_cases h3 : d2.h = 2
     ·have HBAD := Lh (show badH l c (y * c + x) x = false by unfold badH; rw [← HD.out, ← HD2.out, h1, h3]; simp [h2])
      rw [h3] at n2
      clear h1 h2 h3
      go_wp2
      go_roundw
      case rel => exact ⟨x + 1, by omega, by go_num, mend_stay HO1.out hxc hl HBAD.out, HB1.out⟩
      case measure => simp [intOf]; omega
     ·have HBAD := Lh (show badH l c (y * c + x) x = true by unfold badH; rw [← HD.out, ← HD2.out, h1]; simp [h2, h3])
      have e3 : ((d2.h : Int) != 2) = true := by simp; omega
      have e4 : ¬ (d2.h : Int) = 2 := by omega
      clear h1 h2 h3
      go_wp2_with ((with_reducible refine (gblankp_any _).mono ?_); rintro e w2 ⟨rfl, hw⟩; have z2 := hw.size; have HW := Lh hw; obtain ⟨s0, s1, s2, f0, f1, f2⟩ := (HO1.out.below hw).at3 _ _ _ (mend_at (show y * c + x < l.length by omega) (Nat.le_refl _)) HQ.out; clear hw)
      go_roundw
      case rel => exact ⟨x + 1, by omega, by go_num, mend_put (HO1.out.below HW.out) hxc hl HQ.out HBAD.out, below_put (HB1.out.trans (HW.out.mono (by omega))) hbg _ _ _ _⟩
      case measure => simp [intOf]; omega
   ·have g1 : ((d.h : Int) == 1) = false := by simp; omega
    have g2 : ¬ (d.h : Int) = 1 := by omega
    by_cases h2 : d.h = 2
    ·rw [h2] at k2
     clear g1 g2
     by_cases h3 : x = 0
     ·have HBAD := Lh (show badH l c (y * c + x) x = true by unfold badH; rw [← HD.out, h2]; simp [h3])
      have e1 : ((x : Int) == 0) = true := by simp; omega
      have e2 : (x : Int) = 0 := by omega
      have HE2 := Lh e2
      have H3 := Lh h3
      clear h1 h2 h3 e2
      go_wp2_with ((with_reducible refine (gblankp_any _).mono ?_); rintro e w2 ⟨rfl, hw⟩; have z2 := hw.size; have HW := Lh hw; obtain ⟨s0, s1, s2, f0, f1, f2⟩ := (HO1.out.below hw).at3 _ _ _ (mend_at (show y * c + x < l.length by omega) (Nat.le_refl _)) HQ.out; clear hw)
      go_roundw
      case rel => exact ⟨x + 1, by omega, by go_num, mend_put (HO1.out.below HW.out) hxc hl HQ.out HBAD.out, below_put (HB1.out.trans (HW.out.mono (by omega))) hbg _ _ _ _⟩
      case measure => simp [intOf]; omega
     ·have e1 : ((x : Int) == 0) = false := by simp; omega
      have e2 : ¬ (x : Int) = 0 := by omega
      have hx1 : 1 ≤ x := by omega
      obtain ⟨d2, hd2, hd3⟩ := mend_prev hxc hx1 hl (by rw [← HD.out]; exact h2)
      obtain ⟨-, -, n2, -⟩ := HO1.out.at3 _ (P + (x - 1) * 3) _ hd2 (by have := HQ.out; omega)
      have HD3 := Lh hd3
      clear hd2 hd3
      by_cases h4 : d2.h = 1
      ·have HBAD := Lh (show badH l c (y * c + x) x = false by unfold badH; rw [← HD.out, h2, HD3.out.1 h4]; simp [h3])
       rw [h4] at n2
       clear h1 h2 h3 h4
       go_wp2
       go_roundw
       case rel => exact ⟨x + 1, by omega, by go_num, mend_stay HO1.out hxc hl HBAD.out, HB1.out⟩
       case measure => simp [intOf]; omega
      ·have HBAD := Lh (show badH l c (y * c + x) x = true by unfold badH; rw [← HD.out, h2]; have h5 : ¬ (getC l (y * c + x - 1)).h = 1 := fun h => h4 (HD3.out.2 h); simp [h3, h5])
       have e3 : ((d2.h : Int) != 1) = true := by simp; omega
       have e4 : ¬ (d2.h : Int) = 1 := by omega
       clear h1 h2 h3 h4
       go_wp2_with ((with_reducible refine (gblankp_any _).mono ?_); rintro e w2 ⟨rfl, hw⟩; have z2 := hw.size; have HW := Lh hw; obtain ⟨s0, s1, s2, f0, f1, f2⟩ := (HO1.out.below hw).at3 _ _ _ (mend_at (show y * c + x < l.length by omega) (Nat.le_refl _)) HQ.out; clear hw)
       go_roundw
       case rel => exact ⟨x + 1, by omega, by go_num, mend_put (HO1.out.below HW.out) hxc hl HQ.out HBAD.out, below_put (HB1.out.trans (HW.out.mono (by omega))) hbg _ _ _ _⟩
       case measure => simp [intOf]; omega
    ·have HBAD := Lh (show badH l c (y * c + x) x = false by unfold badH; rw [← HD.out]; simp [h1, h2])
     have g3 : ((d.h : Int) == 2) = false := by simp; omega
     have g4 : ¬ (d.h : Int) = 2 := by omega
     clear h1 h2
     go_wp2
     go_roundw
     case rel => exact ⟨x + 1, by omega, by go_num, mend_stay HO1.out hxc hl HBAD.out, HB1.out⟩
     case measure => simp [intOf]; omega
  ·obtain rfl : c = x := by omega
   clear ho hbel
   go_wp2
   go_end0
   exact ⟨rfl, HO.out, HB.out⟩
theorem getC_take {a : List Cl} (n i : Nat) (h : i < n) : getC (a.take n) i = getC a i := by
 unfold getC List.getD
 rw [List.getElem?_take, if_pos h]
theorem getC_drop {a : List Cl} (n i : Nat) : getC (a.drop n) i = getC a (n + i) := by
 unfold getC List.getD
 rw [List.getElem?_drop]
theorem add0g (g k : Nat) : (⟨g, 0, none⟩ : Addr).add k = ⟨g, k, none⟩ := by
 unfold Addr.add
 split
 ·rename_i h; rw [h]
 ·simp
theorem rowOf_own (g n k c y p P : Nat) (w : World) (hp : (y : Int) * (c : Int) = (p : Int)) (hp2 : ((y : Int) + 1) * (c : Int) = (p : Int) + (c : Int)) (hP : P = p * 3) (hn : p + c ≤ n) (hk : n ≤ k) (hk2 : k ≤ 9223372036854775807) (hc : 1 ≤ c) (hy : y ≤ 1000000) :
  Calls Tryz.prog 112 #[.slice (some ⟨g, 0, none⟩) n k, .int .i64 (c : Int), .int .i64 (y : Int)] w fun e w' => e = .returned (.slice (some ⟨g, P, none⟩) c (k - p)) ∧ w = w' := by
 have := rowOf_any ⟨g, 0, none⟩ n k c y p w hp hp2 hn hk hk2 hc hy
 rw [add0g, ← hP] at this
 exact this
theorem rowAt {n r c : Nat} (hg : GOk n r c) (y : Nat) (hy : y < r) : ∃ p P : Nat, p = y * c ∧ P = p * 3 ∧ (y : Int) * (c : Int) = (p : Int) ∧ ((y : Int) + 1) * (c : Int) = (p : Int) + (c : Int) ∧ p + c ≤ n := by
 refine ⟨y * c, y * c * 3, rfl, rfl, by simp, ?_, ?_⟩
 ·rw [Int.add_mul, Int.one_mul]; simp
 ·have : (y + 1) * c ≤ r * c := Nat.mul_le_mul_right _ hy
  rw [Nat.add_mul, Nat.one_mul] at this
  rw [hg.n]
  exact this
theorem mendL_yes {l : List Cl} {r c : Nat} (hg : GOk l.length r c) (y : Nat) (hy : y < r) : mendL l (c : Int) (y : Int) = fillL l (mendF l c) (y * c) (y * c + c) := by
 unfold mendL
 rw [if_pos (gPlace_mk hg (by omega) (by omega) (by omega) (by omega))]
 simp only [Int.toNat_natCast]
theorem mendRow {l : List Cl} {r c base g n cap p P : Nat} {w : World} (y : Nat) (hg : GOk l.length r c) (hy : y < r) (h : OC w base (.slice (some ⟨g, 0, none⟩) n cap) l) (hb : base ≤ w.heap.size) (hl : l.length ≤ 1048576) (hp : p = y * c) (hP : P = p * 3) (hn : p + c ≤ l.length) (hcap : l.length ≤ cap) (hcap2 : cap ≤ 9223372036854775807) :
  Calls Tryz.prog 111 #[.slice (some ⟨g, P, none⟩) c (cap - p)] w (MdPost (mendL l (c : Int) (y : Int)) base (.slice (some ⟨g, 0, none⟩) n cap) w) := by
 subst hp
 rw [mendL_yes hg y hy]
 exact mend_any l c y base g n cap P (cap - y * c) w h hb hn hl hg.c1 hg.c2 hP (by omega) (by omega)
theorem gPlace0 {n : Nat} {cols y : Int} : gPlace n cols y 0 = upB n cols y y := by
 rw [Bool.eq_iff_iff]
 unfold gPlace upB gOk
 simp only [Bool.and_eq_true, decide_eq_true_eq]
 constructor
 ·rintro ⟨a, b, c, d, e⟩
  exact ⟨a, b, c, Int.le_refl _⟩
 ·rintro ⟨a, b, c, -⟩
  exact ⟨a, b, c, by omega, by omega⟩
theorem gmend_any (v : Value) (l : List Cl) (cols y : Int) (w : World) (h : CS w w.heap.size v l) (hl : l.length ≤ 1048576) :
  Calls Tryz.prog 78 #[v, .int .i64 cols, .int .i64 y] w (CsPost (mendL l cols y) w) := by
 have hO := ownp_any v l w h (by omega)
 have H := Lh h
 cases hB : upB l.length cols y y with
 | true =>
  have HB2 := Lh hB
  rw [← gPlace0] at hB
  obtain ⟨r, c, y, _, rfl, rfl, _, hg, hy, -⟩ := gPlace_of hB
  obtain ⟨p, P, hp, hP, q1, q2, hpn⟩ := rowAt hg y hy
  have c1 := hg.c1
  have c2 := hg.c2
  have r2 := hg.r2
  have HG := Lh hg
  have Q1 := Lh q1
  have Q2 := Lh q2
  have HP := Lh hp
  have HPP := Lh hP
  have hpos : 0 < l.length := by omega
  obtain ⟨A, k, rfl, h1, h2⟩ := h.form
  clear h hB hg hp hP q1 q2
  go_enter Tryz.func78, Tryz.ntmps78
  go_wp2_with (first
   | ((with_reducible refine hO.mono ?_); rintro e w1 ⟨v1, rfl, ho, hb⟩; obtain ⟨g, cap, rfl, g1, g2, g3, g4⟩ := ho.open_ hpos; have z1 := hb.size; have HO := Lh ho; have HB := Lh hb; have HC := Lh ((H.out.below hb).more z1); clear ho hb)
   | ((with_reducible refine (hasRows_any _ l _ _ _ _ HC.out hl).mono ?_); rintro e w' ⟨rfl, rfl⟩; rw [HB2.out])
   | ((with_reducible refine (rowOf_own g l.length cap c y p P _ Q1.out Q2.out HPP.out hpn g3 g4 c1 (by omega)).mono ?_); rintro e w' ⟨rfl, rfl⟩)
   | ((with_reducible refine (mendRow y HG.out hy HO.out z1 (by omega) HP.out HPP.out hpn g3 g4).mono ?_); rintro e w2 ⟨rfl, ho2, hb2⟩))
  go_ret
  exact CellsPost.toCs ⟨_, rfl, ho2, HB.out.trans hb2⟩
 | false =>
  unfold mendL
  rw [gPlace0, hB, if_neg (by decide)]
  have HB2 := Lh hB
  obtain ⟨A, k, rfl, h1, h2⟩ := h.form
  clear h hB
  go_enter Tryz.func78, Tryz.ntmps78
  go_wp2_with (first
   | ((with_reducible refine hO.mono ?_); rintro e w1 ⟨v1, rfl, ho, hb⟩; have z1 := hb.size; have HO := Lh ho; have HB := Lh hb; have HC := Lh ((H.out.below hb).more z1); clear ho hb)
   | ((with_reducible refine (hasRows_any _ l _ _ _ _ HC.out hl).mono ?_); rintro e w' ⟨rfl, rfl⟩; rw [HB2.out]))
  go_ret
  exact CellsPost.toCs ⟨_, rfl, HO.out, HB.out⟩
theorem rows_ext {l m : List Cl} {r c : Nat} (h1 : l.length = r * c) (h2 : m.length = r * c) (hc : 1 ≤ c) (h : ∀ y x, y < r → x < c → getC l (y * c + x) = getC m (y * c + x)) : l = m := by
 refine getC_ext (by rw [h1, h2]) (fun i hi => ?_)
 rw [h2] at hi
 have e : i / c * c + i % c = i := by rw [Nat.mul_comm]; exact Nat.div_add_mod i c
 have := h (i / c) (i % c) ((Nat.div_lt_iff_lt_mul (by omega)).2 hi) (Nat.mod_lt _ (by omega))
 rw [e] at this
 exact this
end Go.Proofs.YthepofkdgbcifaaGreat
