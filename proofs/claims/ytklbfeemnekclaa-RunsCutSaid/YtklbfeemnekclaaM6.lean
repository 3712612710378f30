/- What is proved here: a contract of the program's function that tells which cell two numbers are; contracts of the program's functions on one run of cells: the run at the beginning, its bytes; a contract of the program's function that reads one run out of bytes; words for a row of runs of the call's own in memory over this translation, what append makes of it; plain facts on the cells that runs come to; a contract of the program's function that reads runs out of bytes; contracts of the program's functions that spread runs over cells and that read cells out of bytes: in new memory; a contract of the program's function that turns cells into bytes: in new memory; a contract of the program's function that reads cells out of bytes: in new memory; contracts of the document's small functions on grids of cells: a blank cell, a copy, which rows a grid has, which places it has; the contract of the document's comparison of cells, at slices that read alike. -/
import Derived.Test.YtklbfeemnekclaaM3
import Derived.Test.YtklbfeemnekclaaM5
import Derived.Test.YtklbfeemnekclaaM2
import Derived.Deep.QuietTactic
import Derived.BigQuiet
import Derived.Test.YtklbfeemnekclaaM1
namespace Go.Proofs.Ytklbfeemnekclaa
open Go.RowKit
set_option linter.unusedVariables false
set_option linter.unusedSimpArgs false

theorem bcell6 {W w1 : World} (hb : Below W.heap.size W w1) : (∀ b o, b < W.heap.size → w1.cell? ⟨b, o, none⟩ = W.cell? ⟨b, o, none⟩) ∧ (∀ b o, b < W.heap.size → w1.frozen? ⟨b, o, none⟩ = W.frozen? ⟨b, o, none⟩) :=
  ⟨fun b o h => hb.cell (p := ⟨b, o, none⟩) h, fun b o h => hb.frozen (p := ⟨b, o, none⟩) h⟩
theorem setcell_at {w : World} {g i : Nat} {xs : Array Value} {t : TypeId} (h : w.heap[g]? = some (.cells xs t)) (hi : i < xs.size) (x : Value) : (w.setCell ⟨g, i, none⟩ x).cell? ⟨g, i, none⟩ = some x ∧ ∃ ys, ys.size = xs.size ∧ (w.setCell ⟨g, i, none⟩ x).heap[g]? = some (.cells ys t) := by
  have h2 := heap_setCell_same w g i xs t x h
  refine ⟨(cell3 h2 i (by simp [hi])).1, _, ?_, h2⟩
  simp
theorem setcell_three {w : World} {g : Nat} {xs : Array Value} {t : TypeId} (h : w.heap[g]? = some (.cells xs t)) (hi : 2 < xs.size) (x y z : Value) : (w.setCell ⟨g, 0, none⟩ x).cell? ⟨g, 0, none⟩ = some x ∧ ((w.setCell ⟨g, 0, none⟩ x).setCell ⟨g, 1, none⟩ y).cell? ⟨g, 1, none⟩ = some y ∧ (((w.setCell ⟨g, 0, none⟩ x).setCell ⟨g, 1, none⟩ y).setCell ⟨g, 2, none⟩ z).cell? ⟨g, 2, none⟩ = some z := by
  obtain ⟨e0, ys, s0, h0⟩ := setcell_at h (i := 0) (by omega) x
  obtain ⟨e1, zs, s1, h1⟩ := setcell_at h0 (i := 1) (by omega) y
  obtain ⟨e2, -⟩ := setcell_at h1 (i := 2) (by omega) z
  exact ⟨e0, e1, e2⟩
theorem heap_two (w : World) (o p : Obj) : ((w.alloc o).alloc p).heap[w.heap.size]? = some o := by
  show ((w.heap.push o).push p)[w.heap.size]? = some o
  rw [Array.getElem?_push, if_neg (by simp), Array.getElem?_push, if_pos rfl]
/-- The cell that two numbers are, and whether it may be. -/
def cofL (x y : Nat) : Cl × Bool := if 1114111 < x ∨ 16384 ≤ y then (⟨0, 0, 0⟩, false) else (cellOf x y, cellB (cellOf x y))
def CofPost (x y : Nat) (w : World) (e : Ending) (w' : World) : Prop := e = .returned (.tuple #[aC (cofL x y).1, .bool (cofL x y).2]) ∧ Below w.heap.size w w'
set_option maxHeartbeats 2000000 in
set_option maxRecDepth 100000 in
theorem cellOf_any (x y : Int) (x0 : 0 ≤ x) (x1 : x < 18446744073709551616) (y0 : 0 ≤ y) (y1 : y < 18446744073709551616) (w : World) : Calls Try.prog 43 #[.int .u64 x, .int .u64 y] w (CofPost x.toNat y.toNat w) := by
  have HBW := Lib.hid (show Below w.heap.size w (w.alloc (.cells #[.int .i32 0, .int .u16 0, .int .u8 0] 41)) from (Below.refl _ _).alloc (Nat.le_refl _) _)
  by_cases b1 : 1114111 < x
  · have HX := Lib.hid (show cofL x.toNat y.toNat = (⟨0, 0, 0⟩, false) from if_pos (.inl (by omega)))
    have b1' : decide (1114111 < x) = true := by simpa using b1
    go_enter Try.func43, Try.ntmps43
    go_wp2
    exact bodyPost_ret (v := .tuple #[.agg #[.int .i32 0, .int .u16 0, .int .u8 0], .bool false]) (by simp [results, Try.results43, go_sem]) rfl ⟨by rw [HX.out]; rfl, HBW.out⟩
  have b1' : decide (1114111 < x) = false := by simpa using b1
  by_cases b2 : 16384 ≤ y
  · have HX := Lib.hid (show cofL x.toNat y.toNat = (⟨0, 0, 0⟩, false) from if_pos (.inr (by omega)))
    have b2' : decide (4096 ≤ y / 4) = true := by simp; omega
    go_enter Try.func43, Try.ntmps43
    go_wp2
    exact bodyPost_ret (v := .tuple #[.agg #[.int .i32 0, .int .u16 0, .int .u8 0], .bool false]) (by simp [results, Try.results43, go_sem]) rfl ⟨by rw [HX.out]; rfl, HBW.out⟩
  have b2' : decide (4096 ≤ y / 4) = false := by simp; omega
  obtain ⟨R, rfl⟩ : ∃ R : Nat, x = (R : Int) := ⟨x.toNat, by omega⟩
  obtain ⟨Z, rfl⟩ : ∃ Z : Nat, y = (Z : Int) := ⟨y.toNat, by omega⟩
  have HX := Lib.hid (show cofL ((R : Int)).toNat ((Z : Int)).toNat = (cellOf R Z, cellB (cellOf R Z)) by rw [Int.toNat_natCast, Int.toNat_natCast]; exact if_neg (by omega))
  obtain ⟨a4, ha4⟩ : ∃ a4 : Nat, (Z : Int) / 4 = (a4 : Int) := ⟨Z / 4, by omega⟩
  obtain ⟨h4, hh4⟩ : ∃ h4 : Nat, (Z : Int) % 4 = (h4 : Int) := ⟨Z % 4, by omega⟩
  have HCO := Lib.hid (show cellOf R Z = ⟨(R : Int), a4, h4⟩ by unfold cellOf; rw [show Z / 4 = a4 by omega, show Z % 4 = h4 by omega])
  have a4l : (a4 : Int) < 4096 := by omega
  have h4l : (h4 : Int) < 4 := by omega
  have hR : (R : Int) ≤ 1114111 := by omega
  have hcr (w : World) := right_any ⟨(R : Int), a4, h4⟩ ⟨by show (-2147483648 : Int) ≤ (R : Int); omega, by show (R : Int) ≤ 2147483647; omega, by show a4 < 65536; omega, by show h4 < 256; omega⟩ w
  unfold aC at hcr
  simp only at hcr
  have hZ : (Z : Int) < 16384 := by omega
  clear x0 x1 y0 y1 b1 b2
  go_enter Try.func43, Try.ntmps43
  go_wp2
  go_region_with ((go_at_call 10; refine (hcr _).mono ?_; rintro e wx ⟨rfl, bx⟩; obtain ⟨hcx, hfx⟩ := bcell6 bx; have HBX := Lib.hid bx; clear bx))
  all_goals
    go_simp
    go_wp2
    have hkx : wx.heap[w.heap.size]? = some (.cells #[.int .i32 0, .int .u16 0, .int .u8 0] 41) :=
      (HBX.out.block w.heap.size (by simp; omega)).trans (heap_two w _ _)
    obtain ⟨e0, e1, e2⟩ := setcell_three hkx (by simp) (.int .i32 (R : Int)) (.int .u16 (a4 : Int)) (.int .u8 (h4 : Int))
    refine bodyPost_ret (v := .tuple #[.agg #[.int .i32 (R : Int), .int .u16 (a4 : Int), .int .u8 (h4 : Int)], .bool (cellB ⟨(R : Int), a4, h4⟩)]) (by simp [results, Try.results43, go_sem, e0, e1, e2]) rfl ⟨by rw [HX.out, HCO.out]; rfl, ?_⟩
    refine below_put (k := 0) ?_ (Nat.le_refl _) _ _ _
    first
      | exact (((Below.refl w.heap.size w).alloc (Nat.le_refl _) _).alloc (by simp) _).drew.trans (HBX.out.mono (by simp; omega))
      | exact (((Below.refl w.heap.size w).alloc (Nat.le_refl _) _).alloc (by simp) _).trans (HBX.out.mono (by simp; omega))
end Go.Proofs.Ytklbfeemnekclaa

namespace Go.Proofs.Ytklbfeemnekclaa
open Go.RowKit
set_option linter.unusedVariables false
set_option linter.unusedSimpArgs false

theorem OB.low6 {w : World} {b1 b2 : Nat} {v : Value} {l : List UInt8} (h : OB w b1 v l) (hb : b2 ≤ b1) : OB w b2 v l := by
  obtain ⟨a1, a2⟩ := h
  refine ⟨a1, ?_⟩
  rcases a2 with a2 | ⟨g, cap, cur, hv, hg, hr⟩
  · exact .inl a2
  · exact .inr ⟨g, cap, cur, hv, Nat.le_trans hb hg, hr⟩
/-- A run as one value: how many, the cell. -/
@[reducible] def aU (n : Int) (c : Cl) : Value := .agg #[.int .u64 n, .int .i32 c.r, .int .u16 (c.a : Int), .int .u8 (c.h : Int)]
theorem threeAt0 {w : World} {ad : Addr} {c : Cl} (h : ThreeAt w (ad.add (0 * 3)) c) : w.cell? ad = some (.int .i32 c.r) ∧ w.cell? ⟨ad.block, ad.off + 1, none⟩ = some (.int .u16 (c.a : Int)) ∧ w.cell? ⟨ad.block, ad.off + 2, none⟩ = some (.int .u8 (c.h : Int)) := by
  rw [Nat.zero_mul, show ad.add 0 = ad by simp [Addr.add]] at h
  exact h
def FrRel (N : Nat) (w1 : World) (k : Value) (wr : World) : Prop := ∃ m : Nat, 1 ≤ m ∧ m ≤ N ∧ k = .int .i64 (m : Int) ∧ ∃ q, wr = w1.drewN q
def FrPost (N : Nat) (c : Cl) (w : World) (e : Ending) (w' : World) : Prop := e = .returned (aU (N : Int) c) ∧ Below w.heap.size w w'
set_option maxHeartbeats 1000000 in
theorem firstRun_any (v : Value) (l : List Cl) (c : Cl) (N : Nat) (w : World) (h : CS w w.heap.size v l) (hl : l.length ≤ 1048576) (hc : l[0]? = some c) (hN : sameN c l = N) : Calls Try.prog 18 #[v] w (FrPost N c w) := by
  have hpos : 0 < l.length := (List.getElem?_eq_some_iff.1 hc).1
  have hN1 : 1 ≤ N ∧ N ≤ l.length := by
    have := bytL_drop l 0 N c hc (by rw [List.drop_zero]; exact hN)
    omega
  obtain ⟨n1, n2⟩ := hN1
  have HC := Lib.hid h
  obtain ⟨A, cp, rfl, g1, g2⟩ := h.form
  have HNN := Lib.hid hN
  have HC0 := Lib.hid hc
  clear h hN hc
  go_enter Try.func18, Try.ntmps18
  go_wp2
  have hbW : Below w.heap.size w (w.alloc (.cells #[.int .u64 0, .int .i32 0, .int .u16 0, .int .u8 0] 57)) := (Below.refl _ _).alloc (Nat.le_refl _) _
  have HBW := Lib.hid hbW
  clear hbW
  go_loopw [3] (fun k wr => FrRel N (w.alloc (.cells #[.int .u64 0, .int .i32 0, .int .u16 0, .int .u8 0] 57)) k wr) (fun k _ => N - (intOf k).toNat)
  case atStart => exact ⟨1, Nat.le_refl _, n1, rfl, 0, rfl⟩
  case round =>
    obtain ⟨K, k1, hk, rfl, q, rfl⟩ := hrel
    obtain ⟨ad, hAd, hadb, t⟩ := (HC.out.below HBW.out).get 0 c HC0.out
    obtain ⟨t0, t1, t2⟩ := threeAt0 t
    subst hAd
    clear t
    by_cases hmN : K < N
    · have hKl : K < l.length := by omega
      have hKc : l[K]? = some c := sameN_at c l K (by rw [HNN.out]; exact hmN)
      obtain ⟨ad3, hAd3, hadb3, s0, s1, s2⟩ := (HC.out.below HBW.out).get K c hKc
      injection hAd3 with hAd3
      subst hAd3
      have hKd : decide (K < l.length) = true := by simpa using hKl
      clear hKc
      go_wp2
      go_quiet (fail)
      go_wp2
      go_roundw
      case rel => exact ⟨K + 1, by omega, hmN, by go_num, q + nq, by first | rfl | rw [World.drewN_drewN]⟩
      case measure => simp [intOf]; omega
    · obtain rfl : K = N := by omega
      by_cases hKl : K < l.length
      · obtain ⟨c2, hc2⟩ : ∃ c2, l[K]? = some c2 := ⟨_, List.getElem?_eq_getElem hKl⟩
        have hne : c2 ≠ c := by
          intro e
          have h := sameN_stop c l (by rw [HNN.out]; exact hKl)
          rw [HNN.out, hc2, e] at h
          exact h rfl
        obtain ⟨ad3, hAd3, hadb3, s0, s1, s2⟩ := (HC.out.below HBW.out).get K c2 hc2
        injection hAd3 with hAd3
        subst hAd3
        have hKd : decide (K < l.length) = true := by simpa using hKl
        have hk3 : ((c2.r == c.r) = false) ∨ (c2.r = c.r ∧ ((c2.a : Int) == (c.a : Int)) = false) ∨ (c2.r = c.r ∧ c2.a = c.a ∧ ((c2.h : Int) == (c.h : Int)) = false) := by
          by_cases e1 : c2.r = c.r
          · by_cases e2 : c2.a = c.a
            · refine .inr (.inr ⟨e1, e2, beq_eq_false_iff_ne.2 fun e => hne ?_⟩)
              cases c2
              cases c
              simp only at e1 e2 e
              rw [e1, e2]
              congr 1
              omega
            · exact .inr (.inl ⟨e1, beq_eq_false_iff_ne.2 (by omega)⟩)
          · exact .inl (beq_eq_false_iff_ne.2 e1)
        clear hc2 hne
        rcases hk3 with hbq | ⟨hrq, hbq⟩ | ⟨hrq, haq, hbq⟩
        all_goals
          try rw [hrq] at s0
          try rw [haq] at s1
          try clear hrq
          try clear haq
          go_wp2
          go_quiet (fail)
          go_wp2
          exact bodyPost_ret (v := aU (K : Int) c) (by simp [results, Try.results18, go_sem]) rfl ⟨rfl, ((((below_drewP HBW.out (q + nq)).setCell (p := ⟨w.heap.size, 0, none⟩) (Nat.le_refl _) _).setCell (p := ⟨w.heap.size, 1, none⟩) (Nat.le_refl _) _).setCell (p := ⟨w.heap.size, 2, none⟩) (Nat.le_refl _) _).setCell (p := ⟨w.heap.size, 3, none⟩) (Nat.le_refl _) _⟩
      · have hKd : decide (K < l.length) = false := by simpa using hKl
        go_wp2
        go_quiet (fail)
        go_wp2
        exact bodyPost_ret (v := aU (K : Int) c) (by simp [results, Try.results18, go_sem]) rfl ⟨rfl, ((((below_drewP HBW.out (q + nq)).setCell (p := ⟨w.heap.size, 0, none⟩) (Nat.le_refl _) _).setCell (p := ⟨w.heap.size, 1, none⟩) (Nat.le_refl _) _).setCell (p := ⟨w.heap.size, 2, none⟩) (Nat.le_refl _) _).setCell (p := ⟨w.heap.size, 3, none⟩) (Nat.le_refl _) _⟩
def PuPost (N : Nat) (c : Cl) (w : World) (e : Ending) (w' : World) : Prop := ∃ u, e = .returned u ∧ OB w' w.heap.size u (runB N c) ∧ Below w.heap.size w w'
set_option maxHeartbeats 1000000 in
theorem putRun_any (N : Nat) (c : Cl) (w : World) (hN : N ≤ 1048576) (hc : cellB c = true) : Calls Try.prog 19 #[aU (N : Int) c] w (PuPost N c w) := by
  obtain ⟨r0, r1, a1, h1⟩ := cellB_bd hc
  have l1 := (lebP_length N).2
  have l2 := (lebP_length c.r.toNat).2
  have l3 := (lebP_length (4 * c.a + c.h)).2
  have ai : (c.a : Int) < 4096 := by omega
  have hi : (c.h : Int) ≤ 2 := by omega
  have Ni : (N : Int) ≤ 1048576 := by omega
  clear hc
  have HBW := Lib.hid (show Below w.heap.size w (w.alloc (.cells #[.int .u64 (N : Int), .int .i32 c.r, .int .u16 (c.a : Int), .int .u8 (c.h : Int)] 57)) from (Below.refl _ _).alloc (Nat.le_refl _) _)
  have HKW := Lib.hid (show (w.alloc (.cells #[.int .u64 (N : Int), .int .i32 c.r, .int .u16 (c.a : Int), .int .u8 (c.h : Int)] 57)).heap[w.heap.size]? = some (.cells #[.int .u64 (N : Int), .int .i32 c.r, .int .u16 (c.a : Int), .int .u8 (c.h : Int)] 57) by
    show (w.heap.push _)[w.heap.size]? = _
    simp)
  have HZW := Lib.hid (show (w.alloc (.cells #[.int .u64 (N : Int), .int .i32 c.r, .int .u16 (c.a : Int), .int .u8 (c.h : Int)] 57)).heap.size = w.heap.size + 1 by simp)
  go_enter Try.func19, Try.ntmps19
  go_wp2_with fail
  refine (put_any (N : Int) (by omega) (by omega) _).mono ?_
  rintro e wa ⟨va, rfl, oa, ba⟩
  rw [show ((N : Int)).toNat = N by omega] at oa
  have HKA := Lib.hid ((ba.block w.heap.size (by rw [HZW.out]; omega)).trans HKW.out)
  have HBA := Lib.hid (HBW.out.trans (ba.mono HBW.out.size))
  rw [HZW.out] at oa ba
  have z1 : w.heap.size + 1 ≤ wa.heap.size := by have := ba.size; rw [HZW.out] at this; exact this
  have HOA := Lib.hid oa
  clear oa ba
  obtain ⟨c1, -⟩ := cell3 HKA.out 1 rfl
  go_wp2_with fail
  refine (put_any c.r (by omega) (by omega) _).mono ?_
  rintro e wb ⟨vb, rfl, ob, bb⟩
  have HKB := Lib.hid ((bb.block w.heap.size (by omega)).trans HKA.out)
  have HBB := Lib.hid (HBA.out.trans (bb.mono (by omega)))
  have hoa := HOA.out.below bb
  have hob := ob.bs
  have z2 : w.heap.size + 1 ≤ wb.heap.size := Nat.le_trans z1 bb.size
  clear c1 ob bb
  go_wp2_with (at_builtin; refine wpl_app _ rfl (.tmp 7) (.tmp 12) rfl (w.heap.size + 1) _ _ _ (lebP N) (lebP c.r.toNat) rfl rfl hoa hob (by omega) z2 ?_; intro vd wd od gd bd _; have HKD := Lib.hid ((bd.block w.heap.size (by omega)).trans HKB.out); have HBD := Lib.hid (HBB.out.trans (bd.mono (by omega))); have HOD := Lib.hid od; have z3 : w.heap.size + 1 ≤ wd.heap.size := Nat.le_trans z2 bd.size; clear od gd bd hoa hob; obtain ⟨c2, -⟩ := cell3 HKD.out 2 rfl; obtain ⟨c3, -⟩ := cell3 HKD.out 3 rfl)
  refine (put_any (4 * (c.a : Int) + (c.h : Int)) (by omega) (by omega) _).mono ?_
  rintro e we ⟨ve, rfl, oe, be⟩
  rw [show (4 * (c.a : Int) + (c.h : Int)).toNat = 4 * c.a + c.h by omega] at oe
  have HBE := Lib.hid (HBD.out.trans (be.mono (by omega)))
  have hod := HOD.out.below be
  have hoe := oe.bs
  have z4 : w.heap.size + 1 ≤ we.heap.size := Nat.le_trans z3 be.size
  clear c2 c3 oe be
  go_wp2_with (at_builtin; refine wpl_app _ rfl (.tmp 14) (.tmp 25) rfl (w.heap.size + 1) _ _ _ (lebP N ++ lebP c.r.toNat) (lebP (4 * c.a + c.h)) rfl rfl hod hoe (by simp only [List.length_append]; omega) z4 ?_; intro vf wf off gf bf _)
  go_ret
  exact ⟨vf, rfl, by unfold runB; rw [← List.append_assoc]; exact off.low6 (Nat.le_succ _), HBE.out.trans (bf.mono (Nat.le_succ _))⟩
end Go.Proofs.Ytklbfeemnekclaa

namespace Go.Proofs.Ytklbfeemnekclaa
open Go.RowKit
set_option linter.unusedVariables false
set_option linter.unusedSimpArgs false

theorem readp_at6 {v : Value} {l : List UInt8} {B : Nat} {w : World} (h : BS w B v l) (hl : l.length ≤ 1099511627776) {x : Int} {k er : Nat} (hx : 0 ≤ x) (hr : readL l = (x.toNat, k, er)) :
    Calls Try.prog 42 #[v] w fun e w' => e = .returned (.tuple #[.int .u64 x, .int .i64 (k : Int), .int .i64 (er : Int)]) ∧ w = w' := by
  refine (read_any v l B w h hl).mono ?_
  rintro e w' ⟨rfl, rfl⟩
  refine ⟨?_, rfl⟩
  rw [hr, tup]
  simp
  omega
theorem heap_one (w : World) (o : Obj) : (w.alloc o).heap[w.heap.size]? = some o := by
  show (w.heap.push o)[w.heap.size]? = some o
  simp
theorem setcell_four {w : World} {g : Nat} {xs : Array Value} {t : TypeId} (h : w.heap[g]? = some (.cells xs t)) (hi : 3 < xs.size) (x y z u : Value) : (w.setCell ⟨g, 0, none⟩ x).cell? ⟨g, 0, none⟩ = some x ∧ ((w.setCell ⟨g, 0, none⟩ x).setCell ⟨g, 1, none⟩ y).cell? ⟨g, 1, none⟩ = some y ∧ (((w.setCell ⟨g, 0, none⟩ x).setCell ⟨g, 1, none⟩ y).setCell ⟨g, 2, none⟩ z).cell? ⟨g, 2, none⟩ = some z ∧ ((((w.setCell ⟨g, 0, none⟩ x).setCell ⟨g, 1, none⟩ y).setCell ⟨g, 2, none⟩ z).setCell ⟨g, 3, none⟩ u).cell? ⟨g, 3, none⟩ = some u := by
  obtain ⟨e0, ys, s0, h0⟩ := setcell_at h (i := 0) (by omega) x
  obtain ⟨e1, zs, s1, h1⟩ := setcell_at h0 (i := 1) (by omega) y
  obtain ⟨e2, us, s2, h2⟩ := setcell_at h1 (i := 2) (by omega) z
  obtain ⟨e3, -⟩ := setcell_at h2 (i := 3) (by omega) u
  exact ⟨e0, e1, e2, e3⟩
theorem below_put4 {B : Nat} {w w' : World} (h : Below B w w') {g : Nat} (hg : B ≤ g) (x y z u : Value) : Below B w ((((w'.setCell ⟨g, 0, none⟩ x).setCell ⟨g, 1, none⟩ y).setCell ⟨g, 2, none⟩ z).setCell ⟨g, 3, none⟩ u) :=
  (((h.setCell (p := ⟨g, 0, none⟩) hg x).setCell (p := ⟨g, 1, none⟩) hg y).setCell (p := ⟨g, 2, none⟩) hg z).setCell (p := ⟨g, 3, none⟩) hg u
/-- One run at the beginning, of at most so many cells: how many, the cell; how many bytes; the error. -/
def rrL (b : List UInt8) (left : Nat) : (Nat × Cl) × Nat × Nat :=
  if (run3 b).2.2 ≠ 0 then ((0, ⟨0, 0, 0⟩), 0, (run3 b).2.2)
  else if (run3 b).1.1 = 0 ∨ left < (run3 b).1.1 ∨ (cofL (run3 b).1.2.1 (run3 b).1.2.2).2 = false then ((0, ⟨0, 0, 0⟩), 0, 21)
  else (((run3 b).1.1, (cofL (run3 b).1.2.1 (run3 b).1.2.2).1), (run3 b).2.1, 0)
theorem rrL_err {b : List UInt8} {left k e : Nat} {x : Nat × Nat × Nat} (hr : run3 b = (x, k, e)) (he : e ≠ 0) : rrL b left = ((0, ⟨0, 0, 0⟩), 0, e) := by
  unfold rrL; rw [hr]; exact if_pos he
theorem rrL_bad {b : List UInt8} {left k v1 v2 v3 : Nat} (hr : run3 b = ((v1, v2, v3), k, 0)) (h : v1 = 0 ∨ left < v1 ∨ (cofL v2 v3).2 = false) : rrL b left = ((0, ⟨0, 0, 0⟩), 0, 21) := by
  unfold rrL; rw [hr]; simp only [ne_eq, not_true_eq_false, if_false]; rw [if_pos h]
theorem rrL_ok {b : List UInt8} {left k v1 v2 v3 : Nat} (hr : run3 b = ((v1, v2, v3), k, 0)) (h : ¬ (v1 = 0 ∨ left < v1 ∨ (cofL v2 v3).2 = false)) : rrL b left = ((v1, (cofL v2 v3).1), k, 0) := by
  unfold rrL; rw [hr]; simp only [ne_eq, not_true_eq_false, if_false]; rw [if_neg h]
def RrPost (b : List UInt8) (left : Nat) (w : World) (e : Ending) (w' : World) : Prop :=
  e = .returned (.tuple #[aU ((rrL b left).1.1 : Int) (rrL b left).1.2, .int .i64 ((rrL b left).2.1 : Int), .int .i64 ((rrL b left).2.2 : Int)]) ∧ Below w.heap.size w w'
set_option maxHeartbeats 4000000 in
set_option maxRecDepth 100000 in
theorem readRun_any (v : Value) (b : List UInt8) (left : Int) (w : World) (B : Nat) (hB : B ≤ w.heap.size) (h : BS w B v b) (hl : b.length ≤ 1048576) (l0 : 0 ≤ left) (l1 : left < 18446744073709551616) : Calls Try.prog 31 #[v, .int .u64 left] w (RrPost b left.toNat w) := by
  have HB := Lib.hid (h.more hB)
  obtain ⟨A, cp, rfl, g1, g2, -⟩ := h.at_
  unfold maxLen at g2
  clear h
  obtain ⟨w5, hw5⟩ : ∃ w5, w.alloc (.cells #[.int .u64 0, .int .i32 0, .int .u16 0, .int .u8 0] 57) = w5 := ⟨_, rfl⟩
  have hz5 : w5.heap.size = w.heap.size + 1 := by rw [← hw5]; simp
  have hk5 : w5.heap[w.heap.size]? = some (.cells #[.int .u64 0, .int .i32 0, .int .u16 0, .int .u8 0] 57) := by
    rw [← hw5]
    show (w.heap.push _)[w.heap.size]? = _
    simp
  have hb5 : Below w.heap.size w w5 := by rw [← hw5]; exact (Below.refl _ _).alloc (Nat.le_refl _) _
  have HW5 := Lib.hid hw5
  have HZ5 := Lib.hid hz5
  have HK5 := Lib.hid hk5
  have HB5 := Lib.hid hb5
  clear hw5 hz5 hk5 hb5
  go_enter Try.func31, Try.ntmps31
  go_wp2
  go_loopw [8, 16] (fun av iv wr => NumRel b 0 w5 av iv wr) (fun _ iv _ => 3 - (intOf iv).toNat)
  case atStart =>
    refine ⟨0, 0, 0, 0, 0, by omega, rfl, rfl, Nat.zero_le _, by omega, by omega, by omega, by omega, by omega, by omega, .inl ⟨rfl, rfl, rfl, rfl, rfl⟩, ?_, ?_⟩
    · rw [← HW5.out]
      exact heap_one _ _
    · rw [← HW5.out]
      exact (Below.refl _ _).alloc (Nat.le_refl _) _
  case round =>
    obtain ⟨i, a, y1, y2, y3, hi, rfl, rfl, ha, q1, q2, q3, q4, q5, q6, hnum, kv, hb⟩ := hrel
    have HNUM := Lib.hid hnum
    have KV := Lib.hid kv
    have HBW := Lib.hid hb
    have HBR := Lib.hid (HB5.out.trans (hb.mono HB5.out.size))
    have KR := Lib.hid ((hb.block w.heap.size (by rw [HZ5.out]; omega)).trans HK5.out)
    clear hnum kv hb
    by_cases hi3 : i < 3
    · obtain ⟨x, k, er, hr, x0, x1, hk, her⟩ := readL_ex6 (b.drop a)
      rw [List.length_drop] at hk
      obtain ⟨A2, hif2⟩ : ∃ A2, (if cp = a then A else Option.map (fun x => x.add a) A) = A2 := ⟨_, rfl⟩
      have hc1 := (HB.out.below HBR.out).cut a (b.length - a) (b.length - a) (by omega) rfl
      rw [hif2, List.take_of_length_le (by simp)] at hc1
      have hread := readp_at6 hc1 (by simp; omega) x0 hr
      have HR := Lib.hid hr
      have hi3' : (i : Int) < 3 := by omega
      clear hr hc1
      by_cases he : er = 0
      · subst he
        have HNX := Lib.hid (num_next HNUM.out hi3 HR.out)
        have hz5 := HZ5.out
        obtain ⟨c0, f0⟩ := cell3 KV.out 0 rfl
        obtain ⟨c1, f1⟩ := cell3 KV.out 1 rfl
        obtain ⟨c2, f2⟩ := cell3 KV.out 2 rfl
        rw [hz5] at c0 f0 c1 f1 c2 f2
        clear hz5
        have hi4 : i = 0 ∨ i = 1 ∨ i = 2 := by omega
        rcases hi4 with rfl | rfl | rfl
        · go_wp2_with (first
            | (go_at_call 42; refine hread.mono ?_; rintro e w1 ⟨rfl, rfl⟩))
          go_roundw
          case rel =>
            rw [← HZ5.out]
            exact ⟨1, a + k, x, y2, y3, by omega, rfl, by go_num, by omega, x0, x1, q3, q4, q5, q6, HNX.out, by rw [heap_setCell_same _ _ 0 _ _ _ KV.out]; rfl, HBW.out.setCell (p := ⟨w5.heap.size, 0, none⟩) (Nat.le_refl _) _⟩
          case measure => simp [intOf]
        · go_wp2_with (first
            | (go_at_call 42; refine hread.mono ?_; rintro e w1 ⟨rfl, rfl⟩))
          go_roundw
          case rel =>
            rw [← HZ5.out]
            exact ⟨2, a + k, y1, x, y3, by omega, rfl, by go_num, by omega, q1, q2, x0, x1, q5, q6, HNX.out, by rw [heap_setCell_same _ _ 1 _ _ _ KV.out]; rfl, HBW.out.setCell (p := ⟨w5.heap.size, 1, none⟩) (Nat.le_refl _) _⟩
          case measure => simp [intOf]
        · go_wp2_with (first
            | (go_at_call 42; refine hread.mono ?_; rintro e w1 ⟨rfl, rfl⟩))
          go_roundw
          case rel =>
            rw [← HZ5.out]
            exact ⟨3, a + k, y1, y2, x, by omega, rfl, by go_num, by omega, q1, q2, q3, q4, x0, x1, HNX.out, by rw [heap_setCell_same _ _ 2 _ _ _ KV.out]; rfl, HBW.out.setCell (p := ⟨w5.heap.size, 2, none⟩) (Nat.le_refl _) _⟩
          case measure => simp [intOf]
      · have e1 : ((er : Int) != 0) = true := by simp; omega
        have hrr := rrL_err (left := left.toNat) (num_err HNUM.out hi3 HR.out he) he
        rw [List.drop_zero] at hrr
        have HRR := Lib.hid hrr
        obtain ⟨c0, f0⟩ := cell3 KR.out 0 rfl
        obtain ⟨c1, f1⟩ := cell3 KR.out 1 rfl
        obtain ⟨c2, f2⟩ := cell3 KR.out 2 rfl
        obtain ⟨c3, f3⟩ := cell3 KR.out 3 rfl
        clear hrr
        go_wp2_with (first
          | (go_at_call 42; refine hread.mono ?_; rintro e w1 ⟨rfl, rfl⟩))
        obtain ⟨s0, s1, s2, s3⟩ := setcell_four KR.out (by simp) (.int .u64 0) (.int .i32 0) (.int .u16 0) (.int .u8 0)
        exact bodyPost_ret (v := .tuple #[.agg #[.int .u64 0, .int .i32 0, .int .u16 0, .int .u8 0], .int .i64 0, .int .i64 (er : Int)]) (by simp [results, Try.results31, go_sem, s0, s1, s2, s3]) rfl ⟨by rw [HRR.out]; rfl, below_put4 HBR.out (Nat.le_refl _) _ _ _ _⟩
    · obtain rfl : i = 3 := by omega
      generalize wr = wn at *
      obtain ⟨k, hrun, hak⟩ := num_done HNUM.out
      rw [List.drop_zero] at hrun
      rw [Nat.zero_add] at hak
      subst hak
      have HRUN := Lib.hid hrun
      have hz5 := HZ5.out
      obtain ⟨c0, f0⟩ := cell3 KV.out 0 rfl
      obtain ⟨c1, f1⟩ := cell3 KV.out 1 rfl
      obtain ⟨c2, f2⟩ := cell3 KV.out 2 rfl
      rw [hz5] at c0 f0 c1 f1 c2 f2
      clear hz5 hrun
      have hco := cellOf_any y2 y3 q3 q4 q5 q6 wn
      obtain ⟨⟨cc, ok⟩, hcc⟩ : ∃ X, cofL y2.toNat y3.toNat = X := ⟨_, rfl⟩
      have HCC := Lib.hid hcc
      unfold CofPost at hco
      rw [hcc] at hco
      unfold aC at hco
      simp only at hco
      clear hcc
      go_wp2_with fail
      refine hco.mono ?_
      rintro e wx ⟨rfl, bx⟩
      have hlw : w.heap.size < wn.heap.size := lt3 KR.out
      have hax : w.heap.size < wx.heap.size := Nat.lt_of_lt_of_le hlw bx.size
      have KX := Lib.hid ((Below.heap_alloc wx (.cells #[.int .i32 cc.r, .int .u16 (cc.a : Int), .int .u8 (cc.h : Int)] 41) w.heap.size hax).trans ((bx.block w.heap.size hlw).trans KR.out))
      have HBX := Lib.hid ((HBR.out.trans (bx.mono HBR.out.size)).alloc (HBR.out.trans (bx.mono HBR.out.size)).size (.cells #[.int .i32 cc.r, .int .u16 (cc.a : Int), .int .u8 (cc.h : Int)] 41))
      have KC := Lib.hid (heap_one wx (.cells #[.int .i32 cc.r, .int .u16 (cc.a : Int), .int .u8 (cc.h : Int)] 41))
      clear bx c0 f0 c1 f1 c2 f2 hlw
      go_upto_region 14 with fail
      generalize World.alloc wx _ = W at KX HBX KC ⊢
      obtain ⟨d0, g0⟩ := cell3 KX.out 0 rfl
      obtain ⟨d1, g1⟩ := cell3 KX.out 1 rfl
      obtain ⟨d2, g2⟩ := cell3 KX.out 2 rfl
      obtain ⟨d3, g3⟩ := cell3 KX.out 3 rfl
      obtain ⟨m0, -⟩ := cell3 KC.out 0 rfl
      obtain ⟨m1, -⟩ := cell3 KC.out 1 rfl
      obtain ⟨m2, -⟩ := cell3 KC.out 2 rfl
      by_cases b1 : y1 = 0
      · subst b1
        have HRR := Lib.hid (rrL_bad (left := left.toNat) HRUN.out (.inl rfl))
        obtain ⟨s0, s1, s2, s3⟩ := setcell_four KX.out (by simp) (.int .u64 0) (.int .i32 0) (.int .u16 0) (.int .u8 0)
        have HS := Lib.hid (And.intro s0 (And.intro s1 (And.intro s2 s3)))
        clear s0 s1 s2 s3
        go_wp2
        obtain ⟨s0, s1, s2, s3⟩ := HS.out
        exact bodyPost_ret (v := .tuple #[.agg #[.int .u64 0, .int .i32 0, .int .u16 0, .int .u8 0], .int .i64 0, .int .i64 21]) (by simp [results, Try.results31, go_sem, s0, s1, s2, s3]) rfl ⟨by rw [HRR.out]; rfl, below_put4 HBX.out (Nat.le_refl _) _ _ _ _⟩
      have b1' : (y1 == 0) = false := beq_eq_false_iff_ne.2 b1
      by_cases b2 : left < y1
      · have b2' : decide (left < y1) = true := by simpa using b2
        have HRR := Lib.hid (rrL_bad (left := left.toNat) HRUN.out (.inr (.inl (by omega))))
        obtain ⟨s0, s1, s2, s3⟩ := setcell_four KX.out (by simp) (.int .u64 0) (.int .i32 0) (.int .u16 0) (.int .u8 0)
        have HS := Lib.hid (And.intro s0 (And.intro s1 (And.intro s2 s3)))
        clear s0 s1 s2 s3
        go_wp2
        obtain ⟨s0, s1, s2, s3⟩ := HS.out
        exact bodyPost_ret (v := .tuple #[.agg #[.int .u64 0, .int .i32 0, .int .u16 0, .int .u8 0], .int .i64 0, .int .i64 21]) (by simp [results, Try.results31, go_sem, s0, s1, s2, s3]) rfl ⟨by rw [HRR.out]; rfl, below_put4 HBX.out (Nat.le_refl _) _ _ _ _⟩
      have b2' : decide (left < y1) = false := by simpa using b2
      cases ok with
      | false =>
        have HRR := Lib.hid (rrL_bad (left := left.toNat) HRUN.out (.inr (.inr (by rw [HCC.out]))))
        obtain ⟨s0, s1, s2, s3⟩ := setcell_four KX.out (by simp) (.int .u64 0) (.int .i32 0) (.int .u16 0) (.int .u8 0)
        have HS := Lib.hid (And.intro s0 (And.intro s1 (And.intro s2 s3)))
        clear s0 s1 s2 s3
        go_wp2
        obtain ⟨s0, s1, s2, s3⟩ := HS.out
        exact bodyPost_ret (v := .tuple #[.agg #[.int .u64 0, .int .i32 0, .int .u16 0, .int .u8 0], .int .i64 0, .int .i64 21]) (by simp [results, Try.results31, go_sem, s0, s1, s2, s3]) rfl ⟨by rw [HRR.out]; rfl, below_put4 HBX.out (Nat.le_refl _) _ _ _ _⟩
      | true =>
        have hrr := rrL_ok (left := left.toNat) HRUN.out (by rw [HCC.out]; simp only [Bool.true_eq_false, or_false]; omega)
        rw [HCC.out] at hrr
        have HRR := Lib.hid hrr
        obtain ⟨s0, s1, s2, s3⟩ := setcell_four KX.out (by simp) (.int .u64 y1) (.int .i32 cc.r) (.int .u16 (cc.a : Int)) (.int .u8 (cc.h : Int))
        have HS := Lib.hid (And.intro s0 (And.intro s1 (And.intro s2 s3)))
        clear s0 s1 s2 s3 hrr
        go_wp2
        obtain ⟨s0, s1, s2, s3⟩ := HS.out
        exact bodyPost_ret (v := .tuple #[.agg #[.int .u64 y1, .int .i32 cc.r, .int .u16 (cc.a : Int), .int .u8 (cc.h : Int)], .int .i64 (a : Int), .int .i64 0]) (by simp [results, Try.results31, go_sem, s0, s1, s2, s3]) rfl ⟨by rw [HRR.out]; simp only [aU, Int.toNat_of_nonneg q1]; rfl, below_put4 HBX.out (Nat.le_refl _) _ _ _ _⟩
end Go.Proofs.Ytklbfeemnekclaa

namespace Go.Proofs.Ytklbfeemnekclaa
open Go.RowKit
set_option linter.unusedVariables false
set_option linter.unusedSimpArgs false

/-- A run: how many, the cell. -/
abbrev Ru := Nat × Cl
def vU (x : Ru) : List Value := [.int .u64 (x.1 : Int), .int .i32 x.2.r, .int .u16 (x.2.a : Int), .int .u8 (x.2.h : Int)]
def vUs (l : List Ru) : List Value := l.flatMap vU
theorem vUs_len (l : List Ru) : (vUs l).length = l.length * 4 := by
  induction l with
  | nil => rfl
  | cons c l ih => simp only [vUs, List.flatMap_cons, List.length_append] at ih ⊢; rw [ih]; simp [vU]; omega
theorem vUs_app (l m : List Ru) : vUs (l ++ m) = vUs l ++ vUs m := by simp [vUs, List.flatMap_append]
theorem vUs_get (l : List Ru) (k : Nat) (c : Ru) (h : l[k]? = some c) : (vUs l)[k * 4]? = some (.int .u64 (c.1 : Int)) ∧ (vUs l)[k * 4 + 1]? = some (.int .i32 c.2.r) ∧ (vUs l)[k * 4 + 2]? = some (.int .u16 (c.2.a : Int)) ∧ (vUs l)[k * 4 + 3]? = some (.int .u8 (c.2.h : Int)) := by
  induction l generalizing k with
  | nil => simp at h
  | cons d l ih =>
    have e : vUs (d :: l) = vU d ++ vUs l := rfl
    rw [e]
    match k, h with
    | 0, h =>
      simp at h
      subst h
      simp [vU]
    | k + 1, h =>
      have h' : l[k]? = some c := by simpa using h
      obtain ⟨a1, a2, a3, a4⟩ := ih k h'
      have hl : (vU d).length = 4 := rfl
      rw [List.getElem?_append_right (by omega), List.getElem?_append_right (by omega), List.getElem?_append_right (by omega), List.getElem?_append_right (by omega), hl]
      rw [show (k + 1) * 4 - 4 = k * 4 by omega, show (k + 1) * 4 + 1 - 4 = k * 4 + 1 by omega, show (k + 1) * 4 + 2 - 4 = k * 4 + 2 by omega, show (k + 1) * 4 + 3 - 4 = k * 4 + 3 by omega]
      exact ⟨a1, a2, a3, a4⟩
theorem vUs_one (l : List Ru) : ∀ u ∈ vUs l, u.oneCell' = true := by
  intro u hu
  unfold vUs at hu
  rw [List.mem_flatMap] at hu
  obtain ⟨c, _, hc⟩ := hu
  simp only [vU, List.mem_cons, List.not_mem_nil, or_false] at hc
  rcases hc with rfl | rfl | rfl | rfl <;> rfl
/-- A row of runs of the call's own, from block 'base' on. -/
def OU (w : World) (base : Nat) (v : Value) (l : List Ru) : Prop := w.ownsRow base 57 4 v l.length (vUs l)
section
variable {w w' : World} {base g n cap : Nat} {v : Value} {l : List Ru}
theorem OU.nil (w : World) (base : Nat) : OU w base (.slice none 0 0) [] := World.ownsRow_nil w base _ _
theorem OU.alloc (h : OU w base v l) (o : Obj) : OU (w.alloc o) base v l := World.ownsRow.alloc h o
theorem OU.kept {row : Option Nat} (h : OU w base v l) (hg : w.grownBy w' row) (hne : v.ownBlock = none ∨ v.ownBlock ≠ row) : OU w' base v l := World.ownsRow.kept h hg hne
theorem OU.below (h : OU w base v l) (hb : Below w.heap.size w w') : OU w' base v l := by
  have hg : w.grownBy w' none := ⟨hb.os, hb.tape, hb.output, hb.size, fun i hi _ => hb.block i hi⟩
  refine h.kept hg ?_
  cases hv : v.ownBlock with
  | none => exact Or.inl rfl
  | some k => exact Or.inr (by simp)
theorem OU.form (h : OU w base v l) : ∃ A c, v = .slice A l.length c ∧ l.length ≤ c ∧ c ≤ 9223372036854775807 := by
  unfold OU at h
  rcases h.2 with ⟨rfl, hn⟩ | ⟨g, cap, cur, rfl, hbg, hg, hnc, hcm, hcs, htake⟩
  · exact ⟨none, 0, by rw [hn], by omega, by omega⟩
  · unfold maxLen at hcm
    exact ⟨_, cap, rfl, hnc, by omega⟩
/-- Where a run lies. -/
theorem OU.get (h : OU w base v l) (k : Nat) (c : Ru) (hc : l[k]? = some c) : ∃ g cap, v = .slice (some ⟨g, 0, none⟩) l.length cap ∧ base ≤ g ∧ g < w.heap.size ∧ l.length ≤ cap ∧ cap ≤ 9223372036854775807 ∧ w.cell? ⟨g, k * 4, none⟩ = some (.int .u64 (c.1 : Int)) ∧ w.cell? ⟨g, k * 4 + 1, none⟩ = some (.int .i32 c.2.r) ∧ w.cell? ⟨g, k * 4 + 2, none⟩ = some (.int .u16 (c.2.a : Int)) ∧ w.cell? ⟨g, k * 4 + 3, none⟩ = some (.int .u8 (c.2.h : Int)) := by
  have hh := h
  have hk : k < l.length := (List.getElem?_eq_some_iff.1 hc).1
  obtain ⟨e0, e1, e2, e3⟩ := vUs_get l k c hc
  unfold OU at h
  rcases h.2 with ⟨rfl, hn⟩ | ⟨g, cap, cur, rfl, hbg, hg, hnc, hcm, hcs, htake⟩
  · omega
  · unfold maxLen at hcm
    exact ⟨g, cap, rfl, hbg, (World.ownsRow.lt hh g rfl).2, hnc, by omega, (World.ownsRow.cellAt h _ (by omega)).trans e0, (World.ownsRow.cellAt h _ (by omega)).trans e1, (World.ownsRow.cellAt h _ (by omega)).trans e2, (World.ownsRow.cellAt h _ (by omega)).trans e3⟩
end
theorem runInfo : (Try.prog.info? 57).map (fun i => (i.zero, i.size, i.bytes)) = some (some (.agg #[.int .u64 0, .int .i32 0, .int .u16 0, .int .u8 0]), 4, 16) := by kernel_rfl
/-- append of one run, laid in a block of its own, onto a row of the call's own. -/
theorem run_appU (w : World) (ty : TypeId) {base : Nat} {v : Value} {l : List Ru} {x : Ru} {ad : Addr} (hown : OU w base v l) (hr : ∀ j u, (vU x)[j]? = some u → w.cell? (ad.add j) = some u) (hlen : l.length + 1 ≤ 1099511627776) (hbase : base ≤ w.heap.size) :
    ∃ v' w', (Builtin.append_ #[64, 64] ty #[v, .slice (some ad) 1 1]).run Try.prog w = .ok v' w' ∧ OU w' base v' (l ++ [x]) ∧ w.grownBy w' v.ownBlock ∧ Below base w w' ∧ (v'.ownBlock = v.ownBlock ∨ v'.ownBlock = some w.heap.size) := by
  obtain ⟨i0, hi0, hz0, hz1, hz2⟩ := info_parts runInfo
  have hlt := World.ownsRow.lt hown
  have e : vUs [x] = vU x := by simp [vUs]
  obtain ⟨v', w', hrun, h4, h5, _, h6⟩ := run_append_own_at (P := Try.prog) w base 64 ty 57 i0 _ 4 16 Try.underlying64 hi0 hz0 hz1 hz2 rfl (by omega) v l.length (vUs l) hown ad 1 1 (vUs [x]) (by rw [vUs_len]; rfl) (by rw [e]; exact hr)
    (vUs_one [x]) (by simp only [maxLen]; omega) (by omega) hbase
  refine ⟨v', w', hrun, ?_, h5, (Below.refl _ _).grown h5 hbase (fun k hk => (hlt k hk).1), h6⟩
  unfold OU
  rw [List.length_append, vUs_app]
  exact h4
theorem wpl_appU (w : World) {ops : Array Oper} {rest : List Oper} {o : Oper} {a : Act} {Q : Exit → Act → World → Prop} (hgd : o.guard = none) (s y : Operand)
    (ho : o.op = .call { callee := .builtin .append, args := #[s, y], argTypes := #[64, 64] })
    (base : Nat) (v : Value) (ad : Addr) (l : List Ru) (x : Ru) (hs : a.eval s = v) (hx : a.eval y = .slice (some ad) 1 1) (hown : OU w base v l) (hr : ∀ j u, (vU x)[j]? = some u → w.cell? (ad.add j) = some u) (hlen : l.length + 1 ≤ 1099511627776) (hbase : base ≤ w.heap.size)
    (h : ∀ v' w', OU w' base v' (l ++ [x]) → w.grownBy w' v.ownBlock → Below base w w' → (v'.ownBlock = v.ownBlock ∨ v'.ownBlock = some w.heap.size) → wpList Try.prog ops Q rest (a.put o.dst v') w') :
    wpList Try.prog ops Q (o :: rest) a w := by
  refine wpList_plain hgd fun K hK => ?_
  obtain ⟨v', w', hrun, h2, h3, h4, h5⟩ := run_appU w o.type hown hr hlen hbase
  unfold Oper.wp execOp
  simp only [ho, resolve, invoke, builtin, Sem.run_bind, Sem.run_pure, Result.andThen_ok, List.map_toArray, List.map_cons, List.map_nil, hs, hx, hrun]
  exact hK _ _ (h v' w' h2 h3 h4 h5)
/-- A run that has just been laid. -/
theorem oneU (w : World) (x : Ru) (t : TypeId) : ∀ j u, (vU x)[j]? = some u → (w.alloc (.cells #[.int .u64 (x.1 : Int), .int .i32 x.2.r, .int .u16 (x.2.a : Int), .int .u8 (x.2.h : Int)] t)).cell? ((⟨w.heap.size, 0, none⟩ : Addr).add j) = some u := by
  intro j u hj
  have hk := heap_one w (.cells #[.int .u64 (x.1 : Int), .int .i32 x.2.r, .int .u16 (x.2.a : Int), .int .u8 (x.2.h : Int)] t)
  have e : (⟨w.heap.size, 0, none⟩ : Addr).add j = ⟨w.heap.size, j, none⟩ := by unfold Addr.add; split <;> simp_all
  rw [e]
  refine (cell3 hk j ?_).1
  rw [← hj]
  simp [vU]

/-! ### the cells of runs -/
def expL (l : List Ru) : List Cl := l.flatMap fun x => List.replicate x.1 x.2
theorem expL_app (l m : List Ru) : expL (l ++ m) = expL l ++ expL m := by simp [expL, List.flatMap_append]
theorem expL_one (x : Ru) : expL [x] = List.replicate x.1 x.2 := by simp [expL]
theorem expL_len (l : List Ru) (h : ∀ x ∈ l, 0 < x.1) : l.length ≤ (expL l).length := by
  induction l with
  | nil => simp
  | cons x l ih =>
    have := ih (fun y hy => h y (List.mem_cons_of_mem _ hy))
    have h0 := h x (by simp)
    simp only [expL, List.flatMap_cons, List.length_append, List.length_replicate, List.length_cons] at this ⊢
    omega
theorem expL_last (l : List Ru) (h : ∀ x ∈ l, 0 < x.1) : (expL l).getLast? = l.getLast?.map (·.2) := by
  rcases List.eq_nil_or_concat l with rfl | ⟨m, x, rfl⟩
  · rfl
  · have h0 := h x (by simp)
    rw [List.concat_eq_append, expL_app, expL_one, List.getLast?_append, List.getLast?_append]
    obtain ⟨n, hn⟩ : ∃ n, x.1 = n + 1 := ⟨x.1 - 1, by omega⟩
    rw [hn, List.replicate_succ', List.getLast?_append]
    simp
theorem run3_len {b : List UInt8} {x : Nat × Nat × Nat} {k : Nat} (h : run3 b = (x, k, 0)) : k ≤ b.length := by
  have h1 := (readL_bd b).2.1
  have h2 := (readL_bd (b.drop (readL b).2.1)).2.1
  have h3 := (readL_bd (b.drop ((readL b).2.1 + (readL (b.drop (readL b).2.1)).2.1))).2.1
  rw [List.length_drop] at h2 h3
  unfold run3 at h
  split at h
  · simp only [Prod.mk.injEq] at h; omega
  · split at h
    · simp only [Prod.mk.injEq] at h; omega
    · split at h
      · simp only [Prod.mk.injEq] at h; omega
      · simp only [Prod.mk.injEq] at h; omega
/-- What one run's reading comes to. -/
theorem rr_cases (n : Nat) (b : List UInt8) (left : Nat) :
    (∃ e, e ≠ 0 ∧ rrL b left = ((0, ⟨0, 0, 0⟩), 0, e) ∧ ∀ f out at_, out.length < n → n - out.length = left → left ≤ f → readF n f b out at_ = ([], 0, e)) ∨
    (∃ v1 c k, rrL b left = ((v1, c), k, 0) ∧ 0 < v1 ∧ v1 ≤ left ∧ k ≤ b.length ∧ ∀ f out at_, out.length < n → n - out.length = left → left ≤ f → (out.getLast? = some c → readF n f b out at_ = ([], 0, 21)) ∧ (out.getLast? ≠ some c → readF n f b out at_ = readF n f (b.drop k) (out ++ List.replicate v1 c) (at_ + k))) := by
  obtain ⟨⟨⟨v1, v2, v3⟩, k, e⟩, hr⟩ : ∃ X, run3 b = X := ⟨_, rfl⟩
  by_cases he : e = 0
  · subst he
    by_cases hb : v1 = 0 ∨ left < v1 ∨ (cofL v2 v3).2 = false
    · refine .inl ⟨21, by decide, rrL_bad hr hb, fun f out at_ h1 h2 h3 => readF_bad (by omega) h1 hr ?_⟩
      rcases hb with h | h | h
      · exact .inl (.inl h)
      · exact .inl (.inr (.inl (by omega)))
      · unfold cofL at h
        by_cases hx : 1114111 < v2 ∨ 16384 ≤ v3
        · exact .inl (.inr (.inr hx))
        · rw [if_neg hx] at h
          exact .inr (.inl h)
    · refine .inr ⟨v1, (cofL v2 v3).1, k, rrL_ok hr hb, by omega, by omega, run3_len hr, fun f out at_ h1 h2 h3 => ?_⟩
      have hx : ¬ (1114111 < v2 ∨ 16384 ≤ v3) := by
        intro hx
        apply hb
        right; right
        unfold cofL
        rw [if_pos hx]
      have hc : cofL v2 v3 = (cellOf v2 v3, cellB (cellOf v2 v3)) := by unfold cofL; rw [if_neg hx]
      rw [hc] at hb ⊢
      simp only at hb ⊢
      refine ⟨fun h => readF_bad (by omega) h1 hr (.inr (.inr h)), fun h => readF_go (by omega) h1 hr (by omega) ?_⟩
      rintro (g | g)
      · exact hb (.inr (.inr g))
      · exact h g
  · exact .inl ⟨e, he, rrL_err hr he, fun f out at_ h1 h2 h3 => readF_err (by omega) h1 hr he⟩
end Go.Proofs.Ytklbfeemnekclaa

namespace Go.Proofs.Ytklbfeemnekclaa
open Go.RowKit
set_option linter.unusedVariables false
set_option linter.unusedSimpArgs false

def RsRel (b : List UInt8) (n : Nat) (w0 : World) (o a lv : Value) (wr : World) : Prop :=
  ∃ (rs : List Ru) (at_ left : Nat), at_ ≤ b.length ∧ a = .int .i64 (at_ : Int) ∧ lv = .int .u64 (left : Int) ∧ OU wr w0.heap.size o rs ∧ Below w0.heap.size w0 wr ∧ (∀ x ∈ rs, 0 < x.1) ∧ (expL rs).length + left = n ∧ readF n n (b.drop at_) (expL rs) at_ = readCL b (n : Int)
/-- What the runs at the beginning come to: the runs of the cells, or none and an error. -/
def RsPost (b : List UInt8) (n : Nat) (w : World) (e : Ending) (w' : World) : Prop :=
  ∃ (u : Value) (rs : List Ru), e = .returned (.tuple #[u, .int .i64 ((readCL b (n : Int)).2.1 : Int), .int .i64 ((readCL b (n : Int)).2.2 : Int)]) ∧ OU w' w.heap.size u rs ∧ Below w.heap.size w w' ∧ (∀ x ∈ rs, 0 < x.1) ∧ expL rs = (readCL b (n : Int)).1
set_option maxHeartbeats 4000000 in
set_option maxRecDepth 100000 in
theorem readRuns_any (v : Value) (b : List UInt8) (n : Nat) (w : World) (h : BS w w.heap.size v b) (hl : b.length ≤ 1048576) (hn : n ≤ 1048576) : Calls Try.prog 24 #[v, .int .u64 (n : Int)] w (RsPost b n w) := by
  have HB := Lib.hid h
  obtain ⟨A, cp, rfl, g1, g2, -⟩ := h.at_
  unfold maxLen at g2
  clear h
  go_enter Try.func24, Try.ntmps24
  go_wp2
  go_loopw [7, 8, 9] (fun o a lv wr => RsRel b n w o a lv wr) (fun _ _ lv _ => (intOf lv).toNat)
  case atStart => exact ⟨[], 0, n, Nat.zero_le _, rfl, rfl, OU.nil _ _, Below.refl _ _, by simp, by simp [expL], by rw [List.drop_zero]; unfold readCL; rw [Int.toNat_natCast]; rfl⟩
  case round =>
    obtain ⟨rs, at_, left, hat, rfl, rfl, ho, hbel, hpos, hlen, hrd⟩ := hrel
    obtain ⟨Ao, co, rfl, p1, p2⟩ := ho.form
    have hle := hbel.size
    have hrl := expL_len rs hpos
    have HOO := Lib.hid ho
    have HBE := Lib.hid hbel
    have HRD := Lib.hid hrd
    have HPO := Lib.hid hpos
    have HLE := Lib.hid hlen
    have lb : left ≤ 1048576 := by omega
    have lbi : (left : Int) ≤ 1048576 := by omega
    have rb : rs.length ≤ 1048576 := by omega
    clear ho hbel hrd hpos hlen
    by_cases hlt : 0 < left
    · have hlti : 0 < (left : Int) := by omega
      obtain ⟨A2, hif2⟩ : ∃ A2, (if cp = at_ then A else Option.map (fun x => x.add at_) A) = A2 := ⟨_, rfl⟩
      have hc1 := (HB.out.below HBE.out).cut at_ (b.length - at_) (b.length - at_) (by omega) rfl
      rw [hif2, List.take_of_length_le (by simp)] at hc1
      have hrr := readRun_any _ (b.drop at_) (left : Int) wr w.heap.size hle hc1 (by simp; omega) (by omega) (by omega)
      unfold RrPost at hrr
      rw [Int.toNat_natCast] at hrr
      rcases rr_cases n (b.drop at_) left with ⟨er, he, hx, hrf⟩ | ⟨v1, c, k, hx, v0, v2, hk, hrf⟩
      · rw [hx] at hrr
        have e1 : ((er : Int) != 0) = true := by simp; omega
        have HF := Lib.hid (hrf n (expL rs) at_ (by have := HLE.out; omega) (by have := HLE.out; omega) (by have := HLE.out; omega))
        clear hrf hx hc1
        go_wp2_with (first
          | (go_at_call 31; refine hrr.mono ?_; rintro e w1 ⟨rfl, b1⟩))
        go_ret3
        exact ⟨_, [], by rw [← HRD.out, HF.out]; rfl, OU.nil _ _, (HBE.out.trans (b1.mono hle)).alloc (HBE.out.trans (b1.mono hle)).size _, by simp, by rw [← HRD.out, HF.out]; rfl⟩
      · rw [hx] at hrr
        have HF := Lib.hid (hrf n (expL rs) at_ (by have := HLE.out; omega) (by have := HLE.out; omega) (by have := HLE.out; omega))
        have HLA := Lib.hid (expL_last rs HPO.out)
        rw [List.length_drop] at hk
        clear hrf hx hc1
        go_wp2_with fail
        refine hrr.mono ?_
        rintro e w1 ⟨rfl, b1⟩
        have KC := Lib.hid (heap_one w1 (.cells #[.int .u64 (v1 : Int), .int .i32 c.r, .int .u16 (c.a : Int), .int .u8 (c.h : Int)] 57))
        have HOW := Lib.hid ((HOO.out.below b1).alloc (.cells #[.int .u64 (v1 : Int), .int .i32 c.r, .int .u16 (c.a : Int), .int .u8 (c.h : Int)] 57))
        have HBW := Lib.hid ((HBE.out.trans (b1.mono hle)).alloc (HBE.out.trans (b1.mono hle)).size (.cells #[.int .u64 (v1 : Int), .int .i32 c.r, .int .u16 (c.a : Int), .int .u8 (c.h : Int)] 57))
        have HNE := Lib.hid (show (Value.slice Ao rs.length co).ownBlock ≠ some w1.heap.size from fun e => by have := (World.ownsRow.lt HOO.out _ e).2; have := b1.size; omega)
        have HZW := Lib.hid (show w1.heap.size < (w1.alloc (.cells #[.int .u64 (v1 : Int), .int .i32 c.r, .int .u16 (c.a : Int), .int .u8 (c.h : Int)] 57)).heap.size by simp)
        clear b1 hrr
        go_upto_region 8 with fail
        generalize World.alloc w1 _ = W at KC HOW HBW HZW ⊢
        obtain ⟨m0, -⟩ := cell3 KC.out 0 rfl
        obtain ⟨m1, -⟩ := cell3 KC.out 1 rfl
        obtain ⟨m2, -⟩ := cell3 KC.out 2 rfl
        obtain ⟨m3, -⟩ := cell3 KC.out 3 rfl
        by_cases hrs : rs.length = 0
        · have hd0 : decide (0 < rs.length) = false := decide_eq_false (by omega)
          have HRS := Lib.hid (List.length_eq_zero_iff.1 hrs)
          have HNL := Lib.hid (show (expL rs).getLast? ≠ some c by rw [HRS.out]; simp [expL])
          clear hrs
          go_quiet (fail)
          have HOD := Lib.hid (HOW.out.below (below_drewP (Below.refl _ _) nq))
          have HBD := Lib.hid (below_drewP HBW.out nq)
          have KCD := Lib.hid (show (World.drewN W nq).heap[w1.heap.size]? = _ from KC.out)
          have HZD := Lib.hid (show w1.heap.size < (World.drewN W nq).heap.size from HZW.out)
          generalize World.drewN W nq = D at HOD HBD KCD HZD ⊢
          clear m0 m1 m2 m3
          obtain ⟨m0, -⟩ := cell3 KCD.out 0 rfl
          obtain ⟨m1, -⟩ := cell3 KCD.out 1 rfl
          obtain ⟨m2, -⟩ := cell3 KCD.out 2 rfl
          obtain ⟨m3, -⟩ := cell3 KCD.out 3 rfl
          have hzd : w.heap.size ≤ D.heap.size := HBD.out.size
          have hza : w.heap.size ≤ (D.alloc (.cells #[.int .u64 (v1 : Int), .int .i32 c.r, .int .u16 (c.a : Int), .int .u8 (c.h : Int)] 57)).heap.size := by simp; omega
          have v2i : (v1 : Int) ≤ (left : Int) := by omega
          have ki : (at_ : Int) + (k : Int) ≤ 1048576 := by omega
          go_wp2_with (first
            | (at_builtin; refine wpl_appU _ rfl (.tmp 43) (.tmp 45) rfl w.heap.size _ _ rs (v1, c) rfl rfl (HOD.out.alloc _) (oneU D (v1, c) _) (by omega) hza ?_; intro vb wb ob gb bb _; have HKB := Lib.hid ((gb.block w1.heap.size (by have := HZD.out; simp; omega) (Ne.symm HNE.out)).trans ((Below.heap_alloc D _ w1.heap.size HZD.out).trans KCD.out)); have HOB := Lib.hid ob; have HBB := Lib.hid ((HBD.out.alloc hzd _).trans bb); clear ob gb bb m0 m1 m2 m3; obtain ⟨m0, -⟩ := cell3 HKB.out 0 rfl))
          go_roundw
          case rel =>
            refine ⟨rs ++ [(v1, c)], at_ + k, left - v1, by omega, by go_num, by rw [show ((left - v1 : Nat) : Int) = (left : Int) - (v1 : Int) by omega], HOB.out, HBB.out, ?_, ?_, ?_⟩
            · intro x hx
              rw [List.mem_append] at hx
              rcases hx with hx | hx
              · exact HPO.out x hx
              · simp at hx
                rw [hx]
                exact v0
            · have := HLE.out
              rw [expL_app, expL_one, List.length_append, List.length_replicate]
              simp only
              omega
            · rw [expL_app, expL_one, ← HRD.out, HF.out.2 HNL.out, List.drop_drop]
          case measure => simp [intOf]; omega
        · obtain ⟨L, hL⟩ : ∃ L, rs.length = L + 1 := ⟨rs.length - 1, by omega⟩
          obtain ⟨x, hx⟩ : ∃ x, rs[L]? = some x := ⟨_, List.getElem?_eq_getElem (by omega)⟩
          obtain ⟨g, cap, hgv, q1, q2, q3, q4, t0, t1, t2, t3⟩ := HOW.out.get L x hx
          simp only [Value.slice.injEq] at hgv
          obtain ⟨rfl, -, rfl⟩ := hgv
          have HGL := Lib.hid (show (expL rs).getLast? = some x.2 by rw [HLA.out, List.getLast?_eq_getElem?, show rs.length - 1 = L by omega, hx]; rfl)
          have hLi : (rs.length : Int) - 1 = (L : Int) := by omega
          have hLl : L < rs.length := by omega
          have hLw : IntKind.i64.wrap (L : Int) = (L : Int) := by rw [IntKind.wrap_i64]; omega
          have hd0 : decide (0 < rs.length) = true := decide_eq_true (by omega)
          obtain ⟨xn, c2⟩ := x
          simp only at t0 t1 t2 t3 HGL
          have t2' : W.cell? ⟨g, L * 4 + 1 + 1, none⟩ = some (.int .u16 (c2.a : Int)) := t2
          have t3' : W.cell? ⟨g, L * 4 + 1 + 2, none⟩ = some (.int .u8 (c2.h : Int)) := t3
          clear hrs hx hL
          by_cases hsame : c2 = c
          · subst hsame
            have HBAD := Lib.hid (HF.out.1 HGL.out)
            go_quiet (fail)
            have HBD := Lib.hid (below_drewP HBW.out nq)
            go_wp2
            go_ret3
            exact ⟨_, [], by rw [← HRD.out, HBAD.out]; rfl, OU.nil _ _, HBD.out, by simp, by rw [← HRD.out, HBAD.out]; rfl⟩
          · have HNL := Lib.hid (show (expL rs).getLast? ≠ some c by rw [HGL.out]; exact fun e => hsame (Option.some.inj e))
            have hk3 : ((c2.r == c.r) = false) ∨ (c2.r = c.r ∧ ((c2.a : Int) == (c.a : Int)) = false) ∨ (c2.r = c.r ∧ c2.a = c.a ∧ ((c2.h : Int) == (c.h : Int)) = false) := by
              by_cases e1 : c2.r = c.r
              · by_cases e2 : c2.a = c.a
                · refine .inr (.inr ⟨e1, e2, beq_eq_false_iff_ne.2 fun e => hsame ?_⟩)
                  cases c2
                  cases c
                  simp only at e1 e2 e
                  rw [e1, e2]
                  congr 1
                  omega
                · exact .inr (.inl ⟨e1, beq_eq_false_iff_ne.2 (by omega)⟩)
              · exact .inl (beq_eq_false_iff_ne.2 e1)
            clear hsame
            rcases hk3 with hbq | ⟨hrq, hbq⟩ | ⟨hrq, haq, hbq⟩
            all_goals
              try rw [hrq] at t1
              try rw [haq] at t2
              try rw [haq] at t2'
              try clear hrq
              try clear haq
              go_quiet (fail)
              clear t0 t1 t2 t3 t2' t3' hLi hLw
              have HOD := Lib.hid (HOW.out.below (below_drewP (Below.refl _ _) nq))
              have HBD := Lib.hid (below_drewP HBW.out nq)
              have KCD := Lib.hid (show (World.drewN W nq).heap[w1.heap.size]? = _ from KC.out)
              have HZD := Lib.hid (show w1.heap.size < (World.drewN W nq).heap.size from HZW.out)
              generalize World.drewN W nq = D at HOD HBD KCD HZD ⊢
              clear m0 m1 m2 m3
              obtain ⟨m0, -⟩ := cell3 KCD.out 0 rfl
              obtain ⟨m1, -⟩ := cell3 KCD.out 1 rfl
              obtain ⟨m2, -⟩ := cell3 KCD.out 2 rfl
              obtain ⟨m3, -⟩ := cell3 KCD.out 3 rfl
              have hzd : w.heap.size ≤ D.heap.size := HBD.out.size
              have hza : w.heap.size ≤ (D.alloc (.cells #[.int .u64 (v1 : Int), .int .i32 c.r, .int .u16 (c.a : Int), .int .u8 (c.h : Int)] 57)).heap.size := by simp; omega
              have v2i : (v1 : Int) ≤ (left : Int) := by omega
              have ki : (at_ : Int) + (k : Int) ≤ 1048576 := by omega
              go_wp2_with (first
                | (at_builtin; refine wpl_appU _ rfl (.tmp 43) (.tmp 45) rfl w.heap.size _ _ rs (v1, c) rfl rfl (HOD.out.alloc _) (oneU D (v1, c) _) (by omega) hza ?_; intro vb wb ob gb bb _; have HKB := Lib.hid ((gb.block w1.heap.size (by have := HZD.out; simp; omega) (Ne.symm HNE.out)).trans ((Below.heap_alloc D _ w1.heap.size HZD.out).trans KCD.out)); have HOB := Lib.hid ob; have HBB := Lib.hid ((HBD.out.alloc hzd _).trans bb); clear ob gb bb m0 m1 m2 m3; obtain ⟨m0, -⟩ := cell3 HKB.out 0 rfl))
              go_roundw
              case rel =>
                refine ⟨rs ++ [(v1, c)], at_ + k, left - v1, by omega, by go_num, by rw [show ((left - v1 : Nat) : Int) = (left : Int) - (v1 : Int) by omega], HOB.out, HBB.out, ?_, ?_, ?_⟩
                · intro x hx
                  rw [List.mem_append] at hx
                  rcases hx with hx | hx
                  · exact HPO.out x hx
                  · simp at hx
                    rw [hx]
                    exact v0
                · have := HLE.out
                  rw [expL_app, expL_one, List.length_append, List.length_replicate]
                  simp only
                  omega
                · rw [expL_app, expL_one, ← HRD.out, HF.out.2 HNL.out, List.drop_drop]
              case measure => simp [intOf]; omega
    · obtain rfl : left = 0 := by omega
      have hlen := HLE.out
      have HE := Lib.hid (readF_end n n (b.drop at_) (expL rs) at_ (by omega))
      clear hlen
      go_wp2
      go_ret3
      exact ⟨_, rs, by rw [← HRD.out, HE.out]; rfl, HOO.out, HBE.out, HPO.out, by rw [← HRD.out, HE.out]⟩
end Go.Proofs.Ytklbfeemnekclaa

namespace Go.Proofs.Ytklbfeemnekclaa
open Go.RowKit
set_option linter.unusedVariables false
set_option linter.unusedSimpArgs false

/-- A cell has been appended so often. -/
def ApU (out : List Cl) (c : Cl) (Y : Nat) (w : World) (cb : Nat) (C : Obj) (ov iv : Value) (wr : World) : Prop :=
  ∃ m : Nat, m ≤ Y ∧ iv = .int .u64 (m : Int) ∧ OC wr w.heap.size ov (out ++ List.replicate m c) ∧ ov.ownBlock ≠ some cb ∧ wr.heap[cb]? = some C ∧ Below w.heap.size w wr
theorem apU_next {out : List Cl} {c : Cl} {Y m cb : Nat} {w wr w3 : World} {C o : Obj} {ov v' : Value} (hm : m < Y) (hne : ov.ownBlock ≠ some cb) (kc : wr.heap[cb]? = some C) (hb : Below w.heap.size w wr)
    (h1 : OC w3 w.heap.size v' (out ++ List.replicate m c ++ [c])) (hg : (wr.alloc o).grownBy w3 ov.ownBlock) (hb3 : Below w.heap.size (wr.alloc o) w3) (hat : v'.ownBlock = ov.ownBlock ∨ v'.ownBlock = some (wr.alloc o).heap.size) : ApU out c Y w cb C v' (.int .u64 ((m + 1 : Nat) : Int)) w3 := by
  have lc := lt3 kc
  have hz : (wr.alloc o).heap.size = wr.heap.size + 1 := by simp
  refine ⟨m + 1, hm, rfl, ?_, ?_, (hg.block cb (by rw [hz]; omega) (Ne.symm hne)).trans ((Below.heap_alloc wr o cb lc).trans kc), (hb.alloc hb.size o).trans hb3⟩
  · rw [List.replicate_succ', ← List.append_assoc]
    exact h1
  · rcases hat with e | e
    · rw [e]; exact hne
    · rw [e, hz]
      intro e2
      injection e2 with e2
      omega
def SpRel (rs : List Ru) (w : World) (ov iv : Value) (wr : World) : Prop := ∃ j : Nat, j ≤ rs.length ∧ iv = .int .i64 (j : Int) ∧ OC wr w.heap.size ov (expL (rs.take j)) ∧ Below w.heap.size w wr
def SpPost (rs : List Ru) (w : World) (e : Ending) (w' : World) : Prop := ∃ u, e = .returned u ∧ OC w' w.heap.size u (expL rs) ∧ Below w.heap.size w w'
theorem below_grown {w w' : World} (h : w.grownBy w' none) : Below w.heap.size w w' := ⟨h.os, h.tape, h.output, h.size, fun i hi => h.block i hi (by simp)⟩
set_option maxHeartbeats 4000000 in
set_option maxRecDepth 100000 in
theorem spread_any (v : Value) (rs : List Ru) (n : Nat) (base : Nat) (w : World) (h : OU w base v rs) (hl : (expL rs).length ≤ 1048576) (hn : n ≤ 1048576) (hpos : ∀ x ∈ rs, 0 < x.1) : Calls Try.prog 25 #[v, .int .i64 (n : Int)] w (SpPost rs w) := by
  have hrl := expL_len rs hpos
  have HOU := Lib.hid h
  obtain ⟨A, cp, rfl, g1, g2⟩ := h.form
  have HL := Lib.hid hl
  clear h hpos hl
  obtain ⟨i0, hi0, hz0, hz1, hz2⟩ := info_parts cellInfo
  obtain ⟨w5, hmk, ho5, hg5⟩ := run_make_own (P := Try.prog) w w.heap.size 22 41 i0 _ 3 Try.underlying22 hi0 hz0 hz1 .i64 .i64 n (by rw [hz2]; omega) (by unfold maxLen; omega) (Nat.le_refl _)
  have HO5 := Lib.hid (show OC w5 w.heap.size (.slice (some ⟨w.heap.size, 0, none⟩) 0 n) [] from ho5)
  have HB5 := Lib.hid (below_grown hg5)
  clear ho5 hg5 hi0 hz0 hz1 hz2
  go_enter Try.func25, Try.ntmps25
  go_wp2
  go_loopw [5, 12] (fun ov iv wr => SpRel rs w ov iv wr) (fun _ iv _ => rs.length - (intOf iv).toNat)
  case atStart => exact ⟨0, Nat.zero_le _, rfl, HO5.out, HB5.out⟩
  case round =>
    obtain ⟨j, hj, rfl, ho, hbel⟩ := hrel
    have HOO := Lib.hid ho
    have HBE := Lib.hid hbel
    have hle := hbel.size
    obtain ⟨Ao, co, rfl, p1, p2⟩ := ho.cs.form
    clear ho hbel
    by_cases hlt : j < rs.length
    · obtain ⟨x, hx⟩ : ∃ x, rs[j]? = some x := ⟨_, List.getElem?_eq_getElem hlt⟩
      obtain ⟨g, cap, hgv, q1, q2, q3, q4, t0, t1, t2, t3⟩ := (HOU.out.below HBE.out).get j x hx
      simp only [Value.slice.injEq] at hgv
      obtain ⟨rfl, -, rfl⟩ := hgv
      have htk : expL (rs.take (j + 1)) = expL (rs.take j) ++ List.replicate x.1 x.2 := by
        rw [List.take_add_one, hx, expL_app]
        exact congrArg (expL (rs.take j) ++ ·) (expL_one x)
      have hlen : (expL (rs.take j)).length + x.1 ≤ 1048576 := by
        have h1 : expL rs = expL (rs.take (j + 1)) ++ expL (rs.drop (j + 1)) := by rw [← expL_app, List.take_append_drop]
        have h2 := HL.out
        rw [h1, htk, List.length_append, List.length_append, List.length_replicate] at h2
        omega
      have HTK := Lib.hid htk
      clear htk hx
      obtain ⟨Y, c⟩ := x
      simp only at t0 t1 t2 t3 hlen HTK
      have KC := Lib.hid (heap_one wr (.cells #[.int .u64 (Y : Int), .int .i32 c.r, .int .u16 (c.a : Int), .int .u8 (c.h : Int)] 57))
      have HOW := Lib.hid (HOO.out.alloc (.cells #[.int .u64 (Y : Int), .int .i32 c.r, .int .u16 (c.a : Int), .int .u8 (c.h : Int)] 57))
      have HBW := Lib.hid (HBE.out.alloc hle (.cells #[.int .u64 (Y : Int), .int .i32 c.r, .int .u16 (c.a : Int), .int .u8 (c.h : Int)] 57))
      have HNE := Lib.hid (show (Value.slice Ao (expL (rs.take j)).length co).ownBlock ≠ some wr.heap.size from fun e => by have := (World.ownsRow.lt HOO.out _ e).2; omega)
      go_upto_region 5 with fail
      generalize World.alloc wr _ = W at KC HOW HBW ⊢
      obtain ⟨m0, -⟩ := cell3 KC.out 0 rfl
      clear t0 t1 t2 t3
      go_wp2
      generalize wr.heap.size = cb at *
      go_loopw [5, 18] (fun ov iv wy => ApU (expL (rs.take j)) c Y w cb (.cells #[.int .u64 (Y : Int), .int .i32 c.r, .int .u16 (c.a : Int), .int .u8 (c.h : Int)] 57) ov iv wy) (fun _ iv _ => Y - (intOf iv).toNat)
      case atStart => exact ⟨0, Nat.zero_le _, rfl, by simpa using HOW.out, HNE.out, KC.out, HBW.out⟩
      case round =>
        obtain ⟨m, hm, rfl, ho, hne, kc, hb⟩ := hrel
        obtain ⟨A9, c9, rfl, g7, g8⟩ := ho.cs.form
        obtain ⟨c1, -⟩ := cell3 kc 1 rfl
        obtain ⟨c2, -⟩ := cell3 kc 2 rfl
        obtain ⟨c3, -⟩ := cell3 kc 3 rfl
        have hle9 := hb.size
        have HO9 := Lib.hid ho
        have HNE9 := Lib.hid hne
        have KC9 := Lib.hid kc
        have HB9 := Lib.hid hb
        have hm1 : (m : Int) ≤ 1048576 := by omega
        clear ho hne kc hb
        by_cases hmY : m < Y
        · have hmY' : (m : Int) < (Y : Int) := by omega
          have hlen2 : (expL (rs.take j) ++ List.replicate m c).length ≤ 1048576 := by simp; omega
          go_wp2_with (first
            | (at_builtin; refine wpl_appC _ rfl (.tmp 20) (.tmp 23) rfl w.heap.size _ _ _ (expL (rs.take j) ++ List.replicate m c) [c] rfl rfl (HO9.out.alloc _) (oneC _ c) (by simp only [List.length_cons, List.length_nil]; omega) (by simp; omega) ?_; intro v3 w3 ho3 hg3 hb3 hat3))
          go_roundw
          case rel =>
            have h := apU_next hmY HNE9.out KC9.out HB9.out ho3 hg3 hb3 hat3
            rw [show ((m + 1 : Nat) : Int) = (m : Int) + 1 by omega] at h
            exact h
          case measure => simp [intOf]; omega
        · obtain rfl : m = Y := by omega
          go_wp2
          refine ⟨⟨j + 1, hlt, by go_num, by rw [HTK.out]; exact HO9.out, HB9.out⟩, ?_⟩
          simp [intOf]
          omega
    · obtain rfl : j = rs.length := by omega
      go_wp2
      go_ret
      refine ⟨_, rfl, ?_, HBE.out⟩
      have := HOO.out
      rw [List.take_length] at this
      simpa using this
end Go.Proofs.Ytklbfeemnekclaa

namespace Go.Proofs.Ytklbfeemnekclaa
open Go.RowKit
set_option linter.unusedVariables false
set_option linter.unusedSimpArgs false

theorem CS.cutL {w : World} {B : Nat} {A : Option Addr} {n c : Nat} {l : List Cl} (h : CS w B (.slice A n c) l) (k j : Nat) (hk : k ≤ l.length) (hj : j = l.length - k) :
    CS w B (.slice (if c = k then A else Option.map (fun x => x.add (k * 3)) A) j (c - k)) (l.drop k) := by
  subst hj
  obtain ⟨A', c', hv, h1, h2, h3⟩ := h
  simp only [Value.slice.injEq] at hv
  obtain ⟨rfl, rfl, rfl⟩ := hv
  have hlen : (l.drop k).length = l.length - k := by simp
  refine ⟨_, c - k, by rw [hlen], by rw [hlen]; omega, by omega, fun hl => ?_⟩
  rw [hlen] at hl
  obtain ⟨ad, rfl, hb, hc⟩ := h3 (by omega)
  rw [if_neg (by omega)]
  refine ⟨ad.add (k * 3), rfl, by rw [block_add]; exact hb, fun i b hi => ?_⟩
  rw [List.getElem?_drop] at hi
  have := hc _ b hi
  rw [add_add, show k * 3 + i * 3 = (k + i) * 3 by omega]
  exact this
def P1Rel (l : List Cl) (w0 : World) (i : Value) (wr : World) : Prop := ∃ j : Nat, j ≤ l.length ∧ i = .int .i64 (j : Int) ∧ (∀ x ∈ l.take j, cellB x = true) ∧ Below w0.heap.size w0 wr
def P2Rel (l : List Cl) (w0 : World) (v o : Value) (wr : World) : Prop :=
  ∃ (j : Nat) (lo : List UInt8), j ≤ l.length ∧ CS wr w0.heap.size v (l.drop j) ∧ OB wr w0.heap.size o lo ∧ Below w0.heap.size w0 wr ∧ lo.length ≤ 30 * j ∧ lo ++ bytL (l.drop j) = bytL l
set_option maxHeartbeats 2000000 in
theorem putP_any (v : Value) (l : List Cl) (w : World) (h : CS w w.heap.size v l) (hl : l.length ≤ 1048576) (hf : ∀ x ∈ l, FitC x) : Calls Try.prog 8 #[v] w (PutCPost l w) := by
  have HC := Lib.hid h
  obtain ⟨A, cp, rfl, g1, g2⟩ := h.form
  have HF := Lib.hid hf
  clear h hf
  go_enter Try.func8, Try.ntmps8
  go_wp2
  go_loopw [10] (fun i wr => P1Rel l w i wr) (fun i _ => l.length - (intOf i).toNat)
  case atStart => exact ⟨0, Nat.zero_le _, rfl, by simp, Below.refl _ _⟩
  case round =>
    obtain ⟨j, hj, rfl, hall, hbel⟩ := hrel
    by_cases hlt : j < l.length
    · obtain ⟨c, hc⟩ : ∃ c, l[j]? = some c := ⟨_, List.getElem?_eq_getElem hlt⟩
      have hmem : c ∈ l := List.mem_of_getElem? hc
      have HFC := Lib.hid (HF.out c hmem)
      obtain ⟨ad, hAd, hadb, t0, t1, t2⟩ := (HC.out.below hbel).get j c hc
      subst hAd
      have hcr (w : World) := right_any c HFC.out w
      unfold aC at hcr
      have HBE := Lib.hid hbel
      have HALL := Lib.hid hall
      have HCJ := Lib.hid hc
      clear hall hc hbel
      cases hcb : cellB c with
      | false =>
        rw [hcb] at hcr
        have HPN := Lib.hid (putCL_no hmem hcb)
        clear hcb
        go_wp2_with (first | (go_at_call 10; refine (hcr _).mono ?_; rintro e w1 ⟨rfl, b1⟩))
        go_ret2
        exact ⟨_, by rw [HPN.out]; rfl, by rw [HPN.out]; exact OB.nil _ _, (HBE.out.alloc HBE.out.size _).trans (b1.mono (HBE.out.alloc HBE.out.size _).size)⟩
      | true =>
        rw [hcb] at hcr
        have HCB := Lib.hid hcb
        clear hcb
        go_wp2_with (first | (go_at_call 10; refine (hcr _).mono ?_; rintro e w1 ⟨rfl, b1⟩))
        go_roundw
        case rel =>
          refine ⟨j + 1, hlt, by go_num, ?_, (HBE.out.alloc HBE.out.size _).trans (b1.mono (HBE.out.alloc HBE.out.size _).size)⟩
          intro x hx
          rw [List.take_add_one, HCJ.out, List.mem_append] at hx
          rcases hx with hx | hx
          · exact HALL.out x hx
          · simp at hx
            rw [hx]
            exact HCB.out
        case measure => simp [intOf]; omega
    · obtain rfl : j = l.length := by omega
      rw [List.take_length] at hall
      have HPY := Lib.hid (putCL_yes (l := l) hall)
      have HALL := Lib.hid hall
      have HBE := Lib.hid hbel
      clear hall hbel hlt hj
      go_wp2
      generalize wr = w5 at *
      go_loopw [0, 6] (fun v o wr => P2Rel l w v o wr) (fun v _ _ => match v with | .slice _ n _ => n | _ => 0)
      case atStart => exact ⟨0, [], Nat.zero_le _, HC.out.below HBE.out, OB.nil _ _, HBE.out, by simp, rfl⟩
      case round =>
        obtain ⟨j, lo, hj, hcs, ho, hbel, hlo, hby⟩ := hrel
        obtain ⟨A3, c3, rfl, g5, g6⟩ := hcs.form
        have hdl : (l.drop j).length = l.length - j := by simp
        have hle := hbel.size
        by_cases hlt : j < l.length
        · obtain ⟨c, hc⟩ : ∃ c, l[j]? = some c := ⟨_, List.getElem?_eq_getElem hlt⟩
          have hcb := HALL.out c (List.mem_of_getElem? hc)
          obtain ⟨N, hN⟩ : ∃ N, sameN c (l.drop j) = N := ⟨_, rfl⟩
          obtain ⟨n1, n2, hbd⟩ := bytL_drop l j N c hc hN
          have hfr := firstRun_any _ (l.drop j) c N wr (hcs.more hle) (by omega) (by rw [List.getElem?_drop]; exact hc) hN
          have hpr (w : World) := putRun_any N c w (by omega) hcb
          have HCS := Lib.hid hcs
          have HOO := Lib.hid ho
          have HBW := Lib.hid hbel
          have HBY := Lib.hid hby
          have HBD := Lib.hid hbd
          have hrl := (runB_len N c).2
          have hd0 : 0 < l.length - j := by omega
          rw [hdl] at g5 hfr ⊢
          rw [hdl] at HCS
          obtain ⟨M, hM⟩ : ∃ M, l.length - j = M := ⟨_, rfl⟩
          rw [hM] at g5 hfr hd0 HCS ⊢
          have HM := Lib.hid hM
          have nM : N ≤ M := by omega
          have nI : (N : Int) ≤ (M : Int) := by omega
          have cM : (M : Int) ≤ 1048576 := by omega
          obtain ⟨A4, hif⟩ : ∃ A4, (if c3 = N then A3 else Option.map (fun x => x.add (N * 3)) A3) = A4 := ⟨_, rfl⟩
          have hcut := HCS.out.cutL N (M - N) (by omega) (by omega)
          rw [hif] at hcut
          have HCUT := Lib.hid hcut
          clear hcs ho hbel hby hbd hc hcb hN hdl hM hcut
          go_wp2_with (first
            | (go_at_call 18; refine hfr.mono ?_; rintro e w1 ⟨rfl, b1⟩))
          refine (hpr _).mono ?_
          rintro e wa ⟨va, rfl, oa, ba⟩
          have hz : (w1.alloc (.cells #[.int .u64 (N : Int), .int .i32 c.r, .int .u16 (c.a : Int), .int .u8 (c.h : Int)] 57)).heap.size = w1.heap.size + 1 := by simp
          have hk1 : (w1.alloc (.cells #[.int .u64 (N : Int), .int .i32 c.r, .int .u16 (c.a : Int), .int .u8 (c.h : Int)] 57)).heap[w1.heap.size]? = some (.cells #[.int .u64 (N : Int), .int .i32 c.r, .int .u16 (c.a : Int), .int .u8 (c.h : Int)] 57) := by
            show (w1.heap.push _)[w1.heap.size]? = _
            simp
          have hka := (ba.block w1.heap.size (by rw [hz]; omega)).trans hk1
          have hwa : Below wr.heap.size wr wa := ((b1.alloc b1.size _).trans (ba.mono (b1.alloc b1.size _).size))
          have hoa := HOO.out.below hwa
          have hva := oa.bs
          have hza : w.heap.size ≤ wa.heap.size := Nat.le_trans hle hwa.size
          have hlt1 : w1.heap.size < wa.heap.size := by have := ba.size; rw [hz] at this; omega
          have HWA := Lib.hid hwa
          have HKA := Lib.hid hka
          have HNE := Lib.hid (show some w1.heap.size ≠ Value.ownBlock u6 from fun e => by have := (World.ownsRow.lt HOO.out _ e.symm).2; have := b1.size; omega)
          clear hz hk1 hka hwa oa ba
          go_wp2_with (first
            | (at_builtin; refine wpl_app _ rfl (.tmp 23) (.tmp 25) rfl w.heap.size _ _ _ lo (runB N c) rfl rfl hoa hva (by omega) hza ?_; intro vb wb ob gb bb _; have HKB := Lib.hid ((gb.block w1.heap.size hlt1 HNE.out).trans HKA.out); have HOB := Lib.hid ob; have HBB := Lib.hid ((HWA.out.mono hle).trans bb); clear ob gb bb hoa hva; obtain ⟨c0, -⟩ := cell3 HKB.out 0 rfl))
          go_roundw
          case rel =>
            refine ⟨j + N, lo ++ runB N c, n2, ?_, HOB.out, HBW.out.trans HBB.out, by rw [List.length_append]; omega, ?_⟩
            · rw [← List.drop_drop]
              exact HCUT.out.below HBB.out
            · rw [← HBY.out, HBD.out, List.append_assoc]
          case measure => simp; omega
        · have hj2 : j = l.length := by omega
          rw [hdl] at g5 ⊢
          have hM : l.length - j = 0 := by omega
          rw [hM] at g5 ⊢
          rw [hj2, List.drop_length] at hby
          have HBY := Lib.hid hby
          clear hby hM hj2 hdl
          go_wp2
          go_ret2
          refine ⟨_, by rw [HPY.out]; rfl, ?_, hbel⟩
          rw [HPY.out]
          have e : lo = bytL l := by rw [← HBY.out]; simp [bytL, bytF]
          rw [← e]
          exact ho
end Go.Proofs.Ytklbfeemnekclaa

namespace Go.Proofs.Ytklbfeemnekclaa
open Go.RowKit
set_option linter.unusedVariables false
set_option linter.unusedSimpArgs false

theorem readF_len (n f : Nat) (b : List UInt8) (out : List Cl) (at_ : Nat) (h : out.length ≤ n) : (readF n f b out at_).1.length ≤ n := by
  induction f generalizing b out at_ with
  | zero => exact h
  | succ f ih =>
    unfold readF
    split
    · split
      · simp
      · split
        · simp
        · split
          · simp
          · rename_i h1 h2 _
            exact ih _ _ _ (by rw [List.length_append, List.length_replicate]; omega)
    · exact h
theorem readF_bad0 (n f : Nat) (b : List UInt8) (out : List Cl) (at_ : Nat) (h : (readF n f b out at_).2.2 ≠ 0) : (readF n f b out at_).1 = [] ∧ (readF n f b out at_).2.1 = 0 := by
  induction f generalizing b out at_ with
  | zero => exact absurd rfl h
  | succ f ih =>
    unfold readF at h ⊢
    split at h
    · rename_i g
      rw [if_pos g]
      split at h
      · rename_i g1; rw [if_pos g1]; exact ⟨rfl, rfl⟩
      · rename_i g1
        rw [if_neg g1]
        split at h
        · rename_i g2; rw [if_pos g2]; exact ⟨rfl, rfl⟩
        · rename_i g2
          rw [if_neg g2]
          split at h
          · rename_i g3; rw [if_pos g3]; exact ⟨rfl, rfl⟩
          · rename_i g3
            rw [if_neg g3]
            exact ih _ _ _ h
    · exact absurd rfl h
theorem readCL_len (b : List UInt8) (n : Int) : (readCL b n).1.length ≤ n.toNat := readF_len _ _ _ _ _ (by simp)
set_option maxHeartbeats 2000000 in
set_option maxRecDepth 100000 in
theorem readP_any (v : Value) (b : List UInt8) (n : Int) (w : World) (h : BS w w.heap.size v b) (hl : b.length ≤ 1048576) (hn0 : -9223372036854775808 ≤ n) (hn : n ≤ 1048576) : Calls Try.prog 12 #[v, .int .i64 n] w (ReadCPost b n w) := by
  obtain ⟨N, hN⟩ : ∃ N : Nat, (if n < 0 then 0 else n) = (N : Int) := ⟨n.toNat, by split <;> omega⟩
  have N1 : (N : Int) ≤ 1048576 := by split at hN <;> omega
  have HRC := Lib.hid (show readCL b (N : Int) = readCL b n by unfold readCL; rw [show ((N : Int)).toNat = n.toNat by split at hN <;> omega])
  have hrs := readRuns_any v b N w h hl (by omega)
  have hlen := readCL_len b (N : Int)
  rw [Int.toNat_natCast] at hlen
  have hbd := readF_bad0 N N b [] 0
  have hcl : readF N N b [] 0 = readCL b (N : Int) := by unfold readCL; rw [Int.toNat_natCast]
  rw [hcl] at hbd
  obtain ⟨⟨C, K, E⟩, hX⟩ : ∃ X, readCL b (N : Int) = X := ⟨_, rfl⟩
  have HX := Lib.hid hX
  unfold RsPost at hrs
  rw [hX] at hrs hlen hbd
  simp only at hrs hlen hbd
  clear h hX hcl
  by_cases hE : E = 0
  · subst hE
    go_enter Try.func12, Try.ntmps12
    go_wp2_with fail
    refine hrs.mono ?_
    rintro e w1 ⟨u, rs, rfl, hou, hb1, hpos, hex⟩
    have hsp := spread_any u rs N w.heap.size w1 hou (by rw [hex]; omega) (by omega) hpos
    have HB1 := Lib.hid hb1
    have HEX := Lib.hid hex
    clear hrs hou hb1 hpos hex
    go_wp2_with fail
    refine hsp.mono ?_
    rintro e w2 ⟨u2, rfl, hoc, hb2⟩
    have HOC := Lib.hid (hoc.lower HB1.out.size)
    have HB2 := Lib.hid (HB1.out.trans (hb2.mono HB1.out.size))
    clear hsp hoc hb2
    go_wp2
    go_ret3
    refine ⟨u2, ?_, ?_, HB2.out⟩
    · rw [← HRC.out, HX.out]; rfl
    · rw [← HRC.out, HX.out]
      have := HOC.out
      rw [HEX.out] at this
      exact this
  · obtain ⟨rfl, rfl⟩ := hbd hE
    have e1 : ((E : Int) != 0) = true := by simp; omega
    go_enter Try.func12, Try.ntmps12
    go_wp2_with fail
    refine hrs.mono ?_
    rintro e w1 ⟨u, rs, rfl, hou, hb1, hpos, hex⟩
    clear hrs hou hpos hex
    go_wp2
    go_ret3
    refine ⟨.slice none 0 0, ?_, ?_, hb1⟩
    · rw [← HRC.out, HX.out]; rfl
    · rw [← HRC.out, HX.out]
      exact OC.nil _ _
end Go.Proofs.Ytklbfeemnekclaa

namespace Go.Proofs.Ytklbfeemnekclaa
open Go.RowKit
set_option linter.unusedVariables false

theorem blank_any (w : World) : Calls Try.prog 32 #[] w fun e w' => e = .returned (.agg #[.int .i32 32, .int .u16 0, .int .u8 0]) ∧ Below w.heap.size w w' := by
  go_enter Try.func32, Try.ntmps32
  go_wp2
  exact bodyPost_ret (v := .agg #[.int .i32 32, .int .u16 0, .int .u8 0]) (by simp [results, Try.results32, go_sem]) rfl ⟨rfl, (Below.refl _ _).alloc (Nat.le_refl _) _⟩

/-- What a call answers that makes a row of cells. -/
def CellsPost (l : List Cl) (w : World) (e : Ending) (w' : World) : Prop := ∃ v, e = .returned v ∧ OC w' w.heap.size v l ∧ Below w.heap.size w w'
theorem own_any (v : Value) (l : List Cl) (w : World) (h : CS w w.heap.size v l) (hl : l.length ≤ 1099511627776) : Calls Try.prog 51 #[v] w (CellsPost l w) := by
  have H := Lib.hid h
  obtain ⟨A, c, rfl, h1, h2⟩ := h.form
  clear h
  go_enter Try.func51, Try.ntmps51
  go_wp2_with (refine wpl_appC _ rfl _ _ rfl w.heap.size w.heap.size (.slice none 0 0) (.slice A l.length c) [] l rfl rfl (OC.nil _ _) H.out (by simp; omega) (Nat.le_refl _) ?_; intro v' w' g1 g2 g3 g4)
  go_ret
  exact ⟨v', rfl, g1, g3⟩

theorem grid_yes (v : Value) (l : List Cl) (r c : Nat) (w : World) (h : CS w w.heap.size v l) (hg : GOk l.length r c) : Calls Try.prog 64 #[v, .int .i64 (c : Int)] w fun e w' => e = .returned (.tuple #[.int .i64 (r : Int), .bool true]) ∧ w = w' := by
  obtain ⟨A, k, rfl, h1, h2⟩ := h.form
  obtain ⟨q1, q2⟩ := hg.quo
  have c1 := hg.c1
  have c2 := hg.c2
  have r1 := hg.r1
  have r2 := hg.r2
  have hn := hg.n
  clear hg h
  go_enter Try.func64, Try.ntmps64
  go_wp2
  go_ret2
  exact ⟨rfl, rfl⟩
theorem gOk_no {n : Nat} {cols : Int} (h : gOk n cols = false) : cols < 1 ∨ 1000 < cols ∨ (1 ≤ cols ∧ cols ≤ 1000 ∧ ¬ (n : Int) % cols = 0) ∨ (1 ≤ cols ∧ cols ≤ 1000 ∧ (n : Int) % cols = 0 ∧ (n : Int) / cols < 1) ∨ (1 ≤ cols ∧ cols ≤ 1000 ∧ (n : Int) % cols = 0 ∧ 1 ≤ (n : Int) / cols ∧ 1000 < (n : Int) / cols) := by
  unfold gOk at h
  rw [decide_eq_false_iff_not] at h
  by_cases h1 : cols < 1
  · exact .inl h1
  by_cases h2 : 1000 < cols
  · exact .inr (.inl h2)
  by_cases h3 : (n : Int) % cols = 0
  · by_cases h4 : (n : Int) / cols < 1
    · exact .inr (.inr (.inr (.inl ⟨by omega, by omega, h3, h4⟩)))
    · refine .inr (.inr (.inr (.inr ⟨by omega, by omega, h3, by omega, ?_⟩)))
      by_cases h5 : 1000 < (n : Int) / cols
      · exact h5
      · exact absurd ⟨by omega, by omega, h3, by omega, by omega⟩ h
  · exact .inr (.inr (.inl ⟨by omega, by omega, h3⟩))
theorem grid_no (v : Value) (l : List Cl) (cols : Int) (w : World) (h : CS w w.heap.size v l) (hl : l.length ≤ 1099511627776) (hg : gOk l.length cols = false) : Calls Try.prog 64 #[v, .int .i64 cols] w fun e w' => e = .returned (.tuple #[.int .i64 0, .bool false]) ∧ w = w' := by
  obtain ⟨A, k, rfl, h1, h2⟩ := h.form
  clear h
  rcases gOk_no hg with g | g | ⟨g1, g2, g3⟩ | ⟨g1, g2, g3, g4⟩ | ⟨g1, g2, g3, g4, g5⟩
  · clear hg
    go_enter Try.func64, Try.ntmps64
    go_wp2
    go_ret2
    exact ⟨rfl, rfl⟩
  · clear hg
    have g0 : 1 ≤ cols := by omega
    go_enter Try.func64, Try.ntmps64
    go_wp2
    go_ret2
    exact ⟨rfl, rfl⟩
  all_goals
    clear hg
    have hz : ¬ cols = 0 := by omega
    have hq0 : 0 ≤ (l.length : Int) / cols := Int.ediv_nonneg (by omega) (by omega)
    have hq1 : (l.length : Int) / cols ≤ l.length := Int.ediv_le_self _ (by omega)
    go_enter Try.func64, Try.ntmps64
    go_wp2
    go_ret2
    exact ⟨rfl, rfl⟩

theorem place_yes (v : Value) (l : List Cl) (r c : Nat) (y x : Int) (w : World) (h : CS w w.heap.size v l) (hg : GOk l.length r c) (hy : 0 ≤ y) (hy2 : y < r) (hx : 0 ≤ x) (hx2 : x ≤ c) :
    Calls Try.prog 63 #[v, .int .i64 (c : Int), .int .i64 y, .int .i64 x] w fun e w' => e = .returned (.bool true) ∧ w = w' := by
  obtain ⟨A, k, rfl, h1, h2⟩ := h.form
  have H := Lib.hid h
  have HG := Lib.hid hg
  clear hg h
  go_enter Try.func63, Try.ntmps63
  go_wp2_with ((with_reducible refine (grid_yes _ l r c _ H.out HG.out).mono ?_); rintro e w' ⟨rfl, rfl⟩)
  go_ret
  exact ⟨rfl, rfl⟩
theorem place_no (v : Value) (l : List Cl) (cols y x : Int) (w : World) (h : CS w w.heap.size v l) (hl : l.length ≤ 1099511627776) (hg : gPlace l.length cols y x = false) :
    Calls Try.prog 63 #[v, .int .i64 cols, .int .i64 y, .int .i64 x] w fun e w' => e = .returned (.bool false) ∧ w = w' := by
  obtain ⟨A, k, rfl, h1, h2⟩ := h.form
  have H := Lib.hid h
  clear h
  cases ho : gOk l.length cols with
  | false =>
    have HO := Lib.hid ho
    clear ho hg
    go_enter Try.func63, Try.ntmps63
    go_wp2_with ((with_reducible refine (grid_no _ l cols _ H.out hl HO.out).mono ?_); rintro e w' ⟨rfl, rfl⟩)
    go_ret
    exact ⟨rfl, rfl⟩
  | true =>
    obtain ⟨r, c, rfl, hG⟩ := gOk_of ho
    have hq := hG.quo.1
    have hno : ¬ (0 ≤ y ∧ y < r ∧ 0 ≤ x ∧ x ≤ (c : Int)) := by
      unfold gPlace at hg
      rw [ho, hq] at hg
      simpa using hg
    have HG := Lib.hid hG
    clear ho hg hG hq
    by_cases h3 : 0 ≤ y
    · by_cases h4 : y < r
      · by_cases h5 : 0 ≤ x
        · have h6 : (c : Int) < x := by omega
          have h7 : decide (x ≤ (c : Int)) = false := by simpa using h6
          clear hno
          go_enter Try.func63, Try.ntmps63
          go_wp2_with ((with_reducible refine (grid_yes _ l r c _ H.out HG.out).mono ?_); rintro e w' ⟨rfl, rfl⟩)
          go_ret
          exact ⟨rfl, rfl⟩
        · clear hno
          go_enter Try.func63, Try.ntmps63
          go_wp2_with ((with_reducible refine (grid_yes _ l r c _ H.out HG.out).mono ?_); rintro e w' ⟨rfl, rfl⟩)
          go_ret
          exact ⟨rfl, rfl⟩
      · clear hno
        go_enter Try.func63, Try.ntmps63
        go_wp2_with ((with_reducible refine (grid_yes _ l r c _ H.out HG.out).mono ?_); rintro e w' ⟨rfl, rfl⟩)
        go_ret
        exact ⟨rfl, rfl⟩
    · clear hno
      go_enter Try.func63, Try.ntmps63
      go_wp2_with ((with_reducible refine (grid_yes _ l r c _ H.out HG.out).mono ?_); rintro e w' ⟨rfl, rfl⟩)
      go_ret
      exact ⟨rfl, rfl⟩
end Go.Proofs.Ytklbfeemnekclaa

namespace Go.Proofs.Ytklbfeemnekclaa
open Go.RowKit
set_option linter.unusedVariables false

def SameCRel (n : Nat) (w : World) (i : Value) (wr : World) : Prop := ∃ k : Nat, k ≤ n ∧ i = .int .i64 (k : Int) ∧ Below w.heap.size w wr
set_option maxHeartbeats 1000000 in
set_option maxRecDepth 100000 in
theorem sameC_eq (va vb : Value) (l : List Cl) (w : World) (ha : CS w w.heap.size va l) (hb : CS w w.heap.size vb l) (hl : l.length ≤ 1099511627776) :
    Calls Try.prog 14 #[va, vb] w fun e w' => e = .returned (.bool true) ∧ Below w.heap.size w w' := by
  obtain ⟨A1, c1, rfl, p1, p2⟩ := ha.form
  obtain ⟨A2, c2, rfl, q1, q2⟩ := hb.form
  have HA := Lib.hid ha
  have HB := Lib.hid hb
  clear ha hb
  go_enter Try.func14, Try.ntmps14
  go_wp2
  go_loopw [5] (fun i wr => SameCRel l.length w i wr) (fun i _ => l.length - (intOf i).toNat)
  case atStart => exact ⟨0, Nat.zero_le _, rfl, Below.refl _ _⟩
  case round =>
    obtain ⟨k, hk, rfl, hbel⟩ := hrel
    by_cases hlt : k < l.length
    · obtain ⟨x, hx⟩ : ∃ x, l[k]? = some x := ⟨_, List.getElem?_eq_getElem hlt⟩
      obtain ⟨a1, hA, hba, t0, t1, t2⟩ := (HA.out.below hbel).get k x hx
      obtain ⟨a2, hB, hbb, u0, u1, u2⟩ := (HB.out.below hbel).get k x hx
      subst hA hB
      have HBEL := Lib.hid hbel
      have hki : (k : Int) < (l.length : Int) := by omega
      clear hx hbel
      go_wp2
      go_quiet (fail)
      have hbq := below_drewW HBEL.out nq
      go_wp2
      go_roundw
      case rel => exact ⟨k + 1, hlt, by go_num, hbq⟩
      case measure => simp [intOf]; omega
    · obtain rfl : k = l.length := by omega
      go_wp2
      go_ret
      exact ⟨rfl, hbel⟩
end Go.Proofs.Ytklbfeemnekclaa
