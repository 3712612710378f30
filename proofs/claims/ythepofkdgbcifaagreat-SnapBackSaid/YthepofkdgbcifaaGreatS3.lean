/- What is proved here: parts of layer 10's proofs. -/
import Derived.Test.YthepofkdgbcifaaGreatS2
namespace Go.Proofs.YthepofkdgbcifaaGreat
open Go.RowKit
set_option linter.unusedVariables false
set_option linter.unusedSimpArgs false
set_option maxHeartbeats 1000000
set_option maxRecDepth 100000
theorem CellsPost.up {l : List Cl} {w w1 w2 : World} {e : Ending} (h : CellsPost l w1 e w2) (hb : Below w.heap.size w w1) : CellsPost l w e w2 := by
 obtain ⟨v, he, ho, hb2⟩ := h
 have hz := hb.size
 exact ⟨v, he, ho.lower hz, hb.trans (hb2.mono hz)⟩
theorem Mend_no (v : Value) (l : List Cl) (cols y : Int) (w : World) (h : CS w w.heap.size v l) (hl : l.length ≤ 1099511627776) (hb : gPlace l.length cols y 0 = false) :
  Calls Tryz.prog 86 #[v, .int .i64 cols, .int .i64 y] w (CellsPost l w) := by
 obtain ⟨A, k, rfl, h1, h2⟩ := h.form
 have H := Lh h
 have HP := Lh hb
 clear h hb
 go_enter Tryz.func86, Tryz.ntmps86
 go_wp2_with (first | ((with_reducible refine (own_any _ l _ H.out hl).mono ?_); rintro e w1 ⟨v1, rfl, o1, b1⟩; have z1 := b1.size; have HC := Lh ((H.out.below b1).more z1); have H1 := Lh o1; have HB := Lh b1; clear o1 b1) | ((with_reducible refine (place_no _ l cols y 0 _ HC.out hl HP.out).mono ?_); rintro e w' ⟨rfl, rfl⟩))
 go_ret
 exact ⟨v1, rfl, H1.out, HB.out⟩
theorem Mend_any (v : Value) (l : List Cl) (cols y : Int) (w : World) (h : CS w w.heap.size v l) (hl : l.length ≤ 1099511627776) :
  Calls Tryz.prog 86 #[v, .int .i64 cols, .int .i64 y] w (CellsPost (mendL l cols y) w) := by
 cases hb : gPlace l.length cols y 0 with
 | false =>
  unfold mendL
  rw [hb]
  exact Mend_no v l cols y w h hl hb
 | true =>
  unfold mendL
  rw [hb]
  obtain ⟨r, c, yy, xx, rfl, rfl, _, hG, hy, _⟩ := gPlace_of hb
  simp only [Int.toNat_natCast, if_true]
  exact Mend_yes v l r c yy w h hG hy
def RowRel (l : List Cl) (f : Nat → Cl) (c y x : Nat) (hi : Nat) (w : World) (base : Nat) (g cap : Nat) (i : Value) (wr : World) : Prop :=
 ∃ j : Nat, x ≤ j ∧ (j ≤ hi ∨ j = x) ∧ i = .int .i64 (j : Int) ∧ OC wr base (.slice (some ⟨g, 0, none⟩) l.length cap) (fillL l f (y * c + x) (y * c + j)) ∧ Below w.heap.size w wr
theorem Insert_yes (v : Value) (l : List Cl) (r c y x0 : Nat) (n : Int) (w : World) (h : CS w w.heap.size v l) (hg : GOk l.length r c) (hy : y < r) (hx0 : x0 ≤ c) :
  Calls Tryz.prog 105 #[v, .int .i64 (c : Int), .int .i64 (y : Int), .int .i64 (x0 : Int), .int .i64 n] w (CellsPost (mendL (fillL l (insF l (y * c + x0) (capN n)) (y * c + x0) (y * c + c)) c y) w) := by
 obtain ⟨A, k, rfl, h1, h2⟩ := h.form
 have H := Lh h
 have HG := Lh hg
 have c1 := hg.c1
 have c2 := hg.c2
 have r2 := hg.r2
 have hn := hg.n
 have hrc := rc_le hg.r2 hg.c2
 have hlen : l.length ≤ 1000000 := by omega
 have HN := Lh hn
 clear h hg hn
 go_enter Tryz.func105, Tryz.ntmps105
 go_upto_region 5 with (first | ((with_reducible refine (own_any _ l _ H.out (by omega)).mono ?_); rintro e w1 ⟨v1, rfl, o1, b1⟩; have z1 := b1.size; have HC := Lh ((H.out.below b1).more z1); have HO := Lh o1; have HB := Lh b1; clear o1 b1) | ((with_reducible refine (place_yes _ l r c (y : Int) (x0 : Int) _ HC.out HG.out (by omega) (by omega) (by omega) (by omega)).mono ?_); rintro e w' ⟨rfl, rfl⟩))
 rw [cap_if]
 have hm := capN_le n
 generalize capN n = m at *
 generalize (if n < 0 then 0 else n) = q
 have hpos : 0 < l.length := by rw [HN.out]; exact Nat.mul_pos (by omega) (by omega)
 obtain ⟨g, cap, rfl, hg1, hg2, hg3, hg4⟩ := HO.out.open_ hpos
 go_wp2
 go_loopw [12] (fun i wr => RowRel l (insF l (y * c + x0) m) c y x0 c w w.heap.size g cap i wr) (fun i _ => c - (intOf i).toNat)
 case atStart => exact ⟨x0, Nat.le_refl _, .inr rfl, rfl, by rw [fillL_none _ _ _ _ (Nat.le_refl _)]; exact HO.out, HB.out⟩
 case round =>
  generalize wr = w3 at *
  obtain ⟨x, hx1, hx, rfl, ho, hb⟩ := hrel
  have HO3 := Lh ho
  have HB3 := Lh hb
  have z3 := hb.size
  clear ho hb
  by_cases hxc : x < c
  ·obtain ⟨p, hp⟩ : ∃ p : Nat, p = y * c := ⟨_, rfl⟩
   have hyc : (y : Int) * (c : Int) = (p : Int) := by rw [hp]; simp
   have hpx : p + x < l.length := by rw [hp, HN.out]; exact rc_lt (by omega) hxc
   have HP := Lh hp
   clear hp
   by_cases hym : x0 + m ≤ x
   ·have hpx2 : p + x - m < l.length := by omega
    have hm2 : m ≤ p + x := by omega
    have hym' : (x0 : Int) ≤ (x : Int) - (m : Int) := by omega
    obtain ⟨d, hd⟩ : ∃ d, l[p + x - m]? = some d := ⟨_, List.getElem?_eq_getElem hpx2⟩
    have HD2 := Lh hd
    clear hd
    obtain ⟨ad, hA, hab, -⟩ := H.out.get (p + x - m) d HD2.out
    subst hA
    go_wp2_with ((with_reducible refine (blank_any _).mono ?_); rintro e w' ⟨rfl, hw'⟩; have z4 := hw'.size; have H1 := Lh (HO3.out.below hw'); have HW := Lh hw'; obtain ⟨q0, q1, q2, s0, s1, s2, f0, f1, f2⟩ := (HO3.out.below hw').spot (p + x) hpx; obtain ⟨_, hA, hab2, t0, t1, t2⟩ := ((H.out.below HB3.out).below (hw'.mono z3)).get (p + x - m) d HD2.out; cases hA; have tb : (ad.add ((p + x - m) * 3)).block < w'.heap.size := (by rw [block_add]; omega); have hg5 : g < w'.heap.size := (HO3.out.below hw').block.2; clear hw')
    go_roundw
    case rel =>
     refine ⟨x + 1, by omega, by omega, by go_num, ?_, (below_put (HB3.out.trans (HW.out.mono z3)) hg1 _ _ _ _).alloc (by simp; omega) _⟩
     have e : d = insF l (p + x0) m (p + x) := by
      unfold insF
      rw [if_pos (by omega)]
      have := getC_of hpx2
      rw [HD2.out] at this
      exact Option.some.inj this
     have hpe := HP.out
     have := (H1.out.put (p + x) hpx d).alloc (.cells #[.int .i32 d.r, .int .u16 (d.a : Int), .int .u8 (d.h : Int)] 65)
     rw [← hpe, fillL_set _ _ _ _ _ (by omega) e] at this
     rw [← hpe, show p + (x + 1) = p + x + 1 by omega]
     exact this
    case measure => simp [intOf]; omega
   ·have hym' : (x : Int) - (m : Int) < (x0 : Int) := by omega
    go_wp2_with ((with_reducible refine (blank_any _).mono ?_); rintro e w' ⟨rfl, hw'⟩; have z4 := hw'.size; have H1 := Lh (HO3.out.below hw'); have HW := Lh hw'; obtain ⟨q0, q1, q2, s0, s1, s2, f0, f1, f2⟩ := (HO3.out.below hw').spot (p + x) hpx; have hg5 : g < w'.heap.size := (HO3.out.below hw').block.2; clear hw')
    go_roundw
    case rel =>
     refine ⟨x + 1, by omega, by omega, by go_num, ?_, (below_put (HB3.out.trans (HW.out.mono z3)) hg1 _ _ _ _).alloc (by simp; omega) _⟩
     have e : blankC = insF l (p + x0) m (p + x) := by
      unfold insF
      rw [if_neg (by omega)]
     have hpe := HP.out
     have := (H1.out.put (p + x) hpx blankC).alloc (.cells #[.int .i32 32, .int .u16 0, .int .u8 0] 65)
     rw [← hpe, fillL_set _ _ _ _ _ (by omega) e] at this
     rw [← hpe, show p + (x + 1) = p + x + 1 by omega]
     exact this
    case measure => simp [intOf]; omega
  ·have hxe : c = x := by omega
   subst hxe
   have HM := Lh HO3.out.cs
   go_wp2_with ((with_reducible refine (Mend_any _ (fillL l (insF l (y * c + x0) m) (y * c + x0) (y * c + c)) c y _ HM.out (by rw [fillL_len]; omega)).mono ?_); rintro e w4 ⟨v4, rfl, o4, b4⟩)
   go_ret
   exact CellsPost.up ⟨_, rfl, o4, b4⟩ HB3.out
theorem Insert_no (v : Value) (l : List Cl) (cols y x n : Int) (w : World) (h : CS w w.heap.size v l) (hl : l.length ≤ 1099511627776) (hb : gPlace l.length cols y x = false) :
  Calls Tryz.prog 105 #[v, .int .i64 cols, .int .i64 y, .int .i64 x, .int .i64 n] w (CellsPost l w) := by
 obtain ⟨A, k, rfl, h1, h2⟩ := h.form
 have H := Lh h
 have HP := Lh hb
 clear h hb
 go_enter Tryz.func105, Tryz.ntmps105
 go_wp2_with (first | ((with_reducible refine (own_any _ l _ H.out hl).mono ?_); rintro e w1 ⟨v1, rfl, o1, b1⟩; have z1 := b1.size; have HC := Lh ((H.out.below b1).more z1); have H1 := Lh o1; have HB := Lh b1; clear o1 b1) | ((with_reducible refine (place_no _ l cols y x _ HC.out hl HP.out).mono ?_); rintro e w' ⟨rfl, rfl⟩))
 go_ret
 exact ⟨v1, rfl, H1.out, HB.out⟩
theorem Insert_any (v : Value) (l : List Cl) (cols y x n : Int) (w : World) (h : CS w w.heap.size v l) (hl : l.length ≤ 1099511627776) :
  Calls Tryz.prog 105 #[v, .int .i64 cols, .int .i64 y, .int .i64 x, .int .i64 n] w (CellsPost (insertL l cols y x n) w) := by
 cases hb : gPlace l.length cols y x with
 | false =>
  unfold insertL
  rw [hb]
  exact Insert_no v l cols y x n w h hl hb
 | true =>
  unfold insertL
  rw [hb]
  obtain ⟨r, c, yy, xx, rfl, rfl, rfl, hG, hy, hx⟩ := gPlace_of hb
  simp only [Int.toNat_natCast, if_true]
  exact Insert_yes v l r c yy xx n w h hG hy hx
theorem Delete_yes (v : Value) (l : List Cl) (r c y x0 : Nat) (n : Int) (w : World) (h : CS w w.heap.size v l) (hg : GOk l.length r c) (hy : y < r) (hx0 : x0 ≤ c) :
  Calls Tryz.prog 106 #[v, .int .i64 (c : Int), .int .i64 (y : Int), .int .i64 (x0 : Int), .int .i64 n] w (CellsPost (mendL (fillL l (delF l (y * c + c) (capN n)) (y * c + x0) (y * c + c)) c y) w) := by
 obtain ⟨A, k, rfl, h1, h2⟩ := h.form
 have H := Lh h
 have HG := Lh hg
 have c1 := hg.c1
 have c2 := hg.c2
 have r2 := hg.r2
 have hn := hg.n
 have hrc := rc_le hg.r2 hg.c2
 have hlen : l.length ≤ 1000000 := by omega
 have HN := Lh hn
 clear h hg hn
 go_enter Tryz.func106, Tryz.ntmps106
 go_upto_region 5 with (first | ((with_reducible refine (own_any _ l _ H.out (by omega)).mono ?_); rintro e w1 ⟨v1, rfl, o1, b1⟩; have z1 := b1.size; have HC := Lh ((H.out.below b1).more z1); have HO := Lh o1; have HB := Lh b1; clear o1 b1) | ((with_reducible refine (place_yes _ l r c (y : Int) (x0 : Int) _ HC.out HG.out (by omega) (by omega) (by omega) (by omega)).mono ?_); rintro e w' ⟨rfl, rfl⟩))
 rw [cap_if]
 have hm := capN_le n
 generalize capN n = m at *
 generalize (if n < 0 then 0 else n) = q
 have hpos : 0 < l.length := by rw [HN.out]; exact Nat.mul_pos (by omega) (by omega)
 obtain ⟨g, cap, rfl, hg1, hg2, hg3, hg4⟩ := HO.out.open_ hpos
 go_wp2
 go_loopw [12] (fun i wr => RowRel l (delF l (y * c + c) m) c y x0 c w w.heap.size g cap i wr) (fun i _ => c - (intOf i).toNat)
 case atStart => exact ⟨x0, Nat.le_refl _, .inr rfl, rfl, by rw [fillL_none _ _ _ _ (Nat.le_refl _)]; exact HO.out, HB.out⟩
 case round =>
  generalize wr = w3 at *
  obtain ⟨x, hx1, hx, rfl, ho, hb⟩ := hrel
  have HO3 := Lh ho
  have HB3 := Lh hb
  have z3 := hb.size
  clear ho hb
  by_cases hxc : x < c
  ·obtain ⟨p, hp⟩ : ∃ p : Nat, p = y * c := ⟨_, rfl⟩
   have hyc : (y : Int) * (c : Int) = (p : Int) := by rw [hp]; simp
   have hpx : p + x < l.length := by rw [hp, HN.out]; exact rc_lt (by omega) hxc
   have HP := Lh hp
   clear hp
   by_cases hym : x + m < c
   ·have hpx2 : p + x + m < l.length := by
     have := rc_lt (r := r) hy hym
     rw [← HP.out, ← HN.out] at this
     omega
    have hym' : (x : Int) + (m : Int) < (c : Int) := by omega
    obtain ⟨d, hd⟩ : ∃ d, l[p + x + m]? = some d := ⟨_, List.getElem?_eq_getElem hpx2⟩
    have HD2 := Lh hd
    clear hd
    obtain ⟨ad, hA, hab, -⟩ := H.out.get (p + x + m) d HD2.out
    subst hA
    go_wp2_with ((with_reducible refine (blank_any _).mono ?_); rintro e w' ⟨rfl, hw'⟩; have z4 := hw'.size; have H1 := Lh (HO3.out.below hw'); have HW := Lh hw'; obtain ⟨q0, q1, q2, s0, s1, s2, f0, f1, f2⟩ := (HO3.out.below hw').spot (p + x) hpx; obtain ⟨_, hA, hab2, t0, t1, t2⟩ := ((H.out.below HB3.out).below (hw'.mono z3)).get (p + x + m) d HD2.out; cases hA; have tb : (ad.add ((p + x + m) * 3)).block < w'.heap.size := (by rw [block_add]; omega); have hg5 : g < w'.heap.size := (HO3.out.below hw').block.2; clear hw')
    go_roundw
    case rel =>
     refine ⟨x + 1, by omega, by omega, by go_num, ?_, (below_put (HB3.out.trans (HW.out.mono z3)) hg1 _ _ _ _).alloc (by simp; omega) _⟩
     have e : d = delF l (p + c) m (p + x) := by
      unfold delF
      rw [if_pos (by omega)]
      have := getC_of hpx2
      rw [HD2.out] at this
      exact Option.some.inj this
     have hpe := HP.out
     have := (H1.out.put (p + x) hpx d).alloc (.cells #[.int .i32 d.r, .int .u16 (d.a : Int), .int .u8 (d.h : Int)] 65)
     rw [← hpe, fillL_set _ _ _ _ _ (by omega) e] at this
     rw [← hpe, show p + (x + 1) = p + x + 1 by omega]
     exact this
    case measure => simp [intOf]; omega
   ·have hym' : (c : Int) ≤ (x : Int) + (m : Int) := by omega
    go_wp2_with ((with_reducible refine (blank_any _).mono ?_); rintro e w' ⟨rfl, hw'⟩; have z4 := hw'.size; have H1 := Lh (HO3.out.below hw'); have HW := Lh hw'; obtain ⟨q0, q1, q2, s0, s1, s2, f0, f1, f2⟩ := (HO3.out.below hw').spot (p + x) hpx; have hg5 : g < w'.heap.size := (HO3.out.below hw').block.2; clear hw')
    go_roundw
    case rel =>
     refine ⟨x + 1, by omega, by omega, by go_num, ?_, (below_put (HB3.out.trans (HW.out.mono z3)) hg1 _ _ _ _).alloc (by simp; omega) _⟩
     have e : blankC = delF l (p + c) m (p + x) := by
      unfold delF
      rw [if_neg (by omega)]
     have hpe := HP.out
     have := (H1.out.put (p + x) hpx blankC).alloc (.cells #[.int .i32 32, .int .u16 0, .int .u8 0] 65)
     rw [← hpe, fillL_set _ _ _ _ _ (by omega) e] at this
     rw [← hpe, show p + (x + 1) = p + x + 1 by omega]
     exact this
    case measure => simp [intOf]; omega
  ·have hxe : c = x := by omega
   subst hxe
   have HM := Lh HO3.out.cs
   go_wp2_with ((with_reducible refine (Mend_any _ (fillL l (delF l (y * c + c) m) (y * c + x0) (y * c + c)) c y _ HM.out (by rw [fillL_len]; omega)).mono ?_); rintro e w4 ⟨v4, rfl, o4, b4⟩)
   go_ret
   exact CellsPost.up ⟨_, rfl, o4, b4⟩ HB3.out
theorem Delete_no (v : Value) (l : List Cl) (cols y x n : Int) (w : World) (h : CS w w.heap.size v l) (hl : l.length ≤ 1099511627776) (hb : gPlace l.length cols y x = false) :
  Calls Tryz.prog 106 #[v, .int .i64 cols, .int .i64 y, .int .i64 x, .int .i64 n] w (CellsPost l w) := by
 obtain ⟨A, k, rfl, h1, h2⟩ := h.form
 have H := Lh h
 have HP := Lh hb
 clear h hb
 go_enter Tryz.func106, Tryz.ntmps106
 go_wp2_with (first | ((with_reducible refine (own_any _ l _ H.out hl).mono ?_); rintro e w1 ⟨v1, rfl, o1, b1⟩; have z1 := b1.size; have HC := Lh ((H.out.below b1).more z1); have H1 := Lh o1; have HB := Lh b1; clear o1 b1) | ((with_reducible refine (place_no _ l cols y x _ HC.out hl HP.out).mono ?_); rintro e w' ⟨rfl, rfl⟩))
 go_ret
 exact ⟨v1, rfl, H1.out, HB.out⟩
theorem Delete_any (v : Value) (l : List Cl) (cols y x n : Int) (w : World) (h : CS w w.heap.size v l) (hl : l.length ≤ 1099511627776) :
  Calls Tryz.prog 106 #[v, .int .i64 cols, .int .i64 y, .int .i64 x, .int .i64 n] w (CellsPost (deleteL l cols y x n) w) := by
 cases hb : gPlace l.length cols y x with
 | false =>
  unfold deleteL
  rw [hb]
  exact Delete_no v l cols y x n w h hl hb
 | true =>
  unfold deleteL
  rw [hb]
  obtain ⟨r, c, yy, xx, rfl, rfl, rfl, hG, hy, hx⟩ := gPlace_of hb
  simp only [Int.toNat_natCast, if_true]
  exact Delete_yes v l r c yy xx n w h hG hy hx
theorem capc_if (n : Int) (c : Nat) : (if (c : Int) < (if n < 0 then 0 else n) then (c : Int) else (if n < 0 then 0 else n)) = (capC n (c : Int) : Int) := by
 unfold capC
 by_cases h : n < 0
 ·simp only [h, if_true]
  split <;> omega
 ·simp only [h, if_false]
  split <;> omega
theorem capC_le (n : Int) (c : Nat) : capC n (c : Int) ≤ c := by unfold capC; omega
theorem Erase_yes (v : Value) (l : List Cl) (r c y : Nat) (fr n : Int) (w : World) (h : CS w w.heap.size v l) (hg : GOk l.length r c) (hy : y < r) :
  Calls Tryz.prog 107 #[v, .int .i64 (c : Int), .int .i64 (y : Int), .int .i64 fr, .int .i64 n] w (CellsPost (mendL (fillL l (fun _ => blankC) (y * c + capC fr (c : Int)) (y * c + capC n (c : Int))) c y) w) := by
 obtain ⟨A, k, rfl, h1, h2⟩ := h.form
 have H := Lh h
 have HG := Lh hg
 have c1 := hg.c1
 have c2 := hg.c2
 have r2 := hg.r2
 have hn := hg.n
 have hrc := rc_le hg.r2 hg.c2
 have hlen : l.length ≤ 1000000 := by omega
 have HN := Lh hn
 have hm0 := capC_le fr c
 have hm := capC_le n c
 obtain ⟨x0, hx0⟩ : ∃ x0 : Nat, x0 = capC fr (c : Int) := ⟨_, rfl⟩
 obtain ⟨m, hmm⟩ : ∃ m : Nat, m = capC n (c : Int) := ⟨_, rfl⟩
 rw [← hx0] at hm0 ⊢
 rw [← hmm] at hm ⊢
 have HX0 := Lh hx0
 have HMM := Lh hmm
 clear h hg hn hx0 hmm
 go_enter Tryz.func107, Tryz.ntmps107
 go_upto_region 5 with (first | ((with_reducible refine (own_any _ l _ H.out (by omega)).mono ?_); rintro e w1 ⟨v1, rfl, o1, b1⟩; have z1 := b1.size; have HC := Lh ((H.out.below b1).more z1); have HO := Lh o1; have HB := Lh b1; clear o1 b1) | ((with_reducible refine (place_yes _ l r c (y : Int) 0 _ HC.out HG.out (by omega) (by omega) (by omega) (by omega)).mono ?_); rintro e w' ⟨rfl, rfl⟩))
 rw [capc_if, capc_if, ← HX0.out, ← HMM.out]
 generalize (if fr < 0 then 0 else fr) = q
 generalize (if n < 0 then 0 else n) = q2
 have hpos : 0 < l.length := by rw [HN.out]; exact Nat.mul_pos (by omega) (by omega)
 obtain ⟨g, cap, rfl, hg1, hg2, hg3, hg4⟩ := HO.out.open_ hpos
 go_wp2
 go_loopw [12] (fun i wr => RowRel l (fun _ => blankC) c y x0 m w w.heap.size g cap i wr) (fun i _ => m - (intOf i).toNat)
 case atStart => exact ⟨x0, Nat.le_refl _, .inr rfl, rfl, by rw [fillL_none _ _ _ _ (Nat.le_refl _)]; exact HO.out, HB.out⟩
 case round =>
  generalize wr = w3 at *
  obtain ⟨x, hx1, hx, rfl, ho, hb⟩ := hrel
  have HO3 := Lh ho
  have HB3 := Lh hb
  have z3 := hb.size
  clear ho hb
  by_cases hxc : x < m
  ·obtain ⟨p, hp⟩ : ∃ p : Nat, p = y * c := ⟨_, rfl⟩
   have hyc : (y : Int) * (c : Int) = (p : Int) := by rw [hp]; simp
   have hpx : p + x < l.length := by rw [hp, HN.out]; exact rc_lt (by omega) (by omega)
   have HP := Lh hp
   clear hp
   go_wp2_with ((with_reducible refine (blank_any _).mono ?_); rintro e w' ⟨rfl, hw'⟩; have z4 := hw'.size; have H1 := Lh (HO3.out.below hw'); have HW := Lh hw'; obtain ⟨q0, q1, q2, s0, s1, s2, f0, f1, f2⟩ := (HO3.out.below hw').spot (p + x) hpx; have hg5 : g < w'.heap.size := (HO3.out.below hw').block.2; clear hw')
   go_roundw
   case rel =>
    refine ⟨x + 1, by omega, by omega, by go_num, ?_, below_put (HB3.out.trans (HW.out.mono z3)) hg1 _ _ _ _⟩
    have hpe := HP.out
    have := H1.out.put (p + x) hpx blankC
    rw [← hpe, fillL_set _ _ _ _ _ (by omega) rfl] at this
    rw [← hpe, show p + (x + 1) = p + x + 1 by omega]
    exact this
   case measure => simp [intOf]; omega
  ·have hM : OC w3 w.heap.size (.slice (some ⟨g, 0, none⟩) l.length cap) (fillL l (fun _ => blankC) (y * c + x0) (y * c + m)) := by
    have := HO3.out
    by_cases e : m = x
    ·rw [← e] at this; exact this
    ·have e2 : x = x0 := by omega
     rw [e2, fillL_none _ _ _ _ (Nat.le_refl _)] at this
     rw [fillL_none _ _ _ _ (by omega)]
     exact this
   have HM := Lh hM.cs
   clear hM
   go_wp2_with ((with_reducible refine (Mend_any _ (fillL l (fun _ => blankC) (y * c + x0) (y * c + m)) c y _ HM.out (by rw [fillL_len]; omega)).mono ?_); rintro e w4 ⟨v4, rfl, o4, b4⟩)
   go_ret
   exact CellsPost.up ⟨_, rfl, o4, b4⟩ HB3.out
theorem Erase_no (v : Value) (l : List Cl) (cols y x n : Int) (w : World) (h : CS w w.heap.size v l) (hl : l.length ≤ 1099511627776) (hb : gPlace l.length cols y 0 = false) :
  Calls Tryz.prog 107 #[v, .int .i64 cols, .int .i64 y, .int .i64 x, .int .i64 n] w (CellsPost l w) := by
 obtain ⟨A, k, rfl, h1, h2⟩ := h.form
 have H := Lh h
 have HP := Lh hb
 clear h hb
 go_enter Tryz.func107, Tryz.ntmps107
 go_wp2_with (first | ((with_reducible refine (own_any _ l _ H.out hl).mono ?_); rintro e w1 ⟨v1, rfl, o1, b1⟩; have z1 := b1.size; have HC := Lh ((H.out.below b1).more z1); have H1 := Lh o1; have HB := Lh b1; clear o1 b1) | ((with_reducible refine (place_no _ l cols y 0 _ HC.out hl HP.out).mono ?_); rintro e w' ⟨rfl, rfl⟩))
 go_ret
 exact ⟨v1, rfl, H1.out, HB.out⟩
theorem Erase_any (v : Value) (l : List Cl) (cols y x n : Int) (w : World) (h : CS w w.heap.size v l) (hl : l.length ≤ 1099511627776) :
  Calls Tryz.prog 107 #[v, .int .i64 cols, .int .i64 y, .int .i64 x, .int .i64 n] w (CellsPost (eraseL l cols y x n) w) := by
 cases hb : gPlace l.length cols y 0 with
 | false =>
  unfold eraseL
  rw [hb]
  exact Erase_no v l cols y x n w h hl hb
 | true =>
  unfold eraseL
  rw [hb]
  obtain ⟨r, c, yy, xx, rfl, rfl, _, hG, hy, hx⟩ := gPlace_of hb
  simp only [Int.toNat_natCast, if_true]
  exact Erase_yes v l r c yy x n w h hG hy
def RowW (l : List Cl) (c y : Nat) : Prop := ∀ x, x < c → badH l c (y * c + x) x = false
def Whole (l : List Cl) (r c : Nat) : Prop := ∀ y, y < r → RowW l c y
theorem badH_no {l : List Cl} {c i x : Nat} : badH l c i x = false ↔ ((getC l i).h = 1 → x + 1 ≠ c ∧ (getC l (i + 1)).h = 2) ∧ ((getC l i).h = 2 → x ≠ 0 ∧ (getC l (i - 1)).h = 1) := by
 unfold badH
 generalize (getC l i).h = a
 generalize (getC l (i + 1)).h = b
 generalize (getC l (i - 1)).h = d
 simp only [Bool.or_eq_false_iff, Bool.and_eq_false_iff, decide_eq_false_iff_not]
 omega
theorem RowW.same {l m : List Cl} {c y y' : Nat} (h : RowW l c y') (he : ∀ x, x < c → getC m (y * c + x) = getC l (y' * c + x)) : RowW m c y := by
 intro x hx
 have h1 := badH_no.1 (h x hx)
 refine badH_no.2 ⟨fun e => ?_, fun e => ?_⟩
 ·rw [he x hx] at e
  obtain ⟨a, b⟩ := h1.1 e
  refine ⟨a, ?_⟩
  rw [Nat.add_assoc] at b ⊢
  rw [he (x + 1) (by omega)]
  exact b
 ·rw [he x hx] at e
  obtain ⟨a, b⟩ := h1.2 e
  refine ⟨a, ?_⟩
  rw [show y' * c + x - 1 = y' * c + (x - 1) by omega] at b
  rw [show y * c + x - 1 = y * c + (x - 1) by omega, he (x - 1) (by omega)]
  exact b
theorem RowW.blank {m : List Cl} {c y : Nat} (he : ∀ x, x < c → getC m (y * c + x) = blankC) : RowW m c y := by
 intro x hx
 refine badH_no.2 ⟨fun e => ?_, fun e => ?_⟩
 ·rw [he x hx] at e; exact absurd e (by decide)
 ·rw [he x hx] at e; exact absurd e (by decide)
theorem getC_out {l : List Cl} {i : Nat} (h : l.length ≤ i) : getC l i = blankC := by
 unfold getC List.getD
 rw [List.getElem?_eq_none h]
 rfl
theorem fill_getC (l : List Cl) (f : Nat → Cl) (lo hi i : Nat) : getC (fillL l f lo hi) i = if i < l.length ∧ lo ≤ i ∧ i < hi then f i else getC l i := by
 unfold getC List.getD
 rw [fillL_get]
 by_cases h : i < l.length
 ·rw [if_pos h]
  by_cases h2 : lo ≤ i ∧ i < hi
  ·rw [if_pos h2, if_pos ⟨h, h2⟩]
   rfl
  ·rw [if_neg h2, if_neg (fun e => h2 e.2)]
 ·rw [if_neg h, if_neg (fun e => h e.1), List.getElem?_eq_none (by omega)]
theorem fill_blankC (l : List Cl) (lo hi i : Nat) : getC (fillL l (fun _ => blankC) lo hi) i = if lo ≤ i ∧ i < hi then blankC else getC l i := by
 rw [fill_getC]
 by_cases h : i < l.length
 ·by_cases h2 : lo ≤ i ∧ i < hi
  ·rw [if_pos ⟨h, h2⟩, if_pos h2]
  ·rw [if_neg (fun e => h2 e.2), if_neg h2]
 ·rw [if_neg (fun e => h e.1), getC_out (by omega)]
  split <;> rfl
theorem getC_ext {l m : List Cl} (hl : m.length = l.length) (h : ∀ i, i < l.length → getC m i = getC l i) : m = l := by
 apply List.ext_getElem?
 intro i
 by_cases hi : i < l.length
 ·rw [getC_of hi, getC_of (by omega), h i hi]
 ·rw [List.getElem?_eq_none (by omega), List.getElem?_eq_none (by omega)]
theorem row_ge {lo y c x : Nat} (hx : x < c) : lo * c ≤ y * c + x ↔ lo ≤ y := by
 constructor
 ·intro h
  rcases Nat.lt_or_ge y lo with h2 | h2
  ·have := Nat.mul_le_mul_right c h2
   rw [Nat.succ_eq_add_one, Nat.add_mul] at this
   omega
  ·exact h2
 ·intro h
  have := Nat.mul_le_mul_right c h
  omega
theorem row_other {c y y' x i : Nat} (hx : x < c) (hne : y' ≠ y) (h1 : y * c ≤ i) (h2 : i < y * c + c) : i ≠ y' * c + x := by
 intro e
 rcases Nat.lt_or_ge y' y with h | h
 ·have := Nat.mul_le_mul_right c h
  rw [Nat.succ_eq_add_one, Nat.add_mul] at this
  omega
 ·have h3 : y + 1 ≤ y' := by omega
  have := Nat.mul_le_mul_right c h3
  rw [Nat.add_mul] at this
  omega
theorem fill_other {l : List Cl} {f : Nat → Cl} {c y y' x lo hi : Nat} (hx : x < c) (hne : y' ≠ y) (h1 : y * c ≤ lo) (h2 : hi ≤ y * c + c) : getC (fillL l f lo hi) (y' * c + x) = getC l (y' * c + x) := by
 rw [fill_getC]
 by_cases h : y' * c + x < l.length ∧ lo ≤ y' * c + x ∧ y' * c + x < hi
 ·exact absurd rfl (row_other (i := y' * c + x) hx hne (by omega) (by omega))
 ·rw [if_neg h]
theorem gOk_pos {l : List Cl} {r c : Nat} (hg : GOk l.length r c) (top bottom : Int) : (gOk l.length (c : Int) = true ∧ 0 ≤ top ∧ bottom < (l.length : Int) / (c : Int) ∧ top ≤ bottom) ↔ (0 ≤ top ∧ bottom < (r : Int) ∧ top ≤ bottom) := by
 rw [hg.quo.1, hg.ok]
 simp
theorem upL_getC {l : List Cl} {r c : Nat} (hg : GOk l.length r c) (top bottom : Nat) (n : Int) (htb : top ≤ bottom) (hb : bottom < r) (y x : Nat) (hy : y < r) (hx : x < c) :
  getC (upL l c top bottom n) (y * c + x) = if top ≤ y ∧ y ≤ bottom then (if y + capN n ≤ bottom then getC l ((y + capN n) * c + x) else blankC) else getC l (y * c + x) := by
 have hlt := rc_lt hy hx
 rw [← hg.n] at hlt
 unfold upL
 rw [if_pos ((gOk_pos hg _ _).2 ⟨by omega, by omega, by omega⟩), fill_getC]
 simp only [Int.toNat_natCast]
 have e1 := row_ge (lo := top) (y := y) hx
 have e2 := row_ge (lo := bottom + 1) (y := y) hx
 by_cases h : top ≤ y ∧ y ≤ bottom
 ·rw [if_pos h, if_pos ⟨hlt, e1.2 h.1, by have := mt e2.1 (by omega); omega⟩]
  unfold upF
  rw [(rc_div y c x hx).1]
  rw [show y * c + x + capN n * c = (y + capN n) * c + x by rw [Nat.add_mul]; omega]
 ·rw [if_neg h, if_neg (fun e => h ⟨e1.1 e.2.1, by have := mt e2.2 (by omega); omega⟩)]
theorem downL_getC {l : List Cl} {r c : Nat} (hg : GOk l.length r c) (top bottom : Nat) (n : Int) (htb : top ≤ bottom) (hb : bottom < r) (y x : Nat) (hy : y < r) (hx : x < c) :
  getC (downL l c top bottom n) (y * c + x) = if top ≤ y ∧ y ≤ bottom then (if top + capN n ≤ y then getC l ((y - capN n) * c + x) else blankC) else getC l (y * c + x) := by
 have hlt := rc_lt hy hx
 rw [← hg.n] at hlt
 unfold downL
 rw [if_pos ((gOk_pos hg _ _).2 ⟨by omega, by omega, by omega⟩), fill_getC]
 simp only [Int.toNat_natCast]
 have e1 := row_ge (lo := top) (y := y) hx
 have e2 := row_ge (lo := bottom + 1) (y := y) hx
 by_cases h : top ≤ y ∧ y ≤ bottom
 ·rw [if_pos h, if_pos ⟨hlt, e1.2 h.1, by have := mt e2.1 (by omega); omega⟩]
  unfold downF
  rw [(rc_div y c x hx).1]
  by_cases h3 : top + capN n ≤ y
  ·rw [if_pos h3, if_pos h3]
   congr 1
   have : (y - capN n) * c + capN n * c = y * c := by rw [← Nat.add_mul, Nat.sub_add_cancel (by omega)]
   omega
  ·rw [if_neg h3, if_neg h3]
 ·rw [if_neg h, if_neg (fun e => h ⟨e1.1 e.2.1, by have := mt e2.2 (by omega); omega⟩)]
theorem upL_whole {l : List Cl} {r c : Nat} (hg : GOk l.length r c) (h : Whole l r c) (top bottom n : Int) : Whole (upL l c top bottom n) r c := by
 by_cases hc : 0 ≤ top ∧ bottom < (r : Int) ∧ top ≤ bottom
 ·obtain ⟨t, rfl⟩ : ∃ t : Nat, top = t := ⟨top.toNat, by omega⟩
  obtain ⟨b, rfl⟩ : ∃ b : Nat, bottom = b := ⟨bottom.toNat, by omega⟩
  intro y hy
  have hq := upL_getC hg t b n (by omega) (by omega) y
  by_cases h1 : t ≤ y ∧ y ≤ b
  ·by_cases h2 : y + capN n ≤ b
   ·exact (h (y + capN n) (by omega)).same (fun x hx => by rw [hq x hy hx, if_pos h1, if_pos h2])
   ·exact RowW.blank (fun x hx => by rw [hq x hy hx, if_pos h1, if_neg h2])
  ·exact (h y hy).same (fun x hx => by rw [hq x hy hx, if_neg h1])
 ·unfold upL
  rw [if_neg (fun e => hc ((gOk_pos hg _ _).1 e))]
  exact h
theorem downL_whole {l : List Cl} {r c : Nat} (hg : GOk l.length r c) (h : Whole l r c) (top bottom n : Int) : Whole (downL l c top bottom n) r c := by
 by_cases hc : 0 ≤ top ∧ bottom < (r : Int) ∧ top ≤ bottom
 ·obtain ⟨t, rfl⟩ : ∃ t : Nat, top = t := ⟨top.toNat, by omega⟩
  obtain ⟨b, rfl⟩ : ∃ b : Nat, bottom = b := ⟨bottom.toNat, by omega⟩
  intro y hy
  have hq := downL_getC hg t b n (by omega) (by omega) y
  by_cases h1 : t ≤ y ∧ y ≤ b
  ·by_cases h2 : t + capN n ≤ y
   ·exact (h (y - capN n) (by omega)).same (fun x hx => by rw [hq x hy hx, if_pos h1, if_pos h2])
   ·exact RowW.blank (fun x hx => by rw [hq x hy hx, if_pos h1, if_neg h2])
  ·exact (h y hy).same (fun x hx => by rw [hq x hy hx, if_neg h1])
 ·unfold downL
  rw [if_neg (fun e => hc ((gOk_pos hg _ _).1 e))]
  exact h
theorem mendL_row {l : List Cl} {r c : Nat} (hg : GOk l.length r c) (y : Nat) (hy : y < r) (x : Nat) (hx : x < c) : getC (mendL l c y) (y * c + x) = if badH l c (y * c + x) x = true then blankC else getC l (y * c + x) := by
 have hlt := rc_lt hy hx
 rw [← hg.n] at hlt
 unfold mendL
 rw [if_pos (gPlace_mk hg (by omega) (by omega) (by omega) (by omega)), fill_getC]
 simp only [Int.toNat_natCast]
 rw [if_pos ⟨hlt, by omega, by omega⟩]
 unfold mendF
 rw [(rc_div y c x hx).2]
theorem mendL_else {l : List Cl} {c : Nat} (y y' x : Nat) (hne : y' ≠ y) (hx : x < c) : getC (mendL l c y) (y' * c + x) = getC l (y' * c + x) := by
 unfold mendL
 split
 ·simp only [Int.toNat_natCast]
  exact fill_other hx hne (Nat.le_refl _) (Nat.le_refl _)
 ·rfl
theorem mendL_rowW {l : List Cl} {r c : Nat} (hg : GOk l.length r c) (y : Nat) (hy : y < r) : RowW (mendL l c y) c y := by
 intro x hx
 have hm := mendL_row hg y hy
 refine badH_no.2 ⟨fun e => ?_, fun e => ?_⟩
 ·rw [hm x hx] at e
  cases hb : badH l c (y * c + x) x with
  | true => rw [hb, if_pos rfl] at e; exact absurd e (by decide)
  | false =>
   rw [hb] at e
   obtain ⟨a, b⟩ := (badH_no.1 hb).1 e
   refine ⟨a, ?_⟩
   have hb2 : badH l c (y * c + (x + 1)) (x + 1) = false := by
    rw [Nat.add_assoc] at b
    refine badH_no.2 ⟨fun e2 => by omega, fun _ => ⟨by omega, ?_⟩⟩
    rw [show y * c + (x + 1) - 1 = y * c + x by omega]
    exact e
   rw [Nat.add_assoc] at b ⊢
   rw [hm (x + 1) (by omega), hb2]
   exact b
 ·rw [hm x hx] at e
  cases hb : badH l c (y * c + x) x with
  | true => rw [hb, if_pos rfl] at e; exact absurd e (by decide)
  | false =>
   rw [hb] at e
   obtain ⟨a, b⟩ := (badH_no.1 hb).2 e
   refine ⟨a, ?_⟩
   rw [show y * c + x - 1 = y * c + (x - 1) by omega] at b ⊢
   have hb2 : badH l c (y * c + (x - 1)) (x - 1) = false := by
    refine badH_no.2 ⟨fun _ => ⟨by omega, ?_⟩, fun e2 => by omega⟩
    rw [show y * c + (x - 1) + 1 = y * c + x by omega]
    exact e
   rw [hm (x - 1) (by omega), hb2]
   exact b
theorem mendL_whole {l : List Cl} {r c : Nat} (hg : GOk l.length r c) (y : Int) (h : ∀ y' : Nat, y' < r → (y' : Int) ≠ y → RowW l c y') : Whole (mendL l c y) r c := by
 intro y' hy'
 by_cases e : (y' : Int) = y
 ·subst e; exact mendL_rowW hg y' hy'
 ·by_cases h0 : 0 ≤ y
  ·obtain ⟨z, rfl⟩ : ∃ z : Nat, y = z := ⟨y.toNat, by omega⟩
   exact (h y' hy' e).same (fun x hx => mendL_else z y' x (by omega) hx)
  ·unfold mendL
   rw [if_neg (fun e2 => by obtain ⟨r1, c1, yy, xx, _, e3, _⟩ := gPlace_of e2; omega)]
   exact h y' hy' e
theorem mendL_same {l : List Cl} {r c : Nat} (hg : GOk l.length r c) (y : Nat) (hy : y < r) (h : RowW l c y) : mendL l c y = l := by
 refine getC_ext (mendL_len _ _ _) (fun i hi => ?_)
 have hi2 : i < r * c := by rw [← hg.n]; exact hi
 have hc := hg.c1
 have hm : i % c < c := Nat.mod_lt _ (by omega)
 have hd : i / c * c + i % c = i := by rw [Nat.mul_comm]; exact Nat.div_add_mod i c
 by_cases e : i / c = y
 ·rw [← hd, e, mendL_row hg y hy _ hm, h _ hm]
  rfl
 ·rw [← hd]
  exact mendL_else y (i / c) _ e hm
theorem insertL_whole {l : List Cl} {r c : Nat} (hg : GOk l.length r c) (h : Whole l r c) (y x n : Int) : Whole (insertL l c y x n) r c := by
 unfold insertL
 split
 ·rename_i hp
  obtain ⟨r1, c1, yy, xx, e1, rfl, rfl, _, _, hx⟩ := gPlace_of hp
  have : c1 = c := by omega
  subst this
  refine mendL_whole (by rw [fillL_len]; exact hg) _ (fun y' hy' hne => (h y' hy').same (fun x hx => fill_other hx (y := yy) (by omega) ?_ ?_))
  ·simp only [Int.toNat_natCast]; omega
  ·simp only [Int.toNat_natCast]; omega
 ·exact h
theorem deleteL_whole {l : List Cl} {r c : Nat} (hg : GOk l.length r c) (h : Whole l r c) (y x n : Int) : Whole (deleteL l c y x n) r c := by
 unfold deleteL
 split
 ·rename_i hp
  obtain ⟨r1, c1, yy, xx, e1, rfl, rfl, _, _, hx⟩ := gPlace_of hp
  have : c1 = c := by omega
  subst this
  refine mendL_whole (by rw [fillL_len]; exact hg) _ (fun y' hy' hne => (h y' hy').same (fun x hx => fill_other hx (y := yy) (by omega) ?_ ?_))
  ·simp only [Int.toNat_natCast]; omega
  ·simp only [Int.toNat_natCast]; omega
 ·exact h
theorem eraseL_whole {l : List Cl} {r c : Nat} (hg : GOk l.length r c) (h : Whole l r c) (y fr til : Int) : Whole (eraseL l c y fr til) r c := by
 unfold eraseL
 split
 ·rename_i hp
  obtain ⟨r1, c1, yy, xx, e1, rfl, _, _, _, _⟩ := gPlace_of hp
  have : c1 = c := by omega
  subst this
  refine mendL_whole (by rw [fillL_len]; exact hg) _ (fun y' hy' hne => (h y' hy').same (fun x hx => fill_other hx (y := yy) (by omega) ?_ ?_))
  ·simp only [Int.toNat_natCast]; omega
  ·simp only [Int.toNat_natCast]; unfold capC; omega
 ·exact h
theorem blankL_whole (rows cols : Int) (r c : Nat) : Whole (blankL rows cols) r c := by
 intro y hy
 refine RowW.blank (fun x hx => ?_)
 unfold blankL
 split
 ·unfold getC List.getD
  rw [List.getElem?_replicate]
  split <;> rfl
 ·rfl
def CellsR (l : List Cl) (r c : Nat) : Prop := l.length = r * c ∧ (∀ x ∈ l, cellB x = true) ∧ Whole l r c
def CellFit (c : Cl) : Prop := -2147483648 ≤ c.r ∧ c.r ≤ 2147483647 ∧ c.h < 256
def CellsRPost (l : List Cl) (r c : Nat) (w : World) (e : Ending) (w' : World) : Prop := ∃ b, e = .returned (.bool b) ∧ (b = true ↔ CellsR l r c) ∧ Below w.heap.size w w'
theorem cellsR_no {l : List Cl} {r c : Nat} {w w' : World} (h : ¬ CellsR l r c) (hb : Below w.heap.size w w') : CellsRPost l r c w (.returned (.bool false)) w' := ⟨false, rfl, by simp [h], hb⟩
def CrRel1 (l : List Cl) (w : World) (i : Value) (wr : World) : Prop := ∃ k : Nat, k ≤ l.length ∧ i = .int .i64 (k : Int) ∧ (∀ j x, j < k → l[j]? = some x → cellB x = true) ∧ Below w.heap.size w wr
theorem row_of_mend {l : List Cl} {r c y : Nat} (hg : GOk l.length r c) (hy : y < r) (h : ∀ x, x < c → getC (mendL l c y) (y * c + x) = getC l (y * c + x)) : RowW l c y := by
 intro x hx
 have e := h x hx
 rw [mendL_row hg y hy x hx] at e
 cases hb : badH l c (y * c + x) x with
 | false => rfl
 | true =>
  rw [if_pos hb] at e
  have h0 : (getC l (y * c + x)).h = 0 := by rw [← e]; rfl
  have : badH l c (y * c + x) x = false := badH_no.2 ⟨fun e1 => by omega, fun e1 => by omega⟩
  rw [this] at hb
  cases hb
theorem cl_ne {a b : Cl} (hne : a ≠ b) : ((a.r == b.r) = false) ∨ (a.r = b.r ∧ ((a.a : Int) == (b.a : Int)) = false) ∨ (a.r = b.r ∧ a.a = b.a ∧ ((a.h : Int) == (b.h : Int)) = false) := by
 by_cases e1 : a.r = b.r
 ·by_cases e2 : a.a = b.a
  ·refine .inr (.inr ⟨e1, e2, bF fun e => hne ?_⟩)
   cases a
   cases b
   simp only at e1 e2 e
   rw [e1, e2]
   congr 1
   omega
  ·exact .inr (.inl ⟨e1, bF (by omega)⟩)
 ·exact .inl (bF e1)
def vI (b : Int) : Value := .int .i64 b
def vIs (l : List Int) : List Value := l.map vI
def OI (w : World) (base : Nat) (v : Value) (l : List Int) : Prop := w.ownsRow base 3 1 v l.length (vIs l)
def IS (w : World) (B : Nat) (v : Value) (l : List Int) : Prop :=
 ∃ A c, v = .slice A l.length c ∧ l.length ≤ c ∧ c ≤ maxLen ∧
  (0 < l.length → ∃ ad, A = some ad ∧ ad.block < B ∧ ∀ j b, l[j]? = some b → w.cell? (ad.add j) = some (vI b))
theorem vIs_one (l : List Int) : ∀ u ∈ vIs l, u.oneCell' = true := by
 intro u hu
 unfold vIs at hu
 rw [List.mem_map] at hu
 obtain ⟨b, _, rfl⟩ := hu
 rfl
section
variable {w w' : World} {B B' base : Nat} {v : Value} {l : List Int}
theorem IS.keep (h : IS w B v l) (hk : ∀ p : Addr, p.block < B → w'.cell? p = w.cell? p) : IS w' B v l := by
 obtain ⟨A, c, hv, h1, h2, h3⟩ := h
 refine ⟨A, c, hv, h1, h2, fun hl => ?_⟩
 obtain ⟨ad, hA, hb, hc⟩ := h3 hl
 exact ⟨ad, hA, hb, fun j b hj => (hk _ (by rw [block_add]; exact hb)).trans (hc j b hj)⟩
theorem IS.below (h : IS w B v l) (hb : Below B w w') : IS w' B v l := h.keep fun _ hp => hb.cell hp
theorem IS.more (h : IS w B v l) (hB : B ≤ B') : IS w B' v l := by
 obtain ⟨A, c, hv, h1, h2, h3⟩ := h
 refine ⟨A, c, hv, h1, h2, fun hl => ?_⟩
 obtain ⟨ad, hA, hb, hc⟩ := h3 hl
 exact ⟨ad, hA, by omega, hc⟩
theorem IS.alloc (h : IS w B v l) (hB : B ≤ w.heap.size) (o : Obj) : IS (w.alloc o) B v l := h.keep fun p hp => World.cell?_alloc_lt w o p (by omega)
theorem IS.nil (w : World) (B : Nat) : IS w B (.slice none 0 0) [] := ⟨none, 0, rfl, by simp, by simp [maxLen], fun h => absurd h (by simp)⟩
theorem IS.at_ (h : IS w B v l) : ∃ A c, v = .slice A l.length c ∧ l.length ≤ c ∧ c ≤ maxLen ∧
  ∀ k (hk : k < l.length), ∃ ad, A = some ad ∧ w.cell? (ad.add k) = some (vI (l[k]'hk)) := by
 obtain ⟨A, c, hv, h1, h2, h3⟩ := h
 refine ⟨A, c, hv, h1, h2, fun k hk => ?_⟩
 obtain ⟨ad, hA, _, hc⟩ := h3 (by omega)
 exact ⟨ad, hA, hc k _ (List.getElem?_eq_getElem hk)⟩
theorem OI.nil (w : World) (base : Nat) : OI w base (.slice none 0 0) [] := World.ownsRow_nil w base _ _
theorem OI.bs (h : OI w base v l) : IS w w.heap.size v l := by
 unfold OI at h
 rcases h.2 with ⟨rfl, hn⟩ | ⟨g, cap, cur, rfl, hbg, hg, hnc, hcm, hcs, htake⟩
 ·have : l = [] := List.eq_nil_of_length_eq_zero hn
  subst this
  exact IS.nil w _
 ·have hlt : g < w.heap.size := by
   rcases Nat.lt_or_ge g w.heap.size with hh | hh
   ·exact hh
   ·rw [Array.getElem?_eq_none hh] at hg; cases hg
  refine ⟨_, cap, rfl, hnc, hcm, fun _ => ⟨_, rfl, hlt, fun j b hj => ?_⟩⟩
  refine h.cells (g := g) rfl j (vI b) ?_
  unfold vIs
  rw [List.getElem?_map, hj]; rfl
end
theorem IS.one (w : World) (b : Int) (t : TypeId) : IS (w.alloc (.cells #[vI b] t)) (w.heap.size + 1) (.slice (some ⟨w.heap.size, 0, none⟩) 1 1) [b] := by
 refine ⟨_, 1, rfl, by simp, by simp [maxLen], fun _ => ⟨_, rfl, by simp, fun j c hj => ?_⟩⟩
 match j, hj with
 | 0, hj =>
  simp at hj
  subst hj
  simp [Addr.add]
theorem OI.alloc {w : World} {base : Nat} {v : Value} {l : List Int} (h : OI w base v l) (o : Obj) : OI (w.alloc o) base v l := World.ownsRow.alloc h o
theorem IS.lit (w : World) (l : List Int) (n : Nat) (cs : Array Value) (t : TypeId) (hn : n = l.length) (hcs : cs = (vIs l).toArray) (hm : l.length ≤ 1048576) :
  IS (w.alloc (.cells cs t)) (w.heap.size + 1) (.slice (some ⟨w.heap.size, 0, none⟩) n n) l := by
 subst hn
 subst hcs
 refine ⟨_, _, rfl, by simp, by simp [maxLen]; omega, fun _ => ⟨_, rfl, by simp, fun j b hj => ?_⟩⟩
 have h := World.news_of_block (heap_alloc_new w (.cells (vIs l).toArray t)) j (vI b)
 exact h (by simp [vIs, hj])
theorem intInfo : (Tryz.prog.info? 3).map (fun i => (i.zero, i.size, i.bytes)) = some (some (.int .i64 0), 1, 8) := by kernel_rfl
theorem run_appI (w : World) (ty : TypeId) {base B : Nat} {v u : Value} {l m : List Int} (hown : OI w base v l) (hr : IS w B u m) (hlen : l.length + m.length ≤ 1099511627776) (hbase : base ≤ w.heap.size) :
  ∃ v' w', (Builtin.append_ #[25, 25] ty #[v, u]).run Tryz.prog w = .ok v' w' ∧ OI w' base v' (l ++ m) ∧ w.grownBy w' v.ownBlock ∧ Below base w w' ∧ (v'.ownBlock = v.ownBlock ∨ v'.ownBlock = some w.heap.size) := by
 obtain ⟨i0, hi0, hz0, hz1, hz2⟩ := info_parts intInfo
 have hlt := World.ownsRow.lt hown
 have hfin : ∀ v' w', w'.ownsRow base 3 1 v' (l.length + m.length) (vIs l ++ vIs m) → OI w' base v' (l ++ m) := by
  intro v' w' h
  unfold OI vIs
  rw [List.length_append, List.map_append]
  exact h
 obtain ⟨A, c, rfl, h1, h2, h3⟩ := hr
 rcases Nat.eq_zero_or_pos m.length with h0 | h0
 ·have hm : m = [] := List.eq_nil_of_length_eq_zero h0
  subst hm
  refine ⟨v, w, ?_, by simpa using hown, World.grownBy.refl w _, Below.refl _ _, .inl rfl⟩
  rcases hown.2 with ⟨rfl, hn⟩ | ⟨g, cap, cur, rfl, _, _, hnc, _⟩
  ·cases A <;> simp [Builtin.append_, run_underlying Tryz.underlying25, sizeOf, typeInfo, hi0, Builtin.lenOf, Builtin.firstCells, loadCells, loadCellsFrom]
  ·cases A <;> simp [Builtin.append_, run_underlying Tryz.underlying25, sizeOf, typeInfo, hi0, Builtin.lenOf, Builtin.firstCells, hnc, storeCells, loadCells, loadCellsFrom]
 ·obtain ⟨ad, rfl, hb, hc⟩ := h3 h0
  obtain ⟨v', w', hrun, h4, h5, _, h6⟩ := run_append_own_at (P := Tryz.prog) w base 25 ty 3 i0 _ 1 8 Tryz.underlying25 hi0 hz0 hz1 hz2 rfl (by omega) v l.length (vIs l) hown ad m.length c (vIs m) (by simp [vIs])
   (fun j u hj => by
    unfold vIs at hj
    rw [List.getElem?_map] at hj
    cases hmj : m[j]? with
    | none => rw [hmj] at hj; cases hj
    | some b =>
     rw [hmj] at hj
     simp only [Option.map_some, Option.some.injEq] at hj
     subst hj
     exact hc j b hmj)
   (vIs_one m) (by simp only [maxLen]; omega) (by omega) hbase
  exact ⟨v', w', hrun, hfin v' w' h4, h5, (Below.refl _ _).grown h5 hbase (fun k hk => (hlt k hk).1), h6⟩
theorem wpl_appI (w : World) {ops : Array Oper} {rest : List Oper} {o : Oper} {a : Act} {Q : Exit → Act → World → Prop} (hgd : o.guard = none) (s x : Operand)
  (ho : o.op = .call { callee := .builtin .append, args := #[s, x], argTypes := #[25, 25] })
  (base B : Nat) (v u : Value) (l m : List Int) (hs : a.eval s = v) (hx : a.eval x = u) (hown : OI w base v l) (hr : IS w B u m) (hlen : l.length + m.length ≤ 1099511627776) (hbase : base ≤ w.heap.size)
  (h : ∀ v' w', OI w' base v' (l ++ m) → w.grownBy w' v.ownBlock → Below base w w' → (v'.ownBlock = v.ownBlock ∨ v'.ownBlock = some w.heap.size) → wpList Tryz.prog ops Q rest (a.put o.dst v') w') :
  wpList Tryz.prog ops Q (o :: rest) a w := by
 refine wpList_plain hgd fun K hK => ?_
 obtain ⟨v', w', hrun, h2, h3, h4, h5⟩ := run_appI w o.type hown hr hlen hbase
 unfold Oper.wp execOp
 simp only [ho, resolve, invoke, builtin, Sem.run_bind, Sem.run_pure, Result.andThen_ok, List.map_toArray, List.map_cons, List.map_nil, hs, hx, hrun]
 exact hK _ _ (h v' w' h2 h3 h4 h5)
def WholePost (q : List UInt8) (w : World) (e : Ending) (w' : World) : Prop :=
 w = w' ∧ ((∃ r, wholeL q = some r ∧ e = .returned (.tuple #[.int .i32 (r : Int), .bool true])) ∨ (wholeL q = none ∧ ∃ r : Int, e = .returned (.tuple #[.int .i32 r, .bool false])))
theorem whole2_yes (a b : UInt8) (h0 : 194 ≤ a.toNat) (h1 : a.toNat < 224) (hc : contB b = true) : wholeL [a, b] = some ((a.toNat - 192) * 64 + (b.toNat - 128)) := by
 simp only [wholeL]
 rw [if_pos (by simp [hc]; omega)]
theorem whole2_no (a b : UInt8) (h : 224 ≤ a.toNat ∨ contB b = false) : wholeL [a, b] = none := by
 simp only [wholeL]
 rw [if_neg]
 intro hh
 simp at hh
 rcases h with h | h
 ·omega
 ·rw [h] at hh; simp at hh
theorem m63 (b : UInt8) (h : contB b = true) : bits .and .u8 (b.toNat : Int) 63 = ((b.toNat - 128 : Nat) : Int) := by
 rw [contB_iff] at h
 rw [u8_and63 _ (by omega) (by omega)]
 omega
theorem whole3_yes (a b c : UInt8) (h0 : 224 ≤ a.toNat) (h1 : a.toNat < 240) (hs : secB a b = true) (hc : contB c = true) : wholeL [a, b, c] = some ((a.toNat - 224) * 4096 + (b.toNat - 128) * 64 + (c.toNat - 128)) := by
 simp only [wholeL]
 rw [if_pos (by simp [hs, hc]; omega)]
theorem whole3_no (a b c : UInt8) (h : 240 ≤ a.toNat ∨ contB c = false) : wholeL [a, b, c] = none := by
 simp only [wholeL]
 rw [if_neg]
 intro hh
 simp at hh
 rcases h with h | h
 ·omega
 ·rw [h] at hh; simp at hh
theorem whole4_yes (a b c d : UInt8) (h0 : 240 ≤ a.toNat) (h1 : a.toNat ≤ 244) (hs : secB a b = true) (hc : contB c = true) (hd : contB d = true) : wholeL [a, b, c, d] = some ((a.toNat - 240) * 262144 + (b.toNat - 128) * 4096 + (c.toNat - 128) * 64 + (d.toNat - 128)) := by
 simp only [wholeL]
 rw [if_pos (by simp [hs, hc, hd]; omega)]
theorem whole4_no (a b c d : UInt8) (h : contB d = false) : wholeL [a, b, c, d] = none := by
 simp only [wholeL]
 rw [if_neg]
 intro hh
 simp [h] at hh
theorem or6n (m v R : Nat) (h0 : m < 1000000) (h1 : v < 64) (hR : m * 64 + v = R) : bits .or .i32 ((m : Int) * 64) (v : Int) = (R : Int) := by
 rw [i32_or6 _ _ (by omega) (by omega) (by omega) (by omega) (by omega)]
 omega
theorem may_ok (r : Nat) (h : r < 1114112) (h2 : r < 55296 ∨ 57343 < r) : mayR (r : Int) = true := mayR_true (by omega) (by omega) (by omega)
theorem secB_cont (a b : UInt8) (h : secB a b = true) : contB b = true := by
 rw [secB_iff] at h
 have h1 := lo_ge a.toNat
 have h2 := hiB_le a.toNat
 rw [contB_iff]
 omega
theorem sec3_ok (a b c : UInt8) (R : Nat) (h0 : 224 ≤ a.toNat) (h1 : a.toNat < 240) (hs : secB a b = true) (hc : contB c = true) (hR : (a.toNat - 224) * 4096 + (b.toNat - 128) * 64 + (c.toNat - 128) = R) : 2048 ≤ R ∧ R < 1114112 ∧ (R < 55296 ∨ 57343 < R) := by
 rw [secB_iff] at hs
 rw [contB_iff] at hc
 have l1 := lo_ge a.toNat
 have l2 := hiB_le a.toNat
 by_cases e1 : a.toNat = 224
 ·have : loB a.toNat = 160 := by rw [e1]; rfl
  omega
 by_cases e2 : a.toNat = 237
 ·have : hiB a.toNat = 159 := by rw [e2]; rfl
  omega
 omega
theorem sec4_ok (a b c d : UInt8) (R : Nat) (h0 : 240 ≤ a.toNat) (h1 : a.toNat ≤ 244) (hs : secB a b = true) (hc : contB c = true) (hd : contB d = true) (hR : (a.toNat - 240) * 262144 + (b.toNat - 128) * 4096 + (c.toNat - 128) * 64 + (d.toNat - 128) = R) : 65536 ≤ R ∧ R < 1114112 := by
 rw [secB_iff] at hs
 rw [contB_iff] at hc hd
 have l1 := lo_ge a.toNat
 have l2 := hiB_le a.toNat
 by_cases e1 : a.toNat = 240
 ·have : loB a.toNat = 144 := by rw [e1]; rfl
  omega
 by_cases e2 : a.toNat = 244
 ·have : hiB a.toNat = 143 := by rw [e2]; rfl
  omega
 omega
def Wh2 (m R : Nat) (r i : Value) : Prop := ∃ k : Nat, i = .int .i64 (k : Int) ∧ ((k = 1 ∧ r = .int .i32 (m : Int)) ∨ (k = 2 ∧ r = .int .i32 (R : Int)))
def Wh3 (m R2 R : Nat) (r i : Value) : Prop := ∃ k : Nat, i = .int .i64 (k : Int) ∧ ((k = 1 ∧ r = .int .i32 (m : Int)) ∨ (k = 2 ∧ r = .int .i32 (R2 : Int)) ∨ (k = 3 ∧ r = .int .i32 (R : Int)))
def Wh4 (m R2 R3 R : Nat) (r i : Value) : Prop := ∃ k : Nat, i = .int .i64 (k : Int) ∧ ((k = 1 ∧ r = .int .i32 (m : Int)) ∨ (k = 2 ∧ r = .int .i32 (R2 : Int)) ∨ (k = 3 ∧ r = .int .i32 (R3 : Int)) ∨ (k = 4 ∧ r = .int .i32 (R : Int)))
theorem wholer2_yes (ad : Addr) (cp : Nat) (a b : UInt8) (x : Nat) (w : World) (ca : w.cell? ad = some (.int .u8 (x : Int))) (cb : w.cell? ⟨ad.block, ad.off + 1, none⟩ = some (.int .u8 (b.toNat : Int))) (HX : Hid (a.toNat = x)) (h0 : 194 ≤ x) (h1 : x < 224) (hc : contB b = true) :
  Calls Tryz.prog 94 #[.slice (some ad) 2 cp] w (WholePost [a, b] w) := by
 have d1 : 192 ≤ (x : Int) := by omega
 have d2 : (x : Int) < 224 := by omega
 have HW : Hid (wholeL [a, b] = some ((x - 192) * 64 + (b.toNat - 128))) := by
  have := whole2_yes a b (by rw [HX.out]; exact h0) (by rw [HX.out]; exact h1) hc
  rw [HX.out] at this
  exact this
 have e1 : bits .and .u8 (x : Int) 31 = ((x - 192 : Nat) : Int) := by rw [u8_and31 _ (by omega) (by omega)]; omega
 have e2 := m63 b hc
 have e3 := contB_yes b hc
 rw [contB_iff] at hc
 obtain ⟨m, hm⟩ : ∃ m, x - 192 = m := ⟨_, rfl⟩
 obtain ⟨v, hv⟩ : ∃ v, b.toNat - 128 = v := ⟨_, rfl⟩
 obtain ⟨R, hR⟩ : ∃ R, m * 64 + v = R := ⟨_, rfl⟩
 rw [hm, hv, hR] at HW
 have hm1 : 2 ≤ m := by omega
 have hm2 : m < 32 := by omega
 have hv1 : v < 64 := by omega
 have e4 := or6n m v R (by omega) hv1 hR
 have r1 : 128 ≤ (R : Int) := by omega
 have hmay := may_ok R (by omega) (by omega)
 have r2 : R < 2048 := by omega
 rw [hm] at e1
 rw [hv] at e2
 clear hm hv hc hR
 go_enter Tryz.func94, Tryz.ntmps94
 go_wp2
 go_loop [7, 8] (fun r i => Wh2 m R r i) (fun _ i => 2 - (intOf i).toNat)
 case atStart => exact ⟨1, rfl, .inl ⟨rfl, rfl⟩⟩
 case round =>
  obtain ⟨k, rfl, hk⟩ := hrel
  rcases hk with ⟨rfl, rfl⟩ | ⟨rfl, rfl⟩
  ·go_wp2
   go_round
   case rel => exact ⟨2, rfl, .inr ⟨rfl, rfl⟩⟩
   case measure => simp [intOf]
  ·go_wp2_with (go_at_call 89; (with_reducible refine (mayr_any (R : Int) (by omega) (by omega) _).mono ?_); rintro e w' ⟨rfl, rfl⟩; rw [hmay])
   go_ret2
   exact ⟨rfl, .inl ⟨R, HW.out, rfl⟩⟩
theorem wholer2_no (ad : Addr) (cp : Nat) (a b : UInt8) (x : Nat) (w : World) (ca : w.cell? ad = some (.int .u8 (x : Int))) (cb : w.cell? ⟨ad.block, ad.off + 1, none⟩ = some (.int .u8 (b.toNat : Int))) (HX : Hid (a.toNat = x)) (h0 : 194 ≤ x) (h1 : x < 224) (hc : contB b = false) :
  Calls Tryz.prog 94 #[.slice (some ad) 2 cp] w (WholePost [a, b] w) := by
 have d1 : 192 ≤ (x : Int) := by omega
 have d2 : (x : Int) < 224 := by omega
 have HW : Hid (wholeL [a, b] = none) := whole2_no a b (.inr hc)
 have e1 : bits .and .u8 (x : Int) 31 = ((x - 192 : Nat) : Int) := by rw [u8_and31 _ (by omega) (by omega)]; omega
 have e3 := contB_no b hc
 obtain ⟨m, hm⟩ : ∃ m, x - 192 = m := ⟨_, rfl⟩
 rw [hm] at e1
 clear hm hc
 go_enter Tryz.func94, Tryz.ntmps94
 go_wp2
 go_loop [7, 8] (fun r i => i = .int .i64 1) (fun _ i => 2 - (intOf i).toNat)
 case atStart => rfl
 case round =>
  obtain rfl := hrel
  go_wp2
  go_ret2
  exact ⟨rfl, .inr ⟨HW.out, 0, rfl⟩⟩
theorem wholer2_3 (ad : Addr) (cp : Nat) (a b : UInt8) (x : Nat) (w : World) (ca : w.cell? ad = some (.int .u8 (x : Int))) (cb : w.cell? ⟨ad.block, ad.off + 1, none⟩ = some (.int .u8 (b.toNat : Int))) (HX : Hid (a.toNat = x)) (h0 : 224 ≤ x) (h1 : x < 240) :
  Calls Tryz.prog 94 #[.slice (some ad) 2 cp] w (WholePost [a, b] w) := by
 have d1 : 192 ≤ (x : Int) := by omega
 have d2 : decide ((x : Int) < 224) = false := by simp; omega
 have d3 : 224 ≤ (x : Int) := by omega
 have d4 : (x : Int) < 240 := by omega
 have HW : Hid (wholeL [a, b] = none) := whole2_no a b (.inl (by rw [HX.out]; exact h0))
 go_enter Tryz.func94, Tryz.ntmps94
 go_wp2
 go_ret2
 exact ⟨rfl, .inr ⟨HW.out, 0, rfl⟩⟩
theorem wholer2_4 (ad : Addr) (cp : Nat) (a b : UInt8) (x : Nat) (w : World) (ca : w.cell? ad = some (.int .u8 (x : Int))) (cb : w.cell? ⟨ad.block, ad.off + 1, none⟩ = some (.int .u8 (b.toNat : Int))) (HX : Hid (a.toNat = x)) (h0 : 240 ≤ x) (h1 : x ≤ 244) :
  Calls Tryz.prog 94 #[.slice (some ad) 2 cp] w (WholePost [a, b] w) := by
 have d1 : 192 ≤ (x : Int) := by omega
 have d2 : decide ((x : Int) < 224) = false := by simp; omega
 have d3 : 224 ≤ (x : Int) := by omega
 have d4 : decide ((x : Int) < 240) = false := by simp; omega
 have d5 : 240 ≤ (x : Int) := by omega
 have d6 : (x : Int) < 248 := by omega
 have HW : Hid (wholeL [a, b] = none) := whole2_no a b (.inl (by rw [HX.out]; omega))
 go_enter Tryz.func94, Tryz.ntmps94
 go_wp2
 go_ret2
 exact ⟨rfl, .inr ⟨HW.out, 0, rfl⟩⟩
theorem wholer3_yes (ad : Addr) (cp : Nat) (a b c : UInt8) (x : Nat) (w : World) (ca : w.cell? ad = some (.int .u8 (x : Int))) (cb : w.cell? ⟨ad.block, ad.off + 1, none⟩ = some (.int .u8 (b.toNat : Int))) (cc : w.cell? ⟨ad.block, ad.off + 2, none⟩ = some (.int .u8 (c.toNat : Int))) (HX : Hid (a.toNat = x)) (h0 : 224 ≤ x) (h1 : x < 240) (hs : secB a b = true) (hc : contB c = true) :
  Calls Tryz.prog 94 #[.slice (some ad) 3 cp] w (WholePost [a, b, c] w) := by
 have d1 : 192 ≤ (x : Int) := by omega
 have d2 : decide ((x : Int) < 224) = false := by simp; omega
 have d3 : 224 ≤ (x : Int) := by omega
 have d4 : (x : Int) < 240 := by omega
 have HW : Hid (wholeL [a, b, c] = some ((x - 224) * 4096 + (b.toNat - 128) * 64 + (c.toNat - 128))) := by
  have := whole3_yes a b c (by rw [HX.out]; exact h0) (by rw [HX.out]; exact h1) hs hc
  rw [HX.out] at this
  exact this
 have hok := sec3_ok a b c _ (by rw [HX.out]; exact h0) (by rw [HX.out]; exact h1) hs hc rfl
 rw [HX.out] at hok
 have hb := secB_cont a b hs
 have e1 : bits .and .u8 (x : Int) 15 = ((x - 224 : Nat) : Int) := by rw [u8_and15 _ (by omega) (by omega)]; omega
 have e2 := m63 b hb
 have e3 := contB_yes b hb
 have e5 := m63 c hc
 have e6 := contB_yes c hc
 rw [contB_iff] at hc hb
 obtain ⟨m, hm⟩ : ∃ m, x - 224 = m := ⟨_, rfl⟩
 obtain ⟨v, hv⟩ : ∃ v, b.toNat - 128 = v := ⟨_, rfl⟩
 obtain ⟨u, hu⟩ : ∃ u, c.toNat - 128 = u := ⟨_, rfl⟩
 obtain ⟨R2, hR2⟩ : ∃ R, m * 64 + v = R := ⟨_, rfl⟩
 obtain ⟨R, hR⟩ : ∃ R, R2 * 64 + u = R := ⟨_, rfl⟩
 rw [hm, hv, hu] at HW hok
 rw [show m * 4096 + v * 64 + u = R by omega] at HW hok
 have hm2 : m < 16 := by omega
 have hv1 : v < 64 := by omega
 have hu1 : u < 64 := by omega
 have e4 := or6n m v R2 (by omega) hv1 hR2
 have e7 := or6n R2 u R (by omega) hu1 hR
 have r1 : 2048 ≤ (R : Int) := by omega
 have hmay := may_ok R hok.2.1 hok.2.2
 have r2 : R < 65536 := by omega
 have r3 : R2 < 1024 := by omega
 rw [hm] at e1
 rw [hv] at e2
 rw [hu] at e5
 clear hm hv hu hc hb hR hR2 hok hs
 go_enter Tryz.func94, Tryz.ntmps94
 go_wp2
 go_loop [7, 8] (fun r i => Wh3 m R2 R r i) (fun _ i => 3 - (intOf i).toNat)
 case atStart => exact ⟨1, rfl, .inl ⟨rfl, rfl⟩⟩
 case round =>
  obtain ⟨k, rfl, hk⟩ := hrel
  rcases hk with ⟨rfl, rfl⟩ | ⟨rfl, rfl⟩ | ⟨rfl, rfl⟩
  ·go_wp2
   go_round
   case rel => exact ⟨2, rfl, .inr (.inl ⟨rfl, rfl⟩)⟩
   case measure => simp [intOf]
  ·go_wp2
   go_round
   case rel => exact ⟨3, rfl, .inr (.inr ⟨rfl, rfl⟩)⟩
   case measure => simp [intOf]
  ·go_wp2_with (go_at_call 89; (with_reducible refine (mayr_any (R : Int) (by omega) (by omega) _).mono ?_); rintro e w' ⟨rfl, rfl⟩; rw [hmay])
   go_ret2
   exact ⟨rfl, .inl ⟨R, HW.out, rfl⟩⟩
theorem wholer3_no (ad : Addr) (cp : Nat) (a b c : UInt8) (x : Nat) (w : World) (ca : w.cell? ad = some (.int .u8 (x : Int))) (cb : w.cell? ⟨ad.block, ad.off + 1, none⟩ = some (.int .u8 (b.toNat : Int))) (cc : w.cell? ⟨ad.block, ad.off + 2, none⟩ = some (.int .u8 (c.toNat : Int))) (HX : Hid (a.toNat = x)) (h0 : 224 ≤ x) (h1 : x < 240) (hs : secB a b = true) (hc : contB c = false) :
  Calls Tryz.prog 94 #[.slice (some ad) 3 cp] w (WholePost [a, b, c] w) := by
 have d1 : 192 ≤ (x : Int) := by omega
 have d2 : decide ((x : Int) < 224) = false := by simp; omega
 have d3 : 224 ≤ (x : Int) := by omega
 have d4 : (x : Int) < 240 := by omega
 have HW : Hid (wholeL [a, b, c] = none) := whole3_no a b c (.inr hc)
 have hb := secB_cont a b hs
 have e1 : bits .and .u8 (x : Int) 15 = ((x - 224 : Nat) : Int) := by rw [u8_and15 _ (by omega) (by omega)]; omega
 have e2 := m63 b hb
 have e3 := contB_yes b hb
 have e6 := contB_no c hc
 rw [contB_iff] at hb
 obtain ⟨m, hm⟩ : ∃ m, x - 224 = m := ⟨_, rfl⟩
 obtain ⟨v, hv⟩ : ∃ v, b.toNat - 128 = v := ⟨_, rfl⟩
 obtain ⟨R2, hR2⟩ : ∃ R, m * 64 + v = R := ⟨_, rfl⟩
 have hm2 : m < 16 := by omega
 have hv1 : v < 64 := by omega
 have e4 := or6n m v R2 (by omega) hv1 hR2
 rw [hm] at e1
 rw [hv] at e2
 clear hm hv hc hb hR2 hs
 go_enter Tryz.func94, Tryz.ntmps94
 go_wp2
 go_loop [7, 8] (fun r i => Wh2 m R2 r i) (fun _ i => 3 - (intOf i).toNat)
 case atStart => exact ⟨1, rfl, .inl ⟨rfl, rfl⟩⟩
 case round =>
  obtain ⟨k, rfl, hk⟩ := hrel
  rcases hk with ⟨rfl, rfl⟩ | ⟨rfl, rfl⟩
  ·go_wp2
   go_round
   case rel => exact ⟨2, rfl, .inr ⟨rfl, rfl⟩⟩
   case measure => simp [intOf]
  ·go_wp2
   go_ret2
   exact ⟨rfl, .inr ⟨HW.out, 0, rfl⟩⟩
theorem wholer3_4 (ad : Addr) (cp : Nat) (a b c : UInt8) (x : Nat) (w : World) (ca : w.cell? ad = some (.int .u8 (x : Int))) (cb : w.cell? ⟨ad.block, ad.off + 1, none⟩ = some (.int .u8 (b.toNat : Int))) (cc : w.cell? ⟨ad.block, ad.off + 2, none⟩ = some (.int .u8 (c.toNat : Int))) (HX : Hid (a.toNat = x)) (h0 : 240 ≤ x) (h1 : x ≤ 244) :
  Calls Tryz.prog 94 #[.slice (some ad) 3 cp] w (WholePost [a, b, c] w) := by
 have d1 : 192 ≤ (x : Int) := by omega
 have d2 : decide ((x : Int) < 224) = false := by simp; omega
 have d3 : 224 ≤ (x : Int) := by omega
 have d4 : decide ((x : Int) < 240) = false := by simp; omega
 have d5 : 240 ≤ (x : Int) := by omega
 have d6 : (x : Int) < 248 := by omega
 have HW : Hid (wholeL [a, b, c] = none) := whole3_no a b c (.inl (by rw [HX.out]; exact h0))
 go_enter Tryz.func94, Tryz.ntmps94
 go_wp2
 go_ret2
 exact ⟨rfl, .inr ⟨HW.out, 0, rfl⟩⟩
theorem wholer4_yes (ad : Addr) (cp : Nat) (a b c d : UInt8) (x : Nat) (w : World) (ca : w.cell? ad = some (.int .u8 (x : Int))) (cb : w.cell? ⟨ad.block, ad.off + 1, none⟩ = some (.int .u8 (b.toNat : Int))) (cc : w.cell? ⟨ad.block, ad.off + 2, none⟩ = some (.int .u8 (c.toNat : Int))) (cd : w.cell? ⟨ad.block, ad.off + 3, none⟩ = some (.int .u8 (d.toNat : Int))) (HX : Hid (a.toNat = x)) (h0 : 240 ≤ x) (h1 : x ≤ 244) (hs : secB a b = true) (hc : contB c = true) (hd : contB d = true) :
  Calls Tryz.prog 94 #[.slice (some ad) 4 cp] w (WholePost [a, b, c, d] w) := by
 have d1 : 192 ≤ (x : Int) := by omega
 have d2 : decide ((x : Int) < 224) = false := by simp; omega
 have d3 : 224 ≤ (x : Int) := by omega
 have d4 : decide ((x : Int) < 240) = false := by simp; omega
 have d5 : 240 ≤ (x : Int) := by omega
 have d6 : (x : Int) < 248 := by omega
 have HW : Hid (wholeL [a, b, c, d] = some ((x - 240) * 262144 + (b.toNat - 128) * 4096 + (c.toNat - 128) * 64 + (d.toNat - 128))) := by
  have := whole4_yes a b c d (by rw [HX.out]; exact h0) (by rw [HX.out]; exact h1) hs hc hd
  rw [HX.out] at this
  exact this
 have hok := sec4_ok a b c d _ (by rw [HX.out]; exact h0) (by rw [HX.out]; exact h1) hs hc hd rfl
 rw [HX.out] at hok
 have hb := secB_cont a b hs
 have e1 : bits .and .u8 (x : Int) 7 = ((x - 240 : Nat) : Int) := by rw [u8_and7 _ (by omega) (by omega)]; omega
 have e2 := m63 b hb
 have e3 := contB_yes b hb
 have e5 := m63 c hc
 have e6 := contB_yes c hc
 have e8 := m63 d hd
 have e9 := contB_yes d hd
 rw [contB_iff] at hc hb hd
 obtain ⟨m, hm⟩ : ∃ m, x - 240 = m := ⟨_, rfl⟩
 obtain ⟨v, hv⟩ : ∃ v, b.toNat - 128 = v := ⟨_, rfl⟩
 obtain ⟨u, hu⟩ : ∃ u, c.toNat - 128 = u := ⟨_, rfl⟩
 obtain ⟨t, ht⟩ : ∃ t, d.toNat - 128 = t := ⟨_, rfl⟩
 obtain ⟨R2, hR2⟩ : ∃ R, m * 64 + v = R := ⟨_, rfl⟩
 obtain ⟨R3, hR3⟩ : ∃ R, R2 * 64 + u = R := ⟨_, rfl⟩
 obtain ⟨R, hR⟩ : ∃ R, R3 * 64 + t = R := ⟨_, rfl⟩
 rw [hm, hv, hu, ht] at HW hok
 rw [show m * 262144 + v * 4096 + u * 64 + t = R by omega] at HW hok
 have hm2 : m < 8 := by omega
 have hv1 : v < 64 := by omega
 have hu1 : u < 64 := by omega
 have ht1 : t < 64 := by omega
 have e4 := or6n m v R2 (by omega) hv1 hR2
 have e7 := or6n R2 u R3 (by omega) hu1 hR3
 have e10 := or6n R3 t R (by omega) ht1 hR
 have r1 : 65536 ≤ (R : Int) := by omega
 have hmay := may_ok R hok.2 (.inr (by omega))
 have r2 : R < 1114112 := hok.2
 have r3 : R2 < 1024 := by omega
 have r4 : R3 < 65536 := by omega
 rw [hm] at e1
 rw [hv] at e2
 rw [hu] at e5
 rw [ht] at e8
 clear hm hv hu ht hc hb hd hR hR2 hR3 hok hs
 go_enter Tryz.func94, Tryz.ntmps94
 go_wp2
 go_loop [7, 8] (fun r i => Wh4 m R2 R3 R r i) (fun _ i => 4 - (intOf i).toNat)
 case atStart => exact ⟨1, rfl, .inl ⟨rfl, rfl⟩⟩
 case round =>
  obtain ⟨k, rfl, hk⟩ := hrel
  rcases hk with ⟨rfl, rfl⟩ | ⟨rfl, rfl⟩ | ⟨rfl, rfl⟩ | ⟨rfl, rfl⟩
  ·go_wp2
   go_round
   case rel => exact ⟨2, rfl, .inr (.inl ⟨rfl, rfl⟩)⟩
   case measure => simp [intOf]
  ·go_wp2
   go_round
   case rel => exact ⟨3, rfl, .inr (.inr (.inl ⟨rfl, rfl⟩))⟩
   case measure => simp [intOf]
  ·go_wp2
   go_round
   case rel => exact ⟨4, rfl, .inr (.inr (.inr ⟨rfl, rfl⟩))⟩
   case measure => simp [intOf]
  ·go_wp2_with (go_at_call 89; (with_reducible refine (mayr_any (R : Int) (by omega) (by omega) _).mono ?_); rintro e w' ⟨rfl, rfl⟩; rw [hmay])
   go_ret2
   exact ⟨rfl, .inl ⟨R, HW.out, rfl⟩⟩
theorem wholer4_no (ad : Addr) (cp : Nat) (a b c d : UInt8) (x : Nat) (w : World) (ca : w.cell? ad = some (.int .u8 (x : Int))) (cb : w.cell? ⟨ad.block, ad.off + 1, none⟩ = some (.int .u8 (b.toNat : Int))) (cc : w.cell? ⟨ad.block, ad.off + 2, none⟩ = some (.int .u8 (c.toNat : Int))) (cd : w.cell? ⟨ad.block, ad.off + 3, none⟩ = some (.int .u8 (d.toNat : Int))) (HX : Hid (a.toNat = x)) (h0 : 240 ≤ x) (h1 : x ≤ 244) (hs : secB a b = true) (hc : contB c = true) (hd : contB d = false) :
  Calls Tryz.prog 94 #[.slice (some ad) 4 cp] w (WholePost [a, b, c, d] w) := by
 have d1 : 192 ≤ (x : Int) := by omega
 have d2 : decide ((x : Int) < 224) = false := by simp; omega
 have d3 : 224 ≤ (x : Int) := by omega
 have d4 : decide ((x : Int) < 240) = false := by simp; omega
 have d5 : 240 ≤ (x : Int) := by omega
 have d6 : (x : Int) < 248 := by omega
 have HW : Hid (wholeL [a, b, c, d] = none) := whole4_no a b c d hd
 have hb := secB_cont a b hs
 have e1 : bits .and .u8 (x : Int) 7 = ((x - 240 : Nat) : Int) := by rw [u8_and7 _ (by omega) (by omega)]; omega
 have e2 := m63 b hb
 have e3 := contB_yes b hb
 have e5 := m63 c hc
 have e6 := contB_yes c hc
 have e9 := contB_no d hd
 rw [contB_iff] at hc hb
 obtain ⟨m, hm⟩ : ∃ m, x - 240 = m := ⟨_, rfl⟩
 obtain ⟨v, hv⟩ : ∃ v, b.toNat - 128 = v := ⟨_, rfl⟩
 obtain ⟨u, hu⟩ : ∃ u, c.toNat - 128 = u := ⟨_, rfl⟩
 obtain ⟨R2, hR2⟩ : ∃ R, m * 64 + v = R := ⟨_, rfl⟩
 obtain ⟨R3, hR3⟩ : ∃ R, R2 * 64 + u = R := ⟨_, rfl⟩
 have hm2 : m < 8 := by omega
 have hv1 : v < 64 := by omega
 have hu1 : u < 64 := by omega
 have e4 := or6n m v R2 (by omega) hv1 hR2
 have e7 := or6n R2 u R3 (by omega) hu1 hR3
 have r3 : R2 < 1024 := by omega
 rw [hm] at e1
 rw [hv] at e2
 rw [hu] at e5
 clear hm hv hu hc hb hd hR2 hR3 hs
 go_enter Tryz.func94, Tryz.ntmps94
 go_wp2
 go_loop [7, 8] (fun r i => Wh3 m R2 R3 r i) (fun _ i => 4 - (intOf i).toNat)
 case atStart => exact ⟨1, rfl, .inl ⟨rfl, rfl⟩⟩
 case round =>
  obtain ⟨k, rfl, hk⟩ := hrel
  rcases hk with ⟨rfl, rfl⟩ | ⟨rfl, rfl⟩ | ⟨rfl, rfl⟩
  ·go_wp2
   go_round
   case rel => exact ⟨2, rfl, .inr (.inl ⟨rfl, rfl⟩)⟩
   case measure => simp [intOf]
  ·go_wp2
   go_round
   case rel => exact ⟨3, rfl, .inr (.inr ⟨rfl, rfl⟩)⟩
   case measure => simp [intOf]
  ·go_wp2
   go_ret2
   exact ⟨rfl, .inr ⟨HW.out, 0, rfl⟩⟩
theorem wholer_any (v : Value) (p : List UInt8) (b : UInt8) (B : Nat) (w : World) (hv : BS w B v (p ++ [b])) (hp : beginsL p = true) : Calls Tryz.prog 94 #[v] w (WholePost (p ++ [b]) w) := by
 match p, hp, hv with
 | [a], hp, hv =>
  rw [beg1_iff] at hp
  obtain ⟨ad, cp, rfl, _, _, ca, hcs⟩ := hv.lits
  have cb := hcs 0 b rfl
  obtain ⟨x, hx⟩ : ∃ x, a.toNat = x := ⟨_, rfl⟩
  rw [hx] at ca hp
  have HX : Hid (a.toNat = x) := hx
  by_cases h1 : x < 224
  ·cases hc : contB b
   ·exact wholer2_no ad cp a b x w ca cb HX hp.1 h1 hc
   ·exact wholer2_yes ad cp a b x w ca cb HX hp.1 h1 hc
  by_cases h2 : x < 240
  ·exact wholer2_3 ad cp a b x w ca cb HX (by omega) h2
  ·exact wholer2_4 ad cp a b x w ca cb HX (by omega) hp.2
 | [a, b0], hp, hv =>
  have hs : secB a b0 = true := by rw [secB_iff]; rw [beg2_iff] at hp; exact hp.2.2
  rw [beg2_iff] at hp
  obtain ⟨ad, cp, rfl, _, _, ca, hcs⟩ := hv.lits
  have cb := hcs 0 b0 rfl
  have cc := hcs 1 b rfl
  obtain ⟨x, hx⟩ : ∃ x, a.toNat = x := ⟨_, rfl⟩
  rw [hx] at ca hp
  have HX : Hid (a.toNat = x) := hx
  by_cases h1 : x < 240
  ·cases hc : contB b
   ·exact wholer3_no ad cp a b0 b x w ca cb cc HX hp.1 h1 hs hc
   ·exact wholer3_yes ad cp a b0 b x w ca cb cc HX hp.1 h1 hs hc
  ·exact wholer3_4 ad cp a b0 b x w ca cb cc HX (by omega) hp.2.1
 | [a, b0, c0], hp, hv =>
  have hs : secB a b0 = true := by rw [secB_iff]; rw [beg3_iff] at hp; exact ⟨hp.2.2.1, hp.2.2.2.1⟩
  rw [beg3_iff] at hp
  obtain ⟨ad, cp, rfl, _, _, ca, hcs⟩ := hv.lits
  have cb := hcs 0 b0 rfl
  have cc := hcs 1 c0 rfl
  have cd := hcs 2 b rfl
  obtain ⟨x, hx⟩ : ∃ x, a.toNat = x := ⟨_, rfl⟩
  rw [hx] at ca hp
  have HX : Hid (a.toNat = x) := hx
  cases hd : contB b
  ·exact wholer4_no ad cp a b0 c0 b x w ca cb cc cd HX hp.1 hp.2.1 hs hp.2.2.2.2 hd
  ·exact wholer4_yes ad cp a b0 c0 b x w ca cb cc cd HX hp.1 hp.2.1 hs hp.2.2.2.2 hd
def ints (l : List Nat) : List Int := List.map (fun n : Nat => Int.ofNat n) l
def BN (w : World) (lo : Nat) (v : Value) (l : List UInt8) : Prop := BS w w.heap.size v l ∧ ∀ ad n c, v = .slice (some ad) n c → 0 < l.length → lo ≤ ad.block
theorem BN.nil (w : World) (lo : Nat) : BN w lo (.slice none 0 0) [] := ⟨BS.nil _ _, fun _ _ _ h => by cases h⟩
theorem OB.bn {w : World} {base : Nat} {v : Value} {l : List UInt8} (h : OB w base v l) : BN w base v l := by
 refine ⟨h.bs, fun ad n c hv _ => ?_⟩
 subst hv
 exact (World.ownsRow.lt h ad.block rfl).1
def StepPost (p : List UInt8) (b : UInt8) (w : World) (e : Ending) (w' : World) : Prop :=
 ∃ v1 v2, e = .returned (.tuple #[v1, v2]) ∧ BN w' w.heap.size v1 (stepL p b).1 ∧ RS w' w'.heap.size v2 (ints (stepL p b).2) ∧ Below w.heap.size w w'
theorem stepPost_of {p : List UInt8} {b : UInt8} {w w' : World} {v1 v2 : Value} {q : List UInt8} {o : List Nat} (h : stepL p b = (q, o)) (h1 : BN w' w.heap.size v1 q) (h2 : RS w' w'.heap.size v2 (ints o)) (h3 : Below w.heap.size w w') :
  StepPost p b w (.returned (.tuple #[v1, v2])) w' := ⟨v1, v2, rfl, by rw [h]; exact h1, by rw [h]; exact h2, h3⟩
theorem stepL_no (p : List UInt8) (b : UInt8) (h : beginsL p = false) : stepL p b = firstL b [] := by simp [stepL, h]
theorem stepL_some (p : List UInt8) (b : UInt8) (r : Nat) (h : beginsL p = true) (hw : wholeL (p ++ [b]) = some r) : stepL p b = ([], [r]) := by simp [stepL, h, hw]
theorem stepL_pends (p : List UInt8) (b : UInt8) (h : beginsL p = true) (hw : wholeL (p ++ [b]) = none) (hq : beginsL (p ++ [b]) = true) : stepL p b = (p ++ [b], []) := by simp [stepL, h, hw, hq]
theorem stepL_breaks (p : List UInt8) (b : UInt8) (h : beginsL p = true) (hw : wholeL (p ++ [b]) = none) (hq : beginsL (p ++ [b]) = false) : stepL p b = firstL b [65533] := by simp [stepL, h, hw, hq]
theorem firstL_ascii (b : UInt8) (o : List Nat) (h : b.toNat < 128) : firstL b o = ([], o ++ [b.toNat]) := by simp [firstL, h]
theorem firstL_lead (b : UInt8) (o : List Nat) (h : ¬ b.toNat < 128) (hb : beginsL [b] = true) : firstL b o = ([b], o) := by simp [firstL, h, hb]
theorem firstL_bad (b : UInt8) (o : List Nat) (h : ¬ b.toNat < 128) (hb : beginsL [b] = false) : firstL b o = ([], o ++ [65533]) := by simp [firstL, h, hb]
theorem BS.lead (w : World) (b : UInt8) (t : TypeId) : BS (w.alloc (.cells #[.int .u8 (b.toNat : Int)] t)) (w.alloc (.cells #[.int .u8 (b.toNat : Int)] t)).heap.size (.slice (some ⟨w.heap.size, 0, none⟩) 1 1) [b] := (BS.one w b t).more (by simp)
theorem BS.leadAt (w : World) (b : UInt8) (t : TypeId) (g : Nat) (hg : g = w.heap.size) : BS (w.alloc (.cells #[.int .u8 (b.toNat : Int)] t)) (w.alloc (.cells #[.int .u8 (b.toNat : Int)] t)).heap.size (.slice (some ⟨g, 0, none⟩) 1 1) [b] := by
 subst hg
 exact BS.lead w b t
theorem BN.leadAt (w : World) (lo : Nat) (b : UInt8) (t : TypeId) (g : Nat) (hg : g = w.heap.size) (hlo : lo ≤ w.heap.size) : BN (w.alloc (.cells #[.int .u8 (b.toNat : Int)] t)) lo (.slice (some ⟨g, 0, none⟩) 1 1) [b] := by
 refine ⟨BS.leadAt w b t g hg, fun ad n c h _ => ?_⟩
 simp only [Value.slice.injEq, Option.some.injEq] at h
 rw [← h.1]
 show lo ≤ g
 omega
theorem RS.oneAt (w : World) (b : Int) (t : TypeId) (g : Nat) (hg : g = w.heap.size) : RS (w.alloc (.cells #[.int .i32 b] t)) (w.heap.size + 1) (.slice (some ⟨g, 0, none⟩) 1 1) [b] := by
 subst hg
 exact RS.one w b t
theorem stepr_no1 (v : Value) (p : List UInt8) (b : UInt8) (w : World) (hv : BS w w.heap.size v p) (hp : beginsL p = false) (h0 : b.toNat < 128) :
  Calls Tryz.prog 68 #[v, .int .u8 (b.toNat : Int)] w (StepPost p b w) := by
 have hs := stepL_no p b hp
 rw [firstL_ascii b _ h0] at hs
 obtain ⟨A, c, rfl, g1, g2, _⟩ := hv.at_
 unfold maxLen at g2
 have HV := Lh hv
 have HP := Lh hp
 have HS := Lh hs
 clear hv hp hs
 have h0' : (b.toNat : Int) < 128 := by omega
 by_cases hl : 0 < p.length
 ·go_enter Tryz.func68, Tryz.ntmps68
  go_wp2_with (first
   | (go_at_call 87; (with_reducible refine (beginsr_any _ p _ _ HV.out).mono ?_); rintro e w' ⟨rfl, rfl⟩; rw [HP.out])
   | (at_builtin; refine wpl_appR _ rfl (.tmp 39) (.tmp 42) rfl w.heap.size _ _ _ [] [(b.toNat : Int)] rfl rfl (OR.nil _ _) (RS.one w _ _) (by simp) (by simp) ?_; intro v1 w1 hown1 hg1 hbel1 _))
  go_ret2
  exact stepPost_of HS.out (BN.nil _ _) hown1.bs (((Below.refl _ _).alloc (Nat.le_refl _) _).trans hbel1)
 ·have hl' : decide (0 < p.length) = false := decide_eq_false (by omega)
  go_enter Tryz.func68, Tryz.ntmps68
  go_wp2_with (first
   | (at_builtin; refine wpl_appR _ rfl (.tmp 39) (.tmp 42) rfl w.heap.size _ _ _ [] [(b.toNat : Int)] rfl rfl (OR.nil _ _) (RS.one w _ _) (by simp) (by simp) ?_; intro v1 w1 hown1 hg1 hbel1 _))
  go_ret2
  exact stepPost_of HS.out (BN.nil _ _) hown1.bs (((Below.refl _ _).alloc (Nat.le_refl _) _).trans hbel1)
theorem stepr_no2 (v : Value) (p : List UInt8) (b : UInt8) (w : World) (hv : BS w w.heap.size v p) (hp : beginsL p = false) (h0 : ¬ b.toNat < 128) (hb : beginsL [b] = true) :
  Calls Tryz.prog 68 #[v, .int .u8 (b.toNat : Int)] w (StepPost p b w) := by
 have hs := stepL_no p b hp
 rw [firstL_lead b _ h0 hb] at hs
 obtain ⟨A, c, rfl, g1, g2, _⟩ := hv.at_
 unfold maxLen at g2
 have HV := Lh hv
 have HP := Lh hp
 have HS := Lh hs
 have HB := Lh hb
 clear hv hp hs hb
 have h0' : decide ((b.toNat : Int) < 128) = false := by simp; omega
 by_cases hl : 0 < p.length
 ·go_enter Tryz.func68, Tryz.ntmps68
  go_wp2_with (first
   | (go_at_call 87; (with_reducible refine (beginsr_any _ p _ _ HV.out).mono ?_); rintro e w' ⟨rfl, rfl⟩; rw [HP.out])
   | (go_at_call 87; (with_reducible refine (beginsr_any _ [b] _ _ (BS.lead w b _)).mono ?_); rintro e w' ⟨rfl, rfl⟩; rw [HB.out]))
  go_ret2
  exact stepPost_of HS.out (BN.leadAt _ _ b _ _ (by simp) (by simp; try omega)) (RS.nil _ _) (((Below.refl _ _).alloc (Nat.le_refl _) _).alloc (by simp) _)
 ·have hl' : decide (0 < p.length) = false := decide_eq_false (by omega)
  go_enter Tryz.func68, Tryz.ntmps68
  go_wp2_with (first
   | (go_at_call 87; (with_reducible refine (beginsr_any _ [b] _ _ (BS.lead w b _)).mono ?_); rintro e w' ⟨rfl, rfl⟩; rw [HB.out]))
  go_ret2
  exact stepPost_of HS.out (BN.leadAt _ _ b _ _ (by simp) (by simp; try omega)) (RS.nil _ _) (((Below.refl _ _).alloc (Nat.le_refl _) _).alloc (by simp) _)
theorem stepr_no3 (v : Value) (p : List UInt8) (b : UInt8) (w : World) (hv : BS w w.heap.size v p) (hp : beginsL p = false) (h0 : ¬ b.toNat < 128) (hb : beginsL [b] = false) :
  Calls Tryz.prog 68 #[v, .int .u8 (b.toNat : Int)] w (StepPost p b w) := by
 have hs := stepL_no p b hp
 rw [firstL_bad b _ h0 hb] at hs
 obtain ⟨A, c, rfl, g1, g2, _⟩ := hv.at_
 unfold maxLen at g2
 have HV := Lh hv
 have HP := Lh hp
 have HS := Lh hs
 have HB := Lh hb
 clear hv hp hs hb
 have h0' : decide ((b.toNat : Int) < 128) = false := by simp; omega
 by_cases hl : 0 < p.length
 ·go_enter Tryz.func68, Tryz.ntmps68
  go_wp2_with (first
   | (go_at_call 87; (with_reducible refine (beginsr_any _ p _ _ HV.out).mono ?_); rintro e w' ⟨rfl, rfl⟩; rw [HP.out])
   | (go_at_call 87; (with_reducible refine (beginsr_any _ [b] _ _ (BS.lead w b _)).mono ?_); rintro e w' ⟨rfl, rfl⟩; rw [HB.out])
   | (at_builtin; refine wpl_appR _ rfl (.tmp 51) (.tmp 52) rfl w.heap.size _ _ _ [] [(65533 : Int)] rfl rfl (OR.nil _ _) (RS.oneAt _ _ _ _ (by simp)) (by simp) (by simp; omega) ?_; intro v1 w1 hown1 hg1 hbel1 _))
  go_ret2
  exact stepPost_of HS.out (BN.nil _ _) hown1.bs ((((Below.refl _ _).alloc (Nat.le_refl _) _).alloc (by simp) _).trans hbel1)
 ·have hl' : decide (0 < p.length) = false := decide_eq_false (by omega)
  go_enter Tryz.func68, Tryz.ntmps68
  go_wp2_with (first
   | (go_at_call 87; (with_reducible refine (beginsr_any _ [b] _ _ (BS.lead w b _)).mono ?_); rintro e w' ⟨rfl, rfl⟩; rw [HB.out])
   | (at_builtin; refine wpl_appR _ rfl (.tmp 51) (.tmp 52) rfl w.heap.size _ _ _ [] [(65533 : Int)] rfl rfl (OR.nil _ _) (RS.oneAt _ _ _ _ (by simp)) (by simp) (by simp; omega) ?_; intro v1 w1 hown1 hg1 hbel1 _))
  go_ret2
  exact stepPost_of HS.out (BN.nil _ _) hown1.bs ((((Below.refl _ _).alloc (Nat.le_refl _) _).alloc (by simp) _).trans hbel1)
theorem stepr_some (v : Value) (p : List UInt8) (b : UInt8) (w : World) (hv : BS w w.heap.size v p) (hp : beginsL p = true) (r : Nat) (hw : wholeL (p ++ [b]) = some r) :
  Calls Tryz.prog 68 #[v, .int .u8 (b.toNat : Int)] w (StepPost p b w) := by
 have hs := stepL_some p b r hp hw
 obtain ⟨A, c, rfl, g1, g2, _⟩ := hv.at_
 unfold maxLen at g2
 have hpl := beginsL_len p hp
 have hl : 0 < p.length := by omega
 have hl3 : p.length ≤ 3 := by omega
 have HV := Lh hv
 have HP := Lh hp
 have HS := Lh hs
 clear hv hs hpl
 have HW := Lh hw
 clear hw hp
 go_enter Tryz.func68, Tryz.ntmps68
 go_wp2_with (first
   | (go_at_call 87; (with_reducible refine (beginsr_any _ p _ _ HV.out).mono ?_); rintro e w' ⟨rfl, rfl⟩; rw [HP.out])
   | (at_builtin; refine wpl_app _ rfl (.const (.slice none 0 0)) (.tmp 17) rfl w.heap.size _ (.slice none 0 0) _ [] p rfl rfl (OB.nil _ _) HV.out (by simp; omega) (Nat.le_refl _) ?_; intro v1 w1 hown0 hg1 hbel1 _; have hown1 : OB w1 w.heap.size v1 p := hown0; clear hown0 hg1; have hz1 := hbel1.size)
   | (at_builtin; refine wpl_app _ rfl (.tmp 18) (.tmp 20) rfl w.heap.size _ _ _ p [b] rfl rfl (hown1.alloc _) (BS.one w1 b _) (by simp; omega) (by simp; omega) ?_; intro v2 w2 hown2 hg2 hbel2 _; have hbq := (hbel1.alloc hz1 _).trans hbel2; have hz2 := hbq.size)
   | (go_at_call 94; (with_reducible refine (wholer_any _ p b _ _ hown2.bs HP.out).mono ?_); rintro e w' ⟨rfl, he⟩; rw [HW.out] at he; obtain ⟨r', hr', rfl⟩ : ∃ r', some r = some r' ∧ e = .returned (.tuple #[.int .i32 (r' : Int), .bool true]) := (by rcases he with he | ⟨he, _⟩; exact he; cases he); injection hr' with hr'; subst hr'))
 go_ret2
 exact stepPost_of HS.out (BN.nil _ _) ((RS.one w2 _ _).more (by simp)) (hbq.alloc hz2 _)
theorem stepr_pends (v : Value) (p : List UInt8) (b : UInt8) (w : World) (hv : BS w w.heap.size v p) (hp : beginsL p = true) (hw : wholeL (p ++ [b]) = none) (hq : beginsL (p ++ [b]) = true) :
  Calls Tryz.prog 68 #[v, .int .u8 (b.toNat : Int)] w (StepPost p b w) := by
 have hs := stepL_pends p b hp hw hq
 obtain ⟨A, c, rfl, g1, g2, _⟩ := hv.at_
 unfold maxLen at g2
 have hpl := beginsL_len p hp
 have hl : 0 < p.length := by omega
 have hl3 : p.length ≤ 3 := by omega
 have HV := Lh hv
 have HP := Lh hp
 have HS := Lh hs
 clear hv hs hpl
 have HW := Lh hw
 have HQ := Lh hq
 clear hw hp hq
 go_enter Tryz.func68, Tryz.ntmps68
 go_wp2_with (first
   | (go_at_call 87; (with_reducible refine (beginsr_any _ p _ _ HV.out).mono ?_); rintro e w' ⟨rfl, rfl⟩; rw [HP.out])
   | (at_builtin; refine wpl_app _ rfl (.const (.slice none 0 0)) (.tmp 17) rfl w.heap.size _ (.slice none 0 0) _ [] p rfl rfl (OB.nil _ _) HV.out (by simp; omega) (Nat.le_refl _) ?_; intro v1 w1 hown0 hg1 hbel1 _; have hown1 : OB w1 w.heap.size v1 p := hown0; clear hown0 hg1; have hz1 := hbel1.size)
   | (at_builtin; refine wpl_app _ rfl (.tmp 18) (.tmp 20) rfl w.heap.size _ _ _ p [b] rfl rfl (hown1.alloc _) (BS.one w1 b _) (by simp; omega) (by simp; omega) ?_; intro v2 w2 hown2 hg2 hbel2 _; have hbq := (hbel1.alloc hz1 _).trans hbel2; have hz2 := hbq.size)
   | (go_at_call 94; (with_reducible refine (wholer_any _ p b _ _ hown2.bs HP.out).mono ?_); rintro e w' ⟨rfl, he⟩; rw [HW.out] at he; obtain ⟨r', rfl⟩ : ∃ r' : Int, e = .returned (.tuple #[.int .i32 r', .bool false]) := (by rcases he with ⟨_, he, _⟩ | ⟨_, he⟩; cases he; exact he))
   | (go_at_call 87; (with_reducible refine (beginsr_any _ (p ++ [b]) _ _ hown2.bs).mono ?_); rintro e w' ⟨rfl, rfl⟩; rw [HQ.out]))
 go_ret2
 exact stepPost_of HS.out hown2.bn (RS.nil _ _) hbq
theorem stepr_b1 (v : Value) (p : List UInt8) (b : UInt8) (w : World) (hv : BS w w.heap.size v p) (hp : beginsL p = true) (hw : wholeL (p ++ [b]) = none) (hq : beginsL (p ++ [b]) = false) (h0 : b.toNat < 128) :
  Calls Tryz.prog 68 #[v, .int .u8 (b.toNat : Int)] w (StepPost p b w) := by
 have hs := stepL_breaks p b hp hw hq
 rw [firstL_ascii b _ h0] at hs
 obtain ⟨A, c, rfl, g1, g2, _⟩ := hv.at_
 unfold maxLen at g2
 have hpl := beginsL_len p hp
 have hl : 0 < p.length := by omega
 have hl3 : p.length ≤ 3 := by omega
 have HV := Lh hv
 have HP := Lh hp
 have HS := Lh hs
 clear hv hs hpl
 have HW := Lh hw
 have HQ := Lh hq
 clear hw hp hq
 have h0' : (b.toNat : Int) < 128 := by omega
 go_enter Tryz.func68, Tryz.ntmps68
 go_wp2_with (first
   | (go_at_call 87; (with_reducible refine (beginsr_any _ p _ _ HV.out).mono ?_); rintro e w' ⟨rfl, rfl⟩; rw [HP.out])
   | (at_builtin; refine wpl_app _ rfl (.const (.slice none 0 0)) (.tmp 17) rfl w.heap.size _ (.slice none 0 0) _ [] p rfl rfl (OB.nil _ _) HV.out (by simp; omega) (Nat.le_refl _) ?_; intro v1 w1 hown0 hg1 hbel1 _; have hown1 : OB w1 w.heap.size v1 p := hown0; clear hown0 hg1; have hz1 := hbel1.size)
   | (at_builtin; refine wpl_app _ rfl (.tmp 18) (.tmp 20) rfl w.heap.size _ _ _ p [b] rfl rfl (hown1.alloc _) (BS.one w1 b _) (by simp; omega) (by simp; omega) ?_; intro v2 w2 hown2 hg2 hbel2 _; have hbq := (hbel1.alloc hz1 _).trans hbel2; have hz2 := hbq.size)
   | (go_at_call 94; (with_reducible refine (wholer_any _ p b _ _ hown2.bs HP.out).mono ?_); rintro e w' ⟨rfl, he⟩; rw [HW.out] at he; obtain ⟨r', rfl⟩ : ∃ r' : Int, e = .returned (.tuple #[.int .i32 r', .bool false]) := (by rcases he with ⟨_, he, _⟩ | ⟨_, he⟩; cases he; exact he))
   | (go_at_call 87; (with_reducible refine (beginsr_any _ (p ++ [b]) _ _ hown2.bs).mono ?_); rintro e w' ⟨rfl, rfl⟩; rw [HQ.out])
   | (at_builtin; refine wpl_appR _ rfl (.tmp 33) (.tmp 34) rfl w.heap.size _ _ _ [] [(65533 : Int)] rfl rfl (OR.nil _ _) (RS.oneAt _ _ _ _ (by simp)) (by simp) (by simp; omega) ?_; intro v3 w3 hown3 hg3 hbel3 _; have hb3 := (hbq.alloc hz2 _).trans hbel3; have hz3 := hb3.size)
   | (at_builtin; refine wpl_appR _ rfl (.tmp 39) (.tmp 42) rfl w.heap.size _ _ _ [65533] [(b.toNat : Int)] rfl rfl (hown3.alloc _) (RS.oneAt _ _ _ _ (by simp)) (by simp) (by simp; omega) ?_; intro v4 w4 hown4 hg4 hbel4 _; have hb4 := (hb3.alloc hz3 _).trans hbel4))
 go_ret2
 exact stepPost_of HS.out (BN.nil _ _) hown4.bs hb4
theorem stepr_b2 (v : Value) (p : List UInt8) (b : UInt8) (w : World) (hv : BS w w.heap.size v p) (hp : beginsL p = true) (hw : wholeL (p ++ [b]) = none) (hq : beginsL (p ++ [b]) = false) (h0 : ¬ b.toNat < 128) (hb : beginsL [b] = true) :
  Calls Tryz.prog 68 #[v, .int .u8 (b.toNat : Int)] w (StepPost p b w) := by
 have hs := stepL_breaks p b hp hw hq
 rw [firstL_lead b _ h0 hb] at hs
 obtain ⟨A, c, rfl, g1, g2, _⟩ := hv.at_
 unfold maxLen at g2
 have hpl := beginsL_len p hp
 have hl : 0 < p.length := by omega
 have hl3 : p.length ≤ 3 := by omega
 have HV := Lh hv
 have HP := Lh hp
 have HS := Lh hs
 clear hv hs hpl
 have HW := Lh hw
 have HQ := Lh hq
 have HB := Lh hb
 clear hw hp hq hb
 have h0' : decide ((b.toNat : Int) < 128) = false := by simp; omega
 go_enter Tryz.func68, Tryz.ntmps68
 go_wp2_with (first
   | (go_at_call 87; (with_reducible refine (beginsr_any _ p _ _ HV.out).mono ?_); rintro e w' ⟨rfl, rfl⟩; rw [HP.out])
   | (at_builtin; refine wpl_app _ rfl (.const (.slice none 0 0)) (.tmp 17) rfl w.heap.size _ (.slice none 0 0) _ [] p rfl rfl (OB.nil _ _) HV.out (by simp; omega) (Nat.le_refl _) ?_; intro v1 w1 hown0 hg1 hbel1 _; have hown1 : OB w1 w.heap.size v1 p := hown0; clear hown0 hg1; have hz1 := hbel1.size)
   | (at_builtin; refine wpl_app _ rfl (.tmp 18) (.tmp 20) rfl w.heap.size _ _ _ p [b] rfl rfl (hown1.alloc _) (BS.one w1 b _) (by simp; omega) (by simp; omega) ?_; intro v2 w2 hown2 hg2 hbel2 _; have hbq := (hbel1.alloc hz1 _).trans hbel2; have hz2 := hbq.size)
   | (go_at_call 94; (with_reducible refine (wholer_any _ p b _ _ hown2.bs HP.out).mono ?_); rintro e w' ⟨rfl, he⟩; rw [HW.out] at he; obtain ⟨r', rfl⟩ : ∃ r' : Int, e = .returned (.tuple #[.int .i32 r', .bool false]) := (by rcases he with ⟨_, he, _⟩ | ⟨_, he⟩; cases he; exact he))
   | (go_at_call 87; (with_reducible refine (beginsr_any _ (p ++ [b]) _ _ hown2.bs).mono ?_); rintro e w' ⟨rfl, rfl⟩; rw [HQ.out])
   | (at_builtin; refine wpl_appR _ rfl (.tmp 33) (.tmp 34) rfl w.heap.size _ _ _ [] [(65533 : Int)] rfl rfl (OR.nil _ _) (RS.oneAt _ _ _ _ (by simp)) (by simp) (by simp; omega) ?_; intro v3 w3 hown3 hg3 hbel3 _; have hb3 := (hbq.alloc hz2 _).trans hbel3; have hz3 := hb3.size)
   | (go_at_call 87; (with_reducible refine (beginsr_any _ [b] _ _ (BS.lead w3 b _)).mono ?_); rintro e w' ⟨rfl, rfl⟩; rw [HB.out]))
 go_ret2
 exact stepPost_of HS.out (BN.leadAt _ _ b _ _ (by simp) (by simp; try omega)) (((hown3.alloc _).alloc _).bs) ((hb3.alloc hz3 _).alloc (by simp; omega) _)
theorem stepr_b3 (v : Value) (p : List UInt8) (b : UInt8) (w : World) (hv : BS w w.heap.size v p) (hp : beginsL p = true) (hw : wholeL (p ++ [b]) = none) (hq : beginsL (p ++ [b]) = false) (h0 : ¬ b.toNat < 128) (hb : beginsL [b] = false) :
  Calls Tryz.prog 68 #[v, .int .u8 (b.toNat : Int)] w (StepPost p b w) := by
 have hs := stepL_breaks p b hp hw hq
 rw [firstL_bad b _ h0 hb] at hs
 obtain ⟨A, c, rfl, g1, g2, _⟩ := hv.at_
 unfold maxLen at g2
 have hpl := beginsL_len p hp
 have hl : 0 < p.length := by omega
 have hl3 : p.length ≤ 3 := by omega
 have HV := Lh hv
 have HP := Lh hp
 have HS := Lh hs
 clear hv hs hpl
 have HW := Lh hw
 have HQ := Lh hq
 have HB := Lh hb
 clear hw hp hq hb
 have h0' : decide ((b.toNat : Int) < 128) = false := by simp; omega
 go_enter Tryz.func68, Tryz.ntmps68
 go_wp2_with (first
   | (go_at_call 87; (with_reducible refine (beginsr_any _ p _ _ HV.out).mono ?_); rintro e w' ⟨rfl, rfl⟩; rw [HP.out])
   | (at_builtin; refine wpl_app _ rfl (.const (.slice none 0 0)) (.tmp 17) rfl w.heap.size _ (.slice none 0 0) _ [] p rfl rfl (OB.nil _ _) HV.out (by simp; omega) (Nat.le_refl _) ?_; intro v1 w1 hown0 hg1 hbel1 _; have hown1 : OB w1 w.heap.size v1 p := hown0; clear hown0 hg1; have hz1 := hbel1.size)
   | (at_builtin; refine wpl_app _ rfl (.tmp 18) (.tmp 20) rfl w.heap.size _ _ _ p [b] rfl rfl (hown1.alloc _) (BS.one w1 b _) (by simp; omega) (by simp; omega) ?_; intro v2 w2 hown2 hg2 hbel2 _; have hbq := (hbel1.alloc hz1 _).trans hbel2; have hz2 := hbq.size)
   | (go_at_call 94; (with_reducible refine (wholer_any _ p b _ _ hown2.bs HP.out).mono ?_); rintro e w' ⟨rfl, he⟩; rw [HW.out] at he; obtain ⟨r', rfl⟩ : ∃ r' : Int, e = .returned (.tuple #[.int .i32 r', .bool false]) := (by rcases he with ⟨_, he, _⟩ | ⟨_, he⟩; cases he; exact he))
   | (go_at_call 87; (with_reducible refine (beginsr_any _ (p ++ [b]) _ _ hown2.bs).mono ?_); rintro e w' ⟨rfl, rfl⟩; rw [HQ.out])
   | (at_builtin; refine wpl_appR _ rfl (.tmp 33) (.tmp 34) rfl w.heap.size _ _ _ [] [(65533 : Int)] rfl rfl (OR.nil _ _) (RS.oneAt _ _ _ _ (by simp)) (by simp) (by simp; omega) ?_; intro v3 w3 hown3 hg3 hbel3 _; have hb3 := (hbq.alloc hz2 _).trans hbel3; have hz3 := hb3.size)
   | (go_at_call 87; (with_reducible refine (beginsr_any _ [b] _ _ (BS.lead w3 b _)).mono ?_); rintro e w' ⟨rfl, rfl⟩; rw [HB.out])
   | (at_builtin; refine wpl_appR _ rfl (.tmp 51) (.tmp 52) rfl w.heap.size _ _ _ [65533] [(65533 : Int)] rfl rfl ((hown3.alloc _).alloc _) (RS.oneAt _ _ _ _ (by simp)) (by simp) (by simp; omega) ?_; intro v4 w4 hown4 hg4 hbel4 _; have hb4 := ((hb3.alloc hz3 _).alloc (by simp; omega) _).trans hbel4))
 go_ret2
 exact stepPost_of HS.out (BN.nil _ _) hown4.bs hb4
theorem stepr_any (v : Value) (p : List UInt8) (b : UInt8) (w : World) (hv : BS w w.heap.size v p) : Calls Tryz.prog 68 #[v, .int .u8 (b.toNat : Int)] w (StepPost p b w) := by
 cases hp : beginsL p
 ·by_cases h0 : b.toNat < 128
  ·exact stepr_no1 v p b w hv hp h0
  cases hb : beginsL [b]
  ·exact stepr_no3 v p b w hv hp h0 hb
  ·exact stepr_no2 v p b w hv hp h0 hb
 ·cases hw : wholeL (p ++ [b]) with
  | some r => exact stepr_some v p b w hv hp r hw
  | none =>
   cases hq : beginsL (p ++ [b])
   ·by_cases h0 : b.toNat < 128
    ·exact stepr_b1 v p b w hv hp hw hq h0
    cases hb : beginsL [b]
    ·exact stepr_b3 v p b w hv hp hw hq h0 hb
    ·exact stepr_b2 v p b w hv hp hw hq h0 hb
   ·exact stepr_pends v p b w hv hp hw hq
def SL {α : Type} (f : α → Value) (w : World) (S : Nat → Prop) (v : Value) (l : List α) : Prop :=
 ∃ A c, v = .slice A l.length c ∧ l.length ≤ c ∧ c ≤ maxLen ∧ (0 < l.length → ∃ ad, A = some ad ∧ S ad.block ∧ ∀ j b, l[j]? = some b → w.cell? (ad.add j) = some (f b))
section
variable {α : Type} {f : α → Value} {w w' : World} {S S' : Nat → Prop} {v : Value} {l : List α}
theorem SL.keep (h : SL f w S v l) (hk : ∀ p : Addr, S p.block → w'.cell? p = w.cell? p) : SL f w' S v l := by
 obtain ⟨A, c, hv, h1, h2, h3⟩ := h
 refine ⟨A, c, hv, h1, h2, fun hl => ?_⟩
 obtain ⟨ad, hA, hb, hc⟩ := h3 hl
 exact ⟨ad, hA, hb, fun j b hj => (hk _ (by rw [block_add]; exact hb)).trans (hc j b hj)⟩
theorem SL.mono (h : SL f w S v l) (hS : ∀ x, S x → S' x) : SL f w S' v l := by
 obtain ⟨A, c, hv, h1, h2, h3⟩ := h
 refine ⟨A, c, hv, h1, h2, fun hl => ?_⟩
 obtain ⟨ad, hA, hb, hc⟩ := h3 hl
 exact ⟨ad, hA, hS _ hb, hc⟩
theorem SL.nil (f : α → Value) (w : World) (S : Nat → Prop) : SL f w S (.slice none 0 0) [] := ⟨none, 0, rfl, by simp, by simp [maxLen], fun h => absurd h (by simp)⟩
theorem SL.form (h : SL f w S v l) : ∃ A c, v = .slice A l.length c ∧ l.length ≤ c ∧ c ≤ 9223372036854775807 := by
 obtain ⟨A, c, hv, h1, h2, _⟩ := h
 unfold maxLen at h2
 exact ⟨A, c, hv, h1, by omega⟩
end
theorem SL.bs {w : World} {S : Nat → Prop} {B : Nat} {v : Value} {l : List UInt8} (h : SL vB w S v l) (hS : ∀ x, S x → x < B) : BS w B v l := h.mono hS
theorem SL.is {w : World} {S : Nat → Prop} {B : Nat} {v : Value} {l : List Int} (h : SL vI w S v l) (hS : ∀ x, S x → x < B) : IS w B v l := h.mono hS
def NewB (w : World) (lo : Nat) (x : Nat) : Prop := lo ≤ x ∧ x < w.heap.size
theorem BN.sl {w : World} {lo : Nat} {v : Value} {l : List UInt8} (h : BN w lo v l) : SL vB w (NewB w lo) v l := by
 obtain ⟨⟨A, c, hv, h1, h2, h3⟩, h4⟩ := h
 refine ⟨A, c, hv, h1, h2, fun hl => ?_⟩
 obtain ⟨ad, hA, hb, hc⟩ := h3 hl
 exact ⟨ad, hA, ⟨h4 ad _ _ (by rw [hv, hA]) hl, hb⟩, hc⟩
theorem OB.sl {w : World} {base : Nat} {v : Value} {l : List UInt8} (h : OB w base v l) : SL vB w (NewB w base) v l := h.bn.sl
theorem OI.sl {w : World} {base : Nat} {v : Value} {l : List Int} (h : OI w base v l) : SL vI w (NewB w base) v l := by
 obtain ⟨A, c, hv, h1, h2, h3⟩ := h.bs
 refine ⟨A, c, hv, h1, h2, fun hl => ?_⟩
 obtain ⟨ad, hA, hb, hc⟩ := h3 hl
 subst hA
 exact ⟨ad, rfl, ⟨(World.ownsRow.lt h ad.block (by rw [hv]; rfl)).1, hb⟩, hc⟩
def PV (w : World) (S : Nat → Prop) (v : Value) (p : Pr) : Prop :=
 ∃ vp vi vu, v = .agg #[.int .i64 (p.mode : Int), .int .u8 (p.priv : Int), vp, vi, vu] ∧ SL vI w S vp p.params ∧ SL vB w S vi p.inter ∧ SL vB w S vu p.utf
theorem PV.keep {w w' : World} {S : Nat → Prop} {v : Value} {p : Pr} (h : PV w S v p) (hk : ∀ q : Addr, S q.block → w'.cell? q = w.cell? q) : PV w' S v p := by
 obtain ⟨vp, vi, vu, hv, h1, h2, h3⟩ := h
 exact ⟨vp, vi, vu, hv, h1.keep hk, h2.keep hk, h3.keep hk⟩
theorem PV.mono {w : World} {S S' : Nat → Prop} {v : Value} {p : Pr} (h : PV w S v p) (hS : ∀ x, S x → S' x) : PV w S' v p := by
 obtain ⟨vp, vi, vu, hv, h1, h2, h3⟩ := h
 exact ⟨vp, vi, vu, hv, h1.mono hS, h2.mono hS, h3.mono hS⟩
def AcsV (w : World) (S : Nat → Prop) : List Value → List Ac → Prop
 | xs, [] => xs = []
 | xs, a :: l => ∃ vp vi ys, xs = [.int .i64 (a.kind : Int), .int .i32 a.r, .int .u8 (a.b : Int), .int .u8 (a.priv : Int), vp, vi] ++ ys ∧ SL vI w S vp a.params ∧ SL vB w S vi a.inter ∧ AcsV w S ys l
section
variable {w w' : World} {S S' : Nat → Prop}
theorem AcsV.keep {xs : List Value} {l : List Ac} (h : AcsV w S xs l) (hk : ∀ q : Addr, S q.block → w'.cell? q = w.cell? q) : AcsV w' S xs l := by
 induction l generalizing xs with
 | nil => exact h
 | cons a l ih =>
  obtain ⟨vp, vi, ys, hx, h1, h2, h3⟩ := h
  exact ⟨vp, vi, ys, hx, h1.keep hk, h2.keep hk, ih h3⟩
theorem AcsV.mono {xs : List Value} {l : List Ac} (h : AcsV w S xs l) (hS : ∀ x, S x → S' x) : AcsV w S' xs l := by
 induction l generalizing xs with
 | nil => exact h
 | cons a l ih =>
  obtain ⟨vp, vi, ys, hx, h1, h2, h3⟩ := h
  exact ⟨vp, vi, ys, hx, h1.mono hS, h2.mono hS, ih h3⟩
theorem AcsV.len {xs : List Value} {l : List Ac} (h : AcsV w S xs l) : xs.length = l.length * 6 := by
 induction l generalizing xs with
 | nil => rw [show xs = [] from h]; simp
 | cons a l ih =>
  obtain ⟨vp, vi, ys, hx, h1, h2, h3⟩ := h
  have := ih h3
  rw [hx]
  simp
  omega
theorem AcsV.append {xs ys : List Value} {l m : List Ac} (h : AcsV w S xs l) (h2 : AcsV w S ys m) : AcsV w S (xs ++ ys) (l ++ m) := by
 induction l generalizing xs with
 | nil => rw [show xs = [] from h]; exact h2
 | cons a l ih =>
  obtain ⟨vp, vi, zs, hx, g1, g2, g3⟩ := h
  exact ⟨vp, vi, zs ++ ys, by rw [hx, List.append_assoc], g1, g2, ih g3⟩
theorem SL.one {α : Type} {f : α → Value} {v : Value} {l : List α} (h : SL f w S v l) : v.oneCell' = true := by
 obtain ⟨A, c, rfl, _⟩ := h
 rfl
theorem AcsV.ones {xs : List Value} {l : List Ac} (h : AcsV w S xs l) : ∀ u ∈ xs, u.oneCell' = true := by
 induction l generalizing xs with
 | nil => rw [show xs = [] from h]; simp
 | cons a l ih =>
  obtain ⟨vp, vi, ys, hx, h1, h2, h3⟩ := h
  intro u hu
  rw [hx] at hu
  simp only [List.cons_append, List.nil_append, List.mem_cons] at hu
  rcases hu with rfl | rfl | rfl | rfl | rfl | rfl | hu
  ·rfl
  ·rfl
  ·rfl
  ·rfl
  ·exact h1.one
  ·exact h2.one
  ·exact ih h3 u hu
end
def AS (w : World) (T S : Nat → Prop) (v : Value) (l : List Ac) : Prop :=
 ∃ A c xs, v = .slice A l.length c ∧ l.length ≤ c ∧ c ≤ maxLen ∧ AcsV w S xs l ∧ (0 < l.length → ∃ ad, A = some ad ∧ T ad.block ∧ ∀ j u, xs[j]? = some u → w.cell? (ad.add j) = some u)
def OA (w : World) (base : Nat) (S : Nat → Prop) (v : Value) (l : List Ac) : Prop :=
 ∃ xs, w.ownsRow base 85 6 v l.length xs ∧ AcsV w S xs l ∧ (∀ g, v.ownBlock = some g → ¬ S g)
section
variable {w w' : World} {T T' S S' : Nat → Prop} {v : Value} {l : List Ac} {base : Nat}
theorem AS.keep (h : AS w T S v l) (hT : ∀ q : Addr, T q.block → w'.cell? q = w.cell? q) (hk : ∀ q : Addr, S q.block → w'.cell? q = w.cell? q) : AS w' T S v l := by
 obtain ⟨A, c, xs, hv, h1, h2, h3, h4⟩ := h
 refine ⟨A, c, xs, hv, h1, h2, h3.keep hk, fun hl => ?_⟩
 obtain ⟨ad, hA, hb, hc⟩ := h4 hl
 exact ⟨ad, hA, hb, fun j u hj => (hT _ (by rw [block_add]; exact hb)).trans (hc j u hj)⟩
theorem AS.mono (h : AS w T S v l) (hT : ∀ x, T x → T' x) (hS : ∀ x, S x → S' x) : AS w T' S' v l := by
 obtain ⟨A, c, xs, hv, h1, h2, h3, h4⟩ := h
 refine ⟨A, c, xs, hv, h1, h2, h3.mono hS, fun hl => ?_⟩
 obtain ⟨ad, hA, hb, hc⟩ := h4 hl
 exact ⟨ad, hA, hT _ hb, hc⟩
theorem AS.nil (w : World) (T S : Nat → Prop) : AS w T S (.slice none 0 0) [] := ⟨none, 0, [], rfl, by simp, by simp [maxLen], rfl, fun h => absurd h (by simp)⟩
theorem AS.form (h : AS w T S v l) : ∃ A c, v = .slice A l.length c ∧ l.length ≤ c ∧ c ≤ 9223372036854775807 := by
 obtain ⟨A, c, xs, hv, h1, h2, _⟩ := h
 unfold maxLen at h2
 exact ⟨A, c, hv, h1, by omega⟩
theorem OA.nil (w : World) (base : Nat) (S : Nat → Prop) : OA w base S (.slice none 0 0) [] := ⟨[], World.ownsRow_nil w base _ _, rfl, fun g h => by cases h⟩
theorem OA.as (h : OA w base S v l) : AS w (NewB w base) S v l := by
 obtain ⟨xs, h1, h2, h3⟩ := h
 rcases h1.2 with ⟨rfl, hn⟩ | ⟨g, cap, cur, rfl, hbg, hg, hnc, hcm, hcs, htake⟩
 ·have : l = [] := List.eq_nil_of_length_eq_zero hn
  subst this
  exact AS.nil _ _ _
 ·exact ⟨_, cap, xs, rfl, hnc, hcm, h2, fun hl => ⟨_, rfl, World.ownsRow.lt h1 g rfl, fun j u hj => h1.cells (g := g) rfl j u hj⟩⟩
theorem OA.lt (h : OA w base S v l) (g : Nat) (hg : v.ownBlock = some g) : base ≤ g ∧ g < w.heap.size := by
 obtain ⟨xs, h1, _⟩ := h
 exact World.ownsRow.lt h1 g hg
theorem OA.weak (h : OA w base S v l) (h1 : ∀ x, S x → S' x) (h2 : ∀ g, v.ownBlock = some g → ¬ S' g) : OA w base S' v l := by
 obtain ⟨xs, a, b, c⟩ := h
 exact ⟨xs, a, b.mono h1, h2⟩
theorem OA.below (h : OA w base S v l) (hS : ∀ x, S x → x < w.heap.size) (hb : Below w.heap.size w w') : OA w' base S v l := by
 obtain ⟨xs, a, b, c⟩ := h
 have hg : w.grownBy w' none := ⟨hb.os, hb.tape, hb.output, hb.size, fun i hi _ => hb.block i hi⟩
 refine ⟨xs, ?_, b.keep (fun q hq => hb.cell (hS _ hq)), c⟩
 refine World.ownsRow.kept a hg ?_
 cases hv : v.ownBlock with
 | none => exact Or.inl rfl
 | some k => exact Or.inr (by simp)
end
theorem AS.one (w : World) (S : Nat → Prop) (a : Ac) (vp vi : Value) (t : TypeId) (hp : SL vI w S vp a.params) (hi : SL vB w S vi a.inter) (hS : ∀ x, S x → x < w.heap.size) :
  AS (w.alloc (.cells #[.int .i64 (a.kind : Int), .int .i32 a.r, .int .u8 (a.b : Int), .int .u8 (a.priv : Int), vp, vi] t)) (fun x => x = w.heap.size) S (.slice (some ⟨w.heap.size, 0, none⟩) 1 1) [a] := by
 have hk : ∀ q : Addr, S q.block → (w.alloc (.cells #[.int .i64 (a.kind : Int), .int .i32 a.r, .int .u8 (a.b : Int), .int .u8 (a.priv : Int), vp, vi] t)).cell? q = w.cell? q := fun q hq => World.cell?_alloc_lt w _ q (hS _ hq)
 refine ⟨_, 1, [.int .i64 (a.kind : Int), .int .i32 a.r, .int .u8 (a.b : Int), .int .u8 (a.priv : Int), vp, vi], rfl, by simp, by simp [maxLen], ⟨vp, vi, [], rfl, hp.keep hk, hi.keep hk, rfl⟩, fun _ => ⟨_, rfl, rfl, fun j u hj => ?_⟩⟩
 exact World.news_of_block (heap_alloc_new w (.cells #[.int .i64 (a.kind : Int), .int .i32 a.r, .int .u8 (a.b : Int), .int .u8 (a.priv : Int), vp, vi] t)) j u (by simpa using hj)
theorem actInfo : (Tryz.prog.info? 85).map (fun i => (i.zero, i.size, i.bytes)) = some (some (.agg #[.int .i64 0, .int .i32 0, .int .u8 0, .int .u8 0, .slice none 0 0, .slice none 0 0]), 6, 64) := by kernel_rfl
theorem grown_keep {w w' : World} {row : Option Nat} {S : Nat → Prop} (hg : w.grownBy w' row) (hS : ∀ x, S x → x < w.heap.size) (hrow : ∀ g, row = some g → ¬ S g) : ∀ q : Addr, S q.block → w'.cell? q = w.cell? q := fun q hq =>
 World.cell?_of_block (hg.block q.block (hS _ hq) (fun e => hrow _ e.symm hq))
theorem run_appA (w : World) (ty : TypeId) {base : Nat} {S T R : Nat → Prop} {v u : Value} {l m : List Ac} (hown : OA w base S v l) (hr : AS w R T u m) (hS : ∀ x, S x → x < w.heap.size) (hT : ∀ x, T x → x < w.heap.size) (hTg : ∀ g, v.ownBlock = some g → ¬ T g)
  (hlen : l.length + m.length ≤ 1099511627776) (hbase : base ≤ w.heap.size) :
  ∃ v' w', (Builtin.append_ #[80, 80] ty #[v, u]).run Tryz.prog w = .ok v' w' ∧ OA w' base (fun x => S x ∨ T x) v' (l ++ m) ∧ w.grownBy w' v.ownBlock ∧ Below base w w' ∧ (v'.ownBlock = v.ownBlock ∨ v'.ownBlock = some w.heap.size) := by
 obtain ⟨i0, hi0, hz0, hz1, hz2⟩ := info_parts actInfo
 obtain ⟨xs, hx, hax, hng⟩ := hown
 have hlt := World.ownsRow.lt hx
 obtain ⟨A, c, ys, rfl, h1, h2, h3, h4⟩ := hr
 have hlen6 : ys.length = m.length * 6 := h3.len
 rcases Nat.eq_zero_or_pos m.length with h0 | h0
 ·have hm : m = [] := List.eq_nil_of_length_eq_zero h0
  subst hm
  refine ⟨v, w, ?_, ⟨xs, by simpa using hx, by rw [List.append_nil]; exact hax.mono (fun _ h => .inl h), fun g hg h => h.elim (hng g hg) (hTg g hg)⟩, World.grownBy.refl w _, Below.refl _ _, .inl rfl⟩
  rcases hx.2 with ⟨rfl, hn⟩ | ⟨g, cap, cur, rfl, _, _, hnc, _⟩
  ·cases A <;> simp [Builtin.append_, run_underlying Tryz.underlying80, sizeOf, typeInfo, hi0, Builtin.lenOf, Builtin.firstCells, loadCells, loadCellsFrom]
  ·cases A <;> simp [Builtin.append_, run_underlying Tryz.underlying80, sizeOf, typeInfo, hi0, Builtin.lenOf, Builtin.firstCells, hnc, storeCells, loadCells, loadCellsFrom]
 ·obtain ⟨ad, rfl, hb, hc⟩ := h4 h0
  obtain ⟨v', w', hrun, h5, h6, _, h7⟩ := run_append_own_at (P := Tryz.prog) w base 80 ty 85 i0 _ 6 64 Tryz.underlying80 hi0 hz0 hz1 hz2 rfl (by omega) v l.length xs hx ad m.length c ys hlen6 hc h3.ones (by simp only [maxLen]; omega) (by omega) hbase
  have k1 := grown_keep h6 hS (fun g hg => hng g hg)
  have k2 := grown_keep h6 hT hTg
  refine ⟨v', w', hrun, ⟨xs ++ ys, by rw [List.length_append]; exact h5, ((hax.keep k1).mono (fun _ h => .inl h)).append ((h3.keep k2).mono (fun _ h => .inr h)), fun g hg h => ?_⟩, h6, (Below.refl _ _).grown h6 hbase (fun k hk => (hlt k hk).1), h7⟩
  rcases h7 with e | e
  ·rw [e] at hg
   exact h.elim (hng g hg) (hTg g hg)
  ·rw [e] at hg
   injection hg with hg
   subst hg
   rcases h with h | h
   ·exact absurd (hS _ h) (by omega)
   ·exact absurd (hT _ h) (by omega)
theorem wpl_appA (w : World) {ops : Array Oper} {rest : List Oper} {o : Oper} {a : Act} {Q : Exit → Act → World → Prop} (hgd : o.guard = none) (s x : Operand)
  (ho : o.op = .call { callee := .builtin .append, args := #[s, x], argTypes := #[80, 80] })
  (base : Nat) (S R T : Nat → Prop) (v u : Value) (l m : List Ac) (hs : a.eval s = v) (hx : a.eval x = u) (hown : OA w base S v l) (hr : AS w R T u m) (hS : ∀ x, S x → x < w.heap.size) (hT : ∀ x, T x → x < w.heap.size) (hTg : ∀ g, v.ownBlock = some g → ¬ T g) (hlen : l.length + m.length ≤ 1099511627776) (hbase : base ≤ w.heap.size)
  (h : ∀ v' w', OA w' base (fun x => S x ∨ T x) v' (l ++ m) → w.grownBy w' v.ownBlock → Below base w w' → (v'.ownBlock = v.ownBlock ∨ v'.ownBlock = some w.heap.size) → wpList Tryz.prog ops Q rest (a.put o.dst v') w') :
  wpList Tryz.prog ops Q (o :: rest) a w := by
 refine wpList_plain hgd fun K hK => ?_
 obtain ⟨v', w', hrun, h2, h3, h4, h5⟩ := run_appA w o.type hown hr hS hT hTg hlen hbase
 unfold Oper.wp execOp
 simp only [ho, resolve, invoke, builtin, Sem.run_bind, Sem.run_pure, Result.andThen_ok, List.map_toArray, List.map_cons, List.map_nil, hs, hx, hrun]
 exact hK _ _ (h v' w' h2 h3 h4 h5)
@[reducible] def vPq (p : Pr) (Ap Ai Au : Option Addr) (cp ci cu : Nat) : Array Value := #[.int .i64 (p.mode : Int), .int .u8 (p.priv : Int), .slice Ap p.params.length cp, .slice Ai p.inter.length ci, .slice Au p.utf.length cu]
end Go.Proofs.YthepofkdgbcifaaGreat
