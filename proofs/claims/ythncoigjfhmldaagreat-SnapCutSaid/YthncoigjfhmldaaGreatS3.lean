/- What is proved here: parts of the proofs of the laws of layer 10. -/
import Derived.Test.YthncoigjfhmldaaGreatS2
import Derived.Test.YthncoigjfhmldaaGreatS1
import Derived.Deep.QuietTactic
import Derived.BigQuiet
import Derived.Test.YthncoigjfhmldaaGreatRows
import Derived.WalkKit
import Derived.WalkSpells
import Derived.WalkLawsBesides
import Derived.Below
import Derived.Lib.Hide
import Derived.Maps.AppendAt
import Derived.Deep.AppendLies
import Derived.Deep.Draws
import Derived.OwnWalk
import Derived.Laws.BytesArg
import Derived.OpenShut
import Derived.Lib.SlBytesConst
namespace Go.Proofs.YthncoigjfhmldaaGreat
open Go.RowKit
set_option linter.unusedVariables false
set_option linter.unusedSimpArgs false
set_option maxHeartbeats 2000000
set_option maxRecDepth 100000
theorem Mend_yes (v : Value) (l : List Cl) (r c y : Nat) (w : World) (h : CS w w.heap.size v l) (hg : GOk l.length r c) (hy : y < r) :
  Calls Tryz.prog 86 #[v, .int .i64 (c : Int), .int .i64 (y : Int)] w (CellsPost (fillL l (mendF l c) (y * c) (y * c + c)) w) := by
 obtain ⟨A, k, rfl, h1, h2⟩ := h.form
 have H := Lib.hid h
 have HG := Lib.hid hg
 have c1 := hg.c1
 have c2 := hg.c2
 have r2 := hg.r2
 have hn := hg.n
 have hrc := rc_le hg.r2 hg.c2
 have hlen : l.length ≤ 1000000 := by omega
 have HN := Lib.hid hn
 clear h hg hn
 go_enter Tryz.func86, Tryz.ntmps86
 go_wp2_with (first | ((with_reducible refine (own_any _ l _ H.out (by omega)).mono ?_); rintro e w1 ⟨v1, rfl, o1, b1⟩; have z1 := b1.size; have HC := Lib.hid ((H.out.below b1).more z1); have HO := Lib.hid o1; have HB := Lib.hid b1; clear o1 b1) | ((with_reducible refine (place_yes _ l r c (y : Int) 0 _ HC.out HG.out (by omega) (by omega) (by omega) (by omega)).mono ?_); rintro e w' ⟨rfl, rfl⟩))
 have hpos : 0 < l.length := by rw [HN.out]; exact Nat.mul_pos (by omega) (by omega)
 obtain ⟨g, cap, rfl, hg1, hg2, hg3, hg4⟩ := HO.out.open_ hpos
 go_loopw [8] (fun i wr => ColsRel l (mendF l c) c y y w w.heap.size g cap i wr) (fun i _ => c - (intOf i).toNat)
 case atStart => exact ⟨0, by omega, rfl, by rw [fillL_none _ _ _ _ (by omega)]; exact HO.out, HB.out⟩
 case round =>
  generalize wr = w3 at *
  obtain ⟨x, hx, rfl, ho, hb⟩ := hrel
  have HO3 := Lib.hid ho
  have HB3 := Lib.hid hb
  have z3 := hb.size
  clear ho hb
  by_cases hxc : x < c
  ·obtain ⟨p, hp⟩ : ∃ p : Nat, p = y * c := ⟨_, rfl⟩
   have hyc : (y : Int) * (c : Int) = (p : Int) := by rw [hp]; simp
   have hpx : p + x < l.length := by rw [hp, HN.out]; exact rc_lt (by omega) hxc
   have hdv := rc_div y c x hxc
   rw [← hp] at hdv
   have hpc : p + c ≤ l.length := by
    rw [hp, HN.out]
    have : (y + 1) * c ≤ r * c := Nat.mul_le_mul_right _ hy
    rw [Nat.add_mul, Nat.one_mul] at this
    exact this
   have HD := Lib.hid hdv
   have HP := Lib.hid hp
   clear hp hdv
   have hgd := getC_of hpx
   obtain ⟨ad, hA, hab, t0, t1, t2⟩ := (H.out.below HB3.out).get (p + x) _ hgd
   subst hA
   have tb : (ad.add ((p + x) * 3)).block < w3.heap.size := by rw [block_add]; omega
   have HGD := Lib.hid hgd
   clear hgd t0 t1
   by_cases h1 : (getC l (p + x)).h = 1
   ·rw [h1] at t2
    by_cases h2 : x + 1 = c
    ·have hbad : badH l c (p + x) x = true := by unfold badH; rw [h1]; simp [h2]
     have HBAD := Lib.hid hbad
     clear hbad
     have e1 : ((x : Int) == (c : Int) - 1) = true := by simp; omega
     have H2 := Lib.hid h2
     clear h2
     go_wp2_with ((with_reducible refine (blank_any _).mono ?_); rintro e w' ⟨rfl, hw'⟩; have z4 := hw'.size; have H1 := Lib.hid (HO3.out.below hw'); have HW := Lib.hid hw'; obtain ⟨x0, y0, z0, s0, s1, s2, f0, f1, f2⟩ := (HO3.out.below hw').spot (p + x) hpx; have hg5 : g < w'.heap.size := (HO3.out.below hw').block.2; clear hw')
     go_roundw
     case rel =>
      refine ⟨x + 1, by omega, by go_num, ?_, below_put (HB3.out.trans (HW.out.mono z3)) hg1 _ _ _ _⟩
      have e : blankC = mendF l c (p + x) := by
       unfold mendF
       rw [HD.out.2, HBAD.out]
       rfl
      have hpe := HP.out
      have := H1.out.put (p + x) hpx blankC
      rw [← hpe, fillL_set _ _ _ _ _ (by omega) e] at this
      rw [show y * c + (x + 1) = p + x + 1 by rw [HP.out]; omega, ← hpe]
      exact this
     case measure => simp [intOf]; omega
    ·have e1 : ¬ (x : Int) = (c : Int) - 1 := by omega
     have e1b : ((x : Int) == (c : Int) - 1) = false := by simpa using e1
     have hpn : p + x + 1 < l.length := by omega
     have hgn := getC_of hpn
     obtain ⟨_, hA, _, _, _, n2⟩ := (H.out.below HB3.out).get (p + x + 1) _ hgn
     cases hA
     have tn : (ad.add ((p + x + 1) * 3)).block < w3.heap.size := by rw [block_add]; omega
     clear hgn
     by_cases h3 : (getC l (p + x + 1)).h = 2
     ·have hbad : badH l c (p + x) x = false := by unfold badH; rw [h1, h3]; simp [h2]
      have HBAD := Lib.hid hbad
      clear hbad
      rw [h3] at n2
      go_wp2
      go_roundw
      case rel =>
       refine ⟨x + 1, by omega, by go_num, ?_, HB3.out⟩
       have e : l[p + x]? = some (mendF l c (p + x)) := by
        unfold mendF
        rw [HD.out.2, HBAD.out]
        exact HGD.out
       rw [show y * c + (x + 1) = p + x + 1 by rw [HP.out]; omega, ← fillL_skip _ _ _ _ e, HP.out]
       exact HO3.out
      case measure => simp [intOf]; omega
     ·have hbad : badH l c (p + x) x = true := by unfold badH; rw [h1]; simp [h2, h3]
      have HBAD := Lib.hid hbad
      clear hbad
      have e3 : (((getC l (p + x + 1)).h : Int) != 2) = true := by simp; omega
      have e4 : ¬ ((getC l (p + x + 1)).h : Int) = 2 := by omega
      go_wp2_with ((with_reducible refine (blank_any _).mono ?_); rintro e w' ⟨rfl, hw'⟩; have z4 := hw'.size; have H1 := Lib.hid (HO3.out.below hw'); have HW := Lib.hid hw'; obtain ⟨x0, y0, z0, s0, s1, s2, f0, f1, f2⟩ := (HO3.out.below hw').spot (p + x) hpx; have hg5 : g < w'.heap.size := (HO3.out.below hw').block.2; clear hw')
      go_roundw
      case rel =>
       refine ⟨x + 1, by omega, by go_num, ?_, below_put (HB3.out.trans (HW.out.mono z3)) hg1 _ _ _ _⟩
       have e : blankC = mendF l c (p + x) := by
        unfold mendF
        rw [HD.out.2, HBAD.out]
        rfl
       have hpe := HP.out
       have := H1.out.put (p + x) hpx blankC
       rw [← hpe, fillL_set _ _ _ _ _ (by omega) e] at this
       rw [show y * c + (x + 1) = p + x + 1 by rw [HP.out]; omega, ← hpe]
       exact this
      case measure => simp [intOf]; omega
   ·have h1b : (((getC l (p + x)).h : Int) == 1) = false := by simp; omega
    have h1c : ¬ ((getC l (p + x)).h : Int) = 1 := by omega
    by_cases h2 : (getC l (p + x)).h = 2
    ·rw [h2] at t2
     clear h1b h1c
     by_cases h3 : x = 0
     ·have hbad : badH l c (p + x) x = true := by unfold badH; rw [h2]; simp [h3]
      have HBAD := Lib.hid hbad
      clear hbad
      have e1 : ((x : Int) == 0) = true := by simp [h3]
      have H3 := Lib.hid h3
      clear h3
      go_wp2_with ((with_reducible refine (blank_any _).mono ?_); rintro e w' ⟨rfl, hw'⟩; have z4 := hw'.size; have H1 := Lib.hid (HO3.out.below hw'); have HW := Lib.hid hw'; obtain ⟨x0, y0, z0, s0, s1, s2, f0, f1, f2⟩ := (HO3.out.below hw').spot (p + x) hpx; have hg5 : g < w'.heap.size := (HO3.out.below hw').block.2; clear hw')
      go_roundw
      case rel =>
       refine ⟨x + 1, by omega, by go_num, ?_, below_put (HB3.out.trans (HW.out.mono z3)) hg1 _ _ _ _⟩
       have e : blankC = mendF l c (p + x) := by
        unfold mendF
        rw [HD.out.2, HBAD.out]
        rfl
       have hpe := HP.out
       have := H1.out.put (p + x) hpx blankC
       rw [← hpe, fillL_set _ _ _ _ _ (by omega) e] at this
       rw [show y * c + (x + 1) = p + x + 1 by rw [HP.out]; omega, ← hpe]
       exact this
      case measure => simp [intOf]; omega
     ·have e1 : ¬ (x : Int) = 0 := by omega
      have e1b : ((x : Int) == 0) = false := by simpa using e1
      have e1c : 1 ≤ p + x := by omega
      have hpn : p + x - 1 < l.length := by omega
      have hgn := getC_of hpn
      obtain ⟨_, hA, _, _, _, n2⟩ := (H.out.below HB3.out).get (p + x - 1) _ hgn
      cases hA
      have tn : (ad.add ((p + x - 1) * 3)).block < w3.heap.size := by rw [block_add]; omega
      clear hgn
      by_cases h4 : (getC l (p + x - 1)).h = 1
      ·have hbad : badH l c (p + x) x = false := by unfold badH; rw [h2, h4]; simp [h3]
       have HBAD := Lib.hid hbad
       clear hbad
       rw [h4] at n2
       go_wp2
       go_roundw
       case rel =>
        refine ⟨x + 1, by omega, by go_num, ?_, HB3.out⟩
        have e : l[p + x]? = some (mendF l c (p + x)) := by
         unfold mendF
         rw [HD.out.2, HBAD.out]
         exact HGD.out
        rw [show y * c + (x + 1) = p + x + 1 by rw [HP.out]; omega, ← fillL_skip _ _ _ _ e, HP.out]
        exact HO3.out
       case measure => simp [intOf]; omega
      ·have hbad : badH l c (p + x) x = true := by unfold badH; rw [h2]; simp [h3, h4]
       have HBAD := Lib.hid hbad
       clear hbad
       have e3 : (((getC l (p + x - 1)).h : Int) != 1) = true := by simp; omega
       have e4 : ¬ ((getC l (p + x - 1)).h : Int) = 1 := by omega
       go_wp2_with ((with_reducible refine (blank_any _).mono ?_); rintro e w' ⟨rfl, hw'⟩; have z4 := hw'.size; have H1 := Lib.hid (HO3.out.below hw'); have HW := Lib.hid hw'; obtain ⟨x0, y0, z0, s0, s1, s2, f0, f1, f2⟩ := (HO3.out.below hw').spot (p + x) hpx; have hg5 : g < w'.heap.size := (HO3.out.below hw').block.2; clear hw')
       go_roundw
       case rel =>
        refine ⟨x + 1, by omega, by go_num, ?_, below_put (HB3.out.trans (HW.out.mono z3)) hg1 _ _ _ _⟩
        have e : blankC = mendF l c (p + x) := by
         unfold mendF
         rw [HD.out.2, HBAD.out]
         rfl
        have hpe := HP.out
        have := H1.out.put (p + x) hpx blankC
        rw [← hpe, fillL_set _ _ _ _ _ (by omega) e] at this
        rw [show y * c + (x + 1) = p + x + 1 by rw [HP.out]; omega, ← hpe]
        exact this
       case measure => simp [intOf]; omega
    ·have hbad : badH l c (p + x) x = false := by unfold badH; simp [h1, h2]
     have HBAD := Lib.hid hbad
     clear hbad
     have h2b : (((getC l (p + x)).h : Int) == 2) = false := by simp; omega
     have h2c : ¬ ((getC l (p + x)).h : Int) = 2 := by omega
     go_wp2
     go_roundw
     case rel =>
      refine ⟨x + 1, by omega, by go_num, ?_, HB3.out⟩
      have e : l[p + x]? = some (mendF l c (p + x)) := by
       unfold mendF
       rw [HD.out.2, HBAD.out]
       exact HGD.out
      rw [show y * c + (x + 1) = p + x + 1 by rw [HP.out]; omega, ← fillL_skip _ _ _ _ e, HP.out]
      exact HO3.out
     case measure => simp [intOf]; omega
  ·obtain rfl : c = x := by omega
   go_wp2
   go_ret
   exact ⟨_, rfl, HO3.out, HB3.out⟩
theorem CellsPost.up {l : List Cl} {w w1 w2 : World} {e : Ending} (h : CellsPost l w1 e w2) (hb : Below w.heap.size w w1) : CellsPost l w e w2 := by
 obtain ⟨v, he, ho, hb2⟩ := h
 have hz := hb.size
 exact ⟨v, he, ho.lower hz, hb.trans (hb2.mono hz)⟩
theorem Mend_no (v : Value) (l : List Cl) (cols y : Int) (w : World) (h : CS w w.heap.size v l) (hl : l.length ≤ 1099511627776) (hb : gPlace l.length cols y 0 = false) :
  Calls Tryz.prog 86 #[v, .int .i64 cols, .int .i64 y] w (CellsPost l w) := by
 obtain ⟨A, k, rfl, h1, h2⟩ := h.form
 have H := Lib.hid h
 have HP := Lib.hid hb
 clear h hb
 go_enter Tryz.func86, Tryz.ntmps86
 go_wp2_with (first | ((with_reducible refine (own_any _ l _ H.out hl).mono ?_); rintro e w1 ⟨v1, rfl, o1, b1⟩; have z1 := b1.size; have HC := Lib.hid ((H.out.below b1).more z1); have H1 := Lib.hid o1; have HB := Lib.hid b1; clear o1 b1) | ((with_reducible refine (place_no _ l cols y 0 _ HC.out hl HP.out).mono ?_); rintro e w' ⟨rfl, rfl⟩))
 go_ret
 exact ⟨v1, rfl, H1.out, HB.out⟩
theorem Mend_any (v : Value) (l : List Cl) (cols y : Int) (w : World) (h : CS w w.heap.size v l) (hl : l.length ≤ 1099511627776) :
  Calls Tryz.prog 86 #[v, .int .i64 cols, .int .i64 y] w (CellsPost (mendL l cols y) w) := by
 cases hb : gPlace l.length cols y 0 with
 | false =>
  unfold mendL
  rw [hb]
  exact Mend_no v l cols y w h hl hb
 | true =>
  unfold mendL
  rw [hb]
  obtain ⟨r, c, yy, xx, rfl, rfl, _, hG, hy, _⟩ := gPlace_of hb
  simp only [Int.toNat_natCast, if_true]
  exact Mend_yes v l r c yy w h hG hy
def RowRel (l : List Cl) (f : Nat → Cl) (c y x : Nat) (hi : Nat) (w : World) (base : Nat) (g cap : Nat) (i : Value) (wr : World) : Prop :=
 ∃ j : Nat, x ≤ j ∧ (j ≤ hi ∨ j = x) ∧ i = .int .i64 (j : Int) ∧ OC wr base (.slice (some ⟨g, 0, none⟩) l.length cap) (fillL l f (y * c + x) (y * c + j)) ∧ Below w.heap.size w wr
theorem Insert_yes (v : Value) (l : List Cl) (r c y x0 : Nat) (n : Int) (w : World) (h : CS w w.heap.size v l) (hg : GOk l.length r c) (hy : y < r) (hx0 : x0 ≤ c) :
  Calls Tryz.prog 105 #[v, .int .i64 (c : Int), .int .i64 (y : Int), .int .i64 (x0 : Int), .int .i64 n] w (CellsPost (mendL (fillL l (insF l (y * c + x0) (capN n)) (y * c + x0) (y * c + c)) c y) w) := by
 obtain ⟨A, k, rfl, h1, h2⟩ := h.form
 have H := Lib.hid h
 have HG := Lib.hid hg
 have c1 := hg.c1
 have c2 := hg.c2
 have r2 := hg.r2
 have hn := hg.n
 have hrc := rc_le hg.r2 hg.c2
 have hlen : l.length ≤ 1000000 := by omega
 have HN := Lib.hid hn
 clear h hg hn
 go_enter Tryz.func105, Tryz.ntmps105
 go_upto_region 5 with (first | ((with_reducible refine (own_any _ l _ H.out (by omega)).mono ?_); rintro e w1 ⟨v1, rfl, o1, b1⟩; have z1 := b1.size; have HC := Lib.hid ((H.out.below b1).more z1); have HO := Lib.hid o1; have HB := Lib.hid b1; clear o1 b1) | ((with_reducible refine (place_yes _ l r c (y : Int) (x0 : Int) _ HC.out HG.out (by omega) (by omega) (by omega) (by omega)).mono ?_); rintro e w' ⟨rfl, rfl⟩))
 rw [cap_if]
 have hm := capN_le n
 generalize capN n = m at *
 generalize (if n < 0 then 0 else n) = q
 have hpos : 0 < l.length := by rw [HN.out]; exact Nat.mul_pos (by omega) (by omega)
 obtain ⟨g, cap, rfl, hg1, hg2, hg3, hg4⟩ := HO.out.open_ hpos
 go_wp2
 go_loopw [12] (fun i wr => RowRel l (insF l (y * c + x0) m) c y x0 c w w.heap.size g cap i wr) (fun i _ => c - (intOf i).toNat)
 case atStart => exact ⟨x0, Nat.le_refl _, .inr rfl, rfl, by rw [fillL_none _ _ _ _ (Nat.le_refl _)]; exact HO.out, HB.out⟩
 case round =>
  generalize wr = w3 at *
  obtain ⟨x, hx1, hx, rfl, ho, hb⟩ := hrel
  have HO3 := Lib.hid ho
  have HB3 := Lib.hid hb
  have z3 := hb.size
  clear ho hb
  by_cases hxc : x < c
  ·obtain ⟨p, hp⟩ : ∃ p : Nat, p = y * c := ⟨_, rfl⟩
   have hyc : (y : Int) * (c : Int) = (p : Int) := by rw [hp]; simp
   have hpx : p + x < l.length := by rw [hp, HN.out]; exact rc_lt (by omega) hxc
   have HP := Lib.hid hp
   clear hp
   by_cases hym : x0 + m ≤ x
   ·have hpx2 : p + x - m < l.length := by omega
    have hm2 : m ≤ p + x := by omega
    have hym' : (x0 : Int) ≤ (x : Int) - (m : Int) := by omega
    obtain ⟨d, hd⟩ : ∃ d, l[p + x - m]? = some d := ⟨_, List.getElem?_eq_getElem hpx2⟩
    have HD2 := Lib.hid hd
    clear hd
    obtain ⟨ad, hA, hab, -⟩ := H.out.get (p + x - m) d HD2.out
    subst hA
    go_wp2_with ((with_reducible refine (blank_any _).mono ?_); rintro e w' ⟨rfl, hw'⟩; have z4 := hw'.size; have H1 := Lib.hid (HO3.out.below hw'); have HW := Lib.hid hw'; obtain ⟨q0, q1, q2, s0, s1, s2, f0, f1, f2⟩ := (HO3.out.below hw').spot (p + x) hpx; obtain ⟨_, hA, hab2, t0, t1, t2⟩ := ((H.out.below HB3.out).below (hw'.mono z3)).get (p + x - m) d HD2.out; cases hA; have tb : (ad.add ((p + x - m) * 3)).block < w'.heap.size := (by rw [block_add]; omega); have hg5 : g < w'.heap.size := (HO3.out.below hw').block.2; clear hw')
    go_roundw
    case rel =>
     refine ⟨x + 1, by omega, by omega, by go_num, ?_, (below_put (HB3.out.trans (HW.out.mono z3)) hg1 _ _ _ _).alloc (by simp; omega) _⟩
     have e : d = insF l (p + x0) m (p + x) := by
      unfold insF
      rw [if_pos (by omega)]
      have := getC_of hpx2
      rw [HD2.out] at this
      exact Option.some.inj this
     have hpe := HP.out
     have := (H1.out.put (p + x) hpx d).alloc (.cells #[.int .i32 d.r, .int .u16 (d.a : Int), .int .u8 (d.h : Int)] 65)
     rw [← hpe, fillL_set _ _ _ _ _ (by omega) e] at this
     rw [← hpe, show p + (x + 1) = p + x + 1 by omega]
     exact this
    case measure => simp [intOf]; omega
   ·have hym' : (x : Int) - (m : Int) < (x0 : Int) := by omega
    go_wp2_with ((with_reducible refine (blank_any _).mono ?_); rintro e w' ⟨rfl, hw'⟩; have z4 := hw'.size; have H1 := Lib.hid (HO3.out.below hw'); have HW := Lib.hid hw'; obtain ⟨q0, q1, q2, s0, s1, s2, f0, f1, f2⟩ := (HO3.out.below hw').spot (p + x) hpx; have hg5 : g < w'.heap.size := (HO3.out.below hw').block.2; clear hw')
    go_roundw
    case rel =>
     refine ⟨x + 1, by omega, by omega, by go_num, ?_, (below_put (HB3.out.trans (HW.out.mono z3)) hg1 _ _ _ _).alloc (by simp; omega) _⟩
     have e : blankC = insF l (p + x0) m (p + x) := by
      unfold insF
      rw [if_neg (by omega)]
     have hpe := HP.out
     have := (H1.out.put (p + x) hpx blankC).alloc (.cells #[.int .i32 32, .int .u16 0, .int .u8 0] 65)
     rw [← hpe, fillL_set _ _ _ _ _ (by omega) e] at this
     rw [← hpe, show p + (x + 1) = p + x + 1 by omega]
     exact this
    case measure => simp [intOf]; omega
  ·have hxe : c = x := by omega
   subst hxe
   have HM := Lib.hid HO3.out.cs
   go_wp2_with ((with_reducible refine (Mend_any _ (fillL l (insF l (y * c + x0) m) (y * c + x0) (y * c + c)) c y _ HM.out (by rw [fillL_len]; omega)).mono ?_); rintro e w4 ⟨v4, rfl, o4, b4⟩)
   go_ret
   exact CellsPost.up ⟨_, rfl, o4, b4⟩ HB3.out
theorem Insert_no (v : Value) (l : List Cl) (cols y x n : Int) (w : World) (h : CS w w.heap.size v l) (hl : l.length ≤ 1099511627776) (hb : gPlace l.length cols y x = false) :
  Calls Tryz.prog 105 #[v, .int .i64 cols, .int .i64 y, .int .i64 x, .int .i64 n] w (CellsPost l w) := by
 obtain ⟨A, k, rfl, h1, h2⟩ := h.form
 have H := Lib.hid h
 have HP := Lib.hid hb
 clear h hb
 go_enter Tryz.func105, Tryz.ntmps105
 go_wp2_with (first | ((with_reducible refine (own_any _ l _ H.out hl).mono ?_); rintro e w1 ⟨v1, rfl, o1, b1⟩; have z1 := b1.size; have HC := Lib.hid ((H.out.below b1).more z1); have H1 := Lib.hid o1; have HB := Lib.hid b1; clear o1 b1) | ((with_reducible refine (place_no _ l cols y x _ HC.out hl HP.out).mono ?_); rintro e w' ⟨rfl, rfl⟩))
 go_ret
 exact ⟨v1, rfl, H1.out, HB.out⟩
theorem Insert_any (v : Value) (l : List Cl) (cols y x n : Int) (w : World) (h : CS w w.heap.size v l) (hl : l.length ≤ 1099511627776) :
  Calls Tryz.prog 105 #[v, .int .i64 cols, .int .i64 y, .int .i64 x, .int .i64 n] w (CellsPost (insertL l cols y x n) w) := by
 cases hb : gPlace l.length cols y x with
 | false =>
  unfold insertL
  rw [hb]
  exact Insert_no v l cols y x n w h hl hb
 | true =>
  unfold insertL
  rw [hb]
  obtain ⟨r, c, yy, xx, rfl, rfl, rfl, hG, hy, hx⟩ := gPlace_of hb
  simp only [Int.toNat_natCast, if_true]
  exact Insert_yes v l r c yy xx n w h hG hy hx
theorem Delete_yes (v : Value) (l : List Cl) (r c y x0 : Nat) (n : Int) (w : World) (h : CS w w.heap.size v l) (hg : GOk l.length r c) (hy : y < r) (hx0 : x0 ≤ c) :
  Calls Tryz.prog 106 #[v, .int .i64 (c : Int), .int .i64 (y : Int), .int .i64 (x0 : Int), .int .i64 n] w (CellsPost (mendL (fillL l (delF l (y * c + c) (capN n)) (y * c + x0) (y * c + c)) c y) w) := by
 obtain ⟨A, k, rfl, h1, h2⟩ := h.form
 have H := Lib.hid h
 have HG := Lib.hid hg
 have c1 := hg.c1
 have c2 := hg.c2
 have r2 := hg.r2
 have hn := hg.n
 have hrc := rc_le hg.r2 hg.c2
 have hlen : l.length ≤ 1000000 := by omega
 have HN := Lib.hid hn
 clear h hg hn
 go_enter Tryz.func106, Tryz.ntmps106
 go_upto_region 5 with (first | ((with_reducible refine (own_any _ l _ H.out (by omega)).mono ?_); rintro e w1 ⟨v1, rfl, o1, b1⟩; have z1 := b1.size; have HC := Lib.hid ((H.out.below b1).more z1); have HO := Lib.hid o1; have HB := Lib.hid b1; clear o1 b1) | ((with_reducible refine (place_yes _ l r c (y : Int) (x0 : Int) _ HC.out HG.out (by omega) (by omega) (by omega) (by omega)).mono ?_); rintro e w' ⟨rfl, rfl⟩))
 rw [cap_if]
 have hm := capN_le n
 generalize capN n = m at *
 generalize (if n < 0 then 0 else n) = q
 have hpos : 0 < l.length := by rw [HN.out]; exact Nat.mul_pos (by omega) (by omega)
 obtain ⟨g, cap, rfl, hg1, hg2, hg3, hg4⟩ := HO.out.open_ hpos
 go_wp2
 go_loopw [12] (fun i wr => RowRel l (delF l (y * c + c) m) c y x0 c w w.heap.size g cap i wr) (fun i _ => c - (intOf i).toNat)
 case atStart => exact ⟨x0, Nat.le_refl _, .inr rfl, rfl, by rw [fillL_none _ _ _ _ (Nat.le_refl _)]; exact HO.out, HB.out⟩
 case round =>
  generalize wr = w3 at *
  obtain ⟨x, hx1, hx, rfl, ho, hb⟩ := hrel
  have HO3 := Lib.hid ho
  have HB3 := Lib.hid hb
  have z3 := hb.size
  clear ho hb
  by_cases hxc : x < c
  ·obtain ⟨p, hp⟩ : ∃ p : Nat, p = y * c := ⟨_, rfl⟩
   have hyc : (y : Int) * (c : Int) = (p : Int) := by rw [hp]; simp
   have hpx : p + x < l.length := by rw [hp, HN.out]; exact rc_lt (by omega) hxc
   have HP := Lib.hid hp
   clear hp
   by_cases hym : x + m < c
   ·have hpx2 : p + x + m < l.length := by
     have := rc_lt (r := r) hy hym
     rw [← HP.out, ← HN.out] at this
     omega
    have hym' : (x : Int) + (m : Int) < (c : Int) := by omega
    obtain ⟨d, hd⟩ : ∃ d, l[p + x + m]? = some d := ⟨_, List.getElem?_eq_getElem hpx2⟩
    have HD2 := Lib.hid hd
    clear hd
    obtain ⟨ad, hA, hab, -⟩ := H.out.get (p + x + m) d HD2.out
    subst hA
    go_wp2_with ((with_reducible refine (blank_any _).mono ?_); rintro e w' ⟨rfl, hw'⟩; have z4 := hw'.size; have H1 := Lib.hid (HO3.out.below hw'); have HW := Lib.hid hw'; obtain ⟨q0, q1, q2, s0, s1, s2, f0, f1, f2⟩ := (HO3.out.below hw').spot (p + x) hpx; obtain ⟨_, hA, hab2, t0, t1, t2⟩ := ((H.out.below HB3.out).below (hw'.mono z3)).get (p + x + m) d HD2.out; cases hA; have tb : (ad.add ((p + x + m) * 3)).block < w'.heap.size := (by rw [block_add]; omega); have hg5 : g < w'.heap.size := (HO3.out.below hw').block.2; clear hw')
    go_roundw
    case rel =>
     refine ⟨x + 1, by omega, by omega, by go_num, ?_, (below_put (HB3.out.trans (HW.out.mono z3)) hg1 _ _ _ _).alloc (by simp; omega) _⟩
     have e : d = delF l (p + c) m (p + x) := by
      unfold delF
      rw [if_pos (by omega)]
      have := getC_of hpx2
      rw [HD2.out] at this
      exact Option.some.inj this
     have hpe := HP.out
     have := (H1.out.put (p + x) hpx d).alloc (.cells #[.int .i32 d.r, .int .u16 (d.a : Int), .int .u8 (d.h : Int)] 65)
     rw [← hpe, fillL_set _ _ _ _ _ (by omega) e] at this
     rw [← hpe, show p + (x + 1) = p + x + 1 by omega]
     exact this
    case measure => simp [intOf]; omega
   ·have hym' : (c : Int) ≤ (x : Int) + (m : Int) := by omega
    go_wp2_with ((with_reducible refine (blank_any _).mono ?_); rintro e w' ⟨rfl, hw'⟩; have z4 := hw'.size; have H1 := Lib.hid (HO3.out.below hw'); have HW := Lib.hid hw'; obtain ⟨q0, q1, q2, s0, s1, s2, f0, f1, f2⟩ := (HO3.out.below hw').spot (p + x) hpx; have hg5 : g < w'.heap.size := (HO3.out.below hw').block.2; clear hw')
    go_roundw
    case rel =>
     refine ⟨x + 1, by omega, by omega, by go_num, ?_, (below_put (HB3.out.trans (HW.out.mono z3)) hg1 _ _ _ _).alloc (by simp; omega) _⟩
     have e : blankC = delF l (p + c) m (p + x) := by
      unfold delF
      rw [if_neg (by omega)]
     have hpe := HP.out
     have := (H1.out.put (p + x) hpx blankC).alloc (.cells #[.int .i32 32, .int .u16 0, .int .u8 0] 65)
     rw [← hpe, fillL_set _ _ _ _ _ (by omega) e] at this
     rw [← hpe, show p + (x + 1) = p + x + 1 by omega]
     exact this
    case measure => simp [intOf]; omega
  ·have hxe : c = x := by omega
   subst hxe
   have HM := Lib.hid HO3.out.cs
   go_wp2_with ((with_reducible refine (Mend_any _ (fillL l (delF l (y * c + c) m) (y * c + x0) (y * c + c)) c y _ HM.out (by rw [fillL_len]; omega)).mono ?_); rintro e w4 ⟨v4, rfl, o4, b4⟩)
   go_ret
   exact CellsPost.up ⟨_, rfl, o4, b4⟩ HB3.out
theorem Delete_no (v : Value) (l : List Cl) (cols y x n : Int) (w : World) (h : CS w w.heap.size v l) (hl : l.length ≤ 1099511627776) (hb : gPlace l.length cols y x = false) :
  Calls Tryz.prog 106 #[v, .int .i64 cols, .int .i64 y, .int .i64 x, .int .i64 n] w (CellsPost l w) := by
 obtain ⟨A, k, rfl, h1, h2⟩ := h.form
 have H := Lib.hid h
 have HP := Lib.hid hb
 clear h hb
 go_enter Tryz.func106, Tryz.ntmps106
 go_wp2_with (first | ((with_reducible refine (own_any _ l _ H.out hl).mono ?_); rintro e w1 ⟨v1, rfl, o1, b1⟩; have z1 := b1.size; have HC := Lib.hid ((H.out.below b1).more z1); have H1 := Lib.hid o1; have HB := Lib.hid b1; clear o1 b1) | ((with_reducible refine (place_no _ l cols y x _ HC.out hl HP.out).mono ?_); rintro e w' ⟨rfl, rfl⟩))
 go_ret
 exact ⟨v1, rfl, H1.out, HB.out⟩
theorem Delete_any (v : Value) (l : List Cl) (cols y x n : Int) (w : World) (h : CS w w.heap.size v l) (hl : l.length ≤ 1099511627776) :
  Calls Tryz.prog 106 #[v, .int .i64 cols, .int .i64 y, .int .i64 x, .int .i64 n] w (CellsPost (deleteL l cols y x n) w) := by
 cases hb : gPlace l.length cols y x with
 | false =>
  unfold deleteL
  rw [hb]
  exact Delete_no v l cols y x n w h hl hb
 | true =>
  unfold deleteL
  rw [hb]
  obtain ⟨r, c, yy, xx, rfl, rfl, rfl, hG, hy, hx⟩ := gPlace_of hb
  simp only [Int.toNat_natCast, if_true]
  exact Delete_yes v l r c yy xx n w h hG hy hx
theorem capc_if (n : Int) (c : Nat) : (if (c : Int) < (if n < 0 then 0 else n) then (c : Int) else (if n < 0 then 0 else n)) = (capC n (c : Int) : Int) := by
 unfold capC
 by_cases h : n < 0
 ·simp only [h, if_true]
  split <;> omega
 ·simp only [h, if_false]
  split <;> omega
theorem capC_le (n : Int) (c : Nat) : capC n (c : Int) ≤ c := by unfold capC; omega
theorem Erase_yes (v : Value) (l : List Cl) (r c y : Nat) (fr n : Int) (w : World) (h : CS w w.heap.size v l) (hg : GOk l.length r c) (hy : y < r) :
  Calls Tryz.prog 107 #[v, .int .i64 (c : Int), .int .i64 (y : Int), .int .i64 fr, .int .i64 n] w (CellsPost (mendL (fillL l (fun _ => blankC) (y * c + capC fr (c : Int)) (y * c + capC n (c : Int))) c y) w) := by
 obtain ⟨A, k, rfl, h1, h2⟩ := h.form
 have H := Lib.hid h
 have HG := Lib.hid hg
 have c1 := hg.c1
 have c2 := hg.c2
 have r2 := hg.r2
 have hn := hg.n
 have hrc := rc_le hg.r2 hg.c2
 have hlen : l.length ≤ 1000000 := by omega
 have HN := Lib.hid hn
 have hm0 := capC_le fr c
 have hm := capC_le n c
 obtain ⟨x0, hx0⟩ : ∃ x0 : Nat, x0 = capC fr (c : Int) := ⟨_, rfl⟩
 obtain ⟨m, hmm⟩ : ∃ m : Nat, m = capC n (c : Int) := ⟨_, rfl⟩
 rw [← hx0] at hm0 ⊢
 rw [← hmm] at hm ⊢
 have HX0 := Lib.hid hx0
 have HMM := Lib.hid hmm
 clear h hg hn hx0 hmm
 go_enter Tryz.func107, Tryz.ntmps107
 go_upto_region 5 with (first | ((with_reducible refine (own_any _ l _ H.out (by omega)).mono ?_); rintro e w1 ⟨v1, rfl, o1, b1⟩; have z1 := b1.size; have HC := Lib.hid ((H.out.below b1).more z1); have HO := Lib.hid o1; have HB := Lib.hid b1; clear o1 b1) | ((with_reducible refine (place_yes _ l r c (y : Int) 0 _ HC.out HG.out (by omega) (by omega) (by omega) (by omega)).mono ?_); rintro e w' ⟨rfl, rfl⟩))
 rw [capc_if, capc_if, ← HX0.out, ← HMM.out]
 generalize (if fr < 0 then 0 else fr) = q
 generalize (if n < 0 then 0 else n) = q2
 have hpos : 0 < l.length := by rw [HN.out]; exact Nat.mul_pos (by omega) (by omega)
 obtain ⟨g, cap, rfl, hg1, hg2, hg3, hg4⟩ := HO.out.open_ hpos
 go_wp2
 go_loopw [12] (fun i wr => RowRel l (fun _ => blankC) c y x0 m w w.heap.size g cap i wr) (fun i _ => m - (intOf i).toNat)
 case atStart => exact ⟨x0, Nat.le_refl _, .inr rfl, rfl, by rw [fillL_none _ _ _ _ (Nat.le_refl _)]; exact HO.out, HB.out⟩
 case round =>
  generalize wr = w3 at *
  obtain ⟨x, hx1, hx, rfl, ho, hb⟩ := hrel
  have HO3 := Lib.hid ho
  have HB3 := Lib.hid hb
  have z3 := hb.size
  clear ho hb
  by_cases hxc : x < m
  ·obtain ⟨p, hp⟩ : ∃ p : Nat, p = y * c := ⟨_, rfl⟩
   have hyc : (y : Int) * (c : Int) = (p : Int) := by rw [hp]; simp
   have hpx : p + x < l.length := by rw [hp, HN.out]; exact rc_lt (by omega) (by omega)
   have HP := Lib.hid hp
   clear hp
   go_wp2_with ((with_reducible refine (blank_any _).mono ?_); rintro e w' ⟨rfl, hw'⟩; have z4 := hw'.size; have H1 := Lib.hid (HO3.out.below hw'); have HW := Lib.hid hw'; obtain ⟨q0, q1, q2, s0, s1, s2, f0, f1, f2⟩ := (HO3.out.below hw').spot (p + x) hpx; have hg5 : g < w'.heap.size := (HO3.out.below hw').block.2; clear hw')
   go_roundw
   case rel =>
    refine ⟨x + 1, by omega, by omega, by go_num, ?_, below_put (HB3.out.trans (HW.out.mono z3)) hg1 _ _ _ _⟩
    have hpe := HP.out
    have := H1.out.put (p + x) hpx blankC
    rw [← hpe, fillL_set _ _ _ _ _ (by omega) rfl] at this
    rw [← hpe, show p + (x + 1) = p + x + 1 by omega]
    exact this
   case measure => simp [intOf]; omega
  ·have hM : OC w3 w.heap.size (.slice (some ⟨g, 0, none⟩) l.length cap) (fillL l (fun _ => blankC) (y * c + x0) (y * c + m)) := by
    have := HO3.out
    by_cases e : m = x
    ·rw [← e] at this; exact this
    ·have e2 : x = x0 := by omega
     rw [e2, fillL_none _ _ _ _ (Nat.le_refl _)] at this
     rw [fillL_none _ _ _ _ (by omega)]
     exact this
   have HM := Lib.hid hM.cs
   clear hM
   go_wp2_with ((with_reducible refine (Mend_any _ (fillL l (fun _ => blankC) (y * c + x0) (y * c + m)) c y _ HM.out (by rw [fillL_len]; omega)).mono ?_); rintro e w4 ⟨v4, rfl, o4, b4⟩)
   go_ret
   exact CellsPost.up ⟨_, rfl, o4, b4⟩ HB3.out
theorem Erase_no (v : Value) (l : List Cl) (cols y x n : Int) (w : World) (h : CS w w.heap.size v l) (hl : l.length ≤ 1099511627776) (hb : gPlace l.length cols y 0 = false) :
  Calls Tryz.prog 107 #[v, .int .i64 cols, .int .i64 y, .int .i64 x, .int .i64 n] w (CellsPost l w) := by
 obtain ⟨A, k, rfl, h1, h2⟩ := h.form
 have H := Lib.hid h
 have HP := Lib.hid hb
 clear h hb
 go_enter Tryz.func107, Tryz.ntmps107
 go_wp2_with (first | ((with_reducible refine (own_any _ l _ H.out hl).mono ?_); rintro e w1 ⟨v1, rfl, o1, b1⟩; have z1 := b1.size; have HC := Lib.hid ((H.out.below b1).more z1); have H1 := Lib.hid o1; have HB := Lib.hid b1; clear o1 b1) | ((with_reducible refine (place_no _ l cols y 0 _ HC.out hl HP.out).mono ?_); rintro e w' ⟨rfl, rfl⟩))
 go_ret
 exact ⟨v1, rfl, H1.out, HB.out⟩
theorem Erase_any (v : Value) (l : List Cl) (cols y x n : Int) (w : World) (h : CS w w.heap.size v l) (hl : l.length ≤ 1099511627776) :
  Calls Tryz.prog 107 #[v, .int .i64 cols, .int .i64 y, .int .i64 x, .int .i64 n] w (CellsPost (eraseL l cols y x n) w) := by
 cases hb : gPlace l.length cols y 0 with
 | false =>
  unfold eraseL
  rw [hb]
  exact Erase_no v l cols y x n w h hl hb
 | true =>
  unfold eraseL
  rw [hb]
  obtain ⟨r, c, yy, xx, rfl, rfl, _, hG, hy, hx⟩ := gPlace_of hb
  simp only [Int.toNat_natCast, if_true]
  exact Erase_yes v l r c yy x n w h hG hy
def RowW (l : List Cl) (c y : Nat) : Prop := ∀ x, x < c → badH l c (y * c + x) x = false
def Whole (l : List Cl) (r c : Nat) : Prop := ∀ y, y < r → RowW l c y
theorem badH_no {l : List Cl} {c i x : Nat} : badH l c i x = false ↔ ((getC l i).h = 1 → x + 1 ≠ c ∧ (getC l (i + 1)).h = 2) ∧ ((getC l i).h = 2 → x ≠ 0 ∧ (getC l (i - 1)).h = 1) := by
 unfold badH
 generalize (getC l i).h = a
 generalize (getC l (i + 1)).h = b
 generalize (getC l (i - 1)).h = d
 simp only [Bool.or_eq_false_iff, Bool.and_eq_false_iff, decide_eq_false_iff_not]
 omega
theorem RowW.same {l m : List Cl} {c y y' : Nat} (h : RowW l c y') (he : ∀ x, x < c → getC m (y * c + x) = getC l (y' * c + x)) : RowW m c y := by
 intro x hx
 have h1 := badH_no.1 (h x hx)
 refine badH_no.2 ⟨fun e => ?_, fun e => ?_⟩
 ·rw [he x hx] at e
  obtain ⟨a, b⟩ := h1.1 e
  refine ⟨a, ?_⟩
  rw [Nat.add_assoc] at b ⊢
  rw [he (x + 1) (by omega)]
  exact b
 ·rw [he x hx] at e
  obtain ⟨a, b⟩ := h1.2 e
  refine ⟨a, ?_⟩
  rw [show y' * c + x - 1 = y' * c + (x - 1) by omega] at b
  rw [show y * c + x - 1 = y * c + (x - 1) by omega, he (x - 1) (by omega)]
  exact b
theorem RowW.blank {m : List Cl} {c y : Nat} (he : ∀ x, x < c → getC m (y * c + x) = blankC) : RowW m c y := by
 intro x hx
 refine badH_no.2 ⟨fun e => ?_, fun e => ?_⟩
 ·rw [he x hx] at e; exact absurd e (by decide)
 ·rw [he x hx] at e; exact absurd e (by decide)
theorem getC_out {l : List Cl} {i : Nat} (h : l.length ≤ i) : getC l i = blankC := by
 unfold getC List.getD
 rw [List.getElem?_eq_none h]
 rfl
theorem fill_getC (l : List Cl) (f : Nat → Cl) (lo hi i : Nat) : getC (fillL l f lo hi) i = if i < l.length ∧ lo ≤ i ∧ i < hi then f i else getC l i := by
 unfold getC List.getD
 rw [fillL_get]
 by_cases h : i < l.length
 ·rw [if_pos h]
  by_cases h2 : lo ≤ i ∧ i < hi
  ·rw [if_pos h2, if_pos ⟨h, h2⟩]
   rfl
  ·rw [if_neg h2, if_neg (fun e => h2 e.2)]
 ·rw [if_neg h, if_neg (fun e => h e.1), List.getElem?_eq_none (by omega)]
theorem fill_blankC (l : List Cl) (lo hi i : Nat) : getC (fillL l (fun _ => blankC) lo hi) i = if lo ≤ i ∧ i < hi then blankC else getC l i := by
 rw [fill_getC]
 by_cases h : i < l.length
 ·by_cases h2 : lo ≤ i ∧ i < hi
  ·rw [if_pos ⟨h, h2⟩, if_pos h2]
  ·rw [if_neg (fun e => h2 e.2), if_neg h2]
 ·rw [if_neg (fun e => h e.1), getC_out (by omega)]
  split <;> rfl
theorem getC_ext {l m : List Cl} (hl : m.length = l.length) (h : ∀ i, i < l.length → getC m i = getC l i) : m = l := by
 apply List.ext_getElem?
 intro i
 by_cases hi : i < l.length
 ·rw [getC_of hi, getC_of (by omega), h i hi]
 ·rw [List.getElem?_eq_none (by omega), List.getElem?_eq_none (by omega)]
theorem row_ge {lo y c x : Nat} (hx : x < c) : lo * c ≤ y * c + x ↔ lo ≤ y := by
 constructor
 ·intro h
  rcases Nat.lt_or_ge y lo with h2 | h2
  ·have := Nat.mul_le_mul_right c h2
   rw [Nat.succ_eq_add_one, Nat.add_mul] at this
   omega
  ·exact h2
 ·intro h
  have := Nat.mul_le_mul_right c h
  omega
theorem row_other {c y y' x i : Nat} (hx : x < c) (hne : y' ≠ y) (h1 : y * c ≤ i) (h2 : i < y * c + c) : i ≠ y' * c + x := by
 intro e
 rcases Nat.lt_or_ge y' y with h | h
 ·have := Nat.mul_le_mul_right c h
  rw [Nat.succ_eq_add_one, Nat.add_mul] at this
  omega
 ·have h3 : y + 1 ≤ y' := by omega
  have := Nat.mul_le_mul_right c h3
  rw [Nat.add_mul] at this
  omega
theorem fill_other {l : List Cl} {f : Nat → Cl} {c y y' x lo hi : Nat} (hx : x < c) (hne : y' ≠ y) (h1 : y * c ≤ lo) (h2 : hi ≤ y * c + c) : getC (fillL l f lo hi) (y' * c + x) = getC l (y' * c + x) := by
 rw [fill_getC]
 by_cases h : y' * c + x < l.length ∧ lo ≤ y' * c + x ∧ y' * c + x < hi
 ·exact absurd rfl (row_other (i := y' * c + x) hx hne (by omega) (by omega))
 ·rw [if_neg h]
theorem gOk_pos {l : List Cl} {r c : Nat} (hg : GOk l.length r c) (top bottom : Int) : (gOk l.length (c : Int) = true ∧ 0 ≤ top ∧ bottom < (l.length : Int) / (c : Int) ∧ top ≤ bottom) ↔ (0 ≤ top ∧ bottom < (r : Int) ∧ top ≤ bottom) := by
 rw [hg.quo.1, hg.ok]
 simp
theorem upL_getC {l : List Cl} {r c : Nat} (hg : GOk l.length r c) (top bottom : Nat) (n : Int) (htb : top ≤ bottom) (hb : bottom < r) (y x : Nat) (hy : y < r) (hx : x < c) :
  getC (upL l c top bottom n) (y * c + x) = if top ≤ y ∧ y ≤ bottom then (if y + capN n ≤ bottom then getC l ((y + capN n) * c + x) else blankC) else getC l (y * c + x) := by
 have hlt := rc_lt hy hx
 rw [← hg.n] at hlt
 unfold upL
 rw [if_pos ((gOk_pos hg _ _).2 ⟨by omega, by omega, by omega⟩), fill_getC]
 simp only [Int.toNat_natCast]
 have e1 := row_ge (lo := top) (y := y) hx
 have e2 := row_ge (lo := bottom + 1) (y := y) hx
 by_cases h : top ≤ y ∧ y ≤ bottom
 ·rw [if_pos h, if_pos ⟨hlt, e1.2 h.1, by have := mt e2.1 (by omega); omega⟩]
  unfold upF
  rw [(rc_div y c x hx).1]
  rw [show y * c + x + capN n * c = (y + capN n) * c + x by rw [Nat.add_mul]; omega]
 ·rw [if_neg h, if_neg (fun e => h ⟨e1.1 e.2.1, by have := mt e2.2 (by omega); omega⟩)]
theorem downL_getC {l : List Cl} {r c : Nat} (hg : GOk l.length r c) (top bottom : Nat) (n : Int) (htb : top ≤ bottom) (hb : bottom < r) (y x : Nat) (hy : y < r) (hx : x < c) :
  getC (downL l c top bottom n) (y * c + x) = if top ≤ y ∧ y ≤ bottom then (if top + capN n ≤ y then getC l ((y - capN n) * c + x) else blankC) else getC l (y * c + x) := by
 have hlt := rc_lt hy hx
 rw [← hg.n] at hlt
 unfold downL
 rw [if_pos ((gOk_pos hg _ _).2 ⟨by omega, by omega, by omega⟩), fill_getC]
 simp only [Int.toNat_natCast]
 have e1 := row_ge (lo := top) (y := y) hx
 have e2 := row_ge (lo := bottom + 1) (y := y) hx
 by_cases h : top ≤ y ∧ y ≤ bottom
 ·rw [if_pos h, if_pos ⟨hlt, e1.2 h.1, by have := mt e2.1 (by omega); omega⟩]
  unfold downF
  rw [(rc_div y c x hx).1]
  by_cases h3 : top + capN n ≤ y
  ·rw [if_pos h3, if_pos h3]
   congr 1
   have : (y - capN n) * c + capN n * c = y * c := by rw [← Nat.add_mul, Nat.sub_add_cancel (by omega)]
   omega
  ·rw [if_neg h3, if_neg h3]
 ·rw [if_neg h, if_neg (fun e => h ⟨e1.1 e.2.1, by have := mt e2.2 (by omega); omega⟩)]
theorem upL_whole {l : List Cl} {r c : Nat} (hg : GOk l.length r c) (h : Whole l r c) (top bottom n : Int) : Whole (upL l c top bottom n) r c := by
 by_cases hc : 0 ≤ top ∧ bottom < (r : Int) ∧ top ≤ bottom
 ·obtain ⟨t, rfl⟩ : ∃ t : Nat, top = t := ⟨top.toNat, by omega⟩
  obtain ⟨b, rfl⟩ : ∃ b : Nat, bottom = b := ⟨bottom.toNat, by omega⟩
  intro y hy
  have hq := upL_getC hg t b n (by omega) (by omega) y
  by_cases h1 : t ≤ y ∧ y ≤ b
  ·by_cases h2 : y + capN n ≤ b
   ·exact (h (y + capN n) (by omega)).same (fun x hx => by rw [hq x hy hx, if_pos h1, if_pos h2])
   ·exact RowW.blank (fun x hx => by rw [hq x hy hx, if_pos h1, if_neg h2])
  ·exact (h y hy).same (fun x hx => by rw [hq x hy hx, if_neg h1])
 ·unfold upL
  rw [if_neg (fun e => hc ((gOk_pos hg _ _).1 e))]
  exact h
theorem downL_whole {l : List Cl} {r c : Nat} (hg : GOk l.length r c) (h : Whole l r c) (top bottom n : Int) : Whole (downL l c top bottom n) r c := by
 by_cases hc : 0 ≤ top ∧ bottom < (r : Int) ∧ top ≤ bottom
 ·obtain ⟨t, rfl⟩ : ∃ t : Nat, top = t := ⟨top.toNat, by omega⟩
  obtain ⟨b, rfl⟩ : ∃ b : Nat, bottom = b := ⟨bottom.toNat, by omega⟩
  intro y hy
  have hq := downL_getC hg t b n (by omega) (by omega) y
  by_cases h1 : t ≤ y ∧ y ≤ b
  ·by_cases h2 : t + capN n ≤ y
   ·exact (h (y - capN n) (by omega)).same (fun x hx => by rw [hq x hy hx, if_pos h1, if_pos h2])
   ·exact RowW.blank (fun x hx => by rw [hq x hy hx, if_pos h1, if_neg h2])
  ·exact (h y hy).same (fun x hx => by rw [hq x hy hx, if_neg h1])
 ·unfold downL
  rw [if_neg (fun e => hc ((gOk_pos hg _ _).1 e))]
  exact h
theorem mendL_row {l : List Cl} {r c : Nat} (hg : GOk l.length r c) (y : Nat) (hy : y < r) (x : Nat) (hx : x < c) : getC (mendL l c y) (y * c + x) = if badH l c (y * c + x) x = true then blankC else getC l (y * c + x) := by
 have hlt := rc_lt hy hx
 rw [← hg.n] at hlt
 unfold mendL
 rw [if_pos (gPlace_mk hg (by omega) (by omega) (by omega) (by omega)), fill_getC]
 simp only [Int.toNat_natCast]
 rw [if_pos ⟨hlt, by omega, by omega⟩]
 unfold mendF
 rw [(rc_div y c x hx).2]
theorem mendL_else {l : List Cl} {c : Nat} (y y' x : Nat) (hne : y' ≠ y) (hx : x < c) : getC (mendL l c y) (y' * c + x) = getC l (y' * c + x) := by
 unfold mendL
 split
 ·simp only [Int.toNat_natCast]
  exact fill_other hx hne (Nat.le_refl _) (Nat.le_refl _)
 ·rfl
theorem mendL_rowW {l : List Cl} {r c : Nat} (hg : GOk l.length r c) (y : Nat) (hy : y < r) : RowW (mendL l c y) c y := by
 intro x hx
 have hm := mendL_row hg y hy
 refine badH_no.2 ⟨fun e => ?_, fun e => ?_⟩
 ·rw [hm x hx] at e
  cases hb : badH l c (y * c + x) x with
  | true => rw [hb, if_pos rfl] at e; exact absurd e (by decide)
  | false =>
   rw [hb] at e
   obtain ⟨a, b⟩ := (badH_no.1 hb).1 e
   refine ⟨a, ?_⟩
   have hb2 : badH l c (y * c + (x + 1)) (x + 1) = false := by
    rw [Nat.add_assoc] at b
    refine badH_no.2 ⟨fun e2 => by omega, fun _ => ⟨by omega, ?_⟩⟩
    rw [show y * c + (x + 1) - 1 = y * c + x by omega]
    exact e
   rw [Nat.add_assoc] at b ⊢
   rw [hm (x + 1) (by omega), hb2]
   exact b
 ·rw [hm x hx] at e
  cases hb : badH l c (y * c + x) x with
  | true => rw [hb, if_pos rfl] at e; exact absurd e (by decide)
  | false =>
   rw [hb] at e
   obtain ⟨a, b⟩ := (badH_no.1 hb).2 e
   refine ⟨a, ?_⟩
   rw [show y * c + x - 1 = y * c + (x - 1) by omega] at b ⊢
   have hb2 : badH l c (y * c + (x - 1)) (x - 1) = false := by
    refine badH_no.2 ⟨fun _ => ⟨by omega, ?_⟩, fun e2 => by omega⟩
    rw [show y * c + (x - 1) + 1 = y * c + x by omega]
    exact e
   rw [hm (x - 1) (by omega), hb2]
   exact b
theorem mendL_whole {l : List Cl} {r c : Nat} (hg : GOk l.length r c) (y : Int) (h : ∀ y' : Nat, y' < r → (y' : Int) ≠ y → RowW l c y') : Whole (mendL l c y) r c := by
 intro y' hy'
 by_cases e : (y' : Int) = y
 ·subst e; exact mendL_rowW hg y' hy'
 ·by_cases h0 : 0 ≤ y
  ·obtain ⟨z, rfl⟩ : ∃ z : Nat, y = z := ⟨y.toNat, by omega⟩
   exact (h y' hy' e).same (fun x hx => mendL_else z y' x (by omega) hx)
  ·unfold mendL
   rw [if_neg (fun e2 => by obtain ⟨r1, c1, yy, xx, _, e3, _⟩ := gPlace_of e2; omega)]
   exact h y' hy' e
theorem mendL_same {l : List Cl} {r c : Nat} (hg : GOk l.length r c) (y : Nat) (hy : y < r) (h : RowW l c y) : mendL l c y = l := by
 refine getC_ext (mendL_len _ _ _) (fun i hi => ?_)
 have hi2 : i < r * c := by rw [← hg.n]; exact hi
 have hc := hg.c1
 have hm : i % c < c := Nat.mod_lt _ (by omega)
 have hd : i / c * c + i % c = i := by rw [Nat.mul_comm]; exact Nat.div_add_mod i c
 by_cases e : i / c = y
 ·rw [← hd, e, mendL_row hg y hy _ hm, h _ hm]
  rfl
 ·rw [← hd]
  exact mendL_else y (i / c) _ e hm
theorem insertL_whole {l : List Cl} {r c : Nat} (hg : GOk l.length r c) (h : Whole l r c) (y x n : Int) : Whole (insertL l c y x n) r c := by
 unfold insertL
 split
 ·rename_i hp
  obtain ⟨r1, c1, yy, xx, e1, rfl, rfl, _, _, hx⟩ := gPlace_of hp
  have : c1 = c := by omega
  subst this
  refine mendL_whole (by rw [fillL_len]; exact hg) _ (fun y' hy' hne => (h y' hy').same (fun x hx => fill_other hx (y := yy) (by omega) ?_ ?_))
  ·simp only [Int.toNat_natCast]; omega
  ·simp only [Int.toNat_natCast]; omega
 ·exact h
theorem deleteL_whole {l : List Cl} {r c : Nat} (hg : GOk l.length r c) (h : Whole l r c) (y x n : Int) : Whole (deleteL l c y x n) r c := by
 unfold deleteL
 split
 ·rename_i hp
  obtain ⟨r1, c1, yy, xx, e1, rfl, rfl, _, _, hx⟩ := gPlace_of hp
  have : c1 = c := by omega
  subst this
  refine mendL_whole (by rw [fillL_len]; exact hg) _ (fun y' hy' hne => (h y' hy').same (fun x hx => fill_other hx (y := yy) (by omega) ?_ ?_))
  ·simp only [Int.toNat_natCast]; omega
  ·simp only [Int.toNat_natCast]; omega
 ·exact h
theorem eraseL_whole {l : List Cl} {r c : Nat} (hg : GOk l.length r c) (h : Whole l r c) (y fr til : Int) : Whole (eraseL l c y fr til) r c := by
 unfold eraseL
 split
 ·rename_i hp
  obtain ⟨r1, c1, yy, xx, e1, rfl, _, _, _, _⟩ := gPlace_of hp
  have : c1 = c := by omega
  subst this
  refine mendL_whole (by rw [fillL_len]; exact hg) _ (fun y' hy' hne => (h y' hy').same (fun x hx => fill_other hx (y := yy) (by omega) ?_ ?_))
  ·simp only [Int.toNat_natCast]; omega
  ·simp only [Int.toNat_natCast]; unfold capC; omega
 ·exact h
theorem blankL_whole (rows cols : Int) (r c : Nat) : Whole (blankL rows cols) r c := by
 intro y hy
 refine RowW.blank (fun x hx => ?_)
 unfold blankL
 split
 ·unfold getC List.getD
  rw [List.getElem?_replicate]
  split <;> rfl
 ·rfl
def CellsR (l : List Cl) (r c : Nat) : Prop := l.length = r * c ∧ (∀ x ∈ l, cellB x = true) ∧ Whole l r c
def CellFit (c : Cl) : Prop := -2147483648 ≤ c.r ∧ c.r ≤ 2147483647 ∧ c.h < 256
def CellsRPost (l : List Cl) (r c : Nat) (w : World) (e : Ending) (w' : World) : Prop := ∃ b, e = .returned (.bool b) ∧ (b = true ↔ CellsR l r c) ∧ Below w.heap.size w w'
theorem cellsR_no {l : List Cl} {r c : Nat} {w w' : World} (h : ¬ CellsR l r c) (hb : Below w.heap.size w w') : CellsRPost l r c w (.returned (.bool false)) w' := ⟨false, rfl, by simp [h], hb⟩
def CrRel1 (l : List Cl) (w : World) (i : Value) (wr : World) : Prop := ∃ k : Nat, k ≤ l.length ∧ i = .int .i64 (k : Int) ∧ (∀ j x, j < k → l[j]? = some x → cellB x = true) ∧ Below w.heap.size w wr
theorem row_of_mend {l : List Cl} {r c y : Nat} (hg : GOk l.length r c) (hy : y < r) (h : ∀ x, x < c → getC (mendL l c y) (y * c + x) = getC l (y * c + x)) : RowW l c y := by
 intro x hx
 have e := h x hx
 rw [mendL_row hg y hy x hx] at e
 cases hb : badH l c (y * c + x) x with
 | false => rfl
 | true =>
  rw [if_pos hb] at e
  have h0 : (getC l (y * c + x)).h = 0 := by rw [← e]; rfl
  have : badH l c (y * c + x) x = false := badH_no.2 ⟨fun e1 => by omega, fun e1 => by omega⟩
  rw [this] at hb
  cases hb
theorem cl_ne {a b : Cl} (hne : a ≠ b) : ((a.r == b.r) = false) ∨ (a.r = b.r ∧ ((a.a : Int) == (b.a : Int)) = false) ∨ (a.r = b.r ∧ a.a = b.a ∧ ((a.h : Int) == (b.h : Int)) = false) := by
 by_cases e1 : a.r = b.r
 ·by_cases e2 : a.a = b.a
  ·refine .inr (.inr ⟨e1, e2, beq_eq_false_iff_ne.2 fun e => hne ?_⟩)
   cases a
   cases b
   simp only at e1 e2 e
   rw [e1, e2]
   congr 1
   omega
  ·exact .inr (.inl ⟨e1, beq_eq_false_iff_ne.2 (by omega)⟩)
 ·exact .inl (beq_eq_false_iff_ne.2 e1)
def vI (b : Int) : Value := .int .i64 b
def vIs (l : List Int) : List Value := l.map vI
def OI (w : World) (base : Nat) (v : Value) (l : List Int) : Prop := w.ownsRow base 3 1 v l.length (vIs l)
def IS (w : World) (B : Nat) (v : Value) (l : List Int) : Prop :=
 ∃ A c, v = .slice A l.length c ∧ l.length ≤ c ∧ c ≤ maxLen ∧
  (0 < l.length → ∃ ad, A = some ad ∧ ad.block < B ∧ ∀ j b, l[j]? = some b → w.cell? (ad.add j) = some (vI b))
theorem vIs_one (l : List Int) : ∀ u ∈ vIs l, u.oneCell' = true := by
 intro u hu
 unfold vIs at hu
 rw [List.mem_map] at hu
 obtain ⟨b, _, rfl⟩ := hu
 rfl
section
variable {w w' : World} {B B' base : Nat} {v : Value} {l : List Int}
theorem IS.keep (h : IS w B v l) (hk : ∀ p : Addr, p.block < B → w'.cell? p = w.cell? p) : IS w' B v l := by
 obtain ⟨A, c, hv, h1, h2, h3⟩ := h
 refine ⟨A, c, hv, h1, h2, fun hl => ?_⟩
 obtain ⟨ad, hA, hb, hc⟩ := h3 hl
 exact ⟨ad, hA, hb, fun j b hj => (hk _ (by rw [block_add]; exact hb)).trans (hc j b hj)⟩
theorem IS.below (h : IS w B v l) (hb : Below B w w') : IS w' B v l := h.keep fun _ hp => hb.cell hp
theorem IS.more (h : IS w B v l) (hB : B ≤ B') : IS w B' v l := by
 obtain ⟨A, c, hv, h1, h2, h3⟩ := h
 refine ⟨A, c, hv, h1, h2, fun hl => ?_⟩
 obtain ⟨ad, hA, hb, hc⟩ := h3 hl
 exact ⟨ad, hA, by omega, hc⟩
theorem IS.alloc (h : IS w B v l) (hB : B ≤ w.heap.size) (o : Obj) : IS (w.alloc o) B v l := h.keep fun p hp => World.cell?_alloc_lt w o p (by omega)
theorem IS.nil (w : World) (B : Nat) : IS w B (.slice none 0 0) [] := ⟨none, 0, rfl, by simp, by simp [maxLen], fun h => absurd h (by simp)⟩
theorem IS.at_ (h : IS w B v l) : ∃ A c, v = .slice A l.length c ∧ l.length ≤ c ∧ c ≤ maxLen ∧
  ∀ k (hk : k < l.length), ∃ ad, A = some ad ∧ w.cell? (ad.add k) = some (vI (l[k]'hk)) := by
 obtain ⟨A, c, hv, h1, h2, h3⟩ := h
 refine ⟨A, c, hv, h1, h2, fun k hk => ?_⟩
 obtain ⟨ad, hA, _, hc⟩ := h3 (by omega)
 exact ⟨ad, hA, hc k _ (List.getElem?_eq_getElem hk)⟩
theorem OI.nil (w : World) (base : Nat) : OI w base (.slice none 0 0) [] := World.ownsRow_nil w base _ _
theorem OI.below (h : OI w base v l) (hb : Below w.heap.size w w') : OI w' base v l := by
 have hg : w.grownBy w' none := ⟨hb.os, hb.tape, hb.output, hb.size, fun i hi _ => hb.block i hi⟩
 unfold OI at h ⊢
 refine h.kept hg ?_
 cases hv : v.ownBlock with
 | none => exact Or.inl rfl
 | some k => exact Or.inr (by simp)
theorem OI.bs (h : OI w base v l) : IS w w.heap.size v l := by
 unfold OI at h
 rcases h.2 with ⟨rfl, hn⟩ | ⟨g, cap, cur, rfl, hbg, hg, hnc, hcm, hcs, htake⟩
 ·have : l = [] := List.eq_nil_of_length_eq_zero hn
  subst this
  exact IS.nil w _
 ·have hlt : g < w.heap.size := by
   rcases Nat.lt_or_ge g w.heap.size with hh | hh
   ·exact hh
   ·rw [Array.getElem?_eq_none hh] at hg; cases hg
  refine ⟨_, cap, rfl, hnc, hcm, fun _ => ⟨_, rfl, hlt, fun j b hj => ?_⟩⟩
  refine h.cells (g := g) rfl j (vI b) ?_
  unfold vIs
  rw [List.getElem?_map, hj]; rfl
end
theorem IS.cut {w : World} {B : Nat} {A : Option Addr} {n c : Nat} {l : List Int} (h : IS w B (.slice A n c) l) (k m j : Nat) (hk : k + m ≤ l.length) (hj : j = m) :
  IS w B (.slice (if c = k then A else Option.map (fun x => x.add k) A) j (c - k)) ((l.drop k).take m) := by
 subst hj
 obtain ⟨A', c', hv, h1, h2, h3⟩ := h
 simp only [Value.slice.injEq] at hv
 obtain ⟨rfl, rfl, rfl⟩ := hv
 have hlen : ((l.drop k).take j).length = j := by simp; omega
 refine ⟨_, c - k, by rw [hlen], by rw [hlen]; omega, by omega, fun hl => ?_⟩
 rw [hlen] at hl
 obtain ⟨ad, rfl, hb, hc⟩ := h3 (by omega)
 rw [if_neg (by omega)]
 refine ⟨ad.add k, rfl, by rw [block_add]; exact hb, fun i b hi => ?_⟩
 rw [add_add]
 refine hc _ b ?_
 rw [List.getElem?_take] at hi
 split at hi
 ·rw [List.getElem?_drop] at hi; exact hi
 ·cases hi
theorem IS.cutH {w : World} {B : Nat} {A : Option Addr} {n c : Nat} {l : List Int} (h : IS w B (.slice A n c) l) (m j : Nat) (hk : m ≤ l.length) (hj : j = m) :
  IS w B (.slice A j c) (l.take m) := by
 obtain ⟨A', c', hv, h1, h2, h3⟩ := h
 simp only [Value.slice.injEq] at hv
 obtain ⟨rfl, rfl, rfl⟩ := hv
 subst hj
 have hlen : (l.take j).length = j := by simp; omega
 refine ⟨A, c, by rw [hlen], by omega, h2, fun hl => ?_⟩
 rw [hlen] at hl
 obtain ⟨ad, rfl, hb, hc⟩ := h3 (by omega)
 refine ⟨ad, rfl, hb, fun i b hi => ?_⟩
 refine hc _ b ?_
 rw [List.getElem?_take] at hi
 split at hi
 ·exact hi
 ·cases hi
theorem IS.one (w : World) (b : Int) (t : TypeId) : IS (w.alloc (.cells #[vI b] t)) (w.heap.size + 1) (.slice (some ⟨w.heap.size, 0, none⟩) 1 1) [b] := by
 refine ⟨_, 1, rfl, by simp, by simp [maxLen], fun _ => ⟨_, rfl, by simp, fun j c hj => ?_⟩⟩
 match j, hj with
 | 0, hj =>
  simp at hj
  subst hj
  simp [Addr.add]
theorem OI.alloc {w : World} {base : Nat} {v : Value} {l : List Int} (h : OI w base v l) (o : Obj) : OI (w.alloc o) base v l := World.ownsRow.alloc h o
theorem IS.lit (w : World) (l : List Int) (n : Nat) (cs : Array Value) (t : TypeId) (hn : n = l.length) (hcs : cs = (vIs l).toArray) (hm : l.length ≤ 1048576) :
  IS (w.alloc (.cells cs t)) (w.heap.size + 1) (.slice (some ⟨w.heap.size, 0, none⟩) n n) l := by
 subst hn
 subst hcs
 refine ⟨_, _, rfl, by simp, by simp [maxLen]; omega, fun _ => ⟨_, rfl, by simp, fun j b hj => ?_⟩⟩
 have h := World.news_of_block (heap_alloc_new w (.cells (vIs l).toArray t)) j (vI b)
 exact h (by simp [vIs, hj])
theorem intInfo : (Tryz.prog.info? 3).map (fun i => (i.zero, i.size, i.bytes)) = some (some (.int .i64 0), 1, 8) := by kernel_rfl
theorem run_appI (w : World) (ty : TypeId) {base B : Nat} {v u : Value} {l m : List Int} (hown : OI w base v l) (hr : IS w B u m) (hlen : l.length + m.length ≤ 1099511627776) (hbase : base ≤ w.heap.size) :
  ∃ v' w', (Builtin.append_ #[25, 25] ty #[v, u]).run Tryz.prog w = .ok v' w' ∧ OI w' base v' (l ++ m) ∧ w.grownBy w' v.ownBlock ∧ Below base w w' ∧ (v'.ownBlock = v.ownBlock ∨ v'.ownBlock = some w.heap.size) := by
 obtain ⟨i0, hi0, hz0, hz1, hz2⟩ := info_parts intInfo
 have hlt := World.ownsRow.lt hown
 have hfin : ∀ v' w', w'.ownsRow base 3 1 v' (l.length + m.length) (vIs l ++ vIs m) → OI w' base v' (l ++ m) := by
  intro v' w' h
  unfold OI vIs
  rw [List.length_append, List.map_append]
  exact h
 obtain ⟨A, c, rfl, h1, h2, h3⟩ := hr
 rcases Nat.eq_zero_or_pos m.length with h0 | h0
 ·have hm : m = [] := List.eq_nil_of_length_eq_zero h0
  subst hm
  refine ⟨v, w, ?_, by simpa using hown, World.grownBy.refl w _, Below.refl _ _, .inl rfl⟩
  rcases hown.2 with ⟨rfl, hn⟩ | ⟨g, cap, cur, rfl, _, _, hnc, _⟩
  ·cases A <;> simp [Builtin.append_, run_underlying Tryz.underlying25, sizeOf, typeInfo, hi0, Builtin.lenOf, Builtin.firstCells, loadCells, loadCellsFrom]
  ·cases A <;> simp [Builtin.append_, run_underlying Tryz.underlying25, sizeOf, typeInfo, hi0, Builtin.lenOf, Builtin.firstCells, hnc, storeCells, loadCells, loadCellsFrom]
 ·obtain ⟨ad, rfl, hb, hc⟩ := h3 h0
  obtain ⟨v', w', hrun, h4, h5, _, h6⟩ := run_append_own_at (P := Tryz.prog) w base 25 ty 3 i0 _ 1 8 Tryz.underlying25 hi0 hz0 hz1 hz2 rfl (by omega) v l.length (vIs l) hown ad m.length c (vIs m) (by simp [vIs])
   (fun j u hj => by
    unfold vIs at hj
    rw [List.getElem?_map] at hj
    cases hmj : m[j]? with
    | none => rw [hmj] at hj; cases hj
    | some b =>
     rw [hmj] at hj
     simp only [Option.map_some, Option.some.injEq] at hj
     subst hj
     exact hc j b hmj)
   (vIs_one m) (by simp only [maxLen]; omega) (by omega) hbase
  exact ⟨v', w', hrun, hfin v' w' h4, h5, (Below.refl _ _).grown h5 hbase (fun k hk => (hlt k hk).1), h6⟩
theorem wpl_appI (w : World) {ops : Array Oper} {rest : List Oper} {o : Oper} {a : Act} {Q : Exit → Act → World → Prop} (hgd : o.guard = none) (s x : Operand)
  (ho : o.op = .call { callee := .builtin .append, args := #[s, x], argTypes := #[25, 25] })
  (base B : Nat) (v u : Value) (l m : List Int) (hs : a.eval s = v) (hx : a.eval x = u) (hown : OI w base v l) (hr : IS w B u m) (hlen : l.length + m.length ≤ 1099511627776) (hbase : base ≤ w.heap.size)
  (h : ∀ v' w', OI w' base v' (l ++ m) → w.grownBy w' v.ownBlock → Below base w w' → (v'.ownBlock = v.ownBlock ∨ v'.ownBlock = some w.heap.size) → wpList Tryz.prog ops Q rest (a.put o.dst v') w') :
  wpList Tryz.prog ops Q (o :: rest) a w := by
 refine wpList_plain hgd fun K hK => ?_
 obtain ⟨v', w', hrun, h2, h3, h4, h5⟩ := run_appI w o.type hown hr hlen hbase
 unfold Oper.wp execOp
 simp only [ho, resolve, invoke, builtin, Sem.run_bind, Sem.run_pure, Result.andThen_ok, List.map_toArray, List.map_cons, List.map_nil, hs, hx, hrun]
 exact hK _ _ (h v' w' h2 h3 h4 h5)
end Go.Proofs.YthncoigjfhmldaaGreat
