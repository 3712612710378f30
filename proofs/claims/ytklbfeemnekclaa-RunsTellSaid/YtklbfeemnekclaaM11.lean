/- What is proved here: the contract of the document's Mend; the contracts of the document's Mend (any arguments), Insert, Delete, Erase; the contracts of the document's Delete, Erase, and of Insert, of any arguments; the contract of the document's Down; words for screens in memory over this translation: a screen's value, how it is kept, how a whole one is loaded and stored; the contracts of the document's line feed on a screen; the contracts of the document's moves on a screen, of a number of a sequence. -/
import Derived.Test.YtklbfeemnekclaaM10
import Derived.Deep.DeepCutAuto
import Derived.Deep.CutRange
import Derived.Test.YtklbfeemnekclaaM1
import Derived.Test.YtklbfeemnekclaaM7
import Derived.Deep.WholeRow
import Derived.Laws.ResultCell
namespace Go.Proofs.Ytklbfeemnekclaa
open Go.RowKit
set_option linter.unusedVariables false
set_option maxHeartbeats 2000000 in
set_option maxRecDepth 100000 in
theorem Mend_yes (v : Value) (l : List Cl) (r c y : Nat) (w : World) (h : CS w w.heap.size v l) (hg : GOk l.length r c) (hy : y < r) :
    Calls Try.prog 52 #[v, .int .i64 (c : Int), .int .i64 (y : Int)] w (CellsPost (fillL l (mendF l c) (y * c) (y * c + c)) w) := by
  obtain ⟨A, k, rfl, h1, h2⟩ := h.form
  have H := Lib.hid h
  have HG := Lib.hid hg
  have c1 := hg.c1
  have c2 := hg.c2
  have r2 := hg.r2
  have hn := hg.n
  have hrc := rc_le hg.r2 hg.c2
  have hlen : l.length ≤ 1000000 := by omega
  have HN := Lib.hid hn
  clear h hg hn
  go_enter Try.func52, Try.ntmps52
  go_wp2_with (first | ((with_reducible refine (own_any _ l _ H.out (by omega)).mono ?_); rintro e w1 ⟨v1, rfl, o1, b1⟩; have z1 := b1.size; have HC := Lib.hid ((H.out.below b1).more z1); have HO := Lib.hid o1; have HB := Lib.hid b1; clear o1 b1) | ((with_reducible refine (place_yes _ l r c (y : Int) 0 _ HC.out HG.out (by omega) (by omega) (by omega) (by omega)).mono ?_); rintro e w' ⟨rfl, rfl⟩))
  have hpos : 0 < l.length := by rw [HN.out]; exact Nat.mul_pos (by omega) (by omega)
  obtain ⟨g, cap, rfl, hg1, hg2, hg3, hg4⟩ := HO.out.open_ hpos
  go_loopw [8] (fun i wr => ColsRel l (mendF l c) c y y w w.heap.size g cap i wr) (fun i _ => c - (intOf i).toNat)
  case atStart => exact ⟨0, by omega, rfl, by rw [fillL_none _ _ _ _ (by omega)]; exact HO.out, HB.out⟩
  case round =>
    generalize wr = w3 at *
    obtain ⟨x, hx, rfl, ho, hb⟩ := hrel
    have HO3 := Lib.hid ho
    have HB3 := Lib.hid hb
    have z3 := hb.size
    clear ho hb
    by_cases hxc : x < c
    · obtain ⟨p, hp⟩ : ∃ p : Nat, p = y * c := ⟨_, rfl⟩
      have hyc : (y : Int) * (c : Int) = (p : Int) := by rw [hp]; simp
      have hpx : p + x < l.length := by rw [hp, HN.out]; exact rc_lt (by omega) hxc
      have hdv := rc_div y c x hxc
      rw [← hp] at hdv
      have hpc : p + c ≤ l.length := by
        rw [hp, HN.out]
        have : (y + 1) * c ≤ r * c := Nat.mul_le_mul_right _ hy
        rw [Nat.add_mul, Nat.one_mul] at this
        exact this
      have HD := Lib.hid hdv
      have HP := Lib.hid hp
      clear hp hdv
      have hgd := getC_of hpx
      obtain ⟨ad, hA, hab, t0, t1, t2⟩ := (H.out.below HB3.out).get (p + x) _ hgd
      subst hA
      have tb : (ad.add ((p + x) * 3)).block < w3.heap.size := by rw [block_add]; omega
      have HGD := Lib.hid hgd
      clear hgd t0 t1
      by_cases h1 : (getC l (p + x)).h = 1
      · rw [h1] at t2
        by_cases h2 : x + 1 = c
        · have hbad : badH l c (p + x) x = true := by unfold badH; rw [h1]; simp [h2]
          have HBAD := Lib.hid hbad
          clear hbad
          have e1 : ((x : Int) == (c : Int) - 1) = true := by simp; omega
          have H2 := Lib.hid h2
          clear h2
          go_wp2_with ((with_reducible refine (blank_any _).mono ?_); rintro e w' ⟨rfl, hw'⟩; have z4 := hw'.size; have H1 := Lib.hid (HO3.out.below hw'); have HW := Lib.hid hw'; obtain ⟨x0, y0, z0, s0, s1, s2, f0, f1, f2⟩ := (HO3.out.below hw').spot (p + x) hpx; have hg5 : g < w'.heap.size := (HO3.out.below hw').block.2; clear hw')
          go_roundw
          case rel =>
            refine ⟨x + 1, by omega, by go_num, ?_, below_put (HB3.out.trans (HW.out.mono z3)) hg1 _ _ _ _⟩
            have e : blankC = mendF l c (p + x) := by
              unfold mendF
              rw [HD.out.2, HBAD.out]
              rfl
            have hpe := HP.out
            have := H1.out.put (p + x) hpx blankC
            rw [← hpe, fillL_set _ _ _ _ _ (by omega) e] at this
            rw [show y * c + (x + 1) = p + x + 1 by rw [HP.out]; omega, ← hpe]
            exact this
          case measure => simp [intOf]; omega
        · have e1 : ¬ (x : Int) = (c : Int) - 1 := by omega
          have e1b : ((x : Int) == (c : Int) - 1) = false := by simpa using e1
          have hpn : p + x + 1 < l.length := by omega
          have hgn := getC_of hpn
          obtain ⟨_, hA, _, _, _, n2⟩ := (H.out.below HB3.out).get (p + x + 1) _ hgn
          cases hA
          have tn : (ad.add ((p + x + 1) * 3)).block < w3.heap.size := by rw [block_add]; omega
          clear hgn
          by_cases h3 : (getC l (p + x + 1)).h = 2
          · have hbad : badH l c (p + x) x = false := by unfold badH; rw [h1, h3]; simp [h2]
            have HBAD := Lib.hid hbad
            clear hbad
            rw [h3] at n2
            go_wp2
            go_roundw
            case rel =>
              refine ⟨x + 1, by omega, by go_num, ?_, HB3.out⟩
              have e : l[p + x]? = some (mendF l c (p + x)) := by
                unfold mendF
                rw [HD.out.2, HBAD.out]
                exact HGD.out
              rw [show y * c + (x + 1) = p + x + 1 by rw [HP.out]; omega, ← fillL_skip _ _ _ _ e, HP.out]
              exact HO3.out
            case measure => simp [intOf]; omega
          · have hbad : badH l c (p + x) x = true := by unfold badH; rw [h1]; simp [h2, h3]
            have HBAD := Lib.hid hbad
            clear hbad
            have e3 : (((getC l (p + x + 1)).h : Int) != 2) = true := by simp; omega
            have e4 : ¬ ((getC l (p + x + 1)).h : Int) = 2 := by omega
            go_wp2_with ((with_reducible refine (blank_any _).mono ?_); rintro e w' ⟨rfl, hw'⟩; have z4 := hw'.size; have H1 := Lib.hid (HO3.out.below hw'); have HW := Lib.hid hw'; obtain ⟨x0, y0, z0, s0, s1, s2, f0, f1, f2⟩ := (HO3.out.below hw').spot (p + x) hpx; have hg5 : g < w'.heap.size := (HO3.out.below hw').block.2; clear hw')
            go_roundw
            case rel =>
              refine ⟨x + 1, by omega, by go_num, ?_, below_put (HB3.out.trans (HW.out.mono z3)) hg1 _ _ _ _⟩
              have e : blankC = mendF l c (p + x) := by
                unfold mendF
                rw [HD.out.2, HBAD.out]
                rfl
              have hpe := HP.out
              have := H1.out.put (p + x) hpx blankC
              rw [← hpe, fillL_set _ _ _ _ _ (by omega) e] at this
              rw [show y * c + (x + 1) = p + x + 1 by rw [HP.out]; omega, ← hpe]
              exact this
            case measure => simp [intOf]; omega
      · have h1b : (((getC l (p + x)).h : Int) == 1) = false := by simp; omega
        have h1c : ¬ ((getC l (p + x)).h : Int) = 1 := by omega
        by_cases h2 : (getC l (p + x)).h = 2
        · rw [h2] at t2
          clear h1b h1c
          by_cases h3 : x = 0
          · have hbad : badH l c (p + x) x = true := by unfold badH; rw [h2]; simp [h3]
            have HBAD := Lib.hid hbad
            clear hbad
            have e1 : ((x : Int) == 0) = true := by simp [h3]
            have H3 := Lib.hid h3
            clear h3
            go_wp2_with ((with_reducible refine (blank_any _).mono ?_); rintro e w' ⟨rfl, hw'⟩; have z4 := hw'.size; have H1 := Lib.hid (HO3.out.below hw'); have HW := Lib.hid hw'; obtain ⟨x0, y0, z0, s0, s1, s2, f0, f1, f2⟩ := (HO3.out.below hw').spot (p + x) hpx; have hg5 : g < w'.heap.size := (HO3.out.below hw').block.2; clear hw')
            go_roundw
            case rel =>
              refine ⟨x + 1, by omega, by go_num, ?_, below_put (HB3.out.trans (HW.out.mono z3)) hg1 _ _ _ _⟩
              have e : blankC = mendF l c (p + x) := by
                unfold mendF
                rw [HD.out.2, HBAD.out]
                rfl
              have hpe := HP.out
              have := H1.out.put (p + x) hpx blankC
              rw [← hpe, fillL_set _ _ _ _ _ (by omega) e] at this
              rw [show y * c + (x + 1) = p + x + 1 by rw [HP.out]; omega, ← hpe]
              exact this
            case measure => simp [intOf]; omega
          · have e1 : ¬ (x : Int) = 0 := by omega
            have e1b : ((x : Int) == 0) = false := by simpa using e1
            have e1c : 1 ≤ p + x := by omega
            have hpn : p + x - 1 < l.length := by omega
            have hgn := getC_of hpn
            obtain ⟨_, hA, _, _, _, n2⟩ := (H.out.below HB3.out).get (p + x - 1) _ hgn
            cases hA
            have tn : (ad.add ((p + x - 1) * 3)).block < w3.heap.size := by rw [block_add]; omega
            clear hgn
            by_cases h4 : (getC l (p + x - 1)).h = 1
            · have hbad : badH l c (p + x) x = false := by unfold badH; rw [h2, h4]; simp [h3]
              have HBAD := Lib.hid hbad
              clear hbad
              rw [h4] at n2
              go_wp2
              go_roundw
              case rel =>
                refine ⟨x + 1, by omega, by go_num, ?_, HB3.out⟩
                have e : l[p + x]? = some (mendF l c (p + x)) := by
                  unfold mendF
                  rw [HD.out.2, HBAD.out]
                  exact HGD.out
                rw [show y * c + (x + 1) = p + x + 1 by rw [HP.out]; omega, ← fillL_skip _ _ _ _ e, HP.out]
                exact HO3.out
              case measure => simp [intOf]; omega
            · have hbad : badH l c (p + x) x = true := by unfold badH; rw [h2]; simp [h3, h4]
              have HBAD := Lib.hid hbad
              clear hbad
              have e3 : (((getC l (p + x - 1)).h : Int) != 1) = true := by simp; omega
              have e4 : ¬ ((getC l (p + x - 1)).h : Int) = 1 := by omega
              go_wp2_with ((with_reducible refine (blank_any _).mono ?_); rintro e w' ⟨rfl, hw'⟩; have z4 := hw'.size; have H1 := Lib.hid (HO3.out.below hw'); have HW := Lib.hid hw'; obtain ⟨x0, y0, z0, s0, s1, s2, f0, f1, f2⟩ := (HO3.out.below hw').spot (p + x) hpx; have hg5 : g < w'.heap.size := (HO3.out.below hw').block.2; clear hw')
              go_roundw
              case rel =>
                refine ⟨x + 1, by omega, by go_num, ?_, below_put (HB3.out.trans (HW.out.mono z3)) hg1 _ _ _ _⟩
                have e : blankC = mendF l c (p + x) := by
                  unfold mendF
                  rw [HD.out.2, HBAD.out]
                  rfl
                have hpe := HP.out
                have := H1.out.put (p + x) hpx blankC
                rw [← hpe, fillL_set _ _ _ _ _ (by omega) e] at this
                rw [show y * c + (x + 1) = p + x + 1 by rw [HP.out]; omega, ← hpe]
                exact this
              case measure => simp [intOf]; omega
        · have hbad : badH l c (p + x) x = false := by unfold badH; simp [h1, h2]
          have HBAD := Lib.hid hbad
          clear hbad
          have h2b : (((getC l (p + x)).h : Int) == 2) = false := by simp; omega
          have h2c : ¬ ((getC l (p + x)).h : Int) = 2 := by omega
          go_wp2
          go_roundw
          case rel =>
            refine ⟨x + 1, by omega, by go_num, ?_, HB3.out⟩
            have e : l[p + x]? = some (mendF l c (p + x)) := by
              unfold mendF
              rw [HD.out.2, HBAD.out]
              exact HGD.out
            rw [show y * c + (x + 1) = p + x + 1 by rw [HP.out]; omega, ← fillL_skip _ _ _ _ e, HP.out]
            exact HO3.out
          case measure => simp [intOf]; omega
    · obtain rfl : c = x := by omega
      go_wp2
      go_ret
      exact ⟨_, rfl, HO3.out, HB3.out⟩
end Go.Proofs.Ytklbfeemnekclaa

namespace Go.Proofs.Ytklbfeemnekclaa
open Go.RowKit
set_option linter.unusedVariables false

theorem CellsPost.up {l : List Cl} {w w1 w2 : World} {e : Ending} (h : CellsPost l w1 e w2) (hb : Below w.heap.size w w1) : CellsPost l w e w2 := by
  obtain ⟨v, he, ho, hb2⟩ := h
  have hz := hb.size
  exact ⟨v, he, ho.lower hz, hb.trans (hb2.mono hz)⟩
theorem gPlace_of {n : Nat} {cols y x : Int} (h : gPlace n cols y x = true) : ∃ r c yy xx : Nat, cols = c ∧ y = yy ∧ x = xx ∧ GOk n r c ∧ yy < r ∧ xx ≤ c := by
  unfold gPlace at h
  rw [Bool.and_eq_true, decide_eq_true_eq] at h
  obtain ⟨h1, h2, h3, h4, h5⟩ := h
  obtain ⟨r, c, rfl, hG⟩ := gOk_of h1
  rw [hG.quo.1] at h3
  exact ⟨r, c, y.toNat, x.toNat, rfl, by omega, by omega, hG, by omega, by omega⟩
theorem gPlace_mk {n r c : Nat} {y x : Int} (h : GOk n r c) (h1 : 0 ≤ y) (h2 : y < r) (h3 : 0 ≤ x) (h4 : x ≤ c) : gPlace n (c : Int) y x = true := by
  unfold gPlace
  rw [h.ok, h.quo.1]
  simp [h1, h2, h3, h4]
theorem Mend_no (v : Value) (l : List Cl) (cols y : Int) (w : World) (h : CS w w.heap.size v l) (hl : l.length ≤ 1099511627776) (hb : gPlace l.length cols y 0 = false) :
    Calls Try.prog 52 #[v, .int .i64 cols, .int .i64 y] w (CellsPost l w) := by
  obtain ⟨A, k, rfl, h1, h2⟩ := h.form
  have H := Lib.hid h
  have HP := Lib.hid hb
  clear h hb
  go_enter Try.func52, Try.ntmps52
  go_wp2_with (first | ((with_reducible refine (own_any _ l _ H.out hl).mono ?_); rintro e w1 ⟨v1, rfl, o1, b1⟩; have z1 := b1.size; have HC := Lib.hid ((H.out.below b1).more z1); have H1 := Lib.hid o1; have HB := Lib.hid b1; clear o1 b1) | ((with_reducible refine (place_no _ l cols y 0 _ HC.out hl HP.out).mono ?_); rintro e w' ⟨rfl, rfl⟩))
  go_ret
  exact ⟨v1, rfl, H1.out, HB.out⟩
theorem Mend_any (v : Value) (l : List Cl) (cols y : Int) (w : World) (h : CS w w.heap.size v l) (hl : l.length ≤ 1099511627776) :
    Calls Try.prog 52 #[v, .int .i64 cols, .int .i64 y] w (CellsPost (mendL l cols y) w) := by
  cases hb : gPlace l.length cols y 0 with
  | false =>
    unfold mendL
    rw [hb]
    exact Mend_no v l cols y w h hl hb
  | true =>
    unfold mendL
    rw [hb]
    obtain ⟨r, c, yy, xx, rfl, rfl, _, hG, hy, _⟩ := gPlace_of hb
    simp only [Int.toNat_natCast, if_true]
    exact Mend_yes v l r c yy w h hG hy

/-- A row's cells, from column x on, up to column i. -/
def RowRel (l : List Cl) (f : Nat → Cl) (c y x : Nat) (hi : Nat) (w : World) (base : Nat) (g cap : Nat) (i : Value) (wr : World) : Prop :=
  ∃ j : Nat, x ≤ j ∧ (j ≤ hi ∨ j = x) ∧ i = .int .i64 (j : Int) ∧ OC wr base (.slice (some ⟨g, 0, none⟩) l.length cap) (fillL l f (y * c + x) (y * c + j)) ∧ Below w.heap.size w wr
set_option maxHeartbeats 1000000 in
set_option maxRecDepth 100000 in
theorem Insert_yes (v : Value) (l : List Cl) (r c y x0 : Nat) (n : Int) (w : World) (h : CS w w.heap.size v l) (hg : GOk l.length r c) (hy : y < r) (hx0 : x0 ≤ c) :
    Calls Try.prog 58 #[v, .int .i64 (c : Int), .int .i64 (y : Int), .int .i64 (x0 : Int), .int .i64 n] w (CellsPost (mendL (fillL l (insF l (y * c + x0) (capN n)) (y * c + x0) (y * c + c)) c y) w) := by
  obtain ⟨A, k, rfl, h1, h2⟩ := h.form
  have H := Lib.hid h
  have HG := Lib.hid hg
  have c1 := hg.c1
  have c2 := hg.c2
  have r2 := hg.r2
  have hn := hg.n
  have hrc := rc_le hg.r2 hg.c2
  have hlen : l.length ≤ 1000000 := by omega
  have HN := Lib.hid hn
  clear h hg hn
  go_enter Try.func58, Try.ntmps58
  go_upto_region 5 with (first | ((with_reducible refine (own_any _ l _ H.out (by omega)).mono ?_); rintro e w1 ⟨v1, rfl, o1, b1⟩; have z1 := b1.size; have HC := Lib.hid ((H.out.below b1).more z1); have HO := Lib.hid o1; have HB := Lib.hid b1; clear o1 b1) | ((with_reducible refine (place_yes _ l r c (y : Int) (x0 : Int) _ HC.out HG.out (by omega) (by omega) (by omega) (by omega)).mono ?_); rintro e w' ⟨rfl, rfl⟩))
  rw [cap_if]
  have hm := capN_le n
  generalize capN n = m at *
  generalize (if n < 0 then 0 else n) = q
  have hpos : 0 < l.length := by rw [HN.out]; exact Nat.mul_pos (by omega) (by omega)
  obtain ⟨g, cap, rfl, hg1, hg2, hg3, hg4⟩ := HO.out.open_ hpos
  go_wp2
  go_loopw [12] (fun i wr => RowRel l (insF l (y * c + x0) m) c y x0 c w w.heap.size g cap i wr) (fun i _ => c - (intOf i).toNat)
  case atStart => exact ⟨x0, Nat.le_refl _, .inr rfl, rfl, by rw [fillL_none _ _ _ _ (Nat.le_refl _)]; exact HO.out, HB.out⟩
  case round =>
    generalize wr = w3 at *
    obtain ⟨x, hx1, hx, rfl, ho, hb⟩ := hrel
    have HO3 := Lib.hid ho
    have HB3 := Lib.hid hb
    have z3 := hb.size
    clear ho hb
    by_cases hxc : x < c
    · obtain ⟨p, hp⟩ : ∃ p : Nat, p = y * c := ⟨_, rfl⟩
      have hyc : (y : Int) * (c : Int) = (p : Int) := by rw [hp]; simp
      have hpx : p + x < l.length := by rw [hp, HN.out]; exact rc_lt (by omega) hxc
      have HP := Lib.hid hp
      clear hp
      by_cases hym : x0 + m ≤ x
      · have hpx2 : p + x - m < l.length := by omega
        have hm2 : m ≤ p + x := by omega
        have hym' : (x0 : Int) ≤ (x : Int) - (m : Int) := by omega
        obtain ⟨d, hd⟩ : ∃ d, l[p + x - m]? = some d := ⟨_, List.getElem?_eq_getElem hpx2⟩
        have HD2 := Lib.hid hd
        clear hd
        obtain ⟨ad, hA, hab, -⟩ := H.out.get (p + x - m) d HD2.out
        subst hA
        go_wp2_with ((with_reducible refine (blank_any _).mono ?_); rintro e w' ⟨rfl, hw'⟩; have z4 := hw'.size; have H1 := Lib.hid (HO3.out.below hw'); have HW := Lib.hid hw'; obtain ⟨q0, q1, q2, s0, s1, s2, f0, f1, f2⟩ := (HO3.out.below hw').spot (p + x) hpx; obtain ⟨_, hA, hab2, t0, t1, t2⟩ := ((H.out.below HB3.out).below (hw'.mono z3)).get (p + x - m) d HD2.out; cases hA; have tb : (ad.add ((p + x - m) * 3)).block < w'.heap.size := (by rw [block_add]; omega); have hg5 : g < w'.heap.size := (HO3.out.below hw').block.2; clear hw')
        go_roundw
        case rel =>
          refine ⟨x + 1, by omega, by omega, by go_num, ?_, (below_put (HB3.out.trans (HW.out.mono z3)) hg1 _ _ _ _).alloc (by simp; omega) _⟩
          have e : d = insF l (p + x0) m (p + x) := by
            unfold insF
            rw [if_pos (by omega)]
            have := getC_of hpx2
            rw [HD2.out] at this
            exact Option.some.inj this
          have hpe := HP.out
          have := (H1.out.put (p + x) hpx d).alloc (.cells #[.int .i32 d.r, .int .u16 (d.a : Int), .int .u8 (d.h : Int)] 41)
          rw [← hpe, fillL_set _ _ _ _ _ (by omega) e] at this
          rw [← hpe, show p + (x + 1) = p + x + 1 by omega]
          exact this
        case measure => simp [intOf]; omega
      · have hym' : (x : Int) - (m : Int) < (x0 : Int) := by omega
        go_wp2_with ((with_reducible refine (blank_any _).mono ?_); rintro e w' ⟨rfl, hw'⟩; have z4 := hw'.size; have H1 := Lib.hid (HO3.out.below hw'); have HW := Lib.hid hw'; obtain ⟨q0, q1, q2, s0, s1, s2, f0, f1, f2⟩ := (HO3.out.below hw').spot (p + x) hpx; have hg5 : g < w'.heap.size := (HO3.out.below hw').block.2; clear hw')
        go_roundw
        case rel =>
          refine ⟨x + 1, by omega, by omega, by go_num, ?_, (below_put (HB3.out.trans (HW.out.mono z3)) hg1 _ _ _ _).alloc (by simp; omega) _⟩
          have e : blankC = insF l (p + x0) m (p + x) := by
            unfold insF
            rw [if_neg (by omega)]
          have hpe := HP.out
          have := (H1.out.put (p + x) hpx blankC).alloc (.cells #[.int .i32 32, .int .u16 0, .int .u8 0] 41)
          rw [← hpe, fillL_set _ _ _ _ _ (by omega) e] at this
          rw [← hpe, show p + (x + 1) = p + x + 1 by omega]
          exact this
        case measure => simp [intOf]; omega
    · have hxe : c = x := by omega
      subst hxe
      have HM := Lib.hid HO3.out.cs
      go_wp2_with ((with_reducible refine (Mend_any _ (fillL l (insF l (y * c + x0) m) (y * c + x0) (y * c + c)) c y _ HM.out (by rw [fillL_len]; omega)).mono ?_); rintro e w4 ⟨v4, rfl, o4, b4⟩)
      go_ret
      exact CellsPost.up ⟨_, rfl, o4, b4⟩ HB3.out
end Go.Proofs.Ytklbfeemnekclaa

namespace Go.Proofs.Ytklbfeemnekclaa
open Go.RowKit
set_option linter.unusedVariables false
theorem Insert_no (v : Value) (l : List Cl) (cols y x n : Int) (w : World) (h : CS w w.heap.size v l) (hl : l.length ≤ 1099511627776) (hb : gPlace l.length cols y x = false) :
    Calls Try.prog 58 #[v, .int .i64 cols, .int .i64 y, .int .i64 x, .int .i64 n] w (CellsPost l w) := by
  obtain ⟨A, k, rfl, h1, h2⟩ := h.form
  have H := Lib.hid h
  have HP := Lib.hid hb
  clear h hb
  go_enter Try.func58, Try.ntmps58
  go_wp2_with (first | ((with_reducible refine (own_any _ l _ H.out hl).mono ?_); rintro e w1 ⟨v1, rfl, o1, b1⟩; have z1 := b1.size; have HC := Lib.hid ((H.out.below b1).more z1); have H1 := Lib.hid o1; have HB := Lib.hid b1; clear o1 b1) | ((with_reducible refine (place_no _ l cols y x _ HC.out hl HP.out).mono ?_); rintro e w' ⟨rfl, rfl⟩))
  go_ret
  exact ⟨v1, rfl, H1.out, HB.out⟩
theorem Insert_any (v : Value) (l : List Cl) (cols y x n : Int) (w : World) (h : CS w w.heap.size v l) (hl : l.length ≤ 1099511627776) :
    Calls Try.prog 58 #[v, .int .i64 cols, .int .i64 y, .int .i64 x, .int .i64 n] w (CellsPost (insertL l cols y x n) w) := by
  cases hb : gPlace l.length cols y x with
  | false =>
    unfold insertL
    rw [hb]
    exact Insert_no v l cols y x n w h hl hb
  | true =>
    unfold insertL
    rw [hb]
    obtain ⟨r, c, yy, xx, rfl, rfl, rfl, hG, hy, hx⟩ := gPlace_of hb
    simp only [Int.toNat_natCast, if_true]
    exact Insert_yes v l r c yy xx n w h hG hy hx
set_option maxHeartbeats 1000000 in
set_option maxRecDepth 100000 in
theorem Delete_yes (v : Value) (l : List Cl) (r c y x0 : Nat) (n : Int) (w : World) (h : CS w w.heap.size v l) (hg : GOk l.length r c) (hy : y < r) (hx0 : x0 ≤ c) :
    Calls Try.prog 59 #[v, .int .i64 (c : Int), .int .i64 (y : Int), .int .i64 (x0 : Int), .int .i64 n] w (CellsPost (mendL (fillL l (delF l (y * c + c) (capN n)) (y * c + x0) (y * c + c)) c y) w) := by
  obtain ⟨A, k, rfl, h1, h2⟩ := h.form
  have H := Lib.hid h
  have HG := Lib.hid hg
  have c1 := hg.c1
  have c2 := hg.c2
  have r2 := hg.r2
  have hn := hg.n
  have hrc := rc_le hg.r2 hg.c2
  have hlen : l.length ≤ 1000000 := by omega
  have HN := Lib.hid hn
  clear h hg hn
  go_enter Try.func59, Try.ntmps59
  go_upto_region 5 with (first | ((with_reducible refine (own_any _ l _ H.out (by omega)).mono ?_); rintro e w1 ⟨v1, rfl, o1, b1⟩; have z1 := b1.size; have HC := Lib.hid ((H.out.below b1).more z1); have HO := Lib.hid o1; have HB := Lib.hid b1; clear o1 b1) | ((with_reducible refine (place_yes _ l r c (y : Int) (x0 : Int) _ HC.out HG.out (by omega) (by omega) (by omega) (by omega)).mono ?_); rintro e w' ⟨rfl, rfl⟩))
  rw [cap_if]
  have hm := capN_le n
  generalize capN n = m at *
  generalize (if n < 0 then 0 else n) = q
  have hpos : 0 < l.length := by rw [HN.out]; exact Nat.mul_pos (by omega) (by omega)
  obtain ⟨g, cap, rfl, hg1, hg2, hg3, hg4⟩ := HO.out.open_ hpos
  go_wp2
  go_loopw [12] (fun i wr => RowRel l (delF l (y * c + c) m) c y x0 c w w.heap.size g cap i wr) (fun i _ => c - (intOf i).toNat)
  case atStart => exact ⟨x0, Nat.le_refl _, .inr rfl, rfl, by rw [fillL_none _ _ _ _ (Nat.le_refl _)]; exact HO.out, HB.out⟩
  case round =>
    generalize wr = w3 at *
    obtain ⟨x, hx1, hx, rfl, ho, hb⟩ := hrel
    have HO3 := Lib.hid ho
    have HB3 := Lib.hid hb
    have z3 := hb.size
    clear ho hb
    by_cases hxc : x < c
    · obtain ⟨p, hp⟩ : ∃ p : Nat, p = y * c := ⟨_, rfl⟩
      have hyc : (y : Int) * (c : Int) = (p : Int) := by rw [hp]; simp
      have hpx : p + x < l.length := by rw [hp, HN.out]; exact rc_lt (by omega) hxc
      have HP := Lib.hid hp
      clear hp
      by_cases hym : x + m < c
      · have hpx2 : p + x + m < l.length := by
          have := rc_lt (r := r) hy hym
          rw [← HP.out, ← HN.out] at this
          omega
        have hym' : (x : Int) + (m : Int) < (c : Int) := by omega
        obtain ⟨d, hd⟩ : ∃ d, l[p + x + m]? = some d := ⟨_, List.getElem?_eq_getElem hpx2⟩
        have HD2 := Lib.hid hd
        clear hd
        obtain ⟨ad, hA, hab, -⟩ := H.out.get (p + x + m) d HD2.out
        subst hA
        go_wp2_with ((with_reducible refine (blank_any _).mono ?_); rintro e w' ⟨rfl, hw'⟩; have z4 := hw'.size; have H1 := Lib.hid (HO3.out.below hw'); have HW := Lib.hid hw'; obtain ⟨q0, q1, q2, s0, s1, s2, f0, f1, f2⟩ := (HO3.out.below hw').spot (p + x) hpx; obtain ⟨_, hA, hab2, t0, t1, t2⟩ := ((H.out.below HB3.out).below (hw'.mono z3)).get (p + x + m) d HD2.out; cases hA; have tb : (ad.add ((p + x + m) * 3)).block < w'.heap.size := (by rw [block_add]; omega); have hg5 : g < w'.heap.size := (HO3.out.below hw').block.2; clear hw')
        go_roundw
        case rel =>
          refine ⟨x + 1, by omega, by omega, by go_num, ?_, (below_put (HB3.out.trans (HW.out.mono z3)) hg1 _ _ _ _).alloc (by simp; omega) _⟩
          have e : d = delF l (p + c) m (p + x) := by
            unfold delF
            rw [if_pos (by omega)]
            have := getC_of hpx2
            rw [HD2.out] at this
            exact Option.some.inj this
          have hpe := HP.out
          have := (H1.out.put (p + x) hpx d).alloc (.cells #[.int .i32 d.r, .int .u16 (d.a : Int), .int .u8 (d.h : Int)] 41)
          rw [← hpe, fillL_set _ _ _ _ _ (by omega) e] at this
          rw [← hpe, show p + (x + 1) = p + x + 1 by omega]
          exact this
        case measure => simp [intOf]; omega
      · have hym' : (c : Int) ≤ (x : Int) + (m : Int) := by omega
        go_wp2_with ((with_reducible refine (blank_any _).mono ?_); rintro e w' ⟨rfl, hw'⟩; have z4 := hw'.size; have H1 := Lib.hid (HO3.out.below hw'); have HW := Lib.hid hw'; obtain ⟨q0, q1, q2, s0, s1, s2, f0, f1, f2⟩ := (HO3.out.below hw').spot (p + x) hpx; have hg5 : g < w'.heap.size := (HO3.out.below hw').block.2; clear hw')
        go_roundw
        case rel =>
          refine ⟨x + 1, by omega, by omega, by go_num, ?_, (below_put (HB3.out.trans (HW.out.mono z3)) hg1 _ _ _ _).alloc (by simp; omega) _⟩
          have e : blankC = delF l (p + c) m (p + x) := by
            unfold delF
            rw [if_neg (by omega)]
          have hpe := HP.out
          have := (H1.out.put (p + x) hpx blankC).alloc (.cells #[.int .i32 32, .int .u16 0, .int .u8 0] 41)
          rw [← hpe, fillL_set _ _ _ _ _ (by omega) e] at this
          rw [← hpe, show p + (x + 1) = p + x + 1 by omega]
          exact this
        case measure => simp [intOf]; omega
    · have hxe : c = x := by omega
      subst hxe
      have HM := Lib.hid HO3.out.cs
      go_wp2_with ((with_reducible refine (Mend_any _ (fillL l (delF l (y * c + c) m) (y * c + x0) (y * c + c)) c y _ HM.out (by rw [fillL_len]; omega)).mono ?_); rintro e w4 ⟨v4, rfl, o4, b4⟩)
      go_ret
      exact CellsPost.up ⟨_, rfl, o4, b4⟩ HB3.out
theorem Delete_no (v : Value) (l : List Cl) (cols y x n : Int) (w : World) (h : CS w w.heap.size v l) (hl : l.length ≤ 1099511627776) (hb : gPlace l.length cols y x = false) :
    Calls Try.prog 59 #[v, .int .i64 cols, .int .i64 y, .int .i64 x, .int .i64 n] w (CellsPost l w) := by
  obtain ⟨A, k, rfl, h1, h2⟩ := h.form
  have H := Lib.hid h
  have HP := Lib.hid hb
  clear h hb
  go_enter Try.func59, Try.ntmps59
  go_wp2_with (first | ((with_reducible refine (own_any _ l _ H.out hl).mono ?_); rintro e w1 ⟨v1, rfl, o1, b1⟩; have z1 := b1.size; have HC := Lib.hid ((H.out.below b1).more z1); have H1 := Lib.hid o1; have HB := Lib.hid b1; clear o1 b1) | ((with_reducible refine (place_no _ l cols y x _ HC.out hl HP.out).mono ?_); rintro e w' ⟨rfl, rfl⟩))
  go_ret
  exact ⟨v1, rfl, H1.out, HB.out⟩
theorem Delete_any (v : Value) (l : List Cl) (cols y x n : Int) (w : World) (h : CS w w.heap.size v l) (hl : l.length ≤ 1099511627776) :
    Calls Try.prog 59 #[v, .int .i64 cols, .int .i64 y, .int .i64 x, .int .i64 n] w (CellsPost (deleteL l cols y x n) w) := by
  cases hb : gPlace l.length cols y x with
  | false =>
    unfold deleteL
    rw [hb]
    exact Delete_no v l cols y x n w h hl hb
  | true =>
    unfold deleteL
    rw [hb]
    obtain ⟨r, c, yy, xx, rfl, rfl, rfl, hG, hy, hx⟩ := gPlace_of hb
    simp only [Int.toNat_natCast, if_true]
    exact Delete_yes v l r c yy xx n w h hG hy hx
theorem capc_if (n : Int) (c : Nat) : (if (c : Int) < (if n < 0 then 0 else n) then (c : Int) else (if n < 0 then 0 else n)) = (capC n (c : Int) : Int) := by
  unfold capC
  by_cases h : n < 0
  · simp only [h, if_true]
    split <;> omega
  · simp only [h, if_false]
    split <;> omega
theorem capC_le (n : Int) (c : Nat) : capC n (c : Int) ≤ c := by unfold capC; omega
set_option maxHeartbeats 1000000 in
set_option maxRecDepth 100000 in
theorem Erase_yes (v : Value) (l : List Cl) (r c y : Nat) (fr n : Int) (w : World) (h : CS w w.heap.size v l) (hg : GOk l.length r c) (hy : y < r) :
    Calls Try.prog 60 #[v, .int .i64 (c : Int), .int .i64 (y : Int), .int .i64 fr, .int .i64 n] w (CellsPost (mendL (fillL l (fun _ => blankC) (y * c + capC fr (c : Int)) (y * c + capC n (c : Int))) c y) w) := by
  obtain ⟨A, k, rfl, h1, h2⟩ := h.form
  have H := Lib.hid h
  have HG := Lib.hid hg
  have c1 := hg.c1
  have c2 := hg.c2
  have r2 := hg.r2
  have hn := hg.n
  have hrc := rc_le hg.r2 hg.c2
  have hlen : l.length ≤ 1000000 := by omega
  have HN := Lib.hid hn
  have hm0 := capC_le fr c
  have hm := capC_le n c
  obtain ⟨x0, hx0⟩ : ∃ x0 : Nat, x0 = capC fr (c : Int) := ⟨_, rfl⟩
  obtain ⟨m, hmm⟩ : ∃ m : Nat, m = capC n (c : Int) := ⟨_, rfl⟩
  rw [← hx0] at hm0 ⊢
  rw [← hmm] at hm ⊢
  have HX0 := Lib.hid hx0
  have HMM := Lib.hid hmm
  clear h hg hn hx0 hmm
  go_enter Try.func60, Try.ntmps60
  go_upto_region 5 with (first | ((with_reducible refine (own_any _ l _ H.out (by omega)).mono ?_); rintro e w1 ⟨v1, rfl, o1, b1⟩; have z1 := b1.size; have HC := Lib.hid ((H.out.below b1).more z1); have HO := Lib.hid o1; have HB := Lib.hid b1; clear o1 b1) | ((with_reducible refine (place_yes _ l r c (y : Int) 0 _ HC.out HG.out (by omega) (by omega) (by omega) (by omega)).mono ?_); rintro e w' ⟨rfl, rfl⟩))
  rw [capc_if, capc_if, ← HX0.out, ← HMM.out]
  generalize (if fr < 0 then 0 else fr) = q
  generalize (if n < 0 then 0 else n) = q2
  have hpos : 0 < l.length := by rw [HN.out]; exact Nat.mul_pos (by omega) (by omega)
  obtain ⟨g, cap, rfl, hg1, hg2, hg3, hg4⟩ := HO.out.open_ hpos
  go_wp2
  go_loopw [12] (fun i wr => RowRel l (fun _ => blankC) c y x0 m w w.heap.size g cap i wr) (fun i _ => m - (intOf i).toNat)
  case atStart => exact ⟨x0, Nat.le_refl _, .inr rfl, rfl, by rw [fillL_none _ _ _ _ (Nat.le_refl _)]; exact HO.out, HB.out⟩
  case round =>
    generalize wr = w3 at *
    obtain ⟨x, hx1, hx, rfl, ho, hb⟩ := hrel
    have HO3 := Lib.hid ho
    have HB3 := Lib.hid hb
    have z3 := hb.size
    clear ho hb
    by_cases hxc : x < m
    · obtain ⟨p, hp⟩ : ∃ p : Nat, p = y * c := ⟨_, rfl⟩
      have hyc : (y : Int) * (c : Int) = (p : Int) := by rw [hp]; simp
      have hpx : p + x < l.length := by rw [hp, HN.out]; exact rc_lt (by omega) (by omega)
      have HP := Lib.hid hp
      clear hp
      go_wp2_with ((with_reducible refine (blank_any _).mono ?_); rintro e w' ⟨rfl, hw'⟩; have z4 := hw'.size; have H1 := Lib.hid (HO3.out.below hw'); have HW := Lib.hid hw'; obtain ⟨q0, q1, q2, s0, s1, s2, f0, f1, f2⟩ := (HO3.out.below hw').spot (p + x) hpx; have hg5 : g < w'.heap.size := (HO3.out.below hw').block.2; clear hw')
      go_roundw
      case rel =>
        refine ⟨x + 1, by omega, by omega, by go_num, ?_, below_put (HB3.out.trans (HW.out.mono z3)) hg1 _ _ _ _⟩
        have hpe := HP.out
        have := H1.out.put (p + x) hpx blankC
        rw [← hpe, fillL_set _ _ _ _ _ (by omega) rfl] at this
        rw [← hpe, show p + (x + 1) = p + x + 1 by omega]
        exact this
      case measure => simp [intOf]; omega
    · have hM : OC w3 w.heap.size (.slice (some ⟨g, 0, none⟩) l.length cap) (fillL l (fun _ => blankC) (y * c + x0) (y * c + m)) := by
        have := HO3.out
        by_cases e : m = x
        · rw [← e] at this; exact this
        · have e2 : x = x0 := by omega
          rw [e2, fillL_none _ _ _ _ (Nat.le_refl _)] at this
          rw [fillL_none _ _ _ _ (by omega)]
          exact this
      have HM := Lib.hid hM.cs
      clear hM
      go_wp2_with ((with_reducible refine (Mend_any _ (fillL l (fun _ => blankC) (y * c + x0) (y * c + m)) c y _ HM.out (by rw [fillL_len]; omega)).mono ?_); rintro e w4 ⟨v4, rfl, o4, b4⟩)
      go_ret
      exact CellsPost.up ⟨_, rfl, o4, b4⟩ HB3.out
theorem Erase_no (v : Value) (l : List Cl) (cols y x n : Int) (w : World) (h : CS w w.heap.size v l) (hl : l.length ≤ 1099511627776) (hb : gPlace l.length cols y 0 = false) :
    Calls Try.prog 60 #[v, .int .i64 cols, .int .i64 y, .int .i64 x, .int .i64 n] w (CellsPost l w) := by
  obtain ⟨A, k, rfl, h1, h2⟩ := h.form
  have H := Lib.hid h
  have HP := Lib.hid hb
  clear h hb
  go_enter Try.func60, Try.ntmps60
  go_wp2_with (first | ((with_reducible refine (own_any _ l _ H.out hl).mono ?_); rintro e w1 ⟨v1, rfl, o1, b1⟩; have z1 := b1.size; have HC := Lib.hid ((H.out.below b1).more z1); have H1 := Lib.hid o1; have HB := Lib.hid b1; clear o1 b1) | ((with_reducible refine (place_no _ l cols y 0 _ HC.out hl HP.out).mono ?_); rintro e w' ⟨rfl, rfl⟩))
  go_ret
  exact ⟨v1, rfl, H1.out, HB.out⟩
theorem Erase_any (v : Value) (l : List Cl) (cols y x n : Int) (w : World) (h : CS w w.heap.size v l) (hl : l.length ≤ 1099511627776) :
    Calls Try.prog 60 #[v, .int .i64 cols, .int .i64 y, .int .i64 x, .int .i64 n] w (CellsPost (eraseL l cols y x n) w) := by
  cases hb : gPlace l.length cols y 0 with
  | false =>
    unfold eraseL
    rw [hb]
    exact Erase_no v l cols y x n w h hl hb
  | true =>
    unfold eraseL
    rw [hb]
    obtain ⟨r, c, yy, xx, rfl, rfl, _, hG, hy, hx⟩ := gPlace_of hb
    simp only [Int.toNat_natCast, if_true]
    exact Erase_yes v l r c yy x n w h hG hy
end Go.Proofs.Ytklbfeemnekclaa

namespace Go.Proofs.Ytklbfeemnekclaa
open Go.RowKit
set_option linter.unusedVariables false
set_option maxHeartbeats 1000000 in
set_option maxRecDepth 100000 in
theorem Down_yes (v : Value) (l : List Cl) (r c top bottom : Nat) (n : Int) (w : World) (h : CS w w.heap.size v l) (hg : GOk l.length r c) (htb : top ≤ bottom) (hbr : bottom < r) :
    Calls Try.prog 53 #[v, .int .i64 (c : Int), .int .i64 (top : Int), .int .i64 (bottom : Int), .int .i64 n] w (CellsPost (fillL l (downF l c top (capN n)) (top * c) ((bottom + 1) * c)) w) := by
  obtain ⟨A, k, rfl, h1, h2⟩ := h.form
  have H := Lib.hid h
  have HG := Lib.hid hg
  have c1 := hg.c1
  have c2 := hg.c2
  have r2 := hg.r2
  have hn := hg.n
  have hrc := rc_le hg.r2 hg.c2
  have hlen : l.length ≤ 1000000 := by omega
  have HN := Lib.hid hn
  clear h hg hn
  have d1 : decide ((top : Int) < 0) = false := by simp
  have d2 : decide (r ≤ bottom) = false := by simpa using hbr
  have d3 : decide (bottom < top) = false := by simpa using htb
  go_enter Try.func53, Try.ntmps53
  go_upto_region 6 with (first | ((with_reducible refine (own_any _ l _ H.out (by omega)).mono ?_); rintro e w1 ⟨v1, rfl, o1, b1⟩; have z1 := b1.size; have HC := Lib.hid ((H.out.below b1).more z1); have HO := Lib.hid o1; have HB := Lib.hid b1; clear o1 b1) | ((with_reducible refine (grid_yes _ l r c _ HC.out HG.out).mono ?_); rintro e w' ⟨rfl, rfl⟩))
  rw [cap_if]
  have hm := capN_le n
  generalize capN n = m at *
  generalize (if n < 0 then 0 else n) = q
  have hpos : 0 < l.length := by rw [HN.out]; exact Nat.mul_pos (by omega) (by omega)
  obtain ⟨g, cap, rfl, hg1, hg2, hg3, hg4⟩ := HO.out.open_ hpos
  go_wp2
  go_loopw [14] (fun i wr => RowsRel l (downF l c top m) c top bottom w w.heap.size g cap i wr) (fun i _ => bottom + 1 - (intOf i).toNat)
  case atStart => exact ⟨top, Nat.le_refl _, by omega, rfl, by rw [fillL_none _ _ _ _ (Nat.le_refl _)]; exact HO.out, HB.out⟩
  case round =>
    generalize wr = w2 at *
    obtain ⟨y, hy1, hy2, rfl, ho, hb⟩ := hrel
    have HO2 := Lib.hid ho
    have HB2 := Lib.hid hb
    clear ho hb
    by_cases hlt : y ≤ bottom
    · go_wp2
      go_loopw [15] (fun i wr => ColsRel l (downF l c top m) c top y w w.heap.size g cap i wr) (fun i _ => c - (intOf i).toNat)
      case atStart => exact ⟨0, by omega, rfl, HO2.out, HB2.out⟩
      case round =>
        generalize wr = w3 at *
        obtain ⟨x, hx, rfl, ho, hb⟩ := hrel
        have HO3 := Lib.hid ho
        have HB3 := Lib.hid hb
        have z3 := hb.size
        clear ho hb
        by_cases hxc : x < c
        · obtain ⟨p, hp⟩ : ∃ p : Nat, p = y * c := ⟨_, rfl⟩
          have hyc : (y : Int) * (c : Int) = (p : Int) := by rw [hp]; simp
          have hpx : p + x < l.length := by rw [hp, HN.out]; exact rc_lt (by omega) hxc
          have hdv := rc_div y c x hxc
          rw [← hp] at hdv
          have HD := Lib.hid hdv
          have HP := Lib.hid hp
          clear hp hdv
          by_cases hym : top + m ≤ y
          · obtain ⟨p2, hp2⟩ : ∃ p2 : Nat, p2 = (y - m) * c := ⟨_, rfl⟩
            have hyc2 : ((y : Int) - (m : Int)) * (c : Int) = (p2 : Int) := by rw [hp2, Int.natCast_mul, Int.ofNat_sub (by omega)]
            have hpx2 : p2 + x < l.length := by rw [hp2, HN.out]; exact rc_lt (by omega) hxc
            have hym' : (top : Int) ≤ (y : Int) - (m : Int) := by omega
            obtain ⟨d, hd⟩ : ∃ d, l[p2 + x]? = some d := ⟨_, List.getElem?_eq_getElem hpx2⟩
            have HD2 := Lib.hid hd
            have HP2 := Lib.hid hp2
            clear hd hp2
            obtain ⟨ad, hA, hab, -⟩ := H.out.get (p2 + x) d HD2.out
            subst hA
            go_wp2_with ((with_reducible refine (blank_any _).mono ?_); rintro e w' ⟨rfl, hw'⟩; have z4 := hw'.size; have H1 := Lib.hid (HO3.out.below hw'); have HW := Lib.hid hw'; obtain ⟨x0, y0, z0, s0, s1, s2, f0, f1, f2⟩ := (HO3.out.below hw').spot (p + x) hpx; obtain ⟨_, hA, hab2, t0, t1, t2⟩ := ((H.out.below HB3.out).below (hw'.mono z3)).get (p2 + x) d HD2.out; cases hA; have tb : (ad.add ((p2 + x) * 3)).block < w'.heap.size := (by rw [block_add]; omega); have hg5 : g < w'.heap.size := (HO3.out.below hw').block.2; clear hw')
            go_roundw
            case rel =>
              refine ⟨x + 1, by omega, by go_num, ?_, (below_put (HB3.out.trans (HW.out.mono z3)) hg1 _ _ _ _).alloc (by simp; omega) _⟩
              have e : d = downF l c top m (p + x) := by
                unfold downF
                rw [HD.out.1, if_pos hym]
                have e2 : p + x - m * c = p2 + x := by
                  have e3 : (y - m) * c + m * c = y * c := by rw [← Nat.add_mul]; congr 1; omega
                  rw [HP.out, HP2.out]; omega
                rw [e2]
                have := getC_of hpx2
                rw [HD2.out] at this
                exact Option.some.inj this
              have hpe := HP.out
              have := (H1.out.put (p + x) hpx d).alloc (.cells #[.int .i32 d.r, .int .u16 (d.a : Int), .int .u8 (d.h : Int)] 41)
              rw [← hpe, fillL_set _ _ _ _ _ (by rw [HP.out]; exact Nat.le_trans (Nat.mul_le_mul_right _ hy1) (Nat.le_add_right _ _)) e] at this
              rw [show y * c + (x + 1) = p + x + 1 by rw [HP.out]; omega]
              exact this
            case measure => simp [intOf]; omega
          · have hym' : (y : Int) - (m : Int) < (top : Int) := by omega
            go_wp2_with ((with_reducible refine (blank_any _).mono ?_); rintro e w' ⟨rfl, hw'⟩; have z4 := hw'.size; have H1 := Lib.hid (HO3.out.below hw'); have HW := Lib.hid hw'; obtain ⟨x0, y0, z0, s0, s1, s2, f0, f1, f2⟩ := (HO3.out.below hw').spot (p + x) hpx; have hg5 : g < w'.heap.size := (HO3.out.below hw').block.2; clear hw')
            go_roundw
            case rel =>
              refine ⟨x + 1, by omega, by go_num, ?_, (below_put (HB3.out.trans (HW.out.mono z3)) hg1 _ _ _ _).alloc (by simp; omega) _⟩
              have e : blankC = downF l c top m (p + x) := by
                unfold downF
                rw [HD.out.1, if_neg hym]
              have hpe := HP.out
              have := (H1.out.put (p + x) hpx blankC).alloc (.cells #[.int .i32 32, .int .u16 0, .int .u8 0] 41)
              rw [← hpe, fillL_set _ _ _ _ _ (by rw [HP.out]; exact Nat.le_trans (Nat.mul_le_mul_right _ hy1) (Nat.le_add_right _ _)) e] at this
              rw [show y * c + (x + 1) = p + x + 1 by rw [HP.out]; omega]
              exact this
            case measure => simp [intOf]; omega
        · obtain rfl : c = x := by omega
          go_wp2
          go_roundw
          case rel =>
            refine ⟨y + 1, by omega, by omega, by go_num, ?_, HB3.out⟩
            have e : (y + 1) * c = y * c + c := by rw [Nat.add_mul, Nat.one_mul]
            rw [e]
            exact HO3.out
          case measure => simp [intOf]; omega
    · obtain rfl : y = bottom + 1 := by omega
      go_wp2
      go_ret
      exact ⟨_, rfl, HO2.out, HB2.out⟩
theorem Down_no (v : Value) (l : List Cl) (cols top bottom n : Int) (w : World) (h : CS w w.heap.size v l) (hl : l.length ≤ 1099511627776) (hb : upB l.length cols top bottom = false) :
    Calls Try.prog 53 #[v, .int .i64 cols, .int .i64 top, .int .i64 bottom, .int .i64 n] w (CellsPost l w) := by
  obtain ⟨A, k, rfl, h1, h2⟩ := h.form
  have H := Lib.hid h
  unfold upB at hb
  rw [decide_eq_false_iff_not] at hb
  clear h
  cases ho : gOk l.length cols with
  | false =>
    have HO := Lib.hid ho
    clear ho hb
    go_enter Try.func53, Try.ntmps53
    go_wp2_with (first | ((with_reducible refine (own_any _ l _ H.out hl).mono ?_); rintro e w1 ⟨v1, rfl, o1, b1⟩; have z1 := b1.size; have HC := Lib.hid ((H.out.below b1).more z1); have H1 := Lib.hid o1; have HB := Lib.hid b1; clear o1 b1) | ((with_reducible refine (grid_no _ l cols _ HC.out hl HO.out).mono ?_); rintro e w' ⟨rfl, rfl⟩))
    go_ret
    exact ⟨v1, rfl, H1.out, HB.out⟩
  | true =>
    obtain ⟨r, c, rfl, hG⟩ := gOk_of ho
    have hq := hG.quo.1
    rw [hq] at hb
    have hno : top < 0 ∨ (0 ≤ top ∧ (r : Int) ≤ bottom) ∨ (0 ≤ top ∧ bottom < (r : Int) ∧ bottom < top) := by
      by_cases e1 : top < 0
      · exact .inl e1
      by_cases e2 : (r : Int) ≤ bottom
      · exact .inr (.inl ⟨by omega, e2⟩)
      · refine .inr (.inr ⟨by omega, by omega, ?_⟩)
        by_cases e3 : bottom < top
        · exact e3
        · exact absurd ⟨ho, by omega, by omega, by omega⟩ hb
    have HG := Lib.hid hG
    clear ho hG hq hb
    rcases hno with e1 | ⟨e1, e2⟩ | ⟨e1, e2, e3⟩
    all_goals
      go_enter Try.func53, Try.ntmps53
      go_wp2_with (first | ((with_reducible refine (own_any _ l _ H.out hl).mono ?_); rintro e w1 ⟨v1, rfl, o1, b1⟩; have z1 := b1.size; have HC := Lib.hid ((H.out.below b1).more z1); have H1 := Lib.hid o1; have HB := Lib.hid b1; clear o1 b1) | ((with_reducible refine (grid_yes _ l r c _ HC.out HG.out).mono ?_); rintro e w' ⟨rfl, rfl⟩))
      go_ret
      exact ⟨v1, rfl, H1.out, HB.out⟩
theorem Down_any (v : Value) (l : List Cl) (cols top bottom n : Int) (w : World) (h : CS w w.heap.size v l) (hl : l.length ≤ 1099511627776) :
    Calls Try.prog 53 #[v, .int .i64 cols, .int .i64 top, .int .i64 bottom, .int .i64 n] w (CellsPost (downL l cols top bottom n) w) := by
  cases hb : upB l.length cols top bottom with
  | false =>
    have hno := hb
    unfold upB at hno
    rw [decide_eq_false_iff_not] at hno
    unfold downL
    rw [if_neg hno]
    exact Down_no v l cols top bottom n w h hl hb
  | true =>
    unfold upB at hb
    rw [decide_eq_true_eq] at hb
    unfold downL
    rw [if_pos hb]
    obtain ⟨h1, h2, h3, h4⟩ := hb
    obtain ⟨r, c, rfl, hG⟩ := gOk_of h1
    rw [hG.quo.1] at h3
    obtain ⟨t, rfl⟩ : ∃ t : Nat, top = t := ⟨top.toNat, by omega⟩
    obtain ⟨b, rfl⟩ : ∃ b : Nat, bottom = b := ⟨bottom.toNat, by omega⟩
    simp only [Int.toNat_natCast]
    exact Down_yes v l r c t b n w h hG (by omega) (by omega)
end Go.Proofs.Ytklbfeemnekclaa

namespace Go.Proofs.Ytklbfeemnekclaa
open Go.RowKit
set_option linter.unusedVariables false
set_option linter.unusedSimpArgs false

/-- A slice that reads as the cells l; if it has any its block is one of S. -/
def CL (w : World) (S : Nat → Prop) (v : Value) (l : List Cl) : Prop :=
  ∃ A c, v = .slice A l.length c ∧ l.length ≤ c ∧ c ≤ maxLen ∧ (0 < l.length → ∃ ad, A = some ad ∧ S ad.block ∧ ∀ j b, l[j]? = some b → ThreeAt w (ad.add (j * 3)) b)
section
variable {w w' : World} {S S' : Nat → Prop} {v : Value} {l : List Cl}
theorem CL.keep (h : CL w S v l) (hk : ∀ q : Addr, S q.block → w'.cell? q = w.cell? q) : CL w' S v l := by
  obtain ⟨A, c, hv, h1, h2, h3⟩ := h
  refine ⟨A, c, hv, h1, h2, fun hl => ?_⟩
  obtain ⟨ad, hA, hb, hc⟩ := h3 hl
  exact ⟨ad, hA, hb, fun j b hj => (hc j b hj).keep fun p hp => hk p (by rw [hp, block_add]; exact hb)⟩
theorem CL.mono (h : CL w S v l) (hS : ∀ x, S x → S' x) : CL w S' v l := by
  obtain ⟨A, c, hv, h1, h2, h3⟩ := h
  refine ⟨A, c, hv, h1, h2, fun hl => ?_⟩
  obtain ⟨ad, hA, hb, hc⟩ := h3 hl
  exact ⟨ad, hA, hS _ hb, hc⟩
theorem CL.nil (w : World) (S : Nat → Prop) : CL w S (.slice none 0 0) [] := ⟨none, 0, rfl, by simp, by simp [maxLen], fun h => absurd h (by simp)⟩
theorem CL.form (h : CL w S v l) : ∃ A c, v = .slice A l.length c ∧ l.length ≤ c ∧ c ≤ 9223372036854775807 := by
  obtain ⟨A, c, hv, h1, h2, _⟩ := h
  unfold maxLen at h2
  exact ⟨A, c, hv, h1, by omega⟩
theorem CL.cs {B : Nat} (h : CL w S v l) (hS : ∀ x, S x → x < B) : CS w B v l := h.mono hS
theorem CL.cs' {B : Nat} (h : CL w S v l) (hS : ∀ x, S x → x < w.heap.size) (hb : Below w.heap.size w w') (hB : w'.heap.size ≤ B) : CS w' B v l :=
  (h.keep (fun q hq => hb.cell (hS _ hq))).cs (fun x hx => Nat.lt_of_lt_of_le (hS x hx) (Nat.le_trans hb.size hB))
end
theorem OT.sl {w : World} {base : Nat} {v : Value} {l : List Bool} (h : OT w base v l) : SL vT w (NewB w base) v l := by
  obtain ⟨A, c, hv, h1, h2, h3⟩ := h.bs
  refine ⟨A, c, hv, h1, h2, fun hl => ?_⟩
  obtain ⟨ad, hA, hb, hc⟩ := h3 hl
  subst hA
  exact ⟨ad, rfl, ⟨(World.ownsRow.lt h ad.block (by rw [hv]; rfl)).1, hb⟩, hc⟩
theorem OC.cl {w : World} {base : Nat} {v : Value} {l : List Cl} (h : OC w base v l) : CL w (NewB w base) v l := by
  obtain ⟨A, c, hv, h1, h2, h3⟩ := h.cs
  refine ⟨A, c, hv, h1, h2, fun hl => ?_⟩
  obtain ⟨ad, hA, hb, hc⟩ := h3 hl
  subst hA
  exact ⟨ad, rfl, ⟨(World.ownsRow.lt h ad.block (by rw [hv]; rfl)).1, hb⟩, hc⟩
/-- A screen's 24 values. -/
@[reducible] def vS (s : Sc) (vc vt vo vp vi vu : Value) : Array Value :=
  #[.int .i64 s.rows, .int .i64 s.cols, vc, .int .i64 s.y, .int .i64 s.x, .bool s.wrap, .int .u16 (s.attr : Int), .int .i64 s.top, .int .i64 s.bottom, vt, .int .i64 s.sy, .int .i64 s.sx, .int .u16 (s.sattr : Int), .bool s.auto, .bool s.shown, .bool s.alt, vo, .int .i64 s.oy, .int .i64 s.ox, .int .i64 (s.p.mode : Int), .int .u8 (s.p.priv : Int), vp, vi, vu]
/-- The slices of a screen: they lie in blocks of S. -/
def SSl (w : World) (S : Nat → Prop) (s : Sc) (vc vt vo vp vi vu : Value) : Prop :=
  CL w S vc s.cells ∧ SL vT w S vt s.tabs ∧ CL w S vo s.other ∧ SL vI w S vp s.p.params ∧ SL vB w S vi s.p.inter ∧ SL vB w S vu s.p.utf
def SCV (w : World) (S : Nat → Prop) (v : Value) (s : Sc) : Prop := ∃ vc vt vo vp vi vu, v = .agg (vS s vc vt vo vp vi vu) ∧ SSl w S s vc vt vo vp vi vu
section
variable {w w' : World} {S S' : Nat → Prop} {s : Sc} {vc vt vo vp vi vu : Value}
theorem SSl.keep (h : SSl w S s vc vt vo vp vi vu) (hk : ∀ q : Addr, S q.block → w'.cell? q = w.cell? q) : SSl w' S s vc vt vo vp vi vu := by
  obtain ⟨h1, h2, h3, h4, h5, h6⟩ := h
  exact ⟨h1.keep hk, h2.keep hk, h3.keep hk, h4.keep hk, h5.keep hk, h6.keep hk⟩
theorem SSl.mono (h : SSl w S s vc vt vo vp vi vu) (hS : ∀ x, S x → S' x) : SSl w S' s vc vt vo vp vi vu := by
  obtain ⟨h1, h2, h3, h4, h5, h6⟩ := h
  exact ⟨h1.mono hS, h2.mono hS, h3.mono hS, h4.mono hS, h5.mono hS, h6.mono hS⟩
theorem SSl.below {B : Nat} (h : SSl w S s vc vt vo vp vi vu) (hS : ∀ x, S x → x < B) (hb : Below B w w') : SSl w' S s vc vt vo vp vi vu := h.keep fun q hq => hb.cell (hS _ hq)
/-- Another screen of the same slices. -/
theorem SSl.like {s' : Sc} (h : SSl w S s vc vt vo vp vi vu) (h1 : s'.cells = s.cells) (h2 : s'.tabs = s.tabs) (h3 : s'.other = s.other) (h4 : s'.p = s.p) : SSl w S s' vc vt vo vp vi vu := by
  unfold SSl
  rw [h1, h2, h3, h4]
  exact h
end
theorem SCV.below {w w' : World} {S : Nat → Prop} {B : Nat} {v : Value} {s : Sc} (h : SCV w S v s) (hS : ∀ x, S x → x < B) (hb : Below B w w') : SCV w' S v s := by
  obtain ⟨vc, vt, vo, vp, vi, vu, hv, hs⟩ := h
  exact ⟨vc, vt, vo, vp, vi, vu, hv, hs.below hS hb⟩
theorem SCV.mono {w : World} {S S' : Nat → Prop} {v : Value} {s : Sc} (h : SCV w S v s) (hS : ∀ x, S x → S' x) : SCV w S' v s := by
  obtain ⟨vc, vt, vo, vp, vi, vu, hv, hs⟩ := h
  exact ⟨vc, vt, vo, vp, vi, vu, hv, hs.mono hS⟩
/-- Blocks of S, and those that were made since. -/
def Since (S : Nat → Prop) (w w' : World) (x : Nat) : Prop := S x ∨ NewB w' w.heap.size x
/-- What a call answers that tells a screen. -/
def ScPost (S : Nat → Prop) (s : Sc) (w : World) (e : Ending) (w' : World) : Prop := ∃ v, e = .returned v ∧ SCV w' (Since S w w') v s ∧ Below w.heap.size w w'

theorem scrSize : (Try.prog.info? 31).map (·.size) = some 24 := by kernel_rfl
theorem run_loadS {w : World} {g : Nat} {xs : Array Value} (h : w.heap[g]? = some (.cells xs 31)) (hn : xs.size = 24) : (Instr.loadAt 31 (.pointer (some ⟨g, 0, none⟩))).run Try.prog w = .ok (.agg xs) w := by
  simp only [Instr.loadAt, Instr.sureAddr, Sem.run_bind, Sem.run_pure, Result.andThen]
  exact run_loadVar_row _ g _ 31 xs (0, 0) _ h Try.underlying31 rfl (by rw [scrSize, hn])
theorem run_storeS {w : World} {g : Nat} {old xs : Array Value} (h : w.heap[g]? = some (.cells old 31)) (ho : old.size = 24) (hn : xs.size = 24) (h1 : xs.all (·.oneCell') = true) : (Instr.storeAt 31 (.pointer (some ⟨g, 0, none⟩)) (.agg xs)).run Try.prog w = .ok () (w.setRow g xs) := by
  simp only [Instr.storeAt, Instr.sureAddr, Sem.run_bind, Sem.run_pure, Result.andThen]
  exact run_storeVar_row _ g _ 31 old xs h (by rw [scrSize, hn]) (by rw [ho, hn]) h1
theorem heap_setRow_same {w : World} {g : Nat} {old xs : Array Value} {t : TypeId} (h : w.heap[g]? = some (.cells old t)) : (w.setRow g xs).heap[g]? = some (.cells xs t) := by
  simp [World.setRow, Array.getElem?_modify, h]
theorem heap_setRow_other {w : World} {g k : Nat} {xs : Array Value} (h : g ≠ k) : (w.setRow g xs).heap[k]? = w.heap[k]? := by
  simp [World.setRow, Array.getElem?_modify, h]
theorem size_setRow (w : World) (g : Nat) (xs : Array Value) : (w.setRow g xs).heap.size = w.heap.size := by simp [World.setRow]
theorem below_setRow {B : Nat} {w w' : World} (h : Below B w w') {g : Nat} (hg : B ≤ g) (xs : Array Value) : Below B w (w'.setRow g xs) :=
  ⟨h.os, h.tape, h.output, by rw [size_setRow]; exact h.size, fun i hi => (heap_setRow_other (by omega)).trans (h.block i hi)⟩
theorem resultS {fn : Func} {p : Tmp} (h : fn.results = #[.cell p 31]) {tmps : Array Value} {w : World} {g : Nat} {xs : Array Value} (ht : tmps.getD p undef = .pointer (some ⟨g, 0, none⟩)) (hg : w.heap[g]? = some (.cells xs 31)) (hn : xs.size = 24) :
    (results fn tmps).run Try.prog w = .ok (.agg xs) w := by
  simp only [results, h]
  have := run_loadVar_row (P := Try.prog) w g _ 31 xs (0, 0) _ hg Try.underlying31 rfl (by rw [scrSize, hn])
  have ht2 : tmps[p]?.getD undef = .pointer (some ⟨g, 0, none⟩) := by simpa using ht
  simp [ht2, asAddr, this]
theorem wpl_loadS {w : World} {ops : Array Oper} {rest : List Oper} {o : Oper} {a : Act} {Q : Exit → Act → World → Prop} (hgd : o.guard = none) (x : Operand) (ho : o.op = .load 31 x) {g : Nat} {xs : Array Value} (hx : a.eval x = .pointer (some ⟨g, 0, none⟩))
    (hg : w.heap[g]? = some (.cells xs 31)) (hn : xs.size = 24) (h : wpList Try.prog ops Q rest (a.put o.dst (.agg xs)) w) : wpList Try.prog ops Q (o :: rest) a w := by
  refine wpList_plain hgd fun K hK => ?_
  unfold Oper.wp execOp
  simp only [ho, hx, Sem.run_bind, run_loadS hg hn, Result.andThen_ok, Sem.run_pure]
  exact hK _ _ h
theorem wpl_storeS {w : World} {ops : Array Oper} {rest : List Oper} {o : Oper} {a : Act} {Q : Exit → Act → World → Prop} (hgd : o.guard = none) (x y : Operand) (ho : o.op = .store 31 x y) {g : Nat} {old xs : Array Value} (hx : a.eval x = .pointer (some ⟨g, 0, none⟩)) (hy : a.eval y = .agg xs)
    (hg : w.heap[g]? = some (.cells old 31)) (ho2 : old.size = 24) (hn : xs.size = 24) (h1 : xs.all (·.oneCell') = true) (h : wpList Try.prog ops Q rest (a.put o.dst undef) (w.setRow g xs)) : wpList Try.prog ops Q (o :: rest) a w := by
  refine wpList_plain hgd fun K hK => ?_
  unfold Oper.wp execOp
  simp only [ho, hx, hy, Sem.run_bind, run_storeS hg ho2 hn h1, Result.andThen_ok, Sem.run_pure]
  exact hK _ _ h
theorem vS_one (s : Sc) {vc vt vo vp vi vu : Value} {A1 A2 A3 A4 A5 A6 : Option Addr} {n1 n2 n3 n4 n5 n6 c1 c2 c3 c4 c5 c6 : Nat} (e1 : vc = .slice A1 n1 c1) (e2 : vt = .slice A2 n2 c2) (e3 : vo = .slice A3 n3 c3) (e4 : vp = .slice A4 n4 c4) (e5 : vi = .slice A5 n5 c5) (e6 : vu = .slice A6 n6 c6) : (vS s vc vt vo vp vi vu).all (·.oneCell') = true := by
  subst e1 e2 e3 e4 e5 e6
  simp [vS, Value.oneCell']
theorem SSl.one {w : World} {S : Nat → Prop} {s s' : Sc} {vc vt vo vp vi vu : Value} (h : SSl w S s vc vt vo vp vi vu) : (vS s' vc vt vo vp vi vu).all (·.oneCell') = true := by
  obtain ⟨h1, h2, h3, h4, h5, h6⟩ := h
  obtain ⟨A1, c1, e1, _⟩ := h1.form
  obtain ⟨A2, c2, e2, _⟩ := h2.form
  obtain ⟨A3, c3, e3, _⟩ := h3.form
  obtain ⟨A4, c4, e4, _⟩ := h4.form
  obtain ⟨A5, c5, e5, _⟩ := h5.form
  obtain ⟨A6, c6, e6, _⟩ := h6.form
  exact vS_one s' e1 e2 e3 e4 e5 e6
theorem all24 {x0 x1 x2 x3 x4 x5 x6 x7 x8 x9 x10 x11 x12 x13 x14 x15 x16 x17 x18 x19 x20 x21 x22 x23 : Value} (h0 : x0.oneCell' = true) (h1 : x1.oneCell' = true) (h2 : x2.oneCell' = true) (h3 : x3.oneCell' = true) (h4 : x4.oneCell' = true) (h5 : x5.oneCell' = true) (h6 : x6.oneCell' = true) (h7 : x7.oneCell' = true) (h8 : x8.oneCell' = true) (h9 : x9.oneCell' = true) (h10 : x10.oneCell' = true) (h11 : x11.oneCell' = true) (h12 : x12.oneCell' = true) (h13 : x13.oneCell' = true) (h14 : x14.oneCell' = true) (h15 : x15.oneCell' = true) (h16 : x16.oneCell' = true) (h17 : x17.oneCell' = true) (h18 : x18.oneCell' = true) (h19 : x19.oneCell' = true) (h20 : x20.oneCell' = true) (h21 : x21.oneCell' = true) (h22 : x22.oneCell' = true) (h23 : x23.oneCell' = true) : (#[x0, x1, x2, x3, x4, x5, x6, x7, x8, x9, x10, x11, x12, x13, x14, x15, x16, x17, x18, x19, x20, x21, x22, x23] : Array Value).all (·.oneCell') = true := by
  simp [h0, h1, h2, h3, h4, h5, h6, h7, h8, h9, h10, h11, h12, h13, h14, h15, h16, h17, h18, h19, h20, h21, h22, h23]
end Go.Proofs.Ytklbfeemnekclaa

namespace Go.Proofs.Ytklbfeemnekclaa
open Go.RowKit
set_option linter.unusedVariables false
set_option linter.unusedSimpArgs false

theorem heap_a1 (w : World) (x y : Obj) : ((w.alloc x).alloc y).heap[w.heap.size]? = some x := by
  show ((w.heap.push x).push y)[w.heap.size]? = some x
  simp [Array.getElem?_push]
theorem heap_a2 (w : World) (x y : Obj) : ((w.alloc x).alloc y).heap[w.heap.size + 1]? = some y := by
  show ((w.heap.push x).push y)[w.heap.size + 1]? = some y
  rw [Array.getElem?_push, if_pos (by simp)]
/-- The end of a walk that has stored a screen as its result. -/
theorem scEnd {w W : World} {S : Nat → Prop} {s : Sc} (g : Nat) (p : Tmp) {vc vt vo vp vi vu : Value} {fn : Func} {a : Act} {z : Array Value} (hfn : fn.results = #[.cell p 31]) (ht : a.tmps.getD p undef = .pointer (some ⟨g, 0, none⟩)) (hd : a.defers = [])
    (hz : W.heap[g]? = some (.cells z 31)) (hg : w.heap.size ≤ g) (hb : Below w.heap.size w W) (hS : ∀ x, S x → x < w.heap.size) (hs : SSl w S s vc vt vo vp vi vu) : bodyPost Try.prog fn (ScPost S s w) .ret a (W.setRow g (vS s vc vt vo vp vi vu)) := by
  refine bodyPost_ret (v := .agg (vS s vc vt vo vp vi vu)) (resultS hfn ht (heap_setRow_same hz) rfl) hd ?_
  have hb2 := below_setRow hb hg (vS s vc vt vo vp vi vu)
  exact ⟨_, rfl, ⟨_, _, _, _, _, _, rfl, (hs.below hS hb2).mono (fun x hx => .inl hx)⟩, hb2⟩
/-- The same of a screen with new cells. -/
theorem scEndC {w w4 W : World} {S : Nat → Prop} {s s0 : Sc} (g : Nat) (p : Tmp) {vc0 vc vt vo vp vi vu : Value} {fn : Func} {a : Act} {z : Array Value} (hfn : fn.results = #[.cell p 31]) (ht : a.tmps.getD p undef = .pointer (some ⟨g, 0, none⟩)) (hd : a.defers = [])
    (hz : W.heap[g]? = some (.cells z 31)) (hg : w.heap.size ≤ g) (hb : Below w.heap.size w W) (hS : ∀ x, S x → x < w.heap.size) (hs : SSl w S s0 vc0 vt vo vp vi vu) (e1 : s.tabs = s0.tabs) (e2 : s.other = s0.other) (e3 : s.p = s0.p)
    (base : Nat) (hbase : g < base) (hc : OC w4 base vc s.cells) (hk : ∀ b, base ≤ b → W.heap[b]? = w4.heap[b]?) (hz4 : w4.heap.size ≤ W.heap.size) : bodyPost Try.prog fn (ScPost S s w) .ret a (W.setRow g (vS s vc vt vo vp vi vu)) := by
  refine bodyPost_ret (v := .agg (vS s vc vt vo vp vi vu)) (resultS hfn ht (heap_setRow_same hz) rfl) hd ?_
  have hb2 := below_setRow hb hg (vS s vc vt vo vp vi vu)
  obtain ⟨h1, h2, h3, h4, h5, h6⟩ := (hs.below hS hb2).mono (S' := Since S w (W.setRow g (vS s vc vt vo vp vi vu))) (fun x hx => .inl hx)
  refine ⟨_, rfl, ⟨_, _, _, _, _, _, rfl, ?_⟩, hb2⟩
  unfold SSl
  rw [e1, e2, e3]
  refine ⟨(hc.cl.keep (fun q hq => World.cell?_of_block ((heap_setRow_other (by have := hq.1; omega)).trans (hk _ hq.1)))).mono (fun x hx => .inr ⟨by have := hx.1; omega, ?_⟩), h2, h3, h4, h5, h6⟩
  rw [size_setRow]
  have := hx.2
  omega
/-- The same of a screen that a call within has answered. -/
theorem scEndV {w w4 : World} {S S4 : Nat → Prop} {s : Sc} (g : Nat) (p : Tmp) {vc vt vo vp vi vu : Value} {fn : Func} {a : Act} {z : Array Value} (hfn : fn.results = #[.cell p 31]) (ht : a.tmps.getD p undef = .pointer (some ⟨g, 0, none⟩)) (hd : a.defers = [])
    (hz : w4.heap[g]? = some (.cells z 31)) (hg : w.heap.size ≤ g) (hb : Below w.heap.size w w4) (hS : ∀ x, S x → x < w.heap.size) (hs : SSl w4 S4 s vc vt vo vp vi vu) (h4 : ∀ x, S4 x → S x ∨ (g < x ∧ x < w4.heap.size)) : bodyPost Try.prog fn (ScPost S s w) .ret a (w4.setRow g (vS s vc vt vo vp vi vu)) := by
  refine bodyPost_ret (v := .agg (vS s vc vt vo vp vi vu)) (resultS hfn ht (heap_setRow_same hz) rfl) hd ?_
  have hb2 := below_setRow hb hg (vS s vc vt vo vp vi vu)
  refine ⟨_, rfl, ⟨_, _, _, _, _, _, rfl, (hs.keep (fun q hq => World.cell?_of_block (heap_setRow_other ?_))).mono (fun x hx => ?_)⟩, hb2⟩
  · rcases h4 _ hq with h | h
    · have := hS _ h; omega
    · omega
  · rcases h4 _ hx with h | h
    · exact .inl h
    · exact .inr ⟨by omega, by rw [size_setRow]; omega⟩
theorem cellR {w : World} {g : Nat} {xs : Array Value} {t : TypeId} (h : w.heap[g]? = some (.cells xs t)) (i : Nat) {v : Value} (hv : xs[i]? = some v) : w.cell? ⟨g, i, none⟩ = some v ∧ w.frozen? ⟨g, i, none⟩ = false :=
  ⟨by rw [cell_of_row w g i _ t _ h]; exact hv, by simp [World.frozen?, h]⟩
set_option maxHeartbeats 2000000 in
set_option maxRecDepth 100000 in
theorem downr_any (v : Value) (s : Sc) (r c : Nat) (S : Nat → Prop) (w : World) (hS : ∀ x, S x → x < w.heap.size) (h : SCV w S v s) (hi : ScIn s r c) : Calls Try.prog 50 #[v] w (ScPost S (downS s) w) := by
  have HSS := Lib.hid hS
  clear hS
  obtain ⟨vc, vt, vo, vp, vi, vu, rfl, hs⟩ := h
  have HS := Lib.hid hs
  obtain ⟨g1, g2, g3, g4, g5, g6⟩ := hs
  obtain ⟨A1, k1, rfl, p1, q1⟩ := g1.form
  obtain ⟨A2, k2, rfl, p2, q2⟩ := g2.form
  obtain ⟨A3, k3, rfl, p3, q3⟩ := g3.form
  obtain ⟨A4, k4, rfl, p4, q4⟩ := g4.form
  obtain ⟨A5, k5, rfl, p5, q5⟩ := g5.form
  obtain ⟨A6, k6, rfl, p6, q6⟩ := g6.form
  clear g1 g2 g3 g4 g5 g6
  have HI := Lib.hid hi
  have y0 := hi.y0
  have y1 := hi.y1
  have hr := hi.rows
  have hlen : s.cells.length ≤ 1000000 := by rw [hi.g.n]; exact rc_le hi.g.r2 hi.g.c2
  have hr2 := hi.g.r2
  clear hi
  have HR := Lib.hid hr
  have hr3 : s.rows ≤ 1000 := by omega
  have hr4 : 1 ≤ s.rows := by omega
  clear hr
  by_cases hb : s.y = s.bottom
  · have hb1 : (s.y == s.bottom) = true := by simpa using hb
    have e : downS s = { s with wrap := false, cells := upL s.cells s.cols s.top s.bottom 1 } := by unfold downS; rw [if_pos hb]
    rw [e]
    have HBB := Lib.hid hb
    clear e hb
    have h2 := two_new w (.cells #[.int .i64 s.rows, .int .i64 s.cols, .slice A1 s.cells.length k1, .int .i64 s.y, .int .i64 s.x, .bool false, .int .u16 (s.attr : Int), .int .i64 s.top, .int .i64 s.bottom, .slice A2 s.tabs.length k2, .int .i64 s.sy, .int .i64 s.sx, .int .u16 (s.sattr : Int), .bool s.auto, .bool s.shown, .bool s.alt, .slice A3 s.other.length k3, .int .i64 s.oy, .int .i64 s.ox, .int .i64 (s.p.mode : Int), .int .u8 (s.p.priv : Int), .slice A4 s.p.params.length k4, .slice A5 s.p.inter.length k5, .slice A6 s.p.utf.length k6] 31) (.cells #[.int .i64 0, .int .i64 0, .slice none 0 0, .int .i64 0, .int .i64 0, .bool false, .int .u16 0, .int .i64 0, .int .i64 0, .slice none 0 0, .int .i64 0, .int .i64 0, .int .u16 0, .bool false, .bool false, .bool false, .slice none 0 0, .int .i64 0, .int .i64 0, .int .i64 0, .int .u8 0, .slice none 0 0, .slice none 0 0, .slice none 0 0] 31)
    have HC := Lib.hid (HS.out.1.cs' HSS.out h2.1 (Nat.le_refl _))
    have H2 := Lib.hid h2
    clear h2
    go_enter Try.func50, Try.ntmps50
    go_upto_region 6 with fail
    ((with_reducible refine (Up_any _ s.cells s.cols s.top s.bottom 1 _ HC.out (by omega)).mono ?_); rintro e w4 ⟨v4, rfl, o4, b4⟩; have hb4 : Below (w.heap.size + 1 + 1) _ w4 := (by rw [← H2.out.2]; exact b4); obtain ⟨k0, k1⟩ := two_keptB hb4; obtain ⟨c2, f2⟩ := cellR k0 2 rfl; have K0 := Lib.hid k0; have K1 := Lib.hid k1; rw [H2.out.2] at o4; have O4 := Lib.hid o4; have B4 := Lib.hid (H2.out.1.trans (hb4.mono (by omega))); have Z4 := b4.size; rw [H2.out.2] at Z4; clear o4 b4 hb4 k0 k1)
    obtain ⟨A7, k7, rfl, p7, q7⟩ := O4.out.cs.form
    go_upto_region 6 with fail
    refine wp_region_lit ?_
    refine wpl_loadS rfl (.tmp 1) rfl rfl ((heap_setCell_same _ _ 2 _ _ _ K0.out).trans rfl) rfl ?_
    refine wpl_storeS rfl (.tmp 2) (.tmp 29) rfl rfl rfl ((heap_setCell_other _ _ _ _ (by simp)).trans K1.out) rfl rfl (all24 rfl rfl rfl rfl rfl rfl rfl rfl rfl rfl rfl rfl rfl rfl rfl rfl rfl rfl rfl rfl rfl rfl rfl rfl) ?_
    go_wp2
    refine scEndC (w.heap.size + 1) 2 Try.results50 ?_ ?_ ((heap_setCell_other _ _ _ _ (by simp)).trans K1.out) (by omega) (B4.out.setCell (by simp) _) HSS.out HS.out ?_ ?_ ?_ (w.heap.size + 1 + 1) (by omega) O4.out (fun b hb => heap_setCell_other _ _ _ _ (by simp; omega)) (by simp)
    all_goals rfl
  · have hb1 : (s.y == s.bottom) = false := by simpa using hb
    by_cases hb2 : s.y < s.rows - 1
    · have e : downS s = { s with wrap := false, y := s.y + 1 } := by unfold downS; rw [if_neg hb, if_pos hb2]
      rw [e]
      clear e
      go_enter Try.func50, Try.ntmps50
      go_upto_region 6 with fail
      refine wp_region_lit ?_
      refine wpl_loadS rfl (.tmp 1) rfl rfl (heap_a1 w _ _) rfl ?_
      refine wpl_storeS rfl (.tmp 2) (.tmp 29) rfl rfl rfl (heap_a2 w _ _) rfl rfl (all24 rfl rfl rfl rfl rfl rfl rfl rfl rfl rfl rfl rfl rfl rfl rfl rfl rfl rfl rfl rfl rfl rfl rfl rfl) ?_
      go_wp2
      refine scEnd (w.heap.size + 1) 2 Try.results50 ?_ ?_ (heap_a2 w _ _) (by omega) (two_new w _ _).1 HSS.out (HS.out.like ?_ ?_ ?_ ?_)
      all_goals rfl
    · have hb3 : decide (s.y < s.rows - 1) = false := by simpa using hb2
      have e : downS s = { s with wrap := false } := by unfold downS; rw [if_neg hb, if_neg (by omega)]
      rw [e]
      clear e
      go_enter Try.func50, Try.ntmps50
      go_upto_region 6 with fail
      refine wp_region_lit ?_
      refine wpl_loadS rfl (.tmp 1) rfl rfl (heap_a1 w _ _) rfl ?_
      refine wpl_storeS rfl (.tmp 2) (.tmp 29) rfl rfl rfl (heap_a2 w _ _) rfl rfl (all24 rfl rfl rfl rfl rfl rfl rfl rfl rfl rfl rfl rfl rfl rfl rfl rfl rfl rfl rfl rfl rfl rfl rfl rfl) ?_
      go_wp2
      refine scEnd (w.heap.size + 1) 2 Try.results50 ?_ ?_ (heap_a2 w _ _) (by omega) (two_new w _ _).1 HSS.out (HS.out.like ?_ ?_ ?_ ?_)
      all_goals rfl
end Go.Proofs.Ytklbfeemnekclaa

namespace Go.Proofs.Ytklbfeemnekclaa
open Go.RowKit
set_option linter.unusedVariables false
set_option linter.unusedSimpArgs false

theorem minmax_if (y m : Int) : (if m < (if y < 0 then 0 else y) then m else (if y < 0 then 0 else y)) = min (max y 0) m := by
  by_cases h : y < 0
  · simp only [h, if_true]
    split <;> omega
  · simp only [h, if_false]
    split <;> omega
set_option maxHeartbeats 2000000 in
set_option maxRecDepth 100000 in
theorem tor_any (v : Value) (s : Sc) (y x : Int) (S : Nat → Prop) (w : World) (hS : ∀ x, S x → x < w.heap.size) (h : SCV w S v s) (hr1 : 1 ≤ s.rows) (hr2 : s.rows ≤ 1000) (hc1 : 1 ≤ s.cols) (hc2 : s.cols ≤ 1000) : Calls Try.prog 55 #[v, .int .i64 y, .int .i64 x] w (ScPost S (toS s y x) w) := by
  have HSS := Lib.hid hS
  clear hS
  obtain ⟨vc, vt, vo, vp, vi, vu, rfl, hs⟩ := h
  have HS := Lib.hid hs
  obtain ⟨g1, g2, g3, g4, g5, g6⟩ := hs
  obtain ⟨A1, k1, rfl, p1, q1⟩ := g1.form
  obtain ⟨A2, k2, rfl, p2, q2⟩ := g2.form
  obtain ⟨A3, k3, rfl, p3, q3⟩ := g3.form
  obtain ⟨A4, k4, rfl, p4, q4⟩ := g4.form
  obtain ⟨A5, k5, rfl, p5, q5⟩ := g5.form
  obtain ⟨A6, k6, rfl, p6, q6⟩ := g6.form
  clear g1 g2 g3 g4 g5 g6
  unfold toS
  go_enter Try.func55, Try.ntmps55
  go_upto_region 2 with fail
  rw [minmax_if, minmax_if]
  generalize (if y < 0 then 0 else y) = qy
  generalize (if x < 0 then 0 else x) = qx
  refine wp_region_lit ?_
  refine wpl_loadS rfl (.tmp 3) rfl rfl (heap_a1 w _ _) rfl ?_
  refine wpl_storeS rfl (.tmp 6) (.tmp 22) rfl rfl rfl (heap_a2 w _ _) rfl rfl (all24 rfl rfl rfl rfl rfl rfl rfl rfl rfl rfl rfl rfl rfl rfl rfl rfl rfl rfl rfl rfl rfl rfl rfl rfl) ?_
  go_wp2
  refine scEnd (w.heap.size + 1) 6 Try.results55 ?_ ?_ (heap_a2 w _ _) (by omega) (two_new w _ _).1 HSS.out (HS.out.like ?_ ?_ ?_ ?_)
  all_goals rfl
theorem paramr_any (v : Value) (l : List Int) (i : Nat) (u : Int) (S : Nat → Prop) (w : World) (h : SL vI w S v l) (hl : l.length ≤ 1048576) (hi : i < 1000) : Calls Try.prog 54 #[v, .int .i64 (i : Int), .int .i64 u] w fun e w' => e = .returned (.int .i64 (paramL l i u)) ∧ w = w' := by
  obtain ⟨A, c, rfl, h1, h2⟩ := h.form
  have H := Lib.hid h
  clear h
  by_cases hlt : i < l.length
  · obtain ⟨x, hx⟩ : ∃ x, l[i]? = some x := ⟨_, List.getElem?_eq_getElem hlt⟩
    have hg : l.getD i 0 = x := by simp [List.getD, hx]
    obtain ⟨A', c', hv, _, _, h3⟩ := H.out
    simp only [Value.slice.injEq] at hv
    obtain ⟨ad, hA, _, hcell⟩ := h3 (by omega)
    have e1 := hcell i x hx
    rw [← hv.1] at hA
    subst hA
    unfold vI at e1
    have HG := Lib.hid hg
    clear hcell hg hx hv h3
    by_cases hz : x = 0
    · subst hz
      go_enter Try.func54, Try.ntmps54
      go_wp2
      go_ret
      exact ⟨by unfold paramL; rw [HG.out]; rfl, rfl⟩
    · have hz1 : (x == 0) = false := by simpa using hz
      go_enter Try.func54, Try.ntmps54
      go_wp2
      go_ret
      exact ⟨by unfold paramL; rw [HG.out, if_neg hz]; rfl, rfl⟩
  · have hg : l.getD i 0 = 0 := by simp [List.getD, List.getElem?_eq_none (show l.length ≤ i by omega)]
    have HG := Lib.hid hg
    clear hg
    go_enter Try.func54, Try.ntmps54
    go_wp2
    go_ret
    exact ⟨by unfold paramL; rw [HG.out]; rfl, rfl⟩
end Go.Proofs.Ytklbfeemnekclaa
