/- What is proved here: the law GridBack, called with any numbers, returns true and leaves alone whatever memory was there; for every input the law GridBack answers true (what goes up and down again is there, but for what went off); no condition. -/
import Derived.Test.YtejemcpkmfhenaaMGridSizes
import Derived.Deep.CutRange
import Derived.Deep.RegionHeld3
import Derived.Deep.RegionLaw
import Derived.Test.YtejemcpkmfhenaaRows
import Derived.WalkKit
import Derived.ProofKit
import Derived.OpenShut
import Derived.ShutString
import Derived.ChangeOld
import Derived.Below
namespace Go.Proofs.Ytejemcpkmfhenaa
open Go.RowKit
set_option linter.unusedVariables false
set_option linter.unusedSimpArgs false

theorem setcell_three3 {w : World} {g : Nat} {a b c : Value} {t : TypeId} (h : w.heap[g]? = some (.cells #[a, b, c] t)) (x y z : Value) :
    (((w.setCell ⟨g, 0, none⟩ x).setCell ⟨g, 1, none⟩ y).setCell ⟨g, 2, none⟩ z).cell? ⟨g, 0, none⟩ = some x ∧ (((w.setCell ⟨g, 0, none⟩ x).setCell ⟨g, 1, none⟩ y).setCell ⟨g, 2, none⟩ z).cell? ⟨g, 1, none⟩ = some y ∧ (((w.setCell ⟨g, 0, none⟩ x).setCell ⟨g, 1, none⟩ y).setCell ⟨g, 2, none⟩ z).cell? ⟨g, 2, none⟩ = some z := by
  have h3 := heap_setCell_same _ g 2 _ t z (heap_setCell_same _ g 1 _ t y (heap_setCell_same w g 0 _ t x h))
  exact ⟨cellG h3 0 rfl, cellG h3 1 rfl, cellG h3 2 rfl⟩
def BkRel (w0 w : World) (n : Nat) (i : Value) (wr : World) : Prop := ∃ k : Nat, k ≤ n ∧ i = .int .i64 (k : Int) ∧ Below w.heap.size w wr
/-- Two rows, in order. -/
def TwoRows (r : Nat) (x y : Value) : Prop := ∃ T B : Nat, x = .int .i64 (T : Int) ∧ y = .int .i64 (B : Int) ∧ T ≤ B ∧ B < r
set_option maxHeartbeats 4000000 in
set_option maxRecDepth 100000 in
theorem gridBack_walk (a0 : Option Addr) (len0 cap0 : Nat) (z0 : List UInt8) (a1 a2 a3 a4 : Int) (w : World) (w0 : BS w w.heap.size (.slice a0 len0 cap0) z0) (w1 : (Lit.int .u8 a1).wf = true) (w2 : (Lit.int .u8 a2).wf = true) (w3 : (Lit.int .u8 a3).wf = true) (w4 : (Lit.int .u8 a4).wf = true) :
    Calls Try.prog 4 #[.slice a0 len0 cap0, .int .u8 a1, .int .u8 a2, .int .u8 a3, .int .u8 a4] w fun e w' => e = .returned (.bool true) ∧ Below w.heap.size w w' := by
  obtain ⟨_, _, hv0, -⟩ := w0.at_
  simp only [Value.slice.injEq] at hv0
  obtain ⟨-, rfl, -⟩ := hv0
  have W0 := Lib.hid w0
  have hb1 := bounds_u8 w1
  have hb2 := bounds_u8 w2
  have hb3 := bounds_u8 w3
  have hb4 := bounds_u8 w4
  obtain ⟨k, rfl⟩ : ∃ k : Nat, a1 = (k : Int) := ⟨a1.toNat, by omega⟩
  obtain ⟨m, rfl⟩ : ∃ m : Nat, a2 = (m : Int) := ⟨a2.toNat, by omega⟩
  obtain ⟨n, rfl⟩ : ∃ n : Nat, a3 = (n : Int) := ⟨a3.toNat, by omega⟩
  obtain ⟨d, rfl⟩ : ∃ d : Nat, a4 = (d : Int) := ⟨a4.toNat, by omega⟩
  have k1 : k < 256 := by omega
  have m1 : m < 256 := by omega
  have n1 : n < 256 := by omega
  have d1 : d < 256 := by omega
  clear w0 w1 w2 w3 w4 hb1 hb2 hb3 hb4
  have hk := knownG_any w
  by_cases t0 : 30 < (z0.length : Int)
  · go_enter Try.func4, Try.ntmps4
    go_wp2_with (go_at_call 7; refine hk.mono ?_; rintro e wk ⟨rfl, hbk⟩)
    go_ret
    exact ⟨rfl, hbk⟩
  have t0' : decide (30 < (z0.length : Int)) = false := by simp; omega
  obtain ⟨q, hq⟩ : ∃ q : Nat, (k : Int) / 6 = (q : Int) := ⟨k / 6, by omega⟩
  have q1 : q < 256 := by omega
  go_enter Try.func4, Try.ntmps4
  go_wp2_with fail
  refine hk.mono ?_
  rintro e w1 ⟨rfl, hb1⟩
  have HB1 := Lib.hid hb1
  clear hk hb1
  go_wp2_with fail
  refine (seatScreenW_any k q k1 q1 _ z0 w1 ((W0.out.below HB1.out).more HB1.out.size) (by omega)).mono ?_
  rintro e w2 ⟨v2, s, r, c, rfl, hv2, ⟨hi, hw⟩, hr, hc, b2⟩
  obtain ⟨uc, ut, uo, up, ui, uu, rfl, hs2⟩ := hv2
  have HLS := Lib.hid (laidG b2 hs2 hi hw hr hc zG rfl)
  have k2 := heap_oneG w2 (.cells zG 32)
  rename_i K hK
  refine hK _ _ ?_
  clear hK
  iterate 1 (refine wpList_plain rfl fun K hK => ?_; go_simp; refine hK _ _ ?_; clear hK K)
  refine wpl_storeS rfl (.tmp 11) (.tmp 28) rfl rfl rfl k2 rfl rfl hs2.one ?_
  clear k2 hs2 b2 hi hw hr hc hq t0'
  generalize World.setRow _ _ _ = W at HLS ⊢
  generalize vS s uc ut uo up ui uu = vs at *
  generalize s.cells = l at *
  generalize hsb : w2.heap.size = sb at *
  clear hsb
  go_simp
  obtain ⟨l1, l2⟩ := HLS.out.len
  have hr6 := HLS.out.r6
  have hc9 := HLS.out.c9
  have hr1 := HLS.out.g.r1
  have hc1 := HLS.out.g.c1
  obtain ⟨lo, hlo⟩ : ∃ lo : Nat, lo = min m n := ⟨_, rfl⟩
  obtain ⟨hi, hhi⟩ : ∃ hi : Nat, hi = max m n := ⟨_, rfl⟩
  have hmin : (if n < m then (n : Int) else (m : Int)) = (lo : Int) := by rw [hlo]; split <;> omega
  have hmax : (if m < n then (n : Int) else (m : Int)) = (hi : Int) := by rw [hhi]; split <;> omega
  have hmax2 : (if n < m then (m : Int) else (n : Int)) = (hi : Int) := by rw [hhi]; split <;> omega
  have hmax3 : (if n ≤ m then (m : Int) else (n : Int)) = (hi : Int) := by rw [hhi]; split <;> omega
  have hmax4 : (if m ≤ n then (n : Int) else (m : Int)) = (hi : Int) := by rw [hhi]; split <;> omega
  have hlo2 : lo < 256 := by omega
  have hhi2 : hi < 256 := by omega
  clear hlo hhi
  obtain ⟨P, hP⟩ : ∃ P : Nat, (lo : Int) % (r : Int) = (P : Int) := ⟨lo % r, by rw [Int.natCast_emod]⟩
  have hPr : P < r := by
    have : (lo : Int) % (r : Int) < (r : Int) := Int.emod_lt_of_pos _ (by omega)
    omega
  obtain ⟨Q, hQ⟩ : ∃ Q : Nat, (hi : Int) % (r : Int) = (Q : Int) := ⟨hi % r, by rw [Int.natCast_emod]⟩
  have hQr : Q < r := by
    have : (hi : Int) % (r : Int) < (r : Int) := Int.emod_lt_of_pos _ (by omega)
    omega
  have hPt : (lo : Int).tmod (r : Int) = (P : Int) := by rw [Int.tmod_eq_emod_of_nonneg (by omega)]; exact hP
  have hQt : (hi : Int).tmod (r : Int) = (Q : Int) := by rw [Int.tmod_eq_emod_of_nonneg (by omega)]; exact hQ
  have hr0 : ¬ (r : Int) = 0 := by omega
  have hr0n : ¬ r = 0 := by omega
  have hr0b : ((r : Int) == 0) = false := beq_eq_false_iff_ne.2 hr0
  have i1 : IntKind.i64.wrap (lo : Int) = (lo : Int) := by rw [IntKind.wrap_i64]; omega
  have i2 : IntKind.i64.wrap (hi : Int) = (hi : Int) := by rw [IntKind.wrap_i64]; omega
  have i3 : IntKind.i64.wrap (P : Int) = (P : Int) := by rw [IntKind.wrap_i64]; omega
  have i4 : IntKind.i64.wrap (Q : Int) = (Q : Int) := by rw [IntKind.wrap_i64]; omega
  have HLD := Lib.hid (HLS.out.below (Below.refl W.heap.size W).drew)
  have hS : ∀ x : World, Below W.drew.heap.size W.drew x → x.cell? ⟨sb, 0, none⟩ = some (Value.int .i64 (r : Int)) := fun x hx => (HLD.out.below hx).cell.1
  have HS := Lib.hid hS
  have hb0 : Below W.drew.heap.size W.drew W.drew := Below.refl _ _
  clear hS
  go_wp2
  go_cut [12, 13] from 29 to 42 (fun s12 s13 wx => wx = W.drew ∧ s12 = .int .i64 (P : Int) ∧ s13 = .int .i64 (Q : Int))
  case first =>
    go_region_held3 (fun x : World => x.cell? ⟨sb, 0, none⟩ = some (Value.int .i64 (r : Int))) (exact HS.out _ (by assumption)) (fail)
    all_goals
      go_simp
      go_wp2_with fail
      go_meet
    all_goals exact ⟨rfl, rfl, rfl⟩
  case rest =>
    obtain ⟨rfl, rfl, rfl⟩ := hcut
    go_upto_if 45 with fail
    go_cut [12, 13] from 46 to 47 (fun s12 s13 wx => wx = W.drew ∧ TwoRows r s12 s13)
    case first =>
      by_cases hsw : Q < P
      · go_wp2
        go_meet
        exact ⟨rfl, Q, P, rfl, rfl, by omega, by omega⟩
      · go_wp2
        go_meet
        exact ⟨rfl, P, Q, rfl, rfl, by omega, by omega⟩
    case rest =>
      obtain ⟨rfl, T, B, rfl, rfl, hTB, hBr⟩ := hcut
      clear HLS HS hb0 hmin hmax hmax2 hmax3 hmax4 hP hQ hPt hQt hr0 hr0n hr0b i1 i2 i3 i4
      have HBW := Lib.hid (show Below w.heap.size w W.drew from HB1.out.trans (HLD.out.bel.mono HB1.out.size))
      generalize W.drew = W6 at HLD HBW ⊢
      clear hlo2 hhi2 hPr hQr
      obtain ⟨M, hM⟩ : ∃ M : Nat, (d : Int) % 8 = (M : Int) := ⟨d % 8, by omega⟩
      have hM8 : M < 8 := by omega
      have hcap : capN (M : Int) = M := by unfold capN; omega
      have HCAP := Lib.hid hcap
      have hUD := fun y x => up_down HLD.out.g T B (M : Int) hTB hBr y x
      have HUD := Lib.hid hUD
      obtain ⟨A2, k2, hv2, e1, e2⟩ := HLD.out.cs.form
      subst hv2
      clear hcap hUD
      go_wp2
      have HD := Lib.hid (HLD.out.below (Below.refl W6.heap.size W6).drew)
      have h1 : ∀ w', Below W6.drew.heap.size W6.drew w' → Calls Try.prog 10 #[.slice A2 l.length k2, .int .i64 (c : Int), .int .i64 (T : Int), .int .i64 (B : Int), .int .i64 (M : Int)] w' (CsPost (upL l c T B M) w') := fun w' hb => gup_any _ l c T B M w' ((HD.out.cs.below hb).more hb.size) (by omega)
      have H1 := Lib.hid h1
      have hS : ∀ x : World, Below W6.drew.heap.size W6.drew x → x.cell? ⟨sb, 1, none⟩ = some (Value.int .i64 (c : Int)) ∧ x.cell? ⟨sb, 2, none⟩ = some (Value.slice A2 l.length k2) := fun x hx => (HD.out.below hx).cell.2
      have HS := Lib.hid hS
      have hb0 : Below W6.drew.heap.size W6.drew W6.drew := Below.refl _ _
      have HUL := Lib.hid (upL_len l (c : Int) (T : Int) (B : Int) (M : Int))
      clear h1 hS hM
      go_cut [15] from 51 to 64 (fun s15 wx => Below W6.drew.heap.size W6.drew wx ∧ CS wx wx.heap.size s15 (downL (upL l c T B M) c T B M))
      case first =>
        go_region_held3 (fun x : World => x.cell? ⟨sb, 1, none⟩ = some (Value.int .i64 (c : Int)) ∧ x.cell? ⟨sb, 2, none⟩ = some (Value.slice A2 l.length k2)) (exact HS.out _ (by assumption))
          (first
            | (go_at_call 10; (with_reducible refine (H1.out _ (by assumption)).mono ?_); rintro e wa ⟨va, rfl, ha, ba'⟩; have ba := hb0.trans (ba'.mono hb0.size); have hua : (upL l c T B M).length ≤ 1048576 := by rw [HUL.out]; omega)
            | (go_at_call 12; (with_reducible refine (gdown_any _ (upL l c T B M) c T B M _ ha hua).mono ?_); rintro e wb ⟨vb, rfl, hb, bb'⟩; have bb := ba.trans (bb'.mono ba.size)))
        all_goals
          go_simp
          go_wp2_with fail
          go_meet
        all_goals exact ⟨by assumption, by assumption⟩
      case rest =>
        obtain ⟨hbx, hcx⟩ := hcut
        have hUl : (downL (upL l c T B M) c T B M).length = l.length := by rw [downL_len, HUL.out]
        have hUD := HUD.out
        generalize downL (upL l c T B M) c T B M = U at *
        obtain ⟨A5, k5, rfl, f1, f2⟩ := hcx.form
        rw [hUl] at hcx f1 ⊢
        have HX := Lib.hid (HD.out.below hbx)
        have HCX := Lib.hid hcx
        have HULN := Lib.hid hUl
        have HUD := Lib.hid hUD
        have HBX := Lib.hid (HBW.out.trans ((Below.drew (Below.refl _ W6)).trans hbx |>.mono HBW.out.size))
        obtain ⟨x0, x1, x2⟩ := HX.out.cell
        have hne : ((l.length : Int) != (l.length : Int)) = false := by simp
        clear H1 HS hb0 hbx hcx hUl hUD
        go_wp2
        clear x0 x1 x2 hne
        go_loopw [16] (fun i wr => BkRel w wc l.length i wr) (fun i _ => l.length - (intOf i).toNat)
        case atStart => exact ⟨0, Nat.zero_le _, rfl, Below.refl _ _⟩
        case round =>
          generalize wr = w7 at *
          obtain ⟨i, hi, rfl, hb7⟩ := hrel
          have HX7 := Lib.hid (HX.out.below hb7)
          have HC7 := Lib.hid ((HCX.out.below hb7).more hb7.size)
          have HB7 := Lib.hid hb7
          have HW7 := Lib.hid (HBX.out.trans (hb7.mono HBX.out.size))
          clear hb7
          by_cases hil : i < l.length
          · have hii : (i : Int) < (l.length : Int) := by omega
            obtain ⟨-, y1, y2⟩ := HX7.out.cell
            have hgd := getC_of hil
            obtain ⟨e, he⟩ : ∃ e, U[i]? = some e := ⟨_, List.getElem?_eq_getElem (by rw [HULN.out]; exact hil)⟩
            obtain ⟨d2, hd2⟩ : ∃ d2, d2 = getC l i := ⟨_, rfl⟩
            rw [← hd2] at hgd
            obtain ⟨Y, hY⟩ : ∃ Y : Nat, (i : Int) / (c : Int) = (Y : Int) := ⟨i / c, by rw [Int.natCast_ediv]⟩
            have hYe : Y = i / c := by have := Int.natCast_ediv i c; omega
            have hYr : Y < r := by rw [hYe]; exact (Nat.div_lt_iff_lt_mul (by omega)).2 (by rw [← HX.out.g.n]; exact hil)
            have hue : e = if T ≤ Y ∧ Y ≤ B ∧ Y < T + M then blankC else d2 := by
              have h1 := HUD.out Y (i % c) hYr (Nat.mod_lt _ (by omega))
              have h2 : Y * c + i % c = i := by rw [hYe, Nat.mul_comm]; exact Nat.div_add_mod i c
              rw [h2, HCAP.out, ← hd2] at h1
              have h3 := getC_of (l := U) (i := i) (by rw [HULN.out]; exact hil)
              rw [he] at h3
              rw [← h1]
              exact Option.some.inj h3
            have hc0 : ¬ (c : Int) = 0 := by omega
            obtain ⟨ad2, hA2, hab2, t0, t1, t2⟩ := HX7.out.cs.get i d2 hgd
            subst hA2
            obtain ⟨ad5, hA5, hab5, s0, s1, s2⟩ := HC7.out.get i e he
            subst hA5
            have HUE := Lib.hid hue
            clear hgd he hd2 hYe hue
            go_upto_region 17 with fail
            have hal : Below w7.heap.size w7 (w7.alloc (.cells #[.int .i32 d2.r, .int .u16 (d2.a : Int), .int .u8 (d2.h : Int)] 42)) := (Below.refl _ _).alloc (Nat.le_refl _) _
            have k8 := heap_oneG w7 (.cells #[.int .i32 d2.r, .int .u16 (d2.a : Int), .int .u8 (d2.h : Int)] 42)
            generalize World.alloc w7 _ = W8 at hal k8 ⊢
            have HE8 : ThreeAt W8 (ad5.add (i * 3)) e := ThreeAt.keep ⟨s0, s1, s2⟩ (fun p hp => hal.cell (by rw [hp, block_add]; exact hab5))
            have HT8 := Lib.hid HE8
            have HX8 := Lib.hid (HX7.out.below hal)
            have HA8 := Lib.hid hal
            have hg8 := ltG k8
            have K8 := Lib.hid k8
            have hb5 : (ad5.add (i * 3)).block < w7.heap.size := by rw [block_add]; exact hab5
            have hwb : wc.heap.size ≤ w7.heap.size := HB7.out.size
            have hww : w.heap.size ≤ w7.heap.size := HW7.out.size
            generalize w7.heap.size = g8 at *
            clear y1 y2 t0 t1 t2 s0 s1 s2 hal HE8
            obtain ⟨-, y1, -⟩ := HX8.out.cell
            have v0 := cellG k8 0 rfl
            have v1 := cellG k8 1 rfl
            have v2 := cellG k8 2 rfl
            have fz : ∀ j, W8.frozen? ⟨g8, j, none⟩ = false := fun j => by simp [World.frozen?, k8]
            have f0 := fz 0
            have f1 := fz 1
            have f2 := fz 2
            have HREL := Lib.hid (show ∀ w', Below W8.heap.size W8 w' ∨ (∃ w'', Below g8 W8 w'' ∧ Below g8 w'' w') → BkRel w wc l.length (.int .i64 ((i : Int) + 1)) w' from fun w' h => by
              refine ⟨i + 1, hil, by go_num, HB7.out.trans ?_⟩
              have h8 : Below wc.heap.size w7 W8 := HA8.out.mono hwb
              rcases h with h | ⟨w'', h1, h2⟩
              · exact h8.trans (h.mono (by omega))
              · exact h8.trans ((h1.mono hwb).trans (h2.mono hwb)))
            have hmul : ∀ n, n * 1 = n := Nat.mul_one
            clear k8 fz hmul
            obtain ⟨E, hE⟩ : ∃ E : Nat, (T : Int) + (M : Int) = (E : Int) := ⟨T + M, by omega⟩
            by_cases hin : T ≤ Y ∧ Y ≤ B ∧ Y < T + M
            · have hue := HUE.out
              rw [if_pos hin] at hue
              obtain ⟨s0, s1, s2⟩ := HT8.out
              rw [hue] at s0 s1 s2
              obtain ⟨hs1, hs2, hs3⟩ := hin
              have hs4 : Y < E := by omega
              have HUE2 := Lib.hid hue
              clear hue
              go_upto_region 20 with fail
              have hbs : Below g8 W8 (((W8.setCell ⟨g8, 0, none⟩ (.int .i32 32)).setCell ⟨g8, 1, none⟩ (.int .u16 0)).setCell ⟨g8, 2, none⟩ (.int .u8 0)) := below_put (Below.refl _ _) (Nat.le_refl _) 0 _ _ _
              obtain ⟨v0, v1, v2⟩ := setcell_three3 K8.out (.int .i32 32) (.int .u16 0) (.int .u8 0)
              generalize World.setCell _ _ _ = W9 at hbs v0 v1 v2 ⊢
              have s0 : W9.cell? (ad5.add (i * 3)) = some (.int .i32 32) := (hbs.cell (p := ad5.add (i * 3)) hb5).trans s0
              have s1 : W9.cell? ⟨(ad5.add (i * 3)).block, (ad5.add (i * 3)).off + 1, none⟩ = some (.int .u16 0) := (hbs.cell (p := ⟨(ad5.add (i * 3)).block, (ad5.add (i * 3)).off + 1, none⟩) hb5).trans s1
              have s2 : W9.cell? ⟨(ad5.add (i * 3)).block, (ad5.add (i * 3)).off + 2, none⟩ = some (.int .u8 0) := (hbs.cell (p := ⟨(ad5.add (i * 3)).block, (ad5.add (i * 3)).off + 2, none⟩) hb5).trans s2
              have hg9 : g8 < W9.heap.size := Nat.lt_of_lt_of_le hg8 hbs.size
              have HB9 := Lib.hid hbs
              clear hbs f0 f1 f2
              go_wp2
              go_quiet (fail)
              have hq := HREL.out _ (.inr ⟨_, HB9.out, below_drewW (Below.refl _ W9) nq⟩)
              go_wp2
              go_roundw
              case rel => exact hq
              case measure => simp [intOf]; omega
            · have hue := HUE.out
              rw [if_neg hin] at hue
              obtain ⟨s0, s1, s2⟩ := HT8.out
              rw [hue] at s0 s1 s2
              have hcs : ¬ T ≤ Y ∨ (T ≤ Y ∧ ¬ Y ≤ B) ∨ (T ≤ Y ∧ Y ≤ B ∧ ¬ Y < E) := by omega
              have HUE2 := Lib.hid hue
              clear hin hue
              rcases hcs with hs1 | ⟨hs1, hs2⟩ | ⟨hs1, hs2, hs3⟩
              · have p1 : decide (T ≤ Y) = false := decide_eq_false hs1
                go_wp2
                go_quiet (fail)
                have hq := HREL.out _ (.inl (below_drewW (Below.refl _ W8) nq))
                go_wp2
                go_roundw
                case rel => exact hq
                case measure => simp [intOf]; omega
              · have p2 : decide (Y ≤ B) = false := decide_eq_false hs2
                go_wp2
                go_quiet (fail)
                have hq := HREL.out _ (.inl (below_drewW (Below.refl _ W8) nq))
                go_wp2
                go_roundw
                case rel => exact hq
                case measure => simp [intOf]; omega
              · have p3 : decide (Y < E) = false := decide_eq_false hs3
                go_wp2
                go_quiet (fail)
                have hq := HREL.out _ (.inl (below_drewW (Below.refl _ W8) nq))
                go_wp2
                go_roundw
                case rel => exact hq
                case measure => simp [intOf]; omega
          · obtain rfl : i = l.length := by omega
            go_wp2
            go_ret
            exact ⟨rfl, HW7.out⟩
end Go.Proofs.Ytejemcpkmfhenaa

namespace Go.Proofs.Ytejemcpkmfhenaa
open Go.ChangeShapes Go.WideShapes Go.ChangeAt Go.RowKit
open Go.ChangeMaps (open_string shut_string)
set_option linter.unusedVariables false

theorem gridBack_own : ownKnob Try.prog.godebug = none := by kernel_rfl
theorem gridBack_laidOut : laidOutB Try.prog = true := by kernel_rfl

set_option maxRecDepth 100000 in
theorem gridBack_lifted (os : Os) (started : os.Started) (H : Type) (enc : TypeId × Value → H) :
    ReturnsInHanded {} Try.checked os 4 .any (Rows.gridBackSpec.pre6 enc Try.prog Try.f4 Rows.gridBackRow.domain false) (Rows.gridBackSpec.post enc Try.prog Try.f4 false true false false) := by
  refine returnsInHanded_of_change (C := Try.checked) gridBack_own started (by kernel_rfl) Try.func4
    (ChangeSpec.witness6 (enc := enc) (C := Try.checked) false ⟨#[], #[.slice none 0 0, .int .u8 0, .int .u8 0, .int .u8 0, .int .u8 0], []⟩ 8 (by kernel_rfl) (by kernel_rfl) (by kernel_rfl) (by kernel_rfl)) ?_
  intro W base args ds gs before hval0 hW hcnd _
  have hval : ∀ (j : Nat) t v, Try.f4.params[j]? = some t → args[j]? = some v → Value.okWide Try.prog W .any base t v := hval0
  have hW' := hW
  obtain ⟨p, q, hA0, hV, rfl, hfz, hnd⟩ := hW
  have hA : DataW.TrodAll enc Try.prog W 0 (fun _ => true) true Try.f4.params.toList args.toList ds p := hA0
  rw [Try.params4] at hA hval
  obtain ⟨v0, vs0, d0, ds0, p0, q0, hargs, rfl, rfl, h0, r0⟩ := trodAll_cons hA
  obtain ⟨v1, vs1, d1, ds1, p1, q1, rfl, rfl, rfl, h1, r1⟩ := trodAll_cons r0
  obtain ⟨v2, vs2, d2, ds2, p2, q2, rfl, rfl, rfl, h2, r2⟩ := trodAll_cons r1
  obtain ⟨v3, vs3, d3, ds3, p3, q3, rfl, rfl, rfl, h3, r3⟩ := trodAll_cons r2
  obtain ⟨v4, vs4, d4, ds4, p4, q4, rfl, rfl, rfl, h4, r4⟩ := trodAll_cons r3
  obtain ⟨rfl, rfl, rfl⟩ := trodAll_nil r4
  obtain rfl : args = #[v0, v1, v2, v3, v4] := by cases args; simp_all
  obtain ⟨rfl, rfl⟩ := trodVars_none hV
  obtain ⟨a0, len0, cap0, rfl⟩ := okWide_slice Try.underlying23 (hval 0 23 v0 rfl rfl)
  have k0 := h0
  have lt0 : ∀ x ∈ p0, x.block < W.heap.size := by obtain ⟨m, hm⟩ := k0; exact DataW.trod_lt m _ _ _ hm
  obtain ⟨z0, w0⟩ : ∃ l, BS W W.heap.size (.slice a0 len0 cap0) l := by
    obtain ⟨fuel, hf⟩ := h0
    rcases open_ints Try.underlying23 Try.underlying5 (by kernel_rfl) hf with ⟨hcs, _⟩ | ⟨x, l, c, zs, hcs, _, hl, hm, hz, _, hcell, hwz⟩
    · simp [Value.cells] at hcs
      obtain ⟨rfl, rfl, rfl⟩ := hcs
      exact ⟨[], BS.nil _ _⟩
    · simp [Value.cells] at hcs
      obtain ⟨rfl, rfl, rfl⟩ := hcs
      exact bs_row hl hm (by simpa using hz) hcell hwz
  obtain ⟨a1, rfl, rfl, rfl, w1⟩ := open_int Try.underlying5 (hval 1 5 v1 rfl rfl) h1
  obtain ⟨a2, rfl, rfl, rfl, w2⟩ := open_int Try.underlying5 (hval 2 5 v2 rfl rfl) h2
  obtain ⟨a3, rfl, rfl, rfl, w3⟩ := open_int Try.underlying5 (hval 3 5 v3 rfl rfl) h3
  obtain ⟨a4, rfl, rfl, rfl, w4⟩ := open_int Try.underlying5 (hval 4 5 v4 rfl rfl) h4
  clear hA0 hval0
  refine (gridBack_walk a0 len0 cap0 z0 a1 a2 a3 a4 W w0 w1 w2 w3 w4).mono fun e W' ⟨he, bel⟩ => ?_
  subst he
  exact ⟨_, rfl, _, _, _, [], _, [], hW', trodAll_mk1 (shut_bool Try.underlying4 _), (trodAll_cons_mk (Below.trod gridBack_laidOut (by kernel_rfl) (of_decide_eq_true (by kernel_rfl)) k0 bel lt0) (trodAll_cons_mk (shut_int Try.underlying5 w1) (trodAll_cons_mk (shut_int Try.underlying5 w2) (trodAll_cons_mk (shut_int Try.underlying5 w3) (trodAll_cons_mk (shut_int Try.underlying5 w4) trodAll_mk0))))), rfl, bel.frame _, fun h => by cases h⟩

theorem gridBack_over : Rows.gridBackRow.holds Try.pinned (OpenSpec.ofChange Rows.gridBackSpec) :=
  OpenClaim.holds_of_wide 4 Try.f4 rfl rfl rfl rfl rfl rfl rfl ⟨rfl, rfl, rfl, rfl, rfl⟩ rfl rfl rfl rfl rfl (by kernel_rfl) Try.func4 (by kernel_rfl)
    (of_decide_eq_true (by kernel_rfl)) (by unfold Func.isWrapper; first | (rw [if_pos (by decide +kernel)]; kernel_rfl) | (rw [if_neg (by decide +kernel)]; exact ⟨rfl, rfl⟩))
    (fun os started H enc _ => gridBack_lifted os started H enc)

theorem gridBack_holds : Rows.GridBackSaid := gridBack_over
#print axioms gridBack_holds
end Go.Proofs.Ytejemcpkmfhenaa
