/- What is proved here: the law UtfTells, called with any three slices of bytes, any byte and any rune, returns true and leaves alone whatever memory was there. -/
import Derived.Test.YtjbjfhbldodjfaaUtfEdgesWalk
import Derived.Test.YtjbjfhbldodjfaaUtfPartsWalk
import Derived.Deep.RegionWith
import Derived.Deep.RegionHeld3
namespace Go.Proofs.Ytjbjfhbldodjfaa
open Go.RowKit
set_option linter.unusedVariables false

theorem BS.cellF {w y : World} {B n c : Nat} {ad : Addr} {l : List UInt8} (h : BS w B (.slice (some ad) n c) l) (hb : Below B w y) (k : Nat) (hk : k < l.length) : y.cell? (ad.add k) = some (vB l[k]) := by
  obtain ⟨ad', e, hc⟩ := (h.below hb).cellC k hk
  injection e with e
  rw [e]
  exact hc
def TellRel (l : List UInt8) (w0 : World) (p i : Value) (wr : World) : Prop :=
  ∃ k : Nat, k ≤ l.length ∧ i = .int .i64 (k : Int) ∧ BS wr wr.heap.size p (allK l k).1 ∧ Below w0.heap.size w0 wr

set_option maxHeartbeats 4000000 in
set_option maxRecDepth 100000 in
theorem utfTells_walk (a0 : Option Addr) (len0 cap0 : Nat) (raw : List UInt8) (a1 : Option Addr) (len1 cap1 : Nat) (pk : List UInt8) (a2 : Option Addr) (len2 cap2 : Nat) (pd : List UInt8) (a3 a4 : Int) (w : World)
    (h0 : BS w w.heap.size (.slice a0 len0 cap0) raw) (h1 : BS w w.heap.size (.slice a1 len1 cap1) pk) (h2 : BS w w.heap.size (.slice a2 len2 cap2) pd) (w3 : (Lit.int .u8 a3).wf = true) (w4 : (Lit.int .i32 a4).wf = true) :
    Calls Try.prog 3 #[.slice a0 len0 cap0, .slice a1 len1 cap1, .slice a2 len2 cap2, .int .u8 a3, .int .i32 a4] w fun e w' => e = .returned (.bool true) ∧ Below w.heap.size w w' := by
  obtain ⟨p0, p1⟩ := bounds_u8 w3
  obtain ⟨r0, r1⟩ := bounds_i32 w4
  obtain ⟨b, rfl⟩ := u8_ex a3 p0 (by omega)
  clear w3 w4 p0 p1
  obtain ⟨rfl, g1, g2⟩ := h0.lenU
  obtain ⟨rfl, g3, g4⟩ := h1.lenU
  obtain ⟨rfl, g5, g6⟩ := h2.lenU
  unfold maxLen at g2 g4 g6
  by_cases hlong : 100 < raw.length
  · have d1 : decide (100 < (raw.length : Int)) = true := by simp; omega
    go_enter Try.func3, Try.ntmps3
    go_wp2_with fail
    refine (knownU_any _).mono ?_
    rintro e w1 ⟨rfl, hb1⟩
    go_wp2
    go_ret
    exact ⟨rfl, hb1⟩
  have d1 : decide (100 < (raw.length : Int)) = false := by simp; omega
  by_cases hlong2 : 40 < pk.length
  · have d2 : decide (40 < (pk.length : Int)) = true := by simp; omega
    go_enter Try.func3, Try.ntmps3
    go_wp2_with fail
    refine (knownU_any _).mono ?_
    rintro e w1 ⟨rfl, hb1⟩
    go_wp2
    go_ret
    exact ⟨rfl, hb1⟩
  have d2 : decide (40 < (pk.length : Int)) = false := by simp; omega
  by_cases hlong3 : 6 < pd.length
  · have d3 : decide (6 < (pd.length : Int)) = true := by simp; omega
    go_enter Try.func3, Try.ntmps3
    go_wp2_with fail
    refine (knownU_any _).mono ?_
    rintro e w1 ⟨rfl, hb1⟩
    go_wp2
    go_ret
    exact ⟨rfl, hb1⟩
  have d3 : decide (6 < (pd.length : Int)) = false := by simp; omega
  go_enter Try.func3, Try.ntmps3
  go_wp2_with fail
  refine (knownU_any _).mono ?_
  rintro e w1 ⟨rfl, hb1⟩
  go_wp2_with fail
  refine (some3_any _ pk _ ((h1.below hb1).more hb1.size) (by omega)).mono ?_
  rintro e w2 ⟨vs, ms, rfl, hs, hml, hb⟩
  have hb2 := hb1.trans (hb.mono hb1.size)
  have hz2 := hb2.size
  have hsb := hs.bs
  obtain ⟨VS, sc, rfl⟩ := hsb.form
  go_wp2_with fail
  have hrows : Rows8 2 w2.heap.size (w2.alloc (.cells #[.slice a0 raw.length cap0, .slice VS ms.length sc] 22)) := by
    intro i hi
    match i, hi with
    | 0, _ => exact ⟨_, raw, by rw [World.cell?_alloc_new]; rfl, ((h0.below hb2).alloc hz2 _).more (by simp; omega), by omega⟩
    | 1, _ => exact ⟨_, ms, by rw [World.cell?_alloc_new]; rfl, (hsb.alloc (Nat.le_refl _) _).more (by simp), by omega⟩
    | n + 2, h => omega
  have hbW : Below w.heap.size w (w2.alloc (.cells #[.slice a0 raw.length cap0, .slice VS ms.length sc] 22)) := hb2.alloc hz2 _
  generalize w2.alloc (.cells #[.slice a0 raw.length cap0, .slice VS ms.length sc] 22) = W at *
  generalize w2.heap.size = g at *
  have HR := Lib.hid hrows
  clear hrows hs hsb hb hb1 hb2 hz2 h0 h1
  go_loopw [47] (fun s wr => LoopRel 2 W s wr) (fun s _ => 2 - (intOf s).toNat)
  case atStart => exact ⟨0, by omega, rfl, Below.refl _ _⟩
  case round =>
    obtain ⟨i, hi, rfl, hbr⟩ := hrel
    by_cases hlt : i < 2
    · obtain ⟨v, l, hc, hbs, hll⟩ := HR.out i hlt
      have hcr : wr.cell? ⟨g, i, none⟩ = some v := by rw [hbr.cell (cell_ltB hc)]; exact hc
      have hv := (hbs.below hbr).more hbr.size
      obtain ⟨V1, vc, rfl⟩ := hv.form
      clear hc hbs
      go_wp2_with fail
      refine (uall_any _ l _ hv (by omega)).mono ?_
      rintro e x2 ⟨r1, q1, rfl, hr1, hq1, hb⟩
      have hv2 := (hv.below hb).more hb.size
      have hbr2 := hbr.trans (hb.mono hbr.size)
      clear hb hv hbr hcr
      go_wp2_with fail
      refine (allr_any _ l _ hv2 (by omega)).mono ?_
      rintro e x3 ⟨r2, q2, rfl, hr2, hq2, hb⟩
      have hr13 := (hr1.bs.below hb).more hb.size
      have hq13 := (hq1.below hb).more hb.size
      have hv3 := (hv2.below hb).more hb.size
      have hbr3 := hbr2.trans (hb.mono hbr2.size)
      have hln := (allK_len l l.length (Nat.le_refl _)).2
      rw [allK_all] at hln
      clear hb hv2 hbr2 hr1 hq1
      go_wp2_with fail
      refine (helpRunes_eq _ _ _ _ hr13 hr2.bs (by rw [ints_len]; omega)).mono ?_
      rintro e x4 ⟨rfl, hb⟩
      have s1 := run_str (hq13.below hb)
      have s2 := run_str (hq2.below hb)
      have hv4 := (hv3.below hb).more hb.size
      have hbr4 := hbr3.trans (hb.mono hbr3.size)
      clear hb hbr3 hq13 hq2 hr13 hr2 hv3
      go_wp2_with fail
      clear s1 s2
      go_loopw [17, 18] (fun p i wr => TellRel l x4 p i wr) (fun _ i _ => l.length - (intOf i).toNat)
      case atStart => exact ⟨0, Nat.zero_le _, rfl, BS.nil _ _, Below.refl _ _⟩
      case round =>
        obtain ⟨k, hk, rfl, hp, hbk⟩ := hrel
        by_cases hlt2 : k < l.length
        · obtain ⟨ad, rfl, hc⟩ := (hv4.below hbk).cellC k hlt2
          have hsucc := allK_succ l k hlt2
          have hkl := allK_len l k hk
          have hsl := stepL_len (allK l k).1 l[k]
          have hcf := fun y (hy : Below x4.heap.size x4 y) => hv4.cellF hy k hlt2
          unfold vB at hc hcf
          generalize l[k] = c at *
          have HN := Lib.hid hsucc
          have HC := Lib.hid hcf
          clear hsucc hcf
          go_wp2_with fail
          refine (ustep_any _ _ c _ hp (by omega)).mono ?_
          rintro e y1 ⟨v1, v2, rfl, hv1, hv2, hbs⟩
          have hp1 := (hp.below hbs).more hbs.size
          have hbk1 := hbk.trans (hbs.mono hbk.size)
          have hc2 := HC.out y1 hbk1
          clear hbs hbk hp hc
          go_wp2_with fail
          refine (stepr_any _ _ c _ hp1).mono ?_
          rintro e y2 ⟨v3, v4, rfl, hv3, hv4', hbs⟩
          have hv12 := (hv1.1.below hbs).more hbs.size
          have hv22 := (hv2.below hbs).more hbs.size
          have hbk2 := hbk1.trans (hbs.mono hbk1.size)
          have s1 := run_str hv12
          have s2 := run_str hv3.1
          clear hbs hbk1 hp1 hv1 hv2
          go_wp2_with fail
          refine (helpRunes_eq _ _ _ _ hv22 hv4' (by rw [ints_len]; omega)).mono ?_
          rintro e y3 ⟨rfl, hbs⟩
          have hv33 := (hv3.1.below hbs).more hbs.size
          have hbk3 := hbk2.trans (hbs.mono hbk2.size)
          clear hbs hbk2 hv22 hv4' hv12 s1 s2 hv3
          go_wp2
          go_roundw
          case rel => exact ⟨k + 1, hlt2, by go_num, by rw [HN.out]; exact hv33, hbk3⟩
          case measure => simp [intOf]; omega
        · have hbr5 := hbr4.trans (hbk.mono hbr4.size)
          go_wp2
          go_roundw
          case rel => exact ⟨i + 1, hlt, by go_num, hbr5⟩
          case measure => simp [intOf]; omega
    · have hbw : Below w.heap.size w wr := hbW.trans (hbr.mono hbW.size)
      have hd := (h2.below hbw).more hbw.size
      clear h2 hbr hbW
      go_wp2_with fail
      refine (ustep_any _ _ b _ hd (by omega)).mono ?_
      rintro e y1 ⟨v1, v2, rfl, hv1, hv2, hbs⟩
      have hd1 := (hd.below hbs).more hbs.size
      have hbw1 := hbw.trans (hbs.mono hbw.size)
      clear hbs hbw hd
      go_wp2_with fail
      refine (stepr_any _ _ b _ hd1).mono ?_
      rintro e y2 ⟨v3, v4, rfl, hv3, hv4, hbs⟩
      have hv12 := (hv1.1.below hbs).more hbs.size
      have hv22 := (hv2.below hbs).more hbs.size
      have hd2 := (hd1.below hbs).more hbs.size
      have hbw2 := hbw1.trans (hbs.mono hbw1.size)
      clear hbs hbw1 hd1 hv1 hv2
      have hsl := stepL_len pd b
      have s1 : (convert 22 9 v1).run Try.prog y2.drew = .ok (.string (strB (stepL pd b).1)) y2.drew := run_str (w := y2.drew) hv12
      have s2 : (convert 22 9 v3).run Try.prog y2.drew = .ok (.string (strB (stepL pd b).1)) y2.drew := run_str (w := y2.drew) hv3.1
      have hR1 : RS y2.drew y2.drew.heap.size v2 (ints (stepL pd b).2) := hv22
      have hR2 : RS y2.drew y2.drew.heap.size v4 (ints (stepL pd b).2) := hv4
      have hD : BS y2.drew y2.drew.heap.size (.slice a2 pd.length cap2) pd := hd2
      have hbA : Below w.heap.size w y2.drew := hbw2.drew
      have hsA := hbA.size
      have n1 : (ints (stepL pd b).2).length ≤ 1099511627776 := by rw [ints_len]; omega
      have n2 : pd.length ≤ 1048576 := by omega
      have eB : (beginsL pd == beginsL pd) = true := by simp
      clear hv12 hv22 hd2 hv3 hv4 hbw2 HR
      go_wp2_with fail
      go_region_with (first
        | (go_at_call 11; refine (helpRunes_eq _ _ _ _ hR1 hR2 n1).mono ?_; rintro e z1 ⟨rfl, hc1⟩; have hD1 := (hD.below hc1).more hc1.size)
        | (go_at_call 14; refine (ubegins_any _ pd _ hD1 n2).mono ?_; rintro e z2 ⟨rfl, hc2⟩; have hD2 := (hD1.below hc2).more hc2.size; have hcA := hc1.trans (hc2.mono hc1.size))
        | (go_at_call 15; refine (beginsr_any _ pd _ _ hD2).mono ?_; rintro e z3 ⟨rfl, rfl⟩)
        | (go_at_call 16; refine (uput_any a4 (by omega) (by omega) _).mono ?_; rintro e z3 ⟨v5, rfl, hv5, hc3⟩; have s3 := run_str hv5.1; have hcB := hcA.trans (hc3.mono hcA.size))
        | (go_at_call 17; refine (formr_any a4 (by omega) (by omega) _).mono ?_; rintro e z4 ⟨v6, rfl, hv6, hc4⟩; have s4 := run_str hv6.1; have s5 := run_str (hv5.1.below hc4); have hcC := hcB.trans (hc4.mono hcB.size)))
      all_goals
        go_wp2
        go_ret
        exact ⟨rfl, hbA.trans (hcC.mono hsA)⟩
end Go.Proofs.Ytjbjfhbldodjfaa
