/- What is proved here: the law UtfParts, called with any two slices of bytes and any cut, returns true and leaves alone whatever memory was there. -/
import Derived.Test.YtjbjfhbldodjfaaUtfKnown
import Derived.Deep.DeepCutAuto
namespace Go.Proofs.Ytjbjfhbldodjfaa
open Go.RowKit
set_option linter.unusedVariables false

theorem BS.lenU {w : World} {B n c : Nat} {A : Option Addr} {l : List UInt8} (h : BS w B (.slice A n c) l) : n = l.length ∧ l.length ≤ c ∧ c ≤ maxLen := by
  obtain ⟨A', c', hv, h1, h2, _⟩ := h
  simp only [Value.slice.injEq] at hv
  obtain ⟨_, rfl, rfl⟩ := hv
  exact ⟨rfl, h1, h2⟩
def PartsRel (l : List UInt8) (B : Nat) (w0 : World) (r p i : Value) (wr : World) : Prop :=
  ∃ k : Nat, k ≤ l.length ∧ i = .int .i64 (k : Int) ∧ OR wr B r (ints (allK l k).2) ∧ BS wr wr.heap.size p (allK l k).1 ∧ Below B w0 wr

set_option maxHeartbeats 4000000 in
set_option maxRecDepth 100000 in
theorem utfParts_walk (a0 : Option Addr) (len0 cap0 : Nat) (raw : List UInt8) (a1 : Option Addr) (len1 cap1 : Nat) (pk : List UInt8) (a2 : Int) (w : World) (h0 : BS w w.heap.size (.slice a0 len0 cap0) raw) (h1 : BS w w.heap.size (.slice a1 len1 cap1) pk) (w2 : (Lit.int .u16 a2).wf = true) :
    Calls Try.prog 6 #[.slice a0 len0 cap0, .slice a1 len1 cap1, .int .u16 a2] w fun e w' => e = .returned (.bool true) ∧ Below w.heap.size w w' := by
  obtain ⟨c0, c1⟩ := bounds_u16 w2
  clear w2
  obtain ⟨rfl, g1, g2⟩ := h0.lenU
  obtain ⟨rfl, g3, g4⟩ := h1.lenU
  unfold maxLen at g2 g4
  by_cases hlong : 60 < raw.length
  · have d1 : decide (60 < (raw.length : Int)) = true := by simp; omega
    go_enter Try.func6, Try.ntmps6
    go_wp2_with fail
    refine (knownU_any _).mono ?_
    rintro e w1 ⟨rfl, hb1⟩
    go_wp2
    go_ret
    exact ⟨rfl, hb1⟩
  have d1 : decide (60 < (raw.length : Int)) = false := by simp; omega
  by_cases hlong2 : 30 < pk.length
  · have d2 : decide (30 < (pk.length : Int)) = true := by simp; omega
    go_enter Try.func6, Try.ntmps6
    go_wp2_with fail
    refine (knownU_any _).mono ?_
    rintro e w1 ⟨rfl, hb1⟩
    go_wp2
    go_ret
    exact ⟨rfl, hb1⟩
  have d2 : decide (30 < (pk.length : Int)) = false := by simp; omega
  go_enter Try.func6, Try.ntmps6
  go_wp2_with fail
  refine (knownU_any _).mono ?_
  rintro e w1 ⟨rfl, hb1⟩
  go_wp2_with fail
  refine (some3_any _ pk _ ((h1.below hb1).more hb1.size) (by omega)).mono ?_
  rintro e w2 ⟨vs, ms, rfl, hs, hml, hb⟩
  have hb2 := hb1.trans (hb.mono hb1.size)
  have hz1 := hb1.size
  have hz2 := hb.size
  have h02 := h0.below hb2
  clear hb1 h1
  go_wp2_with (at_builtin; refine wpl_app _ rfl (.tmp 27) (.tmp 28) rfl w1.heap.size _ _ _ ms raw rfl rfl hs h02 (by omega) hz2 ?_; intro vb w3 hvb _ hbel3 _; have hbll : (ms ++ raw).length ≤ 180 := (by simp; omega); generalize ms ++ raw = bl at hvb hbll; obtain ⟨VB, vc, rfl⟩ := hvb.bs.form)
  have hb3 : Below w.heap.size w w3 := hb2.trans (hbel3.mono hz1)
  have hv3 := hvb.bs
  obtain ⟨_, gc1, gc2⟩ := hv3.lenU
  unfold maxLen at gc2
  obtain ⟨j, hj⟩ : ∃ j : Nat, a2 % ((bl.length : Int) + 1) = (j : Int) := ⟨(a2 % ((bl.length : Int) + 1)).toNat, by have := Int.emod_nonneg a2 (show ((bl.length : Int) + 1) ≠ 0 by omega); omega⟩
  have hjl : j ≤ bl.length := by
    have := Int.emod_lt_of_pos a2 (show (0 : Int) < (bl.length : Int) + 1 by omega)
    omega
  rw [hj]
  clear hj h02 hb2 hb hs hml hz1 hz2 h0 hbel3 hvb c0 c1
  refine (uall_any _ bl _ hv3 (by omega)).mono ?_
  rintro e w4 ⟨va, ve, rfl, hva, hve, hb⟩
  have hb4 := hb3.trans (hb.mono hb3.size)
  have hv4 := (hv3.below hb).more hb.size
  have hcut := hv4.cutH j j hjl rfl
  have q1 : (0 : Int) ≤ (j : Int) := by omega
  have q2 : (j : Int) ≤ (vc : Int) := by omega
  clear hb hb3 hv3
  go_wp2_with fail
  refine (uall_any _ (bl.take j) _ hcut (by simp; omega)).mono ?_
  rintro e w5 ⟨vr, vp, rfl, hvr, hvp, hb⟩
  have hz5 := hb.size
  have hz4 := hb4.size
  clear hcut
  go_wp2_with fail
  go_loopw [11, 12, 13] (fun r p i wr => PartsRel bl w4.heap.size w4 r p i wr) (fun _ _ i _ => bl.length - (intOf i).toNat)
  case atStart => exact ⟨j, hjl, rfl, hvr, hvp, hb⟩
  case round =>
    clear hvr hvp hb hz5
    obtain ⟨k, hk, rfl, hr, hp, hbr⟩ := hrel
    have hzr := hbr.size
    by_cases hlt : k < bl.length
    · obtain ⟨ad, rfl, hc⟩ := (hv4.below hbr).cellC k hlt
      have hsucc := allK_succ bl k hlt
      have hkl := allK_len bl k hk
      have hsl := stepL_len (allK bl k).1 bl[k]
      unfold vB at hc
      generalize bl[k] = b at *
      have HN := Lib.hid hsucc
      clear hsucc
      go_wp2_with fail
      refine (ustep_any _ _ b _ hp (by omega)).mono ?_
      rintro e x1 ⟨v1, v2, rfl, h1, h2, hbs⟩
      have hr1 := hr.below hbs
      have hzs := hbs.size
      go_wp2_with (at_builtin; refine wpl_appR _ rfl (.tmp 65) (.tmp 66) rfl w4.heap.size _ _ _ _ _ rfl rfl hr1 h2 (by simp only [ints_len]; omega) (by omega) ?_; intro v3 x3 hr3 hg3 hbel3 _)
      have h3 := h1.grown hg3 (fun q hq => (World.ownsRow.lt hr q hq).2)
      go_roundw
      case rel => exact ⟨k + 1, hlt, by go_num, by rw [HN.out, ints_append]; exact hr3, by rw [HN.out]; exact h3.1, (hbr.trans (hbs.mono hzr)).trans hbel3⟩
      case measure => simp [intOf]; omega
    · obtain rfl : k = bl.length := by omega
      rw [allK_all] at hr hp
      have hbw : Below w.heap.size w wr := hb4.trans (hbr.mono hz4)
      have hva1 := ((hva.bs.below hbr).more hzr)
      have hve1 := ((hve.below hbr).more hzr)
      have hln := (allK_len bl bl.length (Nat.le_refl _)).2
      rw [allK_all] at hln
      have hpend := allF_pend [] [] bl (.inl rfl)
      have hpend' : (allL bl).1 = [] ∨ beginsL (allL bl).1 = true := hpend
      have hpl : (allL bl).1.length ≤ 3 := by have := (allK_len bl bl.length (Nat.le_refl _)).1; rw [allK_all] at this; exact this
      clear hpend hva hve hbr hv4 hb4
      go_wp2_with fail
      refine (helpRunes_eq _ _ _ _ hva1 hr.bs (by rw [ints_len]; omega)).mono ?_
      rintro e x1 ⟨rfl, hb⟩
      have hp1 := (hp.below hb).more hb.size
      have he1 := (hve1.below hb).more hb.size
      have hbw1 := hbw.trans (hb.mono hbw.size)
      obtain ⟨P1, pc, rfl⟩ := hp1.form
      have s1 := run_str hp1
      have s2 := run_str he1
      clear hb hbw hva1 hve1 hr hp he1
      rcases hpend' with hE | hE
      · have d3 : (((allL bl).1.length : Int) == 0) = true := by rw [hE]; rfl
        clear hE
        go_wp2
        go_ret
        exact ⟨rfl, hbw1⟩
      · have hne := beginsL_len _ hE
        have d3 : (((allL bl).1.length : Int) == 0) = false := beq_eq_false_iff_ne.2 (by omega)
        have HE := Lib.hid hE
        clear hE
        go_wp2_with fail
        refine (ubegins_any _ _ _ hp1 (by omega)).mono ?_
        rintro e x2 ⟨rfl, hb⟩
        rw [HE.out]
        have hbw2 := hbw1.trans (hb.mono hbw1.size)
        go_wp2
        go_ret
        exact ⟨rfl, hbw2⟩
end Go.Proofs.Ytjbjfhbldodjfaa
