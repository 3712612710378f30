/- What is proved here: the law DeltaJoins, called with any bytes and any numbers, returns true and leaves alone whatever memory was there. -/
import Derived.Test.YtmggknoaiaeojaaDeltaKnown
namespace Go.Proofs.Ytmggknoaiaeojaa
open Go.RowKit
set_option linter.unusedVariables false

theorem OB.lower {w : World} {b1 b2 : Nat} {v : Value} {l : List UInt8} (h : OB w b1 v l) (hb : b2 ≤ b1) : OB w b2 v l := by
  unfold OB at h ⊢
  rcases h with ⟨h1, h2 | ⟨g, cap, cur, hv, hg, hr⟩⟩
  · exact ⟨h1, .inl h2⟩
  · exact ⟨h1, .inr ⟨g, cap, cur, hv, Nat.le_trans hb hg, hr⟩⟩
theorem strB_append (a b : List UInt8) : strB a ++ strB b = strB (a ++ b) := by
  apply ByteArray.ext
  simp [strB, ByteArray.data_append]

set_option maxHeartbeats 2000000 in
set_option maxRecDepth 100000 in
theorem deltaJoins_walk (a0 : Option Addr) (len0 cap0 : Nat) (z0 : List UInt8) (a1 : Option Addr) (len1 cap1 : Nat) (z1 : List Int) (a2 : Option Addr) (len2 cap2 : Nat) (z2 : List Int) (w : World) (w0 : BS w w.heap.size (.slice a0 len0 cap0) z0) (w1 : HS w w.heap.size (.slice a1 len1 cap1) z1) (f1 : ∀ n ∈ z1, (Lit.int .u16 n).wf = true) (w2 : HS w w.heap.size (.slice a2 len2 cap2) z2) (f2 : ∀ n ∈ z2, (Lit.int .u16 n).wf = true) :
    Calls Try.prog 5 #[.slice a0 len0 cap0, .slice a1 len1 cap1, .slice a2 len2 cap2] w fun e w' => e = .returned (.bool true) ∧ Below w.heap.size w w' := by
  obtain ⟨_, _, hv0, -⟩ := w0.at_
  obtain ⟨_, _, hv1, -⟩ := id w1
  obtain ⟨_, _, hv2, -⟩ := id w2
  simp only [Value.slice.injEq] at hv0 hv1 hv2
  obtain ⟨-, rfl, -⟩ := hv0
  obtain ⟨-, rfl, -⟩ := hv1
  obtain ⟨-, rfl, -⟩ := hv2
  have W0 := Lib.hid w0
  have W1 := Lib.hid w1
  have W2 := Lib.hid w2
  have F1 := Lib.hid f1
  have F2 := Lib.hid f2
  clear w0 w1 w2 f1 f2
  have hk := knownD_any w
  by_cases t0 : 60 < (z0.length : Int)
  · go_enter Try.func5, Try.ntmps5
    go_wp2_with (go_at_call 7; refine hk.mono ?_; rintro e wk ⟨rfl, hbk⟩)
    go_ret
    exact ⟨rfl, hbk⟩
  have t0' : decide (60 < (z0.length : Int)) = false := by simp; omega
  by_cases t1 : 15 < (z1.length : Int)
  · go_enter Try.func5, Try.ntmps5
    go_wp2_with (go_at_call 7; refine hk.mono ?_; rintro e wk ⟨rfl, hbk⟩)
    go_ret
    exact ⟨rfl, hbk⟩
  have t1' : decide (15 < (z1.length : Int)) = false := by simp; omega
  by_cases t2 : 15 < (z2.length : Int)
  · go_enter Try.func5, Try.ntmps5
    go_wp2_with (go_at_call 7; refine hk.mono ?_; rintro e wk ⟨rfl, hbk⟩)
    go_ret
    exact ⟨rfl, hbk⟩
  have t2' : decide (15 < (z2.length : Int)) = false := by simp; omega
  go_enter Try.func5, Try.ntmps5
  go_wp2_with fail
  refine hk.mono ?_
  rintro e w1 ⟨rfl, hb1⟩
  have s1 := hb1.size
  go_wp2_with fail
  refine (twist_any _ _ z0 z1 w1 ((W0.out.below hb1).more s1) ((W1.out.below hb1).more s1) (by omega) (by omega) F1.out).mono ?_
  rintro e w2 ⟨va, a, rfl, ha, hal, hb2⟩
  have c2 := hb1.trans (hb2.mono s1)
  have s2 := c2.size
  go_wp2_with fail
  refine (twist_any _ _ z0 z2 w2 ((W0.out.below c2).more s2) ((W2.out.below c2).more s2) (by omega) (by omega) F2.out).mono ?_
  rintro e w3 ⟨vb, b, rfl, hb, hbl, hb3⟩
  have ha3 := (ha.bs.below hb3).more hb3.size
  have c3 := c2.trans (hb3.mono s2)
  have s3 := c3.size
  have hb3' := hb.bs
  obtain ⟨Aa, ca, rfl, ga1, ga2, -⟩ := ha3.at_
  obtain ⟨Ab, cb, rfl, gb1, gb2, -⟩ := hb3'.at_
  clear ha hb hb1 hb2 hb3 c2 s2 s1 hk
  have hz3 := (W0.out.below c3).more s3
  go_wp2_with fail
  refine (make_any _ _ z0 a w3 hz3 ha3 (by omega) (by omega)).mono ?_
  rintro e w4 ⟨vd, rfl, hd4, d4⟩
  go_wp2_with fail
  refine (make_any _ _ z0 b w4 ((hz3.below d4).more d4.size) ((hb3'.below d4).more d4.size) (by omega) (by omega)).mono ?_
  rintro e w5 ⟨ve, rfl, he, hb5⟩
  have d5 := d4.trans (hb5.mono d4.size)
  have hd5 := hd4.below hb5
  have m1 := makeL_len z0 a (by omega) (by omega)
  have m2 := makeL_len z0 b (by omega) (by omega)
  clear hd4 hb5 d4
  go_wp2_with (at_builtin; refine wpl_app _ rfl (.tmp 37) (.tmp 40) rfl w3.heap.size _ _ _ (makeL z0 a) (makeL z0 b) rfl rfl hd5 he.bs (by omega) d5.size ?_; intro vj w6 hj hg6 hb6 _; have d6 := d5.trans hb6; clear hg6 hb6 d5 hd5 he)
  have j1 := applyL_join z0 a b ((a.length : Int) + (b.length : Int)) (by omega) (by omega) (by omega)
  rw [if_neg (by omega)] at j1
  refine (apply_any _ _ z0 (makeL z0 a ++ makeL z0 b) _ w6 ((hz3.below d6).more d6.size) hj.bs (by omega) (by simp; omega) (by omega) (by omega)).mono ?_
  rintro e w7 ⟨vc, rfl, hc, hb7⟩
  rw [j1] at hc
  rw [j1]
  have d7 := d6.trans (hb7.mono d6.size)
  have hj7 := (hj.bs.below hb7).more hb7.size
  clear j1 hb7 d6 hj
  go_wp2_with fail
  refine (apply_any _ _ z0 (makeL z0 a ++ makeL z0 b) _ w7 ((hz3.below d7).more d7.size) hj7 (by omega) (by simp; omega) (by omega) (by omega)).mono ?_
  rintro e w8 ⟨vf, rfl, _, hb8⟩
  have d8 := d7.trans (hb8.mono d7.size)
  have c8 := c3.trans (d8.mono s3)
  have hc8 := (hc.below hb8).more hb8.size
  clear hb8 d7 hj7 hc
  have hs1 := run_str hc8
  have hs2 := run_str (ha3.below d8)
  have hs3 := run_str (hb3'.below d8)
  clear hc8
  have hcat := strB_append a b
  have hsz1 : (strB a).size = a.length := by simp [strB, ByteArray.size]
  have hsz2 : (strB b).size = b.length := by simp [strB, ByteArray.size]
  have j2 := applyL_join z0 a b ((a.length : Int) + (b.length : Int) - 1) (by omega) (by omega) (by omega)
  by_cases h0 : a.length + b.length = 0
  · have h0' : (((a.length : Int) + (b.length : Int)) == 0) = true := beq_iff_eq.2 (by omega)
    rw [if_neg (by omega)] at j2
    rw [j2]
    clear j2 h0
    go_wp2
    go_ret
    exact ⟨rfl, c8⟩
  · rw [if_pos (by omega)] at j2
    rw [j2]
    clear j2 h0
    go_wp2
    go_ret
    exact ⟨rfl, c8⟩
end Go.Proofs.Ytmggknoaiaeojaa
