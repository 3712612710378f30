/- What is proved here: the law DeltaNone, called with any bytes, returns true and leaves alone whatever memory was there. -/
import Derived.Test.YtmggknoaiaeojaaDeltaKnown
import Derived.StillTailTactics
import Derived.IntWalk
namespace Go.Proofs.Ytmggknoaiaeojaa
open Go.RowKit
set_option linter.unusedVariables false

theorem lebP_two (n : Nat) (h1 : 128 ≤ n) (h2 : n < 16384) : (lebP n).length = 2 := by
  unfold lebP
  rw [lebF_big _ _ (by omega), lebF_small _ _ (by omega)]
  rfl
/-- How many bytes stand ahead. -/
def headN (l : List UInt8) : Nat := if l.length = 0 then 0 else if l.length < 64 then 1 else 2
theorem litL_head (l : List UInt8) (h : l.length ≤ 100) : (litL l).length = l.length + headN l ∧ (litL l).drop (headN l) = l := by
  unfold litL headN
  split
  · rename_i h0
    have : l = [] := List.eq_nil_of_length_eq_zero h0
    subst this
    simp
  · split
    · have e := lebP_len1 (2 * l.length) (by omega)
      exact ⟨by rw [List.length_append, e]; omega, by exact (congrArg (fun k => List.drop k (lebP (2 * l.length) ++ l)) e.symm).trans List.drop_left⟩
    · have e := lebP_two (2 * l.length) (by omega) (by omega)
      exact ⟨by rw [List.length_append, e]; omega, by exact (congrArg (fun k => List.drop k (lebP (2 * l.length) ++ l)) e.symm).trans List.drop_left⟩

set_option maxHeartbeats 2000000 in
set_option maxRecDepth 100000 in
/-- The rest of the law, at n bytes ahead. -/
theorem deltaNone_walk (a0 : Option Addr) (len0 cap0 : Nat) (z0 : List UInt8) (w : World) (w0 : BS w w.heap.size (.slice a0 len0 cap0) z0) :
    Calls Try.prog 6 #[.slice a0 len0 cap0] w fun e w' => e = .returned (.bool true) ∧ Below w.heap.size w w' := by
  obtain ⟨_, _, hv0, -⟩ := w0.at_
  simp only [Value.slice.injEq] at hv0
  obtain ⟨-, rfl, -⟩ := hv0
  have W0 := Lib.hid w0
  clear w0
  have hk := knownD_any w
  by_cases t0 : 100 < (z0.length : Int)
  · go_enter Try.func6, Try.ntmps6
    go_wp2_with (go_at_call 7; refine hk.mono ?_; rintro e wk ⟨rfl, hbk⟩)
    go_ret
    exact ⟨rfl, hbk⟩
  have t0' : decide (100 < (z0.length : Int)) = false := by simp; omega
  obtain ⟨hl, hdrop⟩ := litL_head z0 (by omega)
  by_cases h0 : z0.length = 0
  · have e0 : headN z0 = 0 := by unfold headN; rw [if_pos h0]
    rw [e0] at hl hdrop
    have d1 : decide (0 < z0.length) = false := decide_eq_false (by omega)
    have d2 : decide (63 < (z0.length : Int)) = false := by simp; omega
    clear h0
    have HL := Lib.hid hl
    have HDR := Lib.hid hdrop
    clear hl hdrop e0
    go_enter Try.func6, Try.ntmps6
    go_wp2_with fail
    refine hk.mono ?_
    rintro e w1 ⟨rfl, hb1⟩
    have s1 := hb1.size
    go_wp2_with fail
    refine (make_any _ _ [] z0 w1 (BS.nil _ _) ((W0.out.below hb1).more s1) (by simp) (by omega)).mono ?_
    rintro e w2 ⟨vd, rfl, hd, hb2⟩
    rw [makeL_none] at hd
    have hd2 := hd.bs
    have c2 := hb1.trans (hb2.mono s1)
    obtain ⟨A, cd, rfl, q1, q2, -⟩ := hd2.at_
    rw [HL.out] at q1 hd2 ⊢
    unfold maxLen at q2
    obtain ⟨A5, hif⟩ : ∃ A5, (if cd = 0 then A else Option.map (fun x => x.add 0) A) = A5 := ⟨_, rfl⟩
    have hcut := hd2.cut 0 z0.length z0.length (by rw [HL.out]; omega) rfl
    rw [hif, HDR.out, List.take_of_length_le (Nat.le_refl _)] at hcut
    have hz2 := W0.out.below c2
    have hd0 := hd2
    rw [show litL z0 = z0 from HDR.out] at hd0
    have hs1 : (convert 22 9 (.slice A z0.length cd)).run Try.prog w2.drew = .ok (.string (strB z0)) w2.drew := run_str (w := w2.drew) (show BS w2.drew w2.heap.size (.slice A z0.length cd) z0 from hd0)
    have hs2 : (convert 22 9 (.slice a0 z0.length cap0)).run Try.prog w2.drew = .ok (.string (strB z0)) w2.drew := run_str (w := w2.drew) (show BS w2.drew w.heap.size (.slice a0 z0.length cap0) z0 from hz2)
    have hmk := make_any (.slice a0 z0.length cap0) (.slice none 0 0) z0 [] w2.drew (show BS w2.drew w2.heap.size _ z0 from hz2.more c2.size) (BS.nil _ _) (by omega) (by simp)
    rw [makeL_nil] at hmk
    clear hd hd2 hcut hz2 hb2 hk
    have i0 : IntKind.i64.wrap (z0.length : Int) = (z0.length : Int) := IntWalk.i64_in _ (by omega)
    have i1 : IntKind.i64.wrap ((z0.length : Int) + 1) = (z0.length : Int) + 1 := IntWalk.i64_in _ (by omega)
    have i2 : IntKind.i64.wrap ((z0.length : Int) + 2) = (z0.length : Int) + 2 := IntWalk.i64_in _ (by omega)
    go_wp2_with fail
    go_still_tail 18, (by kernel_rfl)
    go_wp2_with (go_at_call 9; refine hmk.mono ?_; rintro e w3 ⟨vm, rfl, hm, hb3⟩; obtain ⟨Am, cm, rfl, _, _, -⟩ := hm.bs.at_)
    go_ret
    exact ⟨rfl, (c2.drew).trans (hb3.mono c2.size)⟩
  · by_cases h1 : z0.length < 64
    · have e0 : headN z0 = 1 := by unfold headN; rw [if_neg h0, if_pos h1]
      rw [e0] at hl hdrop
      have d1 : 0 < z0.length := by omega
      have d2 : decide (63 < (z0.length : Int)) = false := by simp; omega
      clear h0
      have HL := Lib.hid hl
      have HDR := Lib.hid hdrop
      clear hl hdrop e0
      go_enter Try.func6, Try.ntmps6
      go_wp2_with fail
      refine hk.mono ?_
      rintro e w1 ⟨rfl, hb1⟩
      have s1 := hb1.size
      go_wp2_with fail
      refine (make_any _ _ [] z0 w1 (BS.nil _ _) ((W0.out.below hb1).more s1) (by simp) (by omega)).mono ?_
      rintro e w2 ⟨vd, rfl, hd, hb2⟩
      rw [makeL_none] at hd
      have hd2 := hd.bs
      have c2 := hb1.trans (hb2.mono s1)
      obtain ⟨A, cd, rfl, q1, q2, -⟩ := hd2.at_
      rw [HL.out] at q1 hd2 ⊢
      unfold maxLen at q2
      obtain ⟨A5, hif⟩ : ∃ A5, (if cd = 1 then A else Option.map (fun x : Addr => (⟨x.block, x.off + 1, none⟩ : Addr)) A) = A5 := ⟨_, rfl⟩
      have hif' : (if cd = 1 then A else Option.map (fun x => x.add 1) A) = A5 := hif
      have hcut := hd2.cut 1 z0.length z0.length (by rw [HL.out]; omega) rfl
      rw [hif', HDR.out, List.take_of_length_le (Nat.le_refl _)] at hcut
      have hz2 := W0.out.below c2
      have hs1 : (convert 22 9 (.slice A5 z0.length (cd - 1))).run Try.prog w2.drew = .ok (.string (strB z0)) w2.drew := run_str (w := w2.drew) (show BS w2.drew w2.heap.size (.slice A5 z0.length (cd - 1)) z0 from hcut)
      have j1 : (1 : Int) ≤ (z0.length : Int) + 1 := by omega
      have j2 : (z0.length : Int) + 1 ≤ (cd : Int) := by omega
      have hs2 : (convert 22 9 (.slice a0 z0.length cap0)).run Try.prog w2.drew = .ok (.string (strB z0)) w2.drew := run_str (w := w2.drew) (show BS w2.drew w.heap.size (.slice a0 z0.length cap0) z0 from hz2)
      have hmk := make_any (.slice a0 z0.length cap0) (.slice none 0 0) z0 [] w2.drew (show BS w2.drew w2.heap.size _ z0 from hz2.more c2.size) (BS.nil _ _) (by omega) (by simp)
      rw [makeL_nil] at hmk
      clear hd hd2 hcut hz2 hb2 hk
      have i0 : IntKind.i64.wrap (z0.length : Int) = (z0.length : Int) := IntWalk.i64_in _ (by omega)
      have i1 : IntKind.i64.wrap ((z0.length : Int) + 1) = (z0.length : Int) + 1 := IntWalk.i64_in _ (by omega)
      have i2 : IntKind.i64.wrap ((z0.length : Int) + 2) = (z0.length : Int) + 2 := IntWalk.i64_in _ (by omega)
      go_wp2_with fail
      go_still_tail 18, (by kernel_rfl)
      go_wp2_with (go_at_call 9; refine hmk.mono ?_; rintro e w3 ⟨vm, rfl, hm, hb3⟩; obtain ⟨Am, cm, rfl, _, _, -⟩ := hm.bs.at_)
      go_ret
      exact ⟨rfl, (c2.drew).trans (hb3.mono c2.size)⟩
    · have e0 : headN z0 = 2 := by unfold headN; rw [if_neg h0, if_neg h1]
      rw [e0] at hl hdrop
      have d1 : 0 < z0.length := by omega
      have d2 : 63 < (z0.length : Int) := by omega
      clear h0
      have HL := Lib.hid hl
      have HDR := Lib.hid hdrop
      clear hl hdrop e0
      go_enter Try.func6, Try.ntmps6
      go_wp2_with fail
      refine hk.mono ?_
      rintro e w1 ⟨rfl, hb1⟩
      have s1 := hb1.size
      go_wp2_with fail
      refine (make_any _ _ [] z0 w1 (BS.nil _ _) ((W0.out.below hb1).more s1) (by simp) (by omega)).mono ?_
      rintro e w2 ⟨vd, rfl, hd, hb2⟩
      rw [makeL_none] at hd
      have hd2 := hd.bs
      have c2 := hb1.trans (hb2.mono s1)
      obtain ⟨A, cd, rfl, q1, q2, -⟩ := hd2.at_
      rw [HL.out] at q1 hd2 ⊢
      unfold maxLen at q2
      obtain ⟨A5, hif⟩ : ∃ A5, (if cd = 2 then A else Option.map (fun x : Addr => (⟨x.block, x.off + 2, none⟩ : Addr)) A) = A5 := ⟨_, rfl⟩
      have hif' : (if cd = 2 then A else Option.map (fun x => x.add 2) A) = A5 := hif
      have hcut := hd2.cut 2 z0.length z0.length (by rw [HL.out]; omega) rfl
      rw [hif', HDR.out, List.take_of_length_le (Nat.le_refl _)] at hcut
      have hz2 := W0.out.below c2
      have hs1 : (convert 22 9 (.slice A5 z0.length (cd - 2))).run Try.prog w2.drew = .ok (.string (strB z0)) w2.drew := run_str (w := w2.drew) (show BS w2.drew w2.heap.size (.slice A5 z0.length (cd - 2)) z0 from hcut)
      have j1 : (2 : Int) ≤ (z0.length : Int) + 2 := by omega
      have j2 : (z0.length : Int) + 2 ≤ (cd : Int) := by omega
      have hs2 : (convert 22 9 (.slice a0 z0.length cap0)).run Try.prog w2.drew = .ok (.string (strB z0)) w2.drew := run_str (w := w2.drew) (show BS w2.drew w.heap.size (.slice a0 z0.length cap0) z0 from hz2)
      have hmk := make_any (.slice a0 z0.length cap0) (.slice none 0 0) z0 [] w2.drew (show BS w2.drew w2.heap.size _ z0 from hz2.more c2.size) (BS.nil _ _) (by omega) (by simp)
      rw [makeL_nil] at hmk
      clear hd hd2 hcut hz2 hb2 hk
      have i0 : IntKind.i64.wrap (z0.length : Int) = (z0.length : Int) := IntWalk.i64_in _ (by omega)
      have i1 : IntKind.i64.wrap ((z0.length : Int) + 1) = (z0.length : Int) + 1 := IntWalk.i64_in _ (by omega)
      have i2 : IntKind.i64.wrap ((z0.length : Int) + 2) = (z0.length : Int) + 2 := IntWalk.i64_in _ (by omega)
      go_wp2_with fail
      go_still_tail 18, (by kernel_rfl)
      go_wp2_with (go_at_call 9; refine hmk.mono ?_; rintro e w3 ⟨vm, rfl, hm, hb3⟩; obtain ⟨Am, cm, rfl, _, _, -⟩ := hm.bs.at_)
      go_ret
      exact ⟨rfl, (c2.drew).trans (hb3.mono c2.size)⟩
end Go.Proofs.Ytmggknoaiaeojaa
