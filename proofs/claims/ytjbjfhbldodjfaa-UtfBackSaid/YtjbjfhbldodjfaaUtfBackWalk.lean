/- What is proved here: the law UtfBack, called with any runes and any bytes, returns true and leaves alone whatever memory was there. -/
import Derived.Test.YtjbjfhbldodjfaaUtfKnown
namespace Go.Proofs.Ytjbjfhbldodjfaa
open Go.RowKit
set_option linter.unusedVariables false

section
variable {w : World} {base g cap : Nat} {l : List Int}
theorem OR.cellAt (h : OR w base (.slice (some ⟨g, 0, none⟩) l.length cap) l) (j : Nat) (hj : j < l.length) : w.cell? ⟨g, j, none⟩ = some (vR l[j]) := by
  unfold OR at h
  rw [World.ownsRow.cellAt h j (by omega)]
  simp [vRs, hj]
theorem OR.frozenAt (h : OR w base (.slice (some ⟨g, 0, none⟩) l.length cap) l) (j : Nat) : w.frozen? ⟨g, j, none⟩ = false := World.ownsRow.frozenAt h j
theorem OR.stored (h : OR w base (.slice (some ⟨g, 0, none⟩) l.length cap) l) (j : Nat) (x : Int) : OR (w.setCell ⟨g, j, none⟩ (vR x)) base (.slice (some ⟨g, 0, none⟩) l.length cap) (l.set j x) := by
  have := (World.ownsRow.stored h j (vR x)).1
  unfold OR
  rw [List.length_set]
  have e : vRs (l.set j x) = (vRs l).set j (vR x) := by simp [vRs, List.map_set]
  rw [e]
  exact this
end

def asI (r : Int) : Int := (asR r : Int)
/-- The runes, k of them as they are put. -/
def midM (M : List Int) (k : Nat) : List Int := (M.take k).map asI ++ M.drop k
theorem midM_len (M : List Int) (k : Nat) : (midM M k).length = M.length := by simp [midM]; omega
theorem midM_zero (M : List Int) : midM M 0 = M := by simp [midM]
theorem midM_all (M : List Int) : midM M M.length = ints (M.map asR) := by simp [midM, ints, asI]
theorem midM_at (M : List Int) (k : Nat) (h : k < M.length) : (midM M k)[k]'(by rw [midM_len]; exact h) = M[k] := by
  have : (midM M k)[k]? = some M[k] := by
    unfold midM
    rw [List.getElem?_append_right (by simp; omega)]
    simp [Nat.min_eq_left (Nat.le_of_lt h), List.getElem?_drop, h]
  rw [List.getElem?_eq_getElem (by rw [midM_len]; exact h)] at this
  injection this
theorem midM_succ (M : List Int) (k : Nat) (h : k < M.length) : (midM M k).set k (asI M[k]) = midM M (k + 1) := by
  unfold midM
  have hl : ((M.take k).map asI).length = k := by simp; omega
  rw [List.set_append_right _ _ (by omega), hl, Nat.sub_self, List.take_succ_eq_append_getElem h, List.map_append, List.append_assoc]
  congr 1
  rw [List.drop_eq_getElem_cons h]
  rfl
theorem midM_same (M : List Int) (k : Nat) (h : k < M.length) (hm : mayR M[k] = true) : midM M (k + 1) = midM M k := by
  rw [← midM_succ M k h]
  have e : asI M[k] = M[k] := by
    unfold asI
    rw [asR_may _ hm]
    have : 0 ≤ M[k] := by simp [mayR] at hm; omega
    omega
  rw [e]
  apply List.ext_getElem?
  intro i
  by_cases hi : k = i
  · subst hi
    rw [List.getElem?_set_self (by rw [midM_len]; exact h), List.getElem?_eq_getElem (by rw [midM_len]; exact h), midM_at M k h]
  · rw [List.getElem?_set_ne hi]
theorem forms_succ (M : List Int) (k : Nat) (h : k < M.length) : (M.take (k + 1)).flatMap formL = (M.take k).flatMap formL ++ formL M[k] := by
  rw [List.take_succ_eq_append_getElem h, List.flatMap_append]
  simp
theorem forms_len (M : List Int) : (M.flatMap formL).length ≤ 4 * M.length := by
  induction M with
  | nil => simp
  | cons r M ih =>
    rw [List.flatMap_cons, List.length_append, List.length_cons]
    have := formN_len (asR r)
    unfold formL at *
    omega

def BackRel (M : List Int) (w0 : World) (vm : Value) (vb i : Value) (wr : World) : Prop :=
  ∃ k : Nat, k ≤ M.length ∧ i = .int .i64 (k : Int) ∧ OB wr w0.heap.size vb ((M.take k).flatMap formL) ∧ OR wr w0.heap.size vm (midM M k) ∧ Below w0.heap.size w0 wr

set_option maxHeartbeats 4000000 in
set_option maxRecDepth 100000 in
theorem utfBack_walk (a0 : Option Addr) (len0 cap0 : Nat) (l : List Int) (a1 : Option Addr) (len1 cap1 : Nat) (pk : List UInt8) (w : World) (h0 : RS w w.heap.size (.slice a0 len0 cap0) l) (hwf : ∀ n ∈ l, (Lit.int .i32 n).wf = true) (h1 : BS w w.heap.size (.slice a1 len1 cap1) pk) :
    Calls Try.prog 5 #[.slice a0 len0 cap0, .slice a1 len1 cap1] w fun e w' => e = .returned (.bool true) ∧ Below w.heap.size w w' := by
  obtain rfl := h0.lenC
  obtain ⟨A1, c1, hA, g3, g4, _⟩ := h1.at_
  simp only [Value.slice.injEq] at hA
  obtain ⟨rfl, rfl, rfl⟩ := hA
  by_cases hlong : 60 < l.length
  · have d1 : decide (60 < (l.length : Int)) = true := by simp; omega
    go_enter Try.func5, Try.ntmps5
    go_wp2_with fail
    refine (knownU_any _).mono ?_
    rintro e w1 ⟨rfl, hb1⟩
    go_wp2
    go_ret
    exact ⟨rfl, hb1⟩
  have d1 : decide (60 < (l.length : Int)) = false := by simp; omega
  by_cases hlong2 : 40 < pk.length
  · have d2 : decide (40 < (pk.length : Int)) = true := by simp; omega
    go_enter Try.func5, Try.ntmps5
    go_wp2_with fail
    refine (knownU_any _).mono ?_
    rintro e w1 ⟨rfl, hb1⟩
    go_wp2
    go_ret
    exact ⟨rfl, hb1⟩
  have d2 : decide (40 < (pk.length : Int)) = false := by simp; omega
  go_enter Try.func5, Try.ntmps5
  go_wp2_with fail
  refine (knownU_any _).mono ?_
  rintro e w1 ⟨rfl, hb1⟩
  have h01 := h0.below hb1
  have h11 := (h1.below hb1).more hb1.size
  have hz1 := hb1.size
  clear h0 h1
  go_wp2_with (first
    | (at_builtin; refine wpl_appR _ rfl (.const (.slice none 0 0)) (.tmp 20) rfl w1.heap.size _ (.slice none 0 0) _ [] l rfl rfl (OR.nil _ _) h01 (by simp; omega) (Nat.le_refl _) ?_; intro v1 w2 hv0 _ hb2 _; have hv1 : OR w2 w1.heap.size v1 l := hv0; clear hv0; have h12 := h11.below hb2; have hz2 := hb2.size; clear h01)
    | (go_at_call 18; refine (seatRunes_any _ pk _ (h12.more hz2) (by omega)).mono ?_; rintro e w3 ⟨v2, rfl, hv2, hb3⟩; have hv13 := hv1.below hb3; have hz3 := hb3.size)
    | (at_builtin; refine wpl_appR _ rfl (.tmp 21) (.tmp 23) rfl w1.heap.size _ _ _ l (pk.map seatR) rfl rfl hv13 hv2.bs (by simp; omega) (by omega) ?_; intro vm w4 hvm _ hb4 _; have hM : (l ++ pk.map seatR).length ≤ 100 := (by simp; omega)))
  have hbd : ∀ n ∈ l ++ pk.map seatR, -2147483648 ≤ n ∧ n ≤ 2147483647 := by
    intro n hn
    rcases List.mem_append.1 hn with h | h
    · have := bounds_i32 (hwf n h)
      omega
    · rw [List.mem_map] at h
      obtain ⟨q, _, rfl⟩ := h
      have := seatR_bd q
      omega
  have hbW : Below w1.heap.size w1 w4 := (hb2.trans (hb3.mono hz2)).trans hb4
  generalize l ++ pk.map seatR = M at *
  clear hb2 hb3 hb4 hv13 hv2 hv1 h12 h11 hz2 hz3 hwf
  obtain ⟨A, cm, rfl⟩ := hvm.bs.form
  have HB := Lib.hid hbd
  clear hbd
  go_loopw [5, 7] (fun b i wr => BackRel M w1 (.slice A M.length cm) b i wr) (fun _ i _ => M.length - (intOf i).toNat)
  case atStart => exact ⟨0, Nat.zero_le _, rfl, OB.nil _ _, by rw [midM_zero]; exact hvm, hbW⟩
  case round =>
    clear hvm hbW
    obtain ⟨k, hk, rfl, hb, hm, hbel⟩ := hrel
    have hz := hbel.size
    by_cases hlt : k < M.length
    · obtain ⟨g, cap, hv, hg1, hg2⟩ := World.ownsRow.form hm (by rw [midM_len]; omega)
      rw [midM_len] at hv
      simp only [Value.slice.injEq] at hv
      obtain ⟨rfl, _, rfl⟩ := hv
      have hbk := HB.out _ (List.getElem_mem hlt)
      have hml := midM_len M k
      have cm0 := OR.cellAt (l := midM M k) (by rw [hml]; exact hm) k (by omega)
      rw [midM_at M k hlt] at cm0
      have hat := midM_at M k hlt
      have HAT := Lib.hid hat
      clear hat
      have hfs := forms_succ M k hlt
      have hfl : ((M.take k).flatMap formL).length ≤ 400 := by
        have := forms_len (M.take k)
        simp at this ⊢
        omega
      have hmay := mayr_any M[k] hbk.1 hbk.2
      have hms := midM_succ M k hlt
      have hmsame := midM_same M k hlt
      have hasn := asR_not M[k]
      unfold vR at cm0
      have HM := Lib.hid hm
      have HF := Lib.hid hfs
      have hfl2 := formN_len (asR M[k])
      have hfl3 : (formL M[k]).length ≤ 4 := hfl2.2
      have HS := Lib.hid hms
      have HS2 := Lib.hid hmsame
      have HAN := Lib.hid hasn
      have hasi : asI M[k] = (asR M[k] : Int) := rfl
      have HAI := Lib.hid hasi
      have HML := Lib.hid hml
      have HMAY := Lib.hid hmay
      clear hm hfs hms hmsame hasn hasi hml hmay hfl2
      generalize M[k] = x at *
      go_wp2_with (first
        | (go_at_call 16; refine (uput_any x hbk.1 hbk.2 _).mono ?_; rintro e x1 ⟨vp, rfl, hvp, hbp⟩; have hb1' := hb.below hbp; have hm1 := HM.out.below hbp; have hzp := hbp.size)
        | (at_builtin; refine wpl_app _ rfl (.tmp 31) (.tmp 36) rfl w1.heap.size _ _ _ _ (formL x) rfl rfl hb1' hvp.1 (by omega) (by omega) ?_; intro vb x2 hb2' hg2' hbel2 _; have hm2 : OR x2 w1.heap.size (.slice (some ⟨g, 0, none⟩) M.length cm) (midM M k) := World.ownsRow.kept hm1 hg2' (ob_or hb1' hm1); have cm2 : x2.cell? ⟨g, k, none⟩ = some (.int .i32 x) := (OR.cellAt (l := midM M k) (by rw [HML.out]; exact hm2) k (by rw [HML.out]; exact hlt)).trans (by rw [HAT.out]; rfl))
        | fail)
      refine (HMAY.out _).mono ?_
      rintro e x3 ⟨rfl, rfl⟩
      have hbel3 := (hbel.trans (hbp.mono hz)).trans hbel2
      cases hmy : mayR x
      · have hst : OR (x2.setCell ⟨g, k, none⟩ (vR 65533)) w1.heap.size (.slice (some ⟨g, 0, none⟩) M.length cm) (midM M (k + 1)) := by
          have h := OR.stored (l := midM M k) (by rw [HML.out]; exact hm2) k 65533
          rw [HML.out] at h
          have e : asI x = 65533 := by rw [HAI.out, HAN.out hmy]; rfl
          have hs := HS.out
          rw [e] at hs
          rw [hs] at h
          exact h
        have hbst : OB (x2.setCell ⟨g, k, none⟩ (vR 65533)) w1.heap.size vb ((M.take (k + 1)).flatMap formL) := by
          rw [HF.out]
          exact ownsRow_setCell_other hb2' (or_ob hb2' hm2 g rfl) _
        have fd := OR.frozenAt (l := midM M k) (by rw [HML.out]; exact hm2) k
        have HST := Lib.hid hst
        have HBST := Lib.hid hbst
        clear hst hbst hmy
        go_wp2
        go_roundw
        case rel => exact ⟨k + 1, hlt, by go_num, HBST.out, HST.out, hbel3.setCell hg1 _⟩
        case measure => simp [intOf]; omega
      · have hsm := HS2.out hmy
        have HSM := Lib.hid hsm
        clear hmy hsm
        go_wp2
        go_roundw
        case rel => exact ⟨k + 1, hlt, by go_num, by rw [HF.out]; exact hb2', by rw [HSM.out]; exact hm2, hbel3⟩
        case measure => simp [intOf]; omega
    · obtain rfl : k = M.length := by omega
      rw [List.take_length] at hb
      rw [midM_all] at hm
      have hfl := forms_len M
      have hbk := forms_back M []
      have hall : allL (M.flatMap formL) = ([], M.map asR) := by
        unfold allL
        rw [hbk]
        rfl
      have hbw : Below w.heap.size w wr := hb1.trans (hbel.mono hz1)
      clear hbk
      go_wp2_with fail
      refine (uall_any _ _ _ hb.bs (by omega)).mono ?_
      rintro e x1 ⟨vx, vp, rfl, hvx, hvp, hbx⟩
      rw [hall] at hvx hvp
      have hm1 := (hm.bs.below hbx).more hbx.size
      have hbw1 := hbw.trans (hbx.mono hbw.size)
      obtain ⟨P1, pc, rfl⟩ := hvp.form
      clear hall hbx hbw hvp hm hb
      go_wp2_with fail
      refine (helpRunes_eq _ _ _ _ hvx.bs hm1 (by rw [ints_len]; simp; omega)).mono ?_
      rintro e x2 ⟨rfl, hbh⟩
      go_wp2
      go_ret
      exact ⟨rfl, hbw1.trans (hbh.mono hbw1.size)⟩
end Go.Proofs.Ytjbjfhbldodjfaa
