/- What is proved here: contracts of the program's four functions on UTF-8 (Begins, Step, All, Put): each answers what the document's own does, in new memory. -/
import Derived.Test.YtjbjfhbldodjfaaUtfIn
import Derived.Test.YtjbjfhbldodjfaaUtfHelp
namespace Go.Proofs.Ytjbjfhbldodjfaa
open Go.RowKit
set_option linter.unusedVariables false

theorem ubegins_any (v : Value) (l : List UInt8) (w : World) (hv : BS w w.heap.size v l) (hl : l.length ≤ 1048576) : Calls Try.prog 14 #[v] w fun e w' => e = .returned (.bool (beginsL l)) ∧ Below w.heap.size w w' :=
  (begins_any v l _ w hv).mono fun _ _ ⟨he, hw⟩ => ⟨he, by rw [← hw]; exact Below.refl _ _⟩

theorem stepPost_in {p : List UInt8} {b : UInt8} {w w' : World} {e : Ending} (h : InPost w.heap.size p b [] w e w') : StepPost p b w e w' := by
  obtain ⟨v1, v2, he, h1, h2, h3⟩ := h
  rw [List.nil_append] at h2
  exact ⟨v1, v2, he, h1.bn, h2.bs, h3⟩
theorem stepPost_no {p : List UInt8} {b : UInt8} {w w' : World} {e : Ending} (hp : beginsL p = false) (h : InPost w.heap.size [] b [] w e w') : StepPost p b w e w' := by
  obtain ⟨v1, v2, he, h1, h2, h3⟩ := h
  rw [List.nil_append] at h2
  have e1 : stepL p b = stepL [] b := by rw [stepL_no p b hp, stepL_no [] b rfl]
  exact ⟨v1, v2, he, by rw [e1]; exact h1.bn, by rw [e1]; exact h2.bs, h3⟩
theorem stepPost_yes {p : List UInt8} {b : UInt8} {w w1 w' : World} {e : Ending} (hb : Below w.heap.size w w1) (h : InPost w.heap.size p b [] w1 e w') : StepPost p b w e w' := by
  obtain ⟨v1, v2, he, h1, h2, h3⟩ := h
  rw [List.nil_append] at h2
  exact ⟨v1, v2, he, h1.bn, h2.bs, hb.trans h3⟩

set_option maxHeartbeats 400000 in
theorem ustep_any (v : Value) (p : List UInt8) (b : UInt8) (w : World) (hv : BS w w.heap.size v p) (hl : p.length ≤ 1048576) : Calls Try.prog 12 #[v, .int .u8 (b.toNat : Int)] w (StepPost p b w) := by
  have HV := Lib.hid hv
  obtain ⟨A, c, rfl, g1, g2, _⟩ := hv.at_
  unfold maxLen at g2
  clear hv
  cases hp : beginsL p
  · have HP := Lib.hid hp
    clear hp
    have hin := in_any (.slice none 0 0) (.slice none 0 0) [] b [] w.heap.size w (OB.nil _ _) (OR.nil _ _) (Nat.le_refl _) (by simp) (.inl rfl)
    go_enter Try.func12, Try.ntmps12
    go_wp2_with (first
      | (go_at_call 14; (with_reducible refine (begins_any _ p _ _ HV.out).mono ?_); rintro e w' ⟨rfl, rfl⟩; rw [HP.out])
      | (go_at_call 20; (with_reducible refine hin.mono ?_); intro e w2 hpost; have hst := stepPost_no HP.out hpost; obtain ⟨v1, v2, rfl, _⟩ := hpost))
    go_ret2
    exact hst
  · have HP := Lib.hid hp
    clear hp
    go_enter Try.func12, Try.ntmps12
    go_wp2_with (first
      | (go_at_call 14; (with_reducible refine (begins_any _ p _ _ HV.out).mono ?_); rintro e w' ⟨rfl, rfl⟩; rw [HP.out])
      | (at_builtin; refine wpl_app _ rfl (.tmp 9) (.tmp 10) rfl w.heap.size _ (.slice none 0 0) _ [] p rfl rfl (OB.nil _ _) HV.out (by simp; omega) (Nat.le_refl _) ?_; intro v1 w1 hown0 hg1 hbel1 _; have hown1 : OB w1 w.heap.size v1 p := hown0; clear hown0 hg1; have hz1 := hbel1.size)
      | (go_at_call 20; (with_reducible refine (in_any _ _ p b [] w.heap.size _ hown1 (OR.nil _ _) hz1 (by simp) (.inr HP.out)).mono ?_); intro e w2 hpost; have hst := stepPost_yes hbel1 hpost; obtain ⟨v1, v2, rfl, _⟩ := hpost))
    go_ret2
    exact hst

def UAllRel (l : List UInt8) (w0 : World) (o p i : Value) (wr : World) : Prop :=
  ∃ k : Nat, k ≤ l.length ∧ i = .int .i64 (k : Int) ∧ OR wr w0.heap.size o (ints (allK l k).2) ∧ OB wr w0.heap.size p (allK l k).1 ∧ Below w0.heap.size w0 wr
theorem allK_pend (l : List UInt8) (k : Nat) : (allK l k).1 = [] ∨ beginsL (allK l k).1 = true := allF_pend [] [] (l.take k) (.inl rfl)

set_option maxHeartbeats 1000000 in
set_option maxRecDepth 100000 in
theorem uall_any (v : Value) (l : List UInt8) (w : World) (hv : BS w w.heap.size v l) (hl : l.length ≤ 1048576) : Calls Try.prog 9 #[v] w (AllPost l w) := by
  obtain ⟨A, cp, rfl, g1, g2, _⟩ := hv.at_
  unfold maxLen at g2
  go_enter Try.func9, Try.ntmps9
  go_wp2
  go_loopw [4, 5, 10] (fun o p i wr => UAllRel l w o p i wr) (fun _ _ i _ => l.length - (intOf i).toNat)
  case atStart => exact ⟨0, Nat.zero_le _, rfl, OR.nil _ _, OB.nil _ _, Below.refl _ _⟩
  case round =>
    obtain ⟨k, hk, rfl, ho, hp, hbel⟩ := hrel
    by_cases hlt : k < l.length
    · have hz := hbel.size
      obtain ⟨ad, rfl, hc⟩ := (hv.below hbel).cellC k hlt
      have hsucc := allK_succ l k hlt
      have hkl := allK_len l k hk
      have hpe := allK_pend l k
      unfold vB at hc
      generalize l[k] = b at *
      have HN := Lib.hid hsucc
      have HP := Lib.hid hp
      have HO := Lib.hid ho
      have HE := Lib.hid hpe
      clear hsucc hv hp ho hpe
      go_wp2_with (go_at_call 20; refine (in_any _ _ _ b _ w.heap.size _ HP.out HO.out hz (by rw [ints_len]; omega) HE.out).mono ?_; rintro e w1 ⟨v1, v2, rfl, h1, h2, hb1⟩)
      go_roundw
      case rel => exact ⟨k + 1, hlt, by go_num, by rw [HN.out, ints_append]; exact h2, by rw [HN.out]; exact h1, hbel.trans hb1⟩
      case measure => simp [intOf]; omega
    · obtain rfl : k = l.length := by omega
      rw [allK_all] at ho hp
      clear hv
      go_wp2
      go_ret2
      exact ⟨_, _, rfl, ho, hp.bs, hbel⟩

theorem hasform_any (r : Int) (h0 : -2147483648 ≤ r) (h1 : r ≤ 2147483647) (w : World) : Calls Try.prog 24 #[.int .i32 r] w fun e w' => e = .returned (.bool (mayR r)) ∧ w = w' := by
  by_cases a1 : r < 0
  · rw [mayR_false (.inl a1)]
    go_enter Try.func24, Try.ntmps24
    go_wp2
    go_ret
    exact ⟨rfl, rfl⟩
  have d1 : decide (r < 0) = false := by simp; omega
  by_cases a2 : 1114111 < r
  · rw [mayR_false (.inr (.inl a2))]
    go_enter Try.func24, Try.ntmps24
    go_wp2
    go_ret
    exact ⟨rfl, rfl⟩
  have d2 : decide (1114111 < r) = false := by simp; omega
  by_cases a3 : 55296 ≤ r
  · by_cases a4 : r ≤ 57343
    · rw [mayR_false (.inr (.inr ⟨a3, a4⟩))]
      go_enter Try.func24, Try.ntmps24
      go_wp2
      go_ret
      exact ⟨rfl, rfl⟩
    · have d4 : decide (r ≤ 57343) = false := by simp; omega
      rw [mayR_true (by omega) (by omega) (.inr (by omega))]
      go_enter Try.func24, Try.ntmps24
      go_wp2
      go_ret
      exact ⟨rfl, rfl⟩
  · have d3 : decide (55296 ≤ r) = false := by simp; omega
    rw [mayR_true (by omega) (by omega) (.inl (by omega))]
    go_enter Try.func24, Try.ntmps24
    go_wp2
    go_ret
    exact ⟨rfl, rfl⟩
theorem tail_any (y : Int) (h0 : 0 ≤ y) (h1 : y < 2147483648) (w : World) : Calls Try.prog 25 #[.int .i32 y] w fun e w' => e = .returned (.int .u8 (128 + y % 64)) ∧ w = w' := by
  have e1 := a63 y h0 h1
  have e2 := u8_or128 (y % 64) (by omega) (by omega)
  go_enter Try.func25, Try.ntmps25
  go_wp2
  go_ret
  exact ⟨rfl, rfl⟩

set_option maxHeartbeats 1000000 in
set_option maxRecDepth 100000 in
theorem uput_any (r : Int) (h0 : -2147483648 ≤ r) (h1 : r ≤ 2147483647) (w : World) : Calls Try.prog 16 #[.int .i32 r] w (FormPost r w) := by
  have hm := hasform_any r h0 h1 w
  cases hmay : mayR r
  · have ha := asR_not r hmay
    have HA := Lib.hid ha
    rw [hmay] at hm
    clear hmay ha
    have e1 := u8_or224 15 (by omega) (by omega)
    go_enter Try.func16, Try.ntmps16
    go_wp2_with (first
      | (go_at_call 24; refine hm.mono ?_; rintro e w' ⟨rfl, rfl⟩)
      | (go_at_call 25; refine (tail_any _ (by omega) (by omega) w).mono ?_; rintro e w' ⟨rfl, rfl⟩))
    go_ret
    exact form_post r w _ _ _ (by unfold formL; rw [HA.out]; rfl) (by unfold formL; rw [HA.out]; exact cells3 65533 (by omega) (by omega) _ _ _ (by decide) (by decide) (by decide))
  · have ha := asR_may r hmay
    have hok := asR_ok r
    have hnn : 0 ≤ r := by simp [mayR] at hmay; omega
    obtain ⟨n, rfl⟩ : ∃ n : Nat, r = (n : Int) := ⟨r.toNat, by omega⟩
    rw [show ((n : Int)).toNat = n from by omega] at ha
    rw [ha] at hok
    have HA := Lib.hid ha
    rw [hmay] at hm
    clear hmay ha
    have hn := hok.1
    clear hok h0 h1
    by_cases c1 : n < 128
    · go_enter Try.func16, Try.ntmps16
      go_wp2_with (go_at_call 24; refine hm.mono ?_; rintro e w' ⟨rfl, rfl⟩)
      go_ret
      exact form_post _ w _ _ _ (by unfold formL; rw [HA.out, formL_len1 n c1]) (by unfold formL; rw [HA.out]; exact cells1 n c1 _ (by omega))
    have d1 : decide ((n : Int) < 128) = false := by simp; omega
    by_cases c2 : n < 2048
    · have d2 : (n : Int) < 2048 := by omega
      have e3 := u8_or192 ((n : Int) / 64) (by omega) (by omega)
      go_enter Try.func16, Try.ntmps16
      go_wp2_with (first
        | (go_at_call 24; refine hm.mono ?_; rintro e w' ⟨rfl, rfl⟩)
        | (go_at_call 25; refine (tail_any _ (by omega) (by omega) w).mono ?_; rintro e w' ⟨rfl, rfl⟩))
      go_ret
      exact form_post _ w _ _ _ (by unfold formL; rw [HA.out, formL_len2 n (by omega) c2]) (by unfold formL; rw [HA.out]; exact cells2 n (by omega) c2 _ _ (by omega) (by omega))
    have d2 : decide ((n : Int) < 2048) = false := by simp; omega
    by_cases c3 : n < 65536
    · have d3 : (n : Int) < 65536 := by omega
      have e3 := u8_or224 ((n : Int) / 4096) (by omega) (by omega)
      go_enter Try.func16, Try.ntmps16
      go_wp2_with (first
        | (go_at_call 24; refine hm.mono ?_; rintro e w' ⟨rfl, rfl⟩)
        | (go_at_call 25; refine (tail_any _ (by omega) (by omega) w).mono ?_; rintro e w' ⟨rfl, rfl⟩))
      go_ret
      exact form_post _ w _ _ _ (by unfold formL; rw [HA.out, formL_len3 n (by omega) c3]) (by unfold formL; rw [HA.out]; exact cells3 n (by omega) c3 _ _ _ (by omega) (by omega) (by omega))
    have d3 : decide ((n : Int) < 65536) = false := by simp; omega
    have e3 := u8_or240 ((n : Int) / 262144) (by omega) (by omega)
    go_enter Try.func16, Try.ntmps16
    go_wp2_with (first
      | (go_at_call 24; refine hm.mono ?_; rintro e w' ⟨rfl, rfl⟩)
      | (go_at_call 25; refine (tail_any _ (by omega) (by omega) w).mono ?_; rintro e w' ⟨rfl, rfl⟩))
    go_ret
    exact form_post _ w _ _ _ (by unfold formL; rw [HA.out, formL_len4 n (by omega)]) (by unfold formL; rw [HA.out]; exact cells4 n (by omega) hn _ _ _ _ (by omega) (by omega) (by omega) (by omega))
end Go.Proofs.Ytjbjfhbldodjfaa
