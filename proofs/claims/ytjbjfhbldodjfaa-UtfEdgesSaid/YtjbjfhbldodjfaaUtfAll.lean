/- What is proved here: contracts of the document's functions that take all bytes and that put a rune: in new memory. -/
import Derived.Test.YtjbjfhbldodjfaaUtfStep
namespace Go.Proofs.Ytjbjfhbldodjfaa
open Go.RowKit
set_option linter.unusedVariables false

theorem ints_append (a b : List Nat) : ints (a ++ b) = ints a ++ ints b := by simp [ints]
theorem ints_len (a : List Nat) : (ints a).length = a.length := by simp [ints]
def allK (l : List UInt8) (k : Nat) : List UInt8 × List Nat := allL (l.take k)
theorem allK_zero (l : List UInt8) : allK l 0 = ([], []) := rfl
theorem allK_all (l : List UInt8) : allK l l.length = allL l := by unfold allK; rw [List.take_length]
theorem allK_succ (l : List UInt8) (k : Nat) (h : k < l.length) : allK l (k + 1) = ((stepL (allK l k).1 l[k]).1, (allK l k).2 ++ (stepL (allK l k).1 l[k]).2) := by
  unfold allK allL
  rw [List.take_succ_eq_append_getElem h, allF_snoc]
theorem allK_len (l : List UInt8) (k : Nat) (h : k ≤ l.length) : (allK l k).1.length ≤ 3 ∧ (allK l k).2.length ≤ 2 * l.length := by
  have := allF_len [] [] (l.take k) (by simp)
  unfold allK allL
  simp at this ⊢
  omega

/-- What all bytes come to, the runes in a row of the call's own. -/
def AllPost (l : List UInt8) (w : World) (e : Ending) (w' : World) : Prop :=
  ∃ v1 v2, e = .returned (.tuple #[v1, v2]) ∧ OR w' w.heap.size v1 (ints (allL l).2) ∧ BS w' w'.heap.size v2 (allL l).1 ∧ Below w.heap.size w w'
def AllRel (l : List UInt8) (w0 : World) (o p i : Value) (wr : World) : Prop :=
  ∃ k : Nat, k ≤ l.length ∧ i = .int .i64 (k : Int) ∧ OR wr w0.heap.size o (ints (allK l k).2) ∧ BS wr wr.heap.size p (allK l k).1 ∧ Below w0.heap.size w0 wr

set_option maxHeartbeats 1000000 in
set_option maxRecDepth 100000 in
theorem allr_any (v : Value) (l : List UInt8) (w : World) (hv : BS w w.heap.size v l) (hl : l.length ≤ 1048576) : Calls Try.prog 10 #[v] w (AllPost l w) := by
  obtain ⟨A, cp, rfl, g1, g2, _⟩ := hv.at_
  unfold maxLen at g2
  go_enter Try.func10, Try.ntmps10
  go_wp2
  go_loopw [4, 5, 6] (fun o p i wr => AllRel l w o p i wr) (fun _ _ i _ => l.length - (intOf i).toNat)
  case atStart => exact ⟨0, Nat.zero_le _, rfl, OR.nil _ _, BS.nil _ _, Below.refl _ _⟩
  case round =>
    obtain ⟨k, hk, rfl, ho, hp, hbel⟩ := hrel
    by_cases hlt : k < l.length
    · have hz := hbel.size
      obtain ⟨ad, rfl, hc⟩ := (hv.below hbel).cellC k hlt
      have hsucc := allK_succ l k hlt
      have hkl := allK_len l k hk
      have hsl := stepL_len (allK l k).1 l[k]
      unfold vB at hc
      generalize l[k] = b at *
      have HN := Lib.hid hsucc
      have HP := Lib.hid hp
      have HO := Lib.hid ho
      clear hsucc hv hp ho
      go_wp2_with (first
        | (go_at_call 13; refine (stepr_any _ _ b _ HP.out).mono ?_; rintro e w1 ⟨v1, v2, rfl, h1, h2, hb1⟩; have hz1 := hb1.size; have ho1 := HO.out.below hb1)
        | (at_builtin; refine wpl_appR _ rfl (.tmp 25) (.tmp 26) rfl w.heap.size _ _ _ _ _ rfl rfl ho1 h2 (by simp only [ints_len]; omega) (by omega) ?_; intro v3 w3 ho3 hg3 hbel3 _))
      have h3 := h1.grown hg3 (fun q hq => (World.ownsRow.lt HO.out q hq).2)
      go_roundw
      case rel => exact ⟨k + 1, hlt, by go_num, by rw [HN.out, ints_append]; exact ho3, by rw [HN.out]; exact h3.1, (hbel.trans (hb1.mono hz)).trans hbel3⟩
      case measure => simp [intOf]; omega
    · obtain rfl : k = l.length := by omega
      rw [allK_all] at ho hp
      clear hv
      go_wp2
      go_ret2
      exact ⟨_, _, rfl, ho, hp, hbel⟩
end Go.Proofs.Ytjbjfhbldodjfaa
