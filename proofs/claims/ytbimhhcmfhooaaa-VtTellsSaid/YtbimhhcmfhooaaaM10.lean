/- What is proved here: a contract of the program's Right: which parsers it calls right; a contract of the program's Right: which parsers it calls right, whatever the parser; a contract of the statements' help that makes bytes for a terminal of few numbers: some bytes, in a row of the call's own; append of a string's bytes; the contract of the help's Place: a number's place among n; contracts of the program's Step, All and Right on a terminal's parser: each comes to what the document's does, in new memory. -/
import Derived.Test.YtbimhhcmfhooaaaM8
import Derived.Test.YtbimhhcmfhooaaaM9
import Derived.Test.YtbimhhcmfhooaaaM1
import Derived.Lib.AppendStr
import Derived.Deep.Onto
import Derived.Deep.QuietTactic
import Derived.BigQuiet
import Derived.Test.YtbimhhcmfhooaaaM7
namespace Go.Proofs.Ytbimhhcmfhooaaa
open Go.RowKit
set_option linter.unusedVariables false
set_option linter.unusedSimpArgs false

def badP (x : Int) : Bool := !decide (0 ≤ x ∧ x ≤ 65535)
def badI (x : UInt8) : Bool := !interB x
theorem noParam_bad (n : Int) (w : World) : Calls Try.prog 32 #[.int .i64 n] w fun e w' => e = .returned (.bool (badP n)) ∧ w = w' := noParam_any n w
theorem noInter_bad (b : UInt8) (w : World) : Calls Try.prog 34 #[.int .u8 (b.toNat : Int)] w fun e w' => e = .returned (.bool (badI b)) ∧ w = w' := noInter_any b w
/-- At a loop's head: none of so many. -/
def NoneRel {α : Type} (P : α → Bool) (l : List α) (w : World) (i : Value) (wr : World) : Prop := ∃ k : Nat, k ≤ l.length ∧ i = .int .i64 (k : Int) ∧ (∀ x ∈ l.take k, P x = false) ∧ w = wr
theorem idxI_any (v : Value) (l : List Int) (w : World) (hv : IS w w.heap.size v l) (hl : l.length ≤ 1048576) : Calls Try.prog 46 #[v, .func (.func 32) #[] #[]] w fun e w' => ∃ k : Int, e = .returned (.int .i64 k) ∧ (decide (0 ≤ k) = l.any fun x => badP x) ∧ w = w' := by
  have HV := Lib.hid hv
  obtain ⟨A, c, rfl, g1, g2, g3⟩ := hv.at_
  unfold maxLen at g2
  clear hv
  go_enter Try.func46, Try.ntmps46
  go_wp2
  go_loopw [8] (fun i wr => NoneRel (fun x => badP x) l w i wr) (fun i _ => l.length - (intOf i).toNat)
  case atStart => exact ⟨0, Nat.zero_le _, rfl, by simp, rfl⟩
  case round =>
    obtain ⟨k, hk, rfl, hn, rfl⟩ := hrel
    have HN := Lib.hid hn
    clear hn
    by_cases hlt : k < l.length
    · obtain ⟨ad, rfl, hc⟩ := g3 k hlt
      obtain ⟨x, hx⟩ : ∃ x, l[k] = x := ⟨_, rfl⟩
      rw [hx] at hc
      unfold vI at hc
      have hX : l[k]? = some x := by rw [List.getElem?_eq_getElem hlt, hx]
      have HX := Lib.hid hX
      clear hx g3 hX
      have HC : Hid _ := fun (w : World) => noParam_bad x w
      cases ht : badP x
      all_goals rw [ht] at HC
      all_goals have HT := Lib.hid ht
      all_goals clear ht
      rotate_left 0
      · go_wp2_with (go_at_call 32; refine (HC.out _).mono ?_; rintro e w' ⟨rfl, rfl⟩)
        go_roundw
        case rel =>
          refine ⟨k + 1, hlt, by go_num, fun y hy => ?_, rfl⟩
          rw [List.take_succ_eq_append_getElem hlt, List.mem_append, List.mem_singleton] at hy
          rcases hy with hy | hy
          · exact HN.out y hy
          · have : x = l[k] := (List.getElem?_eq_some_iff.1 HX.out).2.symm
            rw [hy, ← this]; exact HT.out
        case measure => simp [intOf]; omega
      · go_wp2_with (go_at_call 32; refine (HC.out _).mono ?_; rintro e w' ⟨rfl, rfl⟩)
        go_ret
        refine ⟨(k : Int), rfl, ?_, rfl⟩
        rw [decide_eq_true (by omega)]
        exact (List.any_eq_true.2 ⟨x, List.mem_of_getElem? HX.out, HT.out⟩).symm
    · obtain rfl : k = l.length := by omega
      rw [List.take_length] at HN
      clear g3
      go_wp2
      go_ret
      refine ⟨-1, rfl, ?_, rfl⟩
      rw [decide_eq_false (by omega)]
      exact (List.any_eq_false.2 fun x hx => by rw [HN.out x hx]; simp).symm
theorem hasI_any (v : Value) (l : List Int) (w : World) (hv : IS w w.heap.size v l) (hl : l.length ≤ 1048576) : Calls Try.prog 31 #[v, .func (.func 32) #[] #[]] w fun e w' => e = .returned (.bool (l.any fun x => badP x)) ∧ w = w' := by
  have HC := Lib.hid (idxI_any v l w hv hl)
  obtain ⟨A, c, rfl, g1, g2, g3⟩ := hv.at_
  clear hv g3
  go_enter Try.func31, Try.ntmps31
  go_wp2_with (go_at_call 46; refine HC.out.mono ?_; rintro e w' ⟨k, rfl, hk, rfl⟩; have HK := Lib.hid hk; clear hk)
  go_ret
  exact ⟨congrArg (fun t => Ending.returned (.bool t)) HK.out, rfl⟩
theorem idxB_any (v : Value) (l : List UInt8) (w : World) (hv : BS w w.heap.size v l) (hl : l.length ≤ 1048576) : Calls Try.prog 47 #[v, .func (.func 34) #[] #[]] w fun e w' => ∃ k : Int, e = .returned (.int .i64 k) ∧ (decide (0 ≤ k) = l.any fun x => badI x) ∧ w = w' := by
  have HV := Lib.hid hv
  obtain ⟨A, c, rfl, g1, g2, g3⟩ := hv.at_
  unfold maxLen at g2
  clear hv
  go_enter Try.func47, Try.ntmps47
  go_wp2
  go_loopw [8] (fun i wr => NoneRel (fun x => badI x) l w i wr) (fun i _ => l.length - (intOf i).toNat)
  case atStart => exact ⟨0, Nat.zero_le _, rfl, by simp, rfl⟩
  case round =>
    obtain ⟨k, hk, rfl, hn, rfl⟩ := hrel
    have HN := Lib.hid hn
    clear hn
    by_cases hlt : k < l.length
    · obtain ⟨ad, rfl, hc⟩ := g3 k hlt
      obtain ⟨x, hx⟩ : ∃ x, l[k] = x := ⟨_, rfl⟩
      rw [hx] at hc
      unfold vB at hc
      have hX : l[k]? = some x := by rw [List.getElem?_eq_getElem hlt, hx]
      have HX := Lib.hid hX
      clear hx g3 hX
      have HC : Hid _ := fun (w : World) => noInter_bad x w
      cases ht : badI x
      all_goals rw [ht] at HC
      all_goals have HT := Lib.hid ht
      all_goals clear ht
      rotate_left 0
      · go_wp2_with (go_at_call 34; refine (HC.out _).mono ?_; rintro e w' ⟨rfl, rfl⟩)
        go_roundw
        case rel =>
          refine ⟨k + 1, hlt, by go_num, fun y hy => ?_, rfl⟩
          rw [List.take_succ_eq_append_getElem hlt, List.mem_append, List.mem_singleton] at hy
          rcases hy with hy | hy
          · exact HN.out y hy
          · have : x = l[k] := (List.getElem?_eq_some_iff.1 HX.out).2.symm
            rw [hy, ← this]; exact HT.out
        case measure => simp [intOf]; omega
      · go_wp2_with (go_at_call 34; refine (HC.out _).mono ?_; rintro e w' ⟨rfl, rfl⟩)
        go_ret
        refine ⟨(k : Int), rfl, ?_, rfl⟩
        rw [decide_eq_true (by omega)]
        exact (List.any_eq_true.2 ⟨x, List.mem_of_getElem? HX.out, HT.out⟩).symm
    · obtain rfl : k = l.length := by omega
      rw [List.take_length] at HN
      clear g3
      go_wp2
      go_ret
      refine ⟨-1, rfl, ?_, rfl⟩
      rw [decide_eq_false (by omega)]
      exact (List.any_eq_false.2 fun x hx => by rw [HN.out x hx]; simp).symm
theorem hasB_any (v : Value) (l : List UInt8) (w : World) (hv : BS w w.heap.size v l) (hl : l.length ≤ 1048576) : Calls Try.prog 33 #[v, .func (.func 34) #[] #[]] w fun e w' => e = .returned (.bool (l.any fun x => badI x)) ∧ w = w' := by
  have HC := Lib.hid (idxB_any v l w hv hl)
  obtain ⟨A, c, rfl, g1, g2, g3⟩ := hv.at_
  clear hv g3
  go_enter Try.func33, Try.ntmps33
  go_wp2_with (go_at_call 47; refine HC.out.mono ?_; rintro e w' ⟨k, rfl, hk, rfl⟩; have HK := Lib.hid hk; clear hk)
  go_ret
  exact ⟨congrArg (fun t => Ending.returned (.bool t)) HK.out, rfl⟩
/-- A test's answer. -/
def RPost (P : Prop) (w : World) (e : Ending) (w' : World) : Prop := ∃ r, e = .returned (.bool r) ∧ (r = true ↔ P) ∧ Below w.heap.size w w'
theorem RPost.yes {P : Prop} {w w' : World} (h : P) (hb : Below w.heap.size w w') : RPost P w (.returned (.bool true)) w' := ⟨true, rfl, by simp [h], hb⟩
theorem RPost.no {P : Prop} {w w' : World} (h : ¬ P) (hb : Below w.heap.size w w') : RPost P w (.returned (.bool false)) w' := ⟨false, rfl, by simp [h], hb⟩
theorem anyP (l : List Int) : (l.any fun x => badP x) = false ↔ ∀ x ∈ l, 0 ≤ x ∧ x ≤ 65535 := by
  rw [List.any_eq_false]
  constructor
  · intro h x hx
    have := h x hx
    simpa [badP] using this
  · intro h x hx
    have := h x hx
    simp [badP, this]
theorem anyI (l : List UInt8) : (l.any fun x => badI x) = false ↔ ∀ x ∈ l, interB x = true := by
  rw [List.any_eq_false]
  constructor
  · intro h x hx
    have := h x hx
    simpa [badI] using this
  · intro h x hx
    have := h x hx
    simp [badI, this]
theorem rightUtf_any (vp vi vu : Value) (m : Int) (pv : Nat) (ps : List Int) (is us : List UInt8) (S : Nat → Prop) (w : World) (hp : SL vI w S vp ps) (hi : SL vB w S vi is) (hu : SL vB w S vu us) (hS : ∀ x, S x → x < w.heap.size) (hus : us.length ≤ 1048576) : Calls Try.prog 18 #[.agg #[.int .i64 m, .int .u8 (pv : Int), vp, vi, vu]] w (RPost (us.length = 0 ∨ m = 0 ∧ beginsL us = true) w) := by
  have HP : Hid (∀ o, IS (w.alloc o) (w.alloc o).heap.size vp ps) := fun o => ((hp.is hS).alloc (Nat.le_refl _) o).more (by simp)
  have HI : Hid (∀ o, BS (w.alloc o) (w.alloc o).heap.size vi is) := fun o => ((hi.bs hS).alloc (Nat.le_refl _) o).more (by simp)
  have HU : Hid (∀ o, BS (w.alloc o) (w.alloc o).heap.size vu us) := fun o => ((hu.bs hS).alloc (Nat.le_refl _) o).more (by simp)
  obtain ⟨Ap, cp, rfl, p1, p2⟩ := hp.form
  obtain ⟨Ai, ci, rfl, i1, i2⟩ := hi.form
  obtain ⟨Au, cu, rfl, u1, u2⟩ := hu.form
  clear hp hi hu hS
  have HB : Hid (∀ o, Below w.heap.size w (w.alloc o)) := fun o => (Below.refl _ _).alloc (Nat.le_refl _) o
  by_cases h0 : us.length = 0
  · have d0 : ((us.length : Int) == 0) = true := beq_iff_eq.2 (by omega)
    have HX := Lib.hid (show us.length = 0 ∨ m = 0 ∧ beginsL us = true from .inl h0)
    clear h0
    go_enter Try.func18, Try.ntmps18
    go_wp2
    go_ret
    exact RPost.yes HX.out (HB.out _)
  · have d0 : ((us.length : Int) == 0) = false := beq_eq_false_iff_ne.2 (by omega)
    by_cases h1 : m = 0
    · have d1 : (m == 0) = true := beq_iff_eq.2 (by omega)
      cases hb : beginsL us
      · have HX := Lib.hid (show ¬ (us.length = 0 ∨ m = 0 ∧ false = true) from fun h => h.elim h0 (fun h => by cases h.2))
        have HBG := Lib.hid hb
        clear h0 h1 hb
        go_enter Try.func18, Try.ntmps18
        go_wp2_with (go_at_call 30; (with_reducible refine (begins_any _ us _ _ (HU.out _)).mono ?_); rintro e w' ⟨rfl, rfl⟩; rw [HBG.out])
        go_ret
        exact RPost.no HX.out (HB.out _)
      · have HX := Lib.hid (show us.length = 0 ∨ m = 0 ∧ true = true from .inr ⟨h1, rfl⟩)
        have HBG := Lib.hid hb
        clear h0 h1 hb
        go_enter Try.func18, Try.ntmps18
        go_wp2_with (go_at_call 30; (with_reducible refine (begins_any _ us _ _ (HU.out _)).mono ?_); rintro e w' ⟨rfl, rfl⟩; rw [HBG.out])
        go_ret
        exact RPost.yes HX.out (HB.out _)
    · have d1 : (m == 0) = false := beq_eq_false_iff_ne.2 (by omega)
      have HX := Lib.hid (show ¬ (us.length = 0 ∨ m = 0 ∧ beginsL us = true) from fun h => h.elim h0 (fun h => h1 h.1))
      clear h0 h1
      go_enter Try.func18, Try.ntmps18
      go_wp2
      go_ret
      exact RPost.no HX.out (HB.out _)
set_option maxHeartbeats 1000000 in
theorem rightParams_4 (vp vi vu : Value) (m : Int) (pv : Nat) (ps : List Int) (is us : List UInt8) (S : Nat → Prop) (w : World) (hp : SL vI w S vp ps) (hi : SL vB w S vi is) (hu : SL vB w S vu us) (hS : ∀ x, S x → x < w.heap.size) (hm : m = 4) : Calls Try.prog 19 #[.agg #[.int .i64 m, .int .u8 (pv : Int), vp, vi, vu]] w (RPost ((pv = 0 ∨ (60 ≤ pv ∧ pv ≤ 63)) ∧ ps.length ≤ 16 ∧ (∀ x ∈ ps, 0 ≤ x ∧ x ≤ 65535)) w) := by
  have HP : Hid (∀ o, IS (w.alloc o) (w.alloc o).heap.size vp ps) := fun o => ((hp.is hS).alloc (Nat.le_refl _) o).more (by simp)
  have HI : Hid (∀ o, BS (w.alloc o) (w.alloc o).heap.size vi is) := fun o => ((hi.bs hS).alloc (Nat.le_refl _) o).more (by simp)
  have HU : Hid (∀ o, BS (w.alloc o) (w.alloc o).heap.size vu us) := fun o => ((hu.bs hS).alloc (Nat.le_refl _) o).more (by simp)
  obtain ⟨Ap, cp, rfl, p1, p2⟩ := hp.form
  obtain ⟨Ai, ci, rfl, i1, i2⟩ := hi.form
  obtain ⟨Au, cu, rfl, u1, u2⟩ := hu.form
  clear hp hi hu hS
  have HB : Hid (∀ o, Below w.heap.size w (w.alloc o)) := fun o => (Below.refl _ _).alloc (Nat.le_refl _) o
  have m4 : (m == 4) = true := beq_iff_eq.2 (by omega)
  clear hm
  by_cases hpv : pv = 0
  · have e0 : ((pv : Int) == 0) = true := beq_iff_eq.2 (by omega)
    by_cases hl : ps.length ≤ 16
    · have dl : (ps.length : Int) ≤ 16 := by omega
      cases ha : ps.any fun x => badP x
      · have HX := Lib.hid (show (pv = 0 ∨ (60 ≤ pv ∧ pv ≤ 63)) ∧ ps.length ≤ 16 ∧ (∀ x ∈ ps, 0 ≤ x ∧ x ≤ 65535) from ⟨by omega, hl, (anyP ps).1 ha⟩)
        have HA := Lib.hid ha
        clear ha hpv
        go_enter Try.func19, Try.ntmps19
        go_wp2_with (go_at_call 31; refine (hasI_any _ ps _ (HP.out _) (by omega)).mono ?_; rintro e w' ⟨rfl, rfl⟩; rw [HA.out])
        go_ret
        exact RPost.yes HX.out (HB.out _)
      · have HX := Lib.hid (show ¬ ((pv = 0 ∨ (60 ≤ pv ∧ pv ≤ 63)) ∧ ps.length ≤ 16 ∧ (∀ x ∈ ps, 0 ≤ x ∧ x ≤ 65535)) from fun h => by rw [(anyP ps).2 h.2.2] at ha; cases ha)
        have HA := Lib.hid ha
        clear ha hpv
        go_enter Try.func19, Try.ntmps19
        go_wp2_with (go_at_call 31; refine (hasI_any _ ps _ (HP.out _) (by omega)).mono ?_; rintro e w' ⟨rfl, rfl⟩; rw [HA.out])
        go_ret
        exact RPost.no HX.out (HB.out _)
    · have dl : decide ((ps.length : Int) ≤ 16) = false := by simp; omega
      have HX := Lib.hid (show ¬ ((pv = 0 ∨ (60 ≤ pv ∧ pv ≤ 63)) ∧ ps.length ≤ 16 ∧ (∀ x ∈ ps, 0 ≤ x ∧ x ≤ 65535)) from fun h => hl h.2.1)
      clear hl hpv
      go_enter Try.func19, Try.ntmps19
      go_wp2
      go_ret
      exact RPost.no HX.out (HB.out _)
  · have e0 : ((pv : Int) == 0) = false := beq_eq_false_iff_ne.2 (by omega)
    by_cases h60 : 60 ≤ pv
    · have e1 : (60 : Int) ≤ (pv : Int) := by omega
      by_cases h63 : pv ≤ 63
      · have e2 : (pv : Int) ≤ 63 := by omega
        by_cases hl : ps.length ≤ 16
        · have dl : (ps.length : Int) ≤ 16 := by omega
          cases ha : ps.any fun x => badP x
          · have HX := Lib.hid (show (pv = 0 ∨ (60 ≤ pv ∧ pv ≤ 63)) ∧ ps.length ≤ 16 ∧ (∀ x ∈ ps, 0 ≤ x ∧ x ≤ 65535) from ⟨by omega, hl, (anyP ps).1 ha⟩)
            have HA := Lib.hid ha
            clear ha hpv
            go_enter Try.func19, Try.ntmps19
            go_wp2_with (go_at_call 31; refine (hasI_any _ ps _ (HP.out _) (by omega)).mono ?_; rintro e w' ⟨rfl, rfl⟩; rw [HA.out])
            go_ret
            exact RPost.yes HX.out (HB.out _)
          · have HX := Lib.hid (show ¬ ((pv = 0 ∨ (60 ≤ pv ∧ pv ≤ 63)) ∧ ps.length ≤ 16 ∧ (∀ x ∈ ps, 0 ≤ x ∧ x ≤ 65535)) from fun h => by rw [(anyP ps).2 h.2.2] at ha; cases ha)
            have HA := Lib.hid ha
            clear ha hpv
            go_enter Try.func19, Try.ntmps19
            go_wp2_with (go_at_call 31; refine (hasI_any _ ps _ (HP.out _) (by omega)).mono ?_; rintro e w' ⟨rfl, rfl⟩; rw [HA.out])
            go_ret
            exact RPost.no HX.out (HB.out _)
        · have dl : decide ((ps.length : Int) ≤ 16) = false := by simp; omega
          have HX := Lib.hid (show ¬ ((pv = 0 ∨ (60 ≤ pv ∧ pv ≤ 63)) ∧ ps.length ≤ 16 ∧ (∀ x ∈ ps, 0 ≤ x ∧ x ≤ 65535)) from fun h => hl h.2.1)
          clear hl hpv
          go_enter Try.func19, Try.ntmps19
          go_wp2
          go_ret
          exact RPost.no HX.out (HB.out _)
      · have e2 : decide ((pv : Int) ≤ 63) = false := by simp; omega
        have HX := Lib.hid (show ¬ ((pv = 0 ∨ (60 ≤ pv ∧ pv ≤ 63)) ∧ ps.length ≤ 16 ∧ (∀ x ∈ ps, 0 ≤ x ∧ x ≤ 65535)) from fun h => by have := h.1; omega)
        clear hpv
        go_enter Try.func19, Try.ntmps19
        go_wp2
        go_ret
        exact RPost.no HX.out (HB.out _)
    · have e1 : decide ((60 : Int) ≤ (pv : Int)) = false := by simp; omega
      have HX := Lib.hid (show ¬ ((pv = 0 ∨ (60 ≤ pv ∧ pv ≤ 63)) ∧ ps.length ≤ 16 ∧ (∀ x ∈ ps, 0 ≤ x ∧ x ≤ 65535)) from fun h => by have := h.1; omega)
      clear hpv
      go_enter Try.func19, Try.ntmps19
      go_wp2
      go_ret
      exact RPost.no HX.out (HB.out _)
set_option maxHeartbeats 1000000 in
theorem rightParams_5 (vp vi vu : Value) (m : Int) (pv : Nat) (ps : List Int) (is us : List UInt8) (S : Nat → Prop) (w : World) (hp : SL vI w S vp ps) (hi : SL vB w S vi is) (hu : SL vB w S vu us) (hS : ∀ x, S x → x < w.heap.size) (hm : m = 5) : Calls Try.prog 19 #[.agg #[.int .i64 m, .int .u8 (pv : Int), vp, vi, vu]] w (RPost ((pv = 0 ∨ (60 ≤ pv ∧ pv ≤ 63)) ∧ ps.length ≤ 16 ∧ (∀ x ∈ ps, 0 ≤ x ∧ x ≤ 65535)) w) := by
  have HP : Hid (∀ o, IS (w.alloc o) (w.alloc o).heap.size vp ps) := fun o => ((hp.is hS).alloc (Nat.le_refl _) o).more (by simp)
  have HI : Hid (∀ o, BS (w.alloc o) (w.alloc o).heap.size vi is) := fun o => ((hi.bs hS).alloc (Nat.le_refl _) o).more (by simp)
  have HU : Hid (∀ o, BS (w.alloc o) (w.alloc o).heap.size vu us) := fun o => ((hu.bs hS).alloc (Nat.le_refl _) o).more (by simp)
  obtain ⟨Ap, cp, rfl, p1, p2⟩ := hp.form
  obtain ⟨Ai, ci, rfl, i1, i2⟩ := hi.form
  obtain ⟨Au, cu, rfl, u1, u2⟩ := hu.form
  clear hp hi hu hS
  have HB : Hid (∀ o, Below w.heap.size w (w.alloc o)) := fun o => (Below.refl _ _).alloc (Nat.le_refl _) o
  have m4 : (m == 4) = false := beq_eq_false_iff_ne.2 (by omega)
  have m5 : (m == 5) = true := beq_iff_eq.2 (by omega)
  clear hm
  by_cases hpv : pv = 0
  · have e0 : ((pv : Int) == 0) = true := beq_iff_eq.2 (by omega)
    by_cases hl : ps.length ≤ 16
    · have dl : (ps.length : Int) ≤ 16 := by omega
      cases ha : ps.any fun x => badP x
      · have HX := Lib.hid (show (pv = 0 ∨ (60 ≤ pv ∧ pv ≤ 63)) ∧ ps.length ≤ 16 ∧ (∀ x ∈ ps, 0 ≤ x ∧ x ≤ 65535) from ⟨by omega, hl, (anyP ps).1 ha⟩)
        have HA := Lib.hid ha
        clear ha hpv
        go_enter Try.func19, Try.ntmps19
        go_wp2_with (go_at_call 31; refine (hasI_any _ ps _ (HP.out _) (by omega)).mono ?_; rintro e w' ⟨rfl, rfl⟩; rw [HA.out])
        go_ret
        exact RPost.yes HX.out (HB.out _)
      · have HX := Lib.hid (show ¬ ((pv = 0 ∨ (60 ≤ pv ∧ pv ≤ 63)) ∧ ps.length ≤ 16 ∧ (∀ x ∈ ps, 0 ≤ x ∧ x ≤ 65535)) from fun h => by rw [(anyP ps).2 h.2.2] at ha; cases ha)
        have HA := Lib.hid ha
        clear ha hpv
        go_enter Try.func19, Try.ntmps19
        go_wp2_with (go_at_call 31; refine (hasI_any _ ps _ (HP.out _) (by omega)).mono ?_; rintro e w' ⟨rfl, rfl⟩; rw [HA.out])
        go_ret
        exact RPost.no HX.out (HB.out _)
    · have dl : decide ((ps.length : Int) ≤ 16) = false := by simp; omega
      have HX := Lib.hid (show ¬ ((pv = 0 ∨ (60 ≤ pv ∧ pv ≤ 63)) ∧ ps.length ≤ 16 ∧ (∀ x ∈ ps, 0 ≤ x ∧ x ≤ 65535)) from fun h => hl h.2.1)
      clear hl hpv
      go_enter Try.func19, Try.ntmps19
      go_wp2
      go_ret
      exact RPost.no HX.out (HB.out _)
  · have e0 : ((pv : Int) == 0) = false := beq_eq_false_iff_ne.2 (by omega)
    by_cases h60 : 60 ≤ pv
    · have e1 : (60 : Int) ≤ (pv : Int) := by omega
      by_cases h63 : pv ≤ 63
      · have e2 : (pv : Int) ≤ 63 := by omega
        by_cases hl : ps.length ≤ 16
        · have dl : (ps.length : Int) ≤ 16 := by omega
          cases ha : ps.any fun x => badP x
          · have HX := Lib.hid (show (pv = 0 ∨ (60 ≤ pv ∧ pv ≤ 63)) ∧ ps.length ≤ 16 ∧ (∀ x ∈ ps, 0 ≤ x ∧ x ≤ 65535) from ⟨by omega, hl, (anyP ps).1 ha⟩)
            have HA := Lib.hid ha
            clear ha hpv
            go_enter Try.func19, Try.ntmps19
            go_wp2_with (go_at_call 31; refine (hasI_any _ ps _ (HP.out _) (by omega)).mono ?_; rintro e w' ⟨rfl, rfl⟩; rw [HA.out])
            go_ret
            exact RPost.yes HX.out (HB.out _)
          · have HX := Lib.hid (show ¬ ((pv = 0 ∨ (60 ≤ pv ∧ pv ≤ 63)) ∧ ps.length ≤ 16 ∧ (∀ x ∈ ps, 0 ≤ x ∧ x ≤ 65535)) from fun h => by rw [(anyP ps).2 h.2.2] at ha; cases ha)
            have HA := Lib.hid ha
            clear ha hpv
            go_enter Try.func19, Try.ntmps19
            go_wp2_with (go_at_call 31; refine (hasI_any _ ps _ (HP.out _) (by omega)).mono ?_; rintro e w' ⟨rfl, rfl⟩; rw [HA.out])
            go_ret
            exact RPost.no HX.out (HB.out _)
        · have dl : decide ((ps.length : Int) ≤ 16) = false := by simp; omega
          have HX := Lib.hid (show ¬ ((pv = 0 ∨ (60 ≤ pv ∧ pv ≤ 63)) ∧ ps.length ≤ 16 ∧ (∀ x ∈ ps, 0 ≤ x ∧ x ≤ 65535)) from fun h => hl h.2.1)
          clear hl hpv
          go_enter Try.func19, Try.ntmps19
          go_wp2
          go_ret
          exact RPost.no HX.out (HB.out _)
      · have e2 : decide ((pv : Int) ≤ 63) = false := by simp; omega
        have HX := Lib.hid (show ¬ ((pv = 0 ∨ (60 ≤ pv ∧ pv ≤ 63)) ∧ ps.length ≤ 16 ∧ (∀ x ∈ ps, 0 ≤ x ∧ x ≤ 65535)) from fun h => by have := h.1; omega)
        clear hpv
        go_enter Try.func19, Try.ntmps19
        go_wp2
        go_ret
        exact RPost.no HX.out (HB.out _)
    · have e1 : decide ((60 : Int) ≤ (pv : Int)) = false := by simp; omega
      have HX := Lib.hid (show ¬ ((pv = 0 ∨ (60 ≤ pv ∧ pv ≤ 63)) ∧ ps.length ≤ 16 ∧ (∀ x ∈ ps, 0 ≤ x ∧ x ≤ 65535)) from fun h => by have := h.1; omega)
      clear hpv
      go_enter Try.func19, Try.ntmps19
      go_wp2
      go_ret
      exact RPost.no HX.out (HB.out _)
set_option maxHeartbeats 1000000 in
theorem rightParams_0 (vp vi vu : Value) (m : Int) (pv : Nat) (ps : List Int) (is us : List UInt8) (S : Nat → Prop) (w : World) (hp : SL vI w S vp ps) (hi : SL vB w S vi is) (hu : SL vB w S vu us) (hS : ∀ x, S x → x < w.heap.size) (hm4 : m ≠ 4) (hm5 : m ≠ 5) : Calls Try.prog 19 #[.agg #[.int .i64 m, .int .u8 (pv : Int), vp, vi, vu]] w (RPost (pv = 0 ∧ ps.length = 0) w) := by
  have HP : Hid (∀ o, IS (w.alloc o) (w.alloc o).heap.size vp ps) := fun o => ((hp.is hS).alloc (Nat.le_refl _) o).more (by simp)
  have HI : Hid (∀ o, BS (w.alloc o) (w.alloc o).heap.size vi is) := fun o => ((hi.bs hS).alloc (Nat.le_refl _) o).more (by simp)
  have HU : Hid (∀ o, BS (w.alloc o) (w.alloc o).heap.size vu us) := fun o => ((hu.bs hS).alloc (Nat.le_refl _) o).more (by simp)
  obtain ⟨Ap, cp, rfl, p1, p2⟩ := hp.form
  obtain ⟨Ai, ci, rfl, i1, i2⟩ := hi.form
  obtain ⟨Au, cu, rfl, u1, u2⟩ := hu.form
  clear hp hi hu hS
  have HB : Hid (∀ o, Below w.heap.size w (w.alloc o)) := fun o => (Below.refl _ _).alloc (Nat.le_refl _) o
  have m4 : (m == 4) = false := beq_eq_false_iff_ne.2 (by omega)
  have m5 : (m == 5) = false := beq_eq_false_iff_ne.2 (by omega)
  clear hm4 hm5
  by_cases hpv : pv = 0
  · have e0 : ((pv : Int) == 0) = true := beq_iff_eq.2 (by omega)
    by_cases hl : ps.length = 0
    · have dl : ((ps.length : Int) == 0) = true := beq_iff_eq.2 (by omega)
      have HX := Lib.hid (And.intro hpv hl)
      clear hl hpv
      go_enter Try.func19, Try.ntmps19
      go_wp2
      go_ret
      exact RPost.yes HX.out (HB.out _)
    · have dl : ((ps.length : Int) == 0) = false := beq_eq_false_iff_ne.2 (by omega)
      have HX := Lib.hid (show ¬ (pv = 0 ∧ ps.length = 0) from fun h => hl h.2)
      clear hl hpv
      go_enter Try.func19, Try.ntmps19
      go_wp2
      go_ret
      exact RPost.no HX.out (HB.out _)
  · have e0 : ((pv : Int) == 0) = false := beq_eq_false_iff_ne.2 (by omega)
    have HX := Lib.hid (show ¬ (pv = 0 ∧ ps.length = 0) from fun h => hpv h.1)
    clear hpv
    go_enter Try.func19, Try.ntmps19
    go_wp2
    go_ret
    exact RPost.no HX.out (HB.out _)
set_option maxHeartbeats 1000000 in
theorem rightInter_2 (vp vi vu : Value) (m : Int) (pv : Nat) (ps : List Int) (is us : List UInt8) (S : Nat → Prop) (w : World) (hp : SL vI w S vp ps) (hi : SL vB w S vi is) (hu : SL vB w S vu us) (hS : ∀ x, S x → x < w.heap.size) (hm : m = 2) : Calls Try.prog 20 #[.agg #[.int .i64 m, .int .u8 (pv : Int), vp, vi, vu]] w (RPost ((0 < is.length ∧ is.length ≤ 2) ∧ (∀ x ∈ is, interB x = true)) w) := by
  have HP : Hid (∀ o, IS (w.alloc o) (w.alloc o).heap.size vp ps) := fun o => ((hp.is hS).alloc (Nat.le_refl _) o).more (by simp)
  have HI : Hid (∀ o, BS (w.alloc o) (w.alloc o).heap.size vi is) := fun o => ((hi.bs hS).alloc (Nat.le_refl _) o).more (by simp)
  have HU : Hid (∀ o, BS (w.alloc o) (w.alloc o).heap.size vu us) := fun o => ((hu.bs hS).alloc (Nat.le_refl _) o).more (by simp)
  obtain ⟨Ap, cp, rfl, p1, p2⟩ := hp.form
  obtain ⟨Ai, ci, rfl, i1, i2⟩ := hi.form
  obtain ⟨Au, cu, rfl, u1, u2⟩ := hu.form
  clear hp hi hu hS
  have HB : Hid (∀ o, Below w.heap.size w (w.alloc o)) := fun o => (Below.refl _ _).alloc (Nat.le_refl _) o
  have m2 : (m == 2) = true := beq_iff_eq.2 (by omega)
  clear hm
  by_cases h0 : 0 < is.length
  · have d0 : 0 < is.length := h0
    by_cases h2 : is.length ≤ 2
    · have d2 : (is.length : Int) ≤ 2 := by omega
      cases ha : is.any fun x => badI x
      · have HX := Lib.hid (show (0 < is.length ∧ is.length ≤ 2) ∧ (∀ x ∈ is, interB x = true) from ⟨⟨h0, h2⟩, (anyI is).1 ha⟩)
        have HA := Lib.hid ha
        clear ha h0
        go_enter Try.func20, Try.ntmps20
        go_wp2_with (go_at_call 33; refine (hasB_any _ is _ (HI.out _) (by omega)).mono ?_; rintro e w' ⟨rfl, rfl⟩; rw [HA.out])
        go_ret
        exact RPost.yes HX.out (HB.out _)
      · have HX := Lib.hid (show ¬ ((0 < is.length ∧ is.length ≤ 2) ∧ (∀ x ∈ is, interB x = true)) from fun h => by rw [(anyI is).2 h.2] at ha; cases ha)
        have HA := Lib.hid ha
        clear ha h0
        go_enter Try.func20, Try.ntmps20
        go_wp2_with (go_at_call 33; refine (hasB_any _ is _ (HI.out _) (by omega)).mono ?_; rintro e w' ⟨rfl, rfl⟩; rw [HA.out])
        go_ret
        exact RPost.no HX.out (HB.out _)
    · have d2 : decide ((is.length : Int) ≤ 2) = false := by simp; omega
      have HX := Lib.hid (show ¬ ((0 < is.length ∧ is.length ≤ 2) ∧ (∀ x ∈ is, interB x = true)) from fun h => h2 h.1.2)
      clear h2 h0
      go_enter Try.func20, Try.ntmps20
      go_wp2
      go_ret
      exact RPost.no HX.out (HB.out _)
  · have d0 : decide (0 < is.length) = false := decide_eq_false h0
    have HX := Lib.hid (show ¬ ((0 < is.length ∧ is.length ≤ 2) ∧ (∀ x ∈ is, interB x = true)) from fun h => h0 h.1.1)
    clear h0
    go_enter Try.func20, Try.ntmps20
    go_wp2
    go_ret
    exact RPost.no HX.out (HB.out _)
set_option maxHeartbeats 1000000 in
theorem rightInter_5 (vp vi vu : Value) (m : Int) (pv : Nat) (ps : List Int) (is us : List UInt8) (S : Nat → Prop) (w : World) (hp : SL vI w S vp ps) (hi : SL vB w S vi is) (hu : SL vB w S vu us) (hS : ∀ x, S x → x < w.heap.size) (hm : m = 5) : Calls Try.prog 20 #[.agg #[.int .i64 m, .int .u8 (pv : Int), vp, vi, vu]] w (RPost ((0 < is.length ∧ is.length ≤ 2) ∧ (∀ x ∈ is, interB x = true)) w) := by
  have HP : Hid (∀ o, IS (w.alloc o) (w.alloc o).heap.size vp ps) := fun o => ((hp.is hS).alloc (Nat.le_refl _) o).more (by simp)
  have HI : Hid (∀ o, BS (w.alloc o) (w.alloc o).heap.size vi is) := fun o => ((hi.bs hS).alloc (Nat.le_refl _) o).more (by simp)
  have HU : Hid (∀ o, BS (w.alloc o) (w.alloc o).heap.size vu us) := fun o => ((hu.bs hS).alloc (Nat.le_refl _) o).more (by simp)
  obtain ⟨Ap, cp, rfl, p1, p2⟩ := hp.form
  obtain ⟨Ai, ci, rfl, i1, i2⟩ := hi.form
  obtain ⟨Au, cu, rfl, u1, u2⟩ := hu.form
  clear hp hi hu hS
  have HB : Hid (∀ o, Below w.heap.size w (w.alloc o)) := fun o => (Below.refl _ _).alloc (Nat.le_refl _) o
  have m2 : (m == 2) = false := beq_eq_false_iff_ne.2 (by omega)
  have m5 : (m == 5) = true := beq_iff_eq.2 (by omega)
  clear hm
  by_cases h0 : 0 < is.length
  · have d0 : 0 < is.length := h0
    by_cases h2 : is.length ≤ 2
    · have d2 : (is.length : Int) ≤ 2 := by omega
      cases ha : is.any fun x => badI x
      · have HX := Lib.hid (show (0 < is.length ∧ is.length ≤ 2) ∧ (∀ x ∈ is, interB x = true) from ⟨⟨h0, h2⟩, (anyI is).1 ha⟩)
        have HA := Lib.hid ha
        clear ha h0
        go_enter Try.func20, Try.ntmps20
        go_wp2_with (go_at_call 33; refine (hasB_any _ is _ (HI.out _) (by omega)).mono ?_; rintro e w' ⟨rfl, rfl⟩; rw [HA.out])
        go_ret
        exact RPost.yes HX.out (HB.out _)
      · have HX := Lib.hid (show ¬ ((0 < is.length ∧ is.length ≤ 2) ∧ (∀ x ∈ is, interB x = true)) from fun h => by rw [(anyI is).2 h.2] at ha; cases ha)
        have HA := Lib.hid ha
        clear ha h0
        go_enter Try.func20, Try.ntmps20
        go_wp2_with (go_at_call 33; refine (hasB_any _ is _ (HI.out _) (by omega)).mono ?_; rintro e w' ⟨rfl, rfl⟩; rw [HA.out])
        go_ret
        exact RPost.no HX.out (HB.out _)
    · have d2 : decide ((is.length : Int) ≤ 2) = false := by simp; omega
      have HX := Lib.hid (show ¬ ((0 < is.length ∧ is.length ≤ 2) ∧ (∀ x ∈ is, interB x = true)) from fun h => h2 h.1.2)
      clear h2 h0
      go_enter Try.func20, Try.ntmps20
      go_wp2
      go_ret
      exact RPost.no HX.out (HB.out _)
  · have d0 : decide (0 < is.length) = false := decide_eq_false h0
    have HX := Lib.hid (show ¬ ((0 < is.length ∧ is.length ≤ 2) ∧ (∀ x ∈ is, interB x = true)) from fun h => h0 h.1.1)
    clear h0
    go_enter Try.func20, Try.ntmps20
    go_wp2
    go_ret
    exact RPost.no HX.out (HB.out _)
set_option maxHeartbeats 1000000 in
theorem rightInter_0 (vp vi vu : Value) (m : Int) (pv : Nat) (ps : List Int) (is us : List UInt8) (S : Nat → Prop) (w : World) (hp : SL vI w S vp ps) (hi : SL vB w S vi is) (hu : SL vB w S vu us) (hS : ∀ x, S x → x < w.heap.size) (hm2 : m ≠ 2) (hm5 : m ≠ 5) : Calls Try.prog 20 #[.agg #[.int .i64 m, .int .u8 (pv : Int), vp, vi, vu]] w (RPost (is.length = 0) w) := by
  have HP : Hid (∀ o, IS (w.alloc o) (w.alloc o).heap.size vp ps) := fun o => ((hp.is hS).alloc (Nat.le_refl _) o).more (by simp)
  have HI : Hid (∀ o, BS (w.alloc o) (w.alloc o).heap.size vi is) := fun o => ((hi.bs hS).alloc (Nat.le_refl _) o).more (by simp)
  have HU : Hid (∀ o, BS (w.alloc o) (w.alloc o).heap.size vu us) := fun o => ((hu.bs hS).alloc (Nat.le_refl _) o).more (by simp)
  obtain ⟨Ap, cp, rfl, p1, p2⟩ := hp.form
  obtain ⟨Ai, ci, rfl, i1, i2⟩ := hi.form
  obtain ⟨Au, cu, rfl, u1, u2⟩ := hu.form
  clear hp hi hu hS
  have HB : Hid (∀ o, Below w.heap.size w (w.alloc o)) := fun o => (Below.refl _ _).alloc (Nat.le_refl _) o
  have m2 : (m == 2) = false := beq_eq_false_iff_ne.2 (by omega)
  have m5 : (m == 5) = false := beq_eq_false_iff_ne.2 (by omega)
  clear hm2 hm5
  by_cases hl : is.length = 0
  · have dl : ((is.length : Int) == 0) = true := beq_iff_eq.2 (by omega)
    have HX := Lib.hid hl
    clear hl
    go_enter Try.func20, Try.ntmps20
    go_wp2
    go_ret
    exact RPost.yes HX.out (HB.out _)
  · have dl : ((is.length : Int) == 0) = false := beq_eq_false_iff_ne.2 (by omega)
    have HX := Lib.hid hl
    clear hl
    go_enter Try.func20, Try.ntmps20
    go_wp2
    go_ret
    exact RPost.no HX.out (HB.out _)
end Go.Proofs.Ytbimhhcmfhooaaa

namespace Go.Proofs.Ytbimhhcmfhooaaa
open Go.RowKit
set_option linter.unusedVariables false
set_option linter.unusedSimpArgs false

def PaP (m : Int) (pv : Nat) (ps : List Int) : Prop := ((m = 4 ∨ m = 5) ∧ (pv = 0 ∨ (60 ≤ pv ∧ pv ≤ 63)) ∧ ps.length ≤ 16 ∧ (∀ x ∈ ps, 0 ≤ x ∧ x ≤ 65535)) ∨ (¬ (m = 4 ∨ m = 5) ∧ pv = 0 ∧ ps.length = 0)
def InP (m : Int) (is : List UInt8) : Prop := ((m = 2 ∨ m = 5) ∧ (0 < is.length ∧ is.length ≤ 2) ∧ (∀ x ∈ is, interB x = true)) ∨ (¬ (m = 2 ∨ m = 5) ∧ is.length = 0)
def UtP (m : Int) (us : List UInt8) : Prop := us.length = 0 ∨ m = 0 ∧ beginsL us = true
theorem RPost.iff {P Q : Prop} {w w' : World} {e : Ending} (h : RPost P w e w') (hq : P ↔ Q) : RPost Q w e w' := by
  obtain ⟨r, he, h1, h2⟩ := h
  exact ⟨r, he, h1.trans hq, h2⟩
theorem rightParams_any (vp vi vu : Value) (m : Int) (pv : Nat) (ps : List Int) (is us : List UInt8) (S : Nat → Prop) (w : World) (hp : SL vI w S vp ps) (hi : SL vB w S vi is) (hu : SL vB w S vu us) (hS : ∀ x, S x → x < w.heap.size) : Calls Try.prog 19 #[.agg #[.int .i64 m, .int .u8 (pv : Int), vp, vi, vu]] w (RPost (PaP m pv ps) w) := by
  by_cases h4 : m = 4
  · exact (rightParams_4 vp vi vu m pv ps is us S w hp hi hu hS h4).mono fun e w' h => h.iff ⟨fun h => .inl ⟨.inl h4, h⟩, fun h => h.elim (fun h => h.2) (fun h => absurd (.inl h4) h.1)⟩
  by_cases h5 : m = 5
  · exact (rightParams_5 vp vi vu m pv ps is us S w hp hi hu hS h5).mono fun e w' h => h.iff ⟨fun h => .inl ⟨.inr h5, h⟩, fun h => h.elim (fun h => h.2) (fun h => absurd (.inr h5) h.1)⟩
  · exact (rightParams_0 vp vi vu m pv ps is us S w hp hi hu hS h4 h5).mono fun e w' h => h.iff ⟨fun h => .inr ⟨fun hh => hh.elim h4 h5, h⟩, fun h => h.elim (fun h => absurd h.1 (fun hh => hh.elim h4 h5)) (fun h => h.2)⟩
theorem rightInter_any (vp vi vu : Value) (m : Int) (pv : Nat) (ps : List Int) (is us : List UInt8) (S : Nat → Prop) (w : World) (hp : SL vI w S vp ps) (hi : SL vB w S vi is) (hu : SL vB w S vu us) (hS : ∀ x, S x → x < w.heap.size) : Calls Try.prog 20 #[.agg #[.int .i64 m, .int .u8 (pv : Int), vp, vi, vu]] w (RPost (InP m is) w) := by
  by_cases h2 : m = 2
  · exact (rightInter_2 vp vi vu m pv ps is us S w hp hi hu hS h2).mono fun e w' h => h.iff ⟨fun h => .inl ⟨.inl h2, h⟩, fun h => h.elim (fun h => h.2) (fun h => absurd (.inl h2) h.1)⟩
  by_cases h5 : m = 5
  · exact (rightInter_5 vp vi vu m pv ps is us S w hp hi hu hS h5).mono fun e w' h => h.iff ⟨fun h => .inl ⟨.inr h5, h⟩, fun h => h.elim (fun h => h.2) (fun h => absurd (.inr h5) h.1)⟩
  · exact (rightInter_0 vp vi vu m pv ps is us S w hp hi hu hS h2 h5).mono fun e w' h => h.iff ⟨fun h => .inr ⟨fun hh => hh.elim h2 h5, h⟩, fun h => h.elim (fun h => absurd h.1 (fun hh => hh.elim h2 h5)) (fun h => h.2)⟩
theorem right_iff (m : Int) (pv : Nat) (ps : List Int) (is us : List UInt8) : RightP m pv ps is us ↔ (0 ≤ m ∧ m ≤ 7) ∧ UtP m us ∧ PaP m pv ps ∧ InP m is := by
  unfold RightP UtP PaP InP
  constructor
  · rintro ⟨⟨a1, a2, a3, a4, a5⟩, b1, b2, b3, b4, b5⟩
    refine ⟨⟨a1, a2⟩, ?_, ?_, ?_⟩
    · rcases Nat.eq_zero_or_pos us.length with h | h
      · exact .inl h
      · exact .inr (a5 h)
    · by_cases h : m = 4 ∨ m = 5
      · exact .inl ⟨h, b3, a3, b1⟩
      · exact .inr ⟨h, b4.elim (fun hh => absurd hh h) id⟩
    · by_cases h : m = 2 ∨ m = 5
      · exact .inl ⟨h, ⟨b5.1 h, a4⟩, b2⟩
      · refine .inr ⟨h, ?_⟩
        rcases Nat.eq_zero_or_pos is.length with hh | hh
        · exact hh
        · exact absurd (b5.2 hh) h
  · rintro ⟨⟨a1, a2⟩, hu, hp, hi⟩
    refine ⟨⟨a1, a2, ?_, ?_, ?_⟩, ?_, ?_, ?_, ?_, ?_⟩
    · rcases hp with h | h <;> omega
    · rcases hi with h | h <;> omega
    · intro h; exact hu.elim (fun h0 => by omega) id
    · rcases hp with h | h
      · exact h.2.2.2
      · have : ps = [] := List.eq_nil_of_length_eq_zero h.2.2
        rw [this]; simp
    · rcases hi with h | h
      · exact h.2.2
      · have : is = [] := List.eq_nil_of_length_eq_zero h.2
        rw [this]; simp
    · rcases hp with h | h
      · exact h.2.1
      · exact .inl h.2.1
    · rcases hp with h | h
      · exact .inl h.1
      · exact .inr h.2
    · rcases hi with h | h
      · exact ⟨fun _ => h.2.1.1, fun _ => h.1⟩
      · exact ⟨fun hh => absurd hh h.1, fun hh => by omega⟩
theorem rt {P : Prop} {f : FuncId} {x : Array Value} {w : World} (h : Calls Try.prog f x w (RPost P w)) (hp : P) : Calls Try.prog f x w fun e w' => e = .returned (.bool true) ∧ Below w.heap.size w w' := h.mono fun e w' ⟨r, he, h1, h2⟩ => ⟨by rw [he, h1.2 hp], h2⟩
theorem rf {P : Prop} {f : FuncId} {x : Array Value} {w : World} (h : Calls Try.prog f x w (RPost P w)) (hp : ¬ P) : Calls Try.prog f x w fun e w' => e = .returned (.bool false) ∧ Below w.heap.size w w' := h.mono fun e w' ⟨r, he, h1, h2⟩ => ⟨by
  cases r
  · exact he
  · exact absurd (h1.1 rfl) hp, h2⟩
/-- The box, behind a call that leaves all blocks alone. -/
theorem box_kept {w W W' : World} {o : Obj} (hz : w.heap.size < W.heap.size) (k : W.heap[w.heap.size]? = some o) (hb : Below W.heap.size W W') : W'.heap[w.heap.size]? = some o ∧ w.heap.size < W'.heap.size := ⟨(hb.block _ hz).trans k, Nat.lt_of_lt_of_le hz hb.size⟩
set_option maxHeartbeats 1000000 in
set_option maxRecDepth 100000 in
theorem vright_any (vp vi vu : Value) (m : Int) (pv : Nat) (ps : List Int) (is us : List UInt8) (S : Nat → Prop) (w : World) (hp : SL vI w S vp ps) (hi : SL vB w S vi is) (hu : SL vB w S vu us) (hS : ∀ x, S x → x < w.heap.size) (hm0 : -9223372036854775808 ≤ m) (hm7 : m ≤ 9223372036854775807) (hus : us.length ≤ 1048576) (hpv : pv < 256) :
    Calls Try.prog 9 #[.agg #[.int .i64 m, .int .u8 (pv : Int), vp, vi, vu]] w (RightPost m pv ps is us w) := by
  have HC1 : Hid (∀ W, Below w.heap.size w W → Calls Try.prog 18 #[.agg #[.int .i64 m, .int .u8 (pv : Int), vp, vi, vu]] W (RPost (UtP m us) W)) := fun W hb => rightUtf_any vp vi vu m pv ps is us S W (hp.keep (fun q hq => hb.cell (hS _ hq))) (hi.keep (fun q hq => hb.cell (hS _ hq))) (hu.keep (fun q hq => hb.cell (hS _ hq))) (fun x hx => Nat.lt_of_lt_of_le (hS x hx) hb.size) hus
  have HC2 : Hid (∀ W, Below w.heap.size w W → Calls Try.prog 19 #[.agg #[.int .i64 m, .int .u8 (pv : Int), vp, vi, vu]] W (RPost (PaP m pv ps) W)) := fun W hb => rightParams_any vp vi vu m pv ps is us S W (hp.keep (fun q hq => hb.cell (hS _ hq))) (hi.keep (fun q hq => hb.cell (hS _ hq))) (hu.keep (fun q hq => hb.cell (hS _ hq))) (fun x hx => Nat.lt_of_lt_of_le (hS x hx) hb.size)
  have HC3 : Hid (∀ W, Below w.heap.size w W → Calls Try.prog 20 #[.agg #[.int .i64 m, .int .u8 (pv : Int), vp, vi, vu]] W (RPost (InP m is) W)) := fun W hb => rightInter_any vp vi vu m pv ps is us S W (hp.keep (fun q hq => hb.cell (hS _ hq))) (hi.keep (fun q hq => hb.cell (hS _ hq))) (hu.keep (fun q hq => hb.cell (hS _ hq))) (fun x hx => Nat.lt_of_lt_of_le (hS x hx) hb.size)
  obtain ⟨Ap, cp, rfl, p1, p2⟩ := hp.form
  obtain ⟨Ai, ci, rfl, i1, i2⟩ := hi.form
  obtain ⟨Au, cu, rfl, u1, u2⟩ := hu.form
  have hri := right_iff m pv ps is us
  have HNO : Hid (¬ ((0 ≤ m ∧ m ≤ 7) ∧ UtP m us ∧ PaP m pv ps ∧ InP m is) → ∀ W, Below w.heap.size w W → RightPost m pv ps is us w (.returned (.bool false)) W) := fun h W hW => right_no (fun hr => h (hri.1 hr)) hW
  have HYES : Hid ((0 ≤ m ∧ m ≤ 7) ∧ UtP m us ∧ PaP m pv ps ∧ InP m is → ∀ W, Below w.heap.size w W → RightPost m pv ps is us w (.returned (.bool true)) W) := fun h W hW => ⟨true, rfl, by simp [hri.2 h], hW⟩
  clear hp hi hu hS hri
  have HB : Hid (∀ o, Below w.heap.size w (w.alloc o)) := fun o => (Below.refl _ _).alloc (Nat.le_refl _) o
  have HK : Hid (∀ o : Obj, (w.alloc o).heap[w.heap.size]? = some o ∧ w.heap.size < (w.alloc o).heap.size) := fun o => ⟨heap_alloc_new w o, by simp⟩
  by_cases b0 : 0 ≤ m
  · by_cases b7 : m ≤ 7
    · by_cases q1 : UtP m us
      · have HQ1 : Hid _ := fun W hW => rt (HC1.out W hW) q1
        by_cases q2 : PaP m pv ps
        · have HQ2 : Hid _ := fun W hW => rt (HC2.out W hW) q2
          by_cases q3 : InP m is
          · have HQ3 : Hid _ := fun W hW => rt (HC3.out W hW) q3
            have HX := Lib.hid (HYES.out ⟨⟨b0, b7⟩, q1, q2, q3⟩)
            clear q1 q2 q3
            go_enter Try.func9, Try.ntmps9
            go_wp2_with (first
              | (go_at_call 18; go_loud (refine (HQ1.out _ (HB.out _)).mono ?_; rintro e w1 ⟨rfl, hb⟩; have HB1 := Lib.hid ((HB.out _).trans (hb.mono (HB.out _).size)); have HK1 := Lib.hid (box_kept (HK.out _).2 (HK.out _).1 hb); obtain ⟨c0, c1, c2, c3, c4, cf⟩ := five_cells HK1.out.1; clear hb))
              | (go_at_call 19; go_loud (refine (HQ2.out _ HB1.out).mono ?_; rintro e w2 ⟨rfl, hb⟩; have HB2 := Lib.hid (HB1.out.trans (hb.mono HB1.out.size)); have HK2 := Lib.hid (box_kept (HK1.out).2 (HK1.out).1 hb); obtain ⟨c0, c1, c2, c3, c4, cf⟩ := five_cells HK2.out.1; clear hb))
              | (go_at_call 20; go_loud (refine (HQ3.out _ HB2.out).mono ?_; rintro e w3 ⟨rfl, hb⟩; have HB3 := Lib.hid (HB2.out.trans (hb.mono HB2.out.size)); have HK3 := Lib.hid (box_kept (HK2.out).2 (HK2.out).1 hb); obtain ⟨c0, c1, c2, c3, c4, cf⟩ := five_cells HK3.out.1; clear hb)))
            go_ret
            exact HX.out _ HB3.out
          · have HQ3 : Hid _ := fun W hW => rf (HC3.out W hW) q3
            have HX := Lib.hid (HNO.out (fun h => q3 h.2.2.2))
            clear q1 q2 q3
            go_enter Try.func9, Try.ntmps9
            go_wp2_with (first
              | (go_at_call 18; go_loud (refine (HQ1.out _ (HB.out _)).mono ?_; rintro e w1 ⟨rfl, hb⟩; have HB1 := Lib.hid ((HB.out _).trans (hb.mono (HB.out _).size)); have HK1 := Lib.hid (box_kept (HK.out _).2 (HK.out _).1 hb); obtain ⟨c0, c1, c2, c3, c4, cf⟩ := five_cells HK1.out.1; clear hb))
              | (go_at_call 19; go_loud (refine (HQ2.out _ HB1.out).mono ?_; rintro e w2 ⟨rfl, hb⟩; have HB2 := Lib.hid (HB1.out.trans (hb.mono HB1.out.size)); have HK2 := Lib.hid (box_kept (HK1.out).2 (HK1.out).1 hb); obtain ⟨c0, c1, c2, c3, c4, cf⟩ := five_cells HK2.out.1; clear hb))
              | (go_at_call 20; go_loud (refine (HQ3.out _ HB2.out).mono ?_; rintro e w3 ⟨rfl, hb⟩; have HB3 := Lib.hid (HB2.out.trans (hb.mono HB2.out.size)); have HK3 := Lib.hid (box_kept (HK2.out).2 (HK2.out).1 hb); obtain ⟨c0, c1, c2, c3, c4, cf⟩ := five_cells HK3.out.1; clear hb)))
            go_ret
            exact HX.out _ HB3.out
        · have HQ2 : Hid _ := fun W hW => rf (HC2.out W hW) q2
          have HX := Lib.hid (HNO.out (fun h => q2 h.2.2.1))
          clear q1 q2
          go_enter Try.func9, Try.ntmps9
          go_wp2_with (first
            | (go_at_call 18; go_loud (refine (HQ1.out _ (HB.out _)).mono ?_; rintro e w1 ⟨rfl, hb⟩; have HB1 := Lib.hid ((HB.out _).trans (hb.mono (HB.out _).size)); have HK1 := Lib.hid (box_kept (HK.out _).2 (HK.out _).1 hb); obtain ⟨c0, c1, c2, c3, c4, cf⟩ := five_cells HK1.out.1; clear hb))
            | (go_at_call 19; go_loud (refine (HQ2.out _ HB1.out).mono ?_; rintro e w2 ⟨rfl, hb⟩; have HB2 := Lib.hid (HB1.out.trans (hb.mono HB1.out.size)); have HK2 := Lib.hid (box_kept (HK1.out).2 (HK1.out).1 hb); obtain ⟨c0, c1, c2, c3, c4, cf⟩ := five_cells HK2.out.1; clear hb)))
          go_ret
          exact HX.out _ HB2.out
      · have HQ1 : Hid _ := fun W hW => rf (HC1.out W hW) q1
        have HX := Lib.hid (HNO.out (fun h => q1 h.2.1))
        clear q1
        go_enter Try.func9, Try.ntmps9
        go_wp2_with (first
          | (go_at_call 18; go_loud (refine (HQ1.out _ (HB.out _)).mono ?_; rintro e w1 ⟨rfl, hb⟩; have HB1 := Lib.hid ((HB.out _).trans (hb.mono (HB.out _).size)); have HK1 := Lib.hid (box_kept (HK.out _).2 (HK.out _).1 hb); obtain ⟨c0, c1, c2, c3, c4, cf⟩ := five_cells HK1.out.1; clear hb)))
        go_ret
        exact HX.out _ HB1.out
    · have d7 : decide (m ≤ 7) = false := decide_eq_false b7
      have HX := Lib.hid (HNO.out (fun h => b7 h.1.2))
      clear b7
      go_enter Try.func9, Try.ntmps9
      go_wp2
      go_ret
      exact HX.out _ (HB.out _)
  · have d0 : decide (0 ≤ m) = false := decide_eq_false b0
    have HX := Lib.hid (HNO.out (fun h => b0 h.1.1))
    clear b0
    go_enter Try.func9, Try.ntmps9
    go_wp2
    go_ret
    exact HX.out _ (HB.out _)
end Go.Proofs.Ytbimhhcmfhooaaa

namespace Go.Proofs.Ytbimhhcmfhooaaa
open Go.RowKit
set_option linter.unusedVariables false

/-- append of a string's bytes onto a row of bytes of the call's own, for the walk. -/
theorem wpl_appZ (w : World) {ops : Array Oper} {rest : List Oper} {o : Oper} {a : Act} {Q : Exit → Act → World → Prop} (hgd : o.guard = none) (s x : Operand)
    (ho : o.op = .call { callee := .builtin .append, args := #[s, x], argTypes := #[22, 9] })
    (base : Nat) (v : Value) (l : List UInt8) (m : ByteArray) (hs : a.eval s = v) (hx : a.eval x = .string m) (hown : OB w base v l) (hlen : l.length + m.size ≤ 1099511627776) (hbase : base ≤ w.heap.size)
    (h : ∀ v' w', OB w' base v' (l ++ m.data.toList) → w.grownBy w' v.ownBlock → Below base w w' → wpList Try.prog ops Q rest (a.put o.dst v') w') :
    wpList Try.prog ops Q (o :: rest) a w := by
  obtain ⟨i0, hi0, hz0, hz1, hz2⟩ := info_parts byteInfo
  have hlt := World.ownsRow.lt hown
  refine Lib.wpList_append_own_string w hgd s x 22 9 ho base 5 i0 Try.underlying22 Try.underlying9 hi0 hz0 hz1 hz2 v l.length (vBs l) hs hown m hx (by simp only [maxLen]; omega) (by omega) hbase ?_
  intro v' w' h1 h2 _
  refine h v' w' ?_ h2 ((Below.refl _ _).grown h2 hbase (fun k hk => (hlt k hk).1))
  unfold OB
  have e1 : (l ++ m.data.toList).length = l.length + m.size := by simp
  have e2 : vBs (l ++ m.data.toList) = vBs l ++ Lib.strCells m := by simp [vBs, vB, Lib.strCells]
  rw [e1, e2]
  exact h1

def SomeB (l : List UInt8) (w : World) (e : Ending) (w' : World) : Prop := ∃ v m, e = .returned v ∧ OB w' w.heap.size v m ∧ m.length ≤ 20 * l.length ∧ Below w.heap.size w w'
def SomeBRel (l : List UInt8) (B : Nat) (w1 : World) (o i : Value) (wr : World) : Prop :=
  ∃ (k : Nat) (m : List UInt8), k ≤ l.length ∧ i = .int .i64 (k : Int) ∧ m.length ≤ 20 * k ∧ OB wr (B + 1) o m ∧ Below (B + 1) w1 wr
def shortS : Option Value → Bool
  | some (.string s) => decide (s.size ≤ 20)
  | _ => false
theorem shortS_ex {x : Option Value} (h : shortS x = true) : ∃ s : ByteArray, s.size ≤ 20 ∧ x = some (.string s) := by
  unfold shortS at h
  split at h
  · exact ⟨_, by simpa using h, rfl⟩
  · cases h
theorem short_lt {n : Nat} {f : Nat → Bool} (h : (List.range n).all f = true) : ∀ j, j < n → f j = true := fun j hj => List.all_eq_true.1 h j (List.mem_range.2 hj)
theorem short_all {cs : List (Option Value)} (h : cs.all shortS = true) : ∀ x ∈ cs, ∃ s : ByteArray, s.size ≤ 20 ∧ x = some (.string s) := fun x hx => shortS_ex (List.all_eq_true.1 h x hx)
set_option maxHeartbeats 2000000 in
set_option maxRecDepth 100000 in
theorem seatBytes_any (v : Value) (l : List UInt8) (w : World) (hv : BS w w.heap.size v l) (hl : l.length ≤ 1048576) : Calls Try.prog 12 #[v] w (SomeB l w) := by
  obtain ⟨A, cp, rfl, g1, g2, _⟩ := hv.at_
  unfold maxLen at g2
  go_enter Try.func12, Try.ntmps12
  go_wp2
  generalize hO : Obj.cells _ 9 _ = O
  have hC : ∀ j, j < 69 → ∃ s : ByteArray, s.size ≤ 20 ∧ (w.alloc O).cell? ⟨w.heap.size, j, none⟩ = some (.string s) := by
    subst hO
    intro j hj
    rw [World.cell?_alloc_new]
    refine shortS_ex ?_
    revert j
    refine short_lt (n := 69) (f := fun j => shortS _) ?_
    kernel_rfl
  clear hO
  have hB1 : Below w.heap.size w (w.alloc O) := (Below.refl _ _).alloc (Nat.le_refl _) _
  have hs1 : (w.alloc O).heap.size = w.heap.size + 1 := by simp
  have hv1 := hv.below hB1
  generalize w.alloc O = W1 at *
  go_loopw [4, 5] (fun o i wr => SomeBRel l w.heap.size W1 o i wr) (fun _ i _ => l.length - (intOf i).toNat)
  case atStart => exact ⟨0, [], Nat.zero_le _, rfl, by simp, OB.nil _ _, Below.refl _ _⟩
  case round =>
    obtain ⟨k, m, hk, rfl, hm, ho, hbel⟩ := hrel
    by_cases hlt : k < l.length
    · have hz := hbel.size
      obtain ⟨ad, rfl, hc⟩ := (hv1.below (hbel.mono (Nat.le_succ _))).cellC k hlt
      have hbl := (l[k]).toNat_lt
      unfold vB at hc
      generalize l[k].toNat = b at *
      obtain ⟨j, hj⟩ : ∃ j, b % 69 = j := ⟨_, rfl⟩
      have hj17 : j < 69 := by omega
      obtain ⟨s, hsz, hcs⟩ := hC j hj17
      have hcs2 : wr.cell? ⟨w.heap.size, j, none⟩ = some (.string s) := (hbel.cell (p := ⟨w.heap.size, j, none⟩) (Nat.lt_succ_self _)).trans hcs
      have e1 : (b : Int) % 69 = (j : Int) := by omega
      have HO := Lib.hid ho
      have hj1 : (j : Int) < 69 := by omega
      clear hv ho hC hv1 hcs hj
      go_wp2_with (first
        | (at_builtin; refine wpl_appZ _ rfl (.tmp 13) (.tmp 24) rfl (w.heap.size + 1) _ _ s rfl rfl HO.out (by omega) (by omega) ?_; intro v3 w3 ho3 hg3 hbel3))
      go_roundw
      case rel => exact ⟨k + 1, m ++ s.data.toList, hlt, by go_num, by simp; omega, ho3, hbel.trans hbel3⟩
      case measure => simp [intOf]; omega
    · obtain rfl : k = l.length := by omega
      clear hv hC hv1
      go_wp2
      go_ret
      exact ⟨_, m, rfl, World.ownsRow.mono ho (Nat.le_succ _), hm, hB1.trans (hbel.mono (Nat.le_succ _))⟩
end Go.Proofs.Ytbimhhcmfhooaaa

namespace Go.Proofs.Ytbimhhcmfhooaaa
open Go.RowKit
set_option linter.unusedVariables false

theorem place_any (k n : Int) (w : World) (k0 : -9223372036854775808 ≤ k) (k1 : k ≤ 9223372036854775807) (n0 : 0 < n) (n1 : n ≤ 4294967296) :
    Calls Try.prog 23 #[.int .i64 k, .int .i64 n] w fun e w' => e = .returned (.int .i64 (k % n)) ∧ w = w' := by
  obtain ⟨t, ht⟩ : ∃ t, k.tmod n = t := ⟨_, rfl⟩
  have hb : -n < t ∧ t < n := by
    rw [← ht]
    have h1 := Int.emod_nonneg k (show n ≠ 0 by omega)
    have h2 := Int.emod_lt_of_pos k n0
    have h3 := Int.tmod_lt_of_pos k n0
    have h4 := Int.lt_tmod_of_pos k n0
    omega
  have hp : k % n = if t < 0 then t + n else t := by
    have e1 : t % n = k % n := by rw [← ht, Int.tmod_def, Int.sub_mul_emod_self_left]
    rw [← e1]
    split
    · rw [← Int.add_emod_right, Int.emod_eq_of_lt (by omega) (by omega)]
    · exact Int.emod_eq_of_lt (by omega) (by omega)
  have hw : (IntKind.i64).wrap t = t := by rw [IntKind.wrap_i64]; omega
  rw [hp]
  clear hp
  have hn0 : (n == 0) = false := beq_eq_false_iff_ne.2 (by omega)
  by_cases h : t < 0
  · rw [if_pos h]
    go_enter Try.func23, Try.ntmps23
    go_wp2
    go_ret
    exact ⟨by go_num, rfl⟩
  · rw [if_neg h]
    have hd : decide (t < 0) = false := by simp; omega
    go_enter Try.func23, Try.ntmps23
    go_wp2
    go_ret
    exact ⟨by go_num, rfl⟩
end Go.Proofs.Ytbimhhcmfhooaaa

namespace Go.Proofs.Ytbimhhcmfhooaaa
open Go.RowKit
set_option linter.unusedVariables false
set_option linter.unusedSimpArgs false

theorem stl_vt {w w' : World} {base : Nat} {B S : Nat → Prop} {vp vi vu av : Value} {r : Pr × List Ac} {m pv : Int} (h : StL w' base B vp vi vu av r.1.params r.1.inter r.1.utf r.2) (hbase : w.heap.size ≤ base) (hb : Below w.heap.size w w') (hm : (r.1.mode : Int) = m) (hpv : (r.1.priv : Int) = pv) : VtPost S r w (.returned (.tuple #[.agg #[.int .i64 m, .int .u8 pv, vp, vi, vu], av])) w' := by
  obtain ⟨S0, ⟨a1, a2, a3, a4⟩, h2, h3, -⟩ := h
  have hn : ∀ x, NewB w' base x → S x ∨ NewB w' w.heap.size x := fun x hx => .inr ⟨Nat.le_trans hbase hx.1, hx.2⟩
  have hs : ∀ x, S0 x → S x ∨ NewB w' w.heap.size x := fun x hx => hn x (h3 x (h2 x hx))
  subst hm
  subst hpv
  exact ⟨_, _, rfl, ⟨_, _, _, rfl, a1.sl.mono hn, a2.sl.mono hn, a3.mono hs⟩, a4.as.mono (fun x hx => ⟨Nat.le_trans hbase hx.1, hx.2⟩) hs, hb⟩
theorem stl_wset {w w5 : World} {y0 y1 y2 y3 y4 : Value} {base : Nat} {B : Nat → Prop} {vp vi vu av : Value} {ps : List Int} {is us : List UInt8} {l : List Ac} (h : StL w5 base B vp vi vu av ps is us l) (h1 : ¬ B (w.heap.size + 1)) : StL (wset w w5 y0 y1 y2 y3 y4) base B vp vi vu av ps is us l :=
  h.keep (fun x hx => wset_heap x (fun e => h1 (e ▸ hx)))
set_option maxHeartbeats 2000000 in
set_option maxRecDepth 100000 in
theorem vstep_any (vp vi vu : Value) (p : Pr) (b : UInt8) (S : Nat → Prop) (w : World) (hp : SL vI w S vp p.params) (hi : SL vB w S vi p.inter) (hu : SL vB w S vu p.utf) (hS : ∀ x, S x → x < w.heap.size) (hok : PrOk p) :
    Calls Try.prog 13 #[.agg #[.int .i64 (p.mode : Int), .int .u8 (p.priv : Int), vp, vi, vu], .int .u8 (b.toNat : Int)] w (VtPost S (vtL p b) w) := by
  have hul : p.utf.length ≤ 3 := by
    rcases hok.utf with h | ⟨_, h⟩
    · rw [h]; simp
    · exact (beginsL_len _ h).2
  have HC : Hid (∀ x y : Obj, Calls Try.prog 25 #[.agg #[.int .i64 (p.mode : Int), .int .u8 (p.priv : Int), vp, vi, vu]] ((w.alloc x).alloc y) (PPost ((w.alloc x).alloc y) ((w.alloc x).alloc y).heap.size (fun _ => False) p (.slice none 0 0) [])) := fun x y =>
    own_anyP vp vi vu p S _ (hp.keep (fun q hq => (two_new w x y).1.cell (hS _ hq))) (hi.keep (fun q hq => (two_new w x y).1.cell (hS _ hq))) (hu.keep (fun q hq => (two_new w x y).1.cell (hS _ hq))) (fun z hz => Nat.lt_of_lt_of_le (hS z hz) (two_new w x y).1.size) hok.params hok.inter hul
  have HOK := Lib.hid hok
  obtain ⟨Ap, cp, rfl, p1, p2⟩ := hp.form
  obtain ⟨Ai, ci, rfl, i1, i2⟩ := hi.form
  obtain ⟨Au, cu, rfl, u1, u2⟩ := hu.form
  clear hp hi hu hS hok
  obtain ⟨r, hr⟩ : ∃ r, vtL p b = r := ⟨_, rfl⟩
  rw [hr]
  have HR := Lib.hid hr
  clear hr
  have HN := Lib.hid (two_new w)
  go_enter Try.func13, Try.ntmps13
  go_wp2_with (first
    | (go_at_call 25; refine (HC.out _ _).mono ?_; rintro e w4 ⟨B4, A1, n1, A2, n2, A3, n3, rfl, hst, hB, hF⟩; have hb4 := hF.below (fun _ h => h.elim) (Nat.le_refl _); obtain ⟨⟨-, k1⟩, hb5, hz5⟩ := two_keptS hb4; rw [(HN.out _ _).2] at hst hB; have HK1 := Lib.hid k1; have HST := Lib.hid hst; have HB : Hid (∀ x, B4 x → w.heap.size + 1 + 1 ≤ x) := (fun x hx => (hB x hx).elim False.elim id); have HB5 := Lib.hid hb5; have HZ5 := Lib.hid hz5; clear hst hB hF hb4 k1 hb5 hz5)
    | (go_at_call 24; (with_reducible refine (stepIn_any _ _ _ _ p b [] _ B4 _ HST.out HZ5.out (by simp) HOK.out).mono ?_); rintro e w6 ⟨B6, D1, m1, D2, m2, D3, m3, Da, ma, rfl, hst, hB, hF⟩; rw [List.nil_append, HR.out] at hst ⊢; have j1 := (hF.block (w.heap.size + 1) (by have := HZ5.out; omega) (fun hb => by have := HB.out _ hb; omega)).trans HK1.out; obtain ⟨e0, e1, e2, e3, e4, ef⟩ := five_cells j1; have HB6 : Hid (Below w.heap.size w w6) := HB5.out.trans (hF.below (fun x hx => by have := HB.out x hx; omega) HB5.out.size); have HS6 := Lib.hid hst; have HN6 : Hid (¬ B6 (w.heap.size + 1)) := (fun hb => (hB _ hb).elim (fun h => by have := HB.out _ h; omega) (fun h => by have := HZ5.out; omega)); clear hst hB hF j1))
  exact bodyPost_ret (v := .tuple #[.agg #[.int .i64 (r.1.mode : Int), .int .u8 (r.1.priv : Int), .slice D1 r.1.params.length m1, .slice D2 r.1.inter.length m2, .slice D3 r.1.utf.length m3], .slice Da r.2.length ma]) (by simp [results, Try.results13, go_sem, e0, e1, e2, e3, e4]) rfl (stl_vt (stl_wset HS6.out HN6.out) (by omega) (wset_below HB6.out) rfl rfl)
theorem wsg_box {w : World} {g : Nat} {x0 x1 x2 x3 x4 y0 y1 y2 y3 y4 : Value} {t : TypeId} (h : w.heap[g]? = some (.cells #[x0, x1, x2, x3, x4] t)) : (wsg g w y0 y1 y2 y3 y4).heap[g]? = some (.cells #[y0, y1, y2, y3, y4] t) := by
  unfold wsg
  rw [heap_setCell_same _ g 4 _ _ _ (heap_setCell_same _ g 3 _ _ _ (heap_setCell_same _ g 2 _ _ _ (heap_setCell_same _ g 1 _ _ _ (heap_setCell_same _ g 0 _ _ _ h))))]
  rfl
theorem stl_wsg {w5 : World} {g : Nat} {y0 y1 y2 y3 y4 : Value} {base : Nat} {B : Nat → Prop} {vp vi vu av : Value} {ps : List Int} {is us : List UInt8} {l : List Ac} (h : StL w5 base B vp vi vu av ps is us l) (h1 : ¬ B g) : StL (wsg g w5 y0 y1 y2 y3 y4) base B vp vi vu av ps is us l :=
  h.keep (fun x hx => wsg_heap x (fun e => h1 (e ▸ hx)))
/-- At the loop's head, so many bytes have been taken. -/
def AlRel (p : Pr) (l : List UInt8) (w : World) (o i : Value) (wr : World) : Prop :=
  ∃ (k : Nat) (q : Pr) (m : List Ac) (B : Nat → Prop) (A1 : Option Addr) (n1 : Nat) (A2 : Option Addr) (n2 : Nat) (A3 : Option Addr) (n3 : Nat), k ≤ l.length ∧ i = .int .i64 (k : Int) ∧ vtAll p (l.take k) = (q, m) ∧ StL wr (w.heap.size + 1 + 1) B (.slice A1 q.params.length n1) (.slice A2 q.inter.length n2) (.slice A3 q.utf.length n3) o q.params q.inter q.utf m ∧
    wr.heap[w.heap.size]? = some (.cells #[.int .i64 (q.mode : Int), .int .u8 (q.priv : Int), .slice A1 q.params.length n1, .slice A2 q.inter.length n2, .slice A3 q.utf.length n3] 25) ∧
    wr.heap[w.heap.size + 1]? = some (.cells #[.int .i64 0, .int .u8 0, .slice none 0 0, .slice none 0 0, .slice none 0 0] 25) ∧ Below w.heap.size w wr
/-- Where a whole parser has been stored into the box. -/
theorem al_store {p q : Pr} {m : List Ac} {l : List UInt8} {w w6 : World} {k : Nat} {B : Nat → Prop} {A1 A2 A3 : Option Addr} {n1 n2 n3 : Nat} {o : Value} {x0 x1 x2 x3 x4 : Value} (hk : k ≤ l.length) (hq : vtAll p (l.take k) = (q, m)) (hst : StL w6 (w.heap.size + 1 + 1) B (.slice A1 q.params.length n1) (.slice A2 q.inter.length n2) (.slice A3 q.utf.length n3) o q.params q.inter q.utf m) (k0 : w6.heap[w.heap.size]? = some (.cells #[x0, x1, x2, x3, x4] 25))
    (k1 : w6.heap[w.heap.size + 1]? = some (.cells #[.int .i64 0, .int .u8 0, .slice none 0 0, .slice none 0 0, .slice none 0 0] 25)) (hb : Below w.heap.size w w6) :
    AlRel p l w o (.int .i64 (k : Int)) (wsg w.heap.size w6 (.int .i64 (q.mode : Int)) (.int .u8 (q.priv : Int)) (.slice A1 q.params.length n1) (.slice A2 q.inter.length n2) (.slice A3 q.utf.length n3)) :=
  ⟨k, q, m, B, A1, n1, A2, n2, A3, n3, hk, rfl, hq, stl_wsg hst (fun hb => by have := (hst.lt _ hb).1; omega), wsg_box k0, (wsg_heap _ (by omega)).trans k1, (wsg_fr (B := fun _ => False) (Fr.of hb _) (Nat.le_refl _)).below (fun _ h => h.elim) (Nat.le_refl _)⟩
set_option maxHeartbeats 2000000 in
set_option maxRecDepth 100000 in
theorem vall_any (vp vi vu : Value) (p : Pr) (v : Value) (l : List UInt8) (S : Nat → Prop) (w : World) (hp : SL vI w S vp p.params) (hi : SL vB w S vi p.inter) (hu : SL vB w S vu p.utf) (hS : ∀ x, S x → x < w.heap.size) (hok : PrOk p) (hl : BS w w.heap.size v l) (hll : l.length ≤ 1048576) :
    Calls Try.prog 17 #[.agg #[.int .i64 (p.mode : Int), .int .u8 (p.priv : Int), vp, vi, vu], v] w (VtPost S (vtAll p l) w) := by
  have hul : p.utf.length ≤ 3 := by
    rcases hok.utf with h | ⟨_, h⟩
    · rw [h]; simp
    · exact (beginsL_len _ h).2
  have HC : Hid (∀ x y : Obj, Calls Try.prog 25 #[.agg #[.int .i64 (p.mode : Int), .int .u8 (p.priv : Int), vp, vi, vu]] ((w.alloc x).alloc y) (PPost ((w.alloc x).alloc y) ((w.alloc x).alloc y).heap.size (fun _ => False) p (.slice none 0 0) [])) := fun x y =>
    own_anyP vp vi vu p S _ (hp.keep (fun q hq => (two_new w x y).1.cell (hS _ hq))) (hi.keep (fun q hq => (two_new w x y).1.cell (hS _ hq))) (hu.keep (fun q hq => (two_new w x y).1.cell (hS _ hq))) (fun z hz => Nat.lt_of_lt_of_le (hS z hz) (two_new w x y).1.size) hok.params hok.inter hul
  have HOK := Lib.hid hok
  have HV := Lib.hid hl
  obtain ⟨Ap, cp, rfl, p1, p2⟩ := hp.form
  obtain ⟨Ai, ci, rfl, i1, i2⟩ := hi.form
  obtain ⟨Au, cu, rfl, u1, u2⟩ := hu.form
  obtain ⟨Ab, cb, rfl, b1, b2, -⟩ := hl.at_
  clear hp hi hu hS hok hl
  have HN := Lib.hid (two_new w)
  go_enter Try.func17, Try.ntmps17
  go_wp2_with (go_at_call 25; refine (HC.out _ _).mono ?_; rintro e w4 ⟨B4, A1, n1, A2, n2, A3, n3, rfl, hst, hB, hF⟩; have hb4 := hF.below (fun _ h => h.elim) (Nat.le_refl _); obtain ⟨⟨k0, k1⟩, hb5, hz5⟩ := two_keptS hb4; rw [(HN.out _ _).2] at hst; have HAL := Lib.hid (al_store (p := p) (l := l) (k := 0) (Nat.zero_le _) rfl hst k0 k1 hb5); obtain ⟨c0, c1, c2, c3, c4, cf⟩ := five_cells k0; clear hst hB hF hb4 k0 k1 hb5 hz5)
  go_loopw [6, 13] (fun o i wr => AlRel p l w o i wr) (fun _ i _ => l.length - (intOf i).toNat)
  case atStart => exact HAL.out
  case round =>
    obtain ⟨k, q, m, B, D1, d1, D2, d2, D3, d3, hk, rfl, hq, hst, k0, k1, hbel⟩ := hrel
    have hz := hbel.size
    have hqok : PrOk q := by have := vtAll_ok p (l.take k) HOK.out; rw [hq] at this; exact this
    have hml : m.length ≤ 3 * l.length := by have := (vtAll_few p (l.take k) HOK.out).1; rw [hq] at this; have h2 : (l.take k).length ≤ l.length := by simp; omega
                                             simp only at this; omega
    have hz2 : w.heap.size + 1 + 1 ≤ wr.heap.size := by
      have : w.heap.size + 1 < wr.heap.size := by
        rcases Nat.lt_or_ge (w.heap.size + 1) wr.heap.size with c | c
        · exact c
        · rw [Array.getElem?_eq_none c] at k1; cases k1
      omega
    obtain ⟨c0, c1, c2, c3, c4, cf⟩ := five_cells k0
    have K0 := Lib.hid k0
    have K1 := Lib.hid k1
    have HST := Lib.hid hst
    have HQ := Lib.hid hq
    have HQOK := Lib.hid hqok
    have HBEL := Lib.hid hbel
    have HZ2 := Lib.hid hz2
    by_cases hlt : k < l.length
    · obtain ⟨ad, rfl, hc⟩ := (HV.out.below hbel).cellC k hlt
      obtain ⟨b, hb⟩ : ∃ b, l[k] = b := ⟨_, rfl⟩
      rw [hb] at hc
      have hsn : vtAll p (l.take (k + 1)) = ((vtL q b).1, m ++ (vtL q b).2) := by
        rw [List.take_succ_eq_append_getElem hlt, vtAll_snoc, hq, hb]
      unfold vB at hc
      obtain ⟨⟨r1, r2⟩, hr⟩ : ∃ r, vtL q b = r := ⟨_, rfl⟩
      rw [hr] at hsn
      have HSN := Lib.hid hsn
      have HR := Lib.hid hr
      obtain ⟨Ao, co, ho, -, -⟩ : ∃ Ao co, u6 = .slice Ao m.length co ∧ True ∧ True := by obtain ⟨_, _, _, _, _, _, Ao, co, -, -, -, e, -⟩ := hst.form; exact ⟨Ao, co, e, trivial, trivial⟩
      subst ho
      clear hst hq hqok hbel hz2 k0 k1 hb hsn hr hz
      go_wp2_with (go_at_call 24; (with_reducible refine (stepIn_any _ _ _ _ q b m _ B _ HST.out HZ2.out (by omega) HQOK.out).mono ?_); rintro e w6 ⟨B6, E1, e1, E2, e2, E3, e3, Ea, ea, rfl, hst, hB, hF⟩; rw [HR.out] at hst ⊢; have hBw : ∀ x, B x → w.heap.size + 1 + 1 ≤ x := (fun x hx => (HST.out.lt x hx).1); have j0 := (hF.block w.heap.size (by have := HZ2.out; omega) (fun hb => by have := hBw _ hb; omega)).trans K0.out; have j1 := (hF.block (w.heap.size + 1) (by have := HZ2.out; omega) (fun hb => by have := hBw _ hb; omega)).trans K1.out; have HAL := Lib.hid (al_store (p := p) (l := l) (k := k + 1) hlt HSN.out hst j0 j1 (HBEL.out.trans (hF.below (fun x hx => by have := hBw x hx; omega) HBEL.out.size))); obtain ⟨f0, f1, f2, f3, f4, ff⟩ := five_cells j0; clear hst hB hF j0 j1 hBw)
      go_roundw
      case rel => have h := HAL.out; rw [List.length_append, show ((k + 1 : Nat) : Int) = (k : Int) + 1 from rfl] at h; exact h
      case measure => simp [intOf]; omega
    · obtain rfl : k = l.length := by omega
      rw [List.take_length] at hq
      obtain ⟨e0, e1, e2, e3, e4, ef⟩ := five_cells k1
      obtain ⟨Ao, co, ho, -, -⟩ : ∃ Ao co, u6 = .slice Ao m.length co ∧ True ∧ True := by obtain ⟨_, _, _, _, _, _, Ao, co, -, -, -, e, -⟩ := hst.form; exact ⟨Ao, co, e, trivial, trivial⟩
      subst ho
      have HPO : Hid (VtPost S (vtAll p l) w (.returned (.tuple #[.agg #[.int .i64 (q.mode : Int), .int .u8 (q.priv : Int), .slice D1 q.params.length d1, .slice D2 q.inter.length d2, .slice D3 q.utf.length d3], .slice Ao m.length co])) (wset w wr (.int .i64 (q.mode : Int)) (.int .u8 (q.priv : Int)) (.slice D1 q.params.length d1) (.slice D2 q.inter.length d2) (.slice D3 q.utf.length d3))) := by
        rw [hq]
        exact stl_vt (r := (q, m)) (stl_wset hst (fun hb => by have := (hst.lt _ hb).1; omega)) (by omega) (wset_below hbel) rfl rfl
      clear hst hq hqok hbel hz2 k0 k1 hz
      go_wp2
      exact bodyPost_ret (v := .tuple #[.agg #[.int .i64 (q.mode : Int), .int .u8 (q.priv : Int), .slice D1 q.params.length d1, .slice D2 q.inter.length d2, .slice D3 q.utf.length d3], .slice Ao m.length co]) (by simp [results, Try.results17, go_sem, e0, e1, e2, e3, e4]) rfl HPO.out
end Go.Proofs.Ytbimhhcmfhooaaa
