/- What is proved here: parts of the proofs of the laws of layer 10. -/
import Derived.Test.YthncoigjfhmldaaGreatS19
import Derived.Test.YthncoigjfhmldaaGreatS1
import Derived.Deep.CutRange
import Derived.Laws.Cover3
import Derived.Test.YthncoigjfhmldaaGreatS8
namespace Go.Proofs.YthncoigjfhmldaaGreat
open Go.RowKit
set_option linter.unusedVariables false
set_option linter.unusedSimpArgs false
set_option maxHeartbeats 1000000
set_option maxRecDepth 100000
def badP (x : Int) : Bool := !decide (0 ≤ x ∧ x ≤ 65535)
def badI (x : UInt8) : Bool := !interB x
theorem noParam_bad (n : Int) (w : World) : Calls Tryz.prog 117 #[.int .i64 n] w fun e w' => e = .returned (.bool (badP n)) ∧ w = w' := noParam_any n w
theorem noInter_bad (b : UInt8) (w : World) : Calls Tryz.prog 119 #[.int .u8 (b.toNat : Int)] w fun e w' => e = .returned (.bool (badI b)) ∧ w = w' := noInter_any b w
def NoneRel {α : Type} (P : α → Bool) (l : List α) (w : World) (i : Value) (wr : World) : Prop := ∃ k : Nat, k ≤ l.length ∧ i = .int .i64 (k : Int) ∧ (∀ x ∈ l.take k, P x = false) ∧ w = wr
theorem idxI_any (v : Value) (l : List Int) (w : World) (hv : IS w w.heap.size v l) (hl : l.length ≤ 1048576) : Calls Tryz.prog 130 #[v, .func (.func 117) #[] #[]] w fun e w' => ∃ k : Int, e = .returned (.int .i64 k) ∧ (decide (0 ≤ k) = l.any fun x => badP x) ∧ w = w' := by
 have HV := Lib.hid hv
 obtain ⟨A, c, rfl, g1, g2, g3⟩ := hv.at_
 unfold maxLen at g2
 clear hv
 go_enter Tryz.func130, Tryz.ntmps130
 go_wp2
 go_loopw [8] (fun i wr => NoneRel (fun x => badP x) l w i wr) (fun i _ => l.length - (intOf i).toNat)
 case atStart => exact ⟨0, Nat.zero_le _, rfl, by simp, rfl⟩
 case round =>
  obtain ⟨k, hk, rfl, hn, rfl⟩ := hrel
  have HN := Lib.hid hn
  clear hn
  by_cases hlt : k < l.length
  ·obtain ⟨ad, rfl, hc⟩ := g3 k hlt
   obtain ⟨x, hx⟩ : ∃ x, l[k] = x := ⟨_, rfl⟩
   rw [hx] at hc
   unfold vI at hc
   have hX : l[k]? = some x := by rw [List.getElem?_eq_getElem hlt, hx]
   have HX := Lib.hid hX
   clear hx g3 hX
   have HC : Hid _ := fun (w : World) => noParam_bad x w
   cases ht : badP x
   all_goals rw [ht] at HC
   all_goals have HT := Lib.hid ht
   all_goals clear ht
   rotate_left 0
   ·go_wp2_with (go_at_call 117; refine (HC.out _).mono ?_; rintro e w' ⟨rfl, rfl⟩)
    go_roundw
    case rel =>
     refine ⟨k + 1, hlt, by go_num, fun y hy => ?_, rfl⟩
     rw [List.take_succ_eq_append_getElem hlt, List.mem_append, List.mem_singleton] at hy
     rcases hy with hy | hy
     ·exact HN.out y hy
     ·have : x = l[k] := (List.getElem?_eq_some_iff.1 HX.out).2.symm
      rw [hy, ← this]; exact HT.out
    case measure => simp [intOf]; omega
   ·go_wp2_with (go_at_call 117; refine (HC.out _).mono ?_; rintro e w' ⟨rfl, rfl⟩)
    go_ret
    refine ⟨(k : Int), rfl, ?_, rfl⟩
    rw [decide_eq_true (by omega)]
    exact (List.any_eq_true.2 ⟨x, List.mem_of_getElem? HX.out, HT.out⟩).symm
  ·obtain rfl : k = l.length := by omega
   rw [List.take_length] at HN
   clear g3
   go_wp2
   go_ret
   refine ⟨-1, rfl, ?_, rfl⟩
   rw [decide_eq_false (by omega)]
   exact (List.any_eq_false.2 fun x hx => by rw [HN.out x hx]; simp).symm
theorem hasI_any (v : Value) (l : List Int) (w : World) (hv : IS w w.heap.size v l) (hl : l.length ≤ 1048576) : Calls Tryz.prog 116 #[v, .func (.func 117) #[] #[]] w fun e w' => e = .returned (.bool (l.any fun x => badP x)) ∧ w = w' := by
 have HC := Lib.hid (idxI_any v l w hv hl)
 obtain ⟨A, c, rfl, g1, g2, g3⟩ := hv.at_
 clear hv g3
 go_enter Tryz.func116, Tryz.ntmps116
 go_wp2_with (go_at_call 130; refine HC.out.mono ?_; rintro e w' ⟨k, rfl, hk, rfl⟩; have HK := Lib.hid hk; clear hk)
 go_ret
 exact ⟨congrArg (fun t => Ending.returned (.bool t)) HK.out, rfl⟩
theorem idxB_any (v : Value) (l : List UInt8) (w : World) (hv : BS w w.heap.size v l) (hl : l.length ≤ 1048576) : Calls Tryz.prog 131 #[v, .func (.func 119) #[] #[]] w fun e w' => ∃ k : Int, e = .returned (.int .i64 k) ∧ (decide (0 ≤ k) = l.any fun x => badI x) ∧ w = w' := by
 have HV := Lib.hid hv
 obtain ⟨A, c, rfl, g1, g2, g3⟩ := hv.at_
 unfold maxLen at g2
 clear hv
 go_enter Tryz.func131, Tryz.ntmps131
 go_wp2
 go_loopw [8] (fun i wr => NoneRel (fun x => badI x) l w i wr) (fun i _ => l.length - (intOf i).toNat)
 case atStart => exact ⟨0, Nat.zero_le _, rfl, by simp, rfl⟩
 case round =>
  obtain ⟨k, hk, rfl, hn, rfl⟩ := hrel
  have HN := Lib.hid hn
  clear hn
  by_cases hlt : k < l.length
  ·obtain ⟨ad, rfl, hc⟩ := g3 k hlt
   obtain ⟨x, hx⟩ : ∃ x, l[k] = x := ⟨_, rfl⟩
   rw [hx] at hc
   unfold vB at hc
   have hX : l[k]? = some x := by rw [List.getElem?_eq_getElem hlt, hx]
   have HX := Lib.hid hX
   clear hx g3 hX
   have HC : Hid _ := fun (w : World) => noInter_bad x w
   cases ht : badI x
   all_goals rw [ht] at HC
   all_goals have HT := Lib.hid ht
   all_goals clear ht
   rotate_left 0
   ·go_wp2_with (go_at_call 119; refine (HC.out _).mono ?_; rintro e w' ⟨rfl, rfl⟩)
    go_roundw
    case rel =>
     refine ⟨k + 1, hlt, by go_num, fun y hy => ?_, rfl⟩
     rw [List.take_succ_eq_append_getElem hlt, List.mem_append, List.mem_singleton] at hy
     rcases hy with hy | hy
     ·exact HN.out y hy
     ·have : x = l[k] := (List.getElem?_eq_some_iff.1 HX.out).2.symm
      rw [hy, ← this]; exact HT.out
    case measure => simp [intOf]; omega
   ·go_wp2_with (go_at_call 119; refine (HC.out _).mono ?_; rintro e w' ⟨rfl, rfl⟩)
    go_ret
    refine ⟨(k : Int), rfl, ?_, rfl⟩
    rw [decide_eq_true (by omega)]
    exact (List.any_eq_true.2 ⟨x, List.mem_of_getElem? HX.out, HT.out⟩).symm
  ·obtain rfl : k = l.length := by omega
   rw [List.take_length] at HN
   clear g3
   go_wp2
   go_ret
   refine ⟨-1, rfl, ?_, rfl⟩
   rw [decide_eq_false (by omega)]
   exact (List.any_eq_false.2 fun x hx => by rw [HN.out x hx]; simp).symm
theorem hasB_any (v : Value) (l : List UInt8) (w : World) (hv : BS w w.heap.size v l) (hl : l.length ≤ 1048576) : Calls Tryz.prog 118 #[v, .func (.func 119) #[] #[]] w fun e w' => e = .returned (.bool (l.any fun x => badI x)) ∧ w = w' := by
 have HC := Lib.hid (idxB_any v l w hv hl)
 obtain ⟨A, c, rfl, g1, g2, g3⟩ := hv.at_
 clear hv g3
 go_enter Tryz.func118, Tryz.ntmps118
 go_wp2_with (go_at_call 131; refine HC.out.mono ?_; rintro e w' ⟨k, rfl, hk, rfl⟩; have HK := Lib.hid hk; clear hk)
 go_ret
 exact ⟨congrArg (fun t => Ending.returned (.bool t)) HK.out, rfl⟩
def RPost (P : Prop) (w : World) (e : Ending) (w' : World) : Prop := ∃ r, e = .returned (.bool r) ∧ (r = true ↔ P) ∧ Below w.heap.size w w'
theorem RPost.yes {P : Prop} {w w' : World} (h : P) (hb : Below w.heap.size w w') : RPost P w (.returned (.bool true)) w' := ⟨true, rfl, by simp [h], hb⟩
theorem RPost.no {P : Prop} {w w' : World} (h : ¬ P) (hb : Below w.heap.size w w') : RPost P w (.returned (.bool false)) w' := ⟨false, rfl, by simp [h], hb⟩
theorem anyP (l : List Int) : (l.any fun x => badP x) = false ↔ ∀ x ∈ l, 0 ≤ x ∧ x ≤ 65535 := by
 rw [List.any_eq_false]
 constructor
 ·intro h x hx
  have := h x hx
  simpa [badP] using this
 ·intro h x hx
  have := h x hx
  simp [badP, this]
theorem anyI (l : List UInt8) : (l.any fun x => badI x) = false ↔ ∀ x ∈ l, interB x = true := by
 rw [List.any_eq_false]
 constructor
 ·intro h x hx
  have := h x hx
  simpa [badI] using this
 ·intro h x hx
  have := h x hx
  simp [badI, this]
theorem rightUtf_any (vp vi vu : Value) (m : Int) (pv : Nat) (ps : List Int) (is us : List UInt8) (S : Nat → Prop) (w : World) (hp : SL vI w S vp ps) (hi : SL vB w S vi is) (hu : SL vB w S vu us) (hS : ∀ x, S x → x < w.heap.size) (hus : us.length ≤ 1048576) : Calls Tryz.prog 81 #[.agg #[.int .i64 m, .int .u8 (pv : Int), vp, vi, vu]] w (RPost (us.length = 0 ∨ m = 0 ∧ beginsL us = true) w) := by
 have HP : Hid (∀ o, IS (w.alloc o) (w.alloc o).heap.size vp ps) := fun o => ((hp.is hS).alloc (Nat.le_refl _) o).more (by simp)
 have HI : Hid (∀ o, BS (w.alloc o) (w.alloc o).heap.size vi is) := fun o => ((hi.bs hS).alloc (Nat.le_refl _) o).more (by simp)
 have HU : Hid (∀ o, BS (w.alloc o) (w.alloc o).heap.size vu us) := fun o => ((hu.bs hS).alloc (Nat.le_refl _) o).more (by simp)
 obtain ⟨Ap, cp, rfl, p1, p2⟩ := hp.form
 obtain ⟨Ai, ci, rfl, i1, i2⟩ := hi.form
 obtain ⟨Au, cu, rfl, u1, u2⟩ := hu.form
 clear hp hi hu hS
 have HB : Hid (∀ o, Below w.heap.size w (w.alloc o)) := fun o => (Below.refl _ _).alloc (Nat.le_refl _) o
 by_cases h0 : us.length = 0
 ·have d0 : ((us.length : Int) == 0) = true := beq_iff_eq.2 (by omega)
  have HX := Lib.hid (show us.length = 0 ∨ m = 0 ∧ beginsL us = true from .inl h0)
  clear h0
  go_enter Tryz.func81, Tryz.ntmps81
  go_wp2
  go_ret
  exact RPost.yes HX.out (HB.out _)
 ·have d0 : ((us.length : Int) == 0) = false := beq_eq_false_iff_ne.2 (by omega)
  by_cases h1 : m = 0
  ·have d1 : (m == 0) = true := beq_iff_eq.2 (by omega)
   cases hb : beginsL us
   ·have HX := Lib.hid (show ¬ (us.length = 0 ∨ m = 0 ∧ false = true) from fun h => h.elim h0 (fun h => by cases h.2))
    have HBG := Lib.hid hb
    clear h0 h1 hb
    go_enter Tryz.func81, Tryz.ntmps81
    go_wp2_with (go_at_call 115; (with_reducible refine (begins_any _ us _ _ (HU.out _)).mono ?_); rintro e w' ⟨rfl, rfl⟩; rw [HBG.out])
    go_ret
    exact RPost.no HX.out (HB.out _)
   ·have HX := Lib.hid (show us.length = 0 ∨ m = 0 ∧ true = true from .inr ⟨h1, rfl⟩)
    have HBG := Lib.hid hb
    clear h0 h1 hb
    go_enter Tryz.func81, Tryz.ntmps81
    go_wp2_with (go_at_call 115; (with_reducible refine (begins_any _ us _ _ (HU.out _)).mono ?_); rintro e w' ⟨rfl, rfl⟩; rw [HBG.out])
    go_ret
    exact RPost.yes HX.out (HB.out _)
  ·have d1 : (m == 0) = false := beq_eq_false_iff_ne.2 (by omega)
   have HX := Lib.hid (show ¬ (us.length = 0 ∨ m = 0 ∧ beginsL us = true) from fun h => h.elim h0 (fun h => h1 h.1))
   clear h0 h1
   go_enter Tryz.func81, Tryz.ntmps81
   go_wp2
   go_ret
   exact RPost.no HX.out (HB.out _)
theorem rightParams_4 (vp vi vu : Value) (m : Int) (pv : Nat) (ps : List Int) (is us : List UInt8) (S : Nat → Prop) (w : World) (hp : SL vI w S vp ps) (hi : SL vB w S vi is) (hu : SL vB w S vu us) (hS : ∀ x, S x → x < w.heap.size) (hm : m = 4) : Calls Tryz.prog 82 #[.agg #[.int .i64 m, .int .u8 (pv : Int), vp, vi, vu]] w (RPost ((pv = 0 ∨ (60 ≤ pv ∧ pv ≤ 63)) ∧ ps.length ≤ 16 ∧ (∀ x ∈ ps, 0 ≤ x ∧ x ≤ 65535)) w) := by
 have HP : Hid (∀ o, IS (w.alloc o) (w.alloc o).heap.size vp ps) := fun o => ((hp.is hS).alloc (Nat.le_refl _) o).more (by simp)
 have HI : Hid (∀ o, BS (w.alloc o) (w.alloc o).heap.size vi is) := fun o => ((hi.bs hS).alloc (Nat.le_refl _) o).more (by simp)
 have HU : Hid (∀ o, BS (w.alloc o) (w.alloc o).heap.size vu us) := fun o => ((hu.bs hS).alloc (Nat.le_refl _) o).more (by simp)
 obtain ⟨Ap, cp, rfl, p1, p2⟩ := hp.form
 obtain ⟨Ai, ci, rfl, i1, i2⟩ := hi.form
 obtain ⟨Au, cu, rfl, u1, u2⟩ := hu.form
 clear hp hi hu hS
 have HB : Hid (∀ o, Below w.heap.size w (w.alloc o)) := fun o => (Below.refl _ _).alloc (Nat.le_refl _) o
 have m4 : (m == 4) = true := beq_iff_eq.2 (by omega)
 clear hm
 by_cases hpv : pv = 0
 ·have e0 : ((pv : Int) == 0) = true := beq_iff_eq.2 (by omega)
  by_cases hl : ps.length ≤ 16
  ·have dl : (ps.length : Int) ≤ 16 := by omega
   cases ha : ps.any fun x => badP x
   ·have HX := Lib.hid (show (pv = 0 ∨ (60 ≤ pv ∧ pv ≤ 63)) ∧ ps.length ≤ 16 ∧ (∀ x ∈ ps, 0 ≤ x ∧ x ≤ 65535) from ⟨by omega, hl, (anyP ps).1 ha⟩)
    have HA := Lib.hid ha
    clear ha hpv
    go_enter Tryz.func82, Tryz.ntmps82
    go_wp2_with (go_at_call 116; refine (hasI_any _ ps _ (HP.out _) (by omega)).mono ?_; rintro e w' ⟨rfl, rfl⟩; rw [HA.out])
    go_ret
    exact RPost.yes HX.out (HB.out _)
   ·have HX := Lib.hid (show ¬ ((pv = 0 ∨ (60 ≤ pv ∧ pv ≤ 63)) ∧ ps.length ≤ 16 ∧ (∀ x ∈ ps, 0 ≤ x ∧ x ≤ 65535)) from fun h => by rw [(anyP ps).2 h.2.2] at ha; cases ha)
    have HA := Lib.hid ha
    clear ha hpv
    go_enter Tryz.func82, Tryz.ntmps82
    go_wp2_with (go_at_call 116; refine (hasI_any _ ps _ (HP.out _) (by omega)).mono ?_; rintro e w' ⟨rfl, rfl⟩; rw [HA.out])
    go_ret
    exact RPost.no HX.out (HB.out _)
  ·have dl : decide ((ps.length : Int) ≤ 16) = false := by simp; omega
   have HX := Lib.hid (show ¬ ((pv = 0 ∨ (60 ≤ pv ∧ pv ≤ 63)) ∧ ps.length ≤ 16 ∧ (∀ x ∈ ps, 0 ≤ x ∧ x ≤ 65535)) from fun h => hl h.2.1)
   clear hl hpv
   go_enter Tryz.func82, Tryz.ntmps82
   go_wp2
   go_ret
   exact RPost.no HX.out (HB.out _)
 ·have e0 : ((pv : Int) == 0) = false := beq_eq_false_iff_ne.2 (by omega)
  by_cases h60 : 60 ≤ pv
  ·have e1 : (60 : Int) ≤ (pv : Int) := by omega
   by_cases h63 : pv ≤ 63
   ·have e2 : (pv : Int) ≤ 63 := by omega
    by_cases hl : ps.length ≤ 16
    ·have dl : (ps.length : Int) ≤ 16 := by omega
     cases ha : ps.any fun x => badP x
     ·have HX := Lib.hid (show (pv = 0 ∨ (60 ≤ pv ∧ pv ≤ 63)) ∧ ps.length ≤ 16 ∧ (∀ x ∈ ps, 0 ≤ x ∧ x ≤ 65535) from ⟨by omega, hl, (anyP ps).1 ha⟩)
      have HA := Lib.hid ha
      clear ha hpv
      go_enter Tryz.func82, Tryz.ntmps82
      go_wp2_with (go_at_call 116; refine (hasI_any _ ps _ (HP.out _) (by omega)).mono ?_; rintro e w' ⟨rfl, rfl⟩; rw [HA.out])
      go_ret
      exact RPost.yes HX.out (HB.out _)
     ·have HX := Lib.hid (show ¬ ((pv = 0 ∨ (60 ≤ pv ∧ pv ≤ 63)) ∧ ps.length ≤ 16 ∧ (∀ x ∈ ps, 0 ≤ x ∧ x ≤ 65535)) from fun h => by rw [(anyP ps).2 h.2.2] at ha; cases ha)
      have HA := Lib.hid ha
      clear ha hpv
      go_enter Tryz.func82, Tryz.ntmps82
      go_wp2_with (go_at_call 116; refine (hasI_any _ ps _ (HP.out _) (by omega)).mono ?_; rintro e w' ⟨rfl, rfl⟩; rw [HA.out])
      go_ret
      exact RPost.no HX.out (HB.out _)
    ·have dl : decide ((ps.length : Int) ≤ 16) = false := by simp; omega
     have HX := Lib.hid (show ¬ ((pv = 0 ∨ (60 ≤ pv ∧ pv ≤ 63)) ∧ ps.length ≤ 16 ∧ (∀ x ∈ ps, 0 ≤ x ∧ x ≤ 65535)) from fun h => hl h.2.1)
     clear hl hpv
     go_enter Tryz.func82, Tryz.ntmps82
     go_wp2
     go_ret
     exact RPost.no HX.out (HB.out _)
   ·have e2 : decide ((pv : Int) ≤ 63) = false := by simp; omega
    have HX := Lib.hid (show ¬ ((pv = 0 ∨ (60 ≤ pv ∧ pv ≤ 63)) ∧ ps.length ≤ 16 ∧ (∀ x ∈ ps, 0 ≤ x ∧ x ≤ 65535)) from fun h => by have := h.1; omega)
    clear hpv
    go_enter Tryz.func82, Tryz.ntmps82
    go_wp2
    go_ret
    exact RPost.no HX.out (HB.out _)
  ·have e1 : decide ((60 : Int) ≤ (pv : Int)) = false := by simp; omega
   have HX := Lib.hid (show ¬ ((pv = 0 ∨ (60 ≤ pv ∧ pv ≤ 63)) ∧ ps.length ≤ 16 ∧ (∀ x ∈ ps, 0 ≤ x ∧ x ≤ 65535)) from fun h => by have := h.1; omega)
   clear hpv
   go_enter Tryz.func82, Tryz.ntmps82
   go_wp2
   go_ret
   exact RPost.no HX.out (HB.out _)
theorem rightParams_5 (vp vi vu : Value) (m : Int) (pv : Nat) (ps : List Int) (is us : List UInt8) (S : Nat → Prop) (w : World) (hp : SL vI w S vp ps) (hi : SL vB w S vi is) (hu : SL vB w S vu us) (hS : ∀ x, S x → x < w.heap.size) (hm : m = 5) : Calls Tryz.prog 82 #[.agg #[.int .i64 m, .int .u8 (pv : Int), vp, vi, vu]] w (RPost ((pv = 0 ∨ (60 ≤ pv ∧ pv ≤ 63)) ∧ ps.length ≤ 16 ∧ (∀ x ∈ ps, 0 ≤ x ∧ x ≤ 65535)) w) := by
 have HP : Hid (∀ o, IS (w.alloc o) (w.alloc o).heap.size vp ps) := fun o => ((hp.is hS).alloc (Nat.le_refl _) o).more (by simp)
 have HI : Hid (∀ o, BS (w.alloc o) (w.alloc o).heap.size vi is) := fun o => ((hi.bs hS).alloc (Nat.le_refl _) o).more (by simp)
 have HU : Hid (∀ o, BS (w.alloc o) (w.alloc o).heap.size vu us) := fun o => ((hu.bs hS).alloc (Nat.le_refl _) o).more (by simp)
 obtain ⟨Ap, cp, rfl, p1, p2⟩ := hp.form
 obtain ⟨Ai, ci, rfl, i1, i2⟩ := hi.form
 obtain ⟨Au, cu, rfl, u1, u2⟩ := hu.form
 clear hp hi hu hS
 have HB : Hid (∀ o, Below w.heap.size w (w.alloc o)) := fun o => (Below.refl _ _).alloc (Nat.le_refl _) o
 have m4 : (m == 4) = false := beq_eq_false_iff_ne.2 (by omega)
 have m5 : (m == 5) = true := beq_iff_eq.2 (by omega)
 clear hm
 by_cases hpv : pv = 0
 ·have e0 : ((pv : Int) == 0) = true := beq_iff_eq.2 (by omega)
  by_cases hl : ps.length ≤ 16
  ·have dl : (ps.length : Int) ≤ 16 := by omega
   cases ha : ps.any fun x => badP x
   ·have HX := Lib.hid (show (pv = 0 ∨ (60 ≤ pv ∧ pv ≤ 63)) ∧ ps.length ≤ 16 ∧ (∀ x ∈ ps, 0 ≤ x ∧ x ≤ 65535) from ⟨by omega, hl, (anyP ps).1 ha⟩)
    have HA := Lib.hid ha
    clear ha hpv
    go_enter Tryz.func82, Tryz.ntmps82
    go_wp2_with (go_at_call 116; refine (hasI_any _ ps _ (HP.out _) (by omega)).mono ?_; rintro e w' ⟨rfl, rfl⟩; rw [HA.out])
    go_ret
    exact RPost.yes HX.out (HB.out _)
   ·have HX := Lib.hid (show ¬ ((pv = 0 ∨ (60 ≤ pv ∧ pv ≤ 63)) ∧ ps.length ≤ 16 ∧ (∀ x ∈ ps, 0 ≤ x ∧ x ≤ 65535)) from fun h => by rw [(anyP ps).2 h.2.2] at ha; cases ha)
    have HA := Lib.hid ha
    clear ha hpv
    go_enter Tryz.func82, Tryz.ntmps82
    go_wp2_with (go_at_call 116; refine (hasI_any _ ps _ (HP.out _) (by omega)).mono ?_; rintro e w' ⟨rfl, rfl⟩; rw [HA.out])
    go_ret
    exact RPost.no HX.out (HB.out _)
  ·have dl : decide ((ps.length : Int) ≤ 16) = false := by simp; omega
   have HX := Lib.hid (show ¬ ((pv = 0 ∨ (60 ≤ pv ∧ pv ≤ 63)) ∧ ps.length ≤ 16 ∧ (∀ x ∈ ps, 0 ≤ x ∧ x ≤ 65535)) from fun h => hl h.2.1)
   clear hl hpv
   go_enter Tryz.func82, Tryz.ntmps82
   go_wp2
   go_ret
   exact RPost.no HX.out (HB.out _)
 ·have e0 : ((pv : Int) == 0) = false := beq_eq_false_iff_ne.2 (by omega)
  by_cases h60 : 60 ≤ pv
  ·have e1 : (60 : Int) ≤ (pv : Int) := by omega
   by_cases h63 : pv ≤ 63
   ·have e2 : (pv : Int) ≤ 63 := by omega
    by_cases hl : ps.length ≤ 16
    ·have dl : (ps.length : Int) ≤ 16 := by omega
     cases ha : ps.any fun x => badP x
     ·have HX := Lib.hid (show (pv = 0 ∨ (60 ≤ pv ∧ pv ≤ 63)) ∧ ps.length ≤ 16 ∧ (∀ x ∈ ps, 0 ≤ x ∧ x ≤ 65535) from ⟨by omega, hl, (anyP ps).1 ha⟩)
      have HA := Lib.hid ha
      clear ha hpv
      go_enter Tryz.func82, Tryz.ntmps82
      go_wp2_with (go_at_call 116; refine (hasI_any _ ps _ (HP.out _) (by omega)).mono ?_; rintro e w' ⟨rfl, rfl⟩; rw [HA.out])
      go_ret
      exact RPost.yes HX.out (HB.out _)
     ·have HX := Lib.hid (show ¬ ((pv = 0 ∨ (60 ≤ pv ∧ pv ≤ 63)) ∧ ps.length ≤ 16 ∧ (∀ x ∈ ps, 0 ≤ x ∧ x ≤ 65535)) from fun h => by rw [(anyP ps).2 h.2.2] at ha; cases ha)
      have HA := Lib.hid ha
      clear ha hpv
      go_enter Tryz.func82, Tryz.ntmps82
      go_wp2_with (go_at_call 116; refine (hasI_any _ ps _ (HP.out _) (by omega)).mono ?_; rintro e w' ⟨rfl, rfl⟩; rw [HA.out])
      go_ret
      exact RPost.no HX.out (HB.out _)
    ·have dl : decide ((ps.length : Int) ≤ 16) = false := by simp; omega
     have HX := Lib.hid (show ¬ ((pv = 0 ∨ (60 ≤ pv ∧ pv ≤ 63)) ∧ ps.length ≤ 16 ∧ (∀ x ∈ ps, 0 ≤ x ∧ x ≤ 65535)) from fun h => hl h.2.1)
     clear hl hpv
     go_enter Tryz.func82, Tryz.ntmps82
     go_wp2
     go_ret
     exact RPost.no HX.out (HB.out _)
   ·have e2 : decide ((pv : Int) ≤ 63) = false := by simp; omega
    have HX := Lib.hid (show ¬ ((pv = 0 ∨ (60 ≤ pv ∧ pv ≤ 63)) ∧ ps.length ≤ 16 ∧ (∀ x ∈ ps, 0 ≤ x ∧ x ≤ 65535)) from fun h => by have := h.1; omega)
    clear hpv
    go_enter Tryz.func82, Tryz.ntmps82
    go_wp2
    go_ret
    exact RPost.no HX.out (HB.out _)
  ·have e1 : decide ((60 : Int) ≤ (pv : Int)) = false := by simp; omega
   have HX := Lib.hid (show ¬ ((pv = 0 ∨ (60 ≤ pv ∧ pv ≤ 63)) ∧ ps.length ≤ 16 ∧ (∀ x ∈ ps, 0 ≤ x ∧ x ≤ 65535)) from fun h => by have := h.1; omega)
   clear hpv
   go_enter Tryz.func82, Tryz.ntmps82
   go_wp2
   go_ret
   exact RPost.no HX.out (HB.out _)
theorem rightParams_0 (vp vi vu : Value) (m : Int) (pv : Nat) (ps : List Int) (is us : List UInt8) (S : Nat → Prop) (w : World) (hp : SL vI w S vp ps) (hi : SL vB w S vi is) (hu : SL vB w S vu us) (hS : ∀ x, S x → x < w.heap.size) (hm4 : m ≠ 4) (hm5 : m ≠ 5) : Calls Tryz.prog 82 #[.agg #[.int .i64 m, .int .u8 (pv : Int), vp, vi, vu]] w (RPost (pv = 0 ∧ ps.length = 0) w) := by
 have HP : Hid (∀ o, IS (w.alloc o) (w.alloc o).heap.size vp ps) := fun o => ((hp.is hS).alloc (Nat.le_refl _) o).more (by simp)
 have HI : Hid (∀ o, BS (w.alloc o) (w.alloc o).heap.size vi is) := fun o => ((hi.bs hS).alloc (Nat.le_refl _) o).more (by simp)
 have HU : Hid (∀ o, BS (w.alloc o) (w.alloc o).heap.size vu us) := fun o => ((hu.bs hS).alloc (Nat.le_refl _) o).more (by simp)
 obtain ⟨Ap, cp, rfl, p1, p2⟩ := hp.form
 obtain ⟨Ai, ci, rfl, i1, i2⟩ := hi.form
 obtain ⟨Au, cu, rfl, u1, u2⟩ := hu.form
 clear hp hi hu hS
 have HB : Hid (∀ o, Below w.heap.size w (w.alloc o)) := fun o => (Below.refl _ _).alloc (Nat.le_refl _) o
 have m4 : (m == 4) = false := beq_eq_false_iff_ne.2 (by omega)
 have m5 : (m == 5) = false := beq_eq_false_iff_ne.2 (by omega)
 clear hm4 hm5
 by_cases hpv : pv = 0
 ·have e0 : ((pv : Int) == 0) = true := beq_iff_eq.2 (by omega)
  by_cases hl : ps.length = 0
  ·have dl : ((ps.length : Int) == 0) = true := beq_iff_eq.2 (by omega)
   have HX := Lib.hid (And.intro hpv hl)
   clear hl hpv
   go_enter Tryz.func82, Tryz.ntmps82
   go_wp2
   go_ret
   exact RPost.yes HX.out (HB.out _)
  ·have dl : ((ps.length : Int) == 0) = false := beq_eq_false_iff_ne.2 (by omega)
   have HX := Lib.hid (show ¬ (pv = 0 ∧ ps.length = 0) from fun h => hl h.2)
   clear hl hpv
   go_enter Tryz.func82, Tryz.ntmps82
   go_wp2
   go_ret
   exact RPost.no HX.out (HB.out _)
 ·have e0 : ((pv : Int) == 0) = false := beq_eq_false_iff_ne.2 (by omega)
  have HX := Lib.hid (show ¬ (pv = 0 ∧ ps.length = 0) from fun h => hpv h.1)
  clear hpv
  go_enter Tryz.func82, Tryz.ntmps82
  go_wp2
  go_ret
  exact RPost.no HX.out (HB.out _)
theorem rightInter_2 (vp vi vu : Value) (m : Int) (pv : Nat) (ps : List Int) (is us : List UInt8) (S : Nat → Prop) (w : World) (hp : SL vI w S vp ps) (hi : SL vB w S vi is) (hu : SL vB w S vu us) (hS : ∀ x, S x → x < w.heap.size) (hm : m = 2) : Calls Tryz.prog 83 #[.agg #[.int .i64 m, .int .u8 (pv : Int), vp, vi, vu]] w (RPost ((0 < is.length ∧ is.length ≤ 2) ∧ (∀ x ∈ is, interB x = true)) w) := by
 have HP : Hid (∀ o, IS (w.alloc o) (w.alloc o).heap.size vp ps) := fun o => ((hp.is hS).alloc (Nat.le_refl _) o).more (by simp)
 have HI : Hid (∀ o, BS (w.alloc o) (w.alloc o).heap.size vi is) := fun o => ((hi.bs hS).alloc (Nat.le_refl _) o).more (by simp)
 have HU : Hid (∀ o, BS (w.alloc o) (w.alloc o).heap.size vu us) := fun o => ((hu.bs hS).alloc (Nat.le_refl _) o).more (by simp)
 obtain ⟨Ap, cp, rfl, p1, p2⟩ := hp.form
 obtain ⟨Ai, ci, rfl, i1, i2⟩ := hi.form
 obtain ⟨Au, cu, rfl, u1, u2⟩ := hu.form
 clear hp hi hu hS
 have HB : Hid (∀ o, Below w.heap.size w (w.alloc o)) := fun o => (Below.refl _ _).alloc (Nat.le_refl _) o
 have m2 : (m == 2) = true := beq_iff_eq.2 (by omega)
 clear hm
 by_cases h0 : 0 < is.length
 ·have d0 : 0 < is.length := h0
  by_cases h2 : is.length ≤ 2
  ·have d2 : (is.length : Int) ≤ 2 := by omega
   cases ha : is.any fun x => badI x
   ·have HX := Lib.hid (show (0 < is.length ∧ is.length ≤ 2) ∧ (∀ x ∈ is, interB x = true) from ⟨⟨h0, h2⟩, (anyI is).1 ha⟩)
    have HA := Lib.hid ha
    clear ha h0
    go_enter Tryz.func83, Tryz.ntmps83
    go_wp2_with (go_at_call 118; refine (hasB_any _ is _ (HI.out _) (by omega)).mono ?_; rintro e w' ⟨rfl, rfl⟩; rw [HA.out])
    go_ret
    exact RPost.yes HX.out (HB.out _)
   ·have HX := Lib.hid (show ¬ ((0 < is.length ∧ is.length ≤ 2) ∧ (∀ x ∈ is, interB x = true)) from fun h => by rw [(anyI is).2 h.2] at ha; cases ha)
    have HA := Lib.hid ha
    clear ha h0
    go_enter Tryz.func83, Tryz.ntmps83
    go_wp2_with (go_at_call 118; refine (hasB_any _ is _ (HI.out _) (by omega)).mono ?_; rintro e w' ⟨rfl, rfl⟩; rw [HA.out])
    go_ret
    exact RPost.no HX.out (HB.out _)
  ·have d2 : decide ((is.length : Int) ≤ 2) = false := by simp; omega
   have HX := Lib.hid (show ¬ ((0 < is.length ∧ is.length ≤ 2) ∧ (∀ x ∈ is, interB x = true)) from fun h => h2 h.1.2)
   clear h2 h0
   go_enter Tryz.func83, Tryz.ntmps83
   go_wp2
   go_ret
   exact RPost.no HX.out (HB.out _)
 ·have d0 : decide (0 < is.length) = false := decide_eq_false h0
  have HX := Lib.hid (show ¬ ((0 < is.length ∧ is.length ≤ 2) ∧ (∀ x ∈ is, interB x = true)) from fun h => h0 h.1.1)
  clear h0
  go_enter Tryz.func83, Tryz.ntmps83
  go_wp2
  go_ret
  exact RPost.no HX.out (HB.out _)
theorem rightInter_5 (vp vi vu : Value) (m : Int) (pv : Nat) (ps : List Int) (is us : List UInt8) (S : Nat → Prop) (w : World) (hp : SL vI w S vp ps) (hi : SL vB w S vi is) (hu : SL vB w S vu us) (hS : ∀ x, S x → x < w.heap.size) (hm : m = 5) : Calls Tryz.prog 83 #[.agg #[.int .i64 m, .int .u8 (pv : Int), vp, vi, vu]] w (RPost ((0 < is.length ∧ is.length ≤ 2) ∧ (∀ x ∈ is, interB x = true)) w) := by
 have HP : Hid (∀ o, IS (w.alloc o) (w.alloc o).heap.size vp ps) := fun o => ((hp.is hS).alloc (Nat.le_refl _) o).more (by simp)
 have HI : Hid (∀ o, BS (w.alloc o) (w.alloc o).heap.size vi is) := fun o => ((hi.bs hS).alloc (Nat.le_refl _) o).more (by simp)
 have HU : Hid (∀ o, BS (w.alloc o) (w.alloc o).heap.size vu us) := fun o => ((hu.bs hS).alloc (Nat.le_refl _) o).more (by simp)
 obtain ⟨Ap, cp, rfl, p1, p2⟩ := hp.form
 obtain ⟨Ai, ci, rfl, i1, i2⟩ := hi.form
 obtain ⟨Au, cu, rfl, u1, u2⟩ := hu.form
 clear hp hi hu hS
 have HB : Hid (∀ o, Below w.heap.size w (w.alloc o)) := fun o => (Below.refl _ _).alloc (Nat.le_refl _) o
 have m2 : (m == 2) = false := beq_eq_false_iff_ne.2 (by omega)
 have m5 : (m == 5) = true := beq_iff_eq.2 (by omega)
 clear hm
 by_cases h0 : 0 < is.length
 ·have d0 : 0 < is.length := h0
  by_cases h2 : is.length ≤ 2
  ·have d2 : (is.length : Int) ≤ 2 := by omega
   cases ha : is.any fun x => badI x
   ·have HX := Lib.hid (show (0 < is.length ∧ is.length ≤ 2) ∧ (∀ x ∈ is, interB x = true) from ⟨⟨h0, h2⟩, (anyI is).1 ha⟩)
    have HA := Lib.hid ha
    clear ha h0
    go_enter Tryz.func83, Tryz.ntmps83
    go_wp2_with (go_at_call 118; refine (hasB_any _ is _ (HI.out _) (by omega)).mono ?_; rintro e w' ⟨rfl, rfl⟩; rw [HA.out])
    go_ret
    exact RPost.yes HX.out (HB.out _)
   ·have HX := Lib.hid (show ¬ ((0 < is.length ∧ is.length ≤ 2) ∧ (∀ x ∈ is, interB x = true)) from fun h => by rw [(anyI is).2 h.2] at ha; cases ha)
    have HA := Lib.hid ha
    clear ha h0
    go_enter Tryz.func83, Tryz.ntmps83
    go_wp2_with (go_at_call 118; refine (hasB_any _ is _ (HI.out _) (by omega)).mono ?_; rintro e w' ⟨rfl, rfl⟩; rw [HA.out])
    go_ret
    exact RPost.no HX.out (HB.out _)
  ·have d2 : decide ((is.length : Int) ≤ 2) = false := by simp; omega
   have HX := Lib.hid (show ¬ ((0 < is.length ∧ is.length ≤ 2) ∧ (∀ x ∈ is, interB x = true)) from fun h => h2 h.1.2)
   clear h2 h0
   go_enter Tryz.func83, Tryz.ntmps83
   go_wp2
   go_ret
   exact RPost.no HX.out (HB.out _)
 ·have d0 : decide (0 < is.length) = false := decide_eq_false h0
  have HX := Lib.hid (show ¬ ((0 < is.length ∧ is.length ≤ 2) ∧ (∀ x ∈ is, interB x = true)) from fun h => h0 h.1.1)
  clear h0
  go_enter Tryz.func83, Tryz.ntmps83
  go_wp2
  go_ret
  exact RPost.no HX.out (HB.out _)
theorem rightInter_0 (vp vi vu : Value) (m : Int) (pv : Nat) (ps : List Int) (is us : List UInt8) (S : Nat → Prop) (w : World) (hp : SL vI w S vp ps) (hi : SL vB w S vi is) (hu : SL vB w S vu us) (hS : ∀ x, S x → x < w.heap.size) (hm2 : m ≠ 2) (hm5 : m ≠ 5) : Calls Tryz.prog 83 #[.agg #[.int .i64 m, .int .u8 (pv : Int), vp, vi, vu]] w (RPost (is.length = 0) w) := by
 have HP : Hid (∀ o, IS (w.alloc o) (w.alloc o).heap.size vp ps) := fun o => ((hp.is hS).alloc (Nat.le_refl _) o).more (by simp)
 have HI : Hid (∀ o, BS (w.alloc o) (w.alloc o).heap.size vi is) := fun o => ((hi.bs hS).alloc (Nat.le_refl _) o).more (by simp)
 have HU : Hid (∀ o, BS (w.alloc o) (w.alloc o).heap.size vu us) := fun o => ((hu.bs hS).alloc (Nat.le_refl _) o).more (by simp)
 obtain ⟨Ap, cp, rfl, p1, p2⟩ := hp.form
 obtain ⟨Ai, ci, rfl, i1, i2⟩ := hi.form
 obtain ⟨Au, cu, rfl, u1, u2⟩ := hu.form
 clear hp hi hu hS
 have HB : Hid (∀ o, Below w.heap.size w (w.alloc o)) := fun o => (Below.refl _ _).alloc (Nat.le_refl _) o
 have m2 : (m == 2) = false := beq_eq_false_iff_ne.2 (by omega)
 have m5 : (m == 5) = false := beq_eq_false_iff_ne.2 (by omega)
 clear hm2 hm5
 by_cases hl : is.length = 0
 ·have dl : ((is.length : Int) == 0) = true := beq_iff_eq.2 (by omega)
  have HX := Lib.hid hl
  clear hl
  go_enter Tryz.func83, Tryz.ntmps83
  go_wp2
  go_ret
  exact RPost.yes HX.out (HB.out _)
 ·have dl : ((is.length : Int) == 0) = false := beq_eq_false_iff_ne.2 (by omega)
  have HX := Lib.hid hl
  clear hl
  go_enter Tryz.func83, Tryz.ntmps83
  go_wp2
  go_ret
  exact RPost.no HX.out (HB.out _)
def PaP (m : Int) (pv : Nat) (ps : List Int) : Prop := ((m = 4 ∨ m = 5) ∧ (pv = 0 ∨ (60 ≤ pv ∧ pv ≤ 63)) ∧ ps.length ≤ 16 ∧ (∀ x ∈ ps, 0 ≤ x ∧ x ≤ 65535)) ∨ (¬ (m = 4 ∨ m = 5) ∧ pv = 0 ∧ ps.length = 0)
def InP (m : Int) (is : List UInt8) : Prop := ((m = 2 ∨ m = 5) ∧ (0 < is.length ∧ is.length ≤ 2) ∧ (∀ x ∈ is, interB x = true)) ∨ (¬ (m = 2 ∨ m = 5) ∧ is.length = 0)
def UtP (m : Int) (us : List UInt8) : Prop := us.length = 0 ∨ m = 0 ∧ beginsL us = true
theorem RPost.iff {P Q : Prop} {w w' : World} {e : Ending} (h : RPost P w e w') (hq : P ↔ Q) : RPost Q w e w' := by
 obtain ⟨r, he, h1, h2⟩ := h
 exact ⟨r, he, h1.trans hq, h2⟩
theorem rightParams_any (vp vi vu : Value) (m : Int) (pv : Nat) (ps : List Int) (is us : List UInt8) (S : Nat → Prop) (w : World) (hp : SL vI w S vp ps) (hi : SL vB w S vi is) (hu : SL vB w S vu us) (hS : ∀ x, S x → x < w.heap.size) : Calls Tryz.prog 82 #[.agg #[.int .i64 m, .int .u8 (pv : Int), vp, vi, vu]] w (RPost (PaP m pv ps) w) := by
 by_cases h4 : m = 4
 ·exact (rightParams_4 vp vi vu m pv ps is us S w hp hi hu hS h4).mono fun e w' h => h.iff ⟨fun h => .inl ⟨.inl h4, h⟩, fun h => h.elim (fun h => h.2) (fun h => absurd (.inl h4) h.1)⟩
 by_cases h5 : m = 5
 ·exact (rightParams_5 vp vi vu m pv ps is us S w hp hi hu hS h5).mono fun e w' h => h.iff ⟨fun h => .inl ⟨.inr h5, h⟩, fun h => h.elim (fun h => h.2) (fun h => absurd (.inr h5) h.1)⟩
 ·exact (rightParams_0 vp vi vu m pv ps is us S w hp hi hu hS h4 h5).mono fun e w' h => h.iff ⟨fun h => .inr ⟨fun hh => hh.elim h4 h5, h⟩, fun h => h.elim (fun h => absurd h.1 (fun hh => hh.elim h4 h5)) (fun h => h.2)⟩
theorem rightInter_any (vp vi vu : Value) (m : Int) (pv : Nat) (ps : List Int) (is us : List UInt8) (S : Nat → Prop) (w : World) (hp : SL vI w S vp ps) (hi : SL vB w S vi is) (hu : SL vB w S vu us) (hS : ∀ x, S x → x < w.heap.size) : Calls Tryz.prog 83 #[.agg #[.int .i64 m, .int .u8 (pv : Int), vp, vi, vu]] w (RPost (InP m is) w) := by
 by_cases h2 : m = 2
 ·exact (rightInter_2 vp vi vu m pv ps is us S w hp hi hu hS h2).mono fun e w' h => h.iff ⟨fun h => .inl ⟨.inl h2, h⟩, fun h => h.elim (fun h => h.2) (fun h => absurd (.inl h2) h.1)⟩
 by_cases h5 : m = 5
 ·exact (rightInter_5 vp vi vu m pv ps is us S w hp hi hu hS h5).mono fun e w' h => h.iff ⟨fun h => .inl ⟨.inr h5, h⟩, fun h => h.elim (fun h => h.2) (fun h => absurd (.inr h5) h.1)⟩
 ·exact (rightInter_0 vp vi vu m pv ps is us S w hp hi hu hS h2 h5).mono fun e w' h => h.iff ⟨fun h => .inr ⟨fun hh => hh.elim h2 h5, h⟩, fun h => h.elim (fun h => absurd h.1 (fun hh => hh.elim h2 h5)) (fun h => h.2)⟩
theorem right_iff (m : Int) (pv : Nat) (ps : List Int) (is us : List UInt8) : RightP m pv ps is us ↔ (0 ≤ m ∧ m ≤ 7) ∧ UtP m us ∧ PaP m pv ps ∧ InP m is := by
 unfold RightP UtP PaP InP
 constructor
 ·rintro ⟨⟨a1, a2, a3, a4, a5⟩, b1, b2, b3, b4, b5⟩
  refine ⟨⟨a1, a2⟩, ?_, ?_, ?_⟩
  ·rcases Nat.eq_zero_or_pos us.length with h | h
   ·exact .inl h
   ·exact .inr (a5 h)
  ·by_cases h : m = 4 ∨ m = 5
   ·exact .inl ⟨h, b3, a3, b1⟩
   ·exact .inr ⟨h, b4.elim (fun hh => absurd hh h) id⟩
  ·by_cases h : m = 2 ∨ m = 5
   ·exact .inl ⟨h, ⟨b5.1 h, a4⟩, b2⟩
   ·refine .inr ⟨h, ?_⟩
    rcases Nat.eq_zero_or_pos is.length with hh | hh
    ·exact hh
    ·exact absurd (b5.2 hh) h
 ·rintro ⟨⟨a1, a2⟩, hu, hp, hi⟩
  refine ⟨⟨a1, a2, ?_, ?_, ?_⟩, ?_, ?_, ?_, ?_, ?_⟩
  ·rcases hp with h | h <;> omega
  ·rcases hi with h | h <;> omega
  ·intro h; exact hu.elim (fun h0 => by omega) id
  ·rcases hp with h | h
   ·exact h.2.2.2
   ·have : ps = [] := List.eq_nil_of_length_eq_zero h.2.2
    rw [this]; simp
  ·rcases hi with h | h
   ·exact h.2.2
   ·have : is = [] := List.eq_nil_of_length_eq_zero h.2
    rw [this]; simp
  ·rcases hp with h | h
   ·exact h.2.1
   ·exact .inl h.2.1
  ·rcases hp with h | h
   ·exact .inl h.1
   ·exact .inr h.2
  ·rcases hi with h | h
   ·exact ⟨fun _ => h.2.1.1, fun _ => h.1⟩
   ·exact ⟨fun hh => absurd hh h.1, fun hh => by omega⟩
theorem rt {P : Prop} {f : FuncId} {x : Array Value} {w : World} (h : Calls Tryz.prog f x w (RPost P w)) (hp : P) : Calls Tryz.prog f x w fun e w' => e = .returned (.bool true) ∧ Below w.heap.size w w' := h.mono fun e w' ⟨r, he, h1, h2⟩ => ⟨by rw [he, h1.2 hp], h2⟩
theorem rf {P : Prop} {f : FuncId} {x : Array Value} {w : World} (h : Calls Tryz.prog f x w (RPost P w)) (hp : ¬ P) : Calls Tryz.prog f x w fun e w' => e = .returned (.bool false) ∧ Below w.heap.size w w' := h.mono fun e w' ⟨r, he, h1, h2⟩ => ⟨by
 cases r
 ·exact he
 ·exact absurd (h1.1 rfl) hp, h2⟩
theorem box_kept {w W W' : World} {o : Obj} (hz : w.heap.size < W.heap.size) (k : W.heap[w.heap.size]? = some o) (hb : Below W.heap.size W W') : W'.heap[w.heap.size]? = some o ∧ w.heap.size < W'.heap.size := ⟨(hb.block _ hz).trans k, Nat.lt_of_lt_of_le hz hb.size⟩
theorem vright_any (vp vi vu : Value) (m : Int) (pv : Nat) (ps : List Int) (is us : List UInt8) (S : Nat → Prop) (w : World) (hp : SL vI w S vp ps) (hi : SL vB w S vi is) (hu : SL vB w S vu us) (hS : ∀ x, S x → x < w.heap.size) (hm0 : -9223372036854775808 ≤ m) (hm7 : m ≤ 9223372036854775807) (hus : us.length ≤ 1048576) (hpv : pv < 256) :
  Calls Tryz.prog 49 #[.agg #[.int .i64 m, .int .u8 (pv : Int), vp, vi, vu]] w (RightPost m pv ps is us w) := by
 have HC1 : Hid (∀ W, Below w.heap.size w W → Calls Tryz.prog 81 #[.agg #[.int .i64 m, .int .u8 (pv : Int), vp, vi, vu]] W (RPost (UtP m us) W)) := fun W hb => rightUtf_any vp vi vu m pv ps is us S W (hp.keep (fun q hq => hb.cell (hS _ hq))) (hi.keep (fun q hq => hb.cell (hS _ hq))) (hu.keep (fun q hq => hb.cell (hS _ hq))) (fun x hx => Nat.lt_of_lt_of_le (hS x hx) hb.size) hus
 have HC2 : Hid (∀ W, Below w.heap.size w W → Calls Tryz.prog 82 #[.agg #[.int .i64 m, .int .u8 (pv : Int), vp, vi, vu]] W (RPost (PaP m pv ps) W)) := fun W hb => rightParams_any vp vi vu m pv ps is us S W (hp.keep (fun q hq => hb.cell (hS _ hq))) (hi.keep (fun q hq => hb.cell (hS _ hq))) (hu.keep (fun q hq => hb.cell (hS _ hq))) (fun x hx => Nat.lt_of_lt_of_le (hS x hx) hb.size)
 have HC3 : Hid (∀ W, Below w.heap.size w W → Calls Tryz.prog 83 #[.agg #[.int .i64 m, .int .u8 (pv : Int), vp, vi, vu]] W (RPost (InP m is) W)) := fun W hb => rightInter_any vp vi vu m pv ps is us S W (hp.keep (fun q hq => hb.cell (hS _ hq))) (hi.keep (fun q hq => hb.cell (hS _ hq))) (hu.keep (fun q hq => hb.cell (hS _ hq))) (fun x hx => Nat.lt_of_lt_of_le (hS x hx) hb.size)
 obtain ⟨Ap, cp, rfl, p1, p2⟩ := hp.form
 obtain ⟨Ai, ci, rfl, i1, i2⟩ := hi.form
 obtain ⟨Au, cu, rfl, u1, u2⟩ := hu.form
 have hri := right_iff m pv ps is us
 have HNO : Hid (¬ ((0 ≤ m ∧ m ≤ 7) ∧ UtP m us ∧ PaP m pv ps ∧ InP m is) → ∀ W, Below w.heap.size w W → RightPost m pv ps is us w (.returned (.bool false)) W) := fun h W hW => right_no (fun hr => h (hri.1 hr)) hW
 have HYES : Hid ((0 ≤ m ∧ m ≤ 7) ∧ UtP m us ∧ PaP m pv ps ∧ InP m is → ∀ W, Below w.heap.size w W → RightPost m pv ps is us w (.returned (.bool true)) W) := fun h W hW => ⟨true, rfl, by simp [hri.2 h], hW⟩
 clear hp hi hu hS hri
 have HB : Hid (∀ o, Below w.heap.size w (w.alloc o)) := fun o => (Below.refl _ _).alloc (Nat.le_refl _) o
 have HK : Hid (∀ o : Obj, (w.alloc o).heap[w.heap.size]? = some o ∧ w.heap.size < (w.alloc o).heap.size) := fun o => ⟨heap_alloc_new w o, by simp⟩
 by_cases b0 : 0 ≤ m
 ·by_cases b7 : m ≤ 7
  ·by_cases q1 : UtP m us
   ·have HQ1 : Hid _ := fun W hW => rt (HC1.out W hW) q1
    by_cases q2 : PaP m pv ps
    ·have HQ2 : Hid _ := fun W hW => rt (HC2.out W hW) q2
     by_cases q3 : InP m is
     ·have HQ3 : Hid _ := fun W hW => rt (HC3.out W hW) q3
      have HX := Lib.hid (HYES.out ⟨⟨b0, b7⟩, q1, q2, q3⟩)
      clear q1 q2 q3
      go_enter Tryz.func49, Tryz.ntmps49
      go_wp2_with (first
       | (go_at_call 81; refine (HQ1.out _ (HB.out _)).mono ?_; rintro e w1 ⟨rfl, hb⟩; have HB1 := Lib.hid ((HB.out _).trans (hb.mono (HB.out _).size)); have HK1 := Lib.hid (box_kept (HK.out _).2 (HK.out _).1 hb); obtain ⟨c0, c1, c2, c3, c4, cf⟩ := five_cells HK1.out.1; clear hb)
       | (go_at_call 82; refine (HQ2.out _ HB1.out).mono ?_; rintro e w2 ⟨rfl, hb⟩; have HB2 := Lib.hid (HB1.out.trans (hb.mono HB1.out.size)); have HK2 := Lib.hid (box_kept (HK1.out).2 (HK1.out).1 hb); obtain ⟨c0, c1, c2, c3, c4, cf⟩ := five_cells HK2.out.1; clear hb)
       | (go_at_call 83; refine (HQ3.out _ HB2.out).mono ?_; rintro e w3 ⟨rfl, hb⟩; have HB3 := Lib.hid (HB2.out.trans (hb.mono HB2.out.size)); have HK3 := Lib.hid (box_kept (HK2.out).2 (HK2.out).1 hb); obtain ⟨c0, c1, c2, c3, c4, cf⟩ := five_cells HK3.out.1; clear hb))
      go_ret
      exact HX.out _ HB3.out
     ·have HQ3 : Hid _ := fun W hW => rf (HC3.out W hW) q3
      have HX := Lib.hid (HNO.out (fun h => q3 h.2.2.2))
      clear q1 q2 q3
      go_enter Tryz.func49, Tryz.ntmps49
      go_wp2_with (first
       | (go_at_call 81; refine (HQ1.out _ (HB.out _)).mono ?_; rintro e w1 ⟨rfl, hb⟩; have HB1 := Lib.hid ((HB.out _).trans (hb.mono (HB.out _).size)); have HK1 := Lib.hid (box_kept (HK.out _).2 (HK.out _).1 hb); obtain ⟨c0, c1, c2, c3, c4, cf⟩ := five_cells HK1.out.1; clear hb)
       | (go_at_call 82; refine (HQ2.out _ HB1.out).mono ?_; rintro e w2 ⟨rfl, hb⟩; have HB2 := Lib.hid (HB1.out.trans (hb.mono HB1.out.size)); have HK2 := Lib.hid (box_kept (HK1.out).2 (HK1.out).1 hb); obtain ⟨c0, c1, c2, c3, c4, cf⟩ := five_cells HK2.out.1; clear hb)
       | (go_at_call 83; refine (HQ3.out _ HB2.out).mono ?_; rintro e w3 ⟨rfl, hb⟩; have HB3 := Lib.hid (HB2.out.trans (hb.mono HB2.out.size)); have HK3 := Lib.hid (box_kept (HK2.out).2 (HK2.out).1 hb); obtain ⟨c0, c1, c2, c3, c4, cf⟩ := five_cells HK3.out.1; clear hb))
      go_ret
      exact HX.out _ HB3.out
    ·have HQ2 : Hid _ := fun W hW => rf (HC2.out W hW) q2
     have HX := Lib.hid (HNO.out (fun h => q2 h.2.2.1))
     clear q1 q2
     go_enter Tryz.func49, Tryz.ntmps49
     go_wp2_with (first
      | (go_at_call 81; refine (HQ1.out _ (HB.out _)).mono ?_; rintro e w1 ⟨rfl, hb⟩; have HB1 := Lib.hid ((HB.out _).trans (hb.mono (HB.out _).size)); have HK1 := Lib.hid (box_kept (HK.out _).2 (HK.out _).1 hb); obtain ⟨c0, c1, c2, c3, c4, cf⟩ := five_cells HK1.out.1; clear hb)
      | (go_at_call 82; refine (HQ2.out _ HB1.out).mono ?_; rintro e w2 ⟨rfl, hb⟩; have HB2 := Lib.hid (HB1.out.trans (hb.mono HB1.out.size)); have HK2 := Lib.hid (box_kept (HK1.out).2 (HK1.out).1 hb); obtain ⟨c0, c1, c2, c3, c4, cf⟩ := five_cells HK2.out.1; clear hb))
     go_ret
     exact HX.out _ HB2.out
   ·have HQ1 : Hid _ := fun W hW => rf (HC1.out W hW) q1
    have HX := Lib.hid (HNO.out (fun h => q1 h.2.1))
    clear q1
    go_enter Tryz.func49, Tryz.ntmps49
    go_wp2_with (first
     | (go_at_call 81; refine (HQ1.out _ (HB.out _)).mono ?_; rintro e w1 ⟨rfl, hb⟩; have HB1 := Lib.hid ((HB.out _).trans (hb.mono (HB.out _).size)); have HK1 := Lib.hid (box_kept (HK.out _).2 (HK.out _).1 hb); obtain ⟨c0, c1, c2, c3, c4, cf⟩ := five_cells HK1.out.1; clear hb))
    go_ret
    exact HX.out _ HB1.out
  ·have d7 : decide (m ≤ 7) = false := decide_eq_false b7
   have HX := Lib.hid (HNO.out (fun h => b7 h.1.2))
   clear b7
   go_enter Tryz.func49, Tryz.ntmps49
   go_wp2
   go_ret
   exact HX.out _ (HB.out _)
 ·have d0 : decide (0 ≤ m) = false := decide_eq_false b0
  have HX := Lib.hid (HNO.out (fun h => b0 h.1.1))
  clear b0
  go_enter Tryz.func49, Tryz.ntmps49
  go_wp2
  go_ret
  exact HX.out _ (HB.out _)
end Go.Proofs.YthncoigjfhmldaaGreat
