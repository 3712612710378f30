/- What is proved here: which parsers the document calls right, where no bytes are pending and the first test goes through; which parsers the document calls right: any parser. -/
import Derived.Test.YtbimhhcmfhooaaaM8
namespace Go.Proofs.Ytbimhhcmfhooaaa
open Go.RowKit
set_option linter.unusedVariables false

/-- Which parsers are right; the mode any number. -/
def RightP (m : Int) (pv : Nat) (ps : List Int) (is us : List UInt8) : Prop :=
  (0 ≤ m ∧ m ≤ 7 ∧ ps.length ≤ 16 ∧ is.length ≤ 2 ∧ (0 < us.length → m = 0 ∧ beginsL us = true)) ∧ (∀ x ∈ ps, 0 ≤ x ∧ x ≤ 65535) ∧ (∀ b ∈ is, interB b = true) ∧ (pv = 0 ∨ (60 ≤ pv ∧ pv ≤ 63)) ∧ ((m = 4 ∨ m = 5) ∨ (pv = 0 ∧ ps.length = 0)) ∧ ((m = 2 ∨ m = 5) ↔ 0 < is.length)
def RightPost (m : Int) (pv : Nat) (ps : List Int) (is us : List UInt8) (w : World) (e : Ending) (w' : World) : Prop :=
  ∃ r, e = .returned (.bool r) ∧ (r = true ↔ RightP m pv ps is us) ∧ Below w.heap.size w w'
theorem right_no {m : Int} {pv : Nat} {ps : List Int} {is us : List UInt8} {w w' : World} (h : ¬ RightP m pv ps is us) (hb : Below w.heap.size w w') : RightPost m pv ps is us w (.returned (.bool false)) w' := ⟨false, rfl, by simp [h], hb⟩

def RelP (n : Nat) (w : World) (x : Obj) (P : Nat → Prop) (i : Value) (wr : World) : Prop := ∃ k : Nat, k ≤ n ∧ i = .int .i64 (k : Int) ∧ P k ∧ wr = w.alloc x
set_option maxHeartbeats 2000000 in
set_option maxRecDepth 100000 in
theorem right_nil (vp vi vu : Value) (m : Int) (pv : Nat) (ps : List Int) (is : List UInt8) (S : Nat → Prop) (w : World) (hp : SL vI w S vp ps) (hi : SL vB w S vi is) (hu : SL vB w S vu []) (hS : ∀ x, S x → x < w.heap.size) (hm0 : 0 ≤ m) (hm7 : m ≤ 7) (hps : ps.length ≤ 16) (his : is.length ≤ 2) (hpv : pv < 256) :
    Calls Try.prog 10 #[.agg #[.int .i64 m, .int .u8 (pv : Int), vp, vi, vu]] w (RightPost m pv ps is [] w) := by
  have HP := Lib.hid hp
  have HI := Lib.hid hi
  have HSS := Lib.hid hS
  obtain ⟨Ap, cp, rfl, p1, p2⟩ := hp.form
  obtain ⟨Ai, ci, rfl, i1, i2⟩ := hi.form
  obtain ⟨Au, cu, rfl, u1, u2⟩ := hu.form
  clear hp hi hu hS
  have d0 : decide (m < 0) = false := by simp; omega
  have d1 : decide (7 < m) = false := by simp; omega
  have d2 : decide ((16 : Int) < (ps.length : Int)) = false := by simp; omega
  have d3 : decide ((2 : Int) < (is.length : Int)) = false := by simp; omega
  go_enter Try.func10, Try.ntmps10
  go_wp2
  go_loopw [3] (fun i wr => RelP ps.length w (.cells #[Value.int .i64 m, Value.int .u8 (pv : Int), Value.slice Ap ps.length cp, Value.slice Ai is.length ci, Value.slice Au 0 cu] 25) (fun k => ∀ x ∈ ps.take k, 0 ≤ x ∧ x ≤ 65535) i wr) (fun i _ => ps.length - (intOf i).toNat)
  case atStart => exact ⟨0, Nat.zero_le _, rfl, by simp, rfl⟩
  case round =>
    obtain ⟨k, hk, rfl, hall, rfl⟩ := hrel
    have HALL := Lib.hid hall
    clear hall
    by_cases hlt : k < ps.length
    · obtain ⟨x, hx⟩ : ∃ x, ps[k]? = some x := ⟨_, List.getElem?_eq_getElem hlt⟩
      have HX := Lib.hid hx
      obtain ⟨ad, hA, e1⟩ := HP.out.get k x hx
      have hin : ad.block < w.heap.size := by
        obtain ⟨A', c', hv, _, _, h3⟩ := HP.out
        simp only [Value.slice.injEq] at hv
        obtain ⟨ad', hA', hb, _⟩ := h3 (by omega)
        have : ad = ad' := by have := hA.symm.trans (hv.1.trans hA'); simpa using this
        rw [this]; exact HSS.out _ hb
      have e1' : ∀ o, (w.alloc o).cell? (ad.add k) = some (.int .i64 x) := fun o => (World.cell?_alloc_lt w o _ (by rw [block_add]; exact hin)).trans e1
      have e2 := e1' (.cells #[Value.int .i64 m, Value.int .u8 (pv : Int), Value.slice Ap ps.length cp, Value.slice Ai is.length ci, Value.slice Au 0 cu] 25)
      subst hA
      clear hx e1' e1
      have hki : (k : Int) < (ps.length : Int) := by omega
      have HNO : Hid (¬ (0 ≤ x ∧ x ≤ 65535) → ¬ RightP m pv ps is []) := fun hn hr => hn (hr.2.1 x (List.mem_of_getElem? HX.out))
      by_cases hx0 : x < 0
      · go_wp2
        go_ret
        exact right_no (HNO.out (by omega)) ((Below.refl _ _).alloc (Nat.le_refl _) _)
      · have g0 : decide (x < 0) = false := by simp; omega
        by_cases hx1 : 65535 < x
        · go_wp2
          go_ret
          exact right_no (HNO.out (by omega)) ((Below.refl _ _).alloc (Nat.le_refl _) _)
        · have g1 : decide (65535 < x) = false := by simp; omega
          go_wp2
          go_roundw
          case rel =>
            refine ⟨k + 1, hlt, by go_num, ?_, rfl⟩
            intro y hy
            rw [List.take_succ_eq_append_getElem hlt, List.mem_append, List.mem_singleton] at hy
            rcases hy with hy | hy
            · exact HALL.out y hy
            · have : x = ps[k] := (List.getElem?_eq_some_iff.1 HX.out).2.symm
              rw [hy, ← this]; omega
          case measure => simp [intOf]; omega
    · obtain rfl : k = ps.length := by omega
      rw [List.take_length] at HALL
      go_wp2
      go_loopw [4] (fun i wr => RelP is.length w (.cells #[Value.int .i64 m, Value.int .u8 (pv : Int), Value.slice Ap ps.length cp, Value.slice Ai is.length ci, Value.slice Au 0 cu] 25) (fun k => ∀ x ∈ is.take k, interB x = true) i wr) (fun i _ => is.length - (intOf i).toNat)
      case atStart => exact ⟨0, Nat.zero_le _, rfl, by simp, rfl⟩
      case round =>
        obtain ⟨k, hk, rfl, hall, rfl⟩ := hrel
        have HALI := Lib.hid hall
        clear hall
        by_cases hlt : k < is.length
        · obtain ⟨x, hx⟩ : ∃ x, is[k]? = some x := ⟨_, List.getElem?_eq_getElem hlt⟩
          have HX := Lib.hid hx
          obtain ⟨ad, hA, e1⟩ := HI.out.get k x hx
          have hin : ad.block < w.heap.size := by
            obtain ⟨A', c', hv, _, _, h3⟩ := HI.out
            simp only [Value.slice.injEq] at hv
            obtain ⟨ad', hA', hb, _⟩ := h3 (by omega)
            have : ad = ad' := by have := hA.symm.trans (hv.1.trans hA'); simpa using this
            rw [this]; exact HSS.out _ hb
          have e1' : ∀ o, (w.alloc o).cell? (ad.add k) = some (.int .u8 (x.toNat : Int)) := fun o => (World.cell?_alloc_lt w o _ (by rw [block_add]; exact hin)).trans e1
          have e2 := e1' (.cells #[Value.int .i64 m, Value.int .u8 (pv : Int), Value.slice Ap ps.length cp, Value.slice Ai is.length ci, Value.slice Au 0 cu] 25)
          subst hA
          clear hx e1' e1
          have hki : (k : Int) < (is.length : Int) := by omega
          cases hb : interB x
          · have HNO : Hid (¬ RightP m pv ps is []) := fun hr => by
              have := hr.2.2.1 x (List.mem_of_getElem? HX.out)
              rw [hb] at this
              exact absurd this (by simp)
            have HB := Lib.hid hb
            clear hb
            go_wp2_with (go_at_call 22; (with_reducible refine (interr_any x _).mono ?_); rintro e w4 ⟨rfl, rfl⟩; rw [HB.out])
            go_ret
            exact right_no HNO.out ((Below.refl _ _).alloc (Nat.le_refl _) _)
          · have HB := Lib.hid hb
            clear hb
            go_wp2_with (go_at_call 22; (with_reducible refine (interr_any x _).mono ?_); rintro e w4 ⟨rfl, rfl⟩; rw [HB.out])
            go_roundw
            case rel =>
              refine ⟨k + 1, hlt, by go_num, ?_, rfl⟩
              intro y hy
              rw [List.take_succ_eq_append_getElem hlt, List.mem_append, List.mem_singleton] at hy
              rcases hy with hy | hy
              · exact HALI.out y hy
              · have : x = is[k] := (List.getElem?_eq_some_iff.1 HX.out).2.symm
                rw [hy, ← this]; exact HB.out
            case measure => simp [intOf]; omega
        · obtain rfl : k = is.length := by omega
          rw [List.take_length] at HALI
          have HF : Hid (∀ (e : Ending) (r : Bool) (w' : World), e = .returned (.bool r) → Below w.heap.size w w' → (r = true ↔ ((pv = 0 ∨ (60 ≤ pv ∧ pv ≤ 63)) ∧ ((m = 4 ∨ m = 5) ∨ (pv = 0 ∧ ps.length = 0)) ∧ ((m = 2 ∨ m = 5) ↔ 0 < is.length))) → RightPost m pv ps is [] w e w') := fun e r w' he hb hr => by
            refine ⟨r, he, hr.trans ⟨fun h => ⟨⟨hm0, hm7, hps, his, fun h => absurd h (by simp)⟩, HALL.out, HALI.out, h⟩, fun h => h.2.2.2⟩, hb⟩
          go_wp2
          all_goals go_ret
          all_goals refine HF.out _ _ _ rfl ((Below.refl _ _).alloc (Nat.le_refl _) _) ?_
          all_goals clear HF HALL HALI HP HI HSS
          all_goals clear d0 d1 d2 d3 hpv hps his
          all_goals first | omega | (simp; omega) | (simp at *; omega) | (simp_all; done) | (simp_all; omega) | (rcases is with _ | ⟨b, is⟩ <;> simp_all; done) | (rcases is with _ | ⟨b, is⟩ <;> simp_all <;> omega)
end Go.Proofs.Ytbimhhcmfhooaaa

namespace Go.Proofs.Ytbimhhcmfhooaaa
open Go.RowKit
set_option linter.unusedVariables false
set_option linter.unusedSimpArgs false

set_option maxHeartbeats 2000000 in
set_option maxRecDepth 100000 in
theorem right_pend (vp vi vu : Value) (pv : Nat) (ps : List Int) (is us : List UInt8) (S : Nat → Prop) (w : World) (hp : SL vI w S vp ps) (hi : SL vB w S vi is) (hu : SL vB w S vu us) (hS : ∀ x, S x → x < w.heap.size) (hu0 : 0 < us.length) (hbg : beginsL us = true) (hps : ps.length ≤ 16) (his : is.length ≤ 2) (hpv : pv < 256) :
    Calls Try.prog 10 #[.agg #[.int .i64 0, .int .u8 (pv : Int), vp, vi, vu]] w (RightPost 0 pv ps is us w) := by
  have HP := Lib.hid hp
  have HI := Lib.hid hi
  have HSS := Lib.hid hS
  obtain ⟨Ap, cp, rfl, p1, p2⟩ := hp.form
  obtain ⟨Ai, ci, rfl, i1, i2⟩ := hi.form
  obtain ⟨Au, cu, rfl, u1, u2⟩ := hu.form
  have HU := Lib.hid hu
  have hul := beginsL_len _ hbg
  have hul3 : us.length ≤ 3 := hul.2
  have HBG := Lib.hid hbg
  clear hp hi hu hS hbg hul
  have d2 : decide ((16 : Int) < (ps.length : Int)) = false := by simp; omega
  have d3 : decide ((2 : Int) < (is.length : Int)) = false := by simp; omega
  go_enter Try.func10, Try.ntmps10
  have hbe := beginsr_any (Value.slice Au us.length cu) us w.heap.size (w.alloc (.cells #[Value.int .i64 0, Value.int .u8 (pv : Int), Value.slice Ap ps.length cp, Value.slice Ai is.length ci, Value.slice Au us.length cu] 25)) ((HU.out.bs HSS.out).alloc (Nat.le_refl _) _)
  rw [HBG.out] at hbe
  go_wp2_with (go_at_call 21; refine hbe.mono ?_; rintro e w4 ⟨rfl, rfl⟩)
  clear hbe
  go_loopw [3] (fun i wr => RelP ps.length w (.cells #[Value.int .i64 0, Value.int .u8 (pv : Int), Value.slice Ap ps.length cp, Value.slice Ai is.length ci, Value.slice Au us.length cu] 25) (fun k => ∀ x ∈ ps.take k, 0 ≤ x ∧ x ≤ 65535) i wr) (fun i _ => ps.length - (intOf i).toNat)
  case atStart => exact ⟨0, Nat.zero_le _, rfl, by simp, rfl⟩
  case round =>
    obtain ⟨k, hk, rfl, hall, rfl⟩ := hrel
    have HALL := Lib.hid hall
    clear hall
    by_cases hlt : k < ps.length
    · obtain ⟨x, hx⟩ : ∃ x, ps[k]? = some x := ⟨_, List.getElem?_eq_getElem hlt⟩
      have HX := Lib.hid hx
      obtain ⟨ad, hA, e1⟩ := HP.out.get k x hx
      have hin : ad.block < w.heap.size := by
        obtain ⟨A', c', hv, _, _, h3⟩ := HP.out
        simp only [Value.slice.injEq] at hv
        obtain ⟨ad', hA', hb, _⟩ := h3 (by omega)
        have : ad = ad' := by have := hA.symm.trans (hv.1.trans hA'); simpa using this
        rw [this]; exact HSS.out _ hb
      have e1' : ∀ o, (w.alloc o).cell? (ad.add k) = some (.int .i64 x) := fun o => (World.cell?_alloc_lt w o _ (by rw [block_add]; exact hin)).trans e1
      have e2 := e1' (.cells #[Value.int .i64 0, Value.int .u8 (pv : Int), Value.slice Ap ps.length cp, Value.slice Ai is.length ci, Value.slice Au us.length cu] 25)
      subst hA
      clear hx e1' e1
      have hki : (k : Int) < (ps.length : Int) := by omega
      have HNO : Hid (¬ (0 ≤ x ∧ x ≤ 65535) → ¬ RightP 0 pv ps is us) := fun hn hr => hn (hr.2.1 x (List.mem_of_getElem? HX.out))
      by_cases hx0 : x < 0
      · go_wp2
        go_ret
        exact right_no (HNO.out (by omega)) ((Below.refl _ _).alloc (Nat.le_refl _) _)
      · have g0 : decide (x < 0) = false := by simp; omega
        by_cases hx1 : 65535 < x
        · go_wp2
          go_ret
          exact right_no (HNO.out (by omega)) ((Below.refl _ _).alloc (Nat.le_refl _) _)
        · have g1 : decide (65535 < x) = false := by simp; omega
          go_wp2
          go_roundw
          case rel =>
            refine ⟨k + 1, hlt, by go_num, ?_, rfl⟩
            intro y hy
            rw [List.take_succ_eq_append_getElem hlt, List.mem_append, List.mem_singleton] at hy
            rcases hy with hy | hy
            · exact HALL.out y hy
            · have : x = ps[k] := (List.getElem?_eq_some_iff.1 HX.out).2.symm
              rw [hy, ← this]; omega
          case measure => simp [intOf]; omega
    · obtain rfl : k = ps.length := by omega
      rw [List.take_length] at HALL
      go_wp2
      go_loopw [4] (fun i wr => RelP is.length w (.cells #[Value.int .i64 0, Value.int .u8 (pv : Int), Value.slice Ap ps.length cp, Value.slice Ai is.length ci, Value.slice Au us.length cu] 25) (fun k => ∀ x ∈ is.take k, interB x = true) i wr) (fun i _ => is.length - (intOf i).toNat)
      case atStart => exact ⟨0, Nat.zero_le _, rfl, by simp, rfl⟩
      case round =>
        obtain ⟨k, hk, rfl, hall, rfl⟩ := hrel
        have HALI := Lib.hid hall
        clear hall
        by_cases hlt : k < is.length
        · obtain ⟨x, hx⟩ : ∃ x, is[k]? = some x := ⟨_, List.getElem?_eq_getElem hlt⟩
          have HX := Lib.hid hx
          obtain ⟨ad, hA, e1⟩ := HI.out.get k x hx
          have hin : ad.block < w.heap.size := by
            obtain ⟨A', c', hv, _, _, h3⟩ := HI.out
            simp only [Value.slice.injEq] at hv
            obtain ⟨ad', hA', hb, _⟩ := h3 (by omega)
            have : ad = ad' := by have := hA.symm.trans (hv.1.trans hA'); simpa using this
            rw [this]; exact HSS.out _ hb
          have e1' : ∀ o, (w.alloc o).cell? (ad.add k) = some (.int .u8 (x.toNat : Int)) := fun o => (World.cell?_alloc_lt w o _ (by rw [block_add]; exact hin)).trans e1
          have e2 := e1' (.cells #[Value.int .i64 0, Value.int .u8 (pv : Int), Value.slice Ap ps.length cp, Value.slice Ai is.length ci, Value.slice Au us.length cu] 25)
          subst hA
          clear hx e1' e1
          have hki : (k : Int) < (is.length : Int) := by omega
          cases hb : interB x
          · have HNO : Hid (¬ RightP 0 pv ps is us) := fun hr => by
              have := hr.2.2.1 x (List.mem_of_getElem? HX.out)
              rw [hb] at this
              exact absurd this (by simp)
            have HB := Lib.hid hb
            clear hb
            go_wp2_with (go_at_call 22; (with_reducible refine (interr_any x _).mono ?_); rintro e w4 ⟨rfl, rfl⟩; rw [HB.out])
            go_ret
            exact right_no HNO.out ((Below.refl _ _).alloc (Nat.le_refl _) _)
          · have HB := Lib.hid hb
            clear hb
            go_wp2_with (go_at_call 22; (with_reducible refine (interr_any x _).mono ?_); rintro e w4 ⟨rfl, rfl⟩; rw [HB.out])
            go_roundw
            case rel =>
              refine ⟨k + 1, hlt, by go_num, ?_, rfl⟩
              intro y hy
              rw [List.take_succ_eq_append_getElem hlt, List.mem_append, List.mem_singleton] at hy
              rcases hy with hy | hy
              · exact HALI.out y hy
              · have : x = is[k] := (List.getElem?_eq_some_iff.1 HX.out).2.symm
                rw [hy, ← this]; exact HB.out
            case measure => simp [intOf]; omega
        · obtain rfl : k = is.length := by omega
          rw [List.take_length] at HALI
          have HF : Hid (∀ (e : Ending) (r : Bool) (w' : World), e = .returned (.bool r) → Below w.heap.size w w' → (r = true ↔ ((pv = 0 ∨ (60 ≤ pv ∧ pv ≤ 63)) ∧ (((0 : Int) = 4 ∨ (0 : Int) = 5) ∨ (pv = 0 ∧ ps.length = 0)) ∧ (((0 : Int) = 2 ∨ (0 : Int) = 5) ↔ 0 < is.length))) → RightPost 0 pv ps is us w e w') := fun e r w' he hb hr => by
            refine ⟨r, he, hr.trans ⟨fun h => ⟨⟨by omega, by omega, hps, his, fun _ => ⟨rfl, HBG.out⟩⟩, HALL.out, HALI.out, h⟩, fun h => h.2.2.2⟩, hb⟩
          go_wp2
          all_goals go_ret
          all_goals refine HF.out _ _ _ rfl ((Below.refl _ _).alloc (Nat.le_refl _) _) ?_
          all_goals clear HF HALL HALI HP HI HSS HU HBG hul3
          all_goals clear d2 d3 hpv hps his
          all_goals first | omega | (simp; omega) | (simp at *; omega) | (simp_all; done) | (simp_all; omega) | (rcases is with _ | ⟨b, is⟩ <;> simp_all; done) | (rcases is with _ | ⟨b, is⟩ <;> simp_all <;> omega)

set_option maxHeartbeats 1000000 in
set_option maxRecDepth 100000 in
theorem right_not (vp vi vu : Value) (m : Int) (pv : Nat) (ps : List Int) (is us : List UInt8) (S : Nat → Prop) (w : World) (hp : SL vI w S vp ps) (hi : SL vB w S vi is) (hu : SL vB w S vu us) (hS : ∀ x, S x → x < w.heap.size) (hm0 : -9223372036854775808 ≤ m) (hm7 : m ≤ 9223372036854775807) (hus : us.length ≤ 1048576)
    (hno : m < 0 ∨ 7 < m ∨ 16 < ps.length ∨ 2 < is.length ∨ (0 < us.length ∧ (m ≠ 0 ∨ beginsL us = false))) :
    Calls Try.prog 10 #[.agg #[.int .i64 m, .int .u8 (pv : Int), vp, vi, vu]] w (RightPost m pv ps is us w) := by
  have HNO : Hid (¬ RightP m pv ps is us) := by
    rintro ⟨⟨a, b, c, d, e⟩, -⟩
    rcases hno with h | h | h | h | ⟨h, h2⟩
    · omega
    · omega
    · omega
    · omega
    · obtain ⟨e1, e2⟩ := e h
      rcases h2 with h2 | h2
      · exact h2 e1
      · rw [e2] at h2; cases h2
  have HU := Lib.hid (hu.bs hS)
  obtain ⟨Ap, cp, rfl, p1, p2⟩ := hp.form
  obtain ⟨Ai, ci, rfl, i1, i2⟩ := hi.form
  obtain ⟨Au, cu, rfl, u1, u2⟩ := hu.form
  clear hp hi hu hS
  by_cases c0 : m < 0
  · clear hno
    have d0 : decide (m < 0) = true := by simpa using c0
    go_enter Try.func10, Try.ntmps10
    go_wp2
    go_ret
    exact right_no HNO.out ((Below.refl _ _).alloc (Nat.le_refl _) _)
  have d0 : decide (m < 0) = false := by simp; omega
  by_cases c1 : 7 < m
  · clear hno
    have d1 : decide (7 < m) = true := by simpa using c1
    go_enter Try.func10, Try.ntmps10
    go_wp2
    go_ret
    exact right_no HNO.out ((Below.refl _ _).alloc (Nat.le_refl _) _)
  have d1 : decide (7 < m) = false := by simp; omega
  by_cases c2 : 16 < ps.length
  · clear hno
    have d2 : decide ((16 : Int) < (ps.length : Int)) = true := by simp; omega
    go_enter Try.func10, Try.ntmps10
    go_wp2
    go_ret
    exact right_no HNO.out ((Below.refl _ _).alloc (Nat.le_refl _) _)
  have d2 : decide ((16 : Int) < (ps.length : Int)) = false := by simp; omega
  by_cases c3 : 2 < is.length
  · clear hno
    have d3 : decide ((2 : Int) < (is.length : Int)) = true := by simp; omega
    go_enter Try.func10, Try.ntmps10
    go_wp2
    go_ret
    exact right_no HNO.out ((Below.refl _ _).alloc (Nat.le_refl _) _)
  have d3 : decide ((2 : Int) < (is.length : Int)) = false := by simp; omega
  obtain ⟨c4, c5⟩ : 0 < us.length ∧ (m ≠ 0 ∨ beginsL us = false) := by
    rcases hno with h | h | h | h | h
    · omega
    · omega
    · omega
    · omega
    · exact h
  clear hno
  by_cases c6 : m = 0
  · subst c6
    have c7 : beginsL us = false := by
      rcases c5 with h | h
      · exact absurd rfl h
      · exact h
    have hbe := beginsr_any (Value.slice Au us.length cu) us w.heap.size (w.alloc (.cells #[Value.int .i64 0, Value.int .u8 (pv : Int), Value.slice Ap ps.length cp, Value.slice Ai is.length ci, Value.slice Au us.length cu] 25)) (HU.out.alloc (Nat.le_refl _) _)
    rw [c7] at hbe
    clear c5 c7
    go_enter Try.func10, Try.ntmps10
    go_wp2_with (go_at_call 21; refine hbe.mono ?_; rintro e w4 ⟨rfl, rfl⟩)
    go_ret
    exact right_no HNO.out ((Below.refl _ _).alloc (Nat.le_refl _) _)
  · have c7 : (m != 0) = true := by simp; omega
    clear c5
    go_enter Try.func10, Try.ntmps10
    go_wp2
    go_ret
    exact right_no HNO.out ((Below.refl _ _).alloc (Nat.le_refl _) _)
theorem rightr_any (vp vi vu : Value) (m : Int) (pv : Nat) (ps : List Int) (is us : List UInt8) (S : Nat → Prop) (w : World) (hp : SL vI w S vp ps) (hi : SL vB w S vi is) (hu : SL vB w S vu us) (hS : ∀ x, S x → x < w.heap.size) (hm0 : -9223372036854775808 ≤ m) (hm7 : m ≤ 9223372036854775807) (hus : us.length ≤ 1048576) (hpv : pv < 256) :
    Calls Try.prog 10 #[.agg #[.int .i64 m, .int .u8 (pv : Int), vp, vi, vu]] w (RightPost m pv ps is us w) := by
  by_cases hno : m < 0 ∨ 7 < m ∨ 16 < ps.length ∨ 2 < is.length ∨ (0 < us.length ∧ (m ≠ 0 ∨ beginsL us = false))
  · exact right_not vp vi vu m pv ps is us S w hp hi hu hS hm0 hm7 hus hno
  · by_cases hl : us.length = 0
    · have : us = [] := List.eq_nil_of_length_eq_zero hl
      subst this
      exact right_nil vp vi vu m pv ps is S w hp hi hu hS (by omega) (by omega) (by omega) (by omega) hpv
    · obtain rfl : m = 0 := by
        by_cases h : m = 0
        · exact h
        · exact absurd (.inr (.inr (.inr (.inr ⟨by omega, .inl h⟩)))) hno
      have hb : beginsL us = true := by
        cases h : beginsL us with
        | true => rfl
        | false => exact absurd (.inr (.inr (.inr (.inr ⟨by omega, .inr h⟩)))) hno
      exact right_pend vp vi vu pv ps is us S w hp hi hu hS (by omega) hb (by omega) (by omega) hpv
/-- A state that may be is right. -/
theorem rightP_ok {p : Pr} (h : PrOk p) : RightP (p.mode : Int) p.priv p.params p.inter p.utf := by
  have hm := h.mode
  refine ⟨⟨by omega, by omega, h.params, h.inter, fun hu => ?_⟩, h.each, h.eachI, h.priv, ?_, ?_⟩
  · rcases h.utf with e | ⟨e1, e2⟩
    · rw [e] at hu; simp at hu
    · exact ⟨by omega, e2⟩
  · rcases h.csi with e | e | ⟨e1, e2⟩
    · exact .inl (.inl (by omega))
    · exact .inl (.inr (by omega))
    · exact .inr ⟨e1, by rw [e2]; rfl⟩
  · rw [← h.with_]
    omega
end Go.Proofs.Ytbimhhcmfhooaaa
