/- What is proved here: parts of the proof of SnapTells. -/
import Derived.Test.YtbegccgpmhbnfaaGreatR11
namespace Go.Proofs.YtbegccgpmhbnfaaGreat
open Go.RowKit
set_option linter.unusedVariables false
set_option linter.unusedSimpArgs false
set_option maxRecDepth 10000
set_option maxHeartbeats 1000000
theorem cellEq {env : List DV} {A B I J : E} {l m : List Cl} {k j : Nat} (hA : A.den env = cellsD l) (hB : B.den env = cellsD m) (hI : (I.den env).int.toNat = k) (hJ : (J.den env).int.toNat = j) (k1 : k < l.length) (j1 : j < m.length) :
  ((E.O .and (.O .eq (.O (.at 0) A I) (.O (.at 0) B J)) (.O .and (.O .eq (.O (.at 1) A I) (.O (.at 1) B J)) (.O .and (.O .eq (.O (.at 2) A I) (.O (.at 2) B J)) (.B true)))).den env).bool = decide (l[k] = m[j]) := by
 have e1 := cells_at k1
 have e2 := cells_at j1
 subst hI; subst hJ
 have hx : ∀ q, (E.O (.at q) A I).den env = ((clD l[(I.den env).int.toNat]).getD q (.I 0)) := fun q => by
  show ((A.den env).rows.getD (I.den env).int.toNat []).getD q (.I 0) = _
  rw [hA, e1]
 have hy : ∀ q, (E.O (.at q) B J).den env = ((clD m[(J.den env).int.toNat]).getD q (.I 0)) := fun q => by
  show ((B.den env).rows.getD (J.den env).int.toNat []).getD q (.I 0) = _
  rw [hB, e2]
 have h3 : ∀ q, (E.O .eq (.O (.at q) A I) (.O (.at q) B J)).den env = .B (decide (((clD l[(I.den env).int.toNat]).getD q (.I 0)).int = ((clD m[(J.den env).int.toNat]).getD q (.I 0)).int)) := fun q => by
  show DV.B (decide (((E.O (.at q) A I).den env).int = ((E.O (.at q) B J).den env).int)) = _
  rw [hx, hy]
 show (((E.O .eq (.O (.at 0) A I) (.O (.at 0) B J)).den env).bool && (((E.O .eq (.O (.at 1) A I) (.O (.at 1) B J)).den env).bool && (((E.O .eq (.O (.at 2) A I) (.O (.at 2) B J)).den env).bool && true))) = _
 rw [h3, h3, h3]
 generalize l[(I.den env).int.toNat] = x
 generalize m[(J.den env).int.toNat] = y
 obtain ⟨x1, x2, x3⟩ := x
 obtain ⟨y1, y2, y3⟩ := y
 simp only [clD, List.getD_cons_zero, List.getD_cons_succ, DV.int, DV.bool]
 by_cases h : (⟨x1, x2, x3⟩ : Cl) = ⟨y1, y2, y3⟩
 ·rw [decide_eq_true h]
  cases h
  simp
 ·rw [decide_eq_false h]
  simp only [Cl.mk.injEq, not_and] at h
  by_cases a : x1 = y1
  ·by_cases b : x2 = y2
   ·have := h a b
    simp [a, b]; omega
   ·have : ¬ (x2 : Int) = y2 := by omega
    simp [a, this]
  ·simp [a]
theorem bool_iff {v : Bool} {P : Prop} (hv : v = true ↔ P) : (P → v = true) ∧ (¬ P → v = false) := by
 refine ⟨hv.2, fun h => ?_⟩
 cases v
 ·rfl
 ·exact absurd (hv.1 rfl) h
theorem ret_f {v : Bool} {P : Prop} (hv : v = true ↔ P) {env : List DV} {cx : List (List DV → Prop)} (h : ¬ P) : (Tree.ret [.B false]).den SpF1 (fun es => es = [DV.B v]) env cx := dret (by rw [(bool_iff hv).2 h]; rfl)
theorem ret_t {v : Bool} {P : Prop} (hv : v = true ↔ P) {env : List DV} {cx : List (List DV → Prop)} (h : P) : (Tree.ret [.B true]).den SpF1 (fun es => es = [DV.B v]) env cx := dret (by rw [hv.2 h]; rfl)
theorem cellsRight_sp {l : List Cl} {r c : Nat} {v : Bool} (r1 : 1 ≤ r) (r2 : r ≤ 1000) (c1 : 1 ≤ c) (c2 : c ≤ 1000) (hl : l.length ≤ 1048576) (hv : v = true ↔ CellsR l r c) : Spn n_r7_cellsRight sg_r7_cellsRight [cellsD l, .I r, .I c] [.B v] := by
 have hrl := rc_le r2 c2
 have e0 : (r : Int) * (c : Int) = ((r * c : Nat) : Int) := by push_cast; rfl
 refine rd_r7_cellsRight rfl (dfit (show (-9223372036854775808 : Int) ≤ (r : Int) * (c : Int) by rw [e0]; omega) (show (r : Int) * (c : Int) ≤ 9223372036854775807 by rw [e0]; omega) (deq (fun h => ?_) fun h => ret_f hv ?_))
 ·replace h : (l.length : Int) = (r : Int) * (c : Int) := by rw [← cells_len]; exact h
  rw [e0] at h
  have hn : l.length = r * c := by omega
  have hG : GOk l.length r c := ⟨c1, c2, r1, r2, hn⟩
  refine dloop (fun k : Nat => [.I k]) (fun k => k ≤ l.length ∧ ∀ j x, j < k → l[j]? = some x → cellB x = true) (fun k => l.length - k) 0 rfl ⟨Nat.zero_le _, fun j x hj => absurd hj (by omega)⟩ fun k hk _ => ?_
  obtain ⟨hk, ha⟩ := hk
  refine dlt (fun g => ?_) fun g => ?_
  ·replace g : (k : Int) < l.length := by rw [← cells_len]; exact g
   have k1 : k < l.length := by omega
   have e1 := cells_at k1
   refine nle (show (0 : Int) ≤ k by omega) (dcall (cellRight_sp l[k]) rfl ?_ rfl (dbr (fun h0 => ?_) fun h0 => ret_f hv ?_))
   ·exact congrArg (fun x : List DV => [x.getD 0 (.I 0), x.getD 1 (.I 0), x.getD 2 (.I 0)]) e1
   ·replace h0 : cellB l[k] = true := h0
    refine dfit (show (-9223372036854775808 : Int) ≤ (k : Int) + 1 by omega) (show (k : Int) + 1 ≤ 9223372036854775807 by omega) (dagain rfl ⟨k + 1, rfl, ⟨by omega, fun j x hj hx => ?_⟩, by omega⟩)
    rcases Nat.lt_succ_iff_lt_or_eq.1 hj with hj | rfl
    ·exact ha j x hj hx
    ·rw [List.getElem?_eq_getElem k1] at hx
     cases hx
     exact h0
   ·replace h0 : cellB l[k] = false := h0
    intro g2
    rw [g2.2.1 _ (List.getElem_mem k1)] at h0
    cases h0
  ·replace g : ¬ (k : Int) < l.length := by rw [← cells_len]; exact g
   have hall : ∀ x ∈ l, cellB x = true := fun x hx => by
    obtain ⟨j, hj⟩ := List.mem_iff_getElem?.1 hx
    exact ha j x (by have := (List.getElem?_eq_some_iff.1 hj).1; omega) hj
   refine dloop (fun y : Nat => [.I y]) (fun y => y ≤ r ∧ ∀ y', y' < y → RowW l c y') (fun y => r - y) 0 rfl ⟨Nat.zero_le _, fun j hj => absurd hj (by omega)⟩ fun y hy _ => ?_
   obtain ⟨hy, hw⟩ := hy
   refine dlt (fun g2 => ?_) fun g2 => ?_
   ·replace g2 : (y : Int) < r := g2
    have y1 : y < r := by omega
    have hml := mendL_len l (c : Int) (y : Int)
    refine dcall (mend_sp l c y (by omega)) rfl rfl rfl (dloop (fun x : Nat => [.I x]) (fun x => x ≤ c ∧ ∀ x', x' < x → getC (mendL l c y) (y * c + x') = getC l (y * c + x')) (fun x => c - x) 0 rfl ⟨Nat.zero_le _, fun j hj => absurd hj (by omega)⟩ fun x hx _ => ?_)
    obtain ⟨hx, hs⟩ := hx
    refine dlt (fun g3 => ?_) fun g3 => ?_
    ·replace g3 : (x : Int) < c := g3
     have x1 : x < c := by omega
     have hin := rc_lt (r := r) (c := c) (y := y) (x := x) y1 x1
     have e2 : (y : Int) * (c : Int) = ((y * c : Nat) : Int) := by push_cast; rfl
     have i1 : ((y : Int) * (c : Int) + x).toNat = y * c + x := by rw [e2]; omega
     have l1 : y * c + x < l.length := by omega
     have l2 : y * c + x < (mendL l (c : Int) (y : Int)).length := by omega
     refine dfit (show (-9223372036854775808 : Int) ≤ (y : Int) * (c : Int) by rw [e2]; omega) (show (y : Int) * (c : Int) ≤ 9223372036854775807 by rw [e2]; omega) ?_
     refine dfit (show (-9223372036854775808 : Int) ≤ (y : Int) * (c : Int) + x by rw [e2]; omega) (show (y : Int) * (c : Int) + x ≤ 9223372036854775807 by rw [e2]; omega) ?_
     refine dwithin (show (0 : Int) ≤ (y : Int) * (c : Int) + x by rw [e2]; omega) (show (y : Int) * (c : Int) + x < ((cellsD (mendL l (c : Int) (y : Int))).rows.length : Int) by rw [cells_len, e2]; omega) ?_
     refine nlt (show (y : Int) * (c : Int) + x < ((cellsD l).rows.length : Int) by rw [cells_len, e2]; omega) ?_
     have hE := cellEq (env := [cellsD l, .I (r : Int), .I (c : Int)] ++ [DV.I (k : Int)] ++ [DV.I (y : Int)] ++ [cellsD (mendL l (c : Int) (y : Int))] ++ [DV.I (x : Int)]) (A := .V 5) (B := .V 0) (I := .O .add (.O .mul (.V 4) (.V 2)) (.V 6)) (J := .O .add (.O .mul (.V 4) (.V 2)) (.V 6)) (l := mendL l (c : Int) (y : Int)) (m := l) rfl rfl i1 i1 l2 l1
     have hgc : ∀ {z : List Cl} (hz : y * c + x < z.length), getC z (y * c + x) = z[y * c + x] := fun hz => by
      unfold getC
      rw [List.getD_eq_getElem?_getD, List.getElem?_eq_getElem hz]; rfl
     refine dbr (fun q => ?_) fun q => ret_f hv ?_
     ·have q : decide (_ = _) = true := hE.symm.trans q
      have q := of_decide_eq_true q
      refine dfit (show (-9223372036854775808 : Int) ≤ (x : Int) + 1 by omega) (show (x : Int) + 1 ≤ 9223372036854775807 by omega) (dagain rfl ⟨x + 1, rfl, ⟨by omega, fun x' hx' => ?_⟩, by omega⟩)
      rcases Nat.lt_succ_iff_lt_or_eq.1 hx' with hx' | rfl
      ·exact hs x' hx'
      ·rw [hgc l1, hgc l2]; exact q
     ·have q : decide (_ = _) = false := hE.symm.trans q
      have q := of_decide_eq_false q
      intro hR
      apply q
      have := mendL_same hG y y1 (hR.2.2 y y1)
      rw [← hgc l1, ← hgc l2, this]
    ·replace g3 : ¬ (x : Int) < c := g3
     have : x = c := by omega
     subst this
     refine dfit (show (-9223372036854775808 : Int) ≤ (y : Int) + 1 by omega) (show (y : Int) + 1 ≤ 9223372036854775807 by omega) (dagain rfl ⟨y + 1, rfl, ⟨by omega, fun y' hy' => ?_⟩, by omega⟩)
     rcases Nat.lt_succ_iff_lt_or_eq.1 hy' with hy' | rfl
     ·exact hw y' hy'
     ·exact row_of_mend hG y1 hs
   ·replace g2 : ¬ (y : Int) < r := g2
    have : y = r := by omega
    subst this
    exact ret_t hv ⟨hn, hall, hw⟩
 ·intro hR
  apply h
  show ((cellsD l).rows.length : Int) = (r : Int) * (c : Int)
  rw [cells_len, e0, hR.1]
theorem attr_sp (a : Nat) : Spn n_r7_attr sg_r7_attr [.I a] [.B (attrB a)] := by
 have h := cellRight_sp ⟨32, a, 0⟩
 rw [cellB_attr] at h
 exact rd_r7_attr rfl (dcall h rfl rfl rfl (dret rfl))
def fsN (x : Nat) : Nat := if x < 128 then 1 else if x < 194 then 0 else if x < 224 then 2 else if x < 240 then 3 else if x < 245 then 4 else 0
theorem fs_1 (x : Nat) (h : x < 128) : fsN x = 1 := by unfold fsN; rw [if_pos h]
theorem fs_0 (x : Nat) (h : 128 ≤ x) (h2 : x < 194) : fsN x = 0 := by unfold fsN; rw [if_neg (by omega), if_pos h2]
theorem fs_2 (x : Nat) (h : 194 ≤ x) (h2 : x < 224) : fsN x = 2 := by unfold fsN; rw [if_neg (by omega), if_neg (by omega), if_pos h2]
theorem fs_3 (x : Nat) (h : 224 ≤ x) (h2 : x < 240) : fsN x = 3 := by unfold fsN; rw [if_neg (by omega), if_neg (by omega), if_neg (by omega), if_pos h2]
theorem fs_4 (x : Nat) (h : 240 ≤ x) (h2 : x < 245) : fsN x = 4 := by unfold fsN; rw [if_neg (by omega), if_neg (by omega), if_neg (by omega), if_neg (by omega), if_pos h2]
theorem fs_5 (x : Nat) (h : 245 ≤ x) : fsN x = 0 := by unfold fsN; rw [if_neg (by omega), if_neg (by omega), if_neg (by omega), if_neg (by omega), if_neg (by omega)]
theorem fs_le (x : Nat) : fsN x ≤ 4 := by unfold fsN; (repeat' split) <;> omega
def okT (a : UInt8) (i : Nat) (c : UInt8) : Bool := if i = 0 then secB a c else contB c
theorem okT0 (a c : UInt8) : okT a 0 c = secB a c := rfl
theorem okT1 (a c : UInt8) (k : Nat) : okT a (k + 1) c = contB c := rfl
def tailsL (a : UInt8) : Nat → List UInt8 → Bool
 | _, [] => true
 | i, c :: t => okT a i c && tailsL a (i + 1) t
def fitsL : List UInt8 → Bool
 | [] => false
 | a :: t => decide (t.length < fsN a.toNat) && tailsL a 0 t
theorem tails_all (a : UInt8) (t : List UInt8) : ∀ i, (∀ k (h : k < t.length), okT a (i + k) t[k] = true) → tailsL a i t = true := by
 induction t with
 | nil => intro i _; rfl
 | cons c t ih =>
  intro i h
  unfold tailsL
  have h0 := h 0 (by simp)
  have h1 := ih (i + 1) (fun k hk => by
    have := h (k + 1) (by simp; omega)
    rw [show i + 1 + k = i + (k + 1) from by omega]
    simpa using this)
  simp at h0
  rw [h0, h1]
  rfl
theorem tails_not (a : UInt8) (t : List UInt8) : ∀ i k (h : k < t.length), okT a (i + k) t[k] = false → tailsL a i t = false := by
 induction t with
 | nil => intro i k h; simp at h
 | cons c t ih =>
  intro i k h h2
  unfold tailsL
  cases k with
  | zero =>
   simp at h2
   rw [h2]
   rfl
  | succ k =>
   have := ih (i + 1) k (by simpa using h) (by
     rw [show i + 1 + k = i + (k + 1) from by omega]
     simpa using h2)
   rw [this, Bool.and_false]
theorem fits_yes (a : UInt8) (t : List UInt8) (h : t.length < fsN a.toNat) (h2 : ∀ j (h : j < t.length), okT a j t[j] = true) : fitsL (a :: t) = true := by
 show (decide (t.length < fsN a.toNat) && tailsL a 0 t) = _
 rw [tails_all a t 0 (fun k hk => by simpa using h2 k hk), Bool.and_true]
 exact decide_eq_true h
theorem fits_no (a : UInt8) (t : List UInt8) (k : Nat) (h : k < t.length) (h2 : okT a k t[k] = false) : fitsL (a :: t) = false := by
 show (decide (t.length < fsN a.toNat) && tailsL a 0 t) = _
 rw [tails_not a t 0 k h (by simpa using h2), Bool.and_false]
theorem fits_long (a : UInt8) (t : List UInt8) (h : fsN a.toNat ≤ t.length) : fitsL (a :: t) = false := by
 show (decide (t.length < fsN a.toNat) && tailsL a 0 t) = _
 rw [decide_eq_false (by omega), Bool.false_and]
theorem okT_pos (a : UInt8) (c : UInt8) (k : Nat) (h : 1 ≤ k) : okT a k c = contB c := by
 unfold okT
 rw [if_neg (by omega)]
theorem fits1_iff (a : UInt8) : fitsL [a] = true ↔ 0 < fsN a.toNat := by
 show (decide (0 < fsN a.toNat) && tailsL a 0 []) = true ↔ _
 simp [tailsL]
theorem fits2_iff (a b : UInt8) : fitsL [a, b] = true ↔ 1 < fsN a.toNat ∧ secB a b = true := by
 show (decide (1 < fsN a.toNat) && tailsL a 0 [b]) = true ↔ _
 simp [tailsL, okT0]
theorem fits3_iff (a b c : UInt8) : fitsL [a, b, c] = true ↔ 2 < fsN a.toNat ∧ secB a b = true ∧ contB c = true := by
 show (decide (2 < fsN a.toNat) && tailsL a 0 [b, c]) = true ↔ _
 simp [tailsL, okT0, okT1]
theorem fs_cases (x : Nat) : (x < 128 ∧ fsN x = 1) ∨ (128 ≤ x ∧ x < 194 ∧ fsN x = 0) ∨ (194 ≤ x ∧ x < 224 ∧ fsN x = 2) ∨ (224 ≤ x ∧ x < 240 ∧ fsN x = 3) ∨ (240 ≤ x ∧ x < 245 ∧ fsN x = 4) ∨ (245 ≤ x ∧ fsN x = 0) := by
 unfold fsN
 (repeat' split) <;> omega
theorem beg_fits (a : UInt8) (t : List UInt8) : beginsL (a :: t) = (fitsL (a :: t) && decide (t.length + 1 < fsN a.toNat)) := by
 have hx := fs_cases a.toNat
 match t with
 | [] =>
  rw [Bool.eq_iff_iff, beg1_iff, Bool.and_eq_true, fits1_iff, decide_eq_true_eq]
  simp only [List.length_nil]
  omega
 | [b] =>
  rw [Bool.eq_iff_iff, beg2_iff, Bool.and_eq_true, fits2_iff, secB_iff, decide_eq_true_eq]
  simp only [List.length_cons, List.length_nil]
  omega
 | [b, c] =>
  rw [Bool.eq_iff_iff, beg3_iff, Bool.and_eq_true, fits3_iff, secB_iff, decide_eq_true_eq]
  simp only [List.length_cons, List.length_nil]
  constructor
  ·rintro ⟨h1, h2, h3, h4, h5⟩
   exact ⟨⟨by omega, ⟨h3, h4⟩, h5⟩, by omega⟩
  ·rintro ⟨⟨h1, ⟨h3, h4⟩, h5⟩, h6⟩
   exact ⟨by omega, by omega, h3, h4, h5⟩
 | b :: c :: d :: t =>
  have := fs_le a.toNat
  rw [decide_eq_false (by simp; omega), Bool.and_false]
  rfl
theorem dslice {sp : FuncId → List DV → List DV → Prop} {post : List DV → Prop} {env : List DV} {cx : List (List DV → Prop)} {a b c : E} {t : Tree} (h1 : 0 ≤ (a.den env).int) (h2 : (a.den env).int ≤ (b.den env).int) (h3 : (b.den env).int ≤ (c.den env).int) (ht : t.den sp post env cx) : (Tree.need (.O .and (.O .le (.I 0) a) (.O .and (.O .le a b) (.O .le b c))) t).den sp post env cx :=
 ⟨Bool.and_eq_true_iff.2 ⟨decide_eq_true h1, Bool.and_eq_true_iff.2 ⟨decide_eq_true h2, decide_eq_true h3⟩⟩, ht⟩
theorem ret_d {v : Bool} {P : Prop} (hv : v = true ↔ P) {c : Prop} [hc : Decidable c] {e : E} {env : List DV} {cx : List (List DV → Prop)} (he : e.den env = .B (decide c)) (h : c ↔ P) : (Tree.ret [e]).den SpF1 (fun es => es = [DV.B v]) env cx := dret (by
  have : v = decide c := by
    rw [Bool.eq_iff_iff, hv, decide_eq_true_iff, h]
  rw [this, ← he]; rfl)
theorem ret_v {v : Bool} {P : Prop} (hv : v = true ↔ P) {u : Bool} {e : E} {env : List DV} {cx : List (List DV → Prop)} (he : e.den env = .B u) (h : u = true ↔ P) : (Tree.ret [e]).den SpF1 (fun es => es = [DV.B v]) env cx := dret (by
  have : v = u := by rw [Bool.eq_iff_iff, hv, h]
  rw [this, ← he]; rfl)
theorem mayR_iff (r : Int) : mayR r = true ↔ 0 ≤ r ∧ r ≤ 1114111 ∧ (r < 55296 ∨ 57343 < r) := by simp [mayR, and_assoc]
theorem rightRune_sp (r : Int) : Spn n_runs_rightRune sg_runs_rightRune [.I r] [.B (mayR r)] := by
 refine rd_runs_rightRune rfl (dle (fun h1 => dle (fun h2 => dlt (fun h3 => ret_t (mayR_iff r) ?_) fun h3 => ret_d (mayR_iff r) (c := 57343 < r) rfl ?_) fun h2 => ret_f (mayR_iff r) ?_) fun h1 => ret_f (mayR_iff r) ?_)
 ·exact ⟨h1, h2, .inl h3⟩
 ·replace h1 : 0 ≤ r := h1
  replace h2 : r ≤ 1114111 := h2
  replace h3 : ¬ r < 55296 := h3
  omega
 ·exact fun g => h2 g.2.1
 ·exact fun g => h1 g.1
theorem rightAttr_sp (a : Nat) : Spn n_runs_rightAttr sg_runs_rightAttr [.I a] [.B (attrB a)] := by
 have hr : a < 4096 → a ∈ List.range 4096 := List.mem_range.2
 have hA : attrB a = true ↔ a < 4096 ∧ a / 8 % 2 = 0 ∧ a / 16 % 16 ≤ 8 ∧ a / 256 % 16 ≤ 8 := by simp [attrB, and_assoc]
 have tt : a < 4096 → (((O.den (.band .u16) (.I a) (.I 8)).int = 0 ↔ a / 8 % 2 = 0) ∧ (O.den (.band .u16) (O.den (.shr .u16) (.I a) (.I 4)) (.I 15)).int = (a / 16 % 16 : Nat) ∧ (O.den (.band .u16) (O.den (.shr .u16) (.I a) (.I 8)) (.I 15)).int = (a / 256 % 16 : Nat)) := fun h => by
  have k := hr h
  have t1 := eq_of_beq (List.all_eq_true.1 attrT1 _ k)
  have t2 := of_decide_eq_true (List.all_eq_true.1 attrT2 _ k)
  have t3 := of_decide_eq_true (List.all_eq_true.1 attrT3 _ k)
  refine ⟨?_, t2, t3⟩
  have := Bool.eq_iff_iff.1 t1
  simpa using this
 refine rd_runs_rightAttr rfl (dlt (fun h1 => deq (fun h2 => dle (fun h3 => ret_d hA (c := (O.den (.band .u16) (O.den (.shr .u16) (.I (a : Int)) (.I 8)) (.I 15)).int ≤ 8) rfl ?_) fun h3 => ret_f hA ?_) fun h2 => ret_f hA ?_) fun h1 => ret_f hA ?_)
 ·replace h1 : (a : Int) < 4096 := h1
  obtain ⟨t1, t2, t3⟩ := tt (by omega)
  replace h2 := t1.1 h2
  replace h3 : (O.den (.band .u16) (O.den (.shr .u16) (.I (a : Int)) (.I 4)) (.I 15)).int ≤ 8 := h3
  rw [t2] at h3
  rw [t3]
  omega
 ·replace h1 : (a : Int) < 4096 := h1
  obtain ⟨t1, t2, t3⟩ := tt (by omega)
  replace h3 : ¬ (O.den (.band .u16) (O.den (.shr .u16) (.I (a : Int)) (.I 4)) (.I 15)).int ≤ 8 := h3
  rw [t2] at h3
  omega
 ·replace h1 : (a : Int) < 4096 := h1
  obtain ⟨t1, t2, t3⟩ := tt (by omega)
  exact fun g => h2 (t1.2 g.2.1)
 ·replace h1 : ¬ (a : Int) < 4096 := h1
  omega
theorem runsRight_sp (c : Cl) : Spn n_runs_Right sg_runs_Right [.I c.r, .I c.a, .I c.h] [.B (cellB c)] := by
 have hC : cellB c = true ↔ mayR c.r = true ∧ attrB c.a = true ∧ c.h ≤ 2 ∧ (c.r = 0 ↔ c.h = 2) := by
  unfold cellB
  simp only [Bool.and_eq_true, decide_eq_true_eq, beq_iff_eq, and_assoc]
  rw [Bool.eq_iff_iff]; simp
 refine rd_runs_Right rfl (dcall (rightRune_sp c.r) rfl rfl rfl (dbr (fun h1 => dcall (rightAttr_sp c.a) rfl rfl rfl (dbr (fun h2 => dle (fun h3 => ret_v hC (u := decide (c.r = 0) == decide ((c.h : Int) = 2)) rfl ?_) fun h3 => ret_f hC ?_) fun h2 => ret_f hC ?_)) fun h1 => ret_f hC ?_))
 ·replace h1 : mayR c.r = true := h1
  replace h2 : attrB c.a = true := h2
  replace h3 : (c.h : Int) ≤ 2 := h3
  rw [beq_iff_eq, Bool.eq_iff_iff]
  simp only [decide_eq_true_eq, h1, h2, true_and]
  constructor
  ·intro g; exact ⟨by omega, by rw [g]; omega⟩
  ·intro g; rw [g.2]; omega
 ·replace h3 : ¬ (c.h : Int) ≤ 2 := h3
  omega
 ·replace h2 : attrB c.a = false := h2
  simp [h2]
 ·replace h1 : mayR c.r = false := h1
  simp [h1]
theorem isSize_sp (n : Int) : Spn n_screen_isSize sg_screen_isSize [.I n] [.B (decide (1 ≤ n ∧ n ≤ 1000))] :=
 rd_screen_isSize rfl (dle (fun h1 => ret_d decide_eq_true_iff (c := n ≤ 1000) rfl ⟨fun h => ⟨h1, h⟩, fun h => h.2⟩) fun h1 => ret_f decide_eq_true_iff fun h => h1 h.1)
theorem gSize_sp (n : Int) : Spn n_grid_isSize sg_grid_isSize [.I n] [.B (decide (1 ≤ n ∧ n ≤ 1000))] :=
 rd_grid_isSize rfl (dle (fun h1 => ret_d decide_eq_true_iff (c := n ≤ 1000) rfl ⟨fun h => ⟨h1, h⟩, fun h => h.2⟩) fun h1 => ret_f decide_eq_true_iff fun h => h1 h.1)
theorem gBlank_sp : Spn n_grid_blank sg_grid_blank [] (clD blankC) := rd_grid_blank rfl (dret rfl)
theorem gOwn_sp (l : List Cl) (hl : l.length ≤ 1099511627776) : Spn n_grid_own sg_grid_own [cellsD l] [cellsD l] := by
 refine rd_grid_own rfl (nle ?_ (dret ?_))
 ·show ((([] : List (List DV)).length : Nat) : Int) + ((cellsD l).rows.length : Int) ≤ 1099511627776
  rw [cells_len]; simp; omega
 ·simp [E.den, O.den, cellsD, DV.rows]
theorem isGrid_sp (l : List Cl) (c : Int) (hl : l.length ≤ 1099511627776) : Spn n_grid_isGrid sg_grid_isGrid [cellsD l, .I c] [.B (gOk l.length c)] := by
 have hG : gOk l.length c = true ↔ (1 ≤ c ∧ c ≤ 1000) ∧ (l.length : Int) % c = 0 ∧ 1 ≤ (l.length : Int) / c ∧ (l.length : Int) / c ≤ 1000 := by simp [gOk, and_assoc]
 have e0 := cells_len l
 refine rd_grid_isGrid rfl (dcall (gSize_sp c) rfl rfl rfl (dbr (fun h1 => ?_) fun h1 => ret_f hG ?_))
 ·replace h1 : 1 ≤ c ∧ c ≤ 1000 := of_decide_eq_true h1
  have e1 : Int.tmod ((cellsD l).rows.length : Int) c = (l.length : Int) % c := by rw [e0, Int.tmod_eq_emod_of_nonneg (by omega)]
  have e2 : Int.tdiv ((cellsD l).rows.length : Int) c = (l.length : Int) / c := by rw [e0, Int.tdiv_eq_ediv_of_nonneg (by omega)]
  have hle : (l.length : Int) / c ≤ l.length := Int.ediv_le_self _ (by omega)
  have hge : 0 ≤ (l.length : Int) / c := Int.ediv_nonneg (by omega) (by omega)
  refine dneed (show (!decide (c = 0)) = true by simp; omega) (deq (fun h2 => ?_) fun h2 => ret_f hG ?_)
  ·replace h2 : Int.tmod ((cellsD l).rows.length : Int) c = 0 := h2
   rw [e1] at h2
   refine dfit (show (-9223372036854775808 : Int) ≤ Int.tdiv ((cellsD l).rows.length : Int) c by rw [e2]; omega) (show Int.tdiv ((cellsD l).rows.length : Int) c ≤ 9223372036854775807 by rw [e2]; omega) (dcall (gSize_sp ((l.length : Int) / c)) rfl ?_ rfl (ret_v hG rfl ?_))
   ·exact congrArg (fun d => [DV.I d]) e2
   ·rw [decide_eq_true_iff]
    exact ⟨fun g => ⟨h1, h2, g⟩, fun g => g.2.2⟩
  ·replace h2 : ¬ Int.tmod ((cellsD l).rows.length : Int) c = 0 := h2
   rw [e1] at h2
   exact fun g => h2 g.2.1
 ·replace h1 : decide (1 ≤ c ∧ c ≤ 1000) = false := h1
  exact fun g => of_decide_eq_false h1 g.1
theorem hasRows_sp (l : List Cl) (c top bottom : Int) {v : Bool} (hl : l.length ≤ 1099511627776) (hv : v = true ↔ (gOk l.length c = true ∧ 0 ≤ top ∧ top ≤ bottom ∧ bottom < (l.length : Int) / c)) : Spn n_grid_hasRows sg_grid_hasRows [cellsD l, .I c, .I top, .I bottom] [.B v] := by
 have e0 := cells_len l
 refine rd_grid_hasRows rfl (dcall (isGrid_sp l c hl) rfl rfl rfl (dbr (fun h1 => dle (fun h2 => dle (fun h3 => ?_) fun h3 => ret_f hv ?_) fun h2 => ret_f hv ?_) fun h1 => ret_f hv ?_))
 ·replace h1 : gOk l.length c = true := h1
  obtain ⟨r, cc, rfl, hG⟩ := gOk_of h1
  have c1 := hG.c1
  have e2 : Int.tdiv ((cellsD l).rows.length : Int) (cc : Int) = (l.length : Int) / (cc : Int) := by rw [e0, Int.tdiv_eq_ediv_of_nonneg (by omega)]
  have hle : (l.length : Int) / (cc : Int) ≤ l.length := Int.ediv_le_self _ (by omega)
  have hge : 0 ≤ (l.length : Int) / (cc : Int) := Int.ediv_nonneg (by omega) (by omega)
  refine dneed (show (!decide ((cc : Int) = 0)) = true by simp; omega) (dfit (show (-9223372036854775808 : Int) ≤ Int.tdiv ((cellsD l).rows.length : Int) (cc : Int) by rw [e2]; omega) (show Int.tdiv ((cellsD l).rows.length : Int) (cc : Int) ≤ 9223372036854775807 by rw [e2]; omega) (ret_d hv (c := bottom < Int.tdiv ((cellsD l).rows.length : Int) (cc : Int)) rfl ?_))
  rw [e2]
  exact ⟨fun g => ⟨h1, h2, h3, g⟩, fun g => g.2.2.2⟩
 ·exact fun g => h3 g.2.2.1
 ·exact fun g => h2 g.2.1
 ·replace h1 : gOk l.length c = false := h1
  exact fun g => by rw [g.1] at h1; cases h1
theorem rowOf_sp (l : List Cl) (c y : Nat) (h : (y + 1) * c ≤ l.length) (hl : l.length ≤ 1099511627776) (hy : y ≤ 1000000) : Spn n_grid_rowOf sg_grid_rowOf [cellsD l, .I c, .I y] [.I ((y * c : Nat) : Int), .I c, cellsD l] := by
 have e1 : (y : Int) * (c : Int) = ((y * c : Nat) : Int) := by push_cast; rfl
 have e2 : ((y : Int) + 1) * (c : Int) = ((y * c + c : Nat) : Int) := by rw [Int.add_mul, e1]; omega
 have h' : y * c + c ≤ l.length := by rw [Nat.add_mul, Nat.one_mul] at h; exact h
 have e0 := cells_len l
 refine rd_grid_rowOf rfl rfl (dfit (show (-9223372036854775808 : Int) ≤ (y : Int) * (c : Int) by rw [e1]; omega) (show (y : Int) * (c : Int) ≤ 9223372036854775807 by rw [e1]; omega) (dfit (show (-9223372036854775808 : Int) ≤ (y : Int) + 1 by omega) (show (y : Int) + 1 ≤ 9223372036854775807 by omega) (dfit (show (-9223372036854775808 : Int) ≤ ((y : Int) + 1) * (c : Int) by rw [e2]; omega) (show ((y : Int) + 1) * (c : Int) ≤ 9223372036854775807 by rw [e2]; omega) (dslice (show (0 : Int) ≤ (y : Int) * (c : Int) by rw [e1]; omega) (show (y : Int) * (c : Int) ≤ ((y : Int) + 1) * (c : Int) by rw [e1, e2]; omega) (show ((y : Int) + 1) * (c : Int) ≤ ((cellsD l).rows.length : Int) by rw [e2, e0]; omega) (dneed (decide_eq_true rfl) (dret ?_))))))
 show [DV.I ((y : Int) * (c : Int)), DV.I (((y : Int) + 1) * (c : Int) - (y : Int) * (c : Int)), cellsD l] = _
 rw [e1, e2]
 exact congrArg (fun d => [DV.I ((y * c : Nat) : Int), DV.I d, cellsD l]) (by omega)
theorem gmend_sp (l : List Cl) (c y : Nat) (hl : y * c + c ≤ l.length) (hlen : l.length ≤ 1099511627776) : Spn n_grid_mend sg_grid_mend [cellsD l, .I ((y * c : Nat) : Int), .I c] [cellsD (fillL l (mendF l c) (y * c) (y * c + c))] := by
 have hd : ∀ x, x < c → mendF l c (y * c + x) = if badH l c (y * c + x) x = true then blankC else getC l (y * c + x) := fun x hx => by
  unfold mendF; rw [(rc_div y c x hx).2]
 have hprev := fun x hx hx0 h2 => mend_prev (l := l) (c := c) (y := y) (x := x) hx hx0 hl h2
 generalize y * c = K at *
 refine rd_grid_mend rfl rfl (dloop (fun x : Nat => [cellsD (fillL l (mendF l c) K (K + x)), .I x]) (fun x => x ≤ c) (fun x => c - x) 0 (by rw [Nat.add_zero, fillL_none _ _ _ _ (Nat.le_refl _)]; rfl) (Nat.zero_le _) fun x hx _ => ?_)
 have hLl : (fillL l (mendF l c) K (K + x)).length = l.length := fillL_len _ _ _ _
 have hL1 : ∀ i, K + x ≤ i → i < l.length → getC (fillL l (mendF l c) K (K + x)) i = getC l i := fun i h1 h2 => by
  have := mend_at (f := mendF l c) (lo := K) (q := K + x) h2 h1
  unfold getC
  rw [List.getD_eq_getElem?_getD, this]
  rfl
 have bad : x < c → badH l c (K + x) x = true → (fillL l (mendF l c) K (K + x)).set (K + x) blankC = fillL l (mendF l c) K (K + (x + 1)) := fun hc hb => fillL_set _ _ _ _ _ (by omega) (by rw [hd x hc, if_pos hb])
 have good : x < c → badH l c (K + x) x = false → fillL l (mendF l c) K (K + x) = fillL l (mendF l c) K (K + (x + 1)) := fun hc hb => fillL_skip _ _ _ _ (by rw [hd x hc, hb]; exact getC_of (by omega))
 have hpv := hprev x
 generalize hLe : fillL l (mendF l c) K (K + x) = L at *
 have e0 : ((cellsD L).rows.length : Int) = l.length := by rw [cells_len, hLl]
 have hat : ∀ (n : Int) (i : Nat), n = i → i < l.length → (((cellsD L).rows.getD n.toNat []).getD 2 (.I 0)).int = (getC L i).h := fun n i hn hi => by
  subst hn
  rw [Int.toNat_natCast, cells_get (by omega)]
  rfl
 refine dlt (fun g => ?_) fun g => ?_
 ·replace g : (x : Int) < c := g
  have hc : x < c := by omega
  have e1 : (K : Int) + x = ((K + x : Nat) : Int) := by omega
  have a1 := hat ((K : Int) + x) (K + x) e1 (by omega)
  rw [hL1 (K + x) (Nat.le_refl _) (by omega)] at a1
  have hset : DV.L ((cellsD L).rows.set ((K : Int) + x).toNat (clD blankC)) = cellsD (L.set (K + x) blankC) := by
   rw [e1, Int.toNat_natCast]; exact cells_set L (K + x) blankC
  have put : ∀ (hb : badH l c (K + x) x = true), [DV.L ((cellsD L).rows.set ((K : Int) + x).toNat (clD blankC)), DV.I ((x : Int) + 1)] = [cellsD (fillL l (mendF l c) K (K + (x + 1))), .I ((x + 1 : Nat) : Int)] := fun hb => by
   rw [hset, bad hc hb]; rfl
  have stay : ∀ (hb : badH l c (K + x) x = false), [cellsD L, DV.I ((x : Int) + 1)] = [cellsD (fillL l (mendF l c) K (K + (x + 1))), .I ((x + 1 : Nat) : Int)] := fun hb => by
   rw [← good hc hb]; rfl
  have hu : badH l c (K + x) x = (decide ((getC l (K + x)).h = 1) && (decide (x + 1 = c) || decide ((getC l (K + x + 1)).h ≠ 2)) || decide ((getC l (K + x)).h = 2) && (decide (x = 0) || decide ((getC l (K + x - 1)).h ≠ 1))) := rfl
  rw [hu] at put stay
  clear bad good hu
  refine nle (show (0 : Int) ≤ x by omega) (nlt (show (K : Int) + x < ((cellsD L).rows.length : Int) by rw [e0]; omega) (deq (fun h1 => ?_) fun h1 => ?_))
  ·replace h1 : (((cellsD L).rows.getD ((K : Int) + x).toNat []).getD 2 (.I 0)).int = 1 := h1
   rw [a1] at h1
   refine dfit (show (-9223372036854775808 : Int) ≤ (x : Int) + 1 by omega) (show (x : Int) + 1 ≤ 9223372036854775807 by omega) (deq (fun h2 => ?_) fun h2 => ?_)
   ·replace h2 : (x : Int) + 1 = c := h2
    exact dcall gBlank_sp rfl rfl rfl (dagain rfl ⟨x + 1, put (by simp; omega), by omega, by omega⟩)
   ·replace h2 : ¬ (x : Int) + 1 = c := h2
    have e2 : (K : Int) + ((x : Int) + 1) = ((K + x + 1 : Nat) : Int) := by omega
    have a2 := hat ((K : Int) + ((x : Int) + 1)) (K + x + 1) e2 (by omega)
    rw [hL1 (K + x + 1) (by omega) (by omega)] at a2
    refine dwithin (show (0 : Int) ≤ (x : Int) + 1 by omega) (show (x : Int) + 1 < c by omega) (nlt (show (K : Int) + ((x : Int) + 1) < ((cellsD L).rows.length : Int) by rw [e0]; omega) (deq (fun h3 => ?_) fun h3 => ?_))
    ·replace h3 : (((cellsD L).rows.getD ((K : Int) + ((x : Int) + 1)).toNat []).getD 2 (.I 0)).int = 2 := h3
     rw [a2] at h3
     exact dagain rfl ⟨x + 1, stay (by simp; omega), by omega, by omega⟩
    ·replace h3 : ¬ (((cellsD L).rows.getD ((K : Int) + ((x : Int) + 1)).toNat []).getD 2 (.I 0)).int = 2 := h3
     rw [a2] at h3
     exact dcall gBlank_sp rfl rfl rfl (dagain rfl ⟨x + 1, put (by simp; omega), by omega, by omega⟩)
  ·replace h1 : ¬ (((cellsD L).rows.getD ((K : Int) + x).toNat []).getD 2 (.I 0)).int = 1 := h1
   rw [a1] at h1
   refine deq (fun h2 => ?_) fun h2 => ?_
   ·replace h2 : (((cellsD L).rows.getD ((K : Int) + x).toNat []).getD 2 (.I 0)).int = 2 := h2
    rw [a1] at h2
    refine deq (fun h3 => ?_) fun h3 => ?_
    ·replace h3 : (x : Int) = 0 := h3
     exact dcall gBlank_sp rfl rfl rfl (dfit (show (-9223372036854775808 : Int) ≤ (x : Int) + 1 by omega) (show (x : Int) + 1 ≤ 9223372036854775807 by omega) (dagain rfl ⟨x + 1, put (by simp; omega), by omega, by omega⟩))
    ·replace h3 : ¬ (x : Int) = 0 := h3
     have e2 : (K : Int) + ((x : Int) - 1) = ((K + x - 1 : Nat) : Int) := by omega
     have a2 := hat ((K : Int) + ((x : Int) - 1)) (K + x - 1) e2 (by omega)
     obtain ⟨d, d1, d2⟩ := hpv hc (by omega) (by omega)
     have d3 : getC L (K + x - 1) = d := by
      unfold getC
      rw [List.getD_eq_getElem?_getD, d1]; rfl
     rw [d3] at a2
     refine dfit (show (-9223372036854775808 : Int) ≤ (x : Int) - 1 by omega) (show (x : Int) - 1 ≤ 9223372036854775807 by omega) (dwithin (show (0 : Int) ≤ (x : Int) - 1 by omega) (show (x : Int) - 1 < c by omega) (nlt (show (K : Int) + ((x : Int) - 1) < ((cellsD L).rows.length : Int) by rw [e0]; omega) (deq (fun h4 => ?_) fun h4 => ?_)))
     ·replace h4 : (((cellsD L).rows.getD ((K : Int) + ((x : Int) - 1)).toNat []).getD 2 (.I 0)).int = 1 := h4
      rw [a2] at h4
      have h5 := d2.1 (by omega)
      exact dfit (show (-9223372036854775808 : Int) ≤ (x : Int) + 1 by omega) (show (x : Int) + 1 ≤ 9223372036854775807 by omega) (dagain rfl ⟨x + 1, stay (by simp; omega), by omega, by omega⟩)
     ·replace h4 : ¬ (((cellsD L).rows.getD ((K : Int) + ((x : Int) - 1)).toNat []).getD 2 (.I 0)).int = 1 := h4
      rw [a2] at h4
      have h5 : ¬ (getC l (K + x - 1)).h = 1 := fun e => h4 (by rw [d2.2 e]; rfl)
      exact dcall gBlank_sp rfl rfl rfl (dfit (show (-9223372036854775808 : Int) ≤ (x : Int) + 1 by omega) (show (x : Int) + 1 ≤ 9223372036854775807 by omega) (dagain rfl ⟨x + 1, put (by simp; omega), by omega, by omega⟩))
   ·replace h2 : ¬ (((cellsD L).rows.getD ((K : Int) + x).toNat []).getD 2 (.I 0)).int = 2 := h2
    rw [a1] at h2
    exact dfit (show (-9223372036854775808 : Int) ≤ (x : Int) + 1 by omega) (show (x : Int) + 1 ≤ 9223372036854775807 by omega) (dagain rfl ⟨x + 1, stay (by simp; omega), by omega, by omega⟩)
 ·replace g : ¬ (x : Int) < c := g
  have : x = c := by omega
  subst this
  refine dneed (decide_eq_true ?_) (dret (by rw [hLe]; rfl))
  show ((cellsD l).rows.length : Int) = ((cellsD L).rows.length : Int)
  rw [e0, cells_len]
theorem gMend_sp (l : List Cl) (c y : Int) (hl : l.length ≤ 1099511627776) : Spn n_grid_Mend sg_grid_Mend [cellsD l, .I c, .I y] [cellsD (mendL l c y)] := by
 have hP : gPlace l.length c y 0 = true ↔ (gOk l.length c = true ∧ 0 ≤ y ∧ y ≤ y ∧ y < (l.length : Int) / c) := by
  unfold gPlace
  rw [Bool.and_eq_true, decide_eq_true_eq]
  constructor
  ·rintro ⟨h1, h2, h3, -⟩; exact ⟨h1, h2, Int.le_refl _, h3⟩
  ·rintro ⟨h1, h2, -, h3⟩
   obtain ⟨r, cc, rfl, hG⟩ := gOk_of h1
   exact ⟨h1, h2, h3, Int.le_refl _, by have := hG.c1; omega⟩
 refine rd_grid_Mend rfl (dcall (gOwn_sp l hl) rfl rfl rfl (dcall (hasRows_sp l c y y hl hP) rfl rfl rfl (dbr (fun h => ?_) fun h => ?_)))
 ·replace h : gPlace l.length c y 0 = true := h
  have hm : mendL l c y = fillL l (mendF l c.toNat) (y.toNat * c.toNat) (y.toNat * c.toNat + c.toNat) := if_pos h
  obtain ⟨r, cc, yy, xx, rfl, rfl, hx0, hG, hy, -⟩ := gPlace_of h
  rw [hm]
  simp only [Int.toNat_natCast]
  have hle : yy * cc + cc ≤ l.length := by rw [hG.n]; exact row_end (c := cc) hy
  have r2 := hG.r2
  exact dcall (rowOf_sp l cc yy (by rw [Nat.add_mul, Nat.one_mul]; exact hle) hl (by omega)) rfl rfl rfl (dcall (gmend_sp l cc yy hle hl) rfl rfl rfl (dret rfl))
 ·replace h : gPlace l.length c y 0 = false := h
  have hm : mendL l c y = l := if_neg (by rw [h]; decide)
  rw [hm]
  exact dret rfl
theorem formSize_sp (x : Nat) : Spn n_utf_formSize sg_utf_formSize [.I x] [.I (fsN x)] := by
 refine rd_utf_formSize rfl (dlt (fun h1 => dret ?_) fun h1 => dlt (fun h2 => dret ?_) fun h2 => dlt (fun h3 => dret ?_) fun h3 => dlt (fun h4 => dret ?_) fun h4 => dlt (fun h5 => dret ?_) fun h5 => dret ?_)
 all_goals (try replace h1 : (x : Int) < 128 := h1)
 all_goals (try replace h1 : ¬ (x : Int) < 128 := h1)
 all_goals (try replace h2 : (x : Int) < 194 := h2)
 all_goals (try replace h2 : ¬ (x : Int) < 194 := h2)
 all_goals (try replace h3 : (x : Int) < 224 := h3)
 all_goals (try replace h3 : ¬ (x : Int) < 224 := h3)
 all_goals (try replace h4 : (x : Int) < 240 := h4)
 all_goals (try replace h4 : ¬ (x : Int) < 240 := h4)
 all_goals (try replace h5 : (x : Int) < 245 := h5)
 all_goals (try replace h5 : ¬ (x : Int) < 245 := h5)
 ·rw [fs_1 x (by omega)]; rfl
 ·rw [fs_0 x (by omega) (by omega)]; rfl
 ·rw [fs_2 x (by omega) (by omega)]; rfl
 ·rw [fs_3 x (by omega) (by omega)]; rfl
 ·rw [fs_4 x (by omega) (by omega)]; rfl
 ·rw [fs_5 x (by omega)]; rfl
theorem second_sp (x : Nat) : Spn n_utf_secondBytes sg_utf_secondBytes [.I x] [.I (loB x), .I (hiB x)] := by
 refine rd_utf_secondBytes rfl (deq (fun h1 => dret ?_) fun h1 => deq (fun h2 => dret ?_) fun h2 => deq (fun h3 => dret ?_) fun h3 => deq (fun h4 => dret ?_) fun h4 => dret ?_)
 ·replace h1 : (x : Int) = 224 := h1
  obtain rfl : x = 224 := by omega
  rfl
 ·replace h2 : (x : Int) = 237 := h2
  obtain rfl : x = 237 := by omega
  rfl
 ·replace h3 : (x : Int) = 240 := h3
  obtain rfl : x = 240 := by omega
  rfl
 ·replace h4 : (x : Int) = 244 := h4
  obtain rfl : x = 244 := by omega
  rfl
 ·replace h1 : ¬ (x : Int) = 224 := h1
  replace h2 : ¬ (x : Int) = 237 := h2
  replace h3 : ¬ (x : Int) = 240 := h3
  replace h4 : ¬ (x : Int) = 244 := h4
  rw [lo_other x (by omega) (by omega), hi_other x (by omega) (by omega)]; rfl
theorem tail_den {l : List UInt8} {env : List DV} {A : E} {a : UInt8} (hA : A.den env = bytesD (a :: l)) : (E.O .tk (.O .dr A (.I 1)) (.O .sub (.U .len A) (.I 1))).den env = bytesD l := by
 show DV.L (((A.den env).rows.drop 1).take ((((A.den env).rows.length : Nat) : Int) - 1).toNat) = _
 rw [hA]
 simp [bytesD, DV.rows]
 exact List.take_of_length_le (by simp)
theorem fits_sp (l : List UInt8) (hl : l.length ≤ 1048576) : Spn n_utf_fits sg_utf_fits [bytesD l] [.B (fitsL l)] := by
 match l, hl with
 | [], _ => exact rd_utf_fits rfl (deq (fun h => dret rfl) fun h => absurd rfl h)
 | a :: t, hl =>
  have hv : fitsL (a :: t) = true ↔ fitsL (a :: t) = true := Iff.rfl
  refine rd_utf_fits rfl (deq (fun h => ?_) fun h => nlt ?_ (dcall (formSize_sp a.toNat) rfl ?_ rfl (dlt (fun h2 => ret_f hv ?_) fun h2 => ?_)))
  ·have h : ((bytesD (a :: t)).rows.length : Int) = 0 := h
   rw [bytes_len] at h; simp at h <;> omega
  ·show (0 : Int) < ((bytesD (a :: t)).rows.length : Int)
   rw [bytes_len]; simp <;> omega
  ·rfl
  ·replace h2 : (fsN a.toNat : Int) < ((bytesD (a :: t)).rows.length : Int) := h2
   rw [bytes_len] at h2
   rw [fits_long a t (by simp at h2; omega)]; decide
  ·replace h2 : ¬ (fsN a.toNat : Int) < ((bytesD (a :: t)).rows.length : Int) := h2
   rw [bytes_len] at h2
   simp at h2 hl
   refine dloop (fun k : Nat => [.I k]) (fun k => k ≤ t.length ∧ ∀ j (h : j < t.length), j < k → okT a j t[j] = true) (fun k => t.length - k) 0 rfl ⟨Nat.zero_le _, fun j h hj => absurd hj (by omega)⟩ fun k hk _ => ?_
   obtain ⟨hk, ha⟩ := hk
   have hT := tail_den (l := t) (a := a) (env := [bytesD (a :: t)] ++ [DV.I (fsN a.toNat : Int)] ++ [DV.I (k : Int)]) (A := .V 0) rfl
   have next : ∀ (k1 : k < t.length), okT a k t[k] = true → (∃ k' : Nat, [DV.I ((k : Int) + 1)] = [DV.I (k' : Int)] ∧ (k' ≤ t.length ∧ ∀ j (h : j < t.length), j < k' → okT a j t[j] = true) ∧ t.length - k' < t.length - k) := fun k1 h => ⟨k + 1, rfl, ⟨by omega, fun j hj hjk => by
     rcases Nat.lt_succ_iff_lt_or_eq.1 hjk with h' | rfl
     · exact ha j hj h'
     · exact h⟩, by omega⟩
   refine dlt (fun g => ?_) fun g => ?_
   ·have g : (k : Int) < (((E.O .tk (.O .dr (.V 0) (.I 1)) (.O .sub (.U .len (.V 0)) (.I 1))).den ([bytesD (a :: t)] ++ [DV.I (fsN a.toNat : Int)] ++ [DV.I (k : Int)])).rows.length : Int) := g
    rw [hT, bytes_len] at g
    have k1 : k < t.length := by omega
    have ek : ∀ (x : DV), x = bytesD t → ((x.rows.getD k []).getD 0 (.I 0)).int = (t[k].toNat : Int) := fun x hx => by
     rw [hx, bytes_at k1]; rfl
    refine nle (show (0 : Int) ≤ k by omega) (deq (fun h3 => ?_) fun h3 => ?_)
    ·replace h3 : (k : Int) = 0 := h3
     obtain rfl : k = 0 := by omega
     refine dcall (second_sp a.toNat) rfl rfl rfl (dlt (fun h4 => ret_f hv ?_) fun h4 => dlt (fun h5 => ret_f hv ?_) fun h5 => dfit (show (-9223372036854775808 : Int) ≤ ((0 : Nat) : Int) + 1 by omega) (show ((0 : Nat) : Int) + 1 ≤ 9223372036854775807 by omega) (dagain rfl ?_))
     ·replace h4 : _ < (loB a.toNat : Int) := h4
      have h4 := (ek _ hT).symm ▸ h4
      rw [fits_no a t 0 k1 (by rw [okT0]; unfold secB; rw [decide_eq_false (by omega)]; rfl)]; decide
     ·replace h5 : (hiB a.toNat : Int) < _ := h5
      have h5 := (ek _ hT).symm ▸ h5
      rw [fits_no a t 0 k1 (by rw [okT0]; unfold secB; rw [decide_eq_false (show ¬ t[0].toNat ≤ hiB a.toNat by omega)]; simp)]; decide
     ·replace h4 : ¬ _ < (loB a.toNat : Int) := h4
      replace h5 : ¬ (hiB a.toNat : Int) < _ := h5
      have h4 := (ek _ hT).symm ▸ h4
      have h5 := (ek _ hT).symm ▸ h5
      exact next k1 (by rw [okT0, secB_iff]; omega)
    ·replace h3 : ¬ (k : Int) = 0 := h3
     refine dlt (fun h4 => ret_f hv ?_) fun h4 => dlt (fun h5 => ret_f hv ?_) fun h5 => dfit (show (-9223372036854775808 : Int) ≤ (k : Int) + 1 by omega) (show (k : Int) + 1 ≤ 9223372036854775807 by omega) (dagain rfl ?_)
     ·replace h4 : _ < (128 : Int) := h4
      have h4 := (ek _ hT).symm ▸ h4
      rw [fits_no a t k k1 (by rw [okT_pos _ _ _ (by omega)]; unfold contB; rw [decide_eq_false (by omega)]; rfl)]; decide
     ·replace h5 : (191 : Int) < _ := h5
      have h5 := (ek _ hT).symm ▸ h5
      rw [fits_no a t k k1 (by rw [okT_pos _ _ _ (by omega)]; unfold contB; rw [decide_eq_false (show ¬ t[k].toNat < 192 by omega)]; simp)]; decide
     ·replace h4 : ¬ _ < (128 : Int) := h4
      replace h5 : ¬ (191 : Int) < _ := h5
      have h4 := (ek _ hT).symm ▸ h4
      have h5 := (ek _ hT).symm ▸ h5
      exact next k1 (by rw [okT_pos _ _ _ (by omega), contB_iff]; omega)
   ·have g : ¬ (k : Int) < (((E.O .tk (.O .dr (.V 0) (.I 1)) (.O .sub (.U .len (.V 0)) (.I 1))).den ([bytesD (a :: t)] ++ [DV.I (fsN a.toNat : Int)] ++ [DV.I (k : Int)])).rows.length : Int) := g
    rw [hT, bytes_len] at g
    exact ret_t hv (fits_yes a t (by omega) fun j hj => ha j hj (by omega))
theorem uBegins_sp (l : List UInt8) (hl : l.length ≤ 1048576) : Spn n_utf_Begins sg_utf_Begins [bytesD l] [.B (beginsL l)] := by
 have hv : beginsL l = true ↔ beginsL l = true := Iff.rfl
 refine rd_utf_Begins rfl (dcall (fits_sp l hl) rfl rfl rfl (dbr (fun h => ?_) fun h => ret_f hv ?_))
 ·replace h : fitsL l = true := h
  match l, h with
  | a :: t, h =>
   refine nlt ?_ (dcall (formSize_sp a.toNat) rfl rfl rfl (ret_d hv (c := ((bytesD (a :: t)).rows.length : Int) < (fsN a.toNat : Int)) rfl ?_))
   ·show (0 : Int) < ((bytesD (a :: t)).rows.length : Int)
    rw [bytes_len]; simp <;> omega
   ·rw [beg_fits, h, Bool.true_and, decide_eq_true_iff, bytes_len, List.length_cons]
    omega
 ·replace h : fitsL l = false := h
  cases l with
  | nil => decide
  | cons a t => rw [beg_fits, h]; simp
def firstF {α : Type} (p : α → Bool) : List α → Nat → Int
 | [], _ => -1
 | x :: t, i => if p x = true then (i : Int) else firstF p t (i + 1)
theorem firstF_iff {α : Type} (p : α → Bool) : ∀ (l : List α) (i : Nat), 0 ≤ firstF p l i ↔ ∃ x ∈ l, p x = true
 | [], i => by simp [firstF]
 | x :: t, i => by
  unfold firstF
  by_cases h : p x = true
  ·rw [if_pos h]; simp [h]
  ·rw [if_neg h, firstF_iff p t (i + 1)]; simp [h]
theorem drop_at {α : Type} {l : List α} {k : Nat} (h : k < l.length) : l.drop k = l[k] :: l.drop (k + 1) := (List.drop_eq_getElem_cons h)
def badI (n : Int) : Bool := decide (n < 0 ∨ 65535 < n)
theorem noParam_sp (n : Int) : Spn n_vt_noParam sg_vt_noParam [.I n] [.B (badI n)] :=
 rd_vt_noParam rfl (dlt (fun h => ret_t decide_eq_true_iff (.inl h)) fun h => ret_d decide_eq_true_iff (c := 65535 < n) rfl ⟨.inr, fun g => g.resolve_left h⟩)
theorem idxI_sp (l : List Int) (hl : l.length ≤ 1048576) : Spn n_slices_IndexFunc_int sg_slices_IndexFunc_int [intsD l] [.I (firstF badI l 0)] := by
 refine rd_slices_IndexFunc_int rfl rfl (dloop (fun k : Nat => [.I k]) (fun k => k ≤ l.length ∧ firstF badI (l.drop k) k = firstF badI l 0) (fun k => l.length - k) 0 rfl ⟨Nat.zero_le _, rfl⟩ fun k hk _ => ?_)
 obtain ⟨hk, he⟩ := hk
 refine dlt (fun g => ?_) fun g => ?_
 ·replace g : (k : Int) < l.length := by rw [← ints_len]; exact g
  have k1 : k < l.length := by omega
  rw [drop_at k1, firstF] at he
  refine nle (show (0 : Int) ≤ k by omega) (dcall (noParam_sp l[k]) rfl (congrArg (fun d => [d]) (ints_at k1)) rfl (dbr (fun h => ?_) fun h => ?_))
  ·replace h : badI l[k] = true := h
   rw [if_pos h] at he
   exact dret (by rw [← he]; rfl)
  ·replace h : badI l[k] = false := h
   rw [if_neg (by rw [h]; decide)] at he
   exact dfit (show (-9223372036854775808 : Int) ≤ (k : Int) + 1 by omega) (show (k : Int) + 1 ≤ 9223372036854775807 by omega) (dagain rfl ⟨k + 1, rfl, ⟨by omega, he⟩, by omega⟩)
 ·replace g : ¬ (k : Int) < l.length := by rw [← ints_len]; exact g
  have : k = l.length := by omega
  subst this
  rw [List.drop_length] at he
  exact dret (by rw [← he]; rfl)
theorem hasI_sp (l : List Int) (hl : l.length ≤ 1048576) : Spn n_slices_ContainsFunc_int sg_slices_ContainsFunc_int [intsD l] [.B (decide (∃ x ∈ l, badI x = true))] :=
 rd_slices_ContainsFunc_int rfl rfl (dcall (idxI_sp l hl) rfl rfl rfl (ret_d decide_eq_true_iff (c := 0 ≤ firstF badI l 0) rfl (firstF_iff _ _ _)))
def kindB (b : Nat) : Int := if b < 32 then 0 else if b < 48 then 1 else if b < 64 then 2 else if b < 127 then 3 else if b = 127 then 4 else 5
theorem kindOf_sp (b : Nat) : Spn n_vt_kindOf sg_vt_kindOf [.I b] [.I (kindB b)] := by
 refine rd_vt_kindOf rfl (dlt (fun h1 => dret ?_) fun h1 => dlt (fun h2 => dret ?_) fun h2 => dlt (fun h3 => dret ?_) fun h3 => dlt (fun h4 => dret ?_) fun h4 => deq (fun h5 => dret ?_) fun h5 => dret ?_)
 all_goals unfold kindB
 all_goals (try replace h1 : (b : Int) < 32 := h1)
 all_goals (try replace h1 : ¬ (b : Int) < 32 := h1)
 all_goals (try replace h2 : (b : Int) < 48 := h2)
 all_goals (try replace h2 : ¬ (b : Int) < 48 := h2)
 all_goals (try replace h3 : (b : Int) < 64 := h3)
 all_goals (try replace h3 : ¬ (b : Int) < 64 := h3)
 all_goals (try replace h4 : (b : Int) < 127 := h4)
 all_goals (try replace h4 : ¬ (b : Int) < 127 := h4)
 all_goals (try replace h5 : (b : Int) = 127 := h5)
 all_goals (try replace h5 : ¬ (b : Int) = 127 := h5)
 ·rw [if_pos (by omega)]; rfl
 ·rw [if_neg (by omega), if_pos (by omega)]; rfl
 ·rw [if_neg (by omega), if_neg (by omega), if_pos (by omega)]; rfl
 ·rw [if_neg (by omega), if_neg (by omega), if_neg (by omega), if_pos (by omega)]; rfl
 ·rw [if_neg (by omega), if_neg (by omega), if_neg (by omega), if_neg (by omega), if_pos (by omega)]; rfl
 ·rw [if_neg (by omega), if_neg (by omega), if_neg (by omega), if_neg (by omega), if_neg (by omega)]; rfl
def badB (b : UInt8) : Bool := !interB b
theorem noInter_sp (b : UInt8) : Spn n_vt_noInter sg_vt_noInter [.I b.toNat] [.B (badB b)] := by
 refine rd_vt_noInter rfl (dcall (kindOf_sp b.toNat) rfl rfl rfl (dret ?_))
 show [DV.B (!decide (kindB b.toNat = 1))] = _
 have : decide (kindB b.toNat = 1) = interB b := by
  unfold kindB interB
  rw [Bool.eq_iff_iff]
  simp only [decide_eq_true_eq, Bool.and_eq_true]
  (repeat' split) <;> omega
 rw [this]; rfl
theorem idxB_sp (l : List UInt8) (hl : l.length ≤ 1048576) : Spn n_slices_IndexFunc_byte sg_slices_IndexFunc_byte [bytesD l] [.I (firstF badB l 0)] := by
 refine rd_slices_IndexFunc_byte rfl rfl (dloop (fun k : Nat => [.I k]) (fun k => k ≤ l.length ∧ firstF badB (l.drop k) k = firstF badB l 0) (fun k => l.length - k) 0 rfl ⟨Nat.zero_le _, rfl⟩ fun k hk _ => ?_)
 obtain ⟨hk, he⟩ := hk
 refine dlt (fun g => ?_) fun g => ?_
 ·replace g : (k : Int) < l.length := by rw [← bytes_len]; exact g
  have k1 : k < l.length := by omega
  rw [drop_at k1, firstF] at he
  refine nle (show (0 : Int) ≤ k by omega) (dcall (noInter_sp l[k]) rfl (congrArg (fun d => [d]) (bytes_at k1)) rfl (dbr (fun h => ?_) fun h => ?_))
  ·replace h : badB l[k] = true := h
   rw [if_pos h] at he
   exact dret (by rw [← he]; rfl)
  ·replace h : badB l[k] = false := h
   rw [if_neg (by rw [h]; decide)] at he
   exact dfit (show (-9223372036854775808 : Int) ≤ (k : Int) + 1 by omega) (show (k : Int) + 1 ≤ 9223372036854775807 by omega) (dagain rfl ⟨k + 1, rfl, ⟨by omega, he⟩, by omega⟩)
 ·replace g : ¬ (k : Int) < l.length := by rw [← bytes_len]; exact g
  have : k = l.length := by omega
  subst this
  rw [List.drop_length] at he
  exact dret (by rw [← he]; rfl)
theorem hasB_sp (l : List UInt8) (hl : l.length ≤ 1048576) : Spn n_slices_ContainsFunc_byte sg_slices_ContainsFunc_byte [bytesD l] [.B (decide (∃ x ∈ l, badB x = true))] :=
 rd_slices_ContainsFunc_byte rfl rfl (dcall (idxB_sp l hl) rfl rfl rfl (ret_d decide_eq_true_iff (c := 0 ≤ firstF badB l 0) rfl (firstF_iff _ _ _)))
def prR (m : Int) (pv : Nat) (ps : List Int) (is us : List UInt8) : List DV := [.I m, .I pv, intsD ps, bytesD is, bytesD us]
section
variable {m : Int} {pv : Nat} {ps : List Int} {is us : List UInt8} {v : Bool}
theorem vRightUtf_sp (hl : us.length ≤ 1048576) (hv : v = true ↔ (0 < us.length → m = 0 ∧ beginsL us = true)) : Spn n_vt_rightUtf sg_vt_rightUtf (prR m pv ps is us) [.B v] := by
 refine rd_vt_rightUtf rfl (deq (fun h => ret_t hv ?_) fun h => deq (fun h2 => dcall (uBegins_sp us hl) rfl rfl rfl (ret_v hv (u := beginsL us) rfl ?_)) fun h2 => ret_f hv ?_)
 ·replace h : ((bytesD us).rows.length : Int) = 0 := h
  rw [bytes_len] at h
  omega
 ·replace h : ¬ ((bytesD us).rows.length : Int) = 0 := h
  replace h2 : m = 0 := h2
  rw [bytes_len] at h
  exact ⟨fun g _ => ⟨h2, g⟩, fun g => (g (by omega)).2⟩
 ·replace h : ¬ ((bytesD us).rows.length : Int) = 0 := h
  replace h2 : ¬ m = 0 := h2
  rw [bytes_len] at h
  exact fun g => h2 (g (by omega)).1
theorem vParams_in (hl : ps.length ≤ 1048576) {P : Prop} {k : Nat} (hv : v = true ↔ P) (h : (ps.length ≤ 16 ∧ ∀ x ∈ ps, 0 ≤ x ∧ x ≤ 65535) ↔ P) {env : List DV} {cx} (he : env = prR m pv ps is us) :
  (Tree.br (.O .le (.U .len (.V 2)) (.I 16)) (.call n_slices_ContainsFunc_int [.V 2] 1 (.ret [.U .not (.V 5)])) (.ret [.B false])).den SpF1 (fun es => es = [DV.B v]) env cx := by
 subst he
 refine dle (fun h1 => dcall (hasI_sp ps hl) rfl rfl rfl (ret_v hv (u := !decide (∃ x ∈ ps, badI x = true)) rfl ?_)) fun h1 => ret_f hv ?_
 ·replace h1 : ((intsD ps).rows.length : Int) ≤ 16 := h1
  rw [ints_len] at h1
  rw [← h]
  have : (!decide (∃ x ∈ ps, badI x = true)) = true ↔ ∀ x ∈ ps, 0 ≤ x ∧ x ≤ 65535 := by
   rw [Bool.not_eq_true', decide_eq_false_iff_not, not_exists]
   refine ⟨fun g x hx => ?_, fun g x hx => ?_⟩
   ·have := g x
    simp only [badI, decide_eq_true_eq, not_and] at this
    have := this hx
    omega
   ·have := g x hx.1
    have h2 := hx.2
    simp only [badI, decide_eq_true_eq] at h2
    omega
  rw [this]
  exact ⟨fun g => ⟨by omega, g⟩, fun g => g.2⟩
 ·replace h1 : ¬ ((intsD ps).rows.length : Int) ≤ 16 := h1
  rw [ints_len] at h1
  rw [← h]
  omega
theorem vRightParams_sp (hl : ps.length ≤ 1048576) (hv : v = true ↔ (((m = 4 ∨ m = 5) ∧ (pv = 0 ∨ (60 ≤ pv ∧ pv ≤ 63)) ∧ ps.length ≤ 16 ∧ ∀ x ∈ ps, 0 ≤ x ∧ x ≤ 65535) ∨ (¬ (m = 4 ∨ m = 5) ∧ pv = 0 ∧ ps.length = 0))) : Spn n_vt_rightParams sg_vt_rightParams (prR m pv ps is us) [.B v] := by
 have inn : (m = 4 ∨ m = 5) → (pv = 0 ∨ (60 ≤ pv ∧ pv ≤ 63)) → ((ps.length ≤ 16 ∧ ∀ x ∈ ps, 0 ≤ x ∧ x ≤ 65535) ↔ (((m = 4 ∨ m = 5) ∧ (pv = 0 ∨ (60 ≤ pv ∧ pv ≤ 63)) ∧ ps.length ≤ 16 ∧ ∀ x ∈ ps, 0 ≤ x ∧ x ≤ 65535) ∨ (¬ (m = 4 ∨ m = 5) ∧ pv = 0 ∧ ps.length = 0))) := fun h1 h2 =>
  ⟨fun g => .inl ⟨h1, h2, g⟩, fun g => g.elim (fun g => g.2.2) fun g => absurd h1 g.1⟩
 have one : ∀ {env : List DV} {cx}, env = prR m pv ps is us → (m = 4 ∨ m = 5) → (Tree.br (.O .eq (.V 1) (.I 0)) (.br (.O .le (.U .len (.V 2)) (.I 16)) (.call n_slices_ContainsFunc_int [.V 2] 1 (.ret [.U .not (.V 5)])) (.ret [.B false])) (.br (.O .le (.I 60) (.V 1)) (.br (.O .le (.V 1) (.I 63)) (.br (.O .le (.U .len (.V 2)) (.I 16)) (.call n_slices_ContainsFunc_int [.V 2] 1 (.ret [.U .not (.V 5)])) (.ret [.B false])) (.ret [.B false])) (.ret [.B false]))).den SpF1 (fun es => es = [DV.B v]) env cx := fun he hm => by
  subst he
  refine deq (fun h2 => vParams_in (k := 0) hl hv (inn hm ?_) rfl) fun h2 => dle (fun h3 => dle (fun h4 => vParams_in (k := 0) hl hv (inn hm ?_) rfl) fun h4 => ret_f hv ?_) fun h3 => ret_f hv ?_
  ·replace h2 : (pv : Int) = 0 := h2
   omega
  ·replace h3 : (60 : Int) ≤ pv := h3
   replace h4 : (pv : Int) ≤ 63 := h4
   omega
  ·replace h2 : ¬ (pv : Int) = 0 := h2
   replace h4 : ¬ (pv : Int) ≤ 63 := h4
   rintro (g | g)
   ·have := g.2.1; omega
   ·exact g.1 hm
  ·replace h2 : ¬ (pv : Int) = 0 := h2
   replace h3 : ¬ (60 : Int) ≤ pv := h3
   rintro (g | g)
   ·have := g.2.1; omega
   ·exact g.1 hm
 refine rd_vt_rightParams rfl (deq (fun h => one rfl (.inl h)) fun h => deq (fun h2 => one rfl (.inr h2)) fun h2 => deq (fun h3 => ret_d hv (c := ((intsD ps).rows.length : Int) = 0) rfl ?_) fun h3 => ret_f hv ?_)
 ·replace h : ¬ m = 4 := h
  replace h2 : ¬ m = 5 := h2
  replace h3 : (pv : Int) = 0 := h3
  rw [ints_len]
  refine ⟨fun g => .inr ⟨by omega, by omega, by omega⟩, ?_⟩
  rintro (g | g)
  ·omega
  ·omega
 ·replace h : ¬ m = 4 := h
  replace h2 : ¬ m = 5 := h2
  replace h3 : ¬ (pv : Int) = 0 := h3
  rintro (g | g)
  ·omega
  ·omega
theorem vRightInter_sp (hl : is.length ≤ 1048576) (hv : v = true ↔ (((m = 2 ∨ m = 5) ∧ 0 < is.length ∧ is.length ≤ 2 ∧ ∀ b ∈ is, interB b = true) ∨ (¬ (m = 2 ∨ m = 5) ∧ is.length = 0))) : Spn n_vt_rightInter sg_vt_rightInter (prR m pv ps is us) [.B v] := by
 have hB : (!decide (∃ x ∈ is, badB x = true)) = true ↔ ∀ b ∈ is, interB b = true := by
  rw [Bool.not_eq_true', decide_eq_false_iff_not, not_exists]
  refine ⟨fun g x hx => ?_, fun g x hx => ?_⟩
  ·have := g x
   simp only [badB, not_and, Bool.not_eq_true'] at this
   have := this hx
   simpa using this
  ·have := g x hx.1
   have h2 := hx.2
   simp [badB, this] at h2
 have one : ∀ {env : List DV} {cx}, env = prR m pv ps is us → (m = 2 ∨ m = 5) → (Tree.br (.O .lt (.I 0) (.U .len (.V 3))) (.br (.O .le (.U .len (.V 3)) (.I 2)) (.call n_slices_ContainsFunc_byte [.V 3] 1 (.ret [.U .not (.V 5)])) (.ret [.B false])) (.ret [.B false])).den SpF1 (fun es => es = [DV.B v]) env cx := fun he hm => by
  subst he
  refine dlt (fun h1 => dle (fun h2 => dcall (hasB_sp is hl) rfl rfl rfl (ret_v hv (u := !decide (∃ x ∈ is, badB x = true)) rfl ?_)) fun h2 => ret_f hv ?_) fun h1 => ret_f hv ?_
  ·replace h1 : (0 : Int) < ((bytesD is).rows.length : Int) := h1
   replace h2 : ((bytesD is).rows.length : Int) ≤ 2 := h2
   rw [bytes_len] at h1 h2
   rw [hB]
   exact ⟨fun g => .inl ⟨hm, by omega, by omega, g⟩, fun g => g.elim (fun g => g.2.2.2) fun g => absurd hm g.1⟩
  ·replace h2 : ¬ ((bytesD is).rows.length : Int) ≤ 2 := h2
   rw [bytes_len] at h2
   rintro (g | g)
   ·omega
   ·exact g.1 hm
  ·replace h1 : ¬ (0 : Int) < ((bytesD is).rows.length : Int) := h1
   rw [bytes_len] at h1
   rintro (g | g)
   ·omega
   ·exact g.1 hm
 refine rd_vt_rightInter rfl (deq (fun h => one rfl (.inl h)) fun h => deq (fun h2 => one rfl (.inr h2)) fun h2 => ret_d hv (c := ((bytesD is).rows.length : Int) = 0) rfl ?_)
 replace h : ¬ m = 2 := h
 replace h2 : ¬ m = 5 := h2
 rw [bytes_len]
 refine ⟨fun g => .inr ⟨by omega, by omega⟩, ?_⟩
 rintro (g | g)
 ·omega
 ·omega
theorem vRight_sp (h1 : ps.length ≤ 1048576) (h2 : is.length ≤ 1048576) (h3 : us.length ≤ 1048576) (hv : v = true ↔ RightP m pv ps is us) : Spn n_vt_Right sg_vt_Right (prR m pv ps is us) [.B v] := by
 obtain ⟨u1, e1⟩ : ∃ u : Bool, u = true ↔ (0 < us.length → m = 0 ∧ beginsL us = true) := ⟨decide _, decide_eq_true_iff⟩
 obtain ⟨u2, e2⟩ : ∃ u : Bool, u = true ↔ (((m = 4 ∨ m = 5) ∧ (pv = 0 ∨ (60 ≤ pv ∧ pv ≤ 63)) ∧ ps.length ≤ 16 ∧ ∀ x ∈ ps, 0 ≤ x ∧ x ≤ 65535) ∨ (¬ (m = 4 ∨ m = 5) ∧ pv = 0 ∧ ps.length = 0)) := ⟨decide _, decide_eq_true_iff⟩
 obtain ⟨u3, e3⟩ : ∃ u : Bool, u = true ↔ (((m = 2 ∨ m = 5) ∧ 0 < is.length ∧ is.length ≤ 2 ∧ ∀ b ∈ is, interB b = true) ∨ (¬ (m = 2 ∨ m = 5) ∧ is.length = 0)) := ⟨decide _, decide_eq_true_iff⟩
 have hR : RightP m pv ps is us ↔ (0 ≤ m ∧ m ≤ 7) ∧ u1 = true ∧ u2 = true ∧ u3 = true := by
  rw [e1, e2, e3]
  unfold RightP
  constructor
  ·rintro ⟨⟨a1, a2, a3, a4, a5⟩, b, c, d, e, f⟩
   refine ⟨⟨a1, a2⟩, a5, ?_, ?_⟩
   ·by_cases hm : m = 4 ∨ m = 5
    ·exact .inl ⟨hm, d, a3, b⟩
    ·exact .inr ⟨hm, e.resolve_left hm⟩
   ·by_cases hm : m = 2 ∨ m = 5
    ·exact .inl ⟨hm, f.1 hm, a4, c⟩
    ·exact .inr ⟨hm, by have := fun h => hm (f.2 h); omega⟩
  ·rintro ⟨⟨a1, a2⟩, a5, g, k⟩
   refine ⟨⟨a1, a2, ?_, ?_, a5⟩, ?_, ?_, ?_, ?_, ?_⟩
   ·rcases g with g | g <;> omega
   ·rcases k with k | k <;> omega
   ·rcases g with g | g
    ·exact g.2.2.2
    ·have : ps = [] := List.eq_nil_of_length_eq_zero g.2.2
     subst this; intro x hx; cases hx
   ·rcases k with k | k
    ·exact k.2.2.2
    ·have : is = [] := List.eq_nil_of_length_eq_zero k.2
     subst this; intro x hx; cases hx
   ·rcases g with g | g
    ·exact g.2.1
    ·exact .inl g.2.1
   ·rcases g with g | g
    ·exact .inl g.1
    ·exact .inr g.2
   ·rcases k with k | k
    ·exact ⟨fun _ => k.2.1, fun _ => k.1⟩
    ·exact ⟨fun h => absurd h k.1, fun h => by omega⟩
 rw [hR] at hv
 refine rd_vt_Right rfl (dle (fun h4 => dle (fun h5 => dcall (vRightUtf_sp h3 e1) rfl rfl rfl (dbr (fun h6 => dcall (vRightParams_sp h1 e2) rfl rfl rfl (dbr (fun h7 => dcall (vRightInter_sp h2 e3) rfl rfl rfl (ret_v hv (u := u3) rfl ?_)) fun h7 => ret_f hv ?_)) fun h6 => ret_f hv ?_)) fun h5 => ret_f hv ?_) fun h4 => ret_f hv ?_)
 ·exact ⟨fun g => ⟨⟨h4, h5⟩, h6, h7, g⟩, fun g => g.2.2.2⟩
 ·replace h7 : u2 = false := h7
  simp [h7]
 ·replace h6 : u1 = false := h6
  simp [h6]
 ·exact fun g => h5 g.1.2
 ·exact fun g => h4 g.1.1
end
def scR (m : Int) (s : Sc) : List DV := [.I s.rows, .I s.cols, cellsD s.cells, .I s.y, .I s.x, .B s.wrap, .I s.attr, .I s.top, .I s.bottom, boolsD s.tabs, .I s.sy, .I s.sx, .I s.sattr, .B s.auto, .B s.shown, .B s.alt, cellsD s.other, .I s.oy, .I s.ox, .I m, .I s.p.priv, intsD s.p.params, bytesD s.p.inter, bytesD s.p.utf]
theorem eqCells_sp {l m : List Cl} {v : Bool} (hl : l.length ≤ 1048576) (hv : v = true ↔ l = m) : Spn n_slices_Equal_Cell sg_slices_Equal_Cell [cellsD l, cellsD m] [.B v] := by
 refine rd_slices_Equal_Cell rfl (deq (fun h => dloop (fun k : Nat => [.I k]) (fun k => k ≤ l.length ∧ l.take k = m.take k) (fun k => l.length - k) 0 rfl ⟨Nat.zero_le _, rfl⟩ fun k hk _ => ?_) fun h => ret_f hv fun e => h (by subst e; rfl))
 replace h : (l.length : Int) = m.length := by rw [← cells_len, ← cells_len]; exact h
 obtain ⟨hk, ht⟩ := hk
 refine dlt (fun g => ?_) fun g => ?_
 ·replace g : (k : Int) < l.length := by rw [← cells_len]; exact g
  have h1 : k < l.length := by omega
  have h2 : k < m.length := by omega
  have hE := cellEq (env := [cellsD l, cellsD m] ++ [DV.I (k : Int)]) (A := .V 0) (B := .V 1) (I := .V 2) (J := .V 2) (l := l) (m := m) (k := k) (j := k) rfl rfl rfl rfl h1 h2
  refine nle (show (0 : Int) ≤ k by omega) (nlt (show (k : Int) < ((cellsD m).rows.length : Int) by rw [cells_len]; omega) (dbr (fun q => ?_) fun q => ret_f hv ?_))
  ·have q : decide (_ = _) = true := hE.symm.trans q
   have q := of_decide_eq_true q
   refine dfit (show (-9223372036854775808 : Int) ≤ (k : Int) + 1 by omega) (show (k : Int) + 1 ≤ 9223372036854775807 by omega) (dagain rfl ⟨k + 1, rfl, ⟨by omega, ?_⟩, by omega⟩)
   rw [List.take_add_one, List.take_add_one, ht, List.getElem?_eq_getElem h1, List.getElem?_eq_getElem h2, q]
  ·have q : decide (_ = _) = false := hE.symm.trans q
   have q := of_decide_eq_false q
   intro e; subst e; exact q rfl
 ·replace g : ¬ (k : Int) < l.length := by rw [← cells_len]; exact g
  rw [List.take_of_length_le (by omega), List.take_of_length_le (by omega)] at ht
  exact ret_t hv ht
theorem allRight_sp {l : List Cl} {v : Bool} (hl : l.length ≤ 1048576) (hv : v = true ↔ ∀ x ∈ l, cellB x = true) : Spn n_screen_allRight sg_screen_allRight [cellsD l] [.B v] := by
 refine rd_screen_allRight rfl (dloop (fun k : Nat => [.I k]) (fun k => k ≤ l.length ∧ ∀ j (h : j < l.length), j < k → cellB l[j] = true) (fun k => l.length - k) 0 rfl ⟨Nat.zero_le _, fun j h hj => absurd hj (by omega)⟩ fun k hk _ => ?_)
 obtain ⟨hk, ha⟩ := hk
 refine dlt (fun g => ?_) fun g => ?_
 ·replace g : (k : Int) < l.length := by rw [← cells_len]; exact g
  have k1 : k < l.length := by omega
  have e1 := cells_at k1
  have e2 : [(cellsD l).rows.getD k [] |>.getD 0 (.I 0), (cellsD l).rows.getD k [] |>.getD 1 (.I 0), (cellsD l).rows.getD k [] |>.getD 2 (.I 0)] = [DV.I l[k].r, .I l[k].a, .I l[k].h] := by rw [e1]; rfl
  have next : cellB l[k] = true → ∃ k' : Nat, [DV.I ((k : Int) + 1)] = [DV.I (k' : Int)] ∧ (k' ≤ l.length ∧ ∀ j (h : j < l.length), j < k' → cellB l[j] = true) ∧ l.length - k' < l.length - k := fun h => ⟨k + 1, rfl, ⟨by omega, fun j hj hjk => by
    rcases Nat.lt_succ_iff_lt_or_eq.1 hjk with h' | rfl
    · exact ha j hj h'
    · exact h⟩, by omega⟩
  have no : cellB l[k] = false → ¬ ∀ x ∈ l, cellB x = true := fun h g => by
   rw [g _ (List.getElem_mem k1)] at h; cases h
  refine nle (show (0 : Int) ≤ k by omega) (dlt (fun g0 => ?_) fun g0 => ?_)
  ·replace g0 : (0 : Int) < k := g0
   have k0 : k - 1 < l.length := by omega
   have hE := cellEq (env := [cellsD l] ++ [DV.I (k : Int)]) (A := .V 0) (B := .V 0) (I := .V 1) (J := .O .sub (.V 1) (.I 1)) (l := l) (m := l) (k := k) (j := k - 1) rfl rfl rfl (show ((k : Int) - 1).toNat = k - 1 by omega) k1 k0
   refine dfit (show (-9223372036854775808 : Int) ≤ (k : Int) - 1 by omega) (show (k : Int) - 1 ≤ 9223372036854775807 by omega) (dwithin (show (0 : Int) ≤ (k : Int) - 1 by omega) (show (k : Int) - 1 < ((cellsD l).rows.length : Int) by rw [cells_len]; omega) (dbr (fun q => ?_) fun q => ?_))
   ·have q : decide (_ = _) = true := hE.symm.trans q
    have q := of_decide_eq_true q
    exact dfit (show (-9223372036854775808 : Int) ≤ (k : Int) + 1 by omega) (show (k : Int) + 1 ≤ 9223372036854775807 by omega) (dagain rfl (next (by rw [q]; exact ha _ k0 (by omega))))
   ·refine dcall (runsRight_sp l[k]) rfl e2 rfl (dbr (fun h => ?_) fun h => ret_f hv (no h))
    exact dfit (show (-9223372036854775808 : Int) ≤ (k : Int) + 1 by omega) (show (k : Int) + 1 ≤ 9223372036854775807 by omega) (dagain rfl (next h))
  ·refine dcall (runsRight_sp l[k]) rfl e2 rfl (dbr (fun h => ?_) fun h => ret_f hv (no h))
   exact dfit (show (-9223372036854775808 : Int) ≤ (k : Int) + 1 by omega) (show (k : Int) + 1 ≤ 9223372036854775807 by omega) (dagain rfl (next h))
 ·replace g : ¬ (k : Int) < l.length := by rw [← cells_len]; exact g
  refine ret_t hv fun x hx => ?_
  obtain ⟨j, hj, rfl⟩ := List.mem_iff_getElem.1 hx
  exact ha j hj (by omega)
section
variable {m : Int} {s : Sc} {v : Bool}
theorem rightCells_sp {l : List Cl} {r c : Nat} (hr : s.rows = r) (hc : s.cols = c) (r1 : 1 ≤ r) (r2 : r ≤ 1000) (c1 : 1 ≤ c) (c2 : c ≤ 1000) (hl : l.length ≤ 1048576) (hv : v = true ↔ CellsR l r c) : Spn n_screen_rightCells sg_screen_rightCells (scR m s ++ [cellsD l]) [.B v] := by
 have hrl := rc_le r2 c2
 have e0 : s.rows * s.cols = ((r * c : Nat) : Int) := by rw [hr, hc]; push_cast; rfl
 obtain ⟨u1, e1⟩ : ∃ u : Bool, u = true ↔ ∀ x ∈ l, cellB x = true := ⟨decide _, decide_eq_true_iff⟩
 refine rd_screen_rightCells rfl (dfit (show (-9223372036854775808 : Int) ≤ s.rows * s.cols by rw [e0]; omega) (show s.rows * s.cols ≤ 9223372036854775807 by rw [e0]; omega) (deq (fun h => dcall (allRight_sp hl e1) rfl rfl rfl (dbr (fun ha => ?_) fun ha => ret_f hv ?_)) fun h => ret_f hv ?_))
 ·replace h : ((cellsD l).rows.length : Int) = s.rows * s.cols := h
  rw [cells_len, e0] at h
  have hn : l.length = r * c := by omega
  have hG : GOk l.length r c := ⟨c1, c2, r1, r2, hn⟩
  refine dloop (fun y : Nat => [.I y]) (fun y => y ≤ r ∧ ∀ y', y' < y → RowW l c y') (fun y => r - y) 0 rfl ⟨Nat.zero_le _, fun j hj => absurd hj (by omega)⟩ fun y hy _ => ?_
  obtain ⟨hy, hw⟩ := hy
  refine dlt (fun g => ?_) fun g => ?_
  ·replace g : (y : Int) < s.rows := g
   rw [hr] at g
   have y1 : y < r := by omega
   have hle := row_end (c := c) y1
   have f1 : (y : Int) * s.cols = ((y * c : Nat) : Int) := by rw [hc]; push_cast; rfl
   have f2 : ((y : Int) + 1) * s.cols = ((y * c + c : Nat) : Int) := by rw [hc, Int.add_mul]; push_cast; omega
   have hlen : ((cellsD l).rows.length : Int) = l.length := cells_len l
   have hrow : (E.O .tk (.O .dr (.V 24) (.O .mul (.V 26) (.V 1))) (.O .sub (.O .mul (.O .add (.V 26) (.I 1)) (.V 1)) (.O .mul (.V 26) (.V 1)))).den (scR m s ++ [cellsD l] ++ [DV.B u1] ++ [DV.I (y : Int)]) = cellsD (rowL l c y) := by
    show DV.L (((cellsD l).rows.drop ((y : Int) * s.cols).toNat).take (((y : Int) + 1) * s.cols - (y : Int) * s.cols).toNat) = _
    rw [f1, f2, show (((y * c + c : Nat) : Int) - ((y * c : Nat) : Int)).toNat = c by omega, Int.toNat_natCast]
    simp only [cellsD, DV.rows, rowL, List.map_take, List.map_drop]
   have hrl2 := rowL_len hG y1
   obtain ⟨u2, e2⟩ : ∃ u : Bool, u = true ↔ mendL (rowL l c y) (c : Int) 0 = rowL l c y := ⟨decide _, decide_eq_true_iff⟩
   refine dfit (show (-9223372036854775808 : Int) ≤ (y : Int) * s.cols by rw [f1]; omega) (show (y : Int) * s.cols ≤ 9223372036854775807 by rw [f1]; omega) ?_
   refine dfit (show (-9223372036854775808 : Int) ≤ (y : Int) + 1 by omega) (show (y : Int) + 1 ≤ 9223372036854775807 by omega) ?_
   refine dfit (show (-9223372036854775808 : Int) ≤ ((y : Int) + 1) * s.cols by rw [f2]; omega) (show ((y : Int) + 1) * s.cols ≤ 9223372036854775807 by rw [f2]; omega) ?_
   refine dslice (show (0 : Int) ≤ (y : Int) * s.cols by rw [f1]; omega) (show (y : Int) * s.cols ≤ ((y : Int) + 1) * s.cols by rw [f1, f2]; omega) (show ((y : Int) + 1) * s.cols ≤ ((cellsD l).rows.length : Int) by rw [f2, hlen]; omega) ?_
   refine dcall (gMend_sp (rowL l c y) c 0 (by omega)) rfl ?_ rfl (dcall (eqCells_sp (l := mendL (rowL l c y) c 0) (m := rowL l c y) (v := u2) (by rw [mendL_len]; omega) e2) rfl ?_ rfl (dbr (fun q => ?_) fun q => ret_f hv ?_))
   ·refine (congrArg (fun d => [d, DV.I s.cols, DV.I 0]) hrow).trans ?_
    rw [hc]
   ·exact congrArg (fun d => [cellsD (mendL (rowL l c y) c 0), d]) hrow
   ·replace q : u2 = true := q
    have q := (row_whole hG y1).1 (e2.1 q)
    refine dagain rfl ⟨y + 1, rfl, ⟨by omega, fun y' hy' => ?_⟩, by omega⟩
    rcases Nat.lt_succ_iff_lt_or_eq.1 hy' with hy' | rfl
    ·exact hw y' hy'
    ·exact q
   ·replace q : u2 = false := q
    intro hR
    have := e2.2 ((row_whole hG y1).2 (hR.2.2 y y1))
    rw [this] at q; cases q
  ·replace g : ¬ (y : Int) < s.rows := g
   rw [hr] at g
   have : y = r := by omega
   subst this
   exact ret_t hv ⟨hn, e1.1 ha, hw⟩
 ·replace ha : u1 = false := ha
  intro hR
  rw [e1.2 hR.2.1] at ha; cases ha
 ·intro hR
  apply h
  show ((cellsD l).rows.length : Int) = s.rows * s.cols
  rw [cells_len, e0, hR.1]
theorem isPlace_sp (y x : Int) : Spn n_screen_isPlace sg_screen_isPlace (scR m s ++ [.I y, .I x]) [.B (decide (0 ≤ y ∧ y < s.rows ∧ 0 ≤ x ∧ x < s.cols))] :=
 rd_screen_isPlace rfl (dle (fun h1 => dlt (fun h2 => dle (fun h3 => ret_d decide_eq_true_iff (c := x < s.cols) rfl ⟨fun g => ⟨h1, h2, h3, g⟩, fun g => g.2.2.2⟩) fun h3 => ret_f decide_eq_true_iff fun g => h3 g.2.2.1) fun h2 => ret_f decide_eq_true_iff fun g => h2 g.2.1) fun h1 => ret_f decide_eq_true_iff fun g => h1 g.1)
theorem isRegion_sp (t b : Int) : Spn n_screen_isRegion sg_screen_isRegion (scR m s ++ [.I t, .I b]) [.B (decide (0 ≤ t ∧ t < b ∧ b < s.rows))] :=
 rd_screen_isRegion rfl (dle (fun h1 => dlt (fun h2 => ret_d decide_eq_true_iff (c := b < s.rows) rfl ⟨fun g => ⟨h1, h2, g⟩, fun g => g.2.2⟩) fun h2 => ret_f decide_eq_true_iff fun g => h2 g.2.1) fun h1 => ret_f decide_eq_true_iff fun g => h1 g.1)
theorem rightRegion_sp (r1 : 1 ≤ s.rows) (hv : v = true ↔ (0 ≤ s.top ∧ s.bottom < s.rows ∧ (s.top < s.bottom ∨ (s.rows = 1 ∧ s.top = 0 ∧ s.bottom = 0)))) : Spn n_screen_rightRegion sg_screen_rightRegion (scR m s) [.B v] := by
 refine rd_screen_rightRegion rfl (deq (fun h1 => deq (fun h2 => ret_d hv (c := s.bottom = 0) rfl ?_) fun h2 => ret_f hv ?_) fun h1 => dcall (isRegion_sp s.top s.bottom) rfl rfl rfl (ret_v hv (u := decide (0 ≤ s.top ∧ s.top < s.bottom ∧ s.bottom < s.rows)) rfl ?_))
 ·replace h1 : s.rows = 1 := h1
  replace h2 : s.top = 0 := h2
  omega
 ·replace h1 : s.rows = 1 := h1
  replace h2 : ¬ s.top = 0 := h2
  omega
 ·replace h1 : ¬ s.rows = 1 := h1
  rw [decide_eq_true_iff]
  omega
theorem sAttr_sp (a : Nat) : Spn n_screen_rightAttr sg_screen_rightAttr [.I a] [.B (attrB a)] := by
 have h := runsRight_sp ⟨32, a, 0⟩
 rw [cellB_attr] at h
 exact rd_screen_rightAttr rfl (dcall h rfl rfl rfl (dret rfl))
theorem rightOther_sp {r c : Nat} (hr : s.rows = r) (hc : s.cols = c) (r1 : 1 ≤ r) (r2 : r ≤ 1000) (c1 : 1 ≤ c) (c2 : c ≤ 1000) (hl : s.other.length ≤ 1048576) (hv : v = true ↔ ((s.alt = true → CellsR s.other r c) ∧ (s.alt = false → s.other.length = 0 ∧ s.oy = 0 ∧ s.ox = 0))) : Spn n_screen_rightOther sg_screen_rightOther (scR m s) [.B v] := by
 obtain ⟨u1, e1⟩ : ∃ u : Bool, u = true ↔ CellsR s.other r c := by
  by_cases h : CellsR s.other r c
  ·exact ⟨true, by simp [h]⟩
  ·exact ⟨false, by simp [h]⟩
 refine rd_screen_rightOther rfl (dbr (fun h => dcall (rightCells_sp (m := m) hr hc r1 r2 c1 c2 hl e1) rfl rfl rfl (ret_v hv (u := u1) rfl ?_)) fun h => deq (fun h1 => deq (fun h2 => ret_d hv (c := s.ox = 0) rfl ?_) fun h2 => ret_f hv ?_) fun h1 => ret_f hv ?_)
 ·replace h : s.alt = true := h
  rw [e1, h]; simp
 ·replace h : s.alt = false := h
  replace h1 : ((cellsD s.other).rows.length : Int) = 0 := h1
  replace h2 : s.oy = 0 := h2
  rw [cells_len] at h1
  rw [h]
  exact ⟨fun g => ⟨fun h => (by cases h), fun _ => ⟨by omega, h2, g⟩⟩, fun g => (g.2 rfl).2.2⟩
 ·replace h : s.alt = false := h
  replace h2 : ¬ s.oy = 0 := h2
  exact fun g => h2 (g.2 h).2.1
 ·replace h : s.alt = false := h
  replace h1 : ¬ ((cellsD s.other).rows.length : Int) = 0 := h1
  rw [cells_len] at h1
  exact fun g => h1 (by rw [(g.2 h).1]; rfl)
structure LenS (s : Sc) : Prop where
 nc : s.cells.length ≤ 1048576
 no : s.other.length ≤ 1048576
 nt : s.tabs.length ≤ 1048576
 np : s.p.params.length ≤ 1048576
 ni : s.p.inter.length ≤ 1048576
 nu : s.p.utf.length ≤ 1048576
theorem ex_bool (P : Prop) : ∃ u : Bool, u = true ↔ P := by
 by_cases h : P
 ·exact ⟨true, by simp [h]⟩
 ·exact ⟨false, by simp [h]⟩
theorem sRight_sp (hL : LenS s) (hv : v = true ↔ RightS m s) : Spn n_screen_Right sg_screen_Right (scR m s) [.B v] := by
 refine rd_screen_Right rfl (dcall (isSize_sp s.rows) rfl rfl rfl (dbr (fun h1 => dcall (isSize_sp s.cols) rfl rfl rfl (dbr (fun h2 => ?_) fun h2 => ret_f hv ?_)) fun h1 => ret_f hv ?_))
 rotate_left
 ·replace h2 : decide (1 ≤ s.cols ∧ s.cols ≤ 1000) = false := h2
  exact fun g => of_decide_eq_false h2 ⟨g.c1, g.c2⟩
 ·replace h1 : decide (1 ≤ s.rows ∧ s.rows ≤ 1000) = false := h1
  exact fun g => of_decide_eq_false h1 ⟨g.r1, g.r2⟩
 replace h1 : 1 ≤ s.rows ∧ s.rows ≤ 1000 := of_decide_eq_true h1
 replace h2 : 1 ≤ s.cols ∧ s.cols ≤ 1000 := of_decide_eq_true h2
 obtain ⟨r, hr⟩ : ∃ r : Nat, s.rows = r := ⟨s.rows.toNat, by omega⟩
 obtain ⟨c, hc⟩ : ∃ c : Nat, s.cols = c := ⟨s.cols.toNat, by omega⟩
 have er : s.rows.toNat = r := by omega
 have ec : s.cols.toNat = c := by omega
 have r1 : 1 ≤ r := by omega
 have r2 : r ≤ 1000 := by omega
 have c1 : 1 ≤ c := by omega
 have c2 : c ≤ 1000 := by omega
 obtain ⟨u1, e1⟩ := ex_bool (CellsR s.cells r c)
 obtain ⟨u2, e2⟩ := ex_bool ((s.alt = true → CellsR s.other r c) ∧ (s.alt = false → s.other.length = 0 ∧ s.oy = 0 ∧ s.ox = 0))
 obtain ⟨u3, e3⟩ := ex_bool (0 ≤ s.top ∧ s.bottom < s.rows ∧ (s.top < s.bottom ∨ (s.rows = 1 ∧ s.top = 0 ∧ s.bottom = 0)))
 obtain ⟨u4, e4⟩ := ex_bool (RightP m s.p.priv s.p.params s.p.inter s.p.utf)
 refine dcall (rightCells_sp (m := m) hr hc r1 r2 c1 c2 hL.nc e1) rfl rfl rfl (dbr (fun h3 => dcall (rightOther_sp (m := m) hr hc r1 r2 c1 c2 hL.no e2) rfl rfl rfl (dbr (fun h4 => dcall (isPlace_sp s.y s.x) rfl rfl rfl (dbr (fun h5 => dcall (isPlace_sp s.sy s.sx) rfl rfl rfl (dbr (fun h6 => dcall (isPlace_sp s.oy s.ox) rfl rfl rfl (dbr (fun h7 => ?_) fun h7 => ret_f hv ?_)) fun h6 => ret_f hv ?_)) fun h5 => ret_f hv ?_)) fun h4 => ret_f hv ?_)) fun h3 => ret_f hv ?_)
 rotate_left
 ·replace h7 : decide (0 ≤ s.oy ∧ s.oy < s.rows ∧ 0 ≤ s.ox ∧ s.ox < s.cols) = false := h7
  exact fun g => of_decide_eq_false h7 ⟨g.oy0, g.oy1, g.ox0, g.ox1⟩
 ·replace h6 : decide (0 ≤ s.sy ∧ s.sy < s.rows ∧ 0 ≤ s.sx ∧ s.sx < s.cols) = false := h6
  exact fun g => of_decide_eq_false h6 ⟨g.sy0, g.sy1, g.sx0, g.sx1⟩
 ·replace h5 : decide (0 ≤ s.y ∧ s.y < s.rows ∧ 0 ≤ s.x ∧ s.x < s.cols) = false := h5
  exact fun g => of_decide_eq_false h5 ⟨g.y0, g.y1, g.x0, g.x1⟩
 ·replace h4 : u2 = false := h4
  exact fun g => by
   rw [e2.2 ⟨fun ha => by have := g.other ha; rw [er, ec] at this; exact this, g.noAlt⟩] at h4; cases h4
 ·replace h3 : u1 = false := h3
  exact fun g => by
   have := g.cells
   rw [er, ec] at this
   rw [e1.2 this] at h3; cases h3
 replace h3 := e1.1 h3
 replace h4 := e2.1 h4
 replace h5 : 0 ≤ s.y ∧ s.y < s.rows ∧ 0 ≤ s.x ∧ s.x < s.cols := of_decide_eq_true h5
 replace h6 : 0 ≤ s.sy ∧ s.sy < s.rows ∧ 0 ≤ s.sx ∧ s.sx < s.cols := of_decide_eq_true h6
 replace h7 : 0 ≤ s.oy ∧ s.oy < s.rows ∧ 0 ≤ s.ox ∧ s.ox < s.cols := of_decide_eq_true h7
 have fin : (s.wrap = true → s.x = s.cols - 1) → ∀ {env : List DV} {cx : List (List DV → Prop)}, env = scR m s ++ [DV.B (decide (1 ≤ s.rows ∧ s.rows ≤ 1000))] ++ [DV.B (decide (1 ≤ s.cols ∧ s.cols ≤ 1000))] ++ [DV.B u1] ++ [DV.B u2] ++ [DV.B (decide (0 ≤ s.y ∧ s.y < s.rows ∧ 0 ≤ s.x ∧ s.x < s.cols))] ++ [DV.B (decide (0 ≤ s.sy ∧ s.sy < s.rows ∧ 0 ≤ s.sx ∧ s.sx < s.cols))] ++ [DV.B (decide (0 ≤ s.oy ∧ s.oy < s.rows ∧ 0 ≤ s.ox ∧ s.ox < s.cols))] →
   (Tree.call n_screen_rightAttr [.V 6] 1 (.br (.V 31) (.call n_screen_rightAttr [.V 12] 1 (.br (.V 32) (.call n_screen_rightRegion (vs 0 24) 1 (.br (.V 33) (.br (.O .eq (.U .len (.V 9)) (.V 1)) (.call n_vt_Right (vs 19 5) 1 (.ret [.V 34])) (.ret [.B false])) (.ret [.B false]))) (.ret [.B false]))) (.ret [.B false]))).den SpF1 (fun es => es = [DV.B v]) env cx := fun hw env cx he => by
  subst he
  refine dcall (sAttr_sp s.attr) rfl rfl rfl (dbr (fun k1 => dcall (sAttr_sp s.sattr) rfl rfl rfl (dbr (fun k2 => dcall (rightRegion_sp (m := m) h1.1 e3) rfl rfl rfl (dbr (fun k3 => deq (fun k4 => dcall (vRight_sp hL.np hL.ni hL.nu e4) rfl rfl rfl (ret_v hv (u := u4) rfl ?_)) fun k4 => ret_f hv ?_) fun k3 => ret_f hv ?_)) fun k2 => ret_f hv ?_)) fun k1 => ret_f hv ?_)
  ·replace k1 : attrB s.attr = true := k1
   replace k2 : attrB s.sattr = true := k2
   replace k3 := e3.1 k3
   replace k4 : ((boolsD s.tabs).rows.length : Int) = s.cols := k4
   rw [show ((boolsD s.tabs).rows.length : Int) = s.tabs.length by simp [boolsD, DV.rows]] at k4
   rw [e4]
   constructor
   ·intro k5
    refine rightS_of hr hc r1 r2 c1 c2 h3 ?_ (by rw [← hc]; exact hw) k1 k2 (by rw [k4, hc]) k5 ⟨k3.1, by rw [← hr]; exact k3.2.1⟩ (by rw [← hr]; exact k3.2.2) h4.1 h4.2
    omega
   ·exact fun g => g.p
  ·replace k4 : ¬ ((boolsD s.tabs).rows.length : Int) = s.cols := k4
   rw [show ((boolsD s.tabs).rows.length : Int) = s.tabs.length by simp [boolsD, DV.rows]] at k4
   exact fun g => k4 g.tabs
  ·replace k3 : u3 = false := k3
   exact fun g => by rw [e3.2 ⟨g.t0, g.b1, g.tb⟩] at k3; cases k3
  ·replace k2 : attrB s.sattr = false := k2
   exact fun g => by rw [g.sattr] at k2; cases k2
  ·replace k1 : attrB s.attr = false := k1
   exact fun g => by rw [g.attr] at k1; cases k1
 refine dbr (fun h8 => dfit (show (-9223372036854775808 : Int) ≤ s.cols - 1 by omega) (show s.cols - 1 ≤ 9223372036854775807 by omega) (deq (fun h9 => fin (fun _ => h9) rfl) fun h9 => ret_f hv ?_)) fun h8 => fin ?_ rfl
 ·exact fun g => h9 (g.wrap h8)
 ·replace h8 : s.wrap = false := h8
  rw [h8]; exact fun h => by cases h
end
section
variable {T : Tab} {w : World} {S : Nat → Prop}
def AllF (T : Tab) (w : World) (S : Nat → Prop) : List CK → List DV → Prop
 | [], ds => ds = []
 | k :: ks, ds => ∃ d ds', ds = d :: ds' ∧ (∃ u, Rd T w S k d u) ∧ AllF T w S ks ds'
theorem allF_of : ∀ {ks : List CK} {ds : List DV}, ds.length = ks.length → (∀ (j : Nat) k d, ks[j]? = some k → ds[j]? = some d → ∃ u, Rd T w S k d u) → AllF T w S ks ds
 | [], ds, hl, _ => List.eq_nil_of_length_eq_zero hl
 | k :: ks, [], hl, _ => by cases hl
 | k :: ks, d :: ds, hl, h => ⟨d, ds, rfl, h 0 k d rfl rfl, allF_of (by simpa using hl) fun j k' d' h1 h2 => h (j + 1) k' d' h1 h2⟩
theorem peel_agg {ks : List CK} {ps : List (Bool × List CK)} {das : List DV} {vals : List Value} (h : ArgsR T w S ((true, ks) :: ps) das vals) : ∃ d1 d2 v vs, das = d1 ++ d2 ∧ vals = v :: vs ∧ AllF T w S ks d1 ∧ ArgsR T w S ps d2 vs := by
 obtain ⟨v, vs, rfl, ⟨hl, ⟨-, a, rfl, ha, hf⟩ | ⟨h, -⟩⟩, hr⟩ := h
 ·exact ⟨das.take ks.length, das.drop ks.length, _, vs, (List.take_append_drop _ _).symm, rfl, allF_of hl (fun j k d h1 h2 => by
    obtain ⟨u, -, hu⟩ := hf j k d h1 h2
    exact ⟨u, hu⟩), hr⟩
 ·cases h
theorem peel_one {k : CK} {ps : List (Bool × List CK)} {das : List DV} {vals : List Value} (h : ArgsR T w S ((false, [k]) :: ps) das vals) : ∃ d d2 v vs, das = d :: d2 ∧ vals = v :: vs ∧ Rd T w S k d v ∧ ArgsR T w S ps d2 vs := by
 obtain ⟨v, vs, rfl, ⟨hl, ⟨h, -⟩ | ⟨-, k', d, hk, hd, hv⟩⟩, hr⟩ := h
 ·cases h
 ·cases hk
  have e : das = das.take 1 ++ das.drop 1 := (List.take_append_drop _ _).symm
  exact ⟨d, das.drop 1, v, vs, by rw [show das.take 1 = [d] from hd] at e; exact e, rfl, hv, hr⟩
theorem peel_nil {das : List DV} {vals : List Value} (h : ArgsR T w S [] das vals) : das = [] := h.1
theorem rdI {k : IntKind} {d : DV} {v : Value} (h : Rd T w S (.int k) d v) : ∃ n, d = .I n ∧ k.min ≤ n ∧ n ≤ k.max := by
 cases h with | int h => exact ⟨_, rfl, h⟩
theorem rdB {d : DV} {v : Value} (h : Rd T w S .bool d v) : ∃ b, d = .B b := by
 cases h; exact ⟨_, rfl⟩
theorem rdN {k : IntKind} {d : DV} {v : Value} (h : Rd T w S (.int k) d v) (hk : k.signed = false) : ∃ n : Nat, d = .I (n : Int) ∧ (n : Int) ≤ k.max := by
 obtain ⟨n, rfl, h1, h2⟩ := rdI h
 have : k.min = 0 := by unfold IntKind.min; rw [hk]; rfl
 refine ⟨n.toNat, ?_, ?_⟩
 ·exact congrArg DV.I (by omega)
 ·omega
theorem rd8 {d : DV} {v : Value} (h : Rd T w S (.int .u8) d v) : ∃ n : Nat, d = .I (n : Int) ∧ n < 256 := by
 obtain ⟨n, rfl, h2⟩ := rdN h rfl
 have h2 : (n : Int) ≤ 255 := h2
 exact ⟨n, rfl, by omega⟩
theorem lst_of {α : Type} {e : TypeId} {cks : List CK} {d : DV} {v : Value} (h : Rd T w S (.lst e) d v) (hk : T.cks e = some cks) (f : α → List DV) (hf : ∀ r, AllF T w S cks r → ∃ a, r = f a) : ∃ l : List α, d = .L (l.map f) := by
 cases h with
 | @lst e rows a cap cks' q o u hk' hn hc ha hr hm hd =>
  rw [hk] at hk'
  cases hk'
  have each : ∀ r ∈ rows, ∃ a, r = f a := fun r hr' => by
   obtain ⟨i, hi⟩ := List.mem_iff_getElem?.1 hr'
   exact hf r (allF_of (hr r hr') fun j k d h1 h2 => ⟨_, hd i j r d k hi h2 h1⟩)
  have key : ∀ rows : List (List DV), (∀ r ∈ rows, ∃ a, r = f a) → ∃ l : List α, rows = l.map f := by
   intro rows
   induction rows with
   | nil => intro _; exact ⟨[], rfl⟩
   | cons r rows ih =>
    intro h
    obtain ⟨a, rfl⟩ := h r (List.mem_cons_self ..)
    obtain ⟨l, rfl⟩ := ih fun r hr => h r (List.mem_cons_of_mem _ hr)
    exact ⟨a :: l, rfl⟩
  obtain ⟨l, rfl⟩ := key rows each
  exact ⟨l, rfl⟩
end
section
variable {w : World} {S : Nat → Prop}
theorem rd_bytes {d : DV} {v : Value} (h : Rd T1 w S (.lst 5) d v) : ∃ l : List UInt8, d = bytesD l :=
 lst_of (cks := [.int .u8]) h (by decide +kernel) (fun b : UInt8 => [.I (b.toNat : Int)]) fun r hr => by
  obtain ⟨d, _, rfl, ⟨u, hu⟩, rfl⟩ := hr
  obtain ⟨n, rfl, hn⟩ := rd8 hu
  exact ⟨UInt8.ofNat n, by rw [UInt8.toNat_ofNat', Nat.mod_eq_of_lt hn]⟩
theorem rd_bools {d : DV} {v : Value} (h : Rd T1 w S (.lst 4) d v) : ∃ l : List Bool, d = boolsD l :=
 lst_of (cks := [.bool]) h (by decide +kernel) (fun b : Bool => [.B b]) fun r hr => by
  obtain ⟨d, _, rfl, ⟨u, hu⟩, rfl⟩ := hr
  obtain ⟨b, rfl⟩ := rdB hu
  exact ⟨b, rfl⟩
theorem rd_ints {d : DV} {v : Value} (h : Rd T1 w S (.lst 3) d v) : ∃ l : List Int, d = intsD l :=
 lst_of (cks := [.int .i64]) h (by decide +kernel) (fun b : Int => [.I b]) fun r hr => by
  obtain ⟨d, _, rfl, ⟨u, hu⟩, rfl⟩ := hr
  obtain ⟨b, rfl, -⟩ := rdI hu
  exact ⟨b, rfl⟩
theorem rd_cells {d : DV} {v : Value} (h : Rd T1 w S (.lst 65) d v) : ∃ l : List Cl, d = cellsD l :=
 lst_of (cks := [.int .i32, .int .u16, .int .u8]) h (by decide +kernel) clD fun r hr => by
  obtain ⟨d0, _, rfl, ⟨u0, h0⟩, d1, _, rfl, ⟨u1, h1⟩, d2, _, rfl, ⟨u2, h2⟩, rfl⟩ := hr
  obtain ⟨a, rfl, -⟩ := rdI h0
  obtain ⟨b, rfl, -⟩ := rdN h1 rfl
  obtain ⟨c, rfl, -⟩ := rdN h2 rfl
  exact ⟨⟨a, b, c⟩, rfl⟩
theorem rd_screen {ds : List DV} (h : AllF T1 w S kR0 ds) : ∃ (m : Int) (s : Sc), ds = scR m s := by
 obtain ⟨d0, _, rfl, ⟨u0, h0⟩, d1, _, rfl, ⟨u1, h1⟩, d2, _, rfl, ⟨u2, h2⟩, d3, _, rfl, ⟨u3, h3⟩, d4, _, rfl, ⟨u4, h4⟩, d5, _, rfl, ⟨u5, h5⟩, d6, _, rfl, ⟨u6, h6⟩, d7, _, rfl, ⟨u7, h7⟩, h⟩ := h
 obtain ⟨d8, _, rfl, ⟨u8, h8⟩, d9, _, rfl, ⟨u9, h9⟩, d10, _, rfl, ⟨u10, h10⟩, d11, _, rfl, ⟨u11, h11⟩, d12, _, rfl, ⟨u12, h12⟩, d13, _, rfl, ⟨u13, h13⟩, d14, _, rfl, ⟨u14, h14⟩, d15, _, rfl, ⟨u15, h15⟩, h⟩ := h
 obtain ⟨d16, _, rfl, ⟨u16, h16⟩, d17, _, rfl, ⟨u17, h17⟩, d18, _, rfl, ⟨u18, h18⟩, d19, _, rfl, ⟨u19, h19⟩, d20, _, rfl, ⟨u20, h20⟩, d21, _, rfl, ⟨u21, h21⟩, d22, _, rfl, ⟨u22, h22⟩, d23, _, rfl, ⟨u23, h23⟩, rfl⟩ := h
 obtain ⟨rows, rfl, -⟩ := rdI h0
 obtain ⟨cols, rfl, -⟩ := rdI h1
 obtain ⟨cells, rfl⟩ := rd_cells h2
 obtain ⟨y, rfl, -⟩ := rdI h3
 obtain ⟨x, rfl, -⟩ := rdI h4
 obtain ⟨wrap, rfl⟩ := rdB h5
 obtain ⟨attr, rfl, -⟩ := rdN h6 rfl
 obtain ⟨top, rfl, -⟩ := rdI h7
 obtain ⟨bottom, rfl, -⟩ := rdI h8
 obtain ⟨tabs, rfl⟩ := rd_bools h9
 obtain ⟨sy, rfl, -⟩ := rdI h10
 obtain ⟨sx, rfl, -⟩ := rdI h11
 obtain ⟨sattr, rfl, -⟩ := rdN h12 rfl
 obtain ⟨auto, rfl⟩ := rdB h13
 obtain ⟨shown, rfl⟩ := rdB h14
 obtain ⟨alt, rfl⟩ := rdB h15
 obtain ⟨other, rfl⟩ := rd_cells h16
 obtain ⟨oy, rfl, -⟩ := rdI h17
 obtain ⟨ox, rfl, -⟩ := rdI h18
 obtain ⟨m, rfl, -⟩ := rdI h19
 obtain ⟨priv, rfl, -⟩ := rdN h20 rfl
 obtain ⟨params, rfl⟩ := rd_ints h21
 obtain ⟨inter, rfl⟩ := rd_bytes h22
 obtain ⟨utf, rfl⟩ := rd_bytes h23
 exact ⟨m, ⟨rows, cols, cells, y, x, wrap, attr, top, bottom, tabs, sy, sx, sattr, auto, shown, alt, other, oy, ox, ⟨0, priv, params, inter, utf⟩⟩, rfl⟩
end
theorem band127 (n : Nat) (h : n < 18446744073709551616) : O.den (.band .u64) (.I (n : Int)) (.I 127) = .I ((n % 128 : Nat) : Int) := by
 have h1 : (BitVec.ofInt 64 (n : Int) &&& BitVec.ofInt 64 127).toNat = n % 128 := by
  rw [BitVec.toNat_and]
  have h2 : (BitVec.ofInt 64 (n : Int)).toNat = n := by
   rw [BitVec.toNat_ofInt]; omega
  rw [h2]
  exact Nat.and_two_pow_sub_one_eq_mod n 7
 have h3 : O.den (.band .u64) (.I (n : Int)) (.I 127) = DV.I (IntKind.u64.wrap ((BitVec.ofInt 64 (n : Int) &&& BitVec.ofInt 64 127).toNat : Int)) := rfl
 rw [h3, h1, IntKind.wrap_u64]
 exact congrArg DV.I (by omega)
theorem pLebPut_sp (n : Nat) (h : n < 18446744073709551616) : Spn n_leb_Put sg_leb_Put [.I (n : Int)] [bytesD (lebP n)] := by
 refine rd_leb_Put rfl (dloop (fun s : Nat × Nat × List UInt8 => [.I (s.1 : Int), bytesD s.2.2]) (fun s => s.2.2 ++ lebF s.2.1 s.1 = lebP n ∧ s.1 < 128 ^ (s.2.1 + 1) ∧ s.1 < 18446744073709551616) (fun s => s.2.1) (n, 9, []) rfl ⟨rfl, Nat.lt_trans h (show 18446744073709551616 < 128 ^ 10 by decide), h⟩ fun s hs _ => ?_)
 obtain ⟨x, f, l⟩ := s
 obtain ⟨h1, h2, h64⟩ := hs
 simp only at h1 h2 h64
 have hll : l.length ≤ 10 := by
  have := congrArg List.length h1
  have h3 := (lebP_length n).2
  simp only [List.length_append] at this; omega
 refine dle (fun g => ?_) fun g => ?_
 ·replace g : (128 : Int) ≤ x := g
  cases f with
  | zero => exact absurd h2 (by simp; omega)
  | succ f =>
   refine nle (le40 (n := l.length + 1) ?_ (by omega)) (dagain rfl ⟨(x / 128, f, l ++ [UInt8.ofNat (x % 128 + 128)]), ?_, ⟨?_, ?_, ?_⟩, Nat.lt_succ_self _⟩)
   ·show ((bytesD l).rows.length : Int) + 1 = _
    rw [bytes_len]; omega
   ·have e1 : O.den (.shr .u64) (.I (x : Int)) (.I 7) = .I ((x / 128 : Nat) : Int) := by
     show DV.I (Int.fdiv (x : Int) 128) = _
     rw [Int.fdiv_eq_ediv_of_nonneg _ (by omega)]
     exact congrArg DV.I (by omega)
    have e2 := (congrArg (fun d => O.den (.bor .u8) (U.den (.wrap .u8) d) (.I 128)) (band127 x h64)).trans (or_d (x % 128))
    rw [Nat.mod_mod] at e2
    have e3 := (congrArg (fun d => O.den .app (bytesD l) (O.den .app (.L []) (U.den .one (O.den .cns (.R []) d)))) e2).trans (bytes_app1 l _)
    exact (congrArg (fun d => [d, O.den .app (bytesD l) (O.den .app (.L []) (U.den .one (O.den .cns (.R []) (O.den (.bor .u8) (U.den (.wrap .u8) (O.den (.band .u64) (.I (x : Int)) (.I 127))) (.I 128)))))]) e1).trans (congrArg (fun d => [DV.I ((x / 128 : Nat) : Int), d]) e3)
   ·rw [← h1, lebF_big f x (by omega), List.append_assoc]; rfl
   ·show x / 128 < 128 ^ (f + 1)
    rw [Nat.pow_succ] at h2
    exact Nat.div_lt_of_lt_mul (by rw [Nat.mul_comm]; exact h2)
   ·show x / 128 < 18446744073709551616
    omega
 ·replace g : ¬ (128 : Int) ≤ x := g
  refine nle (le40 (n := l.length + 1) ?_ (by omega)) (dret ?_)
  ·show ((bytesD l).rows.length : Int) + 1 = _
   rw [bytes_len]; omega
  ·rw [← h1, lebF_small f x (by omega)]
   have e3 := (congrArg (fun d => O.den .app (bytesD l) (O.den .app (.L []) (U.den .one (O.den .cns (.R []) d)))) (wrap_d x (by omega))).trans (bytes_app1 l _)
   exact congrArg (fun d => [d]) e3
theorem pPutBytes_sp (l : List UInt8) (h : l.length ≤ 1000000) : Spn n_leb_PutBytes sg_leb_PutBytes [bytesD l] [bytesD (putB l)] := by
 have hl := (lebP_length l.length).2
 refine rd_leb_PutBytes rfl (dcall (pLebPut_sp l.length (by omega)) rfl ?_ rfl (nle (le40 (n := (lebP l.length).length + l.length) ?_ (by omega)) (dret ?_)))
 ·have e : (E.U (.wrap .u64) (.U .len (.V 0))).den [bytesD l] = U.den (.wrap .u64) (.I ((bytesD l).rows.length : Int)) := rfl
  rw [bytes_len, wrap64_d _ (by omega)] at e
  exact congrArg (fun d => [d]) e
 ·show ((bytesD (lebP l.length)).rows.length : Int) + (bytesD l).rows.length = _
  rw [bytes_len, bytes_len]; omega
 ·exact congrArg (fun d => [d]) (bytes_app2 _ _)
theorem andT : (List.range 256).all (fun n => decide ((O.den (.band .u8) (.I n) (.I 127)).int = (n % 128 : Nat))) = true := by kernel_rfl
theorem or_add (a k x : Nat) (h : a < 2 ^ k) : a ||| x * 2 ^ k = a + x * 2 ^ k := by
 have := Nat.two_pow_add_eq_or_of_lt h x
 rw [Nat.or_comm, Nat.mul_comm, ← this, Nat.add_comm]
theorem orStep {acc c k : Nat} (ha : acc < 2 ^ (7 * k)) (hk : k ≤ 9) (hc : c < 256) (h9 : k = 9 → c ≤ 1) {y : DV} (hy : y.int = ((7 * k : Nat) : Int)) :
  O.den (.bor .u64) (.I (acc : Int)) (O.den (.shl .u64) (O.den (.band .u8) (.I (c : Int)) (.I 127)) y) = .I ((acc + c % 128 * 2 ^ (7 * k) : Nat) : Int) := by
 have e1 : O.den (.band .u8) (.I (c : Int)) (.I 127) = .I ((c % 128 : Nat) : Int) := by
  have h2 := of_decide_eq_true (List.all_eq_true.1 andT c (List.mem_range.2 hc))
  have h3 : O.den (.band .u8) (.I (c : Int)) (.I 127) = .I (O.den (.band .u8) (.I (c : Int)) (.I 127)).int := rfl
  rw [h3, h2]
 have hlt : c % 128 * 2 ^ (7 * k) < 18446744073709551616 ∧ acc + c % 128 * 2 ^ (7 * k) < 18446744073709551616 := by
  rcases Nat.lt_or_ge k 9 with h | h
  ·have h1 : 2 ^ (7 * k) ≤ 2 ^ 56 := Nat.pow_le_pow_right (by decide) (by omega)
   have h2 : c % 128 * 2 ^ (7 * k) ≤ 127 * 2 ^ 56 := Nat.mul_le_mul (by omega) h1
   omega
  ·have hk9 : k = 9 := by omega
   subst hk9
   have := h9 rfl
   have h2 : c % 128 * 2 ^ (7 * 9) ≤ 1 * 2 ^ (7 * 9) := Nat.mul_le_mul_right _ (by omega)
   omega
 have e2 : O.den (.shl .u64) (.I ((c % 128 : Nat) : Int)) y = .I ((c % 128 * 2 ^ (7 * k) : Nat) : Int) := by
  have h0 : O.den (.shl .u64) (.I ((c % 128 : Nat) : Int)) y = DV.I (IntKind.u64.wrap (((c % 128 : Nat) : Int) * 2 ^ (Min.min y.int.toNat 64))) := rfl
  rw [h0, hy, Int.toNat_natCast, Nat.min_eq_left (by omega), IntKind.wrap_u64]
  have h1 : ((c % 128 : Nat) : Int) * 2 ^ (7 * k) = ((c % 128 * 2 ^ (7 * k) : Nat) : Int) := by push_cast; rfl
  rw [h1]
  exact congrArg DV.I (by omega)
 rw [e1, e2]
 generalize hX : c % 128 * 2 ^ (7 * k) = X at *
 have h0 : O.den (.bor .u64) (.I (acc : Int)) (.I (X : Int)) = DV.I (IntKind.u64.wrap ((BitVec.ofInt 64 (acc : Int) ||| BitVec.ofInt 64 (X : Int)).toNat : Int)) := rfl
 have h1 : (BitVec.ofInt 64 (acc : Int) ||| BitVec.ofInt 64 (X : Int)).toNat = acc + X := by
  rw [BitVec.toNat_or]
  have h2 : (BitVec.ofInt 64 (acc : Int)).toNat = acc := by rw [BitVec.toNat_ofInt]; omega
  have h3 : (BitVec.ofInt 64 (X : Int)).toNat = X := by rw [BitVec.toNat_ofInt]; omega
  rw [h2, h3, ← hX]
  exact or_add acc (7 * k) (c % 128) ha
 rw [h0, h1, IntKind.wrap_u64]
 exact congrArg DV.I (by omega)
def r3D (r : Nat × Nat × Nat) : List DV := [.I (r.1 : Int), .I (r.2.1 : Int), .I (r.2.2 : Int)]
section
variable {l : List UInt8} {acc k : Nat}
theorem rd_cons (hr : readG acc k (l.drop k) = readL l) (hk : k < l.length) : readL l = (if k = 9 ∧ 1 < l[k].toNat then (0, 0, 21) else if 128 ≤ l[k].toNat then readG (acc + l[k].toNat % 128 * 2 ^ (7 * k)) (k + 1) (l.drop (k + 1)) else if l[k].toNat = 0 ∧ 0 < k then (0, 0, 21) else (acc + l[k].toNat % 128 * 2 ^ (7 * k), k + 1, 0)) := by
 rw [← hr, drop_at hk, readG]
theorem accLt {c : Nat} (ha : acc < 2 ^ (7 * k)) : acc + c % 128 * 2 ^ (7 * k) < 2 ^ (7 * (k + 1)) := by
 have e1 : 2 ^ (7 * (k + 1)) = 128 * 2 ^ (7 * k) := by rw [Nat.mul_add, Nat.pow_add, Nat.mul_comm]
 have : c % 128 * 2 ^ (7 * k) ≤ 127 * 2 ^ (7 * k) := Nat.mul_le_mul_right _ (by omega)
 omega
end
theorem wrap7 {k : Nat} (hk : k ≤ 9) : (U.den (.wrap .u64) (.I (7 * (k : Int)))).int = ((7 * k : Nat) : Int) := by
 have : U.den (.wrap .u64) (.I (7 * (k : Int))) = .I (IntKind.u64.wrap (7 * (k : Int))) := rfl
 rw [this, IntKind.wrap_u64]
 show (7 * (k : Int)) % 18446744073709551616 = _
 omega
theorem dRead_sp (l : List UInt8) (hl : l.length ≤ 1099511627776) : Spn n_r1_Read sg_r1_Read [bytesD l] (r3D (readL l)) := by
 refine rd_r1_Read rfl (dloop (fun s : Nat × Nat => [.I (s.1 : Int), .I (s.2 : Int)]) (fun s => s.1 < 2 ^ (7 * s.2) ∧ s.2 ≤ 9 ∧ s.2 ≤ l.length ∧ readG s.1 s.2 (l.drop s.2) = readL l) (fun s => l.length - s.2) (0, 0) rfl ⟨by decide, by decide, Nat.zero_le _, rfl⟩ fun s hs _ => ?_)
 obtain ⟨acc, k⟩ := s
 obtain ⟨ha, hk9, hkl, hr⟩ := hs
 simp only at ha hk9 hkl hr
 refine dlt (fun g => ?_) fun g => ?_
 ·replace g : (k : Int) < l.length := by rw [← bytes_len]; exact g
  have k1 : k < l.length := by omega
  have hc := l[k].toNat_lt
  have e1 := bytes_at k1
  have hR := rd_cons hr k1
  have hor : ∀ (h9 : k = 9 → l[k].toNat ≤ 1), (E.O (.bor .u64) (.V 1) (.O (.shl .u64) (.O (.band .u8) (.O (.at 0) (.V 0) (.V 2)) (.I 127)) (.O .mul (.I 7) (.V 2)))).den ([bytesD l] ++ [.I (acc : Int), .I (k : Int)]) = .I ((acc + l[k].toNat % 128 * 2 ^ (7 * k) : Nat) : Int) := fun h9 =>
   (congrArg (fun d => O.den (.bor .u64) (.I (acc : Int)) (O.den (.shl .u64) (O.den (.band .u8) d (.I 127)) (.I (7 * (k : Int))))) e1).trans (orStep ha hk9 hc h9 (show (7 * (k : Int)) = ((7 * k : Nat) : Int) by omega))
  have last : ∀ (h : readL l = (acc + l[k].toNat % 128 * 2 ^ (7 * k), k + 1, 0)) (h9 : k = 9 → l[k].toNat ≤ 1) {cx}, (Tree.ret [.O (.bor .u64) (.V 1) (.O (.shl .u64) (.O (.band .u8) (.O (.at 0) (.V 0) (.V 2)) (.I 127)) (.O .mul (.I 7) (.V 2))), .O .add (.V 2) (.I 1), .I 0]).den SpF1 (fun es => es = r3D (readL l)) ([bytesD l] ++ [.I (acc : Int), .I (k : Int)]) cx := fun h h9 cx => dret (by
    rw [h]; exact congrArg (fun d => [d, DV.I ((k : Int) + 1), DV.I 0]) (hor h9))
  have bad : ∀ (h : readL l = (0, 0, 21)) {env cx}, (Tree.ret [.I 0, .I 0, .I 21]).den SpF1 (fun es => es = r3D (readL l)) env cx := fun h {env cx} => dret (by rw [h]; rfl)
  have ek : ∀ (x : DV), x = .I (l[k].toNat : Int) → x.int = (l[k].toNat : Int) := fun x hx => by rw [hx]; rfl
  have q1 : (-9223372036854775808 : Int) ≤ 7 * (k : Int) := by omega
  have q2 : 7 * (k : Int) ≤ 9223372036854775807 := by omega
  have q3 : (0 : Int) ≤ 7 * (k : Int) := by omega
  have q4 : (-9223372036854775808 : Int) ≤ (k : Int) + 1 := by omega
  have q5 : (k : Int) + 1 ≤ 9223372036854775807 := by omega
  refine deq (fun h1 => ?_) fun h1 => ?_
  ·replace h1 : (k : Int) = 9 := h1
   have hk : k = 9 := by omega
   refine dlt (fun h2 => bad ?_) fun h2 => dfit q1 q2 (nle q3 (deq (fun h3 => bad ?_) fun h3 => dfit q4 q5 (last ?_ ?_)))
   ·have h2 : (1 : Int) < l[k].toNat := (ek _ e1) ▸ h2
    rw [hR, if_pos (by omega)]
   ·have h2 : ¬ (1 : Int) < l[k].toNat := (ek _ e1) ▸ h2
    have h3 : (l[k].toNat : Int) = 0 := (ek _ e1) ▸ h3
    rw [hR, if_neg (by omega), if_neg (by omega), if_pos (by omega)]
   ·have h2 : ¬ (1 : Int) < l[k].toNat := (ek _ e1) ▸ h2
    have h3 : ¬ (l[k].toNat : Int) = 0 := (ek _ e1) ▸ h3
    rw [hR, if_neg (by omega), if_neg (by omega), if_neg (by omega)]
   ·have h2 : ¬ (1 : Int) < l[k].toNat := (ek _ e1) ▸ h2
    omega
  ·replace h1 : ¬ (k : Int) = 9 := h1
   refine nle (show (0 : Int) ≤ k by omega) (dfit q1 q2 (nle q3 (dlt (fun h2 => dlt (fun h3 => deq (fun h4 => bad ?_) fun h4 => dfit q4 q5 (last ?_ (by omega))) fun h3 => dfit q4 q5 (last ?_ (by omega))) fun h2 => dfit q4 q5 (dagain rfl ⟨(acc + l[k].toNat % 128 * 2 ^ (7 * k), k + 1), ?_, ⟨accLt ha, by simp only; omega, by simp only; omega, ?_⟩, by simp only; omega⟩))))
   ·have h2 : (l[k].toNat : Int) < 128 := (ek _ e1) ▸ h2
    replace h3 : (0 : Int) < k := h3
    have h4 : (l[k].toNat : Int) = 0 := (ek _ e1) ▸ h4
    rw [hR, if_neg (by omega), if_neg (by omega), if_pos (by omega)]
   ·have h2 : (l[k].toNat : Int) < 128 := (ek _ e1) ▸ h2
    have h4 : ¬ (l[k].toNat : Int) = 0 := (ek _ e1) ▸ h4
    rw [hR, if_neg (by omega), if_neg (by omega), if_neg (by omega)]
   ·have h2 : (l[k].toNat : Int) < 128 := (ek _ e1) ▸ h2
    replace h3 : ¬ (0 : Int) < k := h3
    rw [hR, if_neg (by omega), if_neg (by omega), if_neg (by omega)]
   ·exact congrArg (fun d => [d, DV.I ((k : Int) + 1)]) (hor (by omega))
   ·have h2 : ¬ (l[k].toNat : Int) < 128 := (ek _ e1) ▸ h2
    show readG (acc + l[k].toNat % 128 * 2 ^ (7 * k)) (k + 1) (l.drop (k + 1)) = _
    rw [hR, if_neg (by omega), if_pos (by omega)]
 ·replace g : ¬ (k : Int) < l.length := by rw [← bytes_len]; exact g
  have : k = l.length := by omega
  subst this
  rw [List.drop_length] at hr
  exact dret (by rw [← hr]; rfl)
theorem pRead_sp (l : List UInt8) (hl : l.length ≤ 1099511627776) : Spn n_leb_Read sg_leb_Read [bytesD l] (r3D (readL l)) := by
 refine rd_leb_Read rfl (dloop (fun s : Nat × Nat => [.I (s.1 : Int), .I (s.2 : Int)]) (fun s => s.1 < 2 ^ (7 * s.2) ∧ s.2 ≤ 9 ∧ s.2 ≤ l.length ∧ readG s.1 s.2 (l.drop s.2) = readL l) (fun s => l.length - s.2) (0, 0) rfl ⟨by decide, by decide, Nat.zero_le _, rfl⟩ fun s hs _ => ?_)
 obtain ⟨acc, k⟩ := s
 obtain ⟨ha, hk9, hkl, hr⟩ := hs
 simp only at ha hk9 hkl hr
 refine dlt (fun g => ?_) fun g => ?_
 ·replace g : (k : Int) < l.length := by rw [← bytes_len]; exact g
  have k1 : k < l.length := by omega
  have hc := l[k].toNat_lt
  have e1 := bytes_at k1
  have hR := rd_cons hr k1
  have hor : ∀ (h9 : k = 9 → l[k].toNat ≤ 1), (E.O (.bor .u64) (.V 1) (.O (.shl .u64) (.O (.band .u8) (.O (.at 0) (.V 0) (.V 2)) (.I 127)) (.U (.wrap .u64) (.O .mul (.I 7) (.V 2))))).den ([bytesD l] ++ [.I (acc : Int), .I (k : Int)]) = .I ((acc + l[k].toNat % 128 * 2 ^ (7 * k) : Nat) : Int) := fun h9 =>
   (congrArg (fun d => O.den (.bor .u64) (.I (acc : Int)) (O.den (.shl .u64) (O.den (.band .u8) d (.I 127)) (U.den (.wrap .u64) (.I (7 * (k : Int)))))) e1).trans (orStep ha hk9 hc h9 (wrap7 hk9))
  have last : ∀ (h : readL l = (acc + l[k].toNat % 128 * 2 ^ (7 * k), k + 1, 0)) (h9 : k = 9 → l[k].toNat ≤ 1) {cx}, (Tree.ret [.O (.bor .u64) (.V 1) (.O (.shl .u64) (.O (.band .u8) (.O (.at 0) (.V 0) (.V 2)) (.I 127)) (.U (.wrap .u64) (.O .mul (.I 7) (.V 2)))), .O .add (.V 2) (.I 1), .I 0]).den SpF1 (fun es => es = r3D (readL l)) ([bytesD l] ++ [.I (acc : Int), .I (k : Int)]) cx := fun h h9 cx => dret (by
    rw [h]; exact congrArg (fun d => [d, DV.I ((k : Int) + 1), DV.I 0]) (hor h9))
  have bad : ∀ (h : readL l = (0, 0, 21)) {env cx}, (Tree.ret [.I 0, .I 0, .I 21]).den SpF1 (fun es => es = r3D (readL l)) env cx := fun h {env cx} => dret (by rw [h]; rfl)
  have ek : ∀ (x : DV), x = .I (l[k].toNat : Int) → x.int = (l[k].toNat : Int) := fun x hx => by rw [hx]; rfl
  have q1 : (-9223372036854775808 : Int) ≤ 7 * (k : Int) := by omega
  have q2 : 7 * (k : Int) ≤ 9223372036854775807 := by omega
  have q3 : (0 : Int) ≤ (U.den (.wrap .u64) (.I (7 * (k : Int)))).int := by rw [wrap7 hk9]; omega
  have q4 : (-9223372036854775808 : Int) ≤ (k : Int) + 1 := by omega
  have q5 : (k : Int) + 1 ≤ 9223372036854775807 := by omega
  refine nle (show (0 : Int) ≤ k by omega) (deq (fun h1 => ?_) fun h1 => ?_)
  ·replace h1 : (k : Int) = 9 := h1
   have hk : k = 9 := by omega
   refine dlt (fun h2 => bad ?_) fun h2 => dfit q1 q2 (nle q3 (deq (fun h3 => bad ?_) fun h3 => dfit q4 q5 (last ?_ ?_)))
   ·have h2 : (1 : Int) < l[k].toNat := (ek _ e1) ▸ h2
    rw [hR, if_pos (by omega)]
   ·have h2 : ¬ (1 : Int) < l[k].toNat := (ek _ e1) ▸ h2
    have h3 : (l[k].toNat : Int) = 0 := (ek _ e1) ▸ h3
    rw [hR, if_neg (by omega), if_neg (by omega), if_pos (by omega)]
   ·have h2 : ¬ (1 : Int) < l[k].toNat := (ek _ e1) ▸ h2
    have h3 : ¬ (l[k].toNat : Int) = 0 := (ek _ e1) ▸ h3
    rw [hR, if_neg (by omega), if_neg (by omega), if_neg (by omega)]
   ·have h2 : ¬ (1 : Int) < l[k].toNat := (ek _ e1) ▸ h2
    omega
  ·replace h1 : ¬ (k : Int) = 9 := h1
   refine dfit q1 q2 (nle q3 (dle (fun h2 => dfit q4 q5 (dagain rfl ⟨(acc + l[k].toNat % 128 * 2 ^ (7 * k), k + 1), ?_, ⟨accLt ha, by simp only; omega, by simp only; omega, ?_⟩, by simp only; omega⟩)) fun h2 => deq (fun h3 => dlt (fun h4 => bad ?_) fun h4 => dfit q4 q5 (last ?_ (by omega))) fun h3 => dfit q4 q5 (last ?_ (by omega))))
   ·exact congrArg (fun d => [d, DV.I ((k : Int) + 1)]) (hor (by omega))
   ·have h2 : (128 : Int) ≤ l[k].toNat := (ek _ e1) ▸ h2
    show readG (acc + l[k].toNat % 128 * 2 ^ (7 * k)) (k + 1) (l.drop (k + 1)) = _
    rw [hR, if_neg (by omega), if_pos (by omega)]
   ·have h2 : ¬ (128 : Int) ≤ l[k].toNat := (ek _ e1) ▸ h2
    have h3 : (l[k].toNat : Int) = 0 := (ek _ e1) ▸ h3
    replace h4 : (0 : Int) < k := h4
    rw [hR, if_neg (by omega), if_neg (by omega), if_pos (by omega)]
   ·have h2 : ¬ (128 : Int) ≤ l[k].toNat := (ek _ e1) ▸ h2
    replace h4 : ¬ (0 : Int) < k := h4
    rw [hR, if_neg (by omega), if_neg (by omega), if_neg (by omega)]
   ·have h2 : ¬ (128 : Int) ≤ l[k].toNat := (ek _ e1) ▸ h2
    have h3 : ¬ (l[k].toNat : Int) = 0 := (ek _ e1) ▸ h3
    rw [hR, if_neg (by omega), if_neg (by omega), if_neg (by omega)]
 ·replace g : ¬ (k : Int) < l.length := by rw [← bytes_len]; exact g
  have : k = l.length := by omega
  subst this
  rw [List.drop_length] at hr
  exact dret (by rw [← hr]; rfl)
end Go.Proofs.YtbegccgpmhbnfaaGreat
