/- What is proved here: plain facts on the document's deltas: which parts new bytes are made of, what parts come to; what is made comes back, however much stands behind it; how long it is; no program is named. -/
import Derived.Test.YtmggknoaiaeojaaLebPlain
namespace Go.Proofs.Ytmggknoaiaeojaa

/-! ### the longest match -/
/-- How many bytes at the beginning of both are alike. -/
def commonL : List UInt8 → List UInt8 → Nat
  | x :: a, y :: b => if x = y then commonL a b + 1 else 0
  | _, _ => 0
theorem common_le (a b : List UInt8) : commonL a b ≤ a.length ∧ commonL a b ≤ b.length := by
  induction a generalizing b with
  | nil => simp [commonL]
  | cons x a ih =>
    cases b with
    | nil => simp [commonL]
    | cons y b =>
      unfold commonL
      split
      · have := ih b
        simp
        omega
      · simp
theorem common_take (a b : List UInt8) : a.take (commonL a b) = b.take (commonL a b) := by
  induction a generalizing b with
  | nil => simp [commonL]
  | cons x a ih =>
    cases b with
    | nil => simp [commonL]
    | cons y b =>
      unfold commonL
      split
      · rename_i h
        rw [h, List.take_succ_cons, List.take_succ_cons, ih b]
      · simp
theorem common_at (a b : List UInt8) (k : Nat) (h : k < commonL a b) : ∃ (h1 : k < a.length) (h2 : k < b.length), a[k] = b[k] := by
  have hl := common_le a b
  have h1 : k < a.length := by omega
  have h2 : k < b.length := by omega
  refine ⟨h1, h2, ?_⟩
  have e := common_take a b
  have e1 : (a.take (commonL a b))[k]? = (b.take (commonL a b))[k]? := by rw [e]
  rw [List.getElem?_take, List.getElem?_take, if_pos h, if_pos h, List.getElem?_eq_getElem h1, List.getElem?_eq_getElem h2] at e1
  injection e1
/-- So many alike, and the next ones (if both are there) not: just so many. -/
theorem common_eq (a b : List UInt8) (k : Nat) (h : a.take k = b.take k) (ha : k ≤ a.length) (hb : k ≤ b.length) (hn : k = a.length ∨ k = b.length ∨ ∃ (h1 : k < a.length) (h2 : k < b.length), a[k] ≠ b[k]) : commonL a b = k := by
  induction k generalizing a b with
  | zero =>
    cases a with
    | nil => simp [commonL]
    | cons x a =>
      cases b with
      | nil => simp [commonL]
      | cons y b =>
        unfold commonL
        split
        · rename_i hxy
          rcases hn with hn | hn | ⟨_, _, hn⟩
          · simp at hn
          · simp at hn
          · exact absurd hxy hn
        · rfl
  | succ k ih =>
    cases a with
    | nil => simp at ha
    | cons x a =>
      cases b with
      | nil => simp at hb
      | cons y b =>
        rw [List.take_succ_cons, List.take_succ_cons] at h
        injection h with h1 h2
        unfold commonL
        rw [if_pos h1, ih a b h2 (by simpa using ha) (by simpa using hb)]
        rcases hn with hn | hn | ⟨g1, g2, hn⟩
        · exact .inl (by simpa using hn)
        · exact .inr (.inl (by simpa using hn))
        · exact .inr (.inr ⟨by simpa using g1, by simpa using g2, by simpa using hn⟩)

/-- The greatest number of b's first bytes that stand in old from one of its first j places on, and the first such place. -/
def longG (old b : List UInt8) : Nat → Nat × Nat
  | 0 => (0, 0)
  | j + 1 => if (longG old b j).1 < commonL (old.drop j) b then (commonL (old.drop j) b, j) else longG old b j
def longL (old b : List UInt8) : Nat × Nat := longG old b old.length
theorem longG_ok (old b : List UInt8) (j : Nat) : (longG old b j).1 ≤ b.length ∧ (longG old b j).2 + (longG old b j).1 ≤ old.length ∧ (old.drop (longG old b j).2).take (longG old b j).1 = b.take (longG old b j).1 := by
  induction j with
  | zero => simp [longG]
  | succ j ih =>
    unfold longG
    split
    · rename_i h
      have h1 := common_le (old.drop j) b
      simp only [List.length_drop] at h1
      exact ⟨h1.2, by show j + _ ≤ _; omega, common_take _ _⟩
    · exact ih
theorem longL_ok (old b : List UInt8) : (longL old b).1 ≤ b.length ∧ (longL old b).2 + (longL old b).1 ≤ old.length ∧ (old.drop (longL old b).2).take (longL old b).1 = b.take (longL old b).1 := longG_ok old b _
/-- What is found is the greatest, and the first such place. -/
theorem longG_best (old b : List UInt8) (j : Nat) : (∀ i, i < j → commonL (old.drop i) b ≤ (longG old b j).1) ∧ (∀ i, i < (longG old b j).2 → commonL (old.drop i) b < (longG old b j).1) ∧ (0 < (longG old b j).1 → commonL (old.drop (longG old b j).2) b = (longG old b j).1 ∧ (longG old b j).2 < j) ∧ ((longG old b j).1 = 0 → (longG old b j).2 = 0) := by
  induction j with
  | zero => simp [longG]
  | succ j ih =>
    obtain ⟨h1, h2, h3, h4⟩ := ih
    unfold longG
    split
    · rename_i h
      refine ⟨fun i hi => ?_, fun i hi => ?_, fun _ => ⟨rfl, Nat.lt_succ_self _⟩, fun h0 => ?_⟩
      · show _ ≤ commonL (old.drop j) b
        by_cases e : i = j
        · rw [e]; exact Nat.le_refl _
        · have := h1 i (by omega)
          omega
      · show _ < commonL (old.drop j) b
        have := h1 i hi
        omega
      · have h0' : commonL (old.drop j) b = 0 := h0
        omega
    · rename_i h
      refine ⟨fun i hi => ?_, h2, fun h0 => ⟨(h3 h0).1, by have := (h3 h0).2; omega⟩, h4⟩
      by_cases e : i = j
      · rw [e]; omega
      · exact h1 i (by omega)
/-- Whoever finds the greatest and its first place has found this one. -/
theorem longL_unique (old b : List UInt8) (n at_ : Nat) (hn : 0 < n) (h1 : ∀ i, i < old.length → commonL (old.drop i) b ≤ n) (h2 : ∀ i, i < at_ → commonL (old.drop i) b < n) (h3 : commonL (old.drop at_) b = n) : longL old b = (n, at_) := by
  obtain ⟨g1, g2, g3, g4⟩ := longG_best old b old.length
  have hat : at_ < old.length := by
    have := (common_le (old.drop at_) b).1
    simp only [List.length_drop] at this
    omega
  have e1 : n ≤ (longL old b).1 := by have := g1 at_ hat; unfold longL; omega
  have g3' := g3 (by unfold longL at e1; omega)
  have e2 : (longL old b).1 ≤ n := by have := h1 _ g3'.2; rw [g3'.1] at this; exact this
  have e3 : (longL old b).1 = n := by omega
  have e4 : (longL old b).2 = at_ := by
    rcases Nat.lt_trichotomy (longL old b).2 at_ with h | h | h
    · have := h2 _ h
      unfold longL at this e3
      rw [g3'.1] at this
      omega
    · exact h
    · have := g2 at_ h
      unfold longL at e3
      omega
  rw [← e3, ← e4]

/-! ### what is made -/
def litL (p : List UInt8) : List UInt8 := if p.length = 0 then [] else lebP (2 * p.length) ++ p
def makeF (old : List UInt8) : Nat → List UInt8 → List UInt8 → List UInt8
  | 0, _, p => litL p
  | _ + 1, [], p => litL p
  | f + 1, c :: r, p =>
    if (longL old (c :: r)).1 < 4 then makeF old f r (p ++ [c])
    else litL p ++ (lebP (2 * (longL old (c :: r)).1 + 1) ++ (lebP (longL old (c :: r)).2 ++ makeF old f ((c :: r).drop (longL old (c :: r)).1) []))
def makeL (old new : List UInt8) : List UInt8 := makeF old new.length new []
theorem makeF_nil (old : List UInt8) (f : Nat) (p : List UInt8) : makeF old f [] p = litL p := by cases f <;> rfl
theorem makeF_plain (old : List UInt8) (f : Nat) (c : UInt8) (r p : List UInt8) (h : (longL old (c :: r)).1 < 4) : makeF old (f + 1) (c :: r) p = makeF old f r (p ++ [c]) := by rw [makeF, if_pos h]
theorem makeF_match (old : List UInt8) (f : Nat) (c : UInt8) (r p : List UInt8) (h : ¬ (longL old (c :: r)).1 < 4) :
    makeF old (f + 1) (c :: r) p = litL p ++ (lebP (2 * (longL old (c :: r)).1 + 1) ++ (lebP (longL old (c :: r)).2 ++ makeF old f ((c :: r).drop (longL old (c :: r)).1) [])) := by rw [makeF, if_neg h]
theorem makeF_fuel (old : List UInt8) (f g : Nat) (r p : List UInt8) (hf : r.length ≤ f) (hg : r.length ≤ g) : makeF old f r p = makeF old g r p := by
  induction f generalizing g r p with
  | zero =>
    have : r = [] := List.eq_nil_of_length_eq_zero (by omega)
    subst this
    rw [makeF_nil, makeF_nil]
  | succ f ih =>
    cases r with
    | nil => rw [makeF_nil, makeF_nil]
    | cons c r =>
      cases g with
      | zero => simp at hg
      | succ g =>
        simp only [List.length_cons] at hf hg
        by_cases h : (longL old (c :: r)).1 < 4
        · rw [makeF_plain _ _ _ _ _ h, makeF_plain _ _ _ _ _ h]
          exact ih g r _ (by omega) (by omega)
        · rw [makeF_match _ _ _ _ _ h, makeF_match _ _ _ _ _ h]
          rw [ih g _ [] (by simp; omega) (by simp; omega)]

/-! ### what parts come to -/
def applyF (old : List UInt8) : Nat → List UInt8 → Nat → List UInt8 → List UInt8 × Nat
  | _, [], _, out => (out, 0)
  | 0, _ :: _, _, _ => ([], 0)
  | f + 1, c :: r, room, out =>
    if (readL (c :: r)).2.2 ≠ 0 then ([], (readL (c :: r)).2.2)
    else if (readL (c :: r)).1 % 2 = 1 then
      if (readL ((c :: r).drop (readL (c :: r)).2.1)).2.2 ≠ 0 then ([], (readL ((c :: r).drop (readL (c :: r)).2.1)).2.2)
      else if (readL (c :: r)).1 / 2 = 0 then ([], 21)
      else if room < (readL (c :: r)).1 / 2 then ([], 25)
      else if old.length < (readL ((c :: r).drop (readL (c :: r)).2.1)).1 ∨ old.length - (readL ((c :: r).drop (readL (c :: r)).2.1)).1 < (readL (c :: r)).1 / 2 then ([], 21)
      else applyF old f (((c :: r).drop (readL (c :: r)).2.1).drop (readL ((c :: r).drop (readL (c :: r)).2.1)).2.1) (room - (readL (c :: r)).1 / 2) (out ++ (old.drop (readL ((c :: r).drop (readL (c :: r)).2.1)).1).take ((readL (c :: r)).1 / 2))
    else if (readL (c :: r)).1 / 2 = 0 then ([], 21)
    else if room < (readL (c :: r)).1 / 2 then ([], 25)
    else if ((c :: r).drop (readL (c :: r)).2.1).length < (readL (c :: r)).1 / 2 then ([], 22)
    else applyF old f (((c :: r).drop (readL (c :: r)).2.1).drop ((readL (c :: r)).1 / 2)) (room - (readL (c :: r)).1 / 2) (out ++ ((c :: r).drop (readL (c :: r)).2.1).take ((readL (c :: r)).1 / 2))
def applyL (old d : List UInt8) (most : Int) : List UInt8 × Nat := applyF old d.length d most.toNat []

theorem readG_pos (acc i : Nat) (l : List UInt8) (h : (readG acc i l).2.2 = 0) : 1 ≤ (readG acc i l).2.1 := by
  induction l generalizing acc i with
  | nil => simp [readG] at h
  | cons c r ih =>
    unfold readG at h ⊢
    split
    · rename_i h1
      rw [if_pos h1] at h
      simp at h
    · rename_i h1
      rw [if_neg h1] at h
      split
      · rename_i h2
        rw [if_pos h2] at h
        exact ih _ _ h
      · rename_i h2
        rw [if_neg h2] at h
        split
        · rename_i h3
          rw [if_pos h3] at h
          simp at h
        · simp
theorem readL_pos (l : List UInt8) (h : (readL l).2.2 = 0) : 1 ≤ (readL l).2.1 := readG_pos 0 0 l h

theorem applyF_nil (old : List UInt8) (f room : Nat) (out : List UInt8) : applyF old f [] room out = (out, 0) := by cases f <;> rfl
theorem applyF_fuel (old : List UInt8) (f g : Nat) (d : List UInt8) (room : Nat) (out : List UInt8) (hf : d.length ≤ f) (hg : d.length ≤ g) : applyF old f d room out = applyF old g d room out := by
  induction f generalizing g d room out with
  | zero =>
    have : d = [] := List.eq_nil_of_length_eq_zero (by omega)
    subst this
    rw [applyF_nil, applyF_nil]
  | succ f ih =>
    cases d with
    | nil => rw [applyF_nil, applyF_nil]
    | cons c r =>
      cases g with
      | zero => simp at hg
      | succ g =>
        simp only [List.length_cons] at hf hg
        unfold applyF
        by_cases h1 : (readL (c :: r)).2.2 ≠ 0
        · rw [if_pos h1, if_pos h1]
        rw [if_neg h1, if_neg h1]
        have hp := readL_pos (c :: r) (by omega)
        by_cases h2 : (readL (c :: r)).1 % 2 = 1
        · rw [if_pos h2, if_pos h2]
          rw [ih g _ _ _ (by simp; omega) (by simp; omega)]
        · rw [if_neg h2, if_neg h2]
          rw [ih g _ _ _ (by simp; omega) (by simp; omega)]

/-! ### part by part -/
theorem applyF_err (old : List UInt8) (f : Nat) (d : List UInt8) (room : Nat) (out : List UInt8) (v k e : Nat) (hd : 0 < d.length) (hf : d.length ≤ f) (hr : readL d = (v, k, e)) (he : e ≠ 0) : applyF old f d room out = ([], e) := by
  cases d with
  | nil => simp at hd
  | cons c r =>
    cases f with
    | zero => simp at hf
    | succ f =>
      unfold applyF
      rw [hr]
      rw [if_pos he]
theorem readL_nil_err (d : List UInt8) (v k : Nat) (hr : readL d = (v, k, 0)) : 0 < d.length := by
  cases d with
  | nil => simp [readL, readG] at hr
  | cons c r => simp
theorem applyF_even (old : List UInt8) (f : Nat) (d : List UInt8) (room : Nat) (out : List UInt8) (v k : Nat) (hf : d.length ≤ f) (hr : readL d = (v, k, 0)) (hv : v % 2 = 0) :
    applyF old f d room out = if v / 2 = 0 then ([], 21) else if room < v / 2 then ([], 25) else if (d.drop k).length < v / 2 then ([], 22) else applyF old f ((d.drop k).drop (v / 2)) (room - v / 2) (out ++ (d.drop k).take (v / 2)) := by
  have hd := readL_nil_err d v k hr
  have hp := readL_pos d (by rw [hr])
  rw [hr] at hp
  cases d with
  | nil => simp at hd
  | cons c r =>
    cases f with
    | zero => simp at hf
    | succ f =>
      rw [applyF_fuel old (f + 1) f ((List.drop k (c :: r)).drop (v / 2)) _ _ (by simp at hf ⊢; omega) (by simp at hf hp ⊢; omega)]
      conv => lhs; unfold applyF
      rw [hr]
      simp only [ne_eq, not_true_eq_false, if_false]
      rw [if_neg (by omega)]
theorem applyF_odd (old : List UInt8) (f : Nat) (d : List UInt8) (room : Nat) (out : List UInt8) (v k a j : Nat) (hf : d.length ≤ f) (hr : readL d = (v, k, 0)) (hv : v % 2 = 1) (hr2 : readL (d.drop k) = (a, j, 0)) :
    applyF old f d room out = if v / 2 = 0 then ([], 21) else if room < v / 2 then ([], 25) else if old.length < a ∨ old.length - a < v / 2 then ([], 21) else applyF old f ((d.drop k).drop j) (room - v / 2) (out ++ (old.drop a).take (v / 2)) := by
  have hd := readL_nil_err d v k hr
  have hp := readL_pos d (by rw [hr])
  rw [hr] at hp
  cases d with
  | nil => simp at hd
  | cons c r =>
    cases f with
    | zero => simp at hf
    | succ f =>
      rw [applyF_fuel old (f + 1) f ((List.drop k (c :: r)).drop j) _ _ (by simp at hf ⊢; omega) (by simp at hf hp ⊢; omega)]
      conv => lhs; unfold applyF
      rw [hr]
      simp only [ne_eq, not_true_eq_false, if_false]
      rw [if_pos hv, hr2]
      simp only [not_true_eq_false, if_false]
theorem applyF_odd_err (old : List UInt8) (f : Nat) (d : List UInt8) (room : Nat) (out : List UInt8) (v k a j e : Nat) (hf : d.length ≤ f) (hr : readL d = (v, k, 0)) (hv : v % 2 = 1) (hr2 : readL (d.drop k) = (a, j, e)) (he : e ≠ 0) :
    applyF old f d room out = ([], e) := by
  have hd := readL_nil_err d v k hr
  cases d with
  | nil => simp at hd
  | cons c r =>
    cases f with
    | zero => simp at hf
    | succ f =>
      unfold applyF
      rw [hr]
      simp only [ne_eq, not_true_eq_false, if_false]
      rw [if_pos hv, hr2]
      rw [if_pos he]

/-- A part of bytes, with room for it. -/
theorem apply_lit (old : List UInt8) (f : Nat) (p more : List UInt8) (room : Nat) (out : List UInt8) (hp : 0 < p.length) (hl : p.length < 4611686018427387904) (hf : (lebP (2 * p.length) ++ (p ++ more)).length ≤ f) :
    applyF old f (lebP (2 * p.length) ++ (p ++ more)) room out = if room < p.length then ([], 25) else applyF old f more (room - p.length) (out ++ p) := by
  have hr := readL_lebP (2 * p.length) (p ++ more) (by omega)
  rw [applyF_even old f _ room out _ _ hf hr (by omega)]
  have e2 : 2 * p.length / 2 = p.length := by omega
  rw [e2, if_neg (by omega), List.drop_left, if_neg (show ¬ (p ++ more).length < p.length by simp)]
  rw [List.drop_left, List.take_left]
/-- A part of old, with room for it. -/
theorem apply_copy (old : List UInt8) (f n a : Nat) (more : List UInt8) (room : Nat) (out : List UInt8) (hn : 0 < n) (hl : old.length < 4611686018427387904) (ha : a + n ≤ old.length) (hf : (lebP (2 * n + 1) ++ (lebP a ++ more)).length ≤ f) :
    applyF old f (lebP (2 * n + 1) ++ (lebP a ++ more)) room out = if room < n then ([], 25) else applyF old f more (room - n) (out ++ (old.drop a).take n) := by
  have hr := readL_lebP (2 * n + 1) (lebP a ++ more) (by omega)
  have hr2 := readL_lebP a more (by omega)
  rw [applyF_odd old f _ room out _ _ a (lebP a).length hf hr (by omega) (by rw [List.drop_left]; exact hr2)]
  have e2 : (2 * n + 1) / 2 = n := by omega
  rw [e2, if_neg (by omega), List.drop_left, List.drop_left]
  rw [if_neg (show ¬ (old.length < a ∨ old.length - a < n) by omega)]
theorem apply_litL (old : List UInt8) (f : Nat) (p more : List UInt8) (room : Nat) (out : List UInt8) (hl : p.length < 4611686018427387904) (hf : (litL p ++ more).length ≤ f) :
    applyF old f (litL p ++ more) room out = if room < p.length then ([], 25) else applyF old f more (room - p.length) (out ++ p) := by
  unfold litL at hf ⊢
  split
  · rename_i h
    have : p = [] := List.eq_nil_of_length_eq_zero h
    subst this
    simp
  · rename_i h
    rw [if_neg h, List.append_assoc] at hf
    rw [List.append_assoc]
    exact apply_lit old f p more room out (by omega) hl hf
/-- What is made comes back, whatever stands behind it; where there is too little room for it: ErrLong. -/
theorem apply_makeF (old : List UInt8) (hold : old.length < 4611686018427387904) (g : Nat) (r p more : List UInt8) (f room : Nat) (out : List UInt8) (hg : r.length ≤ g) (hl : p.length + r.length < 4611686018427387904) (hf : (makeF old g r p ++ more).length ≤ f) :
    applyF old f (makeF old g r p ++ more) room out = if room < p.length + r.length then ([], 25) else applyF old f more (room - (p.length + r.length)) (out ++ (p ++ r)) := by
  induction g generalizing r p room out with
  | zero =>
    have : r = [] := List.eq_nil_of_length_eq_zero (by omega)
    subst this
    rw [makeF_nil] at hf ⊢
    simpa using apply_litL old f p more room out (by omega) hf
  | succ g ih =>
    cases r with
    | nil =>
      rw [makeF_nil] at hf ⊢
      simpa using apply_litL old f p more room out (by omega) hf
    | cons c r =>
      simp only [List.length_cons] at hg hl
      by_cases h : (longL old (c :: r)).1 < 4
      · rw [makeF_plain _ _ _ _ _ h] at hf ⊢
        rw [ih r (p ++ [c]) room out (by omega) (by simp; omega) hf]
        have e1 : (p ++ [c]).length + r.length = p.length + (c :: r).length := by simp; omega
        rw [e1, List.append_assoc]
        rfl
      · rw [makeF_match _ _ _ _ _ h] at hf ⊢
        obtain ⟨k1, k2, k3⟩ := longL_ok old (c :: r)
        generalize hn : (longL old (c :: r)).1 = n at *
        generalize ha : (longL old (c :: r)).2 = a at *
        have e0 : litL p ++ (lebP (2 * n + 1) ++ (lebP a ++ makeF old g (List.drop n (c :: r)) [])) ++ more = litL p ++ (lebP (2 * n + 1) ++ (lebP a ++ (makeF old g (List.drop n (c :: r)) [] ++ more))) := by simp only [List.append_assoc]
        rw [e0] at hf ⊢
        rw [apply_litL old f p _ room out (by omega) hf]
        simp only [List.length_cons] at k1
        by_cases r1 : room < p.length
        · rw [if_pos r1, if_pos (by omega)]
        rw [if_neg r1]
        have hf2 : (lebP (2 * n + 1) ++ (lebP a ++ (makeF old g (List.drop n (c :: r)) [] ++ more))).length ≤ f := by
          rw [List.length_append] at hf
          omega
        rw [apply_copy old f n a _ _ _ (by omega) hold (by omega) hf2]
        by_cases r2 : room - p.length < n
        · rw [if_pos r2, if_pos (by simp only [List.length_cons]; omega)]
        rw [if_neg r2]
        have hf3 : (makeF old g (List.drop n (c :: r)) [] ++ more).length ≤ f := by
          simp only [List.length_append] at hf2 ⊢
          omega
        rw [ih (List.drop n (c :: r)) [] _ _ (by simp; omega) (by simp; omega) hf3]
        simp only [List.length_nil, List.length_drop, List.length_cons, Nat.zero_add, List.nil_append]
        have e3 : out ++ p ++ List.take n (List.drop a old) ++ List.drop n (c :: r) = out ++ (p ++ c :: r) := by
          rw [k3, List.append_assoc, List.take_append_drop, List.append_assoc]
        rw [e3]
        by_cases r3 : room < p.length + (r.length + 1)
        · rw [if_pos (by omega), if_pos r3]
        · rw [if_neg (by omega), if_neg r3, show room - p.length - n - (r.length + 1 - n) = room - (p.length + (r.length + 1)) by omega]
theorem apply_make (old new more : List UInt8) (f room : Nat) (out : List UInt8) (hold : old.length < 4611686018427387904) (hl : new.length < 4611686018427387904) (hf : (makeL old new ++ more).length ≤ f) :
    applyF old f (makeL old new ++ more) room out = if room < new.length then ([], 25) else applyF old f more (room - new.length) (out ++ new) := by
  have := apply_makeF old hold new.length new [] more f room out (Nat.le_refl _) (by simpa using hl) hf
  unfold makeL
  simpa using this
theorem applyL_make (old new : List UInt8) (most : Int) (hold : old.length < 4611686018427387904) (hl : new.length < 4611686018427387904) : applyL old (makeL old new) most = if most.toNat < new.length then ([], 25) else (new, 0) := by
  have := apply_make old new [] (makeL old new).length most.toNat [] hold hl (by simp)
  rw [List.append_nil] at this
  unfold applyL
  rw [this, applyF_nil]
  rfl
theorem applyL_join (old a b : List UInt8) (most : Int) (hold : old.length < 4611686018427387904) (ha : a.length < 4611686018427387904) (hb : b.length < 4611686018427387904) : applyL old (makeL old a ++ makeL old b) most = if most.toNat < a.length + b.length then ([], 25) else (a ++ b, 0) := by
  have h1 := apply_make old a (makeL old b) (makeL old a ++ makeL old b).length most.toNat [] hold ha (Nat.le_refl _)
  have h2 := apply_make old b [] (makeL old a ++ makeL old b).length (most.toNat - a.length) ([] ++ a) hold hb (by simp)
  rw [List.append_nil] at h2
  unfold applyL
  rw [h1]
  by_cases r1 : most.toNat < a.length
  · rw [if_pos r1, if_pos (by omega)]
  rw [if_neg r1, h2]
  by_cases r2 : most.toNat - a.length < b.length
  · rw [if_pos r2, if_pos (by omega)]
  · rw [if_neg r2, if_neg (by omega), applyF_nil]
    rfl

/-! ### how long -/
theorem lebP_len1 (n : Nat) (h : n < 128) : (lebP n).length = 1 := by unfold lebP; rw [lebF_small _ _ h]; rfl
theorem lebP_len2 (n : Nat) (h : n < 16384) : (lebP n).length ≤ 2 := by
  unfold lebP
  by_cases h1 : n < 128
  · rw [lebF_small _ _ h1]; simp
  · rw [lebF_big _ _ h1, lebF_small _ _ (by omega)]; simp
theorem litL_len (p : List UInt8) (h : p.length < 8192) : (litL p).length ≤ p.length + 1 + p.length / 64 := by
  unfold litL
  split
  · simp
  · rw [List.length_append]
    by_cases h1 : p.length < 64
    · rw [lebP_len1 _ (by omega)]
      omega
    · have := lebP_len2 (2 * p.length) (by omega)
      omega
theorem makeF_len (old : List UInt8) (hold : old.length < 128) (g : Nat) (r p : List UInt8) (hg : r.length ≤ g) (hl : p.length + r.length < 8192) : (makeF old g r p).length ≤ p.length + r.length + 1 + (p.length + r.length) / 64 := by
  induction g generalizing r p with
  | zero =>
    have : r = [] := List.eq_nil_of_length_eq_zero (by omega)
    subst this
    rw [makeF_nil]
    simpa using litL_len p (by omega)
  | succ g ih =>
    cases r with
    | nil =>
      rw [makeF_nil]
      simpa using litL_len p (by omega)
    | cons c r =>
      simp only [List.length_cons] at hg hl ⊢
      by_cases h : (longL old (c :: r)).1 < 4
      · rw [makeF_plain _ _ _ _ _ h]
        have := ih r (p ++ [c]) (by omega) (by simp; omega)
        simp only [List.length_append, List.length_cons, List.length_nil] at this
        rw [show p.length + (r.length + 1) = p.length + 1 + r.length by omega]
        omega
      · rw [makeF_match _ _ _ _ _ h]
        obtain ⟨k1, k2, k3⟩ := longL_ok old (c :: r)
        generalize hn : (longL old (c :: r)).1 = n at *
        generalize ha : (longL old (c :: r)).2 = a at *
        simp only [List.length_cons] at k1
        have i1 := ih (List.drop n (c :: r)) [] (by simp; omega) (by simp; omega)
        simp only [List.length_nil, List.length_drop, List.length_cons, Nat.zero_add] at i1
        have i2 := litL_len p (by omega)
        have i3 := lebP_len2 (2 * n + 1) (by omega)
        have i4 := lebP_len1 a (by omega)
        simp only [List.length_append]
        omega
theorem makeL_len (old new : List UInt8) (hold : old.length < 128) (hl : new.length < 8192) : (makeL old new).length ≤ new.length + 1 + new.length / 64 := by
  have := makeF_len old hold new.length new [] (Nat.le_refl _) (by simpa using hl)
  unfold makeL
  simpa using this
/-- The same bytes are one part. -/
theorem longL_self (l : List UInt8) (h : 0 < l.length) : longL l l = (l.length, 0) := by
  have hc : commonL l l = l.length := common_eq l l l.length rfl (Nat.le_refl _) (Nat.le_refl _) (.inl rfl)
  refine longL_unique l l l.length 0 h (fun i hi => ?_) (fun i hi => by omega) ?_
  · exact (common_le _ _).2
  · rw [List.drop_zero]; exact hc
theorem makeL_self (l : List UInt8) (h : 4 ≤ l.length) : makeL l l = lebP (2 * l.length + 1) ++ lebP 0 := by
  cases l with
  | nil => simp at h
  | cons c r =>
    have hs := longL_self (c :: r) (by simp)
    unfold makeL
    show makeF (c :: r) (r.length + 1) (c :: r) [] = _
    rw [makeF_match _ _ _ _ _ (by rw [hs]; simpa using h), hs]
    have e : List.drop (c :: r).length (c :: r) = [] := by simp
    show litL [] ++ (lebP (2 * (c :: r).length + 1) ++ (lebP 0 ++ makeF (c :: r) r.length (List.drop (c :: r).length (c :: r)) [])) = _
    rw [e, makeF_nil]
    simp [litL]
theorem longL_none (b : List UInt8) : longL [] b = (0, 0) := rfl
theorem makeF_none (g : Nat) (r p : List UInt8) (hg : r.length ≤ g) : makeF [] g r p = litL (p ++ r) := by
  induction g generalizing r p with
  | zero =>
    have : r = [] := List.eq_nil_of_length_eq_zero (by omega)
    subst this
    rw [makeF_nil, List.append_nil]
  | succ g ih =>
    cases r with
    | nil => rw [makeF_nil, List.append_nil]
    | cons c r =>
      rw [makeF_plain _ _ _ _ _ (by rw [longL_none]; decide), ih r (p ++ [c]) (by simpa using hg)]
      simp
theorem makeL_none (b : List UInt8) : makeL [] b = litL b := by
  have := makeF_none b.length b [] (Nat.le_refl _)
  unfold makeL
  simpa using this
theorem makeL_nil (old : List UInt8) : makeL old [] = [] := rfl
end Go.Proofs.Ytmggknoaiaeojaa
