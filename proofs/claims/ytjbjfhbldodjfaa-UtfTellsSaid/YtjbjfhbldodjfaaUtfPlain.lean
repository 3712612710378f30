/- What is proved here: plain facts on UTF-8 as the document tells it: which bytes begin a rune, what a byte comes to behind others, what all come to; each rune's form comes back, bytes may be parted; no program is named. -/
import Derived.Test.YtjbjfhbldodjfaaLebPlain
namespace Go.Proofs.Ytjbjfhbldodjfaa

/-- May a rune be? -/
def mayR (r : Int) : Bool := decide (0 ≤ r) && decide (r ≤ 1114111) && (decide (r < 55296) || decide (57343 < r))
/-- A byte that goes on. -/
def contB (b : UInt8) : Bool := decide (128 ≤ b.toNat) && decide (b.toNat < 192)
def loB (a : Nat) : Nat := if a = 224 then 160 else if a = 240 then 144 else 128
def hiB (a : Nat) : Nat := if a = 237 then 159 else if a = 244 then 143 else 191
theorem hiB_le (a : Nat) : hiB a ≤ 191 := by
  unfold hiB
  split
  · omega
  · split <;> omega
/-- Does b go on a rune that a begins, as its second byte? -/
def secB (a b : UInt8) : Bool := decide (loB a.toNat ≤ b.toNat) && decide (b.toNat ≤ hiB a.toNat)
theorem secB_iff (a b : UInt8) : secB a b = true ↔ loB a.toNat ≤ b.toNat ∧ b.toNat ≤ hiB a.toNat := by simp [secB]
def beginsL : List UInt8 → Bool
  | [a] => decide (194 ≤ a.toNat) && decide (a.toNat ≤ 244)
  | [a, b] => decide (224 ≤ a.toNat) && decide (a.toNat ≤ 244) && secB a b
  | [a, b, c] => decide (240 ≤ a.toNat) && decide (a.toNat ≤ 244) && secB a b && contB c
  | _ => false
/-- The rune that bytes are just a valid form of. -/
def wholeL : List UInt8 → Option Nat
  | [a] => if a.toNat < 128 then some a.toNat else none
  | [a, b] => if (decide (194 ≤ a.toNat) && decide (a.toNat < 224) && contB b) = true then some ((a.toNat - 192) * 64 + (b.toNat - 128)) else none
  | [a, b, c] => if (decide (224 ≤ a.toNat) && decide (a.toNat < 240) && secB a b && contB c) = true then some ((a.toNat - 224) * 4096 + (b.toNat - 128) * 64 + (c.toNat - 128)) else none
  | [a, b, c, d] => if (decide (240 ≤ a.toNat) && decide (a.toNat ≤ 244) && secB a b && contB c && contB d) = true then some ((a.toNat - 240) * 262144 + (b.toNat - 128) * 4096 + (c.toNat - 128) * 64 + (d.toNat - 128)) else none
  | _ => none
/-- A byte with nothing pending. -/
def firstL (b : UInt8) (out : List Nat) : List UInt8 × List Nat :=
  if b.toNat < 128 then ([], out ++ [b.toNat]) else if beginsL [b] then ([b], out) else ([], out ++ [65533])
def stepL (p : List UInt8) (b : UInt8) : List UInt8 × List Nat :=
  if beginsL p = true then
    match wholeL (p ++ [b]) with
    | some r => ([], [r])
    | none => if beginsL (p ++ [b]) then (p ++ [b], []) else firstL b [65533]
  else firstL b []
def allF (s : List UInt8 × List Nat) (l : List UInt8) : List UInt8 × List Nat := l.foldl (fun s b => ((stepL s.1 b).1, s.2 ++ (stepL s.1 b).2)) s
def allL (l : List UInt8) : List UInt8 × List Nat := allF ([], []) l
/-- A rune's form, of one that may be. -/
def formN (r : Nat) : List UInt8 :=
  if r < 128 then [UInt8.ofNat r]
  else if r < 2048 then [UInt8.ofNat (192 + r / 64), UInt8.ofNat (128 + r % 64)]
  else if r < 65536 then [UInt8.ofNat (224 + r / 4096), UInt8.ofNat (128 + r / 64 % 64), UInt8.ofNat (128 + r % 64)]
  else [UInt8.ofNat (240 + r / 262144), UInt8.ofNat (128 + r / 4096 % 64), UInt8.ofNat (128 + r / 64 % 64), UInt8.ofNat (128 + r % 64)]
/-- What a rune is put as. -/
def asR (r : Int) : Nat := if mayR r then r.toNat else 65533
def formL (r : Int) : List UInt8 := formN (asR r)

theorem allF_nil (s : List UInt8 × List Nat) : allF s [] = s := rfl
theorem allF_cons (s : List UInt8 × List Nat) (b : UInt8) (l : List UInt8) : allF s (b :: l) = allF ((stepL s.1 b).1, s.2 ++ (stepL s.1 b).2) l := rfl
theorem allF_step {p q : List UInt8} {t : List Nat} {b : UInt8} (h : stepL p b = (q, t)) (o : List Nat) (l : List UInt8) : allF (p, o) (b :: l) = allF (q, o ++ t) l := by rw [allF_cons]; simp only [h]
theorem allF_append (s : List UInt8 × List Nat) (a b : List UInt8) : allF s (a ++ b) = allF (allF s a) b := List.foldl_append
theorem allF_snoc (s : List UInt8 × List Nat) (l : List UInt8) (b : UInt8) : allF s (l ++ [b]) = ((stepL (allF s l).1 b).1, (allF s l).2 ++ (stepL (allF s l).1 b).2) := by rw [allF_append]; rfl
theorem allF_out (p : List UInt8) (o : List Nat) (l : List UInt8) : allF (p, o) l = ((allF (p, []) l).1, o ++ (allF (p, []) l).2) := by
  induction l generalizing p o with
  | nil => simp [allF_nil]
  | cons b l ih =>
    rw [allF_cons, allF_cons, ih, ih (stepL p b).1 ([] ++ (stepL p b).2)]
    simp

theorem beginsL_len (p : List UInt8) (h : beginsL p = true) : 1 ≤ p.length ∧ p.length ≤ 3 := by
  match p, h with
  | [a], _ => simp
  | [a, b], _ => simp
  | [a, b, c], _ => simp
theorem firstL_pend (b : UInt8) (o : List Nat) : (firstL b o).1 = [] ∨ beginsL (firstL b o).1 = true := by
  unfold firstL
  split
  · exact .inl rfl
  · split
    · exact .inr (by assumption)
    · exact .inl rfl
/-- What is pending is nothing, or it begins. -/
theorem stepL_pend (p : List UInt8) (b : UInt8) : (stepL p b).1 = [] ∨ beginsL (stepL p b).1 = true := by
  unfold stepL
  split
  · split
    · exact .inl rfl
    · split
      · exact .inr (by assumption)
      · exact firstL_pend _ _
  · exact firstL_pend _ _
theorem allF_pend (p : List UInt8) (o : List Nat) (l : List UInt8) (h : p = [] ∨ beginsL p = true) : (allF (p, o) l).1 = [] ∨ beginsL (allF (p, o) l).1 = true := by
  induction l generalizing p o with
  | nil => exact h
  | cons b l ih => rw [allF_cons]; exact ih _ _ (stepL_pend p b)
theorem firstL_len (b : UInt8) (o : List Nat) : (firstL b o).1.length ≤ 1 ∧ (firstL b o).2.length ≤ o.length + 1 := by
  unfold firstL
  split
  · simp
  · split <;> simp
theorem stepL_len (p : List UInt8) (b : UInt8) : (stepL p b).1.length ≤ 3 ∧ (stepL p b).2.length ≤ 2 := by
  unfold stepL
  split
  · split
    · simp
    · split
      · rename_i h
        have := beginsL_len _ h
        exact ⟨this.2, by simp⟩
      · have := firstL_len b [65533]
        simp at this
        omega
  · have := firstL_len b []
    simp at this
    omega
theorem allF_len (p : List UInt8) (o : List Nat) (l : List UInt8) (h : p.length ≤ 3) : (allF (p, o) l).1.length ≤ 3 ∧ (allF (p, o) l).2.length ≤ o.length + 2 * l.length := by
  induction l generalizing p o with
  | nil => simp [allF_nil]; exact h
  | cons b l ih =>
    rw [allF_cons]
    have h1 := stepL_len p b
    have h2 := ih (stepL p b).1 (o ++ (stepL p b).2) h1.1
    simp at h2 ⊢
    omega

theorem firstL_lt (b : UInt8) (o : List Nat) (ho : ∀ r ∈ o, r < 1114112) : ∀ r ∈ (firstL b o).2, r < 1114112 := by
  have := b.toNat_lt
  unfold firstL
  split
  · intro r hr
    rw [List.mem_append, List.mem_singleton] at hr
    rcases hr with hr | hr
    · exact ho r hr
    · omega
  · split
    · exact ho
    · intro r hr
      rw [List.mem_append, List.mem_singleton] at hr
      rcases hr with hr | hr
      · exact ho r hr
      · omega
theorem wholeL_lt (l : List UInt8) (r : Nat) (h : wholeL l = some r) : r < 1114112 := by
  match l, h with
  | [a], h =>
    have := a.toNat_lt
    simp only [wholeL] at h
    split at h <;> simp at h
    omega
  | [a, b], h =>
    have := a.toNat_lt
    have := b.toNat_lt
    simp only [wholeL] at h
    split at h <;> simp at h
    omega
  | [a, b, c], h =>
    have := a.toNat_lt
    have := b.toNat_lt
    have := c.toNat_lt
    simp only [wholeL] at h
    split at h
    · rename_i hc
      simp [contB] at hc
      simp at h
      omega
    · simp at h
  | [a, b, c, d], h =>
    have := b.toNat_lt
    have := c.toNat_lt
    have := d.toNat_lt
    simp only [wholeL] at h
    split at h
    · rename_i hc
      simp only [Bool.and_eq_true, secB_iff, decide_eq_true_eq, contB] at hc
      simp at h
      have := hiB_le a.toNat
      by_cases h4 : a.toNat = 244
      · have h5 : hiB a.toNat = 143 := by rw [h4]; rfl
        omega
      · omega
    · simp at h
theorem stepL_lt (p : List UInt8) (b : UInt8) : ∀ r ∈ (stepL p b).2, r < 1114112 := by
  unfold stepL
  split
  · split
    · rename_i r h
      intro q hq
      simp at hq
      subst hq
      exact wholeL_lt _ _ h
    · split
      · simp
      · exact firstL_lt b _ (by simp)
  · exact firstL_lt b _ (by simp)
theorem allF_lt (p : List UInt8) (o : List Nat) (l : List UInt8) (ho : ∀ r ∈ o, r < 1114112) : ∀ r ∈ (allF (p, o) l).2, r < 1114112 := by
  induction l generalizing p o with
  | nil => exact ho
  | cons b l ih =>
    rw [allF_cons]
    refine ih _ _ fun r hr => ?_
    rcases List.mem_append.1 hr with h | h
    · exact ho r h
    · exact stepL_lt p b r h

theorem step_new (b : UInt8) (h : b.toNat < 128) : stepL [] b = ([], [b.toNat]) := by
  simp [stepL, beginsL, firstL, h]
theorem step_lead (b : UInt8) (h : beginsL [b] = true) : stepL [] b = ([b], []) := by
  have h2 : ¬ b.toNat < 128 := by simp [beginsL] at h; omega
  simp only [stepL, firstL, h2, h]
  simp [beginsL]
theorem step_whole (p : List UInt8) (b : UInt8) (r : Nat) (hp : beginsL p = true) (h : wholeL (p ++ [b]) = some r) : stepL p b = ([], [r]) := by
  simp [stepL, hp, h]
theorem step_more (p : List UInt8) (b : UInt8) (q : List UInt8) (hq : p ++ [b] = q) (hp : beginsL p = true) (h : wholeL (p ++ [b]) = none) (h2 : beginsL (p ++ [b]) = true) : stepL p b = (q, []) := by
  subst hq
  simp [stepL, hp, h, h2]

theorem asR_ok (r : Int) : asR r < 1114112 ∧ (asR r < 55296 ∨ 57343 < asR r) := by
  unfold asR mayR
  split
  · rename_i h
    simp at h
    omega
  · omega
/-- Each rune's form comes back. -/
theorem formN_back (r : Nat) (h1 : r < 1114112) (h2 : r < 55296 ∨ 57343 < r) (o : List Nat) : allF ([], o) (formN r) = ([], o ++ [r]) := by
  rw [allF_out]
  unfold formN
  split
  · rename_i h
    have e : (UInt8.ofNat r).toNat = r := ofNat_toNat _ (by omega)
    rw [allF_step (step_new _ (by rw [e]; exact h)), allF_nil, e]
    rfl
  split
  · rename_i h0 h
    have ea : (UInt8.ofNat (192 + r / 64)).toNat = 192 + r / 64 := ofNat_toNat _ (by omega)
    have eb : (UInt8.ofNat (128 + r % 64)).toNat = 128 + r % 64 := ofNat_toNat _ (by omega)
    generalize UInt8.ofNat (192 + r / 64) = a at *
    generalize UInt8.ofNat (128 + r % 64) = b at *
    have p1 : beginsL [a] = true := by simp [beginsL]; omega
    have q1 : wholeL ([a] ++ [b]) = some r := by
      show wholeL [a, b] = some r
      simp only [wholeL]
      rw [if_pos (by simp [contB]; omega)]
      exact congrArg some (by omega)
    rw [allF_step (step_lead _ p1), allF_step (step_whole _ _ r p1 q1)]
    rfl
  split
  · rename_i h0 h00 h
    have ea : (UInt8.ofNat (224 + r / 4096)).toNat = 224 + r / 4096 := ofNat_toNat _ (by omega)
    have eb : (UInt8.ofNat (128 + r / 64 % 64)).toNat = 128 + r / 64 % 64 := ofNat_toNat _ (by omega)
    have ec : (UInt8.ofNat (128 + r % 64)).toNat = 128 + r % 64 := ofNat_toNat _ (by omega)
    generalize UInt8.ofNat (224 + r / 4096) = a at *
    generalize UInt8.ofNat (128 + r / 64 % 64) = b at *
    generalize UInt8.ofNat (128 + r % 64) = c at *
    have hsec : secB a b = true := by
      rw [secB_iff]
      unfold loB hiB
      refine ⟨?_, ?_⟩
      · split
        · omega
        · split <;> omega
      · split
        · omega
        · split <;> omega
    have p1 : beginsL [a] = true := by simp [beginsL]; omega
    have n1 : wholeL ([a] ++ [b]) = none := by
      show wholeL [a, b] = none
      simp only [wholeL]
      rw [if_neg (by simp; omega)]
    have p2 : beginsL ([a] ++ [b]) = true := by
      show beginsL [a, b] = true
      simp [beginsL, hsec]
      omega
    have q1 : wholeL ([a, b] ++ [c]) = some r := by
      show wholeL [a, b, c] = some r
      simp only [wholeL]
      rw [if_pos (by simp [contB, hsec]; omega)]
      exact congrArg some (by omega)
    rw [allF_step (step_lead _ p1), allF_step (step_more _ _ [a, b] rfl p1 n1 p2), allF_step (step_whole [a, b] c r p2 q1)]
    rfl
  · rename_i h0 h00 h
    have ea : (UInt8.ofNat (240 + r / 262144)).toNat = 240 + r / 262144 := ofNat_toNat _ (by omega)
    have eb : (UInt8.ofNat (128 + r / 4096 % 64)).toNat = 128 + r / 4096 % 64 := ofNat_toNat _ (by omega)
    have ec : (UInt8.ofNat (128 + r / 64 % 64)).toNat = 128 + r / 64 % 64 := ofNat_toNat _ (by omega)
    have ed : (UInt8.ofNat (128 + r % 64)).toNat = 128 + r % 64 := ofNat_toNat _ (by omega)
    generalize UInt8.ofNat (240 + r / 262144) = a at *
    generalize UInt8.ofNat (128 + r / 4096 % 64) = b at *
    generalize UInt8.ofNat (128 + r / 64 % 64) = c at *
    generalize UInt8.ofNat (128 + r % 64) = d at *
    have hsec : secB a b = true := by
      rw [secB_iff]
      unfold loB hiB
      refine ⟨?_, ?_⟩
      · split
        · omega
        · split <;> omega
      · split
        · omega
        · split <;> omega
    have hc : contB c = true := by simp [contB]; omega
    have p1 : beginsL [a] = true := by simp [beginsL]; omega
    have n1 : wholeL ([a] ++ [b]) = none := by
      show wholeL [a, b] = none
      simp only [wholeL]
      rw [if_neg (by simp; omega)]
    have p2 : beginsL ([a] ++ [b]) = true := by
      show beginsL [a, b] = true
      simp [beginsL, hsec]
      omega
    have n2 : wholeL ([a, b] ++ [c]) = none := by
      show wholeL [a, b, c] = none
      simp only [wholeL]
      rw [if_neg (by simp; omega)]
    have p3 : beginsL ([a, b] ++ [c]) = true := by
      show beginsL [a, b, c] = true
      simp [beginsL, hsec, hc]
      omega
    have q1 : wholeL ([a, b, c] ++ [d]) = some r := by
      show wholeL [a, b, c, d] = some r
      simp only [wholeL]
      rw [if_pos (by simp [contB, hsec]; omega)]
      exact congrArg some (by omega)
    rw [allF_step (step_lead _ p1), allF_step (step_more _ _ [a, b] rfl p1 n1 p2), allF_step (step_more [a, b] c [a, b, c] rfl p2 n2 p3), allF_step (step_whole [a, b, c] d r p3 q1)]
    rfl
/-- Runes that are put one behind another come back. -/
theorem forms_back (m : List Int) (o : List Nat) : allF ([], o) (m.flatMap formL) = ([], o ++ m.map asR) := by
  induction m generalizing o with
  | nil => simp [allF_nil]
  | cons r m ih =>
    rw [List.flatMap_cons, allF_append]
    have h := asR_ok r
    show allF (allF ([], o) (formN (asR r))) _ = _
    rw [formN_back _ h.1 h.2, ih]
    simp
theorem formN_len (r : Nat) : 1 ≤ (formN r).length ∧ (formN r).length ≤ 4 := by
  unfold formN
  split
  · simp
  split
  · simp
  split <;> simp
end Go.Proofs.Ytjbjfhbldodjfaa
