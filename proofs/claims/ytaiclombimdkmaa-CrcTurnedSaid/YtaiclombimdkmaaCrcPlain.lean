/- What is proved here: plain facts on CRC-32 as a fold of halvings: it is linear, each step is one to one, and four neighbouring bytes that are turned show; no program is named. -/
import Derived.Laws.BitsAllLaws
namespace Go.Proofs.Ytaiclombimdkmaa

def poly : Nat := 0xedb88320
/-- A halving step. -/
def half (c : Nat) : Nat := if c % 2 = 1 then c / 2 ^^^ poly else c / 2
def half8 (c : Nat) : Nat := half (half (half (half (half (half (half (half c)))))))

theorem xor_div2 (a b : Nat) : (a ^^^ b) / 2 = a / 2 ^^^ b / 2 := Nat.xor_div_two
theorem xor_mod2 (a b : Nat) : (a ^^^ b) % 2 = (a % 2 + b % 2) % 2 := by
  have h := Nat.xor_mod_two_pow (a := a) (b := b) (n := 1)
  rw [Nat.pow_one] at h
  rcases Nat.mod_two_eq_zero_or_one a with ha | ha <;> rcases Nat.mod_two_eq_zero_or_one b with hb | hb <;> rw [ha, hb] at h ⊢ <;> rw [h] <;> rfl
theorem xor4 (a b p : Nat) : a ^^^ p ^^^ (b ^^^ p) = a ^^^ b := by
  rw [Nat.xor_comm b p, Nat.xor_assoc, ← Nat.xor_assoc p p b, Nat.xor_self, Nat.zero_xor]
theorem half_xor (a b : Nat) : half (a ^^^ b) = half a ^^^ half b := by
  unfold half
  rw [xor_mod2, xor_div2]
  by_cases ha : a % 2 = 1 <;> by_cases hb : b % 2 = 1
  · rw [if_neg (by omega), if_pos ha, if_pos hb, xor4]
  · rw [if_pos (by omega), if_pos ha, if_neg hb, Nat.xor_assoc, Nat.xor_comm (b / 2) poly, ← Nat.xor_assoc]
  · rw [if_pos (by omega), if_neg ha, if_pos hb, Nat.xor_assoc]
  · rw [if_neg (by omega), if_neg ha, if_neg hb]
theorem half8_xor (a b : Nat) : half8 (a ^^^ b) = half8 a ^^^ half8 b := by
  unfold half8; simp only [half_xor]
theorem half_even (v : Nat) : half (2 * v) = v := by
  unfold half; rw [if_neg (by omega)]; omega
theorem half8_shift (v : Nat) : half8 (256 * v) = v := by
  have e : 256 * v = 2 * (2 * (2 * (2 * (2 * (2 * (2 * (2 * v))))))) := by omega
  unfold half8
  rw [e]
  simp only [half_even]
theorem half_lt (c : Nat) (h : c < 2 ^ 32) : half c < 2 ^ 32 := by
  unfold half
  split
  · exact Nat.xor_lt_two_pow (by omega) (by decide)
  · omega
theorem half8_lt (c : Nat) (h : c < 2 ^ 32) : half8 c < 2 ^ 32 := by
  unfold half8
  exact half_lt _ (half_lt _ (half_lt _ (half_lt _ (half_lt _ (half_lt _ (half_lt _ (half_lt _ h)))))))
theorem half_zero : half 0 = 0 := by decide
theorem half8_zero : half8 0 = 0 := by decide
theorem xor_eq_zero {a b : Nat} (h : a ^^^ b = 0) : a = b := by
  have : a ^^^ b ^^^ b = 0 ^^^ b := by rw [h]
  rw [Nat.xor_assoc, Nat.xor_self, Nat.xor_zero, Nat.zero_xor] at this
  exact this
theorem half_inj0 (c : Nat) (h : c < 2 ^ 32) (h0 : half c = 0) : c = 0 := by
  unfold half at h0
  split at h0
  · have := xor_eq_zero h0
    unfold poly at this
    omega
  · omega
theorem half8_inj0 (c : Nat) (h : c < 2 ^ 32) (h0 : half8 c = 0) : c = 0 := by
  unfold half8 at h0
  have l1 := half_lt _ h
  have l2 := half_lt _ l1
  have l3 := half_lt _ l2
  have l4 := half_lt _ l3
  have l5 := half_lt _ l4
  have l6 := half_lt _ l5
  have l7 := half_lt _ l6
  exact half_inj0 _ h (half_inj0 _ l1 (half_inj0 _ l2 (half_inj0 _ l3 (half_inj0 _ l4 (half_inj0 _ l5 (half_inj0 _ l6 (half_inj0 _ l7 h0)))))))
theorem half8_inj (a b : Nat) (ha : a < 2 ^ 32) (hb : b < 2 ^ 32) (h : half8 a = half8 b) : a = b := by
  refine xor_eq_zero (half8_inj0 _ (Nat.xor_lt_two_pow ha hb) ?_)
  rw [half8_xor, h, Nat.xor_self]

/-- A step over one byte, as a table's row has it. -/
def stepT (c b : Nat) : Nat := half8 ((c % 256) ^^^ b) ^^^ c / 256
theorem low_high (c : Nat) : (c % 256) ^^^ (256 * (c / 256)) = c := by
  have h1 := Nat.xor_mod_two_pow (a := c % 256) (b := 256 * (c / 256)) (n := 8)
  have h2 := Nat.xor_div_two_pow (a := c % 256) (b := 256 * (c / 256)) (n := 8)
  have e1 : c % 256 % 2 ^ 8 = c % 256 := by omega
  have e2 : 256 * (c / 256) % 2 ^ 8 = 0 := by omega
  have e3 : c % 256 / 2 ^ 8 = 0 := by omega
  have e4 : 256 * (c / 256) / 2 ^ 8 = c / 256 := by omega
  rw [e1, e2, Nat.xor_zero] at h1
  rw [e3, e4, Nat.zero_xor] at h2
  generalize c % 256 ^^^ 256 * (c / 256) = z at *
  omega
theorem stepT_eq (c b : Nat) : stepT c b = half8 (c ^^^ b) := by
  unfold stepT
  have e : c ^^^ b = (c % 256 ^^^ b) ^^^ 256 * (c / 256) := by
    conv => lhs; rw [← low_high c]
    rw [Nat.xor_assoc, Nat.xor_comm (256 * (c / 256)) b, ← Nat.xor_assoc]
  rw [e, half8_xor (c % 256 ^^^ b), half8_shift]

/-- The state behind bytes. -/
def foldC (c : Nat) (l : List Nat) : Nat := l.foldl (fun c b => half8 (c ^^^ b)) c
theorem foldC_nil (c : Nat) : foldC c [] = c := rfl
theorem foldC_cons (c b : Nat) (l : List Nat) : foldC c (b :: l) = foldC (half8 (c ^^^ b)) l := rfl
theorem foldC_append (c : Nat) (a b : List Nat) : foldC c (a ++ b) = foldC (foldC c a) b := List.foldl_append
theorem foldC_lt (c : Nat) (l : List Nat) (hc : c < 2 ^ 32) (hl : ∀ b ∈ l, b < 256) : foldC c l < 2 ^ 32 := by
  induction l generalizing c with
  | nil => exact hc
  | cons b l ih =>
    rw [foldC_cons]
    refine ih _ (half8_lt _ (Nat.xor_lt_two_pow hc ?_)) (fun x hx => hl x (List.mem_cons_of_mem _ hx))
    have := hl b List.mem_cons_self
    omega

/-- Bytes one by one, the one xor the other. -/
def xorL : List Nat → List Nat → List Nat
  | a :: l, b :: m => (a ^^^ b) :: xorL l m
  | _, _ => []
theorem xorL_length (l m : List Nat) (h : l.length = m.length) : (xorL l m).length = l.length := by
  induction l generalizing m with
  | nil => cases m <;> rfl
  | cons a l ih => cases m with
    | nil => simp at h
    | cons b m => simp only [xorL, List.length_cons]; rw [ih m (by simpa using h)]
theorem xor_swap (a b c d : Nat) : a ^^^ b ^^^ (c ^^^ d) = a ^^^ c ^^^ (b ^^^ d) := by
  rw [Nat.xor_assoc, ← Nat.xor_assoc b c d, Nat.xor_comm b c, Nat.xor_assoc c b d, ← Nat.xor_assoc]
/-- What the states' xor comes to. -/
theorem foldC_xor (c d : Nat) (l m : List Nat) (h : l.length = m.length) : foldC c l ^^^ foldC d m = foldC (c ^^^ d) (xorL l m) := by
  induction l generalizing c d m with
  | nil => cases m with
    | nil => rfl
    | cons b m => simp at h
  | cons a l ih => cases m with
    | nil => simp at h
    | cons b m =>
      simp only [xorL, foldC_cons]
      rw [ih _ _ m (by simpa using h), ← half8_xor, xor_swap]

/-- Zeros lead from nothing to nothing, and from something to something. -/
theorem foldC_zeros0 (n : Nat) : foldC 0 (List.replicate n 0) = 0 := by
  induction n with
  | zero => rfl
  | succ n ih => rw [List.replicate_succ, foldC_cons, Nat.xor_zero, half8_zero, ih]
theorem foldC_zeros (n c : Nat) (hc : c < 2 ^ 32) (h : foldC c (List.replicate n 0) = 0) : c = 0 := by
  induction n generalizing c with
  | zero => exact h
  | succ n ih =>
    rw [List.replicate_succ, foldC_cons, Nat.xor_zero] at h
    exact half8_inj0 c hc (ih _ (half8_lt _ hc) h)

/-- At most four bytes lead from nothing to nothing only if each is 0. -/
theorem pull {D x y : Nat} (hD : D < 2 ^ 32) (hx : x < 256) (hy : y < 2 ^ 24) (h : half8 (D ^^^ x) = y) : D = 256 * y ^^^ x := by
  have e : D ^^^ x = 256 * y := half8_inj _ _ (Nat.xor_lt_two_pow hD (by omega)) (by omega) (by rw [h, half8_shift])
  rw [← e, Nat.xor_assoc, Nat.xor_self, Nat.xor_zero]
theorem join_lt (y x : Nat) (hx : x < 256) : 256 * y ^^^ x = 256 * y + x := by
  have h := low_high (256 * y + x)
  rw [show (256 * y + x) % 256 = x from by omega, show (256 * y + x) / 256 = y from by omega, Nat.xor_comm] at h
  exact h
theorem four (l : List Nat) (hl : ∀ b ∈ l, b < 256) (hn : l.length ≤ 4) (h : foldC 0 l = 0) : ∀ b ∈ l, b = 0 := by
  match l, hn with
  | [], _ => simp
  | [a], _ =>
    have a1 := hl a (by simp)
    simp only [foldC_cons, foldC_nil, Nat.zero_xor] at h
    have := half8_inj0 a (by omega) h
    simpa using this
  | [a, b], _ =>
    have a1 := hl a (by simp)
    have b1 := hl b (by simp)
    simp only [foldC_cons, foldC_nil, Nat.zero_xor] at h
    have l1 := half8_lt a (by omega)
    have p1 := pull l1 b1 (by omega) h
    rw [join_lt _ _ b1] at p1
    have p0 := pull (D := 0) (x := a) (y := half8 a) (by omega) a1 (by omega) (by rw [Nat.zero_xor])
    rw [join_lt _ _ a1] at p0
    simp
    omega
  | [a, b, c], _ =>
    have a1 := hl a (by simp)
    have b1 := hl b (by simp)
    have c1 := hl c (by simp)
    simp only [foldC_cons, foldC_nil, Nat.zero_xor] at h
    have l1 := half8_lt a (by omega)
    have l2 := half8_lt _ (Nat.xor_lt_two_pow l1 (show b < 2 ^ 32 by omega))
    have p2 := pull l2 c1 (by omega) h
    rw [join_lt _ _ c1] at p2
    have p1 := pull (y := half8 (half8 a ^^^ b)) l1 b1 (by omega) rfl
    rw [join_lt _ _ b1] at p1
    have p0 := pull (D := 0) (x := a) (y := half8 a) (by omega) a1 (by omega) (by rw [Nat.zero_xor])
    rw [join_lt _ _ a1] at p0
    simp
    omega
  | [a, b, c, d], _ =>
    have a1 := hl a (by simp)
    have b1 := hl b (by simp)
    have c1 := hl c (by simp)
    have d1 := hl d (by simp)
    simp only [foldC_cons, foldC_nil, Nat.zero_xor] at h
    have l1 := half8_lt a (by omega)
    have l2 := half8_lt _ (Nat.xor_lt_two_pow l1 (show b < 2 ^ 32 by omega))
    have l3 := half8_lt _ (Nat.xor_lt_two_pow l2 (show c < 2 ^ 32 by omega))
    have p3 := pull l3 d1 (by omega) h
    rw [join_lt _ _ d1] at p3
    have p2 := pull (y := half8 (half8 (half8 a ^^^ b) ^^^ c)) l2 c1 (by omega) rfl
    rw [join_lt _ _ c1] at p2
    have p1 := pull (y := half8 (half8 a ^^^ b)) l1 b1 (by omega) rfl
    rw [join_lt _ _ b1] at p1
    have p0 := pull (D := 0) (x := a) (y := half8 a) (by omega) a1 (by omega) (by rw [Nat.zero_xor])
    rw [join_lt _ _ a1] at p0
    simp
    omega
/-- What was turned shows: of texts of one length that differ in at most four neighbours the states are alike only if the texts are. -/
theorem turned (n k : Nat) (ds : List Nat) (hl : ∀ b ∈ ds, b < 256) (hn : ds.length ≤ 4) (h : foldC 0 (List.replicate n 0 ++ ds ++ List.replicate k 0) = 0) : ∀ b ∈ ds, b = 0 := by
  rw [foldC_append, foldC_append, foldC_zeros0] at h
  exact four ds hl hn (foldC_zeros k _ (foldC_lt 0 ds (by omega) hl) h)
end Go.Proofs.Ytaiclombimdkmaa
