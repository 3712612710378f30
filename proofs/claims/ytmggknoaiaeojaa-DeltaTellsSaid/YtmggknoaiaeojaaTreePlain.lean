/- What is proved here: plain facts on a suffix tree that is grown byte by byte: what holds of it behind each step, and what is found in it; no program is named. -/
import Derived.Test.YtmggknoaiaeojaaDeltaPlain
namespace Go.Proofs.Ytmggknoaiaeojaa
set_option linter.unusedVariables false

/-! ### texts that are alike -/
/-- The n bytes from i on are those from j on. -/
def Al (ch : Nat → UInt8) (i j n : Nat) : Prop := ∀ x, x < n → ch (i + x) = ch (j + x)
section
variable {ch : Nat → UInt8} {i j l n n' d : Nat}
theorem Al.refl : Al ch i i n := fun _ _ => rfl
theorem Al.zero : Al ch i j 0 := fun x h => absurd h (Nat.not_lt_zero x)
theorem Al.symm (h : Al ch i j n) : Al ch j i n := fun x hx => (h x hx).symm
theorem Al.trans (h : Al ch i j n) (h' : Al ch j l n) : Al ch i l n := fun x hx => (h x hx).trans (h' x hx)
theorem Al.less (h : Al ch i j n) (hn : n' ≤ n) : Al ch i j n' := fun x hx => h x (by omega)
theorem Al.on (h : Al ch i j n) (hd : ch (i + n) = ch (j + n)) : Al ch i j (n + 1) := fun x hx => by
  by_cases e : x = n
  · subst e; exact hd
  · exact h x (by omega)
theorem Al.drop (h : Al ch i j n) (hd : d + n' ≤ n) : Al ch (i + d) (j + d) n' := fun x hx => by
  have := h (d + x) (by omega)
  rw [← Nat.add_assoc, ← Nat.add_assoc] at this
  exact this
end

/-- A tree: how many nodes; of each the one above, the first place of its bytes, how many there are, its link; who is below. -/
structure Tr where
  m : Nat
  par : Nat → Nat
  fst : Nat → Nat
  dep : Nat → Nat
  lk : Nat → Nat
  bl : Nat → UInt8 → Option Nat

/-- The tree of the texts from the first k places on. -/
structure TOk (ch : Nat → UInt8) (N : Nat) (t : Tr) (k : Nat) : Prop where
  pos : 0 < t.m
  root : t.dep 0 = 0
  par0 : t.par 0 = 0
  fst0 : t.fst 0 = 0
  par_lt : ∀ v, 0 < v → v < t.m → t.par v < t.m
  dep_lt : ∀ v, 0 < v → v < t.m → t.dep (t.par v) < t.dep v
  fst_lt : ∀ v, 0 < v → v < t.m → t.fst v < k
  fits : ∀ v, 0 < v → v < t.m → t.fst v + t.dep v ≤ N
  edge : ∀ v, 0 < v → v < t.m → t.bl (t.par v) (ch (t.fst v + t.dep (t.par v))) = some v
  pre : ∀ v, 0 < v → v < t.m → Al ch (t.fst (t.par v)) (t.fst v) (t.dep (t.par v))
  back : ∀ u c v, t.bl u c = some v → 0 < v ∧ v < t.m ∧ t.par v = u ∧ ch (t.fst v + t.dep u) = c
  full : ∀ j u, j < k → u < t.m → j + t.dep u < N → Al ch j (t.fst u) (t.dep u) → ∃ v, t.bl u (ch (j + t.dep u)) = some v ∧ j + t.dep v ≤ N ∧ Al ch j (t.fst v) (t.dep v)
  first : ∀ v, 0 < v → v < t.m → ∀ j, j < t.fst v → ¬ Al ch j (t.fst v) (t.dep (t.par v) + 1)

section
variable {ch : Nat → UInt8} {N : Nat} {t : Tr} {k : Nat}
theorem TOk.dep_pos (h : TOk ch N t k) {v : Nat} (h0 : 0 < v) (hv : v < t.m) : 0 < t.dep v := by
  have := h.dep_lt v h0 hv
  omega
/-- No node stands within the way to another one; no two have the same bytes. -/
theorem TOk.skip (h : TOk ch N t k) (n : Nat) :
    (∀ u v, u < t.m → t.dep u = n → 0 < v → v < t.m → t.dep (t.par v) < n → n < t.dep v → ¬ Al ch (t.fst u) (t.fst v) n) ∧
    (∀ u v, u < t.m → v < t.m → t.dep u = n → t.dep v = n → Al ch (t.fst u) (t.fst v) n → u = v) := by
  induction n using Nat.strongRecOn with
  | ind n ih =>
    constructor
    · intro u v hu hun hv0 hv hlo hhi hal
      have hu0 : 0 < u := by
        rcases Nat.eq_zero_or_pos u with e | e
        · subst e; rw [h.root] at hun; omega
        · exact e
      have hq := h.dep_lt u hu0 hu
      have hqm := h.par_lt u hu0 hu
      have hpm := h.par_lt v hv0 hv
      have hpu := h.pre u hu0 hu
      have hpv := h.pre v hv0 hv
      rcases Nat.lt_trichotomy (t.dep (t.par u)) (t.dep (t.par v)) with c | c | c
      · refine (ih (t.dep (t.par v)) (by omega)).1 (t.par v) u hpm rfl hu0 hu c (by omega) ?_
        exact hpv.trans (hal.symm.less (by omega))
      · have e := (ih (t.dep (t.par v)) (by omega)).2 (t.par u) (t.par v) hqm hpm c rfl ?_
        · have e1 := h.edge u hu0 hu
          have e2 := h.edge v hv0 hv
          rw [e, hal _ (by omega), e2] at e1
          injection e1 with e1
          subst e1
          omega
        · rw [c] at hpu
          exact (hpu.trans (hal.less (by omega))).trans hpv.symm
      · refine (ih (t.dep (t.par u)) (by omega)).1 (t.par u) v hqm rfl hv0 hv c (by omega) ?_
        exact hpu.trans (hal.less (by omega))
    · intro u v hu hv hun hvn hal
      rcases Nat.eq_zero_or_pos u with e | hu0
      · subst e
        rcases Nat.eq_zero_or_pos v with e | hv0
        · exact e.symm
        · have := h.dep_pos hv0 hv
          rw [h.root] at hun
          omega
      rcases Nat.eq_zero_or_pos v with e | hv0
      · subst e
        have := h.dep_pos hu0 hu
        rw [h.root] at hvn
        omega
      have hq := h.dep_lt u hu0 hu
      have hr := h.dep_lt v hv0 hv
      have hqm := h.par_lt u hu0 hu
      have hpm := h.par_lt v hv0 hv
      have hpu := h.pre u hu0 hu
      have hpv := h.pre v hv0 hv
      rcases Nat.lt_trichotomy (t.dep (t.par u)) (t.dep (t.par v)) with c | c | c
      · exact absurd (hpv.trans (hal.symm.less (by omega))) ((ih (t.dep (t.par v)) (by omega)).1 (t.par v) u hpm rfl hu0 hu c (by omega))
      · have e := (ih (t.dep (t.par v)) (by omega)).2 (t.par u) (t.par v) hqm hpm c rfl (by rw [c] at hpu; exact (hpu.trans (hal.less (by omega))).trans hpv.symm)
        have e1 := h.edge u hu0 hu
        have e2 := h.edge v hv0 hv
        rw [e, hal _ (by omega), e2] at e1
        injection e1 with e1
        exact e1.symm
      · exact absurd (hpu.trans (hal.less (by omega))) ((ih (t.dep (t.par u)) (by omega)).1 (t.par u) v hqm rfl hv0 hv c (by omega))
/-- The node below, on the way of a text of the tree. -/
theorem TOk.way (h : TOk ch N t k) {j u v : Nat} {c : UInt8} (hj : j < k) (hu : u < t.m) (hN : j + t.dep u < N) (hal : Al ch j (t.fst u) (t.dep u)) (hc : ch (j + t.dep u) = c) (hb : t.bl u c = some v) : j + t.dep v ≤ N ∧ Al ch j (t.fst v) (t.dep v) := by
  obtain ⟨v', h1, h2, h3⟩ := h.full j u hj hu hN hal
  rw [hc, hb] at h1
  injection h1 with h1
  subst h1
  exact ⟨h2, h3⟩
end

/-! ### a node more -/
def upd {α : Type} (f : Nat → α) (i : Nat) (x : α) : Nat → α := fun j => if j = i then x else f j
theorem upd_same {α : Type} (f : Nat → α) (i : Nat) (x : α) : upd f i x i = x := by simp [upd]
theorem upd_other {α : Type} (f : Nat → α) {i j : Nat} (x : α) (h : j ≠ i) : upd f i x j = f j := by simp [upd, h]
def updB (f : Nat → UInt8 → Option Nat) (i : Nat) (c : UInt8) (x : Nat) : Nat → UInt8 → Option Nat := fun j d => if j = i ∧ d = c then some x else f j d
/-- Another node below u: its bytes are those from a on, d of them. -/
def Tr.hang (ch : Nat → UInt8) (t : Tr) (u a d : Nat) : Tr :=
  { m := t.m + 1, par := upd t.par t.m u, fst := upd t.fst t.m a, dep := upd t.dep t.m d, lk := upd t.lk t.m 0, bl := updB t.bl u (ch (a + t.dep u)) t.m }
/-- A node between u and v, d bytes deep. -/
def Tr.split (ch : Nat → UInt8) (t : Tr) (u v d : Nat) : Tr :=
  { m := t.m + 1, par := upd (upd t.par t.m u) v t.m, fst := upd t.fst t.m (t.fst v), dep := upd t.dep t.m d, lk := upd t.lk t.m 0, bl := updB (updB t.bl u (ch (t.fst v + t.dep u)) t.m) t.m (ch (t.fst v + d)) v }
def Tr.link (t : Tr) (x y : Nat) : Tr := { t with lk := if x = 0 then t.lk else upd t.lk x y }
theorem updB_some {f : Nat → UInt8 → Option Nat} {i j : Nat} {c d : UInt8} {x v : Nat} (h : updB f i c x j d = some v) : (j = i ∧ d = c ∧ v = x) ∨ (¬ (j = i ∧ d = c) ∧ f j d = some v) := by
  unfold updB at h
  split at h
  · rename_i e
    injection h with h
    exact .inl ⟨e.1, e.2, h.symm⟩
  · rename_i e
    exact .inr ⟨e, h⟩

section
variable {ch : Nat → UInt8} {N : Nat} {t : Tr} {k : Nat}
theorem TOk.linked (h : TOk ch N t k) (x y : Nat) : TOk ch N (t.link x y) k := ⟨h.pos, h.root, h.par0, h.fst0, h.par_lt, h.dep_lt, h.fst_lt, h.fits, h.edge, h.pre, h.back, h.full, h.first⟩

/-- The text from k on hangs below u, where nothing goes on as it does. -/
theorem TOk.hung (h : TOk ch N t k) {u : Nat} (hu : u < t.m) (hN : k + t.dep u < N) (hal : Al ch (t.fst u) k (t.dep u)) (hno : t.bl u (ch (k + t.dep u)) = none) (hpres : 0 < t.dep u → ∃ i, i < k ∧ Al ch i k (t.dep u)) : TOk ch N (t.hang ch u k (N - k)) (k + 1) := by
  have hne : ∀ v, v < t.m → v ≠ t.m := fun v hv => by omega
  have hnew : ∀ j, j < k → ¬ Al ch j k (t.dep u + 1) := by
    intro j hj hjk
    obtain ⟨v, hv, -⟩ := h.full j u hj hu (by omega) ((hjk.less (by omega)).trans hal.symm)
    rw [hjk _ (by omega), hno] at hv
    cases hv
  have ecase : ∀ v, 0 < v → v < t.m + 1 → v = t.m ∨ (v < t.m ∧ v ≠ t.m) := fun v _ hv => by omega
  refine ⟨Nat.succ_pos _, ?_, ?_, ?_, ?_, ?_, ?_, ?_, ?_, ?_, ?_, ?_, ?_⟩
  · show upd t.dep t.m _ 0 = 0
    rw [upd_other _ _ (by have := h.pos; omega)]; exact h.root
  · show upd t.par t.m _ 0 = 0
    rw [upd_other _ _ (by have := h.pos; omega)]; exact h.par0
  · show upd t.fst t.m _ 0 = 0
    rw [upd_other _ _ (by have := h.pos; omega)]; exact h.fst0
  · intro v h0 hv
    show upd t.par t.m u v < t.m + 1
    rcases ecase v h0 hv with e | ⟨hv', e⟩
    · rw [e, upd_same]; omega
    · rw [upd_other _ _ e]; have := h.par_lt v h0 hv'; omega
  · intro v h0 hv
    show upd t.dep t.m (N - k) (upd t.par t.m u v) < upd t.dep t.m (N - k) v
    rcases ecase v h0 hv with e | ⟨hv', e⟩
    · rw [e, upd_same, upd_same, upd_other _ _ (by omega)]; omega
    · rw [upd_other _ _ e, upd_other _ _ e, upd_other _ _ (by have := h.par_lt v h0 hv'; omega)]; exact h.dep_lt v h0 hv'
  · intro v h0 hv
    show upd t.fst t.m k v < k + 1
    rcases ecase v h0 hv with e | ⟨hv', e⟩
    · rw [e, upd_same]; omega
    · rw [upd_other _ _ e]; have := h.fst_lt v h0 hv'; omega
  · intro v h0 hv
    show upd t.fst t.m k v + upd t.dep t.m (N - k) v ≤ N
    rcases ecase v h0 hv with e | ⟨hv', e⟩
    · rw [e, upd_same, upd_same]; omega
    · rw [upd_other _ _ e, upd_other _ _ e]; exact h.fits v h0 hv'
  · intro v h0 hv
    show updB t.bl u (ch (k + t.dep u)) t.m (upd t.par t.m u v) (ch (upd t.fst t.m k v + upd t.dep t.m (N - k) (upd t.par t.m u v))) = some v
    rcases ecase v h0 hv with e | ⟨hv', e⟩
    · rw [e, upd_same, upd_same, upd_other _ _ (by omega)]; simp [updB]
    · rw [upd_other _ _ e, upd_other _ _ e, upd_other _ _ (by have := h.par_lt v h0 hv'; omega)]
      have e2 := h.edge v h0 hv'
      unfold updB
      rw [if_neg]
      · exact e2
      · rintro ⟨q1, q2⟩
        rw [q1] at e2
        rw [q1] at q2
        rw [q2, hno] at e2
        cases e2
  · intro v h0 hv
    show Al ch (upd t.fst t.m k (upd t.par t.m u v)) (upd t.fst t.m k v) (upd t.dep t.m (N - k) (upd t.par t.m u v))
    rcases ecase v h0 hv with e | ⟨hv', e⟩
    · rw [e, upd_same, upd_same, upd_other _ _ (by omega), upd_other _ _ (by omega)]; exact hal
    · have := h.par_lt v h0 hv'
      rw [upd_other _ _ e, upd_other _ _ e, upd_other _ _ (by omega), upd_other _ _ (by omega)]
      exact h.pre v h0 hv'
  · intro q c v hb
    show 0 < v ∧ v < t.m + 1 ∧ upd t.par t.m u v = q ∧ ch (upd t.fst t.m k v + upd t.dep t.m (N - k) q) = c
    rcases updB_some hb with ⟨rfl, rfl, rfl⟩ | ⟨-, hb⟩
    · rw [upd_same, upd_same, upd_other _ _ (by omega)]
      exact ⟨h.pos, by omega, rfl, rfl⟩
    · obtain ⟨b1, b2, b3, b4⟩ := h.back q c v hb
      have hq : q < t.m := by rw [← b3]; exact h.par_lt v b1 b2
      rw [upd_other _ _ (by omega), upd_other _ _ (by omega), upd_other _ _ (by omega)]
      exact ⟨b1, by omega, b3, b4⟩
  · intro j q hj hq
    show j + upd t.dep t.m (N - k) q < N → Al ch j (upd t.fst t.m k q) (upd t.dep t.m (N - k) q) → ∃ v, updB t.bl u (ch (k + t.dep u)) t.m q (ch (j + upd t.dep t.m (N - k) q)) = some v ∧ j + upd t.dep t.m (N - k) v ≤ N ∧ Al ch j (upd t.fst t.m k v) (upd t.dep t.m (N - k) v)
    intro hjN hjq
    have hq' : q < t.m + 1 := hq
    by_cases e : q = t.m
    · rw [e, upd_same] at hjN
      rw [e, upd_same, upd_same] at hjq
      exact absurd (hjq.less (by omega)) (hnew j (by omega))
    rw [upd_other _ _ e] at hjN
    rw [upd_other _ _ e, upd_other _ _ e] at hjq
    rw [upd_other _ _ e]
    by_cases hjk : j = k
    · subst hjk
      by_cases hqu : q = u
      · subst hqu
        refine ⟨t.m, by simp [updB], by rw [upd_same]; omega, by rw [upd_same, upd_same]; exact Al.refl⟩
      -- a node above u, on its way
      rcases Nat.lt_trichotomy (t.dep q) (t.dep u) with c | c | c
      · obtain ⟨i, hi, hik⟩ := hpres (by omega)
        obtain ⟨v, v1, v2, v3⟩ := h.full i q hi (by omega) (by omega) ((hik.less (by omega)).trans hjq)
        rw [hik _ c] at v1
        obtain ⟨b1, b2, b3, b4⟩ := h.back _ _ _ v1
        have hdu : t.dep v ≤ t.dep u := by
          rcases Nat.lt_or_ge (t.dep u) (t.dep v) with g | g
          · exact absurd (hal.trans (hik.symm.trans (v3.less (by omega)))) ((h.skip (t.dep u)).1 u v hu rfl b1 b2 (by rw [b3]; exact c) g)
          · exact g
        refine ⟨v, ?_, ?_, ?_⟩
        · unfold updB; rw [if_neg (by rintro ⟨q1, -⟩; exact hqu q1)]; exact v1
        · rw [upd_other _ _ (by omega)]; omega
        · rw [upd_other _ _ (by omega), upd_other _ _ (by omega)]
          exact (hik.symm.less hdu).trans v3
      · exact absurd ((h.skip (t.dep u)).2 q u (by omega) hu c rfl (by rw [c] at hjq; exact hjq.symm.trans hal.symm)) hqu
      · -- a node below u on the way of k: then u's way goes on so
        have hq0 : 0 < q := by
          rcases Nat.eq_zero_or_pos q with e0 | e0
          · subst e0; rw [h.root] at c; omega
          · exact e0
        exact absurd (hjq.symm.less (by omega)) (hnew (t.fst q) (h.fst_lt q hq0 (by omega)))
    · obtain ⟨v, v1, v2, v3⟩ := h.full j q (by omega) (by omega) hjN hjq
      obtain ⟨b1, b2, b3, b4⟩ := h.back _ _ _ v1
      refine ⟨v, ?_, by rw [upd_other _ _ (by omega)]; exact v2, by rw [upd_other _ _ (by omega), upd_other _ _ (by omega)]; exact v3⟩
      unfold updB
      rw [if_neg]
      · exact v1
      · rintro ⟨q1, q2⟩
        rw [q2, q1, hno] at v1
        cases v1
  · intro v h0 hv j
    show j < upd t.fst t.m k v → ¬ Al ch j (upd t.fst t.m k v) (upd t.dep t.m (N - k) (upd t.par t.m u v) + 1)
    rcases ecase v h0 hv with e | ⟨hv', e⟩
    · rw [e, upd_same, upd_same, upd_other _ _ (by omega)]
      exact hnew j
    · have := h.par_lt v h0 hv'
      rw [upd_other _ _ e, upd_other _ _ e, upd_other _ _ (by omega)]
      exact h.first v h0 hv' j

/-- A node between. -/
theorem TOk.parted (h : TOk ch N t k) {u v d : Nat} (hu : u < t.m) (h0v : 0 < v) (hv : v < t.m) (hpar : t.par v = u) (hlo : t.dep u < d) (hhi : d < t.dep v) : TOk ch N (t.split ch u v d) k := by
  have ecase : ∀ x, 0 < x → x < t.m + 1 → x = t.m ∨ (x < t.m ∧ x ≠ t.m) := fun x _ hx => by omega
  have hvm : v ≠ t.m := by omega
  have hfit := h.fits v h0v hv
  have hedge := h.edge v h0v hv
  rw [hpar] at hedge
  have P : ∀ x, x < t.m → x ≠ v → upd (upd t.par t.m u) v t.m x = t.par x := fun x hx hxv => by rw [upd_other _ _ hxv, upd_other _ _ (by omega)]
  have Pm : upd (upd t.par t.m u) v t.m t.m = u := by rw [upd_other _ _ (Ne.symm hvm), upd_same]
  have D : ∀ x, x < t.m → upd t.dep t.m d x = t.dep x := fun x hx => upd_other _ _ (by omega)
  have F : ∀ x, x < t.m → upd t.fst t.m (t.fst v) x = t.fst x := fun x hx => upd_other _ _ (by omega)
  refine ⟨Nat.succ_pos _, ?_, ?_, ?_, ?_, ?_, ?_, ?_, ?_, ?_, ?_, ?_, ?_⟩
  · show upd t.dep t.m _ 0 = 0
    rw [D _ h.pos]; exact h.root
  · show upd (upd t.par t.m u) v t.m 0 = 0
    rw [P _ h.pos (by omega)]; exact h.par0
  · show upd t.fst t.m _ 0 = 0
    rw [F _ h.pos]; exact h.fst0
  · intro x h0 hx
    show upd (upd t.par t.m u) v t.m x < t.m + 1
    rcases ecase x h0 hx with e | ⟨hx', e⟩
    · rw [e, Pm]; omega
    · by_cases exv : x = v
      · rw [exv, upd_same]; omega
      · rw [P x hx' exv]; have := h.par_lt x h0 hx'; omega
  · intro x h0 hx
    show upd t.dep t.m d (upd (upd t.par t.m u) v t.m x) < upd t.dep t.m d x
    rcases ecase x h0 hx with e | ⟨hx', e⟩
    · rw [e, Pm, upd_same, D u hu]; exact hlo
    · rw [D x hx']
      by_cases exv : x = v
      · rw [exv, upd_same, upd_same]; exact hhi
      · rw [P x hx' exv, D _ (h.par_lt x h0 hx')]; exact h.dep_lt x h0 hx'
  · intro x h0 hx
    show upd t.fst t.m (t.fst v) x < k
    rcases ecase x h0 hx with e | ⟨hx', e⟩
    · rw [e, upd_same]; exact h.fst_lt v h0v hv
    · rw [F x hx']; exact h.fst_lt x h0 hx'
  · intro x h0 hx
    show upd t.fst t.m (t.fst v) x + upd t.dep t.m d x ≤ N
    rcases ecase x h0 hx with e | ⟨hx', e⟩
    · rw [e, upd_same, upd_same]; omega
    · rw [F x hx', D x hx']; exact h.fits x h0 hx'
  · intro x h0 hx
    show updB (updB t.bl u (ch (t.fst v + t.dep u)) t.m) t.m (ch (t.fst v + d)) v (upd (upd t.par t.m u) v t.m x) (ch (upd t.fst t.m (t.fst v) x + upd t.dep t.m d (upd (upd t.par t.m u) v t.m x))) = some x
    rcases ecase x h0 hx with e | ⟨hx', e⟩
    · rw [e, Pm, upd_same, D u hu]
      unfold updB
      rw [if_neg (by omega), if_pos ⟨rfl, rfl⟩]
    · by_cases exv : x = v
      · rw [exv, upd_same, upd_same, F v hv]
        unfold updB
        rw [if_pos ⟨rfl, rfl⟩]
      · have hp := h.par_lt x h0 hx'
        rw [P x hx' exv, F x hx', D _ hp]
        have e2 := h.edge x h0 hx'
        unfold updB
        rw [if_neg (by omega), if_neg]
        · exact e2
        · rintro ⟨q1, q2⟩
          rw [q1] at e2
          rw [q1] at q2
          rw [q2, hedge] at e2
          injection e2 with e2
          exact exv e2.symm
  · intro x h0 hx
    show Al ch (upd t.fst t.m (t.fst v) (upd (upd t.par t.m u) v t.m x)) (upd t.fst t.m (t.fst v) x) (upd t.dep t.m d (upd (upd t.par t.m u) v t.m x))
    rcases ecase x h0 hx with e | ⟨hx', e⟩
    · rw [e, Pm, upd_same, D u hu, F u hu]
      have := h.pre v h0v hv
      rw [hpar] at this
      exact this
    · by_cases exv : x = v
      · rw [exv, upd_same, upd_same, F v hv]; exact Al.refl
      · have hp := h.par_lt x h0 hx'
        rw [P x hx' exv, F x hx', D _ hp, F _ hp]
        exact h.pre x h0 hx'
  · intro q c x hb
    show 0 < x ∧ x < t.m + 1 ∧ upd (upd t.par t.m u) v t.m x = q ∧ ch (upd t.fst t.m (t.fst v) x + upd t.dep t.m d q) = c
    rcases updB_some hb with ⟨rfl, rfl, rfl⟩ | ⟨hn1, hb⟩
    · rw [upd_same, upd_same, F _ hv]
      exact ⟨h0v, by omega, rfl, rfl⟩
    rcases updB_some hb with ⟨rfl, rfl, rfl⟩ | ⟨hn2, hb⟩
    · rw [Pm, upd_same, D _ hu]
      exact ⟨h.pos, by omega, rfl, rfl⟩
    · obtain ⟨b1, b2, b3, b4⟩ := h.back q c x hb
      have hq : q < t.m := by rw [← b3]; exact h.par_lt x b1 b2
      have hxv : x ≠ v := by
        intro e
        subst e
        rw [hpar] at b3
        subst b3
        exact hn2 ⟨rfl, b4.symm⟩
      rw [P x b2 hxv, F x b2, D q hq]
      exact ⟨b1, by omega, b3, b4⟩
  · intro j q hj hq
    show j + upd t.dep t.m d q < N → Al ch j (upd t.fst t.m (t.fst v) q) (upd t.dep t.m d q) → ∃ x, updB (updB t.bl u (ch (t.fst v + t.dep u)) t.m) t.m (ch (t.fst v + d)) v q (ch (j + upd t.dep t.m d q)) = some x ∧ j + upd t.dep t.m d x ≤ N ∧ Al ch j (upd t.fst t.m (t.fst v) x) (upd t.dep t.m d x)
    intro hjN hjq
    have hq' : q < t.m + 1 := hq
    have hprev := h.pre v h0v hv
    rw [hpar] at hprev
    by_cases e : q = t.m
    · rw [e, upd_same] at hjN
      rw [e, upd_same, upd_same] at hjq
      rw [e, upd_same]
      have hw := h.way (j := j) (u := u) (v := v) (c := ch (t.fst v + t.dep u)) hj hu (by omega) ((hjq.less (by omega)).trans hprev.symm) (hjq _ hlo) hedge
      refine ⟨v, ?_, by rw [D v hv]; exact hw.1, by rw [D v hv, F v hv]; exact hw.2⟩
      unfold updB
      rw [if_pos ⟨rfl, hw.2 _ hhi⟩]
    · have hqm : q < t.m := by omega
      rw [D q hqm] at hjN
      rw [D q hqm, F q hqm] at hjq
      rw [D q hqm]
      obtain ⟨x, x1, x2, x3⟩ := h.full j q hj hqm hjN hjq
      by_cases hch : q = u ∧ ch (j + t.dep q) = ch (t.fst v + t.dep u)
      · obtain ⟨rfl, hch⟩ := hch
        rw [hch, hedge] at x1
        injection x1 with x1
        subst x1
        refine ⟨t.m, ?_, by rw [upd_same]; omega, by rw [upd_same, upd_same]; exact x3.less (by omega)⟩
        unfold updB
        rw [if_neg (by omega), if_pos ⟨rfl, hch⟩]
      · obtain ⟨b1, b2, b3, b4⟩ := h.back _ _ _ x1
        refine ⟨x, ?_, by rw [D x b2]; exact x2, by rw [D x b2, F x b2]; exact x3⟩
        unfold updB
        rw [if_neg (by omega), if_neg hch]
        exact x1
  · intro x h0 hx j
    show j < upd t.fst t.m (t.fst v) x → ¬ Al ch j (upd t.fst t.m (t.fst v) x) (upd t.dep t.m d (upd (upd t.par t.m u) v t.m x) + 1)
    have hf := h.first v h0v hv j
    rw [hpar] at hf
    rcases ecase x h0 hx with e | ⟨hx', e⟩
    · rw [e, Pm, upd_same, D u hu]
      exact hf
    · by_cases exv : x = v
      · rw [exv, upd_same, upd_same, F v hv]
        exact fun hj ha => hf hj (ha.less (by omega))
      · have hp := h.par_lt x h0 hx'
        rw [P x hx' exv, F x hx', D _ hp]
        exact h.first x h0 hx' j
end
end Go.Proofs.Ytmggknoaiaeojaa
