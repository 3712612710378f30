/- What is proved here: plain facts on how a suffix tree is grown, step by step, and that what is found in it is the longest match at its first place; no program is named. -/
import Derived.Test.YtmggknoaiaeojaaTreePlain
namespace Go.Proofs.Ytmggknoaiaeojaa
set_option linter.unusedVariables false

/-- The tree of the first k texts; the text from k up to p stands in it, dep u bytes of it down to the node u; the node pd (if it is none, 0) waits for its link. -/
structure GOk (ch : Nat → UInt8) (N : Nat) (t : Tr) (k p u pd : Nat) : Prop where
  tok : TOk ch N t k
  kp : k ≤ p
  pN : p ≤ N
  u_lt : u < t.m
  dep_le : k + t.dep u ≤ p
  at_ : Al ch (t.fst u) k (t.dep u)
  pres : k < p → ∃ i, i < k ∧ Al ch i k (p - k)
  link0 : t.lk 0 = 0
  links : ∀ v, 0 < v → v < t.m → t.fst v + t.dep v < N → v ≠ pd → t.lk v < t.m ∧ t.dep (t.lk v) + 1 = t.dep v ∧ Al ch (t.fst (t.lk v)) (t.fst v + 1) (t.dep v - 1)
  lks : ∀ v, v < t.m → t.lk v < t.m
  pend : pd ≠ 0 → pd < t.m ∧ t.fst pd + 1 < k ∧ t.dep pd + k = p + 1 ∧ t.fst pd + t.dep pd < N ∧ Al ch (t.fst pd) (k - 1) (t.dep pd) ∧ ch (t.fst pd + t.dep pd) ≠ ch p
  many : t.m ≤ 2 * k + 1

section
variable {ch : Nat → UInt8} {N : Nat} {t : Tr} {k p u pd v : Nat}
/-- At a node below u: so far the text goes. -/
theorem GOk.onway (h : GOk ch N t k p u pd) (hlt : k + t.dep u < p) (hb : t.bl u (ch (k + t.dep u)) = some v) (n : Nat) (h1 : n ≤ t.dep v) (h2 : n ≤ p - k) : Al ch (t.fst v) k n := by
  obtain ⟨i, hi, hik⟩ := h.pres (by omega)
  have hN := h.pN
  have hw := h.tok.way (j := i) (u := u) (v := v) hi h.u_lt (by omega) ((hik.less (by omega)).trans h.at_.symm) (hik _ (by omega)) hb
  exact (hw.2.symm.less h1).trans (hik.less h2)
/-- There is a way, while the text isn't at its end. -/
theorem GOk.found (h : GOk ch N t k p u pd) (hlt : k + t.dep u < p) : ∃ v, t.bl u (ch (k + t.dep u)) = some v := by
  obtain ⟨i, hi, hik⟩ := h.pres (by omega)
  have hN := h.pN
  obtain ⟨v, hv, -⟩ := h.tok.full i u hi h.u_lt (by omega) ((hik.less (by omega)).trans h.at_.symm)
  rw [hik _ (by omega)] at hv
  exact ⟨v, hv⟩
/-- No leaf. -/
theorem GOk.inner (h : GOk ch N t k p u pd) (h0 : 0 < u) : t.fst u + t.dep u < N := by
  have := h.tok.fst_lt u h0 h.u_lt
  have := h.dep_le
  have := h.pN
  omega
theorem GOk.down (h : GOk ch N t k p u pd) (hb : t.bl u (ch (k + t.dep u)) = some v) (hle : k + t.dep v ≤ p) : GOk ch N t k p v pd := by
  obtain ⟨b1, b2, b3, b4⟩ := h.tok.back _ _ _ hb
  have hd := h.tok.dep_lt v b1 b2
  rw [b3] at hd
  exact { h with u_lt := b2, dep_le := hle, at_ := h.onway (by omega) hb _ (Nat.le_refl _) (by omega) }
/-- The text up to p, along the way to the node below u. -/
theorem GOk.along (h : GOk ch N t k p u pd) (hb : t.bl u (ch (k + t.dep u)) = some v) (hlt : p < k + t.dep v) : Al ch (t.fst v) k (p - k) := by
  obtain ⟨b1, b2, b3, b4⟩ := h.tok.back _ _ _ hb
  have hd := h.tok.pre v b1 b2
  rw [b3] at hd
  have := h.dep_le
  by_cases e : k + t.dep u < p
  · exact h.onway e hb _ (by omega) (Nat.le_refl _)
  · have e : t.dep u = p - k := by omega
    rw [← e]
    exact hd.symm.trans h.at_
/-- Where the next byte follows already, whoever waits for a link waits for this node. -/
theorem GOk.meets (h : GOk ch N t k p u pd) (hb : t.bl u (ch (k + t.dep u)) = some v) (hlt : p < k + t.dep v) (hch : ch (t.fst v + (p - k)) = ch p) (hpd : pd ≠ 0) : k + t.dep u = p := by
  obtain ⟨p1, p2, p3, p4, p5, p6⟩ := h.pend hpd
  have hle := h.dep_le
  rcases Nat.lt_or_ge (k + t.dep u) p with c | c
  · exfalso
    have hN := h.pN
    have a1 : Al ch (t.fst pd + 1) (k - 1 + 1) (p - k) := p5.drop (by omega)
    rw [show k - 1 + 1 = k by omega] at a1
    have hw := h.tok.way (j := t.fst pd + 1) (u := u) (v := v) p2 h.u_lt (by omega) ((a1.less (by omega)).trans h.at_.symm) (a1 _ (by omega)) hb
    have := hw.2 (p - k) (by omega)
    rw [hch, show t.fst pd + 1 + (p - k) = t.fst pd + t.dep pd by omega] at this
    exact p6 this
  · omega
/-- The next byte follows already. -/
theorem GOk.stay (h : GOk ch N t k p u pd) (hp : p < N) (hb : t.bl u (ch (k + t.dep u)) = some v) (hlt : p < k + t.dep v) (hch : ch (t.fst v + (p - k)) = ch p) : GOk ch N (t.link pd u) k (p + 1) u 0 := by
  obtain ⟨b1, b2, b3, b4⟩ := h.tok.back _ _ _ hb
  have hal := h.along hb hlt
  have hkp := h.kp
  refine ⟨h.tok.linked pd u, by omega, by omega, h.u_lt, by show k + t.dep u ≤ p + 1; have := h.dep_le; omega, h.at_, fun _ => ⟨t.fst v, h.tok.fst_lt v b1 b2, ?_⟩, ?_, ?_, ?_, fun e => absurd rfl e, h.many⟩
  · rw [show p + 1 - k = p - k + 1 by omega]
    exact hal.on (by rw [hch, show k + (p - k) = p by omega])
  · show (if pd = 0 then t.lk else upd t.lk pd u) 0 = 0
    split
    · exact h.link0
    · rename_i e; rw [upd_other _ _ (by omega)]; exact h.link0
  · intro x x0 hx hxN _
    show (if pd = 0 then t.lk else upd t.lk pd u) x < t.m ∧ t.dep ((if pd = 0 then t.lk else upd t.lk pd u) x) + 1 = t.dep x ∧ Al ch (t.fst ((if pd = 0 then t.lk else upd t.lk pd u) x)) (t.fst x + 1) (t.dep x - 1)
    by_cases e : pd = 0
    · rw [if_pos e]
      exact h.links x x0 hx hxN (by omega)
    · rw [if_neg e]
      by_cases ex : x = pd
      · rw [ex, upd_same]
        have hm := h.meets hb hlt hch e
        obtain ⟨p1, p2, p3, p4, p5, p6⟩ := h.pend e
        refine ⟨h.u_lt, by omega, ?_⟩
        have a1 : Al ch (t.fst pd + 1) (k - 1 + 1) (t.dep pd - 1) := p5.drop (by omega)
        rw [show k - 1 + 1 = k by omega] at a1
        exact (h.at_.less (by omega)).trans a1.symm
      · rw [upd_other _ _ ex]
        exact h.links x x0 hx hxN ex
  · intro x hx
    show (if pd = 0 then t.lk else upd t.lk pd u) x < t.m
    split
    · exact h.lks x hx
    · unfold upd
      split
      · exact h.u_lt
      · exact h.lks x hx

/-- Behind a text more: the tree t', the node a that it hangs below. -/
structure Hung (ch : Nat → UInt8) (N : Nat) (t t' : Tr) (k p u pd a : Nat) : Prop where
  tok : TOk ch N t' (k + 1)
  m_le : t.m ≤ t'.m
  m_hi : t'.m ≤ t.m + 2
  old : ∀ x, x < t.m → t'.dep x = t.dep x ∧ t'.fst x = t.fst x ∧ (x ≠ pd ∨ pd = 0 → t'.lk x = t.lk x)
  a_lt : a < t'.m
  a_dep : t'.dep a = p - k
  a_al : Al ch (t'.fst a) k (p - k)
  a_lk : a < t.m ∨ t'.lk a = 0
  a_in : 0 < a → t'.fst a < k ∧ t'.fst a + t'.dep a < N ∧ ch (t'.fst a + t'.dep a) ≠ ch p
  new : ∀ x, t.m ≤ x → x < t'.m → (x = a ∨ t'.fst x + t'.dep x = N) ∧ t'.lk x = 0
  pdl : pd ≠ 0 → t'.lk pd = a

/-- The text is hung: on to the next one. -/
theorem GOk.next {t' : Tr} {a u' q : Nat} (h : GOk ch N t k p u pd) (hp : p < N) (g : Hung ch N t t' k p u pd a) (hq : (k < p ∧ q = p) ∨ (k = p ∧ q = p + 1))
    (hu' : (u = 0 ∧ u' = 0) ∨ (u ≠ 0 ∧ u' = t'.lk u)) : GOk ch N t' (k + 1) q u' a ∧ (k = p → a = 0 ∧ u' = 0) ∧ (u ≠ 0 → t'.dep u' + 1 = t.dep u) := by
  have hdu := h.dep_le
  have hkp := h.kp
  have hmp := h.tok.pos
  have hml := g.m_le
  have hmh := g.m_hi
  have hmany := h.many
  have ha0 : k = p → a = 0 := by
    intro e
    rcases Nat.eq_zero_or_pos a with e0 | e0
    · exact e0
    · have h1 := g.tok.dep_pos e0 g.a_lt
      have h2 := g.a_dep
      omega
  have hupd : 0 < u → u ≠ pd := by
    intro h0 e
    obtain ⟨p1, p2, p3, -⟩ := h.pend (by omega)
    rw [← e] at p3
    omega
  have hu : u' < t.m ∧ t.dep u' ≤ t.dep u - 1 ∧ Al ch (t.fst u') (k + 1) (t.dep u') ∧ (u ≠ 0 → t.dep u' + 1 = t.dep u) := by
    rcases hu' with ⟨e1, e2⟩ | ⟨e1, e2⟩
    · rw [e2, h.tok.root]
      exact ⟨hmp, Nat.zero_le _, Al.zero, fun e => absurd e1 e⟩
    · have h0 : 0 < u := by omega
      obtain ⟨l1, l2, l3⟩ := h.links u h0 h.u_lt (h.inner h0) (hupd h0)
      rw [e2, (g.old u h.u_lt).2.2 (.inl (hupd h0))]
      refine ⟨l1, by omega, ?_, fun _ => l2⟩
      have a1 : Al ch (t.fst u + 1) (k + 1) (t.dep u - 1) := h.at_.drop (by omega)
      exact (l3.trans a1).less (by omega)
  obtain ⟨u1, u2, u3, u4⟩ := hu
  obtain ⟨o1, o2, -⟩ := g.old u' u1
  have hk0 : k = p → u' = 0 := by
    intro e
    rcases Nat.eq_zero_or_pos u' with e0 | e0
    · exact e0
    · have := h.tok.dep_pos e0 u1
      omega
  refine ⟨⟨g.tok, by omega, by omega, by omega, ?_, by rw [o1, o2]; exact u3, ?_, ?_, ?_, ?_, ?_, by omega⟩, fun e => ⟨ha0 e, hk0 e⟩, fun e => by rw [o1]; exact u4 e⟩
  · rw [o1]
    rcases hq with ⟨q1, q2⟩ | ⟨q1, q2⟩
    · have : t.dep u' = 0 ∨ 1 ≤ t.dep u := by
        rcases hu' with ⟨e1, e2⟩ | ⟨e1, e2⟩
        · rw [e2, h.tok.root]; exact .inl rfl
        · exact .inr (h.tok.dep_pos (by omega) h.u_lt)
      omega
    · rw [hk0 q1, h.tok.root]; omega
  · intro hlt
    obtain ⟨i, hi, hik⟩ := h.pres (by omega)
    exact ⟨i + 1, by omega, hik.drop (by omega)⟩
  · rw [(g.old 0 hmp).2.2 (by omega)]
    exact h.link0
  · intro x x0 hx hxN hxa
    rcases Nat.lt_or_ge x t.m with c | c
    · obtain ⟨x1, x2, x3⟩ := g.old x c
      rw [x1, x2] at hxN
      rw [x1, x2]
      by_cases exp : x = pd
      · have hpd : pd ≠ 0 := by omega
        obtain ⟨p1, p2, p3, p4, p5, p6⟩ := h.pend hpd
        rw [exp, g.pdl hpd]
        have := g.a_dep
        refine ⟨g.a_lt, by omega, ?_⟩
        have a1 : Al ch (t.fst pd + 1) (k - 1 + 1) (t.dep pd - 1) := p5.drop (by omega)
        rw [show k - 1 + 1 = k by omega] at a1
        exact (g.a_al.less (by omega)).trans a1.symm
      · obtain ⟨l1, l2, l3⟩ := h.links x x0 c hxN exp
        rw [x3 (.inl exp)]
        obtain ⟨y1, y2, -⟩ := g.old _ l1
        rw [y1, y2]
        exact ⟨by omega, l2, l3⟩
    · rcases (g.new x c hx).1 with e | e
      · exact absurd e hxa
      · omega
  · intro x hx
    rcases Nat.lt_or_ge x t.m with c | c
    · by_cases exp : x = pd ∧ pd ≠ 0
      · rw [exp.1, g.pdl exp.2]; exact g.a_lt
      · rw [(g.old x c).2.2 (by omega)]
        have := h.lks x c
        omega
    · rw [(g.new x c hx).2]
      omega
  · intro ea
    have := g.a_dep
    obtain ⟨i1, i2, i3⟩ := g.a_in (by omega)
    rcases hq with ⟨q1, q2⟩ | ⟨q1, q2⟩
    · rw [q2]
      refine ⟨g.a_lt, by omega, by omega, i2, ?_, i3⟩
      rw [show k + 1 - 1 = k by omega, g.a_dep]
      exact g.a_al
    · exact absurd (ha0 q1) ea

/-- Hung below the node itself. -/
theorem GOk.hangs (h : GOk ch N t k p u pd) (hp : p < N) (hno : t.bl u (ch (k + t.dep u)) = none) : k + t.dep u = p ∧ Hung ch N t ((t.hang ch u k (N - k)).link pd u) k p u pd u := by
  have hdu := h.dep_le
  have hmp := h.tok.pos
  have hul := h.u_lt
  have hd : k + t.dep u = p := by
    rcases Nat.lt_or_ge (k + t.dep u) p with c | c
    · obtain ⟨v, hv⟩ := h.found c
      rw [hno] at hv
      cases hv
    · omega
  have hT : TOk ch N (t.hang ch u k (N - k)) (k + 1) := h.tok.hung hul (by omega) h.at_ hno (fun h0 => by
    obtain ⟨i, hi, hik⟩ := h.pres (by omega)
    exact ⟨i, hi, hik.less (by omega)⟩)
  have hD : ∀ x, x < t.m → upd t.dep t.m (N - k) x = t.dep x := fun x hx => upd_other _ _ (by omega)
  have hF : ∀ x, x < t.m → upd t.fst t.m k x = t.fst x := fun x hx => upd_other _ _ (by omega)
  refine ⟨hd, hT.linked pd u, Nat.le_succ _, by show t.m + 1 ≤ t.m + 2; omega, ?_, by show u < t.m + 1; omega, ?_, ?_, .inl hul, ?_, ?_, ?_⟩
  · intro x hx
    refine ⟨hD x hx, hF x hx, fun hxp => ?_⟩
    show (if pd = 0 then upd t.lk t.m 0 else upd (upd t.lk t.m 0) pd u) x = t.lk x
    split
    · rw [upd_other _ _ (by omega)]
    · rw [upd_other _ _ (by omega), upd_other _ _ (by omega)]
  · show upd t.dep t.m (N - k) u = p - k
    rw [hD u hul]; omega
  · show Al ch (upd t.fst t.m k u) k (p - k)
    rw [hF u hul, ← show t.dep u = p - k by omega]
    exact h.at_
  · intro h0
    show upd t.fst t.m k u < k ∧ upd t.fst t.m k u + upd t.dep t.m (N - k) u < N ∧ ch (upd t.fst t.m k u + upd t.dep t.m (N - k) u) ≠ ch p
    rw [hF u hul, hD u hul]
    have hfu := h.tok.fst_lt u h0 hul
    refine ⟨hfu, h.inner h0, fun e => ?_⟩
    obtain ⟨v, hv, -⟩ := h.tok.full (t.fst u) u hfu hul (h.inner h0) Al.refl
    rw [e, ← hd, hno] at hv
    cases hv
  · intro x hx1 hx2
    have hx2' : x < t.m + 1 := hx2
    have e : x = t.m := by omega
    subst e
    refine ⟨.inr ?_, ?_⟩
    · show upd t.fst t.m k t.m + upd t.dep t.m (N - k) t.m = N
      rw [upd_same, upd_same]; omega
    · show (if pd = 0 then upd t.lk t.m 0 else upd (upd t.lk t.m 0) pd u) t.m = 0
      split
      · rw [upd_same]
      · rename_i e0
        rw [upd_other _ _ (by have := (h.pend e0).1; omega), upd_same]
  · intro e0
    show (if pd = 0 then upd t.lk t.m 0 else upd (upd t.lk t.m 0) pd u) pd = u
    rw [if_neg e0, upd_same]

/-- Hung below a new node on the way to v. -/
theorem GOk.parts (h : GOk ch N t k p u pd) (hp : p < N) (hb : t.bl u (ch (k + t.dep u)) = some v) (hlt : p < k + t.dep v) (hch : ch (t.fst v + (p - k)) ≠ ch p) :
    k + t.dep u < p ∧ Hung ch N t (((t.split ch u v (p - k)).hang ch t.m k (N - k)).link pd t.m) k p u pd t.m := by
  have hdu := h.dep_le
  have hmp := h.tok.pos
  have hul := h.u_lt
  obtain ⟨b1, b2, b3, b4⟩ := h.tok.back _ _ _ hb
  have hal := h.along hb hlt
  have hfv := h.tok.fst_lt v b1 b2
  have hfN := h.tok.fits v b1 b2
  have hd : k + t.dep u < p := by
    rcases Nat.lt_or_ge (k + t.dep u) p with c | c
    · exact c
    · exfalso
      have e : k + t.dep u = p := by omega
      rw [e, show t.dep u = p - k by omega] at b4
      exact hch b4
  have hS : TOk ch N (t.split ch u v (p - k)) k := h.tok.parted hul b1 b2 b3 (by omega) (by omega)
  have hSm : (t.split ch u v (p - k)).m = t.m + 1 := rfl
  have hSd : (t.split ch u v (p - k)).dep t.m = p - k := upd_same _ _ _
  have hSf : (t.split ch u v (p - k)).fst t.m = t.fst v := upd_same _ _ _
  have hSo : ∀ x, x < t.m → (t.split ch u v (p - k)).dep x = t.dep x ∧ (t.split ch u v (p - k)).fst x = t.fst x ∧ (t.split ch u v (p - k)).lk x = t.lk x := fun x hx => ⟨upd_other _ _ (by omega), upd_other _ _ (by omega), upd_other _ _ (by omega)⟩
  have hSl : (t.split ch u v (p - k)).lk t.m = 0 := upd_same _ _ _
  have hSb : (t.split ch u v (p - k)).bl t.m (ch p) = none := by
    show updB (updB t.bl u (ch (t.fst v + t.dep u)) t.m) t.m (ch (t.fst v + (p - k))) v t.m (ch p) = none
    unfold updB
    rw [if_neg (fun e => hch e.2.symm), if_neg (by omega)]
    cases hx : t.bl t.m (ch p) with
    | none => rfl
    | some y =>
      obtain ⟨y1, y2, y3, -⟩ := h.tok.back _ _ _ hx
      have := h.tok.par_lt y y1 y2
      omega
  generalize t.split ch u v (p - k) = s at *
  have hT : TOk ch N (s.hang ch t.m k (N - k)) (k + 1) := by
    refine hS.hung (u := t.m) (by omega) (by omega) (by rw [hSd, hSf]; exact hal) (by rw [hSd, show k + (p - k) = p by omega]; exact hSb) (fun _ => ⟨t.fst v, hfv, by rw [hSd]; exact hal⟩)
  have hD : ∀ x, x < s.m → upd s.dep s.m (N - k) x = s.dep x := fun x hx => upd_other _ _ (by omega)
  have hF : ∀ x, x < s.m → upd s.fst s.m k x = s.fst x := fun x hx => upd_other _ _ (by omega)
  refine ⟨hd, hT.linked pd t.m, by show t.m ≤ s.m + 1; omega, by show s.m + 1 ≤ t.m + 2; omega, ?_, by show t.m < s.m + 1; omega, ?_, ?_, .inr ?_, ?_, ?_, ?_⟩
  · intro x hx
    obtain ⟨x1, x2, x3⟩ := hSo x hx
    refine ⟨(hD x (by omega)).trans x1, (hF x (by omega)).trans x2, fun hxp => ?_⟩
    show (if pd = 0 then upd s.lk s.m 0 else upd (upd s.lk s.m 0) pd t.m) x = t.lk x
    split
    · rw [upd_other _ _ (by omega)]; exact x3
    · rw [upd_other _ _ (by omega), upd_other _ _ (by omega)]; exact x3
  · show upd s.dep s.m (N - k) t.m = p - k
    rw [hD _ (by omega)]; exact hSd
  · show Al ch (upd s.fst s.m k t.m) k (p - k)
    rw [hF _ (by omega), hSf]; exact hal
  · show (if pd = 0 then upd s.lk s.m 0 else upd (upd s.lk s.m 0) pd t.m) t.m = 0
    split
    · rw [upd_other _ _ (by omega)]; exact hSl
    · rename_i e0
      have := (h.pend e0).1
      rw [upd_other _ _ (by omega), upd_other _ _ (by omega)]; exact hSl
  · intro h0
    show upd s.fst s.m k t.m < k ∧ upd s.fst s.m k t.m + upd s.dep s.m (N - k) t.m < N ∧ ch (upd s.fst s.m k t.m + upd s.dep s.m (N - k) t.m) ≠ ch p
    rw [hF _ (by omega), hD _ (by omega), hSf, hSd]
    exact ⟨hfv, by omega, hch⟩
  · intro x hx1 hx2
    have hx2' : x < s.m + 1 := hx2
    have hlk : (if pd = 0 then upd s.lk s.m 0 else upd (upd s.lk s.m 0) pd t.m) x = 0 := by
      have e : x = t.m ∨ x = s.m := by omega
      have hpd : pd ≠ 0 → x ≠ pd := fun e0 => by have := (h.pend e0).1; omega
      split
      · rcases e with e | e
        · rw [e, upd_other _ _ (by omega)]; exact hSl
        · rw [e, upd_same]
      · rename_i e0
        rw [upd_other _ _ (hpd e0)]
        rcases e with e | e
        · rw [e, upd_other _ _ (by omega)]; exact hSl
        · rw [e, upd_same]
    refine ⟨?_, hlk⟩
    by_cases e : x = t.m
    · exact .inl e
    · have e : x = s.m := by omega
      subst e
      refine .inr ?_
      show upd s.fst s.m k s.m + upd s.dep s.m (N - k) s.m = N
      rw [upd_same, upd_same]
      have := h.kp
      omega
  · intro e0
    show (if pd = 0 then upd s.lk s.m 0 else upd (upd s.lk s.m 0) pd t.m) pd = t.m
    rw [if_neg e0, upd_same]
end

/-- The tree of nothing. -/
def Tr.new : Tr := { m := 1, par := fun _ => 0, fst := fun _ => 0, dep := fun _ => 0, lk := fun _ => 0, bl := fun _ _ => none }
theorem GOk.start (ch : Nat → UInt8) (N : Nat) : GOk ch N Tr.new 0 0 0 0 := by
  refine ⟨⟨Nat.one_pos, rfl, rfl, rfl, ?_, ?_, ?_, ?_, ?_, ?_, ?_, ?_, ?_⟩, Nat.le_refl _, Nat.zero_le _, Nat.one_pos, Nat.le_refl _, Al.zero, fun h => absurd h (Nat.lt_irrefl _), rfl, ?_, fun v hv => Nat.one_pos, fun h => absurd rfl h, by decide⟩
  all_goals first
    | (intro v h0 hv; have hv' : v < 1 := hv; omega)
    | skip
  · intro u c v h; cases h
  · intro j u hj; omega

/-! ### what is found -/
def AlB (ch bc : Nat → UInt8) (i n : Nat) : Prop := ∀ x, x < n → ch (i + x) = bc x
section
variable {ch bc : Nat → UInt8} {N M : Nat} {t : Tr} {k u v : Nat}
theorem AlB.less {i n n' : Nat} (h : AlB ch bc i n) (hn : n' ≤ n) : AlB ch bc i n' := fun x hx => h x (by omega)
theorem AlB.al {i j n : Nat} (h : AlB ch bc i n) (h' : AlB ch bc j n) : Al ch i j n := fun x hx => (h x hx).trans (h' x hx).symm
theorem AlB.of {i j n : Nat} (h : Al ch i j n) (h' : AlB ch bc j n) : AlB ch bc i n := fun x hx => (h x hx).trans (h' x hx)
/-- What stands at a place stands at one of the first k, no later. -/
theorem whole_all (hk : k < N → ∃ i, i < k ∧ Al ch i k (N - k)) (j n : Nat) (hn : 0 < n) (hj : j + n ≤ N) : ∃ i, i < k ∧ i ≤ j ∧ Al ch i j n := by
  induction j using Nat.strongRecOn with
  | ind j ih =>
    rcases Nat.lt_or_ge j k with c | c
    · exact ⟨j, c, Nat.le_refl _, Al.refl⟩
    · obtain ⟨i, hi, hik⟩ := hk (by omega)
      obtain ⟨i', h1, h2, h3⟩ := ih (i + (j - k)) (by omega) (by omega)
      refine ⟨i', h1, by omega, h3.trans ?_⟩
      have : Al ch (i + (j - k)) (k + (j - k)) n := hik.drop (by omega)
      rw [show k + (j - k) = j by omega] at this
      exact this

/-- The answer: size bytes, from the place on. -/
structure Best (ch bc : Nat → UInt8) (N M place size : Nat) : Prop where
  le : size ≤ M
  none : size = 0 → place = 0
  some : 0 < size → place + size ≤ N ∧ AlB ch bc place size ∧ ∀ j, j < place → ¬ AlB ch bc j size
  most : size = M ∨ ∀ j, j + (size + 1) ≤ N → ¬ AlB ch bc j (size + 1)

/-- At a node, all of its bytes found. -/
structure FOk (ch bc : Nat → UInt8) (M : Nat) (t : Tr) (u place : Nat) : Prop where
  lt : u < t.m
  le : t.dep u ≤ M
  al : AlB ch bc (t.fst u) (t.dep u)
  pl : place = t.fst u
theorem FOk.start (h : TOk ch N t k) : FOk ch bc M t 0 0 := ⟨h.pos, by rw [h.root]; omega, by rw [h.root]; exact fun x hx => absurd hx (Nat.not_lt_zero _), h.fst0.symm⟩
theorem FOk.ends (h : TOk ch N t k) {place : Nat} (f : FOk ch bc M t u place) (hm : t.dep u = M ∨ ∀ j, j + (t.dep u + 1) ≤ N → ¬ AlB ch bc j (t.dep u + 1)) : Best ch bc N M place (t.dep u) := by
  have hp := f.pl
  refine ⟨f.le, fun h0 => ?_, fun h0 => ?_, hm⟩
  · rcases Nat.eq_zero_or_pos u with e | e
    · rw [hp, e]; exact h.fst0
    · have := h.dep_pos e f.lt
      omega
  · have hu : 0 < u := by
      rcases Nat.eq_zero_or_pos u with e | e
      · rw [e, h.root] at h0; omega
      · exact e
    rw [hp]
    refine ⟨h.fits u hu f.lt, f.al, fun j hj ha => h.first u hu f.lt j hj ((ha.al f.al).less (h.dep_lt u hu f.lt))⟩
theorem FOk.stops (h : TOk ch N t k) (hk : k < N → ∃ i, i < k ∧ Al ch i k (N - k)) {place : Nat} (f : FOk ch bc M t u place) (hno : t.bl u (bc (t.dep u)) = none) : Best ch bc N M place (t.dep u) := by
  refine f.ends h (.inr fun j hj ha => ?_)
  obtain ⟨i, h1, h2, h3⟩ := whole_all hk j _ (Nat.succ_pos _) hj
  have ha' := AlB.of h3 ha
  obtain ⟨v, hv, -⟩ := h.full i u h1 f.lt (by omega) ((ha'.less (Nat.le_succ _)).al f.al)
  rw [ha' _ (Nat.lt_succ_self _), hno] at hv
  cases hv
/-- On the way to the node below: so many more. -/
theorem FOk.goes (h : TOk ch N t k) (hk : k < N → ∃ i, i < k ∧ Al ch i k (N - k)) {place same : Nat} (f : FOk ch bc M t u place) (hM : t.dep u < M) (hb : t.bl u (bc (t.dep u)) = some v)
    (h1 : t.dep u + same ≤ t.dep v) (h2 : t.dep u + same ≤ M) (h3 : ∀ x, x < same → ch (t.fst v + t.dep u + x) = bc (t.dep u + x))
    (h4 : t.dep u + same = t.dep v ∨ t.dep u + same = M ∨ ch (t.fst v + t.dep u + same) ≠ bc (t.dep u + same)) :
    (t.dep u + same = t.dep v → FOk ch bc M t v (t.fst v)) ∧ (t.dep u + same < t.dep v → Best ch bc N M (t.fst v) (t.dep u + same)) ∧ 0 < same := by
  obtain ⟨b1, b2, b3, b4⟩ := h.back _ _ _ hb
  have hd := h.dep_lt v b1 b2
  have hpre := h.pre v b1 b2
  have hfit := h.fits v b1 b2
  rw [b3] at hd hpre
  have h0 : 0 < same := by
    rcases Nat.eq_zero_or_pos same with e | e
    · subst e
      rcases h4 with e | e | e
      · omega
      · omega
      · exact absurd b4 e
    · exact e
  have hal : AlB ch bc (t.fst v) (t.dep u + same) := by
    intro x hx
    by_cases c : x < t.dep u
    · exact (hpre x c).symm.trans (f.al x c)
    · have := h3 (x - t.dep u) (by omega)
      rw [show t.fst v + t.dep u + (x - t.dep u) = t.fst v + x by omega, show t.dep u + (x - t.dep u) = x by omega] at this
      exact this
  refine ⟨fun e => ⟨b2, by omega, by rw [← e]; exact hal, rfl⟩, fun hlt => ⟨h2, by omega, fun _ => ⟨by omega, hal, fun j hj ha => ?_⟩, ?_⟩, h0⟩
  · have := h.first v b1 b2 j hj
    rw [b3] at this
    exact this ((ha.al hal).less (by omega))
  · rcases h4 with e | e | e
    · omega
    · exact .inl e
    · refine .inr fun j hj ha => ?_
      obtain ⟨i, i1, i2, i3⟩ := whole_all hk j _ (Nat.succ_pos _) hj
      have ha' := AlB.of i3 ha
      have hw := h.way (j := i) (u := u) (v := v) i1 f.lt (by omega) ((ha'.less (by omega)).al f.al) (ha' _ (by omega)) hb
      have e2 := hw.2 (t.dep u + same) hlt
      rw [ha' _ (Nat.lt_succ_self _), ← Nat.add_assoc] at e2
      exact e e2.symm
end

/-! ### in the words of lists -/
def chL (T : List UInt8) (i : Nat) : UInt8 := T.getD i 0
theorem chL_at (T : List UInt8) (i : Nat) (h : i < T.length) : chL T i = T[i] := by
  unfold chL
  rw [List.getD_eq_getElem?_getD, List.getElem?_eq_getElem h]
  rfl
theorem common_ge (a b : List UInt8) (n : Nat) (h : ∀ x, x < n → ∃ c, a[x]? = some c ∧ b[x]? = some c) : n ≤ commonL a b := by
  induction n generalizing a b with
  | zero => exact Nat.zero_le _
  | succ n ih =>
    obtain ⟨c, h1, h2⟩ := h 0 (Nat.succ_pos _)
    cases a with
    | nil => simp at h1
    | cons x a =>
      cases b with
      | nil => simp at h2
      | cons y b =>
        simp at h1 h2
        unfold commonL
        rw [if_pos (h1.trans h2.symm)]
        have := ih a b (fun z hz => by
          obtain ⟨d, d1, d2⟩ := h (z + 1) (by omega)
          exact ⟨d, by simpa using d1, by simpa using d2⟩)
        omega
theorem common_halt (a b : List UInt8) : commonL a b = a.length ∨ commonL a b = b.length ∨ ∃ (h1 : commonL a b < a.length) (h2 : commonL a b < b.length), a[commonL a b] ≠ b[commonL a b] := by
  induction a generalizing b with
  | nil => exact .inl rfl
  | cons x a ih =>
    cases b with
    | nil => exact .inr (.inl rfl)
    | cons y b =>
      by_cases e : x = y
      · have hc : commonL (x :: a) (y :: b) = commonL a b + 1 := by rw [commonL, if_pos e]
        rcases ih b with h | h | ⟨h1, h2, h3⟩
        · exact .inl (by rw [hc, h]; rfl)
        · exact .inr (.inl (by rw [hc, h]; rfl))
        · refine .inr (.inr ⟨by rw [hc]; simp; omega, by rw [hc]; simp; omega, ?_⟩)
          simp only [hc]
          exact h3
      · have hc : commonL (x :: a) (y :: b) = 0 := by rw [commonL, if_neg e]
        refine .inr (.inr ⟨by rw [hc]; simp, by rw [hc]; simp, ?_⟩)
        simp only [hc]
        exact e
theorem common_iff (T b : List UInt8) (i n : Nat) : n ≤ commonL (T.drop i) b ↔ (n = 0 ∨ (i + n ≤ T.length ∧ n ≤ b.length ∧ AlB (chL T) (chL b) i n)) := by
  constructor
  · intro h
    by_cases h0 : n = 0
    · exact .inl h0
    have hl := common_le (T.drop i) b
    simp only [List.length_drop] at hl
    refine .inr ⟨by omega, by omega, fun x hx => ?_⟩
    obtain ⟨g1, g2, g3⟩ := common_at (T.drop i) b x (by omega)
    rw [chL_at T _ (by omega), chL_at b _ (by omega), ← g3, List.getElem_drop]
  · rintro (h | ⟨h1, h2, h3⟩)
    · omega
    · refine common_ge _ _ n fun x hx => ⟨chL T (i + x), ?_, ?_⟩
      · rw [List.getElem?_drop, List.getElem?_eq_getElem (by omega), chL_at T _ (by omega)]
      · rw [h3 x hx, List.getElem?_eq_getElem (by omega), chL_at b _ (by omega)]
theorem best_long (T b : List UInt8) (place size : Nat) (h : Best (chL T) (chL b) T.length b.length place size) : longL T b = (size, place) := by
  by_cases h0 : size = 0
  · have hp := h.none h0
    subst h0
    subst hp
    have hz : ∀ j, commonL (T.drop j) b = 0 := by
      intro j
      rcases Nat.eq_zero_or_pos (commonL (T.drop j) b) with e | e
      · exact e
      · exfalso
        rcases (common_iff T b j 1).1 e with e | ⟨e1, e2, e3⟩
        · omega
        · rcases h.most with m | m
          · omega
          · exact m j e1 e3
    obtain ⟨g1, g2, g3, g4⟩ := longG_best T b T.length
    have e1 : (longL T b).1 = 0 := by
      rcases Nat.eq_zero_or_pos (longL T b).1 with e | e
      · exact e
      · have := (g3 e).1
        rw [hz] at this
        exact this.symm
    have e2 : (longL T b).2 = 0 := g4 e1
    exact Prod.ext e1 e2
  · obtain ⟨s1, s2, s3⟩ := h.some (by omega)
    have hle : ∀ i, commonL (T.drop i) b ≤ size := by
      intro i
      rcases Nat.lt_or_ge size (commonL (T.drop i) b) with c | c
      · exfalso
        rcases (common_iff T b i (size + 1)).1 c with e | ⟨e1, e2, e3⟩
        · omega
        · rcases h.most with m | m
          · omega
          · exact m i e1 e3
      · exact c
    refine longL_unique T b size place (by omega) (fun i _ => hle i) (fun i hi => ?_) ?_
    · rcases Nat.lt_or_ge (commonL (T.drop i) b) size with c | c
      · exact c
      · rcases (common_iff T b i size).1 c with e | ⟨e1, e2, e3⟩
        · omega
        · exact absurd e3 (s3 i hi)
    · have := (common_iff T b place size).2 (.inr ⟨s1, h.le, s2⟩)
      have := hle place
      omega
end Go.Proofs.Ytmggknoaiaeojaa
