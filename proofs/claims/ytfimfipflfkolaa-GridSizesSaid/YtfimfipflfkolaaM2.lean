/- What is proved here: plain facts on grids: which rows have no half alone, that each of the document's calls keeps it so, what goes up and down again, what is made greater and as it was again; no program is named; the contract of the document's Size, of any arguments; words for slices of runes in memory over this translation (a slice that reads as a list of runes; a row of runes of the call's own), how they are kept, what append makes of them, ; plain facts on UTF-8 as the document tells it: which bytes begin a rune, what a byte comes to behind others, what all come to; each rune's form comes back, bytes may be parted; no program is named; contracts of the document's functions on UTF-8 (which runes may be, which bytes begin one, which are one): memory is left alone; the contract of the document's width of a rune. -/
import Derived.Test.YtfimfipflfkolaaM1
import Derived.Laws.Cover3
import Derived.Test.YtfimfipflfkolaaRows
import Derived.WalkKit
import Derived.WalkSpells
import Derived.WalkLawsBesides
import Derived.Below
import Derived.Lib.Hide
import Derived.Maps.AppendAt
import Derived.Deep.AppendLies
import Derived.Deep.Draws
import Derived.OwnWalk
import Derived.Laws.BytesArg
import Derived.OpenShut
import Derived.Lib.SlBytesConst
import Derived.Test.YtfimfipflfkolaaLebPlain
import Derived.Deep.QuietTactic
import Derived.BigQuiet
namespace Go.Proofs.Ytfimfipflfkolaa
set_option linter.unusedVariables false

/-- No half of row y is alone. -/
def RowW (l : List Cl) (c y : Nat) : Prop := ∀ x, x < c → badH l c (y * c + x) x = false
/-- No half is alone, in any of r rows. -/
def Whole (l : List Cl) (r c : Nat) : Prop := ∀ y, y < r → RowW l c y
theorem badH_no {l : List Cl} {c i x : Nat} : badH l c i x = false ↔ ((getC l i).h = 1 → x + 1 ≠ c ∧ (getC l (i + 1)).h = 2) ∧ ((getC l i).h = 2 → x ≠ 0 ∧ (getC l (i - 1)).h = 1) := by
  unfold badH
  generalize (getC l i).h = a
  generalize (getC l (i + 1)).h = b
  generalize (getC l (i - 1)).h = d
  simp only [Bool.or_eq_false_iff, Bool.and_eq_false_iff, decide_eq_false_iff_not]
  omega
theorem RowW.same {l m : List Cl} {c y y' : Nat} (h : RowW l c y') (he : ∀ x, x < c → getC m (y * c + x) = getC l (y' * c + x)) : RowW m c y := by
  intro x hx
  have h1 := badH_no.1 (h x hx)
  refine badH_no.2 ⟨fun e => ?_, fun e => ?_⟩
  · rw [he x hx] at e
    obtain ⟨a, b⟩ := h1.1 e
    refine ⟨a, ?_⟩
    rw [Nat.add_assoc] at b ⊢
    rw [he (x + 1) (by omega)]
    exact b
  · rw [he x hx] at e
    obtain ⟨a, b⟩ := h1.2 e
    refine ⟨a, ?_⟩
    rw [show y' * c + x - 1 = y' * c + (x - 1) by omega] at b
    rw [show y * c + x - 1 = y * c + (x - 1) by omega, he (x - 1) (by omega)]
    exact b
theorem RowW.blank {m : List Cl} {c y : Nat} (he : ∀ x, x < c → getC m (y * c + x) = blankC) : RowW m c y := by
  intro x hx
  refine badH_no.2 ⟨fun e => ?_, fun e => ?_⟩
  · rw [he x hx] at e; exact absurd e (by decide)
  · rw [he x hx] at e; exact absurd e (by decide)
theorem getC_out {l : List Cl} {i : Nat} (h : l.length ≤ i) : getC l i = blankC := by
  unfold getC List.getD
  rw [List.getElem?_eq_none h]
  rfl
theorem fill_getC (l : List Cl) (f : Nat → Cl) (lo hi i : Nat) : getC (fillL l f lo hi) i = if i < l.length ∧ lo ≤ i ∧ i < hi then f i else getC l i := by
  unfold getC List.getD
  rw [fillL_get]
  by_cases h : i < l.length
  · rw [if_pos h]
    by_cases h2 : lo ≤ i ∧ i < hi
    · rw [if_pos h2, if_pos ⟨h, h2⟩]
      rfl
    · rw [if_neg h2, if_neg (fun e => h2 e.2)]
  · rw [if_neg h, if_neg (fun e => h e.1), List.getElem?_eq_none (by omega)]
theorem fill_blankC (l : List Cl) (lo hi i : Nat) : getC (fillL l (fun _ => blankC) lo hi) i = if lo ≤ i ∧ i < hi then blankC else getC l i := by
  rw [fill_getC]
  by_cases h : i < l.length
  · by_cases h2 : lo ≤ i ∧ i < hi
    · rw [if_pos ⟨h, h2⟩, if_pos h2]
    · rw [if_neg (fun e => h2 e.2), if_neg h2]
  · rw [if_neg (fun e => h e.1), getC_out (by omega)]
    split <;> rfl
theorem getC_ext {l m : List Cl} (hl : m.length = l.length) (h : ∀ i, i < l.length → getC m i = getC l i) : m = l := by
  apply List.ext_getElem?
  intro i
  by_cases hi : i < l.length
  · rw [getC_of hi, getC_of (by omega), h i hi]
  · rw [List.getElem?_eq_none (by omega), List.getElem?_eq_none (by omega)]
theorem row_ge {lo y c x : Nat} (hx : x < c) : lo * c ≤ y * c + x ↔ lo ≤ y := by
  constructor
  · intro h
    rcases Nat.lt_or_ge y lo with h2 | h2
    · have := Nat.mul_le_mul_right c h2
      rw [Nat.succ_eq_add_one, Nat.add_mul] at this
      omega
    · exact h2
  · intro h
    have := Nat.mul_le_mul_right c h
    omega
/-- A place within row y is in no other one. -/
theorem row_other {c y y' x i : Nat} (hx : x < c) (hne : y' ≠ y) (h1 : y * c ≤ i) (h2 : i < y * c + c) : i ≠ y' * c + x := by
  intro e
  rcases Nat.lt_or_ge y' y with h | h
  · have := Nat.mul_le_mul_right c h
    rw [Nat.succ_eq_add_one, Nat.add_mul] at this
    omega
  · have h3 : y + 1 ≤ y' := by omega
    have := Nat.mul_le_mul_right c h3
    rw [Nat.add_mul] at this
    omega
theorem fill_other {l : List Cl} {f : Nat → Cl} {c y y' x lo hi : Nat} (hx : x < c) (hne : y' ≠ y) (h1 : y * c ≤ lo) (h2 : hi ≤ y * c + c) : getC (fillL l f lo hi) (y' * c + x) = getC l (y' * c + x) := by
  rw [fill_getC]
  by_cases h : y' * c + x < l.length ∧ lo ≤ y' * c + x ∧ y' * c + x < hi
  · exact absurd rfl (row_other (i := y' * c + x) hx hne (by omega) (by omega))
  · rw [if_neg h]
theorem gOk_pos {l : List Cl} {r c : Nat} (hg : GOk l.length r c) (top bottom : Int) : (gOk l.length (c : Int) = true ∧ 0 ≤ top ∧ bottom < (l.length : Int) / (c : Int) ∧ top ≤ bottom) ↔ (0 ≤ top ∧ bottom < (r : Int) ∧ top ≤ bottom) := by
  rw [hg.quo.1, hg.ok]
  simp
theorem upL_getC {l : List Cl} {r c : Nat} (hg : GOk l.length r c) (top bottom : Nat) (n : Int) (htb : top ≤ bottom) (hb : bottom < r) (y x : Nat) (hy : y < r) (hx : x < c) :
    getC (upL l c top bottom n) (y * c + x) = if top ≤ y ∧ y ≤ bottom then (if y + capN n ≤ bottom then getC l ((y + capN n) * c + x) else blankC) else getC l (y * c + x) := by
  have hlt := rc_lt hy hx
  rw [← hg.n] at hlt
  unfold upL
  rw [if_pos ((gOk_pos hg _ _).2 ⟨by omega, by omega, by omega⟩), fill_getC]
  simp only [Int.toNat_natCast]
  have e1 := row_ge (lo := top) (y := y) hx
  have e2 := row_ge (lo := bottom + 1) (y := y) hx
  by_cases h : top ≤ y ∧ y ≤ bottom
  · rw [if_pos h, if_pos ⟨hlt, e1.2 h.1, by have := mt e2.1 (by omega); omega⟩]
    unfold upF
    rw [(rc_div y c x hx).1]
    rw [show y * c + x + capN n * c = (y + capN n) * c + x by rw [Nat.add_mul]; omega]
  · rw [if_neg h, if_neg (fun e => h ⟨e1.1 e.2.1, by have := mt e2.2 (by omega); omega⟩)]
theorem downL_getC {l : List Cl} {r c : Nat} (hg : GOk l.length r c) (top bottom : Nat) (n : Int) (htb : top ≤ bottom) (hb : bottom < r) (y x : Nat) (hy : y < r) (hx : x < c) :
    getC (downL l c top bottom n) (y * c + x) = if top ≤ y ∧ y ≤ bottom then (if top + capN n ≤ y then getC l ((y - capN n) * c + x) else blankC) else getC l (y * c + x) := by
  have hlt := rc_lt hy hx
  rw [← hg.n] at hlt
  unfold downL
  rw [if_pos ((gOk_pos hg _ _).2 ⟨by omega, by omega, by omega⟩), fill_getC]
  simp only [Int.toNat_natCast]
  have e1 := row_ge (lo := top) (y := y) hx
  have e2 := row_ge (lo := bottom + 1) (y := y) hx
  by_cases h : top ≤ y ∧ y ≤ bottom
  · rw [if_pos h, if_pos ⟨hlt, e1.2 h.1, by have := mt e2.1 (by omega); omega⟩]
    unfold downF
    rw [(rc_div y c x hx).1]
    by_cases h3 : top + capN n ≤ y
    · rw [if_pos h3, if_pos h3]
      congr 1
      have : (y - capN n) * c + capN n * c = y * c := by rw [← Nat.add_mul, Nat.sub_add_cancel (by omega)]
      omega
    · rw [if_neg h3, if_neg h3]
  · rw [if_neg h, if_neg (fun e => h ⟨e1.1 e.2.1, by have := mt e2.2 (by omega); omega⟩)]
theorem upL_whole {l : List Cl} {r c : Nat} (hg : GOk l.length r c) (h : Whole l r c) (top bottom n : Int) : Whole (upL l c top bottom n) r c := by
  by_cases hc : 0 ≤ top ∧ bottom < (r : Int) ∧ top ≤ bottom
  · obtain ⟨t, rfl⟩ : ∃ t : Nat, top = t := ⟨top.toNat, by omega⟩
    obtain ⟨b, rfl⟩ : ∃ b : Nat, bottom = b := ⟨bottom.toNat, by omega⟩
    intro y hy
    have hq := upL_getC hg t b n (by omega) (by omega) y
    by_cases h1 : t ≤ y ∧ y ≤ b
    · by_cases h2 : y + capN n ≤ b
      · exact (h (y + capN n) (by omega)).same (fun x hx => by rw [hq x hy hx, if_pos h1, if_pos h2])
      · exact RowW.blank (fun x hx => by rw [hq x hy hx, if_pos h1, if_neg h2])
    · exact (h y hy).same (fun x hx => by rw [hq x hy hx, if_neg h1])
  · unfold upL
    rw [if_neg (fun e => hc ((gOk_pos hg _ _).1 e))]
    exact h
theorem downL_whole {l : List Cl} {r c : Nat} (hg : GOk l.length r c) (h : Whole l r c) (top bottom n : Int) : Whole (downL l c top bottom n) r c := by
  by_cases hc : 0 ≤ top ∧ bottom < (r : Int) ∧ top ≤ bottom
  · obtain ⟨t, rfl⟩ : ∃ t : Nat, top = t := ⟨top.toNat, by omega⟩
    obtain ⟨b, rfl⟩ : ∃ b : Nat, bottom = b := ⟨bottom.toNat, by omega⟩
    intro y hy
    have hq := downL_getC hg t b n (by omega) (by omega) y
    by_cases h1 : t ≤ y ∧ y ≤ b
    · by_cases h2 : t + capN n ≤ y
      · exact (h (y - capN n) (by omega)).same (fun x hx => by rw [hq x hy hx, if_pos h1, if_pos h2])
      · exact RowW.blank (fun x hx => by rw [hq x hy hx, if_pos h1, if_neg h2])
    · exact (h y hy).same (fun x hx => by rw [hq x hy hx, if_neg h1])
  · unfold downL
    rw [if_neg (fun e => hc ((gOk_pos hg _ _).1 e))]
    exact h
/-- What goes up and down again: what went off is blank, all else as it was. -/
theorem up_down {l : List Cl} {r c : Nat} (hg : GOk l.length r c) (top bottom : Nat) (n : Int) (htb : top ≤ bottom) (hb : bottom < r) (y x : Nat) (hy : y < r) (hx : x < c) :
    getC (downL (upL l c top bottom n) c top bottom n) (y * c + x) = if top ≤ y ∧ y ≤ bottom ∧ y < top + capN n then blankC else getC l (y * c + x) := by
  have hu : GOk (upL l c top bottom n).length r c := by rw [upL_len]; exact hg
  rw [downL_getC hu top bottom n htb hb y x hy hx]
  by_cases h1 : top ≤ y ∧ y ≤ bottom
  · rw [if_pos h1]
    by_cases h2 : top + capN n ≤ y
    · rw [if_pos h2, if_neg (by omega), upL_getC hg top bottom n htb hb (y - capN n) x (by omega) hx, if_pos (by omega), if_pos (by omega), Nat.sub_add_cancel (by omega)]
    · rw [if_neg h2, if_pos (by omega)]
  · rw [if_neg h1, if_neg (by omega), upL_getC hg top bottom n htb hb y x hy hx, if_neg h1]

theorem mendL_row {l : List Cl} {r c : Nat} (hg : GOk l.length r c) (y : Nat) (hy : y < r) (x : Nat) (hx : x < c) : getC (mendL l c y) (y * c + x) = if badH l c (y * c + x) x = true then blankC else getC l (y * c + x) := by
  have hlt := rc_lt hy hx
  rw [← hg.n] at hlt
  unfold mendL
  rw [if_pos (gPlace_mk hg (by omega) (by omega) (by omega) (by omega)), fill_getC]
  simp only [Int.toNat_natCast]
  rw [if_pos ⟨hlt, by omega, by omega⟩]
  unfold mendF
  rw [(rc_div y c x hx).2]
theorem mendL_else {l : List Cl} {c : Nat} (y y' x : Nat) (hne : y' ≠ y) (hx : x < c) : getC (mendL l c y) (y' * c + x) = getC l (y' * c + x) := by
  unfold mendL
  split
  · simp only [Int.toNat_natCast]
    exact fill_other hx hne (Nat.le_refl _) (Nat.le_refl _)
  · rfl
theorem mendL_rowW {l : List Cl} {r c : Nat} (hg : GOk l.length r c) (y : Nat) (hy : y < r) : RowW (mendL l c y) c y := by
  intro x hx
  have hm := mendL_row hg y hy
  refine badH_no.2 ⟨fun e => ?_, fun e => ?_⟩
  · rw [hm x hx] at e
    cases hb : badH l c (y * c + x) x with
    | true => rw [hb, if_pos rfl] at e; exact absurd e (by decide)
    | false =>
      rw [hb] at e
      obtain ⟨a, b⟩ := (badH_no.1 hb).1 e
      refine ⟨a, ?_⟩
      have hb2 : badH l c (y * c + (x + 1)) (x + 1) = false := by
        rw [Nat.add_assoc] at b
        refine badH_no.2 ⟨fun e2 => by omega, fun _ => ⟨by omega, ?_⟩⟩
        rw [show y * c + (x + 1) - 1 = y * c + x by omega]
        exact e
      rw [Nat.add_assoc] at b ⊢
      rw [hm (x + 1) (by omega), hb2]
      exact b
  · rw [hm x hx] at e
    cases hb : badH l c (y * c + x) x with
    | true => rw [hb, if_pos rfl] at e; exact absurd e (by decide)
    | false =>
      rw [hb] at e
      obtain ⟨a, b⟩ := (badH_no.1 hb).2 e
      refine ⟨a, ?_⟩
      rw [show y * c + x - 1 = y * c + (x - 1) by omega] at b ⊢
      have hb2 : badH l c (y * c + (x - 1)) (x - 1) = false := by
        refine badH_no.2 ⟨fun _ => ⟨by omega, ?_⟩, fun e2 => by omega⟩
        rw [show y * c + (x - 1) + 1 = y * c + x by omega]
        exact e
      rw [hm (x - 1) (by omega), hb2]
      exact b
/-- Where each other row is whole, all are behind Mend. -/
theorem mendL_whole {l : List Cl} {r c : Nat} (hg : GOk l.length r c) (y : Int) (h : ∀ y' : Nat, y' < r → (y' : Int) ≠ y → RowW l c y') : Whole (mendL l c y) r c := by
  intro y' hy'
  by_cases e : (y' : Int) = y
  · subst e; exact mendL_rowW hg y' hy'
  · by_cases h0 : 0 ≤ y
    · obtain ⟨z, rfl⟩ : ∃ z : Nat, y = z := ⟨y.toNat, by omega⟩
      exact (h y' hy' e).same (fun x hx => mendL_else z y' x (by omega) hx)
    · unfold mendL
      rw [if_neg (fun e2 => by obtain ⟨r1, c1, yy, xx, _, e3, _⟩ := gPlace_of e2; omega)]
      exact h y' hy' e
theorem mendL_same {l : List Cl} {r c : Nat} (hg : GOk l.length r c) (y : Nat) (hy : y < r) (h : RowW l c y) : mendL l c y = l := by
  refine getC_ext (mendL_len _ _ _) (fun i hi => ?_)
  have hi2 : i < r * c := by rw [← hg.n]; exact hi
  have hc := hg.c1
  have hm : i % c < c := Nat.mod_lt _ (by omega)
  have hd : i / c * c + i % c = i := by rw [Nat.mul_comm]; exact Nat.div_add_mod i c
  by_cases e : i / c = y
  · rw [← hd, e, mendL_row hg y hy _ hm, h _ hm]
    rfl
  · rw [← hd]
    exact mendL_else y (i / c) _ e hm
/-- Mend twice is Mend once. -/
theorem mendL_mend (l : List Cl) (cols y : Int) : mendL (mendL l cols y) cols y = mendL l cols y := by
  cases hb : gPlace l.length cols y 0 with
  | true =>
    obtain ⟨r, c, yy, xx, rfl, rfl, _, hG, hy, _⟩ := gPlace_of hb
    exact mendL_same (by rw [mendL_len]; exact hG) yy hy (mendL_rowW hG yy hy)
  | false =>
    have e : mendL l cols y = l := by unfold mendL; rw [hb]; rfl
    rw [e, e]
theorem insertL_whole {l : List Cl} {r c : Nat} (hg : GOk l.length r c) (h : Whole l r c) (y x n : Int) : Whole (insertL l c y x n) r c := by
  unfold insertL
  split
  · rename_i hp
    obtain ⟨r1, c1, yy, xx, e1, rfl, rfl, _, _, hx⟩ := gPlace_of hp
    have : c1 = c := by omega
    subst this
    refine mendL_whole (by rw [fillL_len]; exact hg) _ (fun y' hy' hne => (h y' hy').same (fun x hx => fill_other hx (y := yy) (by omega) ?_ ?_))
    · simp only [Int.toNat_natCast]; omega
    · simp only [Int.toNat_natCast]; omega
  · exact h
theorem deleteL_whole {l : List Cl} {r c : Nat} (hg : GOk l.length r c) (h : Whole l r c) (y x n : Int) : Whole (deleteL l c y x n) r c := by
  unfold deleteL
  split
  · rename_i hp
    obtain ⟨r1, c1, yy, xx, e1, rfl, rfl, _, _, hx⟩ := gPlace_of hp
    have : c1 = c := by omega
    subst this
    refine mendL_whole (by rw [fillL_len]; exact hg) _ (fun y' hy' hne => (h y' hy').same (fun x hx => fill_other hx (y := yy) (by omega) ?_ ?_))
    · simp only [Int.toNat_natCast]; omega
    · simp only [Int.toNat_natCast]; omega
  · exact h
theorem eraseL_whole {l : List Cl} {r c : Nat} (hg : GOk l.length r c) (h : Whole l r c) (y fr til : Int) : Whole (eraseL l c y fr til) r c := by
  unfold eraseL
  split
  · rename_i hp
    obtain ⟨r1, c1, yy, xx, e1, rfl, _, _, _, _⟩ := gPlace_of hp
    have : c1 = c := by omega
    subst this
    refine mendL_whole (by rw [fillL_len]; exact hg) _ (fun y' hy' hne => (h y' hy').same (fun x hx => fill_other hx (y := yy) (by omega) ?_ ?_))
    · simp only [Int.toNat_natCast]; omega
    · simp only [Int.toNat_natCast]; unfold capC; omega
  · exact h
theorem blankL_whole (rows cols : Int) (r c : Nat) : Whole (blankL rows cols) r c := by
  intro y hy
  refine RowW.blank (fun x hx => ?_)
  unfold blankL
  split
  · unfold getC List.getD
    rw [List.getElem?_replicate]
    split <;> rfl
  · rfl
theorem mendAll_same {l : List Cl} {r c : Nat} (hg : GOk l.length r c) (h : Whole l r c) (n : Nat) (hn : n ≤ r) : mendAll l c n = l := by
  induction n with
  | zero => rfl
  | succ n ih => rw [mendAll_succ, ih (by omega), mendL_same hg n (by omega) (h n (by omega))]
theorem map_getC (f : Nat → Cl) (n i : Nat) (h : i < n) : getC ((List.range n).map f) i = f i := by
  unfold getC List.getD
  rw [List.getElem?_map, List.getElem?_range h]
  rfl
/-- Another size, made greater: the rows stay whole, nothing is mended. -/
theorem cutF_getC {l : List Cl} {r c r2 c2 : Nat} (y x : Nat) (hy : y < r2) (hx : x < c2) : getC ((List.range (r2 * c2)).map (cutF l r c r2 c2)) (y * c2 + x) = if y < min r r2 ∧ x < min c c2 then getC l (y * c + x) else blankC := by
  rw [map_getC _ _ _ (rc_lt hy hx)]
  unfold cutF
  rw [(rc_div y c2 x hx).1, (rc_div y c2 x hx).2]
theorem sizeL_great {l : List Cl} {r c r2 c2 : Nat} (hg : GOk l.length r c) (h : Whole l r c) (hr : r ≤ r2) (hc : c ≤ c2) (r3 : r2 ≤ 1000) (c3 : c2 ≤ 1000) :
    sizeL l r c r2 c2 = (List.range (r2 * c2)).map (cutF l r c r2 c2) := by
  have c1 := hg.c1
  have r1 := hg.r1
  unfold sizeL
  rw [if_pos ⟨hg.ok, hg.quo.1, by unfold sizeOk; rw [decide_eq_true_eq]; omega⟩]
  simp only [Int.toNat_natCast]
  have hg2 : GOk ((List.range (r2 * c2)).map (cutF l r c r2 c2)).length r2 c2 := ⟨by omega, c3, by omega, r3, by simp⟩
  refine mendAll_same hg2 (fun y hy => ?_) r2 (Nat.le_refl _)
  have hq := fun x hx => cutF_getC (l := l) (r := r) (c := c) (r2 := r2) (c2 := c2) y x hy hx
  by_cases hyr : y < r
  · intro x hx
    refine badH_no.2 ⟨fun e => ?_, fun e => ?_⟩
    · rw [hq x hx] at e
      by_cases hxc : x < c
      · rw [if_pos (by omega)] at e
        obtain ⟨a, b⟩ := (badH_no.1 (h y hyr x hxc)).1 e
        refine ⟨by omega, ?_⟩
        rw [Nat.add_assoc, hq (x + 1) (by omega), if_pos (by omega), ← Nat.add_assoc]
        exact b
      · rw [if_neg (by omega)] at e; exact absurd e (by decide)
    · rw [hq x hx] at e
      by_cases hxc : x < c
      · rw [if_pos (by omega)] at e
        obtain ⟨a, b⟩ := (badH_no.1 (h y hyr x hxc)).2 e
        refine ⟨a, ?_⟩
        rw [show y * c2 + x - 1 = y * c2 + (x - 1) by omega, hq (x - 1) (by omega), if_pos (by omega), show y * c + (x - 1) = y * c + x - 1 by omega]
        exact b
      · rw [if_neg (by omega)] at e; exact absurd e (by decide)
  · exact RowW.blank (fun x hx => by rw [hq x hx, if_neg (by omega)])
/-- The same size: the same grid. -/
theorem sizeL_same {l : List Cl} {r c : Nat} (hg : GOk l.length r c) (h : Whole l r c) : sizeL l r c r c = l := by
  rw [sizeL_great hg h (Nat.le_refl _) (Nat.le_refl _) hg.r2 hg.c2]
  have hn := hg.n
  refine getC_ext (by simp; omega) (fun i hi => ?_)
  have hc := hg.c1
  have hm : i % c < c := Nat.mod_lt _ (by omega)
  have hd : i / c * c + i % c = i := by rw [Nat.mul_comm]; exact Nat.div_add_mod i c
  have hy : i / c < r := Nat.div_lt_of_lt_mul (by rw [Nat.mul_comm]; omega)
  rw [← hd, cutF_getC (i / c) (i % c) hy hm, if_pos (by omega)]
/-- Greater, and as it was again. -/
theorem sizeL_back {l : List Cl} {r c r2 c2 : Nat} (hg : GOk l.length r c) (h : Whole l r c) (hr : r ≤ r2) (hc : c ≤ c2) (r3 : r2 ≤ 1000) (c3 : c2 ≤ 1000) : sizeL (sizeL l r c r2 c2) r2 c2 r c = l := by
  have c1 := hg.c1
  have r1 := hg.r1
  have hn := hg.n
  rw [sizeL_great hg h hr hc r3 c3]
  have hg2 : GOk ((List.range (r2 * c2)).map (cutF l r c r2 c2)).length r2 c2 := ⟨by omega, c3, by omega, r3, by simp⟩
  unfold sizeL
  rw [if_pos ⟨hg2.ok, hg2.quo.1, by unfold sizeOk; rw [decide_eq_true_eq]; have := hg.r2; have := hg.c2; omega⟩]
  simp only [Int.toNat_natCast]
  have e : (List.range (r * c)).map (cutF ((List.range (r2 * c2)).map (cutF l r c r2 c2)) r2 c2 r c) = l := by
    refine getC_ext (by simp; omega) (fun i hi => ?_)
    have hm : i % c < c := Nat.mod_lt _ (by omega)
    have hd : i / c * c + i % c = i := by rw [Nat.mul_comm]; exact Nat.div_add_mod i c
    have hy : i / c < r := Nat.div_lt_of_lt_mul (by rw [Nat.mul_comm]; omega)
    rw [← hd, cutF_getC (i / c) (i % c) hy hm, if_pos (by omega), cutF_getC (i / c) (i % c) (by omega) (by omega), if_pos (by omega)]
  rw [e]
  exact mendAll_same hg h r (Nat.le_refl _)
theorem sizeL_len {l : List Cl} {r c r2 c2 : Nat} (hg : GOk l.length r c) (r1 : 1 ≤ r2) (r3 : r2 ≤ 1000) (c1 : 1 ≤ c2) (c3 : c2 ≤ 1000) : (sizeL l r c r2 c2).length = r2 * c2 := by
  unfold sizeL
  rw [if_pos ⟨hg.ok, hg.quo.1, by unfold sizeOk; rw [decide_eq_true_eq]; omega⟩, mendAll_len]
  simp
end Go.Proofs.Ytfimfipflfkolaa

namespace Go.Proofs.Ytfimfipflfkolaa
open Go.RowKit
set_option linter.unusedVariables false

theorem run_eqlNilC (w : World) (a : Addr) (n c : Nat) : (binOp .eql 22 (.slice (some a) n c) (.slice none 0 0)).run Try.prog w = .ok (.bool false) w := by
  have := run_equal_slice_nil w 22 42 (some a) n c Try.underlying22
  simp [binOp, this]
theorem run_eqlNilC' (w : World) : (binOp .eql 22 (.slice none 0 0) (.slice none 0 0)).run Try.prog w = .ok (.bool true) w := by
  have := run_equal_slice_nil w 22 42 none 0 0 Try.underlying22
  simp [binOp, this]
theorem ite_iff {α : Type} {p q : Prop} [Decidable p] [Decidable q] (h : p ↔ q) (x y : α) : (if p then x else y) = if q then x else y := by
  by_cases hp : p
  · rw [if_pos hp, if_pos (h.1 hp)]
  · rw [if_neg hp, if_neg (fun e => hp (h.2 e))]
/-- So many rows, and of the next one so many columns, are there. -/
def cpF (l : List Cl) (c c2 m Y X i : Nat) : Cl := if i % c2 < m ∧ (i / c2 < Y ∨ (i / c2 = Y ∧ i % c2 < X)) then getC l (i / c2 * c + i % c2) else blankC
def cpL (l : List Cl) (c n c2 m Y X : Nat) : List Cl := (List.range n).map (cpF l c c2 m Y X)
theorem cpL_len (l : List Cl) (c n c2 m Y X : Nat) : (cpL l c n c2 m Y X).length = n := by simp [cpL]
theorem getC_rep (n i : Nat) : getC (List.replicate n blankC) i = blankC := by
  unfold getC List.getD
  rw [List.getElem?_replicate]
  split <;> rfl
theorem getC_set (l : List Cl) (k i : Nat) (v : Cl) (hk : k < l.length) : getC (l.set k v) i = if i = k then v else getC l i := by
  unfold getC List.getD
  rw [List.getElem?_set]
  by_cases e : i = k
  · subst e; rw [if_pos rfl, if_pos rfl, if_pos hk]; rfl
  · rw [if_neg (fun h => e h.symm), if_neg e]
theorem cpL_zero (l : List Cl) (c n c2 m : Nat) : cpL l c n c2 m 0 0 = List.replicate n blankC := by
  refine getC_ext (by simp [cpL]) (fun i hi => ?_)
  rw [List.length_replicate] at hi
  rw [getC_rep, cpL, map_getC _ _ _ hi]
  unfold cpF
  generalize i / c2 = a
  generalize i % c2 = b
  exact if_neg (by omega)
theorem cpL_set (l : List Cl) (c n c2 m Y X : Nat) (hX : X < m) (hm : m ≤ c2) (h : Y * c2 + X < n) : (cpL l c n c2 m Y X).set (Y * c2 + X) (getC l (Y * c + X)) = cpL l c n c2 m Y (X + 1) := by
  refine getC_ext (by simp [cpL]) (fun i hi => ?_)
  rw [cpL_len] at hi
  rw [getC_set _ _ _ _ (by rw [cpL_len]; exact h), cpL, cpL, map_getC _ _ _ hi, map_getC _ _ _ hi]
  unfold cpF
  by_cases e : i = Y * c2 + X
  · subst e
    rw [if_pos rfl, (rc_div Y c2 X (by omega)).1, (rc_div Y c2 X (by omega)).2, if_pos ⟨hX, .inr ⟨rfl, by omega⟩⟩]
  · rw [if_neg e]
    have hd : i / c2 * c2 + i % c2 = i := by rw [Nat.mul_comm]; exact Nat.div_add_mod i c2
    have hne : ¬ (i / c2 = Y ∧ i % c2 = X) := fun ⟨a, b⟩ => e (by rw [← hd, a, b])
    generalize i / c2 = a at hne ⊢
    generalize i % c2 = b at hne ⊢
    exact ite_iff (by omega) _ _
theorem cpL_row (l : List Cl) (c n c2 m Y : Nat) : cpL l c n c2 m Y m = cpL l c n c2 m (Y + 1) 0 := by
  refine getC_ext (by simp [cpL]) (fun i hi => ?_)
  rw [cpL_len] at hi
  rw [cpL, cpL, map_getC _ _ _ hi, map_getC _ _ _ hi]
  unfold cpF
  generalize i / c2 = a
  generalize i % c2 = b
  exact ite_iff (by omega) _ _
theorem cpL_end (l : List Cl) (r c r2 c2 : Nat) : cpL l c (r2 * c2) c2 (min c c2) (min r r2) 0 = (List.range (r2 * c2)).map (cutF l r c r2 c2) := by
  refine getC_ext (by simp [cpL]) (fun i hi => ?_)
  rw [List.length_map, List.length_range] at hi
  rw [cpL, map_getC _ _ _ hi, map_getC _ _ _ hi]
  unfold cpF cutF
  generalize i / c2 = a
  generalize i % c2 = b
  exact ite_iff (by omega) _ _

def SzRow (l : List Cl) (c n c2 m a : Nat) (w : World) (base g cap : Nat) (i : Value) (wr : World) : Prop :=
  ∃ y : Nat, y ≤ a ∧ i = .int .i64 (y : Int) ∧ OC wr base (.slice (some ⟨g, 0, none⟩) n cap) (cpL l c n c2 m y 0) ∧ Below w.heap.size w wr
def SzCol (l : List Cl) (c n c2 m y : Nat) (w : World) (base g cap : Nat) (i : Value) (wr : World) : Prop :=
  ∃ x : Nat, x ≤ m ∧ i = .int .i64 (x : Int) ∧ OC wr base (.slice (some ⟨g, 0, none⟩) n cap) (cpL l c n c2 m y x) ∧ Below w.heap.size w wr
def SzMend (l : List Cl) (c2 r2 : Nat) (w : World) (base : Nat) (o i : Value) (wr : World) : Prop :=
  ∃ y : Nat, y ≤ r2 ∧ i = .int .i64 (y : Int) ∧ OC wr base o (mendAll l (c2 : Int) y) ∧ Below w.heap.size w wr
set_option maxHeartbeats 2000000 in
set_option maxRecDepth 100000 in
theorem Size_yes (v : Value) (l : List Cl) (r c r2 c2 a m : Nat) (w : World) (h : CS w w.heap.size v l) (hg : GOk l.length r c) (r3 : 1 ≤ r2) (r4 : r2 ≤ 1000) (c3 : 1 ≤ c2) (c4 : c2 ≤ 1000)
    (ha : (if r2 < r then (r2 : Int) else (r : Int)) = (a : Int)) (hm : (if c2 < c then (c2 : Int) else (c : Int)) = (m : Int)) :
    Calls Try.prog 23 #[v, .int .i64 (r : Int), .int .i64 (c : Int), .int .i64 (r2 : Int), .int .i64 (c2 : Int)] w (CellsPost (mendAll (cpL l c (r2 * c2) c2 m a 0) (c2 : Int) r2) w) := by
  obtain ⟨A, k, rfl, h1, h2⟩ := h.form
  have H := Lib.hid h
  have HG := Lib.hid hg
  have c1 := hg.c1
  have c5 := hg.c2
  have r5 := hg.r2
  have r1 := hg.r1
  have hn := hg.n
  have hrc := rc_le hg.r2 hg.c2
  have hrc2 := rc_le r4 c4
  have hlen : l.length ≤ 1000000 := by omega
  have hpos : 1 ≤ r2 * c2 := Nat.mul_pos r3 c3
  have ha12 : a ≤ r ∧ a ≤ r2 := by split at ha <;> omega
  have hm12 : m ≤ c ∧ m ≤ c2 := by split at hm <;> omega
  obtain ⟨ha1, ha2⟩ := ha12
  obtain ⟨hm1, hm2⟩ := hm12
  have HN := Lib.hid hn
  clear h hg hn
  obtain ⟨n2, hn2⟩ : ∃ n2 : Nat, n2 = r2 * c2 := ⟨_, rfl⟩
  rw [← hn2] at hrc2 hpos ⊢
  have HN2 := Lib.hid hn2
  have hbl := fun w : World => Blank_yes r2 c2 w r3 r4 c3 c4
  rw [← hn2] at hbl
  have HBL := Lib.hid hbl
  clear hn2 hbl
  go_enter Try.func23, Try.ntmps23
  go_upto_region 2 with ((with_reducible refine (HBL.out _).mono ?_); rintro e w1 ⟨v1, rfl, o1, b1⟩; have z1 := b1.size; have HC := Lib.hid ((H.out.below b1).more z1); have HO := Lib.hid o1; have HB := Lib.hid b1; clear o1 b1)
  obtain ⟨g, cap, rfl, hg1, hg2, hg3, hg4⟩ := HO.out.open_ (by rw [List.length_replicate]; exact hpos)
  rw [List.length_replicate] at hg3
  rw [List.length_replicate]
  have hnil := run_eqlNilC w1 ⟨g, 0, none⟩ n2 cap
  go_wp2_with ((with_reducible refine (grid_yes _ l r c _ HC.out HG.out).mono ?_); rintro e w' ⟨rfl, rfl⟩)
  clear hnil
  go_loopw [14] (fun i wr => SzRow l c n2 c2 m a w w.heap.size g cap i wr) (fun i _ => a - (intOf i).toNat)
  case atStart =>
    refine ⟨0, Nat.zero_le _, rfl, ?_, HB.out⟩
    rw [cpL_zero]
    have := HO.out
    rw [List.length_replicate] at this
    exact this
  case round =>
    generalize wr = w2 at *
    obtain ⟨y, hy, rfl, ho, hb⟩ := hrel
    have HO2 := Lib.hid ho
    have HB2 := Lib.hid hb
    clear ho hb
    by_cases hlt : y < a
    · have q1 : (y : Int) < (a : Int) := by omega
      go_wp2
      go_loopw [15] (fun i wr => SzCol l c n2 c2 m y w w.heap.size g cap i wr) (fun i _ => m - (intOf i).toNat)
      case atStart => exact ⟨0, Nat.zero_le _, rfl, HO2.out, HB2.out⟩
      case round =>
        generalize wr = w3 at *
        obtain ⟨x, hx, rfl, ho, hb⟩ := hrel
        have HO3 := Lib.hid ho
        have HB3 := Lib.hid hb
        have z3 := hb.size
        clear ho hb
        by_cases hxm : x < m
        · have q3 : (x : Int) < (m : Int) := by omega
          obtain ⟨p, hp⟩ : ∃ p : Nat, p = y * c := ⟨_, rfl⟩
          have hyc : (y : Int) * (c : Int) = (p : Int) := by rw [hp]; simp
          have hpx : p + x < l.length := by rw [hp, HN.out]; exact rc_lt (by omega) (by omega)
          obtain ⟨p2, hp2⟩ : ∃ p2 : Nat, p2 = y * c2 := ⟨_, rfl⟩
          have hyc2 : (y : Int) * (c2 : Int) = (p2 : Int) := by rw [hp2]; simp
          have hpx2 : p2 + x < n2 := by rw [hp2, HN2.out]; exact rc_lt (by omega) (by omega)
          have HP := Lib.hid hp
          have HP2 := Lib.hid hp2
          clear hp hp2
          obtain ⟨d, hd⟩ : ∃ d, l[p + x]? = some d := ⟨_, List.getElem?_eq_getElem hpx⟩
          have HD2 := Lib.hid hd
          clear hd
          obtain ⟨x0, y0, z0, s0, s1, s2, f0, f1, f2⟩ := HO3.out.spot (p2 + x) hpx2
          obtain ⟨ad, hA, hab2, t0, t1, t2⟩ := (H.out.below HB3.out).get (p + x) d HD2.out
          subst hA
          have tb : (ad.add ((p + x) * 3)).block < w3.heap.size := by rw [block_add]; omega
          have hg5 : g < w3.heap.size := HO3.out.block.2
          go_wp2
          go_roundw
          case rel =>
            refine ⟨x + 1, by omega, by go_num, ?_, below_put HB3.out hg1 _ _ _ _⟩
            have e : d = getC l (y * c + x) := by
              have := getC_of hpx
              rw [HD2.out] at this
              rw [← HP.out]
              exact Option.some.inj this
            have := HO3.out.put (p2 + x) hpx2 d
            rw [e, show p2 + x = y * c2 + x by rw [HP2.out], cpL_set _ _ _ _ _ _ _ hxm (by omega) (by rw [← HP2.out]; exact hpx2), ← e, show y * c2 + x = p2 + x by rw [HP2.out]] at this
            exact this
          case measure => simp [intOf]; omega
        · obtain rfl : m = x := by omega
          go_wp2
          go_roundw
          case rel =>
            refine ⟨y + 1, by omega, by go_num, ?_, HB3.out⟩
            rw [← cpL_row]
            exact HO3.out
          case measure => simp [intOf]; omega
    · obtain rfl : a = y := by omega
      go_wp2
      have HQ := Lib.hid HO2.out
      go_loopw [11, 16] (fun o i wr => SzMend (cpL l c n2 c2 m a 0) c2 r2 w w.heap.size o i wr) (fun _ i _ => r2 - (intOf i).toNat)
      case atStart => exact ⟨0, Nat.zero_le _, rfl, HO2.out, HB2.out⟩
      case round =>
        generalize wr = w3 at *
        obtain ⟨z, hz, rfl, ho, hb⟩ := hrel
        have HO3 := Lib.hid ho
        have HB3 := Lib.hid hb
        have hsz := hb.size
        have HM := Lib.hid ho.cs
        clear ho hb
        by_cases hzr : z < r2
        · go_wp2_with ((with_reducible refine (Mend_any _ (mendAll (cpL l c n2 c2 m a 0) c2 z) c2 z _ HM.out (by rw [mendAll_len, cpL_len]; omega)).mono ?_); rintro e w4 ⟨v4, rfl, o4, b4⟩)
          go_roundw
          case rel =>
            refine ⟨z + 1, by omega, by go_num, ?_, HB3.out.trans (b4.mono hsz)⟩
            rw [mendAll_succ]
            exact o4.lower hsz
          case measure => simp [intOf]; omega
        · obtain rfl : r2 = z := by omega
          go_wp2
          go_ret
          exact ⟨_, rfl, HO3.out, HB3.out⟩
theorem Size_no (v : Value) (l : List Cl) (rows cols rows2 cols2 : Int) (w : World) (h : CS w w.heap.size v l) (hl : l.length ≤ 1099511627776) (hb : ¬ (gOk l.length cols = true ∧ (l.length : Int) / cols = rows ∧ sizeOk rows2 cols2 = true)) :
    Calls Try.prog 23 #[v, .int .i64 rows, .int .i64 cols, .int .i64 rows2, .int .i64 cols2] w (CellsPost l w) := by
  obtain ⟨A, k, rfl, h1, h2⟩ := h.form
  have H := Lib.hid h
  clear h
  cases hs : sizeOk rows2 cols2 with
  | false =>
    have HS := Lib.hid hs
    cases ho : gOk l.length cols with
    | false =>
      have HO := Lib.hid ho
      clear ho hb hs
      have hnil := run_eqlNilC' w
      go_enter Try.func23, Try.ntmps23
      go_wp2_with (first | ((with_reducible refine (Blank_no _ _ _ HS.out).mono ?_); rintro e w' ⟨rfl, rfl⟩) | ((with_reducible refine (grid_no _ l cols _ H.out hl HO.out).mono ?_); rintro e w' ⟨rfl, rfl⟩) | ((with_reducible refine (own_any _ l _ H.out hl).mono ?_); rintro e w1 ⟨v1, rfl, o1, b1⟩; have H1 := Lib.hid o1; have HB := Lib.hid b1; clear o1 b1))
      go_ret
      exact ⟨v1, rfl, H1.out, HB.out⟩
    | true =>
      obtain ⟨r, c, rfl, hG⟩ := gOk_of ho
      have HG := Lib.hid hG
      clear ho hb hs hG
      have hnil := run_eqlNilC' w
      have hd : ((r : Int) = rows) ∨ ¬ ((r : Int) = rows) := by omega
      rcases hd with hd | hd
      · subst hd
        go_enter Try.func23, Try.ntmps23
        go_wp2_with (first | ((with_reducible refine (Blank_no _ _ _ HS.out).mono ?_); rintro e w' ⟨rfl, rfl⟩) | ((with_reducible refine (grid_yes _ l r c _ H.out HG.out).mono ?_); rintro e w' ⟨rfl, rfl⟩) | ((with_reducible refine (own_any _ l _ H.out hl).mono ?_); rintro e w1 ⟨v1, rfl, o1, b1⟩; have H1 := Lib.hid o1; have HB := Lib.hid b1; clear o1 b1))
        go_ret
        exact ⟨v1, rfl, H1.out, HB.out⟩
      · go_enter Try.func23, Try.ntmps23
        go_wp2_with (first | ((with_reducible refine (Blank_no _ _ _ HS.out).mono ?_); rintro e w' ⟨rfl, rfl⟩) | ((with_reducible refine (grid_yes _ l r c _ H.out HG.out).mono ?_); rintro e w' ⟨rfl, rfl⟩) | ((with_reducible refine (own_any _ l _ H.out hl).mono ?_); rintro e w1 ⟨v1, rfl, o1, b1⟩; have H1 := Lib.hid o1; have HB := Lib.hid b1; clear o1 b1))
        go_ret
        exact ⟨v1, rfl, H1.out, HB.out⟩
  | true =>
    have hsz := hs
    unfold sizeOk at hsz
    rw [decide_eq_true_eq] at hsz
    obtain ⟨r2, rfl⟩ : ∃ r2 : Nat, rows2 = r2 := ⟨rows2.toNat, by omega⟩
    obtain ⟨c2, rfl⟩ : ∃ c2 : Nat, cols2 = c2 := ⟨cols2.toNat, by omega⟩
    have r3 : 1 ≤ r2 := by omega
    have r4 : r2 ≤ 1000 := by omega
    have c3 : 1 ≤ c2 := by omega
    have c4 : c2 ≤ 1000 := by omega
    have hrc2 := rc_le r4 c4
    have hpos : 1 ≤ r2 * c2 := Nat.mul_pos r3 c3
    have hbl := fun w : World => Blank_yes r2 c2 w r3 r4 c3 c4
    obtain ⟨n2, hn2⟩ : ∃ n2 : Nat, n2 = r2 * c2 := ⟨_, rfl⟩
    rw [← hn2] at hrc2 hpos hbl
    have HBL := Lib.hid hbl
    clear hn2 hbl hsz
    cases ho : gOk l.length cols with
    | false =>
      have HO := Lib.hid ho
      clear ho hb hs
      go_enter Try.func23, Try.ntmps23
      go_upto_region 2 with ((with_reducible refine (HBL.out _).mono ?_); rintro e w1 ⟨v1, rfl, o1, b1⟩; have z1 := b1.size; have HC := Lib.hid ((H.out.below b1).more z1); have HOO := Lib.hid o1; have HB := Lib.hid b1; clear o1 b1)
      obtain ⟨g, cap, rfl, hg1, hg2, hg3, hg4⟩ := HOO.out.open_ (by rw [List.length_replicate]; exact hpos)
      rw [List.length_replicate] at hg3
      rw [List.length_replicate]
      have hnil := run_eqlNilC w1 ⟨g, 0, none⟩ n2 cap
      go_wp2_with (first | ((with_reducible refine (grid_no _ l cols _ HC.out hl HO.out).mono ?_); rintro e w' ⟨rfl, rfl⟩) | ((with_reducible refine (own_any _ l _ HC.out hl).mono ?_); rintro e w3 ⟨v3, rfl, o3, b3⟩; have H3 := Lib.hid o3; have HB3 := Lib.hid b3; clear o3 b3))
      go_ret
      exact CellsPost.up ⟨v3, rfl, H3.out, HB3.out⟩ HB.out
    | true =>
      obtain ⟨r, c, rfl, hG⟩ := gOk_of ho
      have hq := hG.quo.1
      have hd : ¬ ((r : Int) = rows) := fun e => hb ⟨ho, by rw [hq]; exact e, hs⟩
      have HG := Lib.hid hG
      clear ho hb hs hG hq
      go_enter Try.func23, Try.ntmps23
      go_upto_region 2 with ((with_reducible refine (HBL.out _).mono ?_); rintro e w1 ⟨v1, rfl, o1, b1⟩; have z1 := b1.size; have HC := Lib.hid ((H.out.below b1).more z1); have HOO := Lib.hid o1; have HB := Lib.hid b1; clear o1 b1)
      obtain ⟨g, cap, rfl, hg1, hg2, hg3, hg4⟩ := HOO.out.open_ (by rw [List.length_replicate]; exact hpos)
      rw [List.length_replicate] at hg3
      rw [List.length_replicate]
      have hnil := run_eqlNilC w1 ⟨g, 0, none⟩ n2 cap
      go_wp2_with (first | ((with_reducible refine (grid_yes _ l r c _ HC.out HG.out).mono ?_); rintro e w' ⟨rfl, rfl⟩) | ((with_reducible refine (own_any _ l _ HC.out hl).mono ?_); rintro e w3 ⟨v3, rfl, o3, b3⟩; have H3 := Lib.hid o3; have HB3 := Lib.hid b3; clear o3 b3))
      go_ret
      exact CellsPost.up ⟨v3, rfl, H3.out, HB3.out⟩ HB.out
theorem Size_any (v : Value) (l : List Cl) (rows cols rows2 cols2 : Int) (w : World) (h : CS w w.heap.size v l) (hl : l.length ≤ 1099511627776) :
    Calls Try.prog 23 #[v, .int .i64 rows, .int .i64 cols, .int .i64 rows2, .int .i64 cols2] w (CellsPost (sizeL l rows cols rows2 cols2) w) := by
  by_cases hb : gOk l.length cols = true ∧ (l.length : Int) / cols = rows ∧ sizeOk rows2 cols2 = true
  · unfold sizeL
    rw [if_pos hb]
    obtain ⟨h1, h2, h3⟩ := hb
    obtain ⟨r, c, rfl, hG⟩ := gOk_of h1
    rw [hG.quo.1] at h2
    subst h2
    unfold sizeOk at h3
    rw [decide_eq_true_eq] at h3
    obtain ⟨r2, rfl⟩ : ∃ r2 : Nat, rows2 = r2 := ⟨rows2.toNat, by omega⟩
    obtain ⟨c2, rfl⟩ : ∃ c2 : Nat, cols2 = c2 := ⟨cols2.toNat, by omega⟩
    simp only [Int.toNat_natCast]
    rw [← cpL_end]
    exact Size_yes v l r c r2 c2 (min r r2) (min c c2) w h hG (by omega) (by omega) (by omega) (by omega) (by split <;> omega) (by split <;> omega)
  · unfold sizeL
    rw [if_neg hb]
    exact Size_no v l rows cols rows2 cols2 w h hl hb
end Go.Proofs.Ytfimfipflfkolaa

namespace Go.Proofs.Ytfimfipflfkolaa
open Go.RowKit

/-- A byte as a value. -/
def vR (b : Int) : Value := .int .i32 b
def vRs (l : List Int) : List Value := l.map vR

/-- A row of bytes of the call's own, from block 'base' on. -/
def OR (w : World) (base : Nat) (v : Value) (l : List Int) : Prop := w.ownsRow base 21 1 v l.length (vRs l)

/-- A slice that reads as the bytes l; it lies below block B. -/
def RS (w : World) (B : Nat) (v : Value) (l : List Int) : Prop :=
  ∃ A c, v = .slice A l.length c ∧ l.length ≤ c ∧ c ≤ maxLen ∧
    (0 < l.length → ∃ ad, A = some ad ∧ ad.block < B ∧ ∀ j b, l[j]? = some b → w.cell? (ad.add j) = some (vR b))

theorem vRs_one (l : List Int) : ∀ u ∈ vRs l, u.oneCell' = true := by
  intro u hu
  unfold vRs at hu
  rw [List.mem_map] at hu
  obtain ⟨b, _, rfl⟩ := hu
  rfl

section
variable {w w' : World} {B B' base : Nat} {v : Value} {l : List Int}
theorem RS.keep (h : RS w B v l) (hk : ∀ p : Addr, p.block < B → w'.cell? p = w.cell? p) : RS w' B v l := by
  obtain ⟨A, c, hv, h1, h2, h3⟩ := h
  refine ⟨A, c, hv, h1, h2, fun hl => ?_⟩
  obtain ⟨ad, hA, hb, hc⟩ := h3 hl
  exact ⟨ad, hA, hb, fun j b hj => (hk _ (by rw [block_add]; exact hb)).trans (hc j b hj)⟩
theorem RS.below (h : RS w B v l) (hb : Below B w w') : RS w' B v l := h.keep fun _ hp => hb.cell hp
theorem RS.more (h : RS w B v l) (hB : B ≤ B') : RS w B' v l := by
  obtain ⟨A, c, hv, h1, h2, h3⟩ := h
  refine ⟨A, c, hv, h1, h2, fun hl => ?_⟩
  obtain ⟨ad, hA, hb, hc⟩ := h3 hl
  exact ⟨ad, hA, by omega, hc⟩
theorem RS.alloc (h : RS w B v l) (hB : B ≤ w.heap.size) (o : Obj) : RS (w.alloc o) B v l := h.keep fun p hp => World.cell?_alloc_lt w o p (by omega)
theorem RS.nil (w : World) (B : Nat) : RS w B (.slice none 0 0) [] := ⟨none, 0, rfl, by simp, by simp [maxLen], fun h => absurd h (by simp)⟩
theorem RS.at_ (h : RS w B v l) : ∃ A c, v = .slice A l.length c ∧ l.length ≤ c ∧ c ≤ maxLen ∧
    ∀ k (hk : k < l.length), ∃ ad, A = some ad ∧ w.cell? (ad.add k) = some (vR (l[k]'hk)) := by
  obtain ⟨A, c, hv, h1, h2, h3⟩ := h
  refine ⟨A, c, hv, h1, h2, fun k hk => ?_⟩
  obtain ⟨ad, hA, _, hc⟩ := h3 (by omega)
  exact ⟨ad, hA, hc k _ (List.getElem?_eq_getElem hk)⟩

theorem OR.nil (w : World) (base : Nat) : OR w base (.slice none 0 0) [] := World.ownsRow_nil w base _ _
theorem OR.below (h : OR w base v l) (hb : Below w.heap.size w w') : OR w' base v l := by
  have hg : w.grownBy w' none := ⟨hb.os, hb.tape, hb.output, hb.size, fun i hi _ => hb.block i hi⟩
  unfold OR at h ⊢
  refine h.kept hg ?_
  cases hv : v.ownBlock with
  | none => exact Or.inl rfl
  | some k => exact Or.inr (by simp)
theorem OR.bs (h : OR w base v l) : RS w w.heap.size v l := by
  unfold OR at h
  rcases h.2 with ⟨rfl, hn⟩ | ⟨g, cap, cur, rfl, hbg, hg, hnc, hcm, hcs, htake⟩
  · have : l = [] := List.eq_nil_of_length_eq_zero hn
    subst this
    exact RS.nil w _
  · have hlt : g < w.heap.size := by
      rcases Nat.lt_or_ge g w.heap.size with hh | hh
      · exact hh
      · rw [Array.getElem?_eq_none hh] at hg; cases hg
    refine ⟨_, cap, rfl, hnc, hcm, fun _ => ⟨_, rfl, hlt, fun j b hj => ?_⟩⟩
    refine h.cells (g := g) rfl j (vR b) ?_
    unfold vRs
    rw [List.getElem?_map, hj]; rfl
end

/-- A part of a slice. -/
theorem RS.cut {w : World} {B : Nat} {A : Option Addr} {n c : Nat} {l : List Int} (h : RS w B (.slice A n c) l) (k m j : Nat) (hk : k + m ≤ l.length) (hj : j = m) :
    RS w B (.slice (if c = k then A else Option.map (fun x => x.add k) A) j (c - k)) ((l.drop k).take m) := by
  subst hj
  obtain ⟨A', c', hv, h1, h2, h3⟩ := h
  simp only [Value.slice.injEq] at hv
  obtain ⟨rfl, rfl, rfl⟩ := hv
  have hlen : ((l.drop k).take j).length = j := by simp; omega
  refine ⟨_, c - k, by rw [hlen], by rw [hlen]; omega, by omega, fun hl => ?_⟩
  rw [hlen] at hl
  obtain ⟨ad, rfl, hb, hc⟩ := h3 (by omega)
  rw [if_neg (by omega)]
  refine ⟨ad.add k, rfl, by rw [block_add]; exact hb, fun i b hi => ?_⟩
  rw [add_add]
  refine hc _ b ?_
  rw [List.getElem?_take] at hi
  split at hi
  · rw [List.getElem?_drop] at hi; exact hi
  · cases hi
theorem RS.cutH {w : World} {B : Nat} {A : Option Addr} {n c : Nat} {l : List Int} (h : RS w B (.slice A n c) l) (m j : Nat) (hk : m ≤ l.length) (hj : j = m) :
    RS w B (.slice A j c) (l.take m) := by
  obtain ⟨A', c', hv, h1, h2, h3⟩ := h
  simp only [Value.slice.injEq] at hv
  obtain ⟨rfl, rfl, rfl⟩ := hv
  subst hj
  have hlen : (l.take j).length = j := by simp; omega
  refine ⟨A, c, by rw [hlen], by omega, h2, fun hl => ?_⟩
  rw [hlen] at hl
  obtain ⟨ad, rfl, hb, hc⟩ := h3 (by omega)
  refine ⟨ad, rfl, hb, fun i b hi => ?_⟩
  refine hc _ b ?_
  rw [List.getElem?_take] at hi
  split at hi
  · exact hi
  · cases hi

/-- A slice of one byte that has just been laid. -/
theorem RS.one (w : World) (b : Int) (t : TypeId) : RS (w.alloc (.cells #[vR b] t)) (w.heap.size + 1) (.slice (some ⟨w.heap.size, 0, none⟩) 1 1) [b] := by
  refine ⟨_, 1, rfl, by simp, by simp [maxLen], fun _ => ⟨_, rfl, by simp, fun j c hj => ?_⟩⟩
  match j, hj with
  | 0, hj =>
    simp at hj
    subst hj
    simp [Addr.add]

theorem OR.alloc {w : World} {base : Nat} {v : Value} {l : List Int} (h : OR w base v l) (o : Obj) : OR (w.alloc o) base v l := World.ownsRow.alloc h o

/-- A slice that has just been laid, its bytes written out. -/
theorem RS.lit (w : World) (l : List Int) (n : Nat) (cs : Array Value) (t : TypeId) (hn : n = l.length) (hcs : cs = (vRs l).toArray) (hm : l.length ≤ 1048576) :
    RS (w.alloc (.cells cs t)) (w.heap.size + 1) (.slice (some ⟨w.heap.size, 0, none⟩) n n) l := by
  subst hn
  subst hcs
  refine ⟨_, _, rfl, by simp, by simp [maxLen]; omega, fun _ => ⟨_, rfl, by simp, fun j b hj => ?_⟩⟩
  have h := World.news_of_block (heap_alloc_new w (.cells (vRs l).toArray t)) j (vR b)
  exact h (by simp [vRs, hj])

/-- The same of a constant string's bytes: the row bears a mark. -/
theorem RS.litM (w : World) (l : List Int) (n : Nat) (cs : Array Value) (t : TypeId) (fr : Nat × Nat) (hn : n = l.length) (hcs : cs = (vRs l).toArray) (hm : l.length ≤ 1048576) :
    RS (w.alloc (.cells cs t fr)) (w.heap.size + 1) (.slice (some ⟨w.heap.size, 0, none⟩) n n) l := by
  subst hn
  subst hcs
  refine ⟨_, _, rfl, by simp, by simp [maxLen]; omega, fun _ => ⟨_, rfl, by simp, fun j b hj => ?_⟩⟩
  have h := World.news_of_block (heap_alloc_new w (.cells (vRs l).toArray t fr)) j (vR b)
  exact h (by simp [vRs, hj])

/-- A row of runes that came in. -/
theorem rs_row {W : World} {a : Addr} {len cap : Nat} {zs : List Int} (hl : len ≤ cap) (hm : cap ≤ maxLen) (hz : zs.length = cap)
    (hcell : ∀ i, i < zs.length → W.cell? (a.add i) = some (.int .i32 (zs.getD i 0))) (hwz : ∀ n ∈ zs, (Lit.int .i32 n).wf = true) : ∃ l, RS W W.heap.size (.slice (some a) len cap) l ∧ ∀ n ∈ l, (Lit.int .i32 n).wf = true := by
  have hlen : (zs.take len).length = len := by simp; omega
  refine ⟨zs.take len, ⟨_, cap, by rw [hlen], by rw [hlen]; exact hl, hm, fun h0 => ⟨a, rfl, ?_, fun j b hj => ?_⟩⟩, fun n hn => hwz n (List.mem_of_mem_take hn)⟩
  · rw [hlen] at h0
    have h := hcell 0 (by omega)
    rw [show a.add 0 = a from by simp [Addr.add]] at h
    rcases Nat.lt_or_ge a.block W.heap.size with hh | hh
    · exact hh
    · simp [World.cell?, Array.getElem?_eq_none hh] at h
  · have hj1 : j < len := by
      rcases Nat.lt_or_ge j len with hh | hh
      · exact hh
      · rw [List.getElem?_eq_none (by rw [hlen]; exact hh)] at hj; cases hj
    have hj2 : j < zs.length := by omega
    rw [hcell j hj2]
    rw [List.getElem?_take, if_pos hj1, List.getElem?_eq_getElem hj2] at hj
    injection hj with hj
    subst hj
    simp [vR, List.getD, List.getElem?_eq_getElem hj2]

theorem runeInfo : (Try.prog.info? 21).map (fun i => (i.zero, i.size, i.bytes)) = some (some (.int .i32 0), 1, 4) := by kernel_rfl

/-- append onto a row of the call's own, of whatever bytes. -/
theorem run_appR (w : World) (ty : TypeId) {base B : Nat} {v u : Value} {l m : List Int} (hown : OR w base v l) (hr : RS w B u m) (hlen : l.length + m.length ≤ 1099511627776) (hbase : base ≤ w.heap.size) :
    ∃ v' w', (Builtin.append_ #[67, 67] ty #[v, u]).run Try.prog w = .ok v' w' ∧ OR w' base v' (l ++ m) ∧ w.grownBy w' v.ownBlock ∧ Below base w w' ∧ (v'.ownBlock = v.ownBlock ∨ v'.ownBlock = some w.heap.size) := by
  obtain ⟨i0, hi0, hz0, hz1, hz2⟩ := info_parts runeInfo
  have hlt := World.ownsRow.lt hown
  have hfin : ∀ v' w', w'.ownsRow base 21 1 v' (l.length + m.length) (vRs l ++ vRs m) → OR w' base v' (l ++ m) := by
    intro v' w' h
    unfold OR vRs
    rw [List.length_append, List.map_append]
    exact h
  obtain ⟨A, c, rfl, h1, h2, h3⟩ := hr
  rcases Nat.eq_zero_or_pos m.length with h0 | h0
  · have hm : m = [] := List.eq_nil_of_length_eq_zero h0
    subst hm
    refine ⟨v, w, ?_, by simpa using hown, World.grownBy.refl w _, Below.refl _ _, .inl rfl⟩
    rcases hown.2 with ⟨rfl, hn⟩ | ⟨g, cap, cur, rfl, _, _, hnc, _⟩
    · cases A <;> simp [Builtin.append_, run_underlying Try.underlying67, sizeOf, typeInfo, hi0, Builtin.lenOf, Builtin.firstCells, loadCells, loadCellsFrom]
    · cases A <;> simp [Builtin.append_, run_underlying Try.underlying67, sizeOf, typeInfo, hi0, Builtin.lenOf, Builtin.firstCells, hnc, storeCells, loadCells, loadCellsFrom]
  · obtain ⟨ad, rfl, hb, hc⟩ := h3 h0
    obtain ⟨v', w', hrun, h4, h5, _, h6⟩ := run_append_own_at (P := Try.prog) w base 67 ty 21 i0 _ 1 4 Try.underlying67 hi0 hz0 hz1 hz2 rfl (by omega) v l.length (vRs l) hown ad m.length c (vRs m) (by simp [vRs])
      (fun j u hj => by
        unfold vRs at hj
        rw [List.getElem?_map] at hj
        cases hmj : m[j]? with
        | none => rw [hmj] at hj; cases hj
        | some b =>
          rw [hmj] at hj
          simp only [Option.map_some, Option.some.injEq] at hj
          subst hj
          exact hc j b hmj)
      (vRs_one m) (by simp only [maxLen]; omega) (by omega) hbase
    exact ⟨v', w', hrun, hfin v' w' h4, h5, (Below.refl _ _).grown h5 hbase (fun k hk => (hlt k hk).1), h6⟩

/-- The same at the operation, for the walk. -/
theorem wpl_appR (w : World) {ops : Array Oper} {rest : List Oper} {o : Oper} {a : Act} {Q : Exit → Act → World → Prop} (hgd : o.guard = none) (s x : Operand)
    (ho : o.op = .call { callee := .builtin .append, args := #[s, x], argTypes := #[67, 67] })
    (base B : Nat) (v u : Value) (l m : List Int) (hs : a.eval s = v) (hx : a.eval x = u) (hown : OR w base v l) (hr : RS w B u m) (hlen : l.length + m.length ≤ 1099511627776) (hbase : base ≤ w.heap.size)
    (h : ∀ v' w', OR w' base v' (l ++ m) → w.grownBy w' v.ownBlock → Below base w w' → (v'.ownBlock = v.ownBlock ∨ v'.ownBlock = some w.heap.size) → wpList Try.prog ops Q rest (a.put o.dst v') w') :
    wpList Try.prog ops Q (o :: rest) a w := by
  refine wpList_plain hgd fun K hK => ?_
  obtain ⟨v', w', hrun, h2, h3, h4, h5⟩ := run_appR w o.type hown hr hlen hbase
  unfold Oper.wp execOp
  simp only [ho, resolve, invoke, builtin, Sem.run_bind, Sem.run_pure, Result.andThen_ok, List.map_toArray, List.map_cons, List.map_nil, hs, hx, hrun]
  exact hK _ _ (h v' w' h2 h3 h4 h5)

end Go.Proofs.Ytfimfipflfkolaa

namespace Go.Proofs.Ytfimfipflfkolaa

/-- May a rune be? -/
def mayR (r : Int) : Bool := decide (0 ≤ r) && decide (r ≤ 1114111) && (decide (r < 55296) || decide (57343 < r))
/-- A byte that goes on. -/
def contB (b : UInt8) : Bool := decide (128 ≤ b.toNat) && decide (b.toNat < 192)
def loB (a : Nat) : Nat := if a = 224 then 160 else if a = 240 then 144 else 128
def hiB (a : Nat) : Nat := if a = 237 then 159 else if a = 244 then 143 else 191
theorem hiB_le (a : Nat) : hiB a ≤ 191 := by
  unfold hiB
  split
  · omega
  · split <;> omega
/-- Does b go on a rune that a begins, as its second byte? -/
def secB (a b : UInt8) : Bool := decide (loB a.toNat ≤ b.toNat) && decide (b.toNat ≤ hiB a.toNat)
theorem secB_iff (a b : UInt8) : secB a b = true ↔ loB a.toNat ≤ b.toNat ∧ b.toNat ≤ hiB a.toNat := by simp [secB]
def beginsL : List UInt8 → Bool
  | [a] => decide (194 ≤ a.toNat) && decide (a.toNat ≤ 244)
  | [a, b] => decide (224 ≤ a.toNat) && decide (a.toNat ≤ 244) && secB a b
  | [a, b, c] => decide (240 ≤ a.toNat) && decide (a.toNat ≤ 244) && secB a b && contB c
  | _ => false
/-- The rune that bytes are just a valid form of. -/
def wholeL : List UInt8 → Option Nat
  | [a] => if a.toNat < 128 then some a.toNat else none
  | [a, b] => if (decide (194 ≤ a.toNat) && decide (a.toNat < 224) && contB b) = true then some ((a.toNat - 192) * 64 + (b.toNat - 128)) else none
  | [a, b, c] => if (decide (224 ≤ a.toNat) && decide (a.toNat < 240) && secB a b && contB c) = true then some ((a.toNat - 224) * 4096 + (b.toNat - 128) * 64 + (c.toNat - 128)) else none
  | [a, b, c, d] => if (decide (240 ≤ a.toNat) && decide (a.toNat ≤ 244) && secB a b && contB c && contB d) = true then some ((a.toNat - 240) * 262144 + (b.toNat - 128) * 4096 + (c.toNat - 128) * 64 + (d.toNat - 128)) else none
  | _ => none
/-- A byte with nothing pending. -/
def firstL (b : UInt8) (out : List Nat) : List UInt8 × List Nat :=
  if b.toNat < 128 then ([], out ++ [b.toNat]) else if beginsL [b] then ([b], out) else ([], out ++ [65533])
def stepL (p : List UInt8) (b : UInt8) : List UInt8 × List Nat :=
  if beginsL p = true then
    match wholeL (p ++ [b]) with
    | some r => ([], [r])
    | none => if beginsL (p ++ [b]) then (p ++ [b], []) else firstL b [65533]
  else firstL b []
def allF (s : List UInt8 × List Nat) (l : List UInt8) : List UInt8 × List Nat := l.foldl (fun s b => ((stepL s.1 b).1, s.2 ++ (stepL s.1 b).2)) s
def allL (l : List UInt8) : List UInt8 × List Nat := allF ([], []) l
/-- A rune's form, of one that may be. -/
def formN (r : Nat) : List UInt8 :=
  if r < 128 then [UInt8.ofNat r]
  else if r < 2048 then [UInt8.ofNat (192 + r / 64), UInt8.ofNat (128 + r % 64)]
  else if r < 65536 then [UInt8.ofNat (224 + r / 4096), UInt8.ofNat (128 + r / 64 % 64), UInt8.ofNat (128 + r % 64)]
  else [UInt8.ofNat (240 + r / 262144), UInt8.ofNat (128 + r / 4096 % 64), UInt8.ofNat (128 + r / 64 % 64), UInt8.ofNat (128 + r % 64)]
/-- What a rune is put as. -/
def asR (r : Int) : Nat := if mayR r then r.toNat else 65533
def formL (r : Int) : List UInt8 := formN (asR r)

theorem allF_nil (s : List UInt8 × List Nat) : allF s [] = s := rfl
theorem allF_cons (s : List UInt8 × List Nat) (b : UInt8) (l : List UInt8) : allF s (b :: l) = allF ((stepL s.1 b).1, s.2 ++ (stepL s.1 b).2) l := rfl
theorem allF_step {p q : List UInt8} {t : List Nat} {b : UInt8} (h : stepL p b = (q, t)) (o : List Nat) (l : List UInt8) : allF (p, o) (b :: l) = allF (q, o ++ t) l := by rw [allF_cons]; simp only [h]
theorem allF_append (s : List UInt8 × List Nat) (a b : List UInt8) : allF s (a ++ b) = allF (allF s a) b := List.foldl_append
theorem allF_snoc (s : List UInt8 × List Nat) (l : List UInt8) (b : UInt8) : allF s (l ++ [b]) = ((stepL (allF s l).1 b).1, (allF s l).2 ++ (stepL (allF s l).1 b).2) := by rw [allF_append]; rfl
theorem allF_out (p : List UInt8) (o : List Nat) (l : List UInt8) : allF (p, o) l = ((allF (p, []) l).1, o ++ (allF (p, []) l).2) := by
  induction l generalizing p o with
  | nil => simp [allF_nil]
  | cons b l ih =>
    rw [allF_cons, allF_cons, ih, ih (stepL p b).1 ([] ++ (stepL p b).2)]
    simp

theorem beginsL_len (p : List UInt8) (h : beginsL p = true) : 1 ≤ p.length ∧ p.length ≤ 3 := by
  match p, h with
  | [a], _ => simp
  | [a, b], _ => simp
  | [a, b, c], _ => simp
theorem firstL_pend (b : UInt8) (o : List Nat) : (firstL b o).1 = [] ∨ beginsL (firstL b o).1 = true := by
  unfold firstL
  split
  · exact .inl rfl
  · split
    · exact .inr (by assumption)
    · exact .inl rfl
/-- What is pending is nothing, or it begins. -/
theorem stepL_pend (p : List UInt8) (b : UInt8) : (stepL p b).1 = [] ∨ beginsL (stepL p b).1 = true := by
  unfold stepL
  split
  · split
    · exact .inl rfl
    · split
      · exact .inr (by assumption)
      · exact firstL_pend _ _
  · exact firstL_pend _ _
theorem allF_pend (p : List UInt8) (o : List Nat) (l : List UInt8) (h : p = [] ∨ beginsL p = true) : (allF (p, o) l).1 = [] ∨ beginsL (allF (p, o) l).1 = true := by
  induction l generalizing p o with
  | nil => exact h
  | cons b l ih => rw [allF_cons]; exact ih _ _ (stepL_pend p b)
theorem firstL_len (b : UInt8) (o : List Nat) : (firstL b o).1.length ≤ 1 ∧ (firstL b o).2.length ≤ o.length + 1 := by
  unfold firstL
  split
  · simp
  · split <;> simp
theorem stepL_len (p : List UInt8) (b : UInt8) : (stepL p b).1.length ≤ 3 ∧ (stepL p b).2.length ≤ 2 := by
  unfold stepL
  split
  · split
    · simp
    · split
      · rename_i h
        have := beginsL_len _ h
        exact ⟨this.2, by simp⟩
      · have := firstL_len b [65533]
        simp at this
        omega
  · have := firstL_len b []
    simp at this
    omega
theorem allF_len (p : List UInt8) (o : List Nat) (l : List UInt8) (h : p.length ≤ 3) : (allF (p, o) l).1.length ≤ 3 ∧ (allF (p, o) l).2.length ≤ o.length + 2 * l.length := by
  induction l generalizing p o with
  | nil => simp [allF_nil]; exact h
  | cons b l ih =>
    rw [allF_cons]
    have h1 := stepL_len p b
    have h2 := ih (stepL p b).1 (o ++ (stepL p b).2) h1.1
    simp at h2 ⊢
    omega

theorem firstL_lt (b : UInt8) (o : List Nat) (ho : ∀ r ∈ o, r < 1114112) : ∀ r ∈ (firstL b o).2, r < 1114112 := by
  have := b.toNat_lt
  unfold firstL
  split
  · intro r hr
    rw [List.mem_append, List.mem_singleton] at hr
    rcases hr with hr | hr
    · exact ho r hr
    · omega
  · split
    · exact ho
    · intro r hr
      rw [List.mem_append, List.mem_singleton] at hr
      rcases hr with hr | hr
      · exact ho r hr
      · omega
theorem wholeL_lt (l : List UInt8) (r : Nat) (h : wholeL l = some r) : r < 1114112 := by
  match l, h with
  | [a], h =>
    have := a.toNat_lt
    simp only [wholeL] at h
    split at h <;> simp at h
    omega
  | [a, b], h =>
    have := a.toNat_lt
    have := b.toNat_lt
    simp only [wholeL] at h
    split at h <;> simp at h
    omega
  | [a, b, c], h =>
    have := a.toNat_lt
    have := b.toNat_lt
    have := c.toNat_lt
    simp only [wholeL] at h
    split at h
    · rename_i hc
      simp [contB] at hc
      simp at h
      omega
    · simp at h
  | [a, b, c, d], h =>
    have := b.toNat_lt
    have := c.toNat_lt
    have := d.toNat_lt
    simp only [wholeL] at h
    split at h
    · rename_i hc
      simp only [Bool.and_eq_true, secB_iff, decide_eq_true_eq, contB] at hc
      simp at h
      have := hiB_le a.toNat
      by_cases h4 : a.toNat = 244
      · have h5 : hiB a.toNat = 143 := by rw [h4]; rfl
        omega
      · omega
    · simp at h
theorem stepL_lt (p : List UInt8) (b : UInt8) : ∀ r ∈ (stepL p b).2, r < 1114112 := by
  unfold stepL
  split
  · split
    · rename_i r h
      intro q hq
      simp at hq
      subst hq
      exact wholeL_lt _ _ h
    · split
      · simp
      · exact firstL_lt b _ (by simp)
  · exact firstL_lt b _ (by simp)
theorem allF_lt (p : List UInt8) (o : List Nat) (l : List UInt8) (ho : ∀ r ∈ o, r < 1114112) : ∀ r ∈ (allF (p, o) l).2, r < 1114112 := by
  induction l generalizing p o with
  | nil => exact ho
  | cons b l ih =>
    rw [allF_cons]
    refine ih _ _ fun r hr => ?_
    rcases List.mem_append.1 hr with h | h
    · exact ho r h
    · exact stepL_lt p b r h

theorem step_new (b : UInt8) (h : b.toNat < 128) : stepL [] b = ([], [b.toNat]) := by
  simp [stepL, beginsL, firstL, h]
theorem step_lead (b : UInt8) (h : beginsL [b] = true) : stepL [] b = ([b], []) := by
  have h2 : ¬ b.toNat < 128 := by simp [beginsL] at h; omega
  simp only [stepL, firstL, h2, h]
  simp [beginsL]
theorem step_whole (p : List UInt8) (b : UInt8) (r : Nat) (hp : beginsL p = true) (h : wholeL (p ++ [b]) = some r) : stepL p b = ([], [r]) := by
  simp [stepL, hp, h]
theorem step_more (p : List UInt8) (b : UInt8) (q : List UInt8) (hq : p ++ [b] = q) (hp : beginsL p = true) (h : wholeL (p ++ [b]) = none) (h2 : beginsL (p ++ [b]) = true) : stepL p b = (q, []) := by
  subst hq
  simp [stepL, hp, h, h2]

theorem asR_ok (r : Int) : asR r < 1114112 ∧ (asR r < 55296 ∨ 57343 < asR r) := by
  unfold asR mayR
  split
  · rename_i h
    simp at h
    omega
  · omega
/-- Each rune's form comes back. -/
theorem formN_back (r : Nat) (h1 : r < 1114112) (h2 : r < 55296 ∨ 57343 < r) (o : List Nat) : allF ([], o) (formN r) = ([], o ++ [r]) := by
  rw [allF_out]
  unfold formN
  split
  · rename_i h
    have e : (UInt8.ofNat r).toNat = r := ofNat_toNat _ (by omega)
    rw [allF_step (step_new _ (by rw [e]; exact h)), allF_nil, e]
    rfl
  split
  · rename_i h0 h
    have ea : (UInt8.ofNat (192 + r / 64)).toNat = 192 + r / 64 := ofNat_toNat _ (by omega)
    have eb : (UInt8.ofNat (128 + r % 64)).toNat = 128 + r % 64 := ofNat_toNat _ (by omega)
    generalize UInt8.ofNat (192 + r / 64) = a at *
    generalize UInt8.ofNat (128 + r % 64) = b at *
    have p1 : beginsL [a] = true := by simp [beginsL]; omega
    have q1 : wholeL ([a] ++ [b]) = some r := by
      show wholeL [a, b] = some r
      simp only [wholeL]
      rw [if_pos (by simp [contB]; omega)]
      exact congrArg some (by omega)
    rw [allF_step (step_lead _ p1), allF_step (step_whole _ _ r p1 q1)]
    rfl
  split
  · rename_i h0 h00 h
    have ea : (UInt8.ofNat (224 + r / 4096)).toNat = 224 + r / 4096 := ofNat_toNat _ (by omega)
    have eb : (UInt8.ofNat (128 + r / 64 % 64)).toNat = 128 + r / 64 % 64 := ofNat_toNat _ (by omega)
    have ec : (UInt8.ofNat (128 + r % 64)).toNat = 128 + r % 64 := ofNat_toNat _ (by omega)
    generalize UInt8.ofNat (224 + r / 4096) = a at *
    generalize UInt8.ofNat (128 + r / 64 % 64) = b at *
    generalize UInt8.ofNat (128 + r % 64) = c at *
    have hsec : secB a b = true := by
      rw [secB_iff]
      unfold loB hiB
      refine ⟨?_, ?_⟩
      · split
        · omega
        · split <;> omega
      · split
        · omega
        · split <;> omega
    have p1 : beginsL [a] = true := by simp [beginsL]; omega
    have n1 : wholeL ([a] ++ [b]) = none := by
      show wholeL [a, b] = none
      simp only [wholeL]
      rw [if_neg (by simp; omega)]
    have p2 : beginsL ([a] ++ [b]) = true := by
      show beginsL [a, b] = true
      simp [beginsL, hsec]
      omega
    have q1 : wholeL ([a, b] ++ [c]) = some r := by
      show wholeL [a, b, c] = some r
      simp only [wholeL]
      rw [if_pos (by simp [contB, hsec]; omega)]
      exact congrArg some (by omega)
    rw [allF_step (step_lead _ p1), allF_step (step_more _ _ [a, b] rfl p1 n1 p2), allF_step (step_whole [a, b] c r p2 q1)]
    rfl
  · rename_i h0 h00 h
    have ea : (UInt8.ofNat (240 + r / 262144)).toNat = 240 + r / 262144 := ofNat_toNat _ (by omega)
    have eb : (UInt8.ofNat (128 + r / 4096 % 64)).toNat = 128 + r / 4096 % 64 := ofNat_toNat _ (by omega)
    have ec : (UInt8.ofNat (128 + r / 64 % 64)).toNat = 128 + r / 64 % 64 := ofNat_toNat _ (by omega)
    have ed : (UInt8.ofNat (128 + r % 64)).toNat = 128 + r % 64 := ofNat_toNat _ (by omega)
    generalize UInt8.ofNat (240 + r / 262144) = a at *
    generalize UInt8.ofNat (128 + r / 4096 % 64) = b at *
    generalize UInt8.ofNat (128 + r / 64 % 64) = c at *
    generalize UInt8.ofNat (128 + r % 64) = d at *
    have hsec : secB a b = true := by
      rw [secB_iff]
      unfold loB hiB
      refine ⟨?_, ?_⟩
      · split
        · omega
        · split <;> omega
      · split
        · omega
        · split <;> omega
    have hc : contB c = true := by simp [contB]; omega
    have p1 : beginsL [a] = true := by simp [beginsL]; omega
    have n1 : wholeL ([a] ++ [b]) = none := by
      show wholeL [a, b] = none
      simp only [wholeL]
      rw [if_neg (by simp; omega)]
    have p2 : beginsL ([a] ++ [b]) = true := by
      show beginsL [a, b] = true
      simp [beginsL, hsec]
      omega
    have n2 : wholeL ([a, b] ++ [c]) = none := by
      show wholeL [a, b, c] = none
      simp only [wholeL]
      rw [if_neg (by simp; omega)]
    have p3 : beginsL ([a, b] ++ [c]) = true := by
      show beginsL [a, b, c] = true
      simp [beginsL, hsec, hc]
      omega
    have q1 : wholeL ([a, b, c] ++ [d]) = some r := by
      show wholeL [a, b, c, d] = some r
      simp only [wholeL]
      rw [if_pos (by simp [contB, hsec]; omega)]
      exact congrArg some (by omega)
    rw [allF_step (step_lead _ p1), allF_step (step_more _ _ [a, b] rfl p1 n1 p2), allF_step (step_more [a, b] c [a, b, c] rfl p2 n2 p3), allF_step (step_whole [a, b, c] d r p3 q1)]
    rfl
/-- Runes that are put one behind another come back. -/
theorem forms_back (m : List Int) (o : List Nat) : allF ([], o) (m.flatMap formL) = ([], o ++ m.map asR) := by
  induction m generalizing o with
  | nil => simp [allF_nil]
  | cons r m ih =>
    rw [List.flatMap_cons, allF_append]
    have h := asR_ok r
    show allF (allF ([], o) (formN (asR r))) _ = _
    rw [formN_back _ h.1 h.2, ih]
    simp
theorem formN_len (r : Nat) : 1 ≤ (formN r).length ∧ (formN r).length ≤ 4 := by
  unfold formN
  split
  · simp
  split
  · simp
  split <;> simp
end Go.Proofs.Ytfimfipflfkolaa

namespace Go.Proofs.Ytfimfipflfkolaa
open Go.RowKit
set_option linter.unusedVariables false

theorem ret_bool {a b : Bool} (h : a = b) : Ending.returned (.bool a) = .returned (.bool b) := by rw [h]
theorem mayR_true {r : Int} (h0 : 0 ≤ r) (h1 : r ≤ 1114111) (h2 : r < 55296 ∨ 57343 < r) : mayR r = true := by simp [mayR, h0, h1, h2]
theorem mayR_false {r : Int} (h : r < 0 ∨ 1114111 < r ∨ (55296 ≤ r ∧ r ≤ 57343)) : mayR r = false := by
  rw [Bool.eq_false_iff]
  intro hh
  simp [mayR] at hh
  omega
theorem mayr_any (r : Int) (h0 : -2147483648 ≤ r) (h1 : r ≤ 2147483647) (w : World) : Calls Try.prog 66 #[.int .i32 r] w fun e w' => e = .returned (.bool (mayR r)) ∧ w = w' := by
  by_cases a1 : 0 ≤ r
  · by_cases a2 : r ≤ 1114111
    · by_cases a3 : r < 55296
      · rw [mayR_true a1 a2 (.inl a3)]
        go_enter Try.func66, Try.ntmps66
        go_wp2
        go_ret
        exact ⟨rfl, rfl⟩
      · have d3 : decide (r < 55296) = false := by simp; omega
        by_cases a4 : 57343 < r
        · rw [mayR_true a1 a2 (.inr a4)]
          go_enter Try.func66, Try.ntmps66
          go_wp2
          go_ret
          exact ⟨rfl, rfl⟩
        · have d4 : decide (57343 < r) = false := by simp; omega
          rw [mayR_false (.inr (.inr ⟨by omega, by omega⟩))]
          go_enter Try.func66, Try.ntmps66
          go_wp2
          go_ret
          exact ⟨rfl, rfl⟩
    · have d2 : decide (r ≤ 1114111) = false := by simp; omega
      rw [mayR_false (.inr (.inl (by omega)))]
      go_enter Try.func66, Try.ntmps66
      go_wp2
      go_ret
      exact ⟨rfl, rfl⟩
  · have d1 : decide (0 ≤ r) = false := by simp; omega
    rw [mayR_false (.inl (by omega))]
    go_enter Try.func66, Try.ntmps66
    go_wp2
    go_ret
    exact ⟨rfl, rfl⟩

theorem and192 : ∀ a : Nat, a < 256 → a &&& 192 = a / 64 * 64 := by decide +kernel
theorem and192_int (b : UInt8) : bits .and .u8 (b.toNat : Int) 192 = ((b.toNat / 64 * 64 : Nat) : Int) := by
  have := u8_and_nat b.toNat 192 b.toNat_lt (by omega)
  rw [and192 _ b.toNat_lt] at this
  exact this
theorem contB_yes (b : UInt8) (h : contB b = true) : ((bits .and .u8 (b.toNat : Int) 192) != 128) = false := by
  rw [and192_int]
  simp [contB] at h
  have : b.toNat / 64 * 64 = 128 := by omega
  rw [this]
  rfl
theorem contB_no (b : UInt8) (h : contB b = false) : ((bits .and .u8 (b.toNat : Int) 192) != 128) = true := by
  rw [and192_int]
  have h2 : ¬ (b.toNat / 64 * 64 = 128) := by
    intro e
    rw [Bool.eq_false_iff] at h
    apply h
    simp [contB]
    omega
  simp
  omega
theorem BS.lits {w : World} {B : Nat} {v : Value} {a : UInt8} {l : List UInt8} (h : BS w B v (a :: l)) : ∃ ad c, v = .slice (some ad) (a :: l).length c ∧ (a :: l).length ≤ c ∧ c ≤ maxLen ∧ w.cell? ad = some (.int .u8 (a.toNat : Int)) ∧ ∀ j b, l[j]? = some b → w.cell? ⟨ad.block, ad.off + (j + 1), none⟩ = some (.int .u8 (b.toNat : Int)) := by
  obtain ⟨A, c, rfl, h1, h2, h3⟩ := h
  obtain ⟨ad, rfl, _, hc⟩ := h3 (by simp)
  refine ⟨ad, c, rfl, h1, h2, ?_, fun j b hj => ?_⟩
  · have := hc 0 a rfl
    rw [show ad.add 0 = ad from by simp [Addr.add]] at this
    exact this
  · have := hc (j + 1) b (by simpa using hj)
    rw [show ad.add (j + 1) = ⟨ad.block, ad.off + (j + 1), none⟩ from by simp [Addr.add]] at this
    exact this

theorem lo_other (x : Nat) (h1 : x ≠ 224) (h2 : x ≠ 240) : loB x = 128 := by unfold loB; rw [if_neg h1, if_neg h2]
theorem hi_other (x : Nat) (h1 : x ≠ 237) (h2 : x ≠ 244) : hiB x = 191 := by unfold hiB; rw [if_neg h1, if_neg h2]
theorem beg1_iff (a : UInt8) : beginsL [a] = true ↔ 194 ≤ a.toNat ∧ a.toNat ≤ 244 := by simp [beginsL]
theorem beg2_iff (a b : UInt8) : beginsL [a, b] = true ↔ 224 ≤ a.toNat ∧ a.toNat ≤ 244 ∧ loB a.toNat ≤ b.toNat ∧ b.toNat ≤ hiB a.toNat := by simp [beginsL, secB, and_assoc]
theorem beg3_iff (a b c : UInt8) : beginsL [a, b, c] = true ↔ 240 ≤ a.toNat ∧ a.toNat ≤ 244 ∧ loB a.toNat ≤ b.toNat ∧ b.toNat ≤ hiB a.toNat ∧ contB c = true := by simp [beginsL, secB, and_assoc]
theorem lo_ge (x : Nat) : 128 ≤ loB x := by
  unfold loB
  split
  · omega
  · split <;> omega
theorem contB_iff (b : UInt8) : contB b = true ↔ 128 ≤ b.toNat ∧ b.toNat < 192 := by simp [contB]

/-- The last test, at the bounds that the switch has set. -/
theorem fin2 {a b : UInt8} {x L H : Nat} (ha : a.toNat = x) (h0 : 224 ≤ x) (h1 : x ≤ 244) (hL : loB x = L) (hH : hiB x = H) (hb : L ≤ b.toNat) : decide ((b.toNat : Int) ≤ (H : Int)) = beginsL [a, b] := by
  rw [Bool.eq_iff_iff, beg2_iff, ha, hL, hH, decide_eq_true_eq]
  omega
theorem fin2n {a b : UInt8} {x L : Nat} (ha : a.toNat = x) (hL : loB x = L) (hb : b.toNat < L) : false = beginsL [a, b] := by
  rw [Bool.eq_iff_iff, beg2_iff, ha, hL]
  simp
  omega
theorem fin3 {a b c : UInt8} {x L H : Nat} (ha : a.toNat = x) (h0 : 240 ≤ x) (h1 : x ≤ 244) (hL : loB x = L) (hH : hiB x = H) (hc : contB c = true) (hb : L ≤ b.toNat) : decide ((b.toNat : Int) ≤ (H : Int)) = beginsL [a, b, c] := by
  rw [Bool.eq_iff_iff, beg3_iff, ha, hL, hH, decide_eq_true_eq]
  simp only [hc, and_true]
  omega
theorem fin3n {a b c : UInt8} {x L : Nat} (ha : a.toNat = x) (hL : loB x = L) (hb : b.toNat < L) : false = beginsL [a, b, c] := by
  rw [Bool.eq_iff_iff, beg3_iff, ha, hL]
  simp
  omega

theorem nocont2 {a b : UInt8} (h : contB b = false) : false = beginsL [a, b] := by
  cases hh : beginsL [a, b]
  · rfl
  · rw [beg2_iff] at hh
    have h1 := lo_ge a.toNat
    have h2 := hiB_le a.toNat
    rw [(contB_iff b).2 (by omega)] at h
    cases h
theorem nocont3 {a b c : UInt8} (h : contB b = false) : false = beginsL [a, b, c] := by
  cases hh : beginsL [a, b, c]
  · rfl
  · rw [beg3_iff] at hh
    have h1 := lo_ge a.toNat
    have h2 := hiB_le a.toNat
    rw [(contB_iff b).2 (by omega)] at h
    cases h
theorem nocont3c {a b c : UInt8} (h : contB c = false) : false = beginsL [a, b, c] := by
  cases hh : beginsL [a, b, c]
  · rfl
  · rw [beg3_iff, h] at hh
    simp at hh

def BegPost (l : List UInt8) (w : World) (e : Ending) (w' : World) : Prop := e = .returned (.bool (beginsL l)) ∧ w = w'
theorem begPost_of {l : List UInt8} {w : World} {b : Bool} (h : b = beginsL l) : BegPost l w (.returned (.bool b)) w := ⟨by rw [h], rfl⟩

/-- The rounds that have gone by. -/
def Beg2 (b : UInt8) (i : Value) : Prop := ∃ k : Nat, i = .int .i64 (k : Int) ∧ (k = 1 ∨ (k = 2 ∧ contB b = true))
def Beg3 (b c : UInt8) (i : Value) : Prop := ∃ k : Nat, i = .int .i64 (k : Int) ∧ (k = 1 ∨ (k = 2 ∧ contB b = true) ∨ (k = 3 ∧ contB b = true ∧ contB c = true))

set_option maxHeartbeats 1000000 in
set_option maxRecDepth 100000 in
theorem begr2_224 (ad : Addr) (cp : Nat) (a b : UInt8) (x : Nat) (w : World) (ca : w.cell? ad = some (.int .u8 (x : Int))) (cb : w.cell? ⟨ad.block, ad.off + 1, none⟩ = some (.int .u8 (b.toNat : Int))) (HX : Hid (a.toNat = x)) (hx : x = 224) :
    Calls Try.prog 55 #[.slice (some ad) 2 cp] w (BegPost [a, b] w) := by
  subst hx
  have HL : Hid (loB 224 = 160) := rfl
  have HH : Hid (hiB 224 = 191) := rfl
  have y1 := b.toNat_lt
  go_enter Try.func55, Try.ntmps55
  go_wp2
  go_loop [4] (fun i => Beg2 b i) (fun i => 2 - (intOf i).toNat)
  case atStart => exact ⟨1, rfl, .inl rfl⟩
  case round =>
    obtain ⟨k, rfl, hk⟩ := hrel
    rcases hk with rfl | ⟨rfl, hcb⟩
    · cases hcb : contB b
      · have e1 := contB_no b hcb
        have HC := Lib.hid hcb
        clear hcb
        go_wp2
        go_ret
        exact begPost_of (nocont2 HC.out)
      · have e1 := contB_yes b hcb
        have HC := Lib.hid hcb
        clear hcb
        go_wp2
        go_round
        case rel => exact ⟨2, rfl, .inr ⟨rfl, HC.out⟩⟩
        case measure => simp [intOf]
    · have HC := Lib.hid hcb
      clear hcb
      by_cases hb : 160 ≤ b.toNat
      · have hb' : (160 : Int) ≤ (b.toNat : Int) := by omega
        go_wp2
        go_ret
        exact begPost_of (fin2 HX.out (by omega) (by omega) HL.out HH.out hb)
      · have hb' : decide ((160 : Int) ≤ (b.toNat : Int)) = false := by simp; omega
        go_wp2
        go_ret
        exact begPost_of (fin2n HX.out HL.out (by omega))
set_option maxHeartbeats 1000000 in
set_option maxRecDepth 100000 in
theorem begr2_237 (ad : Addr) (cp : Nat) (a b : UInt8) (x : Nat) (w : World) (ca : w.cell? ad = some (.int .u8 (x : Int))) (cb : w.cell? ⟨ad.block, ad.off + 1, none⟩ = some (.int .u8 (b.toNat : Int))) (HX : Hid (a.toNat = x)) (hx : x = 237) :
    Calls Try.prog 55 #[.slice (some ad) 2 cp] w (BegPost [a, b] w) := by
  subst hx
  have HL : Hid (loB 237 = 128) := rfl
  have HH : Hid (hiB 237 = 159) := rfl
  have y1 := b.toNat_lt
  go_enter Try.func55, Try.ntmps55
  go_wp2
  go_loop [4] (fun i => Beg2 b i) (fun i => 2 - (intOf i).toNat)
  case atStart => exact ⟨1, rfl, .inl rfl⟩
  case round =>
    obtain ⟨k, rfl, hk⟩ := hrel
    rcases hk with rfl | ⟨rfl, hcb⟩
    · cases hcb : contB b
      · have e1 := contB_no b hcb
        have HC := Lib.hid hcb
        clear hcb
        go_wp2
        go_ret
        exact begPost_of (nocont2 HC.out)
      · have e1 := contB_yes b hcb
        have HC := Lib.hid hcb
        clear hcb
        go_wp2
        go_round
        case rel => exact ⟨2, rfl, .inr ⟨rfl, HC.out⟩⟩
        case measure => simp [intOf]
    · have HC := Lib.hid hcb
      clear hcb
      by_cases hb : 128 ≤ b.toNat
      · have hb' : (128 : Int) ≤ (b.toNat : Int) := by omega
        go_wp2
        go_ret
        exact begPost_of (fin2 HX.out (by omega) (by omega) HL.out HH.out hb)
      · have hb' : decide ((128 : Int) ≤ (b.toNat : Int)) = false := by simp; omega
        go_wp2
        go_ret
        exact begPost_of (fin2n HX.out HL.out (by omega))
set_option maxHeartbeats 1000000 in
set_option maxRecDepth 100000 in
theorem begr2_240 (ad : Addr) (cp : Nat) (a b : UInt8) (x : Nat) (w : World) (ca : w.cell? ad = some (.int .u8 (x : Int))) (cb : w.cell? ⟨ad.block, ad.off + 1, none⟩ = some (.int .u8 (b.toNat : Int))) (HX : Hid (a.toNat = x)) (hx : x = 240) :
    Calls Try.prog 55 #[.slice (some ad) 2 cp] w (BegPost [a, b] w) := by
  subst hx
  have HL : Hid (loB 240 = 144) := rfl
  have HH : Hid (hiB 240 = 191) := rfl
  have y1 := b.toNat_lt
  go_enter Try.func55, Try.ntmps55
  go_wp2
  go_loop [4] (fun i => Beg2 b i) (fun i => 2 - (intOf i).toNat)
  case atStart => exact ⟨1, rfl, .inl rfl⟩
  case round =>
    obtain ⟨k, rfl, hk⟩ := hrel
    rcases hk with rfl | ⟨rfl, hcb⟩
    · cases hcb : contB b
      · have e1 := contB_no b hcb
        have HC := Lib.hid hcb
        clear hcb
        go_wp2
        go_ret
        exact begPost_of (nocont2 HC.out)
      · have e1 := contB_yes b hcb
        have HC := Lib.hid hcb
        clear hcb
        go_wp2
        go_round
        case rel => exact ⟨2, rfl, .inr ⟨rfl, HC.out⟩⟩
        case measure => simp [intOf]
    · have HC := Lib.hid hcb
      clear hcb
      by_cases hb : 144 ≤ b.toNat
      · have hb' : (144 : Int) ≤ (b.toNat : Int) := by omega
        go_wp2
        go_ret
        exact begPost_of (fin2 HX.out (by omega) (by omega) HL.out HH.out hb)
      · have hb' : decide ((144 : Int) ≤ (b.toNat : Int)) = false := by simp; omega
        go_wp2
        go_ret
        exact begPost_of (fin2n HX.out HL.out (by omega))
set_option maxHeartbeats 1000000 in
set_option maxRecDepth 100000 in
theorem begr2_244 (ad : Addr) (cp : Nat) (a b : UInt8) (x : Nat) (w : World) (ca : w.cell? ad = some (.int .u8 (x : Int))) (cb : w.cell? ⟨ad.block, ad.off + 1, none⟩ = some (.int .u8 (b.toNat : Int))) (HX : Hid (a.toNat = x)) (hx : x = 244) :
    Calls Try.prog 55 #[.slice (some ad) 2 cp] w (BegPost [a, b] w) := by
  subst hx
  have HL : Hid (loB 244 = 128) := rfl
  have HH : Hid (hiB 244 = 143) := rfl
  have y1 := b.toNat_lt
  go_enter Try.func55, Try.ntmps55
  go_wp2
  go_loop [4] (fun i => Beg2 b i) (fun i => 2 - (intOf i).toNat)
  case atStart => exact ⟨1, rfl, .inl rfl⟩
  case round =>
    obtain ⟨k, rfl, hk⟩ := hrel
    rcases hk with rfl | ⟨rfl, hcb⟩
    · cases hcb : contB b
      · have e1 := contB_no b hcb
        have HC := Lib.hid hcb
        clear hcb
        go_wp2
        go_ret
        exact begPost_of (nocont2 HC.out)
      · have e1 := contB_yes b hcb
        have HC := Lib.hid hcb
        clear hcb
        go_wp2
        go_round
        case rel => exact ⟨2, rfl, .inr ⟨rfl, HC.out⟩⟩
        case measure => simp [intOf]
    · have HC := Lib.hid hcb
      clear hcb
      by_cases hb : 128 ≤ b.toNat
      · have hb' : (128 : Int) ≤ (b.toNat : Int) := by omega
        go_wp2
        go_ret
        exact begPost_of (fin2 HX.out (by omega) (by omega) HL.out HH.out hb)
      · have hb' : decide ((128 : Int) ≤ (b.toNat : Int)) = false := by simp; omega
        go_wp2
        go_ret
        exact begPost_of (fin2n HX.out HL.out (by omega))
set_option maxHeartbeats 1000000 in
set_option maxRecDepth 100000 in
theorem begr2_o3 (ad : Addr) (cp : Nat) (a b : UInt8) (x : Nat) (w : World) (ca : w.cell? ad = some (.int .u8 (x : Int))) (cb : w.cell? ⟨ad.block, ad.off + 1, none⟩ = some (.int .u8 (b.toNat : Int))) (HX : Hid (a.toNat = x)) (hx0 : 224 < x) (hx1 : x < 240) (hx2 : x ≠ 237) :
    Calls Try.prog 55 #[.slice (some ad) 2 cp] w (BegPost [a, b] w) := by
  have HL : Hid (loB x = 128) := lo_other x (by omega) (by omega)
  have HH : Hid (hiB x = 191) := hi_other x (by omega) (by omega)
  have d3 : decide ((x : Int) < 194) = false := by simp; omega
  have d4 : decide (244 < (x : Int)) = false := by simp; omega
  have r1 : 224 ≤ (x : Int) := by omega
  have r2 : decide (240 ≤ (x : Int)) = false := by simp; omega
  have e224 : ((x : Int) == 224) = false := beq_eq_false_iff_ne.2 (by omega)
  have e237 : ((x : Int) == 237) = false := beq_eq_false_iff_ne.2 (by omega)
  have e240 : ((x : Int) == 240) = false := beq_eq_false_iff_ne.2 (by omega)
  have e244 : ((x : Int) == 244) = false := beq_eq_false_iff_ne.2 (by omega)
  clear hx2
  have y1 := b.toNat_lt
  go_enter Try.func55, Try.ntmps55
  go_wp2
  go_loop [4] (fun i => Beg2 b i) (fun i => 2 - (intOf i).toNat)
  case atStart => exact ⟨1, rfl, .inl rfl⟩
  case round =>
    obtain ⟨k, rfl, hk⟩ := hrel
    rcases hk with rfl | ⟨rfl, hcb⟩
    · cases hcb : contB b
      · have e1 := contB_no b hcb
        have HC := Lib.hid hcb
        clear hcb
        go_wp2
        go_ret
        exact begPost_of (nocont2 HC.out)
      · have e1 := contB_yes b hcb
        have HC := Lib.hid hcb
        clear hcb
        go_wp2
        go_round
        case rel => exact ⟨2, rfl, .inr ⟨rfl, HC.out⟩⟩
        case measure => simp [intOf]
    · have HC := Lib.hid hcb
      clear hcb
      by_cases hb : 128 ≤ b.toNat
      · have hb' : (128 : Int) ≤ (b.toNat : Int) := by omega
        go_wp2
        go_ret
        exact begPost_of (fin2 HX.out (by omega) (by omega) HL.out HH.out hb)
      · have hb' : decide ((128 : Int) ≤ (b.toNat : Int)) = false := by simp; omega
        go_wp2
        go_ret
        exact begPost_of (fin2n HX.out HL.out (by omega))
set_option maxHeartbeats 1000000 in
set_option maxRecDepth 100000 in
theorem begr2_o4 (ad : Addr) (cp : Nat) (a b : UInt8) (x : Nat) (w : World) (ca : w.cell? ad = some (.int .u8 (x : Int))) (cb : w.cell? ⟨ad.block, ad.off + 1, none⟩ = some (.int .u8 (b.toNat : Int))) (HX : Hid (a.toNat = x)) (hx0 : 240 < x) (hx1 : x < 244) :
    Calls Try.prog 55 #[.slice (some ad) 2 cp] w (BegPost [a, b] w) := by
  have HL : Hid (loB x = 128) := lo_other x (by omega) (by omega)
  have HH : Hid (hiB x = 191) := hi_other x (by omega) (by omega)
  have d3 : decide ((x : Int) < 194) = false := by simp; omega
  have d4 : decide (244 < (x : Int)) = false := by simp; omega
  have r1 : 224 ≤ (x : Int) := by omega
  have r2 : 240 ≤ (x : Int) := by omega
  have e224 : ((x : Int) == 224) = false := beq_eq_false_iff_ne.2 (by omega)
  have e237 : ((x : Int) == 237) = false := beq_eq_false_iff_ne.2 (by omega)
  have e240 : ((x : Int) == 240) = false := beq_eq_false_iff_ne.2 (by omega)
  have e244 : ((x : Int) == 244) = false := beq_eq_false_iff_ne.2 (by omega)
  have y1 := b.toNat_lt
  go_enter Try.func55, Try.ntmps55
  go_wp2
  go_loop [4] (fun i => Beg2 b i) (fun i => 2 - (intOf i).toNat)
  case atStart => exact ⟨1, rfl, .inl rfl⟩
  case round =>
    obtain ⟨k, rfl, hk⟩ := hrel
    rcases hk with rfl | ⟨rfl, hcb⟩
    · cases hcb : contB b
      · have e1 := contB_no b hcb
        have HC := Lib.hid hcb
        clear hcb
        go_wp2
        go_ret
        exact begPost_of (nocont2 HC.out)
      · have e1 := contB_yes b hcb
        have HC := Lib.hid hcb
        clear hcb
        go_wp2
        go_round
        case rel => exact ⟨2, rfl, .inr ⟨rfl, HC.out⟩⟩
        case measure => simp [intOf]
    · have HC := Lib.hid hcb
      clear hcb
      by_cases hb : 128 ≤ b.toNat
      · have hb' : (128 : Int) ≤ (b.toNat : Int) := by omega
        go_wp2
        go_ret
        exact begPost_of (fin2 HX.out (by omega) (by omega) HL.out HH.out hb)
      · have hb' : decide ((128 : Int) ≤ (b.toNat : Int)) = false := by simp; omega
        go_wp2
        go_ret
        exact begPost_of (fin2n HX.out HL.out (by omega))
set_option maxHeartbeats 1000000 in
set_option maxRecDepth 100000 in
theorem begr3_240 (ad : Addr) (cp : Nat) (a b c : UInt8) (x : Nat) (w : World) (ca : w.cell? ad = some (.int .u8 (x : Int))) (cb : w.cell? ⟨ad.block, ad.off + 1, none⟩ = some (.int .u8 (b.toNat : Int))) (cc : w.cell? ⟨ad.block, ad.off + 2, none⟩ = some (.int .u8 (c.toNat : Int))) (HX : Hid (a.toNat = x)) (hx : x = 240) :
    Calls Try.prog 55 #[.slice (some ad) 3 cp] w (BegPost [a, b, c] w) := by
  subst hx
  have HL : Hid (loB 240 = 144) := rfl
  have HH : Hid (hiB 240 = 191) := rfl
  have y1 := b.toNat_lt
  go_enter Try.func55, Try.ntmps55
  go_wp2
  go_loop [4] (fun i => Beg3 b c i) (fun i => 3 - (intOf i).toNat)
  case atStart => exact ⟨1, rfl, .inl rfl⟩
  case round =>
    obtain ⟨k, rfl, hk⟩ := hrel
    rcases hk with rfl | ⟨rfl, hcb⟩ | ⟨rfl, hcb, hcc⟩
    · cases hcb : contB b
      · have e1 := contB_no b hcb
        have HC := Lib.hid hcb
        clear hcb
        go_wp2
        go_ret
        exact begPost_of (nocont3 HC.out)
      · have e1 := contB_yes b hcb
        have HC := Lib.hid hcb
        clear hcb
        go_wp2
        go_round
        case rel => exact ⟨2, rfl, .inr (.inl ⟨rfl, HC.out⟩)⟩
        case measure => simp [intOf]
    · have HC := Lib.hid hcb
      clear hcb
      cases hcc : contB c
      · have e1 := contB_no c hcc
        have HD := Lib.hid hcc
        clear hcc
        go_wp2
        go_ret
        exact begPost_of (nocont3c HD.out)
      · have e1 := contB_yes c hcc
        have HD := Lib.hid hcc
        clear hcc
        go_wp2
        go_round
        case rel => exact ⟨3, rfl, .inr (.inr ⟨rfl, HC.out, HD.out⟩)⟩
        case measure => simp [intOf]
    · have HC := Lib.hid hcb
      have HD := Lib.hid hcc
      clear hcb hcc
      by_cases hb : 144 ≤ b.toNat
      · have hb' : (144 : Int) ≤ (b.toNat : Int) := by omega
        go_wp2
        go_ret
        exact begPost_of (fin3 HX.out (by omega) (by omega) HL.out HH.out HD.out hb)
      · have hb' : decide ((144 : Int) ≤ (b.toNat : Int)) = false := by simp; omega
        go_wp2
        go_ret
        exact begPost_of (fin3n HX.out HL.out (by omega))
set_option maxHeartbeats 1000000 in
set_option maxRecDepth 100000 in
theorem begr3_244 (ad : Addr) (cp : Nat) (a b c : UInt8) (x : Nat) (w : World) (ca : w.cell? ad = some (.int .u8 (x : Int))) (cb : w.cell? ⟨ad.block, ad.off + 1, none⟩ = some (.int .u8 (b.toNat : Int))) (cc : w.cell? ⟨ad.block, ad.off + 2, none⟩ = some (.int .u8 (c.toNat : Int))) (HX : Hid (a.toNat = x)) (hx : x = 244) :
    Calls Try.prog 55 #[.slice (some ad) 3 cp] w (BegPost [a, b, c] w) := by
  subst hx
  have HL : Hid (loB 244 = 128) := rfl
  have HH : Hid (hiB 244 = 143) := rfl
  have y1 := b.toNat_lt
  go_enter Try.func55, Try.ntmps55
  go_wp2
  go_loop [4] (fun i => Beg3 b c i) (fun i => 3 - (intOf i).toNat)
  case atStart => exact ⟨1, rfl, .inl rfl⟩
  case round =>
    obtain ⟨k, rfl, hk⟩ := hrel
    rcases hk with rfl | ⟨rfl, hcb⟩ | ⟨rfl, hcb, hcc⟩
    · cases hcb : contB b
      · have e1 := contB_no b hcb
        have HC := Lib.hid hcb
        clear hcb
        go_wp2
        go_ret
        exact begPost_of (nocont3 HC.out)
      · have e1 := contB_yes b hcb
        have HC := Lib.hid hcb
        clear hcb
        go_wp2
        go_round
        case rel => exact ⟨2, rfl, .inr (.inl ⟨rfl, HC.out⟩)⟩
        case measure => simp [intOf]
    · have HC := Lib.hid hcb
      clear hcb
      cases hcc : contB c
      · have e1 := contB_no c hcc
        have HD := Lib.hid hcc
        clear hcc
        go_wp2
        go_ret
        exact begPost_of (nocont3c HD.out)
      · have e1 := contB_yes c hcc
        have HD := Lib.hid hcc
        clear hcc
        go_wp2
        go_round
        case rel => exact ⟨3, rfl, .inr (.inr ⟨rfl, HC.out, HD.out⟩)⟩
        case measure => simp [intOf]
    · have HC := Lib.hid hcb
      have HD := Lib.hid hcc
      clear hcb hcc
      by_cases hb : 128 ≤ b.toNat
      · have hb' : (128 : Int) ≤ (b.toNat : Int) := by omega
        go_wp2
        go_ret
        exact begPost_of (fin3 HX.out (by omega) (by omega) HL.out HH.out HD.out hb)
      · have hb' : decide ((128 : Int) ≤ (b.toNat : Int)) = false := by simp; omega
        go_wp2
        go_ret
        exact begPost_of (fin3n HX.out HL.out (by omega))
set_option maxHeartbeats 1000000 in
set_option maxRecDepth 100000 in
theorem begr3_o4 (ad : Addr) (cp : Nat) (a b c : UInt8) (x : Nat) (w : World) (ca : w.cell? ad = some (.int .u8 (x : Int))) (cb : w.cell? ⟨ad.block, ad.off + 1, none⟩ = some (.int .u8 (b.toNat : Int))) (cc : w.cell? ⟨ad.block, ad.off + 2, none⟩ = some (.int .u8 (c.toNat : Int))) (HX : Hid (a.toNat = x)) (hx0 : 240 < x) (hx1 : x < 244) :
    Calls Try.prog 55 #[.slice (some ad) 3 cp] w (BegPost [a, b, c] w) := by
  have HL : Hid (loB x = 128) := lo_other x (by omega) (by omega)
  have HH : Hid (hiB x = 191) := hi_other x (by omega) (by omega)
  have d3 : decide ((x : Int) < 194) = false := by simp; omega
  have d4 : decide (244 < (x : Int)) = false := by simp; omega
  have r1 : 224 ≤ (x : Int) := by omega
  have r2 : 240 ≤ (x : Int) := by omega
  have e224 : ((x : Int) == 224) = false := beq_eq_false_iff_ne.2 (by omega)
  have e237 : ((x : Int) == 237) = false := beq_eq_false_iff_ne.2 (by omega)
  have e240 : ((x : Int) == 240) = false := beq_eq_false_iff_ne.2 (by omega)
  have e244 : ((x : Int) == 244) = false := beq_eq_false_iff_ne.2 (by omega)
  have y1 := b.toNat_lt
  go_enter Try.func55, Try.ntmps55
  go_wp2
  go_loop [4] (fun i => Beg3 b c i) (fun i => 3 - (intOf i).toNat)
  case atStart => exact ⟨1, rfl, .inl rfl⟩
  case round =>
    obtain ⟨k, rfl, hk⟩ := hrel
    rcases hk with rfl | ⟨rfl, hcb⟩ | ⟨rfl, hcb, hcc⟩
    · cases hcb : contB b
      · have e1 := contB_no b hcb
        have HC := Lib.hid hcb
        clear hcb
        go_wp2
        go_ret
        exact begPost_of (nocont3 HC.out)
      · have e1 := contB_yes b hcb
        have HC := Lib.hid hcb
        clear hcb
        go_wp2
        go_round
        case rel => exact ⟨2, rfl, .inr (.inl ⟨rfl, HC.out⟩)⟩
        case measure => simp [intOf]
    · have HC := Lib.hid hcb
      clear hcb
      cases hcc : contB c
      · have e1 := contB_no c hcc
        have HD := Lib.hid hcc
        clear hcc
        go_wp2
        go_ret
        exact begPost_of (nocont3c HD.out)
      · have e1 := contB_yes c hcc
        have HD := Lib.hid hcc
        clear hcc
        go_wp2
        go_round
        case rel => exact ⟨3, rfl, .inr (.inr ⟨rfl, HC.out, HD.out⟩)⟩
        case measure => simp [intOf]
    · have HC := Lib.hid hcb
      have HD := Lib.hid hcc
      clear hcb hcc
      by_cases hb : 128 ≤ b.toNat
      · have hb' : (128 : Int) ≤ (b.toNat : Int) := by omega
        go_wp2
        go_ret
        exact begPost_of (fin3 HX.out (by omega) (by omega) HL.out HH.out HD.out hb)
      · have hb' : decide ((128 : Int) ≤ (b.toNat : Int)) = false := by simp; omega
        go_wp2
        go_ret
        exact begPost_of (fin3n HX.out HL.out (by omega))
set_option maxHeartbeats 1000000 in
set_option maxRecDepth 100000 in
theorem begr1_2 (ad : Addr) (cp : Nat) (a : UInt8) (x : Nat) (w : World) (ca : w.cell? ad = some (.int .u8 (x : Int))) (HX : Hid (a.toNat = x)) (hx0 : 194 ≤ x) (hx1 : x < 224) :
    Calls Try.prog 55 #[.slice (some ad) 1 cp] w (BegPost [a] w) := by
  have d3 : decide ((x : Int) < 194) = false := by simp; omega
  have d4 : decide (244 < (x : Int)) = false := by simp; omega
  have r1 : decide (224 ≤ (x : Int)) = false := by simp; omega
  have r2 : decide (240 ≤ (x : Int)) = false := by simp; omega
  go_enter Try.func55, Try.ntmps55
  go_wp2
  go_loop [4] (fun i => i = .int .i64 1) (fun i => 1 - (intOf i).toNat)
  case atStart => rfl
  case round =>
    obtain rfl := hrel
    go_wp2
    go_ret
    exact begPost_of (((beg1_iff a).2 (by rw [HX.out]; omega)).symm)
set_option maxHeartbeats 1000000 in
set_option maxRecDepth 100000 in
theorem begr1_3 (ad : Addr) (cp : Nat) (a : UInt8) (x : Nat) (w : World) (ca : w.cell? ad = some (.int .u8 (x : Int))) (HX : Hid (a.toNat = x)) (hx0 : 224 ≤ x) (hx1 : x < 240) :
    Calls Try.prog 55 #[.slice (some ad) 1 cp] w (BegPost [a] w) := by
  have d3 : decide ((x : Int) < 194) = false := by simp; omega
  have d4 : decide (244 < (x : Int)) = false := by simp; omega
  have r1 : 224 ≤ (x : Int) := by omega
  have r2 : decide (240 ≤ (x : Int)) = false := by simp; omega
  go_enter Try.func55, Try.ntmps55
  go_wp2
  go_loop [4] (fun i => i = .int .i64 1) (fun i => 1 - (intOf i).toNat)
  case atStart => rfl
  case round =>
    obtain rfl := hrel
    go_wp2
    go_ret
    exact begPost_of (((beg1_iff a).2 (by rw [HX.out]; omega)).symm)
set_option maxHeartbeats 1000000 in
set_option maxRecDepth 100000 in
theorem begr1_4 (ad : Addr) (cp : Nat) (a : UInt8) (x : Nat) (w : World) (ca : w.cell? ad = some (.int .u8 (x : Int))) (HX : Hid (a.toNat = x)) (hx0 : 240 ≤ x) (hx1 : x ≤ 244) :
    Calls Try.prog 55 #[.slice (some ad) 1 cp] w (BegPost [a] w) := by
  have d3 : decide ((x : Int) < 194) = false := by simp; omega
  have d4 : decide (244 < (x : Int)) = false := by simp; omega
  have r1 : 224 ≤ (x : Int) := by omega
  have r2 : 240 ≤ (x : Int) := by omega
  go_enter Try.func55, Try.ntmps55
  go_wp2
  go_loop [4] (fun i => i = .int .i64 1) (fun i => 1 - (intOf i).toNat)
  case atStart => rfl
  case round =>
    obtain rfl := hrel
    go_wp2
    go_ret
    exact begPost_of (((beg1_iff a).2 (by rw [HX.out]; omega)).symm)
set_option maxHeartbeats 1000000 in
set_option maxRecDepth 100000 in
theorem begr_low (ad : Addr) (cp n : Nat) (l : List UInt8) (x : Nat) (w : World) (ca : w.cell? ad = some (.int .u8 (x : Int))) (hf : beginsL l = false) (hn : 1 ≤ n) (hn3 : n ≤ 3) (hx : x < 194) :
    Calls Try.prog 55 #[.slice (some ad) n cp] w (BegPost l w) := by
  have HF := Lib.hid hf
  clear hf
  have l1 : decide ((n : Int) < 1) = false := by simp; omega
  have l2 : decide (3 < (n : Int)) = false := by simp; omega
  have l3 : 0 < n := by omega
  have d3 : (x : Int) < 194 := by omega
  go_enter Try.func55, Try.ntmps55
  go_wp2
  go_ret
  exact begPost_of HF.out.symm
set_option maxHeartbeats 1000000 in
set_option maxRecDepth 100000 in
theorem begr_high (ad : Addr) (cp n : Nat) (l : List UInt8) (x : Nat) (w : World) (ca : w.cell? ad = some (.int .u8 (x : Int))) (hf : beginsL l = false) (hn : 1 ≤ n) (hn3 : n ≤ 3) (hx : 244 < x) :
    Calls Try.prog 55 #[.slice (some ad) n cp] w (BegPost l w) := by
  have HF := Lib.hid hf
  clear hf
  have l1 : decide ((n : Int) < 1) = false := by simp; omega
  have l2 : decide (3 < (n : Int)) = false := by simp; omega
  have l3 : 0 < n := by omega
  have d3 : decide ((x : Int) < 194) = false := by simp; omega
  have d4 : 244 < (x : Int) := by omega
  go_enter Try.func55, Try.ntmps55
  go_wp2
  go_ret
  exact begPost_of HF.out.symm
set_option maxHeartbeats 1000000 in
set_option maxRecDepth 100000 in
theorem begr_2 (ad : Addr) (cp n : Nat) (l : List UInt8) (x : Nat) (w : World) (ca : w.cell? ad = some (.int .u8 (x : Int))) (hf : beginsL l = false) (hn : 1 ≤ n) (hn3 : n ≤ 3) (hx0 : 194 ≤ x) (hx1 : x < 224) (hn2 : 2 ≤ n) :
    Calls Try.prog 55 #[.slice (some ad) n cp] w (BegPost l w) := by
  have HF := Lib.hid hf
  clear hf
  have l1 : decide ((n : Int) < 1) = false := by simp; omega
  have l2 : decide (3 < (n : Int)) = false := by simp; omega
  have l3 : 0 < n := by omega
  have d3 : decide ((x : Int) < 194) = false := by simp; omega
  have d4 : decide (244 < (x : Int)) = false := by simp; omega
  have r1 : decide (224 ≤ (x : Int)) = false := by simp; omega
  have r2 : decide (240 ≤ (x : Int)) = false := by simp; omega
  have l4 : (2 : Int) ≤ (n : Int) := by omega
  go_enter Try.func55, Try.ntmps55
  go_wp2
  go_ret
  exact begPost_of HF.out.symm
set_option maxHeartbeats 1000000 in
set_option maxRecDepth 100000 in
theorem begr_3 (ad : Addr) (cp n : Nat) (l : List UInt8) (x : Nat) (w : World) (ca : w.cell? ad = some (.int .u8 (x : Int))) (hf : beginsL l = false) (hn : 1 ≤ n) (hn3 : n ≤ 3) (hx0 : 224 ≤ x) (hx1 : x < 240) (hn2 : 3 ≤ n) :
    Calls Try.prog 55 #[.slice (some ad) n cp] w (BegPost l w) := by
  have HF := Lib.hid hf
  clear hf
  have l1 : decide ((n : Int) < 1) = false := by simp; omega
  have l2 : decide (3 < (n : Int)) = false := by simp; omega
  have l3 : 0 < n := by omega
  have d3 : decide ((x : Int) < 194) = false := by simp; omega
  have d4 : decide (244 < (x : Int)) = false := by simp; omega
  have r1 : 224 ≤ (x : Int) := by omega
  have r2 : decide (240 ≤ (x : Int)) = false := by simp; omega
  have l4 : (3 : Int) ≤ (n : Int) := by omega
  go_enter Try.func55, Try.ntmps55
  go_wp2
  go_ret
  exact begPost_of HF.out.symm
theorem begr_nil (A : Option Addr) (cp : Nat) (w : World) : Calls Try.prog 55 #[.slice A 0 cp] w (BegPost [] w) := by
  go_enter Try.func55, Try.ntmps55
  go_wp2
  go_ret
  exact begPost_of rfl
theorem begr_long (A : Option Addr) (cp n : Nat) (l : List UInt8) (w : World) (hf : beginsL l = false) (hn : 4 ≤ n) : Calls Try.prog 55 #[.slice A n cp] w (BegPost l w) := by
  have HF := Lib.hid hf
  clear hf
  have l1 : decide ((n : Int) < 1) = false := by simp; omega
  have l2 : 3 < (n : Int) := by omega
  go_enter Try.func55, Try.ntmps55
  go_wp2
  go_ret
  exact begPost_of HF.out.symm

/-- The document's Begins. -/
theorem beginsr_any (v : Value) (l : List UInt8) (B : Nat) (w : World) (hv : BS w B v l) : Calls Try.prog 55 #[v] w fun e w' => e = .returned (.bool (beginsL l)) ∧ w = w' := by
  show Calls Try.prog 55 #[v] w (BegPost l w)
  match l, hv with
  | [], hv =>
    obtain ⟨A, c, rfl, _⟩ := hv
    exact begr_nil A c w
  | a :: l, hv =>
    obtain ⟨ad, cp, rfl, _, _, ca, hcs⟩ := hv.lits
    obtain ⟨x, hx⟩ : ∃ x, a.toNat = x := ⟨_, rfl⟩
    have hx1 : x < 256 := by rw [← hx]; exact a.toNat_lt
    rw [hx] at ca
    have HX : Hid (a.toNat = x) := hx
    match l, hcs with
    | [], hcs =>
      by_cases h0 : x < 194
      · exact begr_low ad cp 1 [a] x w ca (by rw [← Bool.not_eq_true, beg1_iff]; omega) (by omega) (by omega) h0
      by_cases h1 : x < 224
      · exact begr1_2 ad cp a x w ca HX (by omega) h1
      by_cases h2 : x < 240
      · exact begr1_3 ad cp a x w ca HX (by omega) h2
      by_cases h3 : x ≤ 244
      · exact begr1_4 ad cp a x w ca HX (by omega) h3
      · exact begr_high ad cp 1 [a] x w ca (by rw [← Bool.not_eq_true, beg1_iff]; omega) (by omega) (by omega) (by omega)
    | [b], hcs =>
      have cb := hcs 0 b rfl
      by_cases h0 : x < 194
      · exact begr_low ad cp 2 [a, b] x w ca (by rw [← Bool.not_eq_true, beg2_iff]; omega) (by omega) (by omega) h0
      by_cases h1 : x < 224
      · exact begr_2 ad cp 2 [a, b] x w ca (by rw [← Bool.not_eq_true, beg2_iff]; omega) (by omega) (by omega) (by omega) h1 (by omega)
      by_cases h2 : x = 224
      · exact begr2_224 ad cp a b x w ca cb HX h2
      by_cases h3 : x = 237
      · exact begr2_237 ad cp a b x w ca cb HX h3
      by_cases h4 : x = 240
      · exact begr2_240 ad cp a b x w ca cb HX h4
      by_cases h5 : x = 244
      · exact begr2_244 ad cp a b x w ca cb HX h5
      by_cases h6 : x < 240
      · exact begr2_o3 ad cp a b x w ca cb HX (by omega) h6 h3
      by_cases h7 : x < 244
      · exact begr2_o4 ad cp a b x w ca cb HX (by omega) h7
      · exact begr_high ad cp 2 [a, b] x w ca (by rw [← Bool.not_eq_true, beg2_iff]; omega) (by omega) (by omega) (by omega)
    | [b, c], hcs =>
      have cb := hcs 0 b rfl
      have cc := hcs 1 c rfl
      by_cases h0 : x < 194
      · exact begr_low ad cp 3 [a, b, c] x w ca (by rw [← Bool.not_eq_true, beg3_iff]; omega) (by omega) (by omega) h0
      by_cases h1 : x < 224
      · exact begr_2 ad cp 3 [a, b, c] x w ca (by rw [← Bool.not_eq_true, beg3_iff]; omega) (by omega) (by omega) (by omega) h1 (by omega)
      by_cases h6 : x < 240
      · exact begr_3 ad cp 3 [a, b, c] x w ca (by rw [← Bool.not_eq_true, beg3_iff]; omega) (by omega) (by omega) (by omega) h6 (by omega)
      by_cases h4 : x = 240
      · exact begr3_240 ad cp a b c x w ca cb cc HX h4
      by_cases h5 : x = 244
      · exact begr3_244 ad cp a b c x w ca cb cc HX h5
      by_cases h7 : x < 244
      · exact begr3_o4 ad cp a b c x w ca cb cc HX (by omega) h7
      · exact begr_high ad cp 3 [a, b, c] x w ca (by rw [← Bool.not_eq_true, beg3_iff]; omega) (by omega) (by omega) (by omega)
    | b :: c :: d :: m, hcs => exact begr_long (some ad) cp _ _ w (by simp [beginsL]) (by simp)
end Go.Proofs.Ytfimfipflfkolaa

namespace Go.Proofs.Ytfimfipflfkolaa
open Go.RowKit
set_option linter.unusedVariables false
set_option linter.unusedSimpArgs false

def inB (r a b : Int) : Bool := decide (a ≤ r) && decide (r ≤ b)
def wideT : List Int := [4352, 4447, 11904, 12350, 12353, 13311, 13312, 19903, 19968, 40959, 40960, 42191, 44032, 55203, 63744, 64255, 65072, 65135, 65280, 65376, 65504, 65510, 127744, 128591, 129280, 129535, 131072, 196605, 196608, 262141]
def wideB (r : Int) : Bool := (List.range 15).any fun k => inB r (wideT.getD (2 * k) 0) (wideT.getD (2 * k + 1) 0)
def zeroB (r : Int) : Bool := !mayR r || decide (r < 32) || inB r 127 159 || inB r 768 879 || inB r 8203 8207 || inB r 65024 65039
def widthL (r : Int) : Int := if zeroB r = true then 0 else if wideB r = true then 2 else 1
theorem inr_any (r a b : Int) (w : World) : Calls Try.prog 67 #[.int .i32 r, .int .i32 a, .int .i32 b] w fun e w' => e = .returned (.bool (inB r a b)) ∧ w = w' := by
  unfold inB
  by_cases h1 : a ≤ r
  · by_cases h2 : r ≤ b
    · go_enter Try.func67, Try.ntmps67
      go_wp2
      go_ret
      exact ⟨by simp [h1, h2], rfl⟩
    · go_enter Try.func67, Try.ntmps67
      go_wp2
      go_ret
      exact ⟨by simp [h1, h2], rfl⟩
  · go_enter Try.func67, Try.ntmps67
    go_wp2
    go_ret
    exact ⟨by simp [show decide (a ≤ r) = false by simpa using h1], rfl⟩
theorem widthr_zero (r : Int) (h0 : -2147483648 ≤ r) (h1 : r ≤ 2147483647) (w : World) (hz : zeroB r = true) : Calls Try.prog 60 #[.int .i32 r] w fun e w' => e = .returned (.int .i64 0) ∧ Below w.heap.size w w' := by
  unfold zeroB at hz
  cases a1 : mayR r with
  | false =>
    clear hz
    go_enter Try.func60, Try.ntmps60
    go_wp2_with (first | ((with_reducible refine (mayr_any _ h0 h1 _).mono ?_); rintro e w' ⟨rfl, rfl⟩) | ((with_reducible refine (inr_any _ _ _ _).mono ?_); rintro e w' ⟨rfl, rfl⟩))
    go_ret
    exact ⟨rfl, Below.refl _ _⟩
  | true =>
    by_cases a2 : r < 32
    · clear hz
      go_enter Try.func60, Try.ntmps60
      go_wp2_with (first | ((with_reducible refine (mayr_any _ h0 h1 _).mono ?_); rintro e w' ⟨rfl, rfl⟩) | ((with_reducible refine (inr_any _ _ _ _).mono ?_); rintro e w' ⟨rfl, rfl⟩))
      go_ret
      exact ⟨rfl, Below.refl _ _⟩
    · cases a3 : inB r 127 159 with
      | true =>
        clear hz
        go_enter Try.func60, Try.ntmps60
        go_wp2_with (first | ((with_reducible refine (mayr_any _ h0 h1 _).mono ?_); rintro e w' ⟨rfl, rfl⟩) | ((with_reducible refine (inr_any _ _ _ _).mono ?_); rintro e w' ⟨rfl, rfl⟩))
        go_ret
        exact ⟨rfl, Below.refl _ _⟩
      | false =>
        cases a4 : inB r 768 879 with
        | true =>
          clear hz
          go_enter Try.func60, Try.ntmps60
          go_wp2_with (first | ((with_reducible refine (mayr_any _ h0 h1 _).mono ?_); rintro e w' ⟨rfl, rfl⟩) | ((with_reducible refine (inr_any _ _ _ _).mono ?_); rintro e w' ⟨rfl, rfl⟩))
          go_ret
          exact ⟨rfl, Below.refl _ _⟩
        | false =>
          cases a5 : inB r 8203 8207 with
          | true =>
            clear hz
            go_enter Try.func60, Try.ntmps60
            go_wp2_with (first | ((with_reducible refine (mayr_any _ h0 h1 _).mono ?_); rintro e w' ⟨rfl, rfl⟩) | ((with_reducible refine (inr_any _ _ _ _).mono ?_); rintro e w' ⟨rfl, rfl⟩))
            go_ret
            exact ⟨rfl, Below.refl _ _⟩
          | false =>
            have a6 : inB r 65024 65039 = true := by simpa [a1, a2, a3, a4, a5] using hz
            clear hz
            go_enter Try.func60, Try.ntmps60
            go_wp2_with (first | ((with_reducible refine (mayr_any _ h0 h1 _).mono ?_); rintro e w' ⟨rfl, rfl⟩) | ((with_reducible refine (inr_any _ _ _ _).mono ?_); rintro e w' ⟨rfl, rfl⟩))
            go_ret
            exact ⟨rfl, Below.refl _ _⟩
theorem wide_cell (w : World) (j : Nat) (h : j < 30) : (w.alloc (.cells #[.int .i32 4352, .int .i32 4447, .int .i32 11904, .int .i32 12350, .int .i32 12353, .int .i32 13311, .int .i32 13312, .int .i32 19903, .int .i32 19968, .int .i32 40959, .int .i32 40960, .int .i32 42191, .int .i32 44032, .int .i32 55203, .int .i32 63744, .int .i32 64255, .int .i32 65072, .int .i32 65135, .int .i32 65280, .int .i32 65376, .int .i32 65504, .int .i32 65510, .int .i32 127744, .int .i32 128591, .int .i32 129280, .int .i32 129535, .int .i32 131072, .int .i32 196605, .int .i32 196608, .int .i32 262141] 21)).cell? ⟨w.heap.size, j, none⟩ = some (.int .i32 (wideT.getD j 0)) := by
  have h' := World.news_of_block (heap_alloc_new w (.cells #[.int .i32 4352, .int .i32 4447, .int .i32 11904, .int .i32 12350, .int .i32 12353, .int .i32 13311, .int .i32 13312, .int .i32 19903, .int .i32 19968, .int .i32 40959, .int .i32 40960, .int .i32 42191, .int .i32 44032, .int .i32 55203, .int .i32 63744, .int .i32 64255, .int .i32 65072, .int .i32 65135, .int .i32 65280, .int .i32 65376, .int .i32 65504, .int .i32 65510, .int .i32 127744, .int .i32 128591, .int .i32 129280, .int .i32 129535, .int .i32 131072, .int .i32 196605, .int .i32 196608, .int .i32 262141] 21)) j (.int .i32 (wideT.getD j 0))
  rw [show (⟨w.heap.size, 0, none⟩ : Addr).add j = ⟨w.heap.size, j, none⟩ by unfold Addr.add; split <;> simp_all] at h'
  refine h' ?_
  have e : (#[.int .i32 4352, .int .i32 4447, .int .i32 11904, .int .i32 12350, .int .i32 12353, .int .i32 13311, .int .i32 13312, .int .i32 19903, .int .i32 19968, .int .i32 40959, .int .i32 40960, .int .i32 42191, .int .i32 44032, .int .i32 55203, .int .i32 63744, .int .i32 64255, .int .i32 65072, .int .i32 65135, .int .i32 65280, .int .i32 65376, .int .i32 65504, .int .i32 65510, .int .i32 127744, .int .i32 128591, .int .i32 129280, .int .i32 129535, .int .i32 131072, .int .i32 196605, .int .i32 196608, .int .i32 262141] : Array Value) = (wideT.map (Value.int .i32)).toArray := rfl
  rw [e]
  have hl : wideT.length = 30 := rfl
  simp [List.getElem?_eq_getElem (show j < wideT.length by omega), List.getD]
def WidePost (r : Int) (w : World) (e : Ending) (w' : World) : Prop := e = .returned (.int .i64 (if wideB r = true then 2 else 1)) ∧ Below w.heap.size w w'
def WideRel (r : Int) (W : World) (i : Value) (wr : World) : Prop := ∃ k : Nat, k ≤ 15 ∧ i = .int .i64 ((2 * k : Nat) : Int) ∧ (∀ j, j < k → inB r (wideT.getD (2 * j) 0) (wideT.getD (2 * j + 1) 0) = false) ∧ Below W.heap.size W wr
theorem below_drewW {B : Nat} {w w' : World} (h : Below B w w') (n : Nat) : Below B w (w'.drewN n) := ⟨h.os, h.tape, h.output, h.size, h.block⟩
set_option maxHeartbeats 1000000 in
set_option maxRecDepth 100000 in
theorem widthr_some (r : Int) (h0 : -2147483648 ≤ r) (h1 : r ≤ 2147483647) (w : World) (hz : zeroB r = false) : Calls Try.prog 60 #[.int .i32 r] w (WidePost r w) := by
  unfold zeroB at hz
  simp only [Bool.or_eq_false_iff, Bool.not_eq_false', decide_eq_false_iff_not] at hz
  obtain ⟨⟨⟨⟨⟨a1, a2⟩, a3⟩, a4⟩, a5⟩, a6⟩ := hz
  obtain ⟨W, hW⟩ : ∃ W, W = w.alloc (.cells #[.int .i32 4352, .int .i32 4447, .int .i32 11904, .int .i32 12350, .int .i32 12353, .int .i32 13311, .int .i32 13312, .int .i32 19903, .int .i32 19968, .int .i32 40959, .int .i32 40960, .int .i32 42191, .int .i32 44032, .int .i32 55203, .int .i32 63744, .int .i32 64255, .int .i32 65072, .int .i32 65135, .int .i32 65280, .int .i32 65376, .int .i32 65504, .int .i32 65510, .int .i32 127744, .int .i32 128591, .int .i32 129280, .int .i32 129535, .int .i32 131072, .int .i32 196605, .int .i32 196608, .int .i32 262141] 21) := ⟨_, rfl⟩
  have hcell : ∀ j, j < 30 → W.cell? ⟨w.heap.size, j, none⟩ = some (.int .i32 (wideT.getD j 0)) := fun j hj => by rw [hW]; exact wide_cell w j hj
  have hWz : w.heap.size < W.heap.size := by rw [hW]; simp
  have hWb : Below w.heap.size w W := by rw [hW]; exact (Below.refl _ _).alloc (Nat.le_refl _) _
  have HC := Lib.hid hcell
  have HWB := Lib.hid hWb
  have HW := Lib.hid hW
  clear hcell hWb hW
  go_enter Try.func60, Try.ntmps60
  go_wp2_with (first | ((with_reducible refine (mayr_any _ h0 h1 _).mono ?_); rintro e w' ⟨rfl, rfl⟩) | ((with_reducible refine (inr_any _ _ _ _).mono ?_); rintro e w' ⟨rfl, rfl⟩))
  rw [← HW.out]
  go_loopw [4] (fun i wr => WideRel r W i wr) (fun i _ => 30 - (intOf i).toNat)
  case atStart => exact ⟨0, by omega, rfl, fun j hj => absurd hj (by omega), Below.refl _ _⟩
  case round =>
    obtain ⟨k, hk, rfl, hf, hb⟩ := hrel
    have HF := Lib.hid hf
    have HB := Lib.hid hb
    clear hf
    by_cases hlt : k < 15
    · obtain ⟨j, hj⟩ : ∃ j, j = 2 * k := ⟨_, rfl⟩
      have c0 : wr.cell? ⟨w.heap.size, j, none⟩ = some (.int .i32 (wideT.getD (2 * k) 0)) := by rw [hj]; exact (hb.cell (p := ⟨w.heap.size, 2 * k, none⟩) hWz).trans (HC.out _ (by omega))
      have c1 : wr.cell? ⟨w.heap.size, j + 1, none⟩ = some (.int .i32 (wideT.getD (2 * k + 1) 0)) := by rw [hj]; exact (hb.cell (p := ⟨w.heap.size, 2 * k + 1, none⟩) hWz).trans (HC.out _ (by omega))
      rw [← hj]
      have hj30 : j < 30 := by omega
      have hj31 : j + 1 < 30 := by omega
      generalize hg0 : wideT.getD (2 * k) 0 = lo at c0
      generalize hg1 : wideT.getD (2 * k + 1) 0 = hi at c1
      have HJ := Lib.hid hj
      have HG0 := Lib.hid hg0
      have HG1 := Lib.hid hg1
      clear hb hj hg0 hg1
      have hsum : IntKind.i64.wrap ((j : Int) + 1) = (j : Int) + 1 := IntWalk.i64_in _ (by omega)
      have hs0 : 0 ≤ (j : Int) + 1 := by omega
      have hs1 : ((j : Int) + 1).toNat = j + 1 := by omega
      go_wp2
      go_quiet ((go_at_call 67; exact Calls.quiet_of_same ((inr_any _ _ _ _).mono (fun e w' h => ⟨h.1, h.2.symm⟩))))
      clear hsum hs0 hs1
      go_wp2
      · rename_i hin
        go_ret
        refine ⟨?_, HWB.out.trans ((below_drewW HB.out nq).mono (by omega))⟩
        have hw : wideB r = true := by
          unfold wideB
          rw [List.any_eq_true]
          refine ⟨k, List.mem_range.2 hlt, ?_⟩
          rw [HG0.out, HG1.out]
          exact hin
        rw [if_pos hw]
        rfl
      · rename_i hin
        go_roundw
        case rel =>
          refine ⟨k + 1, by omega, by rw [HJ.out]; go_num, fun i hi => ?_, below_drewW HB.out nq⟩
          by_cases e : i = k
          · rw [e, HG0.out, HG1.out]; exact hin
          · exact HF.out i (by omega)
        case measure => simp [intOf]; omega
    · obtain rfl : k = 15 := by omega
      go_wp2
      go_ret
      refine ⟨?_, HWB.out.trans (HB.out.mono (by omega))⟩
      have hw : wideB r = false := by
        unfold wideB
        rw [List.any_eq_false]
        intro i hi
        rw [HF.out i (List.mem_range.1 hi)]
        simp
      rw [hw]
      rfl
theorem widthr_any (r : Int) (h0 : -2147483648 ≤ r) (h1 : r ≤ 2147483647) (w : World) : Calls Try.prog 60 #[.int .i32 r] w fun e w' => e = .returned (.int .i64 (widthL r)) ∧ Below w.heap.size w w' := by
  cases hz : zeroB r with
  | true => unfold widthL; rw [hz]; exact widthr_zero r h0 h1 w hz
  | false => unfold widthL; rw [hz]; exact widthr_some r h0 h1 w hz
end Go.Proofs.Ytfimfipflfkolaa
