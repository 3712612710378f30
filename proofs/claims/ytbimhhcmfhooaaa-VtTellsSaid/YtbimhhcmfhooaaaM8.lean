/- What is proved here: a contract of the program's function on a byte, in the call's own lists, whatever the state; contracts of the program's Step and All on a terminal's parser, at any state that may be: in new memory; an act out of a slice of acts: its six cells; the document's comparisons of parsers, at parsers that read alike; the document's comparison of acts, at acts that read alike. -/
import Derived.Test.YtbimhhcmfhooaaaM7
import Derived.Laws.Cover3
import Derived.Test.YtbimhhcmfhooaaaM2
import Derived.Test.YtbimhhcmfhooaaaM4
import Derived.Deep.QuietTactic
import Derived.BigQuiet
namespace Go.Proofs.Ytbimhhcmfhooaaa
open Go.RowKit
set_option linter.unusedVariables false
set_option linter.unusedSimpArgs false

theorem kind_cases (b : UInt8) : (b.toNat < 32 ∧ kindN b = 0) ∨ (32 ≤ b.toNat ∧ b.toNat < 127 ∧ kindN b ≠ 0 ∧ kindN b ≠ 4 ∧ kindN b ≠ 5) ∨ (b.toNat = 127 ∧ kindN b = 4) ∨ (128 ≤ b.toNat ∧ kindN b = 5) := by
  have := b.toNat_lt
  unfold kindN
  repeat' split
  all_goals omega
theorem pr_zero {p : Pr} (hok : PrOk p) (hm : p.mode = 0) : { p with utf := [] } = prM 0 := by
  have h1 : p.priv = 0 ∧ p.params = [] := by rcases hok.csi with h | h | h <;> first | omega | exact h
  have h2 : p.inter = [] := by
    have := hok.with_
    rcases Nat.eq_zero_or_pos p.inter.length with h | h
    · exact List.eq_nil_of_length_eq_zero h
    · omega
  rw [show ({ p with utf := [] } : Pr) = ⟨p.mode, p.priv, p.params, p.inter, []⟩ from rfl, hm, h1.1, h1.2, h2]
  rfl
theorem stepIn_any (vp vi vu av : Value) (p : Pr) (b : UInt8) (l : List Ac) (base : Nat) (B : Nat → Prop) (w : World) (h : StL w base B vp vi vu av p.params p.inter p.utf l) (hbase : base ≤ w.heap.size) (hl : l.length ≤ 1099511626000) (hok : PrOk p) :
    Calls Try.prog 24 #[.agg #[.int .i64 (p.mode : Int), .int .u8 (p.priv : Int), vp, vi, vu], .int .u8 (b.toNat : Int), av] w (VPost w base B (vtL p b).1 (l ++ (vtL p b).2)) := by
  have hkc := kind_cases b
  by_cases hm : p.mode = 0
  · have hz := pr_zero hok hm
    by_cases hu : p.utf.length = 0
    · have hu2 : p.utf = [] := List.eq_nil_of_length_eq_zero hu
      have hp : p = prM 0 := by rw [← hz, ← hu2]
      have e : vtL p b = vtN p b := by unfold vtL; rw [if_neg (by omega)]
      rw [e]
      by_cases b1 : b.toNat = 24
      · rw [show vtN p b = (prM 0, []) from by unfold vtN; rw [if_pos (.inl b1)], List.append_nil]
        exact step_ea24 vp vi vu av p b l base B w h hbase hl hm hu b1
      by_cases b2 : b.toNat = 26
      · rw [show vtN p b = (prM 0, []) from by unfold vtN; rw [if_pos (.inr b2)], List.append_nil]
        exact step_ea26 vp vi vu av p b l base B w h hbase hl hm hu b2
      by_cases b3 : b.toNat = 27
      · rw [show vtN p b = (prM 1, []) from by unfold vtN; rw [if_neg (by omega), if_pos b3], List.append_nil]
        exact step_eb vp vi vu av p b l base B w h hbase hl hm hu b3
      rcases hkc with ⟨c1, c2⟩ | ⟨c0, c1, c2, c3, c4⟩ | ⟨c1, c2⟩ | ⟨c1, c2⟩
      · rw [show vtN p b = (p, [acC b.toNat]) from by unfold vtN; rw [if_neg (by omega), if_neg b3, if_pos hm, if_pos c1, ← hp]]
        exact step_ed vp vi vu av p b l base B w h hbase hl hm hu b1 b2 b3 c2
      · rw [show vtN p b = ({ prM 0 with utf := (stepL p.utf b).1 }, printsL (stepL p.utf b).2) from by unfold vtN; rw [if_neg (by omega), if_neg b3, if_pos hm, if_neg (by omega), if_neg (by omega), hu2]]
        exact step_ef vp vi vu av p _ b l _ base B w h hbase hl hm hu b1 b2 b3 c2 c3 fun W B1 av1 hW hbW => ground_any vp vi vu av1 p b l base B1 W hW hbW (by omega) (by omega)
      · rw [show vtN p b = (p, []) from by unfold vtN; rw [if_neg (by omega), if_neg b3, if_pos hm, if_neg (by omega), if_pos c1, ← hp], List.append_nil]
        exact step_ee vp vi vu av p b l base B w h hbase hl hm hu b1 b2 b3 c2
      · rw [show vtN p b = ({ prM 0 with utf := (stepL p.utf b).1 }, printsL (stepL p.utf b).2) from by unfold vtN; rw [if_neg (by omega), if_neg b3, if_pos hm, if_neg (by omega), if_neg (by omega), hu2]]
        exact step_ef vp vi vu av p _ b l _ base B w h hbase hl hm hu b1 b2 b3 (by omega) (by omega) fun W B1 av1 hW hbW => ground_any vp vi vu av1 p b l base B1 W hW hbW (by omega) (by omega)
    · have hbg : beginsL p.utf = true := by
        rcases hok.utf with h | ⟨_, h⟩
        · rw [h] at hu; exact absurd rfl hu
        · exact h
      have hl3 := (beginsL_len _ hbg).2
      by_cases hk : kindN b = 5
      · have h8 : 128 ≤ b.toNat := by omega
        rw [vt_pend p b hm (by omega) hbg h8]
        exact step_kf vp vi vu av p _ b l _ base B w h hbase hl hm (by omega) hk (by omega) (by omega) (by omega) (by omega) (by omega) fun W B1 av1 hW hbW => ground_any vp vi vu av1 p b l base B1 W hW hbW (by omega) hl3
      · have h8 : b.toNat < 128 := by omega
        have e : vtL p b = ((vtN (prM 0) b).1, acP 65533 :: (vtN (prM 0) b).2) := by
          unfold vtL
          rw [if_pos ⟨hm, by omega⟩, if_neg (by unfold goesB; rw [decide_eq_false (by omega)]; simp), hz]
        rw [e]
        by_cases b1 : b.toNat = 24
        · rw [show vtN (prM 0) b = (prM 0, []) from by unfold vtN; rw [if_pos (.inl b1)]]
          exact step_ya24 vp vi vu av p b l base B w h hbase hl hm (by omega) hk b1
        by_cases b2 : b.toNat = 26
        · rw [show vtN (prM 0) b = (prM 0, []) from by unfold vtN; rw [if_pos (.inr b2)]]
          exact step_ya26 vp vi vu av p b l base B w h hbase hl hm (by omega) hk b2
        by_cases b3 : b.toNat = 27
        · rw [show vtN (prM 0) b = (prM 1, []) from by unfold vtN; rw [if_neg (by omega), if_pos b3]]
          exact step_yb vp vi vu av p b l base B w h hbase hl hm (by omega) hk b3
        rcases hkc with ⟨c1, c2⟩ | ⟨c0, c1, c2, c3, c4⟩ | ⟨c1, c2⟩ | ⟨c1, c2⟩
        · rw [show vtN (prM 0) b = (prM 0, [acC b.toNat]) from by unfold vtN; rw [if_neg (by omega), if_neg b3, if_pos (show (prM 0).mode = 0 from rfl), if_pos c1], show l ++ acP 65533 :: [acC b.toNat] = (l ++ [acP 65533]) ++ [acC b.toNat] by simp]
          have := step_yd vp vi vu av p b l base B w h hbase hl hm (by omega) hk b1 b2 b3 c2
          rw [hz] at this
          exact this
        · rw [show vtN (prM 0) b = ({ prM 0 with utf := (stepL [] b).1 }, printsL (stepL [] b).2) from by unfold vtN; rw [if_neg (by omega), if_neg b3, if_pos (show (prM 0).mode = 0 from rfl), if_neg (by omega), if_neg (by omega)]]
          refine step_yf vp vi vu av p _ b l _ base B w h hbase hl hm (by omega) hk b1 b2 b3 c2 c3 fun W B1 av1 hW hbW => ?_
          have := ground_any vp vi (.slice none 0 0) av1 { p with utf := [] } b (l ++ [acP 65533]) base B1 W hW hbW (by simp; omega) (by simp)
          rw [show l ++ acP 65533 :: printsL (stepL [] b).2 = (l ++ [acP 65533]) ++ printsL (stepL [] b).2 by simp]
          exact this
        · rw [show vtN (prM 0) b = (prM 0, []) from by unfold vtN; rw [if_neg (by omega), if_neg b3, if_pos (show (prM 0).mode = 0 from rfl), if_neg (by omega), if_pos c1]]
          have := step_ye vp vi vu av p b l base B w h hbase hl hm (by omega) hk b1 b2 b3 c2
          rw [hz] at this
          exact this
        · omega
  · have e : vtL p b = vtN p b := by unfold vtL; rw [if_neg (by omega)]
    rw [e]
    by_cases b1 : b.toNat = 24
    · rw [show vtN p b = (prM 0, []) from by unfold vtN; rw [if_pos (.inl b1)], List.append_nil]
      exact step_ia24 vp vi vu av p b l base B w h hbase hl hm b1
    by_cases b2 : b.toNat = 26
    · rw [show vtN p b = (prM 0, []) from by unfold vtN; rw [if_pos (.inr b2)], List.append_nil]
      exact step_ia26 vp vi vu av p b l base B w h hbase hl hm b2
    by_cases b3 : b.toNat = 27
    · rw [show vtN p b = (prM 1, []) from by unfold vtN; rw [if_neg (by omega), if_pos b3], List.append_nil]
      exact step_ib vp vi vu av p b l base B w h hbase hl hm b3
    by_cases m7 : p.mode = 7
    · rw [show vtN p b = (if b.toNat = 7 then prM 0 else p, []) from by unfold vtN; rw [if_neg (by omega), if_neg b3, if_neg hm, if_pos m7]; split <;> rfl, List.append_nil]
      exact step_ic vp vi vu av p _ b l l base B w h hbase hl hm b1 b2 b3 m7 (fun W B1 av1 hW hbW => text_any vp vi vu av1 p b l base B1 W hW) rfl
    rcases hkc with ⟨c1, c2⟩ | ⟨c0, c1, c2, c3, c4⟩ | ⟨c1, c2⟩ | ⟨c1, c2⟩
    · rw [show vtN p b = (p, [acC b.toNat]) from by unfold vtN; rw [if_neg (by omega), if_neg b3, if_neg hm, if_neg m7, if_pos c1]]
      exact step_id vp vi vu av p b l base B w h hbase hl hm b1 b2 b3 m7 c2
    · rw [show vtN p b = vtM p b from by unfold vtN; rw [if_neg (by omega), if_neg b3, if_neg hm, if_neg m7, if_neg (by omega), if_neg (by omega), if_neg (by omega)]]
      exact step_ih vp vi vu av p _ b l _ base B w h hbase hl hm b1 b2 b3 m7 c2 c3 c4 fun W B1 av1 hW hbW => sequence_any vp vi vu av1 p b l base B1 W hW hbW (by omega) hok hm m7 c0 c1
    · rw [show vtN p b = (p, []) from by unfold vtN; rw [if_neg (by omega), if_neg b3, if_neg hm, if_neg m7, if_neg (by omega), if_pos c1], List.append_nil]
      exact step_ie vp vi vu av p b l base B w h hbase hl hm b1 b2 b3 m7 c2
    · rw [show vtN p b = (prM 0, []) from by unfold vtN; rw [if_neg (by omega), if_neg b3, if_neg hm, if_neg m7, if_neg (by omega), if_neg (by omega), if_pos c1], List.append_nil]
      exact step_ig vp vi vu av p b l base B w h hbase hl hm b1 b2 b3 m7 c2
end Go.Proofs.Ytbimhhcmfhooaaa

namespace Go.Proofs.Ytbimhhcmfhooaaa
open Go.RowKit
set_option linter.unusedVariables false
set_option linter.unusedSimpArgs false

theorem nilI (w : World) (A : Option Addr) (n c : Nat) : (binOp .eql 23 (.slice A n c) (.slice none 0 0)).run Try.prog w = .ok (.bool A.isNone) w := by
  have := run_equal_slice_nil w 23 3 A n c Try.underlying23
  simp [binOp, this]
theorem nilB (w : World) (A : Option Addr) (n c : Nat) : (binOp .eql 22 (.slice A n c) (.slice none 0 0)).run Try.prog w = .ok (.bool A.isNone) w := by
  have := run_equal_slice_nil w 22 5 A n c Try.underlying22
  simp [binOp, this]
set_option maxHeartbeats 1000000 in
theorem cloneI_any (v : Value) (l : List Int) (w : World) (hv : IS w w.heap.size v l) (hl : l.length ≤ 1048576) : Calls Try.prog 39 #[v] w fun e w' => ∃ u, e = .returned u ∧ OI w' w.heap.size u l ∧ Below w.heap.size w w' := by
  have HV := Lib.hid hv
  obtain ⟨A, c, rfl, g1, g2, g3⟩ := hv.at_
  clear hv
  rcases A with _ | ad
  · have hl0 : l = [] := by
      rcases Nat.eq_zero_or_pos l.length with h | h
      · exact List.eq_nil_of_length_eq_zero h
      · obtain ⟨ad, hA, _⟩ := g3 0 h; cases hA
    subst hl0
    clear g3
    have hn := nilI w none 0 c
    rw [show (none : Option Addr).isNone = true from rfl] at hn
    go_enter Try.func39, Try.ntmps39
    go_wp2
    go_ret
    exact ⟨_, rfl, OI.nil _ _, Below.refl _ _⟩
  · clear g3
    have hn := nilI w (some ad) l.length c
    rw [show (some ad : Option Addr).isNone = false from rfl] at hn
    have HE : Hid (OI (w.alloc (.cells #[] 3)) w.heap.size (.slice (some ⟨w.heap.size, 0, none⟩) 0 0) []) := World.ownsRow_made (base := w.heap.size) (e := 3) (size := 1) w #[] 0 (Nat.le_refl _) (by simp [maxLen]) (by simp)
    go_enter Try.func39, Try.ntmps39
    go_wp2_with (at_builtin; go_loud (refine wpl_appI _ rfl (.tmp 5) (.tmp 6) rfl w.heap.size _ _ _ [] l rfl rfl HE.out (HV.out.alloc (Nat.le_refl _) _) (by simp; omega) (by simp) ?_; intro v1 w1 ho1 hg1 hb1 _))
    go_ret
    exact ⟨v1, rfl, by rw [← List.nil_append l]; exact ho1, ((Below.refl _ _).alloc (Nat.le_refl _) _).trans hb1⟩
set_option maxHeartbeats 1000000 in
theorem cloneB_any (v : Value) (l : List UInt8) (w : World) (hv : BS w w.heap.size v l) (hl : l.length ≤ 1048576) : Calls Try.prog 40 #[v] w fun e w' => ∃ u, e = .returned u ∧ OB w' w.heap.size u l ∧ Below w.heap.size w w' := by
  have HV := Lib.hid hv
  obtain ⟨A, c, rfl, g1, g2, g3⟩ := hv.at_
  clear hv
  rcases A with _ | ad
  · have hl0 : l = [] := by
      rcases Nat.eq_zero_or_pos l.length with h | h
      · exact List.eq_nil_of_length_eq_zero h
      · obtain ⟨ad, hA, _⟩ := g3 0 h; cases hA
    subst hl0
    clear g3
    have hn := nilB w none 0 c
    rw [show (none : Option Addr).isNone = true from rfl] at hn
    go_enter Try.func40, Try.ntmps40
    go_wp2
    go_ret
    exact ⟨_, rfl, OB.nil _ _, Below.refl _ _⟩
  · clear g3
    have hn := nilB w (some ad) l.length c
    rw [show (some ad : Option Addr).isNone = false from rfl] at hn
    have HE : Hid (OB (w.alloc (.cells #[] 5)) w.heap.size (.slice (some ⟨w.heap.size, 0, none⟩) 0 0) []) := World.ownsRow_made (base := w.heap.size) (e := 5) (size := 1) w #[] 0 (Nat.le_refl _) (by simp [maxLen]) (by simp)
    go_enter Try.func40, Try.ntmps40
    go_wp2_with (at_builtin; go_loud (refine wpl_app _ rfl (.tmp 5) (.tmp 6) rfl w.heap.size _ _ _ [] l rfl rfl HE.out (HV.out.alloc (Nat.le_refl _) _) (by simp; omega) (by simp) ?_; intro v1 w1 ho1 hg1 hb1 _))
    go_ret
    exact ⟨v1, rfl, by rw [← List.nil_append l]; exact ho1, ((Below.refl _ _).alloc (Nat.le_refl _) _).trans hb1⟩
theorem own_lower {w : World} {base b2 size n : Nat} {e : TypeId} {v : Value} {xs : List Value} (h : w.ownsRow base e size v n xs) (hb : b2 ≤ base) : w.ownsRow b2 e size v n xs := by
  refine ⟨h.1, ?_⟩
  rcases h.2 with hn | ⟨g, cap, cur, hv, hg, rest⟩
  · exact .inl hn
  · exact .inr ⟨g, cap, cur, hv, Nat.le_trans hb hg, rest⟩
/-- The box with a field set. -/
theorem box_set {w : World} {g : Nat} {t : TypeId} {x0 x1 x2 x3 x4 u : Value} (h : w.heap[g]? = some (.cells #[x0, x1, x2, x3, x4] t)) :
    (w.setCell ⟨g, 2, none⟩ u).heap[g]? = some (.cells #[x0, x1, u, x3, x4] t) ∧ (w.setCell ⟨g, 3, none⟩ u).heap[g]? = some (.cells #[x0, x1, x2, u, x4] t) := by
  constructor
  · rw [heap_setCell_same w g 2 _ t u h]; rfl
  · rw [heap_setCell_same w g 3 _ t u h]; rfl
theorem two_keptS {w w4 : World} {x y : Obj} (hb : Below ((w.alloc x).alloc y).heap.size ((w.alloc x).alloc y) w4) : (w4.heap[w.heap.size]? = some x ∧ w4.heap[w.heap.size + 1]? = some y) ∧ Below w.heap.size w w4 ∧ w.heap.size + 1 + 1 ≤ w4.heap.size := by
  have h2 := two_new w x y
  refine ⟨two_keptB (by rw [← h2.2]; exact hb), h2.1.trans (hb.mono (by omega)), ?_⟩
  have := hb.size
  omega
theorem field2 {w w4 w5 : World} {x0 x1 x2 x3 x4 u : Value} {t : TypeId} {y : Obj} (hb4 : Below w.heap.size w w4) (hz4 : w.heap.size + 1 + 1 ≤ w4.heap.size) (k0 : w4.heap[w.heap.size]? = some (.cells #[x0, x1, x2, x3, x4] t)) (k1 : w4.heap[w.heap.size + 1]? = some y) (hb : Below (w4.setCell ⟨w.heap.size, 2, none⟩ u).heap.size (w4.setCell ⟨w.heap.size, 2, none⟩ u) w5) :
    w5.heap[w.heap.size]? = some (.cells #[x0, x1, u, x3, x4] t) ∧ w5.heap[w.heap.size + 1]? = some y ∧ Below w.heap.size w w5 ∧ w.heap.size + 1 + 1 ≤ w5.heap.size ∧ (∀ e size n v xs, w4.ownsRow (w.heap.size + 1 + 1) e size v n xs → w5.ownsRow (w.heap.size + 1 + 1) e size v n xs) := by
  have hs : (w4.setCell ⟨w.heap.size, 2, none⟩ u).heap.size = w4.heap.size := by simp
  have hz := hb.size
  refine ⟨(hb.block _ (by omega)).trans (box_set k0).1, (hb.block _ (by omega)).trans ((Below.heap_setCell _ _ _ _ (by simp)).trans k1), (hb4.setCell (p := ⟨w.heap.size, 2, none⟩) (Nat.le_refl _) u).trans (hb.mono (by have := hb4.size; omega)), by omega, fun e size n v xs h => ?_⟩
  have h1 := ownsRow_setCell_below h (a := ⟨w.heap.size, 2, none⟩) (by show w.heap.size < w.heap.size + 1 + 1; omega) u
  exact own_keep h1 (fun g hg => hb.block g (World.ownsRow.lt h1 g hg).2)
theorem field3 {w w4 w5 : World} {x0 x1 x2 x3 x4 u : Value} {t : TypeId} {y : Obj} (hb4 : Below w.heap.size w w4) (hz4 : w.heap.size + 1 + 1 ≤ w4.heap.size) (k0 : w4.heap[w.heap.size]? = some (.cells #[x0, x1, x2, x3, x4] t)) (k1 : w4.heap[w.heap.size + 1]? = some y) (hb : Below (w4.setCell ⟨w.heap.size, 3, none⟩ u).heap.size (w4.setCell ⟨w.heap.size, 3, none⟩ u) w5) :
    w5.heap[w.heap.size]? = some (.cells #[x0, x1, x2, u, x4] t) ∧ w5.heap[w.heap.size + 1]? = some y ∧ Below w.heap.size w w5 ∧ w.heap.size + 1 + 1 ≤ w5.heap.size ∧ (∀ e size n v xs, w4.ownsRow (w.heap.size + 1 + 1) e size v n xs → w5.ownsRow (w.heap.size + 1 + 1) e size v n xs) := by
  have hs : (w4.setCell ⟨w.heap.size, 3, none⟩ u).heap.size = w4.heap.size := by simp
  have hz := hb.size
  refine ⟨(hb.block _ (by omega)).trans (box_set k0).2, (hb.block _ (by omega)).trans ((Below.heap_setCell _ _ _ _ (by simp)).trans k1), (hb4.setCell (p := ⟨w.heap.size, 3, none⟩) (Nat.le_refl _) u).trans (hb.mono (by have := hb4.size; omega)), by omega, fun e size n v xs h => ?_⟩
  have h1 := ownsRow_setCell_below h (a := ⟨w.heap.size, 3, none⟩) (by show w.heap.size < w.heap.size + 1 + 1; omega) u
  exact own_keep h1 (fun g hg => hb.block g (World.ownsRow.lt h1 g hg).2)
theorem size_set (w : World) (a : Addr) (u : Value) : (w.setCell a u).heap.size = w.heap.size := by simp
/-- Behind the copies. -/
theorem own_post {w w6 : World} {p : Pr} {v1 v2 v3 : Value} (hb : Below w.heap.size w w6) (h1 : OI w6 (w.heap.size + 1 + 1) v1 p.params) (h2 : OB w6 (w.heap.size + 1 + 1) v2 p.inter) (n : Nat) (hn : w.heap.size + 1 + 1 ≤ n) (h2n : ∀ g, v2.ownBlock = some g → g < n) (h3 : OB w6 n v3 p.utf) :
    PPost w w.heap.size (fun _ => False) p (.slice none 0 0) [] (.returned (.agg #[.int .i64 (p.mode : Int), .int .u8 (p.priv : Int), v1, v2, v3])) (fset w w6 4 v3 (.int .i64 (p.mode : Int)) (.int .u8 (p.priv : Int)) v1 v2 v3) := by
  have hst : StL w6 w.heap.size (fun x => v1.ownBlock = some x ∨ v2.ownBlock = some x ∨ v3.ownBlock = some x) v1 v2 v3 (.slice none 0 0) p.params p.inter p.utf [] := by
    refine ⟨fun x => v3.ownBlock = some x, ⟨own_lower h1 (by omega), own_lower h2 (by omega), h3.slO, OA.nil _ _ _⟩, fun x hx => .inr (.inr hx), fun x hx => ?_, fun g e => ⟨.inl e, fun hs => own_apart h1 h3 (by decide) g e hs⟩, fun g e => ⟨.inr (.inl e), fun hs => ?_⟩, fun g e => by (cases e)⟩
    · rcases hx with hx | hx | hx
      · have := World.ownsRow.lt h1 x hx; omega
      · have := World.ownsRow.lt h2 x hx; omega
      · have := World.ownsRow.lt h3 x hx; omega
    · have := h2n g e
      have := (World.ownsRow.lt h3 g hs).1
      omega
  refine pend_f (fun x hx => hx.elim) hst (fun x hx => .inr ?_) (Fr.of hb _) ⟨rfl, rfl, rfl, rfl, rfl⟩
  rcases hx with hx | hx | hx
  · exact (World.ownsRow.lt h1 x hx).1
  · exact (World.ownsRow.lt h2 x hx).1
  · have := (World.ownsRow.lt h3 x hx).1; omega
set_option maxHeartbeats 2000000 in
set_option maxRecDepth 100000 in
theorem own_anyP (vp vi vu : Value) (p : Pr) (S : Nat → Prop) (w : World) (hp : SL vI w S vp p.params) (hi : SL vB w S vi p.inter) (hu : SL vB w S vu p.utf) (hS : ∀ x, S x → x < w.heap.size) (l1 : p.params.length ≤ 16) (l2 : p.inter.length ≤ 2) (l3 : p.utf.length ≤ 3) :
    Calls Try.prog 25 #[.agg #[.int .i64 (p.mode : Int), .int .u8 (p.priv : Int), vp, vi, vu]] w (PPost w w.heap.size (fun _ => False) p (.slice none 0 0) []) := by
  have HP : Hid (∀ w2, Below w.heap.size w w2 → IS w2 w2.heap.size vp p.params) := fun w2 hb => ((hp.is hS).below hb).more hb.size
  have HI : Hid (∀ w2, Below w.heap.size w w2 → BS w2 w2.heap.size vi p.inter) := fun w2 hb => ((hi.bs hS).below hb).more hb.size
  have HU : Hid (∀ w2, Below w.heap.size w w2 → BS w2 w2.heap.size vu p.utf) := fun w2 hb => ((hu.bs hS).below hb).more hb.size
  obtain ⟨Ap, cp, rfl, p1, p2⟩ := hp.form
  obtain ⟨Ai, ci, rfl, i1, i2⟩ := hi.form
  obtain ⟨Au, cu, rfl, u1, u2⟩ := hu.form
  clear hp hi hu hS
  have HN := Lib.hid (two_new w)
  go_enter Try.func25, Try.ntmps25
  go_wp2_with (first
    | (go_at_call 39; go_loud (refine (cloneI_any _ p.params _ (HP.out _ (HN.out _ _).1) (by omega)).mono ?_; rintro e w4 ⟨v1, rfl, ho1, hb1⟩; obtain ⟨⟨k0, k1⟩, hb4, hz4⟩ := two_keptS hb1; rw [(HN.out _ _).2] at ho1; obtain ⟨A1, n1, rfl, q1, q2⟩ := ho1.sl.form; obtain ⟨c0, c1, c2, c3, c4, cf⟩ := five_cells k0; have K0 := Lib.hid k0; have K1 := Lib.hid k1; have HB4 := Lib.hid hb4; have HO1 := Lib.hid ho1; have HZ4 := Lib.hid hz4; clear k0 k1 hb1 hb4 hz4 ho1))
    | (go_at_call 40; go_loud ((with_reducible refine (cloneB_any _ p.inter _ (HI.out _ (HB4.out.setCell (Nat.le_refl _) _)) (by omega)).mono ?_); rintro e w5 ⟨v2, rfl, ho2, hb2⟩; obtain ⟨j0, j1, hb5, hz5, hkeep⟩ := field2 HB4.out HZ4.out K0.out K1.out hb2; rw [size_set] at ho2; have HO2 := Lib.hid (own_lower ho2 HZ4.out); have HO15 := Lib.hid (hkeep _ _ _ _ _ HO1.out); obtain ⟨A2, n2, rfl, q3, q4⟩ := ho2.sl.form; obtain ⟨e0, e1, e2, e3, e4, ef⟩ := five_cells j0; have J0 := Lib.hid j0; have J1 := Lib.hid j1; have HB5 := Lib.hid hb5; have HZ5 := Lib.hid hz5; clear j0 j1 hb2 hb5 hz5 ho2 hkeep))
    | (go_at_call 40; go_loud ((with_reducible refine (cloneB_any _ p.utf _ (HU.out _ (HB5.out.setCell (Nat.le_refl _) _)) (by omega)).mono ?_); rintro e w6 ⟨v3, rfl, ho3, hb3⟩; obtain ⟨j0, j1, hb6, hz6, hkeep⟩ := field3 HB5.out HZ5.out J0.out J1.out hb3; rw [size_set] at ho3; have HP6 := Lib.hid (own_post hb6 (hkeep _ _ _ _ _ HO15.out) (hkeep _ _ _ _ _ HO2.out) w5.heap.size HZ5.out (fun g e => (World.ownsRow.lt HO2.out g e).2) ho3); obtain ⟨A3, n3, rfl, q5, q6⟩ := ho3.sl.form; obtain ⟨f0, f1, f2, f3, f4, ff⟩ := five_cells j0; obtain ⟨r0, r1, r2, r3, r4, rf⟩ := five_cells j1; clear j0 j1 hb3 hb6 hz6 ho3 hkeep)))
  exact bodyPost_ret (v := .agg #[.int .i64 (p.mode : Int), .int .u8 (p.priv : Int), .slice A1 p.params.length n1, .slice A2 p.inter.length n2, .slice A3 p.utf.length n3]) (by simp [results, Try.results25, go_sem, r0, r1, r2, r3, r4]) rfl HP6.out
end Go.Proofs.Ytbimhhcmfhooaaa

namespace Go.Proofs.Ytbimhhcmfhooaaa
open Go.RowKit
set_option linter.unusedVariables false

/-- An element of a slice that reads as a list. -/
theorem SL.get {α : Type} {f : α → Value} {w : World} {S : Nat → Prop} {A : Option Addr} {n c : Nat} {l : List α} (h : SL f w S (.slice A n c) l) (k : Nat) (x : α) (hx : l[k]? = some x) : ∃ ad, A = some ad ∧ w.cell? (ad.add k) = some (f x) := by
  obtain ⟨A', c', hv, _, _, h3⟩ := h
  simp only [Value.slice.injEq] at hv
  have hk : k < l.length := (List.getElem?_eq_some_iff.1 hx).1
  obtain ⟨ad, hA, _, hc⟩ := h3 (by omega)
  exact ⟨ad, hv.1.trans hA, hc k x hx⟩
theorem AcsV.get {w : World} {S : Nat → Prop} {xs : List Value} {l : List Ac} (h : AcsV w S xs l) (k : Nat) (a : Ac) (ha : l[k]? = some a) : ∃ vp vi, SL vI w S vp a.params ∧ SL vB w S vi a.inter ∧ ∀ i u, [Value.int .i64 (a.kind : Int), .int .i32 a.r, .int .u8 (a.b : Int), .int .u8 (a.priv : Int), vp, vi][i]? = some u → xs[k * 6 + i]? = some u := by
  induction k generalizing xs l with
  | zero =>
    match l, h, ha with
    | x :: l, h, ha =>
      simp only [List.getElem?_cons_zero, Option.some.injEq] at ha
      subst ha
      obtain ⟨vp, vi, ys, hx, h1, h2, h3⟩ := h
      refine ⟨vp, vi, h1, h2, fun i u hu => ?_⟩
      rw [hx, Nat.zero_mul, Nat.zero_add]
      have hi := (List.getElem?_eq_some_iff.1 hu).1
      rw [List.getElem?_append_left hi]
      exact hu
  | succ k ih =>
    match l, h, ha with
    | x :: l, h, ha =>
      obtain ⟨vp, vi, ys, hx, h1, h2, h3⟩ := h
      obtain ⟨vp', vi', g1, g2, g3⟩ := ih h3 (by simpa using ha)
      refine ⟨vp', vi', g1, g2, fun i u hu => ?_⟩
      rw [hx, List.getElem?_append_right (by simp; omega), ← g3 i u hu]
      congr 1
      simp
      omega
theorem add_at (ad : Addr) (n i : Nat) (hi : 0 < i) : ad.add (n + i) = ⟨(ad.add n).block, (ad.add n).off + i, none⟩ := by
  unfold Addr.add
  rw [if_neg (by omega)]
  split
  · next h => subst h; simp
  · simp [Nat.add_assoc]
/-- The address xa is where an act's six cells begin. -/
def SixAt (w : World) (xa : Addr) (a : Ac) (vp vi : Value) : Prop :=
  w.cell? xa = some (.int .i64 (a.kind : Int)) ∧ w.cell? ⟨xa.block, xa.off + 1, none⟩ = some (.int .i32 a.r) ∧ w.cell? ⟨xa.block, xa.off + 2, none⟩ = some (.int .u8 (a.b : Int)) ∧ w.cell? ⟨xa.block, xa.off + 3, none⟩ = some (.int .u8 (a.priv : Int)) ∧ w.cell? ⟨xa.block, xa.off + 4, none⟩ = some vp ∧ w.cell? ⟨xa.block, xa.off + 5, none⟩ = some vi
theorem AS.get {w : World} {T S : Nat → Prop} {A : Option Addr} {n c : Nat} {l : List Ac} (h : AS w T S (.slice A n c) l) (k : Nat) (a : Ac) (ha : l[k]? = some a) :
    ∃ ad vp vi, A = some ad ∧ T (ad.add (k * 6)).block ∧ SL vI w S vp a.params ∧ SL vB w S vi a.inter ∧ SixAt w (ad.add (k * 6)) a vp vi := by
  obtain ⟨A', c', xs, hv, _, _, h3, h4⟩ := h
  simp only [Value.slice.injEq] at hv
  have hk : k < l.length := (List.getElem?_eq_some_iff.1 ha).1
  obtain ⟨ad, hA, hT, hc⟩ := h4 (by omega)
  obtain ⟨vp, vi, g1, g2, g3⟩ := h3.get k a ha
  refine ⟨ad, vp, vi, hv.1.trans hA, by rw [block_add]; exact hT, g1, g2, hc _ _ (g3 0 _ rfl), ?_, ?_, ?_, ?_, ?_⟩
  · rw [← add_at _ _ _ (by omega)]; exact hc _ _ (g3 1 _ rfl)
  · rw [← add_at _ _ _ (by omega)]; exact hc _ _ (g3 2 _ rfl)
  · rw [← add_at _ _ _ (by omega)]; exact hc _ _ (g3 3 _ rfl)
  · rw [← add_at _ _ _ (by omega)]; exact hc _ _ (g3 4 _ rfl)
  · rw [← add_at _ _ _ (by omega)]; exact hc _ _ (g3 5 _ rfl)

end Go.Proofs.Ytbimhhcmfhooaaa

namespace Go.Proofs.Ytbimhhcmfhooaaa
open Go.RowKit
set_option linter.unusedVariables false

theorem below_drewV {B : Nat} {w w' : World} (h : Below B w w') (n : Nat) : Below B w (w'.drewN n) := ⟨h.os, h.tape, h.output, h.size, h.block⟩
def SameRel (n : Nat) (w : World) (x y : Obj) (i : Value) (wr : World) : Prop := ∃ k : Nat, k ≤ n ∧ i = .int .i64 (k : Int) ∧ Below (w.heap.size + 1 + 1) ((w.alloc x).alloc y) wr
set_option maxHeartbeats 1000000 in
theorem same_eq (va vb : Value) (p : Pr) (S : Nat → Prop) (w : World) (ha : PV w S va p) (hb : PV w S vb p) (hS : ∀ x, S x → x < w.heap.size) (hpl : p.params.length ≤ 1048576) :
    Calls Try.prog 15 #[va, vb] w fun e w' => e = .returned (.bool true) ∧ Below w.heap.size w w' := by
  obtain ⟨vp, vi, vu, rfl, a1, a2, a3⟩ := ha
  obtain ⟨vq, vj, vv, rfl, b1, b2, b3⟩ := hb
  obtain ⟨Ap, cp, rfl, p1, p2⟩ := a1.form
  obtain ⟨Ai, ci, rfl, i1, i2⟩ := a2.form
  obtain ⟨Au, cu, rfl, u1, u2⟩ := a3.form
  obtain ⟨Aq, cq, rfl, q1, q2⟩ := b1.form
  obtain ⟨Aj, cj, rfl, j1, j2⟩ := b2.form
  obtain ⟨Av, cv, rfl, v1, v2⟩ := b3.form
  have HA1 := Lib.hid a1
  have HB1 := Lib.hid b1
  have HSS := Lib.hid hS
  have h2 := two_new w (.cells #[Value.int .i64 (p.mode : Int), Value.int .u8 (p.priv : Int), Value.slice Ap p.params.length cp, Value.slice Ai p.inter.length ci, Value.slice Au p.utf.length cu] 25) (.cells #[Value.int .i64 (p.mode : Int), Value.int .u8 (p.priv : Int), Value.slice Aq p.params.length cq, Value.slice Aj p.inter.length cj, Value.slice Av p.utf.length cv] 25)
  have s1 := run_str ((a2.bs hS).below h2.1)
  have s2 := run_str ((b2.bs hS).below h2.1)
  have s3 := run_str ((a3.bs hS).below h2.1)
  have s4 := run_str ((b3.bs hS).below h2.1)
  have H2 := Lib.hid h2
  clear a1 a2 a3 b1 b2 b3 hS h2
  go_enter Try.func15, Try.ntmps15
  go_wp2
  clear s1 s2 s3 s4
  go_loopw [5] (fun i wr => SameRel p.params.length w (.cells #[Value.int .i64 (p.mode : Int), Value.int .u8 (p.priv : Int), Value.slice Ap p.params.length cp, Value.slice Ai p.inter.length ci, Value.slice Au p.utf.length cu] 25) (.cells #[Value.int .i64 (p.mode : Int), Value.int .u8 (p.priv : Int), Value.slice Aq p.params.length cq, Value.slice Aj p.inter.length cj, Value.slice Av p.utf.length cv] 25) i wr) (fun i _ => p.params.length - (intOf i).toNat)
  case atStart => exact ⟨0, Nat.zero_le _, rfl, Below.refl _ _⟩
  case round =>
    obtain ⟨k, hk, rfl, hbel⟩ := hrel
    obtain ⟨k0, k1⟩ := two_keptB hbel
    obtain ⟨c0, c1, c2, c3, c4, cf⟩ := five_cells k0
    obtain ⟨d0, d1, d2, d3, d4, df⟩ := five_cells k1
    have HBW : Hid (Below w.heap.size w wr) := H2.out.1.trans (hbel.mono (by omega))
    have HBEL := Lib.hid hbel
    clear hbel k0 k1
    by_cases hlt : k < p.params.length
    · obtain ⟨x, hx⟩ : ∃ x, p.params[k]? = some x := ⟨_, List.getElem?_eq_getElem hlt⟩
      obtain ⟨ad, hA, e1⟩ := (HA1.out.keep (fun q hq => HBW.out.cell (HSS.out _ hq))).get k x hx
      obtain ⟨ae, hB, e2⟩ := (HB1.out.keep (fun q hq => HBW.out.cell (HSS.out _ hq))).get k x hx
      subst hA hB
      unfold vI at e1 e2
      clear hx
      have hki : (k : Int) < (p.params.length : Int) := by omega
      go_wp2
      go_quiet (fail)
      have hbq : Below (w.heap.size + 1 + 1) _ (wr.drewN nq) := below_drewV HBEL.out nq
      go_wp2
      go_roundw
      case rel => exact ⟨k + 1, hlt, by go_num, hbq⟩
      case measure => simp [intOf]; omega
    · obtain rfl : k = p.params.length := by omega
      go_wp2
      go_ret
      exact ⟨rfl, HBW.out⟩
end Go.Proofs.Ytbimhhcmfhooaaa

namespace Go.Proofs.Ytbimhhcmfhooaaa
open Go.RowKit
set_option linter.unusedVariables false

theorem six_cells {w : World} {g : Nat} {t : TypeId} {x0 x1 x2 x3 x4 x5 : Value} (h : w.heap[g]? = some (.cells #[x0, x1, x2, x3, x4, x5] t)) :
    w.cell? ⟨g, 0, none⟩ = some x0 ∧ w.cell? ⟨g, 1, none⟩ = some x1 ∧ w.cell? ⟨g, 2, none⟩ = some x2 ∧ w.cell? ⟨g, 3, none⟩ = some x3 ∧ w.cell? ⟨g, 4, none⟩ = some x4 ∧ w.cell? ⟨g, 5, none⟩ = some x5 ∧ True := by
  refine ⟨?_, ?_, ?_, ?_, ?_, ?_, trivial⟩
  · rw [cell_of_row w g 0 _ t _ h]; rfl
  · rw [cell_of_row w g 1 _ t _ h]; rfl
  · rw [cell_of_row w g 2 _ t _ h]; rfl
  · rw [cell_of_row w g 3 _ t _ h]; rfl
  · rw [cell_of_row w g 4 _ t _ h]; rfl
  · rw [cell_of_row w g 5 _ t _ h]; rfl
def ActsRel (n : Nat) (w : World) (i : Value) (wr : World) : Prop := ∃ k : Nat, k ≤ n ∧ i = .int .i64 (k : Int) ∧ Below w.heap.size w wr
set_option maxHeartbeats 1000000 in
set_option maxRecDepth 100000 in
theorem acts_eq (va vb : Value) (l : List Ac) (T S : Nat → Prop) (w : World) (ha : AS w T S va l) (hb : AS w T S vb l) (hT : ∀ x, T x → x < w.heap.size) (hS : ∀ x, S x → x < w.heap.size) (hpl : ∀ a ∈ l, a.params.length ≤ 1048576) (hll : l.length ≤ 1048576) :
    Calls Try.prog 16 #[va, vb] w fun e w' => e = .returned (.bool true) ∧ Below w.heap.size w w' := by
  obtain ⟨A1, c1, rfl, p1, p2⟩ := ha.form
  obtain ⟨A2, c2, rfl, q1, q2⟩ := hb.form
  have HA := Lib.hid ha
  have HB := Lib.hid hb
  have HS := Lib.hid hS
  have HT := Lib.hid hT
  have HP := Lib.hid hpl
  clear ha hb hS hT hpl
  go_enter Try.func16, Try.ntmps16
  go_wp2
  go_loopw [5] (fun i wr => ActsRel l.length w i wr) (fun i _ => l.length - (intOf i).toNat)
  case atStart => exact ⟨0, Nat.zero_le _, rfl, Below.refl _ _⟩
  case round =>
    generalize wr = w1 at *
    obtain ⟨k, hk, rfl, hbel⟩ := hrel
    have hz := hbel.size
    by_cases hlt : k < l.length
    · obtain ⟨a, hx⟩ : ∃ x, l[k]? = some x := ⟨_, List.getElem?_eq_getElem hlt⟩
      obtain ⟨ad, vp, vi, hA, ta, s1, s2, E⟩ := (HA.out.keep (fun q hq => hbel.cell (HT.out _ hq)) (fun q hq => hbel.cell (HS.out _ hq))).get k a hx
      obtain ⟨ae, vq, vj, hB, tb, t1, t2, F⟩ := (HB.out.keep (fun q hq => hbel.cell (HT.out _ hq)) (fun q hq => hbel.cell (HS.out _ hq))).get k a hx
      subst hA hB
      have hap := HP.out a (List.mem_of_getElem? hx)
      obtain ⟨Ap, cp, rfl, p3, p4⟩ := s1.form
      obtain ⟨Ai, ci, rfl, i3, i4⟩ := s2.form
      obtain ⟨Aq, cq, rfl, q3, q4⟩ := t1.form
      obtain ⟨Aj, cj, rfl, j3, j4⟩ := t2.form
      have hki : (k : Int) < (l.length : Int) := by omega
      obtain ⟨e0, e1, e2, e3, e4, e5⟩ := E
      obtain ⟨f0, f1, f2, f3, f4, f5⟩ := F
      have TA : (ad.add (k * 6)).block < w1.heap.size := Nat.lt_of_lt_of_le (HT.out _ ta) hz
      have TB : (ae.add (k * 6)).block < w1.heap.size := Nat.lt_of_lt_of_le (HT.out _ tb) hz
      have S1 := Lib.hid s1
      have S2 := Lib.hid s2
      have T1 := Lib.hid t1
      have T2 := Lib.hid t2
      clear hx s1 s2 t1 t2 ta tb
      have n1 := two_new w1 (.cells #[Value.int .i64 (a.kind : Int), Value.int .i32 a.r, Value.int .u8 (a.b : Int), Value.int .u8 (a.priv : Int), Value.slice Ap a.params.length cp, Value.slice Ai a.inter.length ci] 42) (.cells #[Value.int .i64 (a.kind : Int), Value.int .i32 a.r, Value.int .u8 (a.b : Int), Value.int .u8 (a.priv : Int), Value.slice Aq a.params.length cq, Value.slice Aj a.inter.length cj] 42)
      have s1 := run_str (BS.below (S2.out.bs (fun x hx => Nat.lt_of_lt_of_le (HS.out x hx) hz)) n1.1.drew)
      have t1 := run_str (BS.below (T2.out.bs (fun x hx => Nat.lt_of_lt_of_le (HS.out x hx) hz)) n1.1.drew)
      have N1 := Lib.hid n1
      clear n1
      have n2 := two_new w1 (.cells #[Value.int .i64 (a.kind : Int), Value.int .i32 a.r, Value.int .u8 (a.b : Int), Value.int .u8 (a.priv : Int), Value.slice Aq a.params.length cq, Value.slice Aj a.inter.length cj] 42) (.cells #[Value.int .i64 (a.kind : Int), Value.int .i32 a.r, Value.int .u8 (a.b : Int), Value.int .u8 (a.priv : Int), Value.slice Ap a.params.length cp, Value.slice Ai a.inter.length ci] 42)
      have s2 := run_str (BS.below (S2.out.bs (fun x hx => Nat.lt_of_lt_of_le (HS.out x hx) hz)) n2.1.drew)
      have t2 := run_str (BS.below (T2.out.bs (fun x hx => Nat.lt_of_lt_of_le (HS.out x hx) hz)) n2.1.drew)
      have N2 := Lib.hid n2
      clear n2
      go_wp2
      go_region
      · go_wp2
        clear s1 t1 s2 t2
        go_loopw [8] (fun i wx => SameRel a.params.length w1 (.cells #[Value.int .i64 (a.kind : Int), Value.int .i32 a.r, Value.int .u8 (a.b : Int), Value.int .u8 (a.priv : Int), Value.slice Ap a.params.length cp, Value.slice Ai a.inter.length ci] 42) (.cells #[Value.int .i64 (a.kind : Int), Value.int .i32 a.r, Value.int .u8 (a.b : Int), Value.int .u8 (a.priv : Int), Value.slice Aq a.params.length cq, Value.slice Aj a.inter.length cj] 42) i wx) (fun i _ => a.params.length - (intOf i).toNat)
        case atStart => exact ⟨0, Nat.zero_le _, rfl, (Below.refl _ _).drew⟩
        case round =>
          obtain ⟨m, hm, rfl, hbm⟩ := hrel
          obtain ⟨k0, k1⟩ := two_keptB hbm
          obtain ⟨x0, x1, x2, x3, x4, x5, xf⟩ := six_cells k0
          obtain ⟨y0, y1, y2, y3, y4, y5, yf⟩ := six_cells k1
          have HBX : Hid (Below w1.heap.size w1 wr) := N1.out.1.trans (hbm.mono (by omega))
          have HBM := Lib.hid hbm
          clear hbm k0 k1
          by_cases hml : m < a.params.length
          · obtain ⟨x, hx⟩ : ∃ x, a.params[m]? = some x := ⟨_, List.getElem?_eq_getElem hml⟩
            obtain ⟨a1, hA, z1⟩ := (S1.out.keep (fun q hq => HBX.out.cell (Nat.lt_of_lt_of_le (HS.out _ hq) hz))).get m x hx
            obtain ⟨a2, hB, z2⟩ := (T1.out.keep (fun q hq => HBX.out.cell (Nat.lt_of_lt_of_le (HS.out _ hq) hz))).get m x hx
            subst hA hB
            unfold vI at z1 z2
            clear hx
            have hmi : (m : Int) < (a.params.length : Int) := by omega
            go_wp2
            go_quiet (fail)
            have hbq := below_drewV HBM.out nq
            go_wp2
            go_roundw
            case rel => exact ⟨m + 1, hml, by go_num, hbq⟩
            case measure => simp [intOf]; omega
          · obtain rfl : m = a.params.length := by omega
            go_wp2
            go_roundw
            case rel => exact ⟨k + 1, hlt, by go_num, hbel.trans (HBX.out.mono hz)⟩
            case measure => simp [intOf]; omega
      · go_wp2
        clear s1 t1 s2 t2
        go_loopw [8] (fun i wx => SameRel a.params.length w1 (.cells #[Value.int .i64 (a.kind : Int), Value.int .i32 a.r, Value.int .u8 (a.b : Int), Value.int .u8 (a.priv : Int), Value.slice Aq a.params.length cq, Value.slice Aj a.inter.length cj] 42) (.cells #[Value.int .i64 (a.kind : Int), Value.int .i32 a.r, Value.int .u8 (a.b : Int), Value.int .u8 (a.priv : Int), Value.slice Ap a.params.length cp, Value.slice Ai a.inter.length ci] 42) i wx) (fun i _ => a.params.length - (intOf i).toNat)
        case atStart => exact ⟨0, Nat.zero_le _, rfl, (Below.refl _ _).drew⟩
        case round =>
          obtain ⟨m, hm, rfl, hbm⟩ := hrel
          obtain ⟨k0, k1⟩ := two_keptB hbm
          obtain ⟨x0, x1, x2, x3, x4, x5, xf⟩ := six_cells k0
          obtain ⟨y0, y1, y2, y3, y4, y5, yf⟩ := six_cells k1
          have HBX : Hid (Below w1.heap.size w1 wr) := N2.out.1.trans (hbm.mono (by omega))
          have HBM := Lib.hid hbm
          clear hbm k0 k1
          by_cases hml : m < a.params.length
          · obtain ⟨x, hx⟩ : ∃ x, a.params[m]? = some x := ⟨_, List.getElem?_eq_getElem hml⟩
            obtain ⟨a1, hA, z1⟩ := (S1.out.keep (fun q hq => HBX.out.cell (Nat.lt_of_lt_of_le (HS.out _ hq) hz))).get m x hx
            obtain ⟨a2, hB, z2⟩ := (T1.out.keep (fun q hq => HBX.out.cell (Nat.lt_of_lt_of_le (HS.out _ hq) hz))).get m x hx
            subst hA hB
            unfold vI at z1 z2
            clear hx
            have hmi : (m : Int) < (a.params.length : Int) := by omega
            go_wp2
            go_quiet (fail)
            have hbq := below_drewV HBM.out nq
            go_wp2
            go_roundw
            case rel => exact ⟨m + 1, hml, by go_num, hbq⟩
            case measure => simp [intOf]; omega
          · obtain rfl : m = a.params.length := by omega
            go_wp2
            go_roundw
            case rel => exact ⟨k + 1, hlt, by go_num, hbel.trans (HBX.out.mono hz)⟩
            case measure => simp [intOf]; omega
    · obtain rfl : k = l.length := by omega
      go_wp2
      go_ret
      exact ⟨rfl, hbel⟩
end Go.Proofs.Ytbimhhcmfhooaaa
