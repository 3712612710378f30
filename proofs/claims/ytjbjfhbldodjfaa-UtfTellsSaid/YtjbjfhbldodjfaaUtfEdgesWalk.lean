/- What is proved here: the law UtfEdges, called with any four bytes, returns true and leaves alone whatever memory was there. -/
import Derived.Test.YtjbjfhbldodjfaaUtfKnown
import Derived.Deep.DeepCutAuto
namespace Go.Proofs.Ytjbjfhbldodjfaa
open Go.RowKit
set_option linter.unusedVariables false

/-- Rows of bytes, laid one behind another. -/
def layB (w : World) (ls : List (List UInt8)) : World := ls.foldl (fun w l => w.alloc (.cells (vBs l).toArray 5)) w
theorem layB_size (w : World) (ls : List (List UInt8)) : (layB w ls).heap.size = w.heap.size + ls.length := by
  induction ls generalizing w with
  | nil => rfl
  | cons l ls ih =>
    show (layB (w.alloc _) ls).heap.size = _
    rw [ih]
    simp
    omega
theorem layB_below (w : World) (ls : List (List UInt8)) : Below w.heap.size w (layB w ls) := by
  induction ls generalizing w with
  | nil => exact Below.refl _ _
  | cons l ls ih =>
    show Below _ _ (layB (w.alloc _) ls)
    exact ((Below.refl _ _).alloc (Nat.le_refl _) _).trans ((ih _).mono (by simp))
theorem layB_bs (w : World) (ls : List (List UInt8)) (hm : ∀ l ∈ ls, l.length ≤ 1048576) : ∀ i l, ls[i]? = some l → BS (layB w ls) (w.heap.size + ls.length) (.slice (some ⟨w.heap.size + i, 0, none⟩) l.length l.length) l := by
  induction ls generalizing w with
  | nil => intro i l h; simp at h
  | cons m ls ih =>
    intro i l h
    show BS (layB (w.alloc (.cells (vBs m).toArray 5)) ls) _ _ _
    cases i with
    | zero =>
      simp at h
      subst h
      have h1 := BS.lit w m m.length (vBs m).toArray 5 rfl rfl (hm m (by simp))
      have h2 := layB_below (w.alloc (.cells (vBs m).toArray 5)) ls
      refine (h1.below ?_).more (by simp)
      have e : (w.alloc (.cells (vBs m).toArray 5)).heap.size = w.heap.size + 1 := by simp
      rw [e] at h2
      exact h2
    | succ i =>
      have h1 := ih (w.alloc (.cells (vBs m).toArray 5)) (fun x hx => hm x (by simp [hx])) i l (by simpa using h)
      have e : (w.alloc (.cells (vBs m).toArray 5)).heap.size = w.heap.size + 1 := by simp
      rw [e] at h1
      rw [show w.heap.size + (i + 1) = w.heap.size + 1 + i by omega, show w.heap.size + (m :: ls).length = w.heap.size + 1 + ls.length by simp; omega]
      exact h1

/-- A slice of slices of few bytes. -/
def Rows8 (n : Nat) (g : Nat) (W : World) : Prop := ∀ i, i < n → ∃ v l, W.cell? ⟨g, i, none⟩ = some v ∧ BS W W.heap.size v l ∧ l.length ≤ 200

theorem u8_ex (x : Int) (h0 : 0 ≤ x) (h1 : x < 256) : ∃ E : UInt8, x = (E.toNat : Int) := ⟨UInt8.ofNat x.toNat, by rw [ofNat_toNat _ (by omega)]; omega⟩
theorem e15 (a : UInt8) : ∃ E : UInt8, bits .or .u8 224 (bits .and .u8 (a.toNat : Int) 15) = (E.toNat : Int) := by
  have := a.toNat_lt
  rw [u8_and15 _ (by omega) (by omega), u8_or224 _ (by omega) (by omega)]
  exact u8_ex _ (by omega) (by omega)
theorem e7 (a : UInt8) : ∃ E : UInt8, bits .or .u8 240 (bits .and .u8 (a.toNat : Int) 7) = (E.toNat : Int) := by
  have := a.toNat_lt
  rw [u8_and7 _ (by omega) (by omega), u8_or240 _ (by omega) (by omega)]
  exact u8_ex _ (by omega) (by omega)
theorem e63 (a : UInt8) : ∃ E : UInt8, bits .or .u8 128 (bits .and .u8 (a.toNat : Int) 63) = (E.toNat : Int) := by
  have := a.toNat_lt
  rw [u8_and63 _ (by omega) (by omega), u8_or128 _ (by omega) (by omega)]
  exact u8_ex _ (by omega) (by omega)

def LoopRel (n : Nat) (w0 : World) (s : Value) (wr : World) : Prop := ∃ i : Nat, i ≤ n ∧ s = .int .i64 (i : Int) ∧ Below w0.heap.size w0 wr
theorem cell_ltB {w : World} {p : Addr} {v : Value} (h : w.cell? p = some v) : p.block < w.heap.size := by
  rcases Nat.lt_or_ge p.block w.heap.size with hh | hh
  · exact hh
  · simp [World.cell?, Array.getElem?_eq_none hh] at h

set_option maxHeartbeats 4000000 in
set_option maxRecDepth 100000 in
theorem utfEdges_walk (a0 a1 a2 a3 : Int) (w0 : (Lit.int .u8 a0).wf = true) (w1 : (Lit.int .u8 a1).wf = true) (w2 : (Lit.int .u8 a2).wf = true) (w3 : (Lit.int .u8 a3).wf = true) (w : World) :
    Calls Try.prog 4 #[.int .u8 a0, .int .u8 a1, .int .u8 a2, .int .u8 a3] w fun e w' => e = .returned (.bool true) ∧ Below w.heap.size w w' := by
  obtain ⟨p0, p1⟩ := bounds_u8 w0
  obtain ⟨p2, p3⟩ := bounds_u8 w1
  obtain ⟨p4, p5⟩ := bounds_u8 w2
  obtain ⟨p6, p7⟩ := bounds_u8 w3
  obtain ⟨a, rfl⟩ := u8_ex a0 p0 (by omega)
  obtain ⟨b, rfl⟩ := u8_ex a1 p2 (by omega)
  obtain ⟨c, rfl⟩ := u8_ex a2 p4 (by omega)
  obtain ⟨d, rfl⟩ := u8_ex a3 p6 (by omega)
  clear w0 w1 w2 w3 p0 p1 p2 p3 p4 p5 p6 p7
  obtain ⟨E1, h1⟩ := e15 a
  obtain ⟨E2, h2⟩ := e7 a
  obtain ⟨E3, h3⟩ := e63 b
  obtain ⟨E4, h4⟩ := e63 c
  go_enter Try.func4, Try.ntmps4
  go_wp2_with fail
  refine (knownU_any _).mono ?_
  rintro e w1 ⟨rfl, hb1⟩
  go_wp2_with fail
  generalize hW : World.alloc _ (Obj.cells _ 22 _) = W
  have hW' : (layB w1 [[a], [a, b], [a, b, c], [a, b, c, d], [E1, b, c], [E2, b, c], [E2, E3, E4], [E1, E3]]).alloc (.cells #[.slice (some ⟨w1.heap.size, 0, none⟩) 1 1, .slice (some ⟨w1.heap.size + 1, 0, none⟩) 2 2, .slice (some ⟨w1.heap.size + 2, 0, none⟩) 3 3, .slice (some ⟨w1.heap.size + 3, 0, none⟩) 4 4, .slice (some ⟨w1.heap.size + 4, 0, none⟩) 3 3, .slice (some ⟨w1.heap.size + 5, 0, none⟩) 3 3, .slice (some ⟨w1.heap.size + 6, 0, none⟩) 3 3, .slice (some ⟨w1.heap.size + 7, 0, none⟩) 2 2] 22) = W := hW
  clear hW
  have hsz := layB_size w1 [[a], [a, b], [a, b, c], [a, b, c, d], [E1, b, c], [E2, b, c], [E2, E3, E4], [E1, E3]]
  have hbl := layB_below w1 [[a], [a, b], [a, b, c], [a, b, c, d], [E1, b, c], [E2, b, c], [E2, E3, E4], [E1, E3]]
  have hbs := layB_bs w1 [[a], [a, b], [a, b, c], [a, b, c, d], [E1, b, c], [E2, b, c], [E2, E3, E4], [E1, E3]] (by simp)
  generalize layB w1 [[a], [a, b], [a, b, c], [a, b, c, d], [E1, b, c], [E2, b, c], [E2, E3, E4], [E1, E3]] = V at *
  simp only [List.length_cons, List.length_nil] at hsz hbs
  have hcell : ∀ i v, #[Value.slice (some ⟨w1.heap.size, 0, none⟩) 1 1, .slice (some ⟨w1.heap.size + 1, 0, none⟩) 2 2, .slice (some ⟨w1.heap.size + 2, 0, none⟩) 3 3, .slice (some ⟨w1.heap.size + 3, 0, none⟩) 4 4, .slice (some ⟨w1.heap.size + 4, 0, none⟩) 3 3, .slice (some ⟨w1.heap.size + 5, 0, none⟩) 3 3, .slice (some ⟨w1.heap.size + 6, 0, none⟩) 3 3, .slice (some ⟨w1.heap.size + 7, 0, none⟩) 2 2][i]? = some v → W.cell? ⟨w1.heap.size + 8, i, none⟩ = some v := by
    intro i v hi
    rw [← hW', World.cell?_alloc_at _ _ _ _ (by omega)]
    exact hi
  have up : ∀ {v : Value} {l : List UInt8}, BS V (w1.heap.size + 8) v l → BS W W.heap.size v l := by
    intro v l h
    rw [← hW']
    exact (h.alloc (by omega) _).more (by simp; omega)
  have hrows : Rows8 8 (w1.heap.size + 8) W := by
    intro i hi
    match i, hi with
    | 0, _ => exact ⟨_, [a], hcell 0 _ rfl, up (hbs 0 _ rfl), by simp⟩
    | 1, _ => exact ⟨_, [a, b], hcell 1 _ rfl, up (hbs 1 _ rfl), by simp⟩
    | 2, _ => exact ⟨_, [a, b, c], hcell 2 _ rfl, up (hbs 2 _ rfl), by simp⟩
    | 3, _ => exact ⟨_, [a, b, c, d], hcell 3 _ rfl, up (hbs 3 _ rfl), by simp⟩
    | 4, _ => exact ⟨_, [E1, b, c], hcell 4 _ rfl, up (hbs 4 _ rfl), by simp⟩
    | 5, _ => exact ⟨_, [E2, b, c], hcell 5 _ rfl, up (hbs 5 _ rfl), by simp⟩
    | 6, _ => exact ⟨_, [E2, E3, E4], hcell 6 _ rfl, up (hbs 6 _ rfl), by simp⟩
    | 7, _ => exact ⟨_, [E1, E3], hcell 7 _ rfl, up (hbs 7 _ rfl), by simp⟩
    | n + 8, h => omega
  have hbW : Below w.heap.size w W := by
    rw [← hW']
    exact ((hb1.trans (hbl.mono hb1.size)).alloc (by have := hb1.size; omega) _)
  clear hW' hsz hbl hbs hcell up hb1
  have HR := Lib.hid hrows
  clear hrows
  rw [show w1.heap.size + 1 + 1 + 1 + 1 + 1 + 1 + 1 + 1 = w1.heap.size + 8 from rfl]
  generalize w1.heap.size + 8 = g at *
  go_loopw [62] (fun s wr => LoopRel 8 W s wr) (fun s _ => 8 - (intOf s).toNat)
  case atStart => exact ⟨0, by omega, rfl, Below.refl _ _⟩
  case round =>
    obtain ⟨i, hi, rfl, hbr⟩ := hrel
    by_cases hlt : i < 8
    · obtain ⟨v, l, hc, hbs, hll⟩ := HR.out i hlt
      have hcr : wr.cell? ⟨g, i, none⟩ = some v := by rw [hbr.cell (cell_ltB hc)]; exact hc
      have hv := (hbs.below hbr).more hbr.size
      obtain ⟨V1, vc, rfl⟩ := hv.form
      clear hc hbs
      go_wp2_with fail
      refine (ubegins_any _ l _ hv (by omega)).mono ?_
      rintro e x1 ⟨rfl, hb⟩
      have hv1 := (hv.below hb).more hb.size
      have hbr1 := hbr.trans (hb.mono hbr.size)
      clear hb hv hbr hcr
      go_wp2_with fail
      refine (beginsr_any _ l _ _ hv1).mono ?_
      rintro e x2 ⟨rfl, rfl⟩
      have en : (beginsL l != beginsL l) = false := by simp
      go_wp2_with fail
      refine (uall_any _ l _ hv1 (by omega)).mono ?_
      rintro e x2 ⟨r1, q1, rfl, hr1, hq1, hb⟩
      have hv2 := (hv1.below hb).more hb.size
      have hbr2 := hbr1.trans (hb.mono hbr1.size)
      clear hb hv1 hbr1
      go_wp2_with fail
      refine (allr_any _ l _ hv2 (by omega)).mono ?_
      rintro e x3 ⟨r2, q2, rfl, hr2, hq2, hb⟩
      have hr13 := (hr1.bs.below hb).more hb.size
      have hq13 := (hq1.below hb).more hb.size
      have hbr3 := hbr2.trans (hb.mono hbr2.size)
      have hln := (allK_len l l.length (Nat.le_refl _)).2
      rw [allK_all] at hln
      clear hb hv2 hbr2 hr1 hq1
      go_wp2_with fail
      refine (helpRunes_eq _ _ _ _ hr13 hr2.bs (by rw [ints_len]; omega)).mono ?_
      rintro e x4 ⟨rfl, hb⟩
      have s1 := run_str (hq13.below hb)
      have s2 := run_str (hq2.below hb)
      have hbr4 := hbr3.trans (hb.mono hbr3.size)
      clear hb hbr3 hq13 hq2 hr13 hr2 en
      go_wp2
      go_roundw
      case rel => exact ⟨i + 1, hlt, by go_num, hbr4⟩
      case measure => simp [intOf]; omega
    · go_wp2
      go_ret
      exact ⟨rfl, hbW.trans (hbr.mono hbW.size)⟩
end Go.Proofs.Ytjbjfhbldodjfaa
