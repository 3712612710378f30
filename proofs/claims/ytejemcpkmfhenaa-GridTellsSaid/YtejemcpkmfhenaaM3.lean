/- What is proved here: the contracts of the program's Up and Down; the contracts of the program's Insert, Delete and Mend; plain facts on a grid of another size that is made row by row, each row mended as soon as it stands: it is what the document's Size tells; the contracts of the program's Erase and Blank; the contract of the program's Size; with it the program's eight calls on grids are what the document's tell, at up to 1,048,576 cells; a contract of the laws' helper 'known' of layer 8: it answers true; plain facts on the document's parser of a terminal: what a byte comes to, in each mode; no program is named; plain facts on the document's screen: what each act comes to; no program is named; words for slices of bools in memory over this translation (a slice that reads as a list of bools; a row of bools of the call's own), how they are kept, what append makes of them; words for slices of ints in memory over this translation (a slice that reads as a list of ints; a row of ints of the call's own), how they are kept, what append makes of them. -/
import Derived.Test.YtejemcpkmfhenaaM2
import Derived.Test.YtejemcpkmfhenaaM1
import Derived.Test.YtejemcpkmfhenaaRows
import Derived.Laws.OwnMore
import Derived.Laws.MakeOwn
import Derived.Deep.OwnRows
import Derived.WalkKit
import Derived.WalkSpells
import Derived.WalkLawsBesides
import Derived.Below
import Derived.Lib.Hide
import Derived.Maps.AppendAt
import Derived.Deep.AppendLies
import Derived.Deep.Draws
import Derived.OwnWalk
import Derived.Laws.BytesArg
import Derived.OpenShut
import Derived.Lib.SlBytesConst
namespace Go.Proofs.Ytejemcpkmfhenaa
open Go.RowKit
set_option linter.unusedVariables false
set_option linter.unusedSimpArgs false

theorem upB_of {n : Nat} {cols top bottom : Int} (h : upB n cols top bottom = true) : ∃ r c a b : Nat, cols = c ∧ top = a ∧ bottom = b ∧ GOk n r c ∧ a ≤ b ∧ b < r := by
  unfold upB at h
  rw [decide_eq_true_eq] at h
  obtain ⟨h1, h2, h3, h4⟩ := h
  obtain ⟨r, c, rfl, hG⟩ := gOk_of h1
  rw [hG.quo.1] at h3
  exact ⟨r, c, top.toNat, bottom.toNat, rfl, by omega, by omega, hG, by omega, by omega⟩
theorem upL_if (l : List Cl) (cols top bottom n : Int) : upL l cols top bottom n = if upB l.length cols top bottom = true then fillL l (upF l cols.toNat bottom.toNat (capN n)) (top.toNat * cols.toNat) ((bottom.toNat + 1) * cols.toNat) else l := by
  unfold upL upB
  simp only [decide_eq_true_eq]
theorem downL_if (l : List Cl) (cols top bottom n : Int) : downL l cols top bottom n = if upB l.length cols top bottom = true then fillL l (downF l cols.toNat top.toNat (capN n)) (top.toNat * cols.toNat) ((bottom.toNat + 1) * cols.toNat) else l := by
  unfold downL upB
  simp only [decide_eq_true_eq]
theorem capC_N (n : Int) : capC n 1000 = capN n := rfl
set_option maxHeartbeats 1000000 in
theorem gup_yes (v : Value) (l : List Cl) (r c a b : Nat) (n : Int) (w : World) (h : CS w w.heap.size v l) (hl : l.length ≤ 1048576) (hg : GOk l.length r c) (hab : a ≤ b) (hbr : b < r) :
    Calls Try.prog 10 #[v, .int .i64 (c : Int), .int .i64 (a : Int), .int .i64 (b : Int), .int .i64 n] w (CellsPost (fillL l (upF l c b (capN n)) (a * c) ((b + 1) * c)) w) := by
  have hU := hasRows_any v l c a b w h hl
  have hB : upB l.length (c : Int) (a : Int) (b : Int) = true := by
    unfold upB
    rw [decide_eq_true_eq, hg.ok, hg.quo.1]
    exact ⟨rfl, by omega, by omega, by omega⟩
  rw [hB] at hU
  have hN := nearest_any n 1000 w (by decide)
  rw [capC_N] at hN
  have hM := capN_le n
  have hup := fun m => ahead_up hg a b (capN n) m hab hbr
  generalize capN n = M at *
  obtain ⟨f, hf⟩ : ∃ f : Nat, f = a * c := ⟨_, rfl⟩
  obtain ⟨t, ht⟩ : ∃ t : Nat, t = (b + 1) * c := ⟨_, rfl⟩
  obtain ⟨N, hNN⟩ : ∃ N : Nat, N = M * c := ⟨_, rfl⟩
  have q1 : (a : Int) * (c : Int) = (f : Int) := by rw [hf]; simp
  have q2 : ((b : Int) + 1) * (c : Int) = (t : Int) := by rw [ht]; simp
  have q3 : (M : Int) * (c : Int) = (N : Int) := by rw [hNN]; simp
  have hft : f ≤ t := by rw [hf, ht]; exact Nat.mul_le_mul_right _ (by omega)
  have htl : t ≤ l.length := by rw [ht, hg.n]; exact Nat.mul_le_mul_right _ hbr
  have hNb : N ≤ 1000000 := by rw [hNN]; exact rc_le hM hg.c2
  have hup' := hup (min (t - f) N) (by rw [hf, ht, hNN])
  rw [← hf, ← ht] at hup' ⊢
  have c2 := hg.c2
  have r2 := hg.r2
  have hA := ahead_any v l f t (t - f) N (min (t - f) N) (f + min (t - f) N) w h (by omega) hft htl (by omega) (by omega) (by split <;> omega) (by omega)
  rw [hup'] at hA
  obtain ⟨A, k, rfl, h1, h2⟩ := h.form
  clear h hg hB hup hup' hf ht hNN
  go_enter Try.func10, Try.ntmps10
  go_wp2_with (first
    | ((with_reducible refine hU.mono ?_); rintro e w' ⟨rfl, rfl⟩)
    | ((with_reducible refine hN.mono ?_); rintro e w' ⟨rfl, rfl⟩)
    | ((with_reducible refine hA.mono ?_); rintro e w' ⟨v', rfl, ho, hb⟩))
  go_ret
  exact ⟨_, rfl, ho, hb⟩
theorem gup_no (v : Value) (l : List Cl) (cols top bottom n : Int) (w : World) (h : CS w w.heap.size v l) (hl : l.length ≤ 1048576) (hB : upB l.length cols top bottom = false) :
    Calls Try.prog 10 #[v, .int .i64 cols, .int .i64 top, .int .i64 bottom, .int .i64 n] w (CellsPost l w) := by
  have hU := hasRows_any v l cols top bottom w h hl
  rw [hB] at hU
  have hO := ownp_any v l w h (by omega)
  obtain ⟨A, k, rfl, h1, h2⟩ := h.form
  clear h hB
  go_enter Try.func10, Try.ntmps10
  go_wp2_with (first
    | ((with_reducible refine hU.mono ?_); rintro e w' ⟨rfl, rfl⟩)
    | ((with_reducible refine hO.mono ?_); rintro e w' ⟨v', rfl, ho, hb⟩))
  go_ret
  exact ⟨_, rfl, ho, hb⟩
theorem gup_any (v : Value) (l : List Cl) (cols top bottom n : Int) (w : World) (h : CS w w.heap.size v l) (hl : l.length ≤ 1048576) :
    Calls Try.prog 10 #[v, .int .i64 cols, .int .i64 top, .int .i64 bottom, .int .i64 n] w (CsPost (upL l cols top bottom n) w) := by
  rw [upL_if]
  cases hB : upB l.length cols top bottom with
  | true =>
    obtain ⟨r, c, a, b, rfl, rfl, rfl, hG, hab, hbr⟩ := upB_of hB
    rw [if_pos rfl]
    simp only [Int.toNat_natCast]
    exact (gup_yes v l r c a b n w h hl hG hab hbr).mono fun {_ _} h => h.toCs
  | false =>
    rw [if_neg (by decide)]
    exact (gup_no v l cols top bottom n w h hl hB).mono fun {_ _} h => h.toCs
set_option maxHeartbeats 1000000 in
theorem gdown_yes (v : Value) (l : List Cl) (r c a b : Nat) (n : Int) (w : World) (h : CS w w.heap.size v l) (hl : l.length ≤ 1048576) (hg : GOk l.length r c) (hab : a ≤ b) (hbr : b < r) :
    Calls Try.prog 12 #[v, .int .i64 (c : Int), .int .i64 (a : Int), .int .i64 (b : Int), .int .i64 n] w (CellsPost (fillL l (downF l c a (capN n)) (a * c) ((b + 1) * c)) w) := by
  have hU := hasRows_any v l c a b w h hl
  have hB : upB l.length (c : Int) (a : Int) (b : Int) = true := by
    unfold upB
    rw [decide_eq_true_eq, hg.ok, hg.quo.1]
    exact ⟨rfl, by omega, by omega, by omega⟩
  rw [hB] at hU
  have hN := nearest_any n 1000 w (by decide)
  rw [capC_N] at hN
  have hM := capN_le n
  have hup := fun m => back_down hg a b (capN n) m hab hbr
  generalize capN n = M at *
  obtain ⟨f, hf⟩ : ∃ f : Nat, f = a * c := ⟨_, rfl⟩
  obtain ⟨t, ht⟩ : ∃ t : Nat, t = (b + 1) * c := ⟨_, rfl⟩
  obtain ⟨N, hNN⟩ : ∃ N : Nat, N = M * c := ⟨_, rfl⟩
  have q1 : (a : Int) * (c : Int) = (f : Int) := by rw [hf]; simp
  have q2 : ((b : Int) + 1) * (c : Int) = (t : Int) := by rw [ht]; simp
  have q3 : (M : Int) * (c : Int) = (N : Int) := by rw [hNN]; simp
  have hft : f ≤ t := by rw [hf, ht]; exact Nat.mul_le_mul_right _ (by omega)
  have htl : t ≤ l.length := by rw [ht, hg.n]; exact Nat.mul_le_mul_right _ hbr
  have hNb : N ≤ 1000000 := by rw [hNN]; exact rc_le hM hg.c2
  have hup' := hup (min (t - f) N) (by rw [hf, ht, hNN])
  rw [← hf, ← ht] at hup' ⊢
  have c2 := hg.c2
  have r2 := hg.r2
  have hA := back_any v l f t (t - f) N (min (t - f) N) (t - min (t - f) N) w h (by omega) hft htl (by omega) (by omega) (by split <;> omega) (by omega)
  rw [hup'] at hA
  obtain ⟨A, k, rfl, h1, h2⟩ := h.form
  clear h hg hB hup hup' hf ht hNN
  go_enter Try.func12, Try.ntmps12
  go_wp2_with (first
    | ((with_reducible refine hU.mono ?_); rintro e w' ⟨rfl, rfl⟩)
    | ((with_reducible refine hN.mono ?_); rintro e w' ⟨rfl, rfl⟩)
    | ((with_reducible refine hA.mono ?_); rintro e w' ⟨v', rfl, ho, hb⟩))
  go_ret
  exact ⟨_, rfl, ho, hb⟩
theorem gdown_no (v : Value) (l : List Cl) (cols top bottom n : Int) (w : World) (h : CS w w.heap.size v l) (hl : l.length ≤ 1048576) (hB : upB l.length cols top bottom = false) :
    Calls Try.prog 12 #[v, .int .i64 cols, .int .i64 top, .int .i64 bottom, .int .i64 n] w (CellsPost l w) := by
  have hU := hasRows_any v l cols top bottom w h hl
  rw [hB] at hU
  have hO := ownp_any v l w h (by omega)
  obtain ⟨A, k, rfl, h1, h2⟩ := h.form
  clear h hB
  go_enter Try.func12, Try.ntmps12
  go_wp2_with (first
    | ((with_reducible refine hU.mono ?_); rintro e w' ⟨rfl, rfl⟩)
    | ((with_reducible refine hO.mono ?_); rintro e w' ⟨v', rfl, ho, hb⟩))
  go_ret
  exact ⟨_, rfl, ho, hb⟩
theorem gdown_any (v : Value) (l : List Cl) (cols top bottom n : Int) (w : World) (h : CS w w.heap.size v l) (hl : l.length ≤ 1048576) :
    Calls Try.prog 12 #[v, .int .i64 cols, .int .i64 top, .int .i64 bottom, .int .i64 n] w (CsPost (downL l cols top bottom n) w) := by
  rw [downL_if]
  cases hB : upB l.length cols top bottom with
  | true =>
    obtain ⟨r, c, a, b, rfl, rfl, rfl, hG, hab, hbr⟩ := upB_of hB
    rw [if_pos rfl]
    simp only [Int.toNat_natCast]
    exact (gdown_yes v l r c a b n w h hl hG hab hbr).mono fun {_ _} h => h.toCs
  | false =>
    rw [if_neg (by decide)]
    exact (gdown_no v l cols top bottom n w h hl hB).mono fun {_ _} h => h.toCs
end Go.Proofs.Ytejemcpkmfhenaa

namespace Go.Proofs.Ytejemcpkmfhenaa
open Go.RowKit
set_option linter.unusedVariables false
set_option linter.unusedSimpArgs false

theorem add0g (g k : Nat) : (⟨g, 0, none⟩ : Addr).add k = ⟨g, k, none⟩ := by
  unfold Addr.add
  split
  · rename_i h; rw [h]
  · simp
theorem rowOf_own (g n k c y p P : Nat) (w : World) (hp : (y : Int) * (c : Int) = (p : Int)) (hp2 : ((y : Int) + 1) * (c : Int) = (p : Int) + (c : Int)) (hP : P = p * 3) (hn : p + c ≤ n) (hk : n ≤ k) (hk2 : k ≤ 9223372036854775807) (hc : 1 ≤ c) (hy : y ≤ 1000000) :
    Calls Try.prog 39 #[.slice (some ⟨g, 0, none⟩) n k, .int .i64 (c : Int), .int .i64 (y : Int)] w fun e w' => e = .returned (.slice (some ⟨g, P, none⟩) c (k - p)) ∧ w = w' := by
  have := rowOf_any ⟨g, 0, none⟩ n k c y p w hp hp2 hn hk hk2 hc hy
  rw [add0g, ← hP] at this
  exact this
/-- Where row y of a grid begins, in cells and in values. -/
theorem rowAt {n r c : Nat} (hg : GOk n r c) (y : Nat) (hy : y < r) : ∃ p P : Nat, p = y * c ∧ P = p * 3 ∧ (y : Int) * (c : Int) = (p : Int) ∧ ((y : Int) + 1) * (c : Int) = (p : Int) + (c : Int) ∧ p + c ≤ n := by
  refine ⟨y * c, y * c * 3, rfl, rfl, by simp, ?_, ?_⟩
  · rw [Int.add_mul, Int.one_mul]; simp
  · have : (y + 1) * c ≤ r * c := Nat.mul_le_mul_right _ hy
    rw [Nat.add_mul, Nat.one_mul] at this
    rw [hg.n]
    exact this
theorem mendL_yes {l : List Cl} {r c : Nat} (hg : GOk l.length r c) (y : Nat) (hy : y < r) : mendL l (c : Int) (y : Int) = fillL l (mendF l c) (y * c) (y * c + c) := by
  unfold mendL
  rw [if_pos (gPlace_mk hg (by omega) (by omega) (by omega) (by omega))]
  simp only [Int.toNat_natCast]
theorem place_up {n r c : Nat} (hg : GOk n r c) (y : Nat) (hy : y < r) : upB n (c : Int) (y : Int) (y : Int) = true := by
  unfold upB
  rw [decide_eq_true_eq, hg.ok, hg.quo.1]
  exact ⟨rfl, by omega, by omega, by omega⟩
/-- A row of the call's own, whose row y is mended. -/
theorem mendRow {l : List Cl} {r c base g n cap p P : Nat} {w : World} (y : Nat) (hg : GOk l.length r c) (hy : y < r) (h : OC w base (.slice (some ⟨g, 0, none⟩) n cap) l) (hb : base ≤ w.heap.size) (hl : l.length ≤ 1048576) (hp : p = y * c) (hP : P = p * 3) (hn : p + c ≤ l.length) (hcap : l.length ≤ cap) (hcap2 : cap ≤ 9223372036854775807) :
    Calls Try.prog 38 #[.slice (some ⟨g, P, none⟩) c (cap - p)] w (MdPost (mendL l (c : Int) (y : Int)) base (.slice (some ⟨g, 0, none⟩) n cap) w) := by
  subst hp
  rw [mendL_yes hg y hy]
  exact mend_any l c y base g n cap P (cap - y * c) w h hb hn hl hg.c1 hg.c2 hP (by omega) (by omega)
set_option maxHeartbeats 1000000 in
theorem ginsert_yes (v : Value) (l : List Cl) (r c y x : Nat) (n : Int) (w : World) (h : CS w w.heap.size v l) (hl : l.length ≤ 1048576) (hg : GOk l.length r c) (hy : y < r) (hx : x ≤ c) :
    Calls Try.prog 14 #[v, .int .i64 (c : Int), .int .i64 (y : Int), .int .i64 (x : Int), .int .i64 n] w (CellsPost (mendL (fillL l (insF l (y * c + x) (capN n)) (y * c + x) (y * c + c)) c y) w) := by
  have hU := hasPlace_any v l c y x w h hl
  rw [gPlace_mk hg (by omega) (by omega) (by omega) (by omega)] at hU
  have hN := nearest_any n 1000 w (by decide)
  rw [capC_N] at hN
  have hM := capN_le n
  generalize capN n = M at *
  obtain ⟨p, P, hp, hP, q1, q2, hpn⟩ := rowAt hg y hy
  have c1 := hg.c1
  have c2 := hg.c2
  have r2 := hg.r2
  rw [← hp]
  have q3 : (p : Int) + (x : Int) = ((p + x : Nat) : Int) := by omega
  have hA := back_any v l (p + x) (p + c) (c - x) M (min (c - x) M) (p + c - min (c - x) M) w h (by omega) (by omega) hpn (by omega) (by omega) (by split <;> omega) (by omega)
  rw [back_ins l (p + x) (p + c) M (min (c - x) M) (by omega) hpn (by omega)] at hA
  generalize hL : fillL l (insF l (p + x) M) (p + x) (p + c) = L at *
  have hLl : L.length = l.length := by rw [← hL, fillL_len]
  have HG := Lib.hid (show GOk L.length r c by rw [hLl]; exact hg)
  obtain ⟨f, hf⟩ : ∃ f : Nat, f = p + x := ⟨_, rfl⟩
  obtain ⟨t, ht⟩ : ∃ t : Nat, t = p + c := ⟨_, rfl⟩
  rw [← hf, ← ht] at hA
  rw [← hf] at q3
  have q4 : ((y : Int) + 1) * (c : Int) = (t : Int) := by rw [q2, ht]; omega
  have htb : t ≤ 1048576 := by omega
  have hfb : f ≤ 1048576 := by omega
  have Q1 := Lib.hid q1
  have Q2 := Lib.hid q2
  have HP := Lib.hid hp
  have HPP := Lib.hid hP
  have hpos : 0 < L.length := by omega
  have HLL := Lib.hid hLl
  obtain ⟨A, k, rfl, h1, h2⟩ := h.form
  clear h hg hf ht hL q2 hp hP hLl
  go_enter Try.func14, Try.ntmps14
  go_wp2_with (first
    | ((with_reducible refine hU.mono ?_); rintro e w' ⟨rfl, rfl⟩)
    | ((with_reducible refine hN.mono ?_); rintro e w' ⟨rfl, rfl⟩)
    | ((with_reducible refine hA.mono ?_); rintro e w1 ⟨v1, rfl, ho, hb⟩; obtain ⟨g, cap, rfl, g1, g2, g3, g4⟩ := ho.open_ hpos; have z1 := hb.size; have HO := Lib.hid ho; have HB := Lib.hid hb; clear ho hb)
    | ((with_reducible refine (rowOf_own g L.length cap c y p P _ Q1.out Q2.out HPP.out (by rw [HLL.out]; exact hpn) g3 g4 c1 (by omega)).mono ?_); rintro e w' ⟨rfl, rfl⟩)
    | ((with_reducible refine (mendRow y HG.out hy HO.out z1 (by rw [HLL.out]; omega) HP.out HPP.out (by rw [HLL.out]; exact hpn) g3 g4).mono ?_); rintro e w2 ⟨rfl, ho2, hb2⟩))
  go_ret
  exact ⟨_, rfl, ho2, HB.out.trans hb2⟩
theorem ginsert_no (v : Value) (l : List Cl) (cols y x n : Int) (w : World) (h : CS w w.heap.size v l) (hl : l.length ≤ 1048576) (hB : gPlace l.length cols y x = false) :
    Calls Try.prog 14 #[v, .int .i64 cols, .int .i64 y, .int .i64 x, .int .i64 n] w (CellsPost l w) := by
  have hU := hasPlace_any v l cols y x w h hl
  rw [hB] at hU
  have hO := ownp_any v l w h (by omega)
  obtain ⟨A, k, rfl, h1, h2⟩ := h.form
  clear h hB
  go_enter Try.func14, Try.ntmps14
  go_wp2_with (first
    | ((with_reducible refine hU.mono ?_); rintro e w' ⟨rfl, rfl⟩)
    | ((with_reducible refine hO.mono ?_); rintro e w' ⟨v', rfl, ho, hb⟩))
  go_ret
  exact ⟨_, rfl, ho, hb⟩
theorem ginsert_any (v : Value) (l : List Cl) (cols y x n : Int) (w : World) (h : CS w w.heap.size v l) (hl : l.length ≤ 1048576) :
    Calls Try.prog 14 #[v, .int .i64 cols, .int .i64 y, .int .i64 x, .int .i64 n] w (CsPost (insertL l cols y x n) w) := by
  unfold insertL
  cases hB : gPlace l.length cols y x with
  | true =>
    obtain ⟨r, c, a, b, rfl, rfl, rfl, hG, hab, hbr⟩ := gPlace_of hB
    rw [if_pos rfl]
    simp only [Int.toNat_natCast]
    exact (ginsert_yes v l r c a b n w h hl hG hab hbr).mono fun {_ _} h => h.toCs
  | false =>
    rw [if_neg (by decide)]
    exact (ginsert_no v l cols y x n w h hl hB).mono fun {_ _} h => h.toCs
set_option maxHeartbeats 1000000 in
theorem gdelete_yes (v : Value) (l : List Cl) (r c y x : Nat) (n : Int) (w : World) (h : CS w w.heap.size v l) (hl : l.length ≤ 1048576) (hg : GOk l.length r c) (hy : y < r) (hx : x ≤ c) :
    Calls Try.prog 16 #[v, .int .i64 (c : Int), .int .i64 (y : Int), .int .i64 (x : Int), .int .i64 n] w (CellsPost (mendL (fillL l (delF l (y * c + c) (capN n)) (y * c + x) (y * c + c)) c y) w) := by
  have hU := hasPlace_any v l c y x w h hl
  rw [gPlace_mk hg (by omega) (by omega) (by omega) (by omega)] at hU
  have hN := nearest_any n 1000 w (by decide)
  rw [capC_N] at hN
  have hM := capN_le n
  generalize capN n = M at *
  obtain ⟨p, P, hp, hP, q1, q2, hpn⟩ := rowAt hg y hy
  have c1 := hg.c1
  have c2 := hg.c2
  have r2 := hg.r2
  rw [← hp]
  have q3 : (p : Int) + (x : Int) = ((p + x : Nat) : Int) := by omega
  have hA := ahead_any v l (p + x) (p + c) (c - x) M (min (c - x) M) (p + x + min (c - x) M) w h (by omega) (by omega) hpn (by omega) (by omega) (by split <;> omega) (by omega)
  rw [ahead_del l (p + x) (p + c) M (min (c - x) M) (by omega) hpn (by omega)] at hA
  generalize hL : fillL l (delF l (p + c) M) (p + x) (p + c) = L at *
  have hLl : L.length = l.length := by rw [← hL, fillL_len]
  have HG := Lib.hid (show GOk L.length r c by rw [hLl]; exact hg)
  obtain ⟨f, hf⟩ : ∃ f : Nat, f = p + x := ⟨_, rfl⟩
  obtain ⟨t, ht⟩ : ∃ t : Nat, t = p + c := ⟨_, rfl⟩
  rw [← hf, ← ht] at hA
  rw [← hf] at q3
  have q4 : ((y : Int) + 1) * (c : Int) = (t : Int) := by rw [q2, ht]; omega
  have htb : t ≤ 1048576 := by omega
  have hfb : f ≤ 1048576 := by omega
  have Q1 := Lib.hid q1
  have Q2 := Lib.hid q2
  have HP := Lib.hid hp
  have HPP := Lib.hid hP
  have hpos : 0 < L.length := by omega
  have HLL := Lib.hid hLl
  obtain ⟨A, k, rfl, h1, h2⟩ := h.form
  clear h hg hf ht hL q2 hp hP hLl
  go_enter Try.func16, Try.ntmps16
  go_wp2_with (first
    | ((with_reducible refine hU.mono ?_); rintro e w' ⟨rfl, rfl⟩)
    | ((with_reducible refine hN.mono ?_); rintro e w' ⟨rfl, rfl⟩)
    | ((with_reducible refine hA.mono ?_); rintro e w1 ⟨v1, rfl, ho, hb⟩; obtain ⟨g, cap, rfl, g1, g2, g3, g4⟩ := ho.open_ hpos; have z1 := hb.size; have HO := Lib.hid ho; have HB := Lib.hid hb; clear ho hb)
    | ((with_reducible refine (rowOf_own g L.length cap c y p P _ Q1.out Q2.out HPP.out (by rw [HLL.out]; exact hpn) g3 g4 c1 (by omega)).mono ?_); rintro e w' ⟨rfl, rfl⟩)
    | ((with_reducible refine (mendRow y HG.out hy HO.out z1 (by rw [HLL.out]; omega) HP.out HPP.out (by rw [HLL.out]; exact hpn) g3 g4).mono ?_); rintro e w2 ⟨rfl, ho2, hb2⟩))
  go_ret
  exact ⟨_, rfl, ho2, HB.out.trans hb2⟩
theorem gdelete_no (v : Value) (l : List Cl) (cols y x n : Int) (w : World) (h : CS w w.heap.size v l) (hl : l.length ≤ 1048576) (hB : gPlace l.length cols y x = false) :
    Calls Try.prog 16 #[v, .int .i64 cols, .int .i64 y, .int .i64 x, .int .i64 n] w (CellsPost l w) := by
  have hU := hasPlace_any v l cols y x w h hl
  rw [hB] at hU
  have hO := ownp_any v l w h (by omega)
  obtain ⟨A, k, rfl, h1, h2⟩ := h.form
  clear h hB
  go_enter Try.func16, Try.ntmps16
  go_wp2_with (first
    | ((with_reducible refine hU.mono ?_); rintro e w' ⟨rfl, rfl⟩)
    | ((with_reducible refine hO.mono ?_); rintro e w' ⟨v', rfl, ho, hb⟩))
  go_ret
  exact ⟨_, rfl, ho, hb⟩
theorem gdelete_any (v : Value) (l : List Cl) (cols y x n : Int) (w : World) (h : CS w w.heap.size v l) (hl : l.length ≤ 1048576) :
    Calls Try.prog 16 #[v, .int .i64 cols, .int .i64 y, .int .i64 x, .int .i64 n] w (CsPost (deleteL l cols y x n) w) := by
  unfold deleteL
  cases hB : gPlace l.length cols y x with
  | true =>
    obtain ⟨r, c, a, b, rfl, rfl, rfl, hG, hab, hbr⟩ := gPlace_of hB
    rw [if_pos rfl]
    simp only [Int.toNat_natCast]
    exact (gdelete_yes v l r c a b n w h hl hG hab hbr).mono fun {_ _} h => h.toCs
  | false =>
    rw [if_neg (by decide)]
    exact (gdelete_no v l cols y x n w h hl hB).mono fun {_ _} h => h.toCs
theorem gPlace0 {n : Nat} {cols y : Int} : gPlace n cols y 0 = upB n cols y y := by
  rw [Bool.eq_iff_iff]
  unfold gPlace upB gOk
  simp only [Bool.and_eq_true, decide_eq_true_eq]
  constructor
  · rintro ⟨a, b, c, d, e⟩
    exact ⟨a, b, c, Int.le_refl _⟩
  · rintro ⟨a, b, c, -⟩
    exact ⟨a, b, c, by omega, by omega⟩
set_option maxHeartbeats 1000000 in
theorem gmend_any (v : Value) (l : List Cl) (cols y : Int) (w : World) (h : CS w w.heap.size v l) (hl : l.length ≤ 1048576) :
    Calls Try.prog 20 #[v, .int .i64 cols, .int .i64 y] w (CsPost (mendL l cols y) w) := by
  have hO := ownp_any v l w h (by omega)
  have H := Lib.hid h
  cases hB : upB l.length cols y y with
  | true =>
    have HB2 := Lib.hid hB
    rw [← gPlace0] at hB
    obtain ⟨r, c, y, _, rfl, rfl, _, hg, hy, -⟩ := gPlace_of hB
    obtain ⟨p, P, hp, hP, q1, q2, hpn⟩ := rowAt hg y hy
    have c1 := hg.c1
    have c2 := hg.c2
    have r2 := hg.r2
    have HG := Lib.hid hg
    have Q1 := Lib.hid q1
    have Q2 := Lib.hid q2
    have HP := Lib.hid hp
    have HPP := Lib.hid hP
    have hpos : 0 < l.length := by omega
    obtain ⟨A, k, rfl, h1, h2⟩ := h.form
    clear h hB hg hp hP q1 q2
    go_enter Try.func20, Try.ntmps20
    go_wp2_with (first
      | ((with_reducible refine hO.mono ?_); rintro e w1 ⟨v1, rfl, ho, hb⟩; obtain ⟨g, cap, rfl, g1, g2, g3, g4⟩ := ho.open_ hpos; have z1 := hb.size; have HO := Lib.hid ho; have HB := Lib.hid hb; have HC := Lib.hid ((H.out.below hb).more z1); clear ho hb)
      | ((with_reducible refine (hasRows_any _ l _ _ _ _ HC.out hl).mono ?_); rintro e w' ⟨rfl, rfl⟩; rw [HB2.out])
      | ((with_reducible refine (rowOf_own g l.length cap c y p P _ Q1.out Q2.out HPP.out hpn g3 g4 c1 (by omega)).mono ?_); rintro e w' ⟨rfl, rfl⟩)
      | ((with_reducible refine (mendRow y HG.out hy HO.out z1 (by omega) HP.out HPP.out hpn g3 g4).mono ?_); rintro e w2 ⟨rfl, ho2, hb2⟩))
    go_ret
    exact CellsPost.toCs ⟨_, rfl, ho2, HB.out.trans hb2⟩
  | false =>
    unfold mendL
    rw [gPlace0, hB, if_neg (by decide)]
    have HB2 := Lib.hid hB
    obtain ⟨A, k, rfl, h1, h2⟩ := h.form
    clear h hB
    go_enter Try.func20, Try.ntmps20
    go_wp2_with (first
      | ((with_reducible refine hO.mono ?_); rintro e w1 ⟨v1, rfl, ho, hb⟩; have z1 := hb.size; have HO := Lib.hid ho; have HB := Lib.hid hb; have HC := Lib.hid ((H.out.below hb).more z1); clear ho hb)
      | ((with_reducible refine (hasRows_any _ l _ _ _ _ HC.out hl).mono ?_); rintro e w' ⟨rfl, rfl⟩; rw [HB2.out]))
    go_ret
    exact CellsPost.toCs ⟨_, rfl, HO.out, HB.out⟩
end Go.Proofs.Ytejemcpkmfhenaa

namespace Go.Proofs.Ytejemcpkmfhenaa
set_option linter.unusedVariables false

theorem rows_ext {l m : List Cl} {r c : Nat} (h1 : l.length = r * c) (h2 : m.length = r * c) (hc : 1 ≤ c) (h : ∀ y x, y < r → x < c → getC l (y * c + x) = getC m (y * c + x)) : l = m := by
  refine getC_ext (by rw [h1, h2]) (fun i hi => ?_)
  rw [h2] at hi
  have e : i / c * c + i % c = i := by rw [Nat.mul_comm]; exact Nat.div_add_mod i c
  have := h (i / c) (i % c) ((Nat.div_lt_iff_lt_mul (by omega)).2 hi) (Nat.mod_lt _ (by omega))
  rw [e] at this
  exact this
theorem badH_same {l m : List Cl} {c y x : Nat} (he : ∀ x, x < c → getC m (y * c + x) = getC l (y * c + x)) (hx : x < c) : badH m c (y * c + x) x = badH l c (y * c + x) x := by
  unfold badH
  rw [he x hx]
  have e1 : (decide (x + 1 = c) || decide ((getC m (y * c + x + 1)).h ≠ 2)) = (decide (x + 1 = c) || decide ((getC l (y * c + x + 1)).h ≠ 2)) := by
    by_cases h : x + 1 = c
    · simp [h]
    · rw [Nat.add_assoc, he (x + 1) (by omega)]
  have e2 : (decide (x = 0) || decide ((getC m (y * c + x - 1)).h ≠ 1)) = (decide (x = 0) || decide ((getC l (y * c + x - 1)).h ≠ 1)) := by
    by_cases h : x = 0
    · simp [h]
    · rw [show y * c + x - 1 = y * c + (x - 1) by omega, he (x - 1) (by omega)]
  rw [e1, e2]
theorem mendAll_getC {l : List Cl} {r c : Nat} (hg : GOk l.length r c) (n : Nat) (hn : n ≤ r) (y x : Nat) (hy : y < r) (hx : x < c) :
    getC (mendAll l (c : Int) n) (y * c + x) = if y < n then (if badH l c (y * c + x) x = true then blankC else getC l (y * c + x)) else getC l (y * c + x) := by
  induction n generalizing y x with
  | zero => rw [if_neg (by omega)]; rfl
  | succ n ih =>
    rw [mendAll_succ]
    by_cases h : y = n
    · subst h
      rw [mendL_row (by rw [mendAll_len]; exact hg) y (by omega) x hx, if_pos (show y < y + 1 by omega)]
      have he : ∀ x, x < c → getC (mendAll l (c : Int) y) (y * c + x) = getC l (y * c + x) := fun x hx => by
        rw [ih (by omega) y x hy hx, if_neg (by omega)]
      rw [badH_same he hx, he x hx]
    · rw [mendL_else n y x h hx, ih (by omega) y x hy hx]
      exact ite_iff (by omega) _ _
/-- The first rows of the new grid, mended. -/
def szL (F : List Cl) (c2 y : Nat) : List Cl := (mendAll F (c2 : Int) y).take (y * c2)
theorem szL_len {F : List Cl} {r2 c2 : Nat} (hF : F.length = r2 * c2) (y : Nat) (hy : y ≤ r2) : (szL F c2 y).length = y * c2 := by
  unfold szL
  rw [List.length_take, mendAll_len, hF]
  exact Nat.min_eq_left (Nat.mul_le_mul_right _ hy)
theorem szL_zero (F : List Cl) (c2 : Nat) : szL F c2 0 = [] := by
  unfold szL
  rw [Nat.zero_mul]
  rfl
theorem szL_getC {F : List Cl} {r2 c2 : Nat} (y y' x : Nat) (h : y' < y) (hx : x < c2) : getC (szL F c2 y) (y' * c2 + x) = getC (mendAll F (c2 : Int) y) (y' * c2 + x) := by
  unfold szL
  exact getC_take _ _ (rc_lt h hx)
/-- One row more. -/
theorem szL_succ {F l : List Cl} {r2 c2 y p m d : Nat} (hg : GOk F.length r2 c2) (hy : y < r2) (hm : m ≤ c2) (hd : d = c2 - m) (hp : p + m ≤ l.length)
    (hF : ∀ x, x < c2 → getC F (y * c2 + x) = if x < m then getC l (p + x) else blankC) :
    mendL (szL F c2 y ++ (l.drop p).take m ++ List.replicate d blankC) (c2 : Int) (y : Int) = szL F c2 (y + 1) := by
  have e1 := szL_len hg.n y (by omega)
  have e2 : ((l.drop p).take m).length = m := by simp; omega
  have e3 : (szL F c2 y ++ (l.drop p).take m).length = y * c2 + m := by rw [List.length_append, e1, e2]
  have e4 : (szL F c2 y ++ (l.drop p).take m ++ List.replicate d blankC).length = (y + 1) * c2 := by
    rw [List.length_append, e3, List.length_replicate, Nat.add_mul, Nat.one_mul]
    omega
  have r2' := hg.r2
  have hG : GOk (szL F c2 y ++ (l.drop p).take m ++ List.replicate d blankC).length (y + 1) c2 := ⟨hg.c1, hg.c2, by omega, by omega, e4⟩
  have hrow : ∀ x, x < c2 → getC (szL F c2 y ++ (l.drop p).take m ++ List.replicate d blankC) (y * c2 + x) = getC F (y * c2 + x) := by
    intro x hx
    rw [hF x hx, getC_app, e3]
    by_cases h : x < m
    · rw [if_pos (by omega), if_pos h, getC_app, e1, if_neg (by omega), getC_take _ _ (by omega), getC_drop]
      rw [show p + (y * c2 + x - y * c2) = p + x by omega]
    · rw [if_neg (by omega), if_neg h]
      exact getC_rep _ _
  refine rows_ext (r := y + 1) (by rw [mendL_len, e4]) (szL_len hg.n (y + 1) (by omega)) hg.c1 (fun y' x hy' hx => ?_)
  rw [szL_getC (r2 := r2) (y + 1) y' x hy' hx, mendAll_getC hg (y + 1) (by omega) y' x (by omega) hx, if_pos hy']
  by_cases h : y' = y
  · subst h
    rw [mendL_row hG y' (by omega) x hx, badH_same hrow hx, hrow x hx]
  · have hlt : y' < y := by omega
    have hlt2 := rc_lt hlt hx
    rw [mendL_else y y' x h hx, getC_app, if_pos (by rw [e3]; omega), getC_app, if_pos (by rw [e1]; omega), szL_getC (r2 := r2) y y' x hlt hx, mendAll_getC hg y (by omega) y' x (by omega) hx, if_pos hlt]
/-- The rows that are left are blank: nothing of them is mended. -/
theorem szL_end {F : List Cl} {r2 c2 a : Nat} (hg : GOk F.length r2 c2) (ha : a ≤ r2) (hF : ∀ y x, a ≤ y → y < r2 → x < c2 → getC F (y * c2 + x) = blankC) :
    szL F c2 a ++ List.replicate ((r2 - a) * c2) blankC = mendAll F (c2 : Int) r2 := by
  have e1 := szL_len hg.n a ha
  have e2 : a * c2 + (r2 - a) * c2 = r2 * c2 := by rw [← Nat.add_mul]; congr 1; omega
  refine rows_ext (r := r2) (by rw [List.length_append, e1, List.length_replicate, e2]) (by rw [mendAll_len, hg.n]) hg.c1 (fun y x hy hx => ?_)
  rw [mendAll_getC hg r2 (Nat.le_refl _) y x hy hx, if_pos hy, getC_app, e1]
  by_cases h : y < a
  · have hlt := rc_lt h hx
    rw [if_pos hlt, szL_getC (r2 := r2) a y x h hx, mendAll_getC hg a ha y x hy hx, if_pos h]
  · have hge : a * c2 ≤ y * c2 := Nat.mul_le_mul_right _ (by omega)
    rw [if_neg (by omega), getC_rep, hF y x (by omega) hy hx]
    split <;> rfl
end Go.Proofs.Ytejemcpkmfhenaa

namespace Go.Proofs.Ytejemcpkmfhenaa
open Go.RowKit
set_option linter.unusedVariables false
set_option linter.unusedSimpArgs false

def ErRel (l : List Cl) (p a b : Nat) (w : World) (base g n cap : Nat) (i : Value) (wr : World) : Prop :=
  ∃ x : Nat, a ≤ x ∧ (x ≤ b ∨ x = a) ∧ i = .int .i64 (x : Int) ∧ OC wr base (.slice (some ⟨g, 0, none⟩) n cap) (fillL l (fun _ => blankC) (p + a) (p + x)) ∧ Below base w wr
theorem capC_leN (n : Int) (c : Nat) : capC n (c : Int) ≤ c := by unfold capC; omega
set_option maxHeartbeats 2000000 in
theorem gerase_yes (v : Value) (l : List Cl) (r c y : Nat) (fr til : Int) (w : World) (h : CS w w.heap.size v l) (hl : l.length ≤ 1048576) (hg : GOk l.length r c) (hy : y < r) :
    Calls Try.prog 18 #[v, .int .i64 (c : Int), .int .i64 (y : Int), .int .i64 fr, .int .i64 til] w (CellsPost (mendL (fillL l (fun _ => blankC) (y * c + capC fr c) (y * c + capC til c)) c y) w) := by
  have hO := ownp_any v l w h (by omega)
  have H := Lib.hid h
  have HU := Lib.hid (place_up hg y hy)
  obtain ⟨p, P, hp, hP, q1, q2, hpn⟩ := rowAt hg y hy
  have c1 := hg.c1
  have c2 := hg.c2
  have r2 := hg.r2
  rw [← hp]
  have ha := capC_leN fr c
  have hb := capC_leN til c
  have hN1 := fun w => nearest_any fr c w (by omega)
  have hN2 := fun w => nearest_any til c w (by omega)
  generalize capC fr c = a at *
  generalize capC til c = b at *
  have HN1 := Lib.hid hN1
  have HN2 := Lib.hid hN2
  have HG := Lib.hid hg
  have Q1 := Lib.hid q1
  have Q2 := Lib.hid q2
  have HP := Lib.hid hp
  have HPP := Lib.hid hP
  have hpos : 0 < l.length := by omega
  obtain ⟨A, k, rfl, h1, h2⟩ := h.form
  clear h hg hp hP q1 q2 hN1 hN2
  go_enter Try.func18, Try.ntmps18
  go_wp2_with (first
    | ((with_reducible refine hO.mono ?_); rintro e w1 ⟨v1, rfl, ho, hb⟩; obtain ⟨g, cap, rfl, g1, g2, g3, g4⟩ := ho.open_ hpos; have z1 := hb.size; have HO := Lib.hid ho; have HB := Lib.hid hb; have HC := Lib.hid ((H.out.below hb).more z1); clear ho hb)
    | ((with_reducible refine (hasRows_any _ l _ _ _ _ HC.out hl).mono ?_); rintro e w' ⟨rfl, rfl⟩; rw [HU.out])
    | ((with_reducible refine (rowOf_own g l.length cap c y p P _ Q1.out Q2.out HPP.out hpn g3 g4 c1 (by omega)).mono ?_); rintro e w' ⟨rfl, rfl⟩)
    | ((with_reducible refine (HN1.out _).mono ?_); rintro e w' ⟨rfl, rfl⟩))
  go_loopw [13] (fun i wr => ErRel l p a b w1 w.heap.size g l.length cap i wr) (fun i _ => b - (intOf i).toNat)
  case atStart => exact ⟨a, Nat.le_refl _, .inr rfl, rfl, by rw [fillL_none _ _ _ _ (Nat.le_refl _)]; exact HO.out, Below.refl _ _⟩
  case round =>
    generalize wr = w3 at *
    obtain ⟨x, hx1, hx2, rfl, ho, hb⟩ := hrel
    have HO3 := Lib.hid ho
    have HB3 := Lib.hid hb
    have z3 := Nat.le_trans z1 hb.size
    have hg3 := ho.block.2
    clear ho hb
    by_cases hxb : x < b
    · have hxi : (x : Int) < (b : Int) := by omega
      have hQ : (p + x) * 3 = P + x * 3 := by rw [HPP.out]; omega
      have HQ := Lib.hid hQ
      clear hQ
      go_wp2_with (first
        | ((with_reducible refine (HN2.out _).mono ?_); rintro e w' ⟨rfl, rfl⟩)
        | ((with_reducible refine (gblankp_any _).mono ?_); rintro e w4 ⟨rfl, hw⟩; have z4 := hw.size; have HW := Lib.hid hw; obtain ⟨s0, s1, s2, f0, f1, f2⟩ := (HO3.out.below hw).at3 (p + x) _ _ (getC_of (by rw [fillL_len]; omega)) HQ.out; clear hw))
      go_roundw
      case rel =>
        refine ⟨x + 1, by omega, .inl (by omega), by go_num, ?_, below_put (HB3.out.trans (HW.out.mono z3)) g1 _ _ _ _⟩
        have := (HO3.out.below HW.out).put (p + x) (by omega) blankC
        rw [fillL_set _ _ _ _ _ (by omega) rfl, HQ.out] at this
        exact this
      case measure => simp [intOf]; omega
    · have hxi : ¬ (x : Int) < (b : Int) := by omega
      have HE := Lib.hid (show fillL l (fun _ => blankC) (p + a) (p + x) = fillL l (fun _ => blankC) (p + a) (p + b) by
        rcases hx2 with h | h
        · rw [show x = b by omega]
        · rw [fillL_none _ _ _ _ (by omega), fillL_none _ _ _ _ (by omega)])
      have HGF := Lib.hid (show GOk (fillL l (fun _ => blankC) (p + a) (p + x)).length r c by rw [fillL_len]; exact HG.out)
      have HFL := Lib.hid (fillL_len l (fun _ => blankC) (p + a) (p + x))
      go_wp2_with (first
        | ((with_reducible refine (HN2.out _).mono ?_); rintro e w' ⟨rfl, rfl⟩)
        | ((with_reducible refine (mendRow y HGF.out hy HO3.out z3 (by rw [HFL.out]; omega) HP.out HPP.out (by rw [HFL.out]; exact hpn) (by rw [HFL.out]; exact g3) g4).mono ?_); rintro e w2 ⟨rfl, ho2, hb2⟩))
      go_ret
      refine ⟨_, rfl, ?_, HB.out.trans (HB3.out.trans hb2)⟩
      rw [← HE.out]
      exact ho2
theorem gerase_no (v : Value) (l : List Cl) (cols y fr til : Int) (w : World) (h : CS w w.heap.size v l) (hl : l.length ≤ 1048576) (hB : upB l.length cols y y = false) :
    Calls Try.prog 18 #[v, .int .i64 cols, .int .i64 y, .int .i64 fr, .int .i64 til] w (CellsPost l w) := by
  have hO := ownp_any v l w h (by omega)
  have H := Lib.hid h
  have HB2 := Lib.hid hB
  obtain ⟨A, k, rfl, h1, h2⟩ := h.form
  clear h hB
  go_enter Try.func18, Try.ntmps18
  go_wp2_with (first
    | ((with_reducible refine hO.mono ?_); rintro e w1 ⟨v1, rfl, ho, hb⟩; have z1 := hb.size; have HO := Lib.hid ho; have HB := Lib.hid hb; have HC := Lib.hid ((H.out.below hb).more z1); clear ho hb)
    | ((with_reducible refine (hasRows_any _ l _ _ _ _ HC.out hl).mono ?_); rintro e w' ⟨rfl, rfl⟩; rw [HB2.out]))
  go_ret
  exact ⟨_, rfl, HO.out, HB.out⟩
theorem gerase_any (v : Value) (l : List Cl) (cols y fr til : Int) (w : World) (h : CS w w.heap.size v l) (hl : l.length ≤ 1048576) :
    Calls Try.prog 18 #[v, .int .i64 cols, .int .i64 y, .int .i64 fr, .int .i64 til] w (CsPost (eraseL l cols y fr til) w) := by
  unfold eraseL
  cases hB : gPlace l.length cols y 0 with
  | true =>
    obtain ⟨r, c, a, b, rfl, rfl, _, hG, hab, hbr⟩ := gPlace_of hB
    rw [if_pos rfl]
    simp only [Int.toNat_natCast]
    exact (gerase_yes v l r c a fr til w h hl hG hab).mono fun {_ _} h => h.toCs
  | false =>
    rw [if_neg (by decide)]
    exact (gerase_no v l cols y fr til w h hl (by rw [← gPlace0]; exact hB)).mono fun {_ _} h => h.toCs
theorem sizeOk_two (rows cols : Int) : sizeOk rows cols = (sizeB rows && sizeB cols) := by
  rw [Bool.eq_iff_iff]
  unfold sizeOk sizeB
  simp only [Bool.and_eq_true, decide_eq_true_eq]
  constructor
  · rintro ⟨a, b, c, d⟩
    exact ⟨⟨a, b⟩, c, d⟩
  · rintro ⟨⟨a, b⟩, c, d⟩
    exact ⟨a, b, c, d⟩
theorem gblank_any (rows cols : Int) (w : World) : Calls Try.prog 24 #[.int .i64 rows, .int .i64 cols] w (CellsPost (blankL rows cols) w) := by
  unfold blankL
  rw [sizeOk_two]
  cases hr : sizeB rows with
  | false =>
    rw [if_neg (by simp)]
    go_enter Try.func24, Try.ntmps24
    go_wp2_with ((with_reducible refine (isSize_any _ _).mono ?_); rintro e w' ⟨rfl, rfl⟩)
    go_ret
    exact ⟨_, rfl, OC.nil _ _, Below.refl _ _⟩
  | true =>
    cases hc : sizeB cols with
    | false =>
      rw [if_neg (by decide)]
      go_enter Try.func24, Try.ntmps24
      go_wp2_with ((with_reducible refine (isSize_any _ _).mono ?_); rintro e w' ⟨rfl, rfl⟩)
      go_ret
      exact ⟨_, rfl, OC.nil _ _, Below.refl _ _⟩
    | true =>
      rw [if_pos (by decide)]
      have hr2 := hr
      have hc2 := hc
      unfold sizeB at hr2 hc2
      rw [decide_eq_true_eq] at hr2 hc2
      obtain ⟨r, rfl⟩ : ∃ r : Nat, rows = r := ⟨rows.toNat, by omega⟩
      obtain ⟨c, rfl⟩ : ∃ c : Nat, cols = c := ⟨cols.toNat, by omega⟩
      simp only [Int.toNat_natCast]
      have hrc := rc_le (show r ≤ 1000 by omega) (show c ≤ 1000 by omega)
      obtain ⟨n, hn⟩ : ∃ n : Nat, n = r * c := ⟨_, rfl⟩
      have q1 : (r : Int) * (c : Int) = (n : Int) := by rw [hn]; simp
      rw [← hn] at hrc ⊢
      obtain ⟨w5, hmk, ho5, hb5⟩ := run_make0 w n (by omega)
      have hz5 := hb5.size
      have HO5 := Lib.hid ho5
      have HB5 := Lib.hid hb5
      clear hn hr2 hc2 ho5 hb5
      go_enter Try.func24, Try.ntmps24
      go_wp2_with (first
        | ((with_reducible refine (isSize_any _ _).mono ?_); rintro e w' ⟨rfl, rfl⟩)
        | ((with_reducible refine (addBlanks_any _ [] n w.heap.size w5 HO5.out hz5 (by omega) (by simp)).mono ?_); rintro e w6 ⟨v6, rfl, ho6, hb6⟩))
      go_ret
      exact ⟨_, rfl, ho6, HB5.out.trans hb6⟩
end Go.Proofs.Ytejemcpkmfhenaa

namespace Go.Proofs.Ytejemcpkmfhenaa
open Go.RowKit
set_option linter.unusedVariables false
set_option linter.unusedSimpArgs false

theorem CS.some_ {w : World} {B n k : Nat} {A : Option Addr} {l : List Cl} (h : CS w B (.slice A n k) l) (hl : 0 < l.length) : ∃ ad, A = some ad := by
  obtain ⟨ad, hA, -⟩ := h.get 0 l[0] (List.getElem?_eq_getElem hl)
  exact ⟨ad, hA⟩
def SzRel (F : List Cl) (c2 a : Nat) (w : World) (ov iv : Value) (wr : World) : Prop :=
  ∃ y : Nat, y ≤ a ∧ iv = .int .i64 (y : Int) ∧ OC wr w.heap.size ov (szL F c2 y) ∧ Below w.heap.size w wr
set_option maxHeartbeats 2000000 in
set_option maxRecDepth 100000 in
theorem gsize_yes (v : Value) (l : List Cl) (r c r2 c2 a m d e3 : Nat) (w : World) (h : CS w w.heap.size v l) (hl : l.length ≤ 1048576) (hg : GOk l.length r c) (r3 : 1 ≤ r2) (r4 : r2 ≤ 1000) (c3 : 1 ≤ c2) (c4 : c2 ≤ 1000)
    (ha : (if r2 < r then (r2 : Int) else (r : Int)) = (a : Int)) (hm : (if c2 < c then (c2 : Int) else (c : Int)) = (m : Int)) (hd : (c2 : Int) - (m : Int) = (d : Int)) (he : (r2 : Int) - (a : Int) = (e3 : Int)) :
    Calls Try.prog 22 #[v, .int .i64 (r : Int), .int .i64 (c : Int), .int .i64 (r2 : Int), .int .i64 (c2 : Int)] w (CellsPost (sizeL l r c r2 c2) w) := by
  have hS : sizeL l r c r2 c2 = mendAll ((List.range (r2 * c2)).map (cutF l r c r2 c2)) (c2 : Int) r2 := by
    unfold sizeL
    rw [if_pos ⟨hg.ok, hg.quo.1, by unfold sizeOk; rw [decide_eq_true_eq]; omega⟩]
    simp only [Int.toNat_natCast]
  have hFl : ((List.range (r2 * c2)).map (cutF l r c r2 c2)).length = r2 * c2 := by simp
  have hF : ∀ y x, y < r2 → x < c2 → getC ((List.range (r2 * c2)).map (cutF l r c r2 c2)) (y * c2 + x) = if y < min r r2 ∧ x < min c c2 then getC l (y * c + x) else blankC := fun y x hy hx => cutF_getC y x hy hx
  rw [hS]
  generalize (List.range (r2 * c2)).map (cutF l r c r2 c2) = F at *
  have hGF : GOk F.length r2 c2 := ⟨c3, c4, r3, r4, hFl⟩
  have ha12 : a = min r r2 := by split at ha <;> omega
  have hm12 : m = min c c2 := by split at hm <;> omega
  have c1 := hg.c1
  have c5 := hg.c2
  have r1 := hg.r1
  have r5 := hg.r2
  have hrc2 := rc_le r4 c4
  have hq1 : (l.length : Int) = (r : Int) * (c : Int) := by rw [hg.n]; simp
  obtain ⟨n2, hn2⟩ : ∃ n2 : Nat, n2 = r2 * c2 := ⟨_, rfl⟩
  have q1 : (r : Int) * (c : Int) = (l.length : Int) := hq1.symm
  have q2 : (r2 : Int) * (c2 : Int) = (n2 : Int) := by rw [hn2]; simp
  rw [← hn2] at hrc2
  obtain ⟨e4, he4⟩ : ∃ e4 : Nat, e4 = (r2 - a) * c2 := ⟨_, rfl⟩
  have q3 : (e3 : Int) * (c2 : Int) = (e4 : Int) := by rw [he4, show e3 = r2 - a by omega]; simp
  have he4b : e4 ≤ 1000000 := by rw [he4]; exact rc_le (by omega) c4
  have z1 : sizeB (r : Int) = true := by unfold sizeB; rw [decide_eq_true_eq]; omega
  have z2 : sizeB (c : Int) = true := by unfold sizeB; rw [decide_eq_true_eq]; omega
  have z3 : sizeB (r2 : Int) = true := by unfold sizeB; rw [decide_eq_true_eq]; omega
  have z4 : sizeB (c2 : Int) = true := by unfold sizeB; rw [decide_eq_true_eq]; omega
  have hpos : 0 < l.length := by
    have := Nat.mul_pos r1 c1
    rw [← hg.n] at this
    exact this
  obtain ⟨w5, hmk, ho5, hb5⟩ := run_make0 w n2 (by omega)
  have hz5 := hb5.size
  have HO5 := Lib.hid ho5
  have HB5 := Lib.hid hb5
  have H := Lib.hid h
  have HG := Lib.hid hg
  have HGF := Lib.hid hGF
  have HF := Lib.hid hF
  have HA := Lib.hid ha12
  have HM := Lib.hid hm12
  have HE4 := Lib.hid he4
  have ha1 : a ≤ r := by omega
  have ha2 : a ≤ r2 := by omega
  have hm1 : m ≤ c := by omega
  have hm2 : m ≤ c2 := by omega
  have hdb : d ≤ 1000 := by omega
  have HD := Lib.hid (show d = c2 - m by omega)
  obtain ⟨A, k, rfl, h1, h2⟩ := h.form
  obtain ⟨ad, rfl⟩ := h.some_ hpos
  have hq0 : ((l.length : Int) != (l.length : Int)) = false := by simp
  clear h hg hGF hF hS hFl hn2 he4 ha12 hm12 hq1 ho5 hb5
  go_enter Try.func22, Try.ntmps22
  go_wp2_with ((with_reducible refine (isSize_any _ _).mono ?_); rintro e w' ⟨rfl, rfl⟩)
  clear z1 z2 z3 z4 hmk q1 q2 hq0
  go_loopw [14, 53] (fun ov iv wr => SzRel F c2 a w ov iv wr) (fun _ iv _ => a - (intOf iv).toNat)
  case atStart => exact ⟨0, Nat.zero_le _, rfl, by rw [szL_zero]; exact HO5.out, HB5.out⟩
  case round =>
    obtain ⟨y, hy, rfl, ho, hb⟩ := hrel
    have HO := Lib.hid ho
    have HB := Lib.hid hb
    have z6 := hb.size
    have hlen := szL_len HGF.out.n y (by omega)
    clear ho hb
    by_cases hya : y < a
    · have hyi : (y : Int) < (a : Int) := by omega
      obtain ⟨p, P, hp, hP, q1, q2, hpn⟩ := rowAt HG.out y (by omega)
      obtain ⟨p2, P2, hp2, hP2, q4, q5, hpn2⟩ := rowAt (r := y + 1) (c := c2) (n := (y + 1) * c2) ⟨c3, c4, by omega, by omega, rfl⟩ y (by omega)
      have hp2e : (y + 1) * c2 = p2 + c2 := by rw [Nat.add_mul, Nat.one_mul, hp2]
      have hp2b : p2 ≤ 1000000 := by rw [hp2]; exact rc_le (by omega) c4
      have HLN := Lib.hid (show (szL F c2 y).length = p2 by rw [hlen, hp2])
      have Q1 := Lib.hid q1
      have Q2 := Lib.hid q2
      have Q4 := Lib.hid q4
      have Q5 := Lib.hid q5
      have HP := Lib.hid hp
      have HPP := Lib.hid hP
      have HP2 := Lib.hid hp2
      have HPP2 := Lib.hid hP2
      have HNX := Lib.hid (szL_succ (l := l) (p := p) (m := m) (d := d) HGF.out (show y < r2 by omega) hm2 HD.out (by omega) (fun x hx => by
        rw [HF.out y x (by omega) hx, ← HA.out, ← HM.out, ← hp]
        exact ite_iff (by omega) _ _))
      have HCR := Lib.hid (show CS wr w.heap.size (.slice (some (ad.add (p * 3))) m (k - p)) ((l.drop p).take m) by
        have := (H.out.below HB.out).cut p m m (by omega) rfl
        rw [if_neg (by omega)] at this
        exact this)
      have hmc : m ≤ k - p := by omega
      have HT := Lib.hid (show ((l.drop p).take m).length = m by simp; omega)
      clear hp hP q1 q2 hp2 hP2 q4 q5 hlen hp2e
      go_wp2_with (first
        | (at_builtin; refine wpl_appC _ rfl (.tmp 56) (.tmp 62) rfl w.heap.size _ _ (.slice (some (ad.add (p * 3))) m (k - p)) (szL F c2 y) ((l.drop p).take m) rfl rfl HO.out HCR.out (by rw [HLN.out, HT.out]; omega) z6 ?_; intro v7 w7 ho7 hg7 hb7 hat7; have hb7' : Below w.heap.size w w7 := HB.out.trans hb7; have z7 := hb7'.size; have HO7 := Lib.hid ho7; have HB7 := Lib.hid hb7'; clear ho7 hg7 hb7 hat7 hb7')
        | ((with_reducible refine (rowOf_any ad l.length k c y p _ Q1.out Q2.out hpn h1 h2 c1 (by omega)).mono ?_); rintro e w' ⟨rfl, rfl⟩)
        | ((with_reducible refine (addBlanks_any _ (szL F c2 y ++ (l.drop p).take m) d w.heap.size _ HO7.out z7 (by omega) (by rw [List.length_append, HLN.out, HT.out]; omega)).mono ?_); rintro e w8 ⟨v8, rfl, ho8, hb8⟩))
      have hb8' : Below w.heap.size w w8 := HB7.out.trans hb8
      have z8 := hb8'.size
      have HB8 := Lib.hid hb8'
      have hL8 : (szL F c2 y ++ (l.drop p).take m ++ List.replicate d blankC).length = p2 + c2 := by
        rw [List.length_append, List.length_append, HLN.out, HT.out, List.length_replicate, HD.out]
        omega
      have hG8 : GOk (szL F c2 y ++ (l.drop p).take m ++ List.replicate d blankC).length (y + 1) c2 := ⟨c3, c4, by omega, by omega, by rw [hL8, HP2.out, Nat.add_mul, Nat.one_mul]⟩
      generalize szL F c2 y ++ (l.drop p).take m ++ List.replicate d blankC = L8 at *
      obtain ⟨g, cap, rfl, g1, g2, g3, g4⟩ := ho8.open_ (by omega)
      have HO8 := Lib.hid ho8
      have HG8 := Lib.hid hG8
      have HL8 := Lib.hid hL8
      clear ho8 hb8 hb8' hL8 hG8
      go_wp2_with (first
        | ((with_reducible refine (rowOf_own g L8.length cap c2 y p2 P2 _ Q4.out Q5.out HPP2.out (by rw [HL8.out]; exact Nat.le_refl _) g3 g4 c3 (by omega)).mono ?_); rintro e w' ⟨rfl, rfl⟩)
        | ((with_reducible refine (mendRow y HG8.out (by omega) HO8.out z8 (by rw [HL8.out]; omega) HP2.out HPP2.out (by rw [HL8.out]; exact Nat.le_refl _) g3 g4).mono ?_); rintro e w9 ⟨rfl, ho9, hb9⟩))
      go_roundw
      case rel =>
        refine ⟨y + 1, hya, by go_num, ?_, HB8.out.trans hb9⟩
        rw [← HNX.out]
        exact ho9
      case measure => simp [intOf]; omega
    · obtain rfl : a = y := by omega
      have hEND := szL_end HGF.out ha2 (fun y x h1 h2 h3 => by rw [HF.out y x h2 h3, if_neg (by rw [← HA.out]; omega)])
      rw [← HE4.out] at hEND
      have HEND := Lib.hid hEND
      have hlb : (szL F c2 a).length ≤ 1000000 := by rw [hlen]; exact rc_le (by omega) c4
      clear hEND hlen
      go_wp2_with ((with_reducible refine (addBlanks_any _ (szL F c2 a) e4 w.heap.size _ HO.out z6 (by omega) (by omega)).mono ?_); rintro e w8 ⟨v8, rfl, ho8, hb8⟩)
      go_ret
      refine ⟨_, rfl, ?_, HB.out.trans hb8⟩
      rw [← HEND.out]
      exact ho8
theorem gsize_no (v : Value) (l : List Cl) (rows cols rows2 cols2 : Int) (w : World) (h : CS w w.heap.size v l) (hl : l.length ≤ 1048576) (hb : ¬ (gOk l.length cols = true ∧ (l.length : Int) / cols = rows ∧ sizeOk rows2 cols2 = true)) :
    Calls Try.prog 22 #[v, .int .i64 rows, .int .i64 cols, .int .i64 rows2, .int .i64 cols2] w (CellsPost l w) := by
  have hO := ownp_any v l w h (by omega)
  obtain ⟨A, k, rfl, h1, h2⟩ := h.form
  clear h
  cases s1 : sizeB rows with
  | false =>
    clear hb
    go_enter Try.func22, Try.ntmps22
    go_wp2_with (first
      | ((with_reducible refine (isSize_any _ _).mono ?_); rintro e w' ⟨rfl, rfl⟩)
      | ((with_reducible refine hO.mono ?_); rintro e w1 ⟨v1, rfl, ho1, hb1⟩))
    go_ret
    exact ⟨_, rfl, ho1, hb1⟩
  | true =>
    cases s2 : sizeB cols with
    | false =>
      clear hb
      go_enter Try.func22, Try.ntmps22
      go_wp2_with (first
        | ((with_reducible refine (isSize_any _ _).mono ?_); rintro e w' ⟨rfl, rfl⟩)
        | ((with_reducible refine hO.mono ?_); rintro e w1 ⟨v1, rfl, ho1, hb1⟩))
      go_ret
      exact ⟨_, rfl, ho1, hb1⟩
    | true =>
      cases s3 : sizeB rows2 with
      | false =>
        clear hb
        go_enter Try.func22, Try.ntmps22
        go_wp2_with (first
          | ((with_reducible refine (isSize_any _ _).mono ?_); rintro e w' ⟨rfl, rfl⟩)
          | ((with_reducible refine hO.mono ?_); rintro e w1 ⟨v1, rfl, ho1, hb1⟩))
        go_ret
        exact ⟨_, rfl, ho1, hb1⟩
      | true =>
        cases s4 : sizeB cols2 with
        | false =>
          clear hb
          go_enter Try.func22, Try.ntmps22
          go_wp2_with (first
            | ((with_reducible refine (isSize_any _ _).mono ?_); rintro e w' ⟨rfl, rfl⟩)
            | ((with_reducible refine hO.mono ?_); rintro e w1 ⟨v1, rfl, ho1, hb1⟩))
          go_ret
          exact ⟨_, rfl, ho1, hb1⟩
        | true =>
          have r0 := s1
          have c0 := s2
          unfold sizeB at r0 c0
          rw [decide_eq_true_eq] at r0 c0
          obtain ⟨r, rfl⟩ : ∃ r : Nat, rows = r := ⟨rows.toNat, by omega⟩
          obtain ⟨c, rfl⟩ : ∃ c : Nat, cols = c := ⟨cols.toNat, by omega⟩
          have hne : ¬ l.length = r * c := fun e => by
            have hG : GOk l.length r c := ⟨by omega, by omega, by omega, by omega, e⟩
            exact hb ⟨hG.ok, hG.quo.1, by rw [sizeOk_two, s3, s4]; rfl⟩
          obtain ⟨n, hn⟩ : ∃ n : Nat, n = r * c := ⟨_, rfl⟩
          have q1 : (r : Int) * (c : Int) = (n : Int) := by rw [hn]; simp
          have hnb : n ≤ 1000000 := by rw [hn]; exact rc_le (by omega) (by omega)
          rw [← hn] at hne
          have g1 : ((l.length : Int) != (n : Int)) = true := by simp; omega
          have g2 : ¬ (l.length : Int) = (n : Int) := by omega
          clear hb hn
          go_enter Try.func22, Try.ntmps22
          go_wp2_with (first
            | ((with_reducible refine (isSize_any _ _).mono ?_); rintro e w' ⟨rfl, rfl⟩)
            | ((with_reducible refine hO.mono ?_); rintro e w1 ⟨v1, rfl, ho1, hb1⟩))
          go_ret
          exact ⟨_, rfl, ho1, hb1⟩
theorem gsize_any (v : Value) (l : List Cl) (rows cols rows2 cols2 : Int) (w : World) (h : CS w w.heap.size v l) (hl : l.length ≤ 1048576) :
    Calls Try.prog 22 #[v, .int .i64 rows, .int .i64 cols, .int .i64 rows2, .int .i64 cols2] w (CsPost (sizeL l rows cols rows2 cols2) w) := by
  by_cases hb : gOk l.length cols = true ∧ (l.length : Int) / cols = rows ∧ sizeOk rows2 cols2 = true
  · obtain ⟨h1, h2, h3⟩ := hb
    obtain ⟨r, c, rfl, hG⟩ := gOk_of h1
    rw [hG.quo.1] at h2
    subst h2
    unfold sizeOk at h3
    rw [decide_eq_true_eq] at h3
    obtain ⟨r2, rfl⟩ : ∃ r2 : Nat, rows2 = r2 := ⟨rows2.toNat, by omega⟩
    obtain ⟨c2, rfl⟩ : ∃ c2 : Nat, cols2 = c2 := ⟨cols2.toNat, by omega⟩
    exact (gsize_yes v l r c r2 c2 (min r r2) (min c c2) (c2 - min c c2) (r2 - min r r2) w h hl hG (by omega) (by omega) (by omega) (by omega) (by split <;> omega) (by split <;> omega) (by omega) (by omega)).mono fun {_ _} h => h.toCs
  · refine ((gsize_no v l rows cols rows2 cols2 w h hl hb).mono fun {_ _} h => h.toCs).mono fun {e w'} h => ?_
    unfold sizeL
    rw [if_neg hb]
    exact h
end Go.Proofs.Ytejemcpkmfhenaa

namespace Go.Proofs.Ytejemcpkmfhenaa
open Go.RowKit
set_option linter.unusedVariables false
set_option linter.unusedSimpArgs false

theorem set_same1 {α : Type} (l : List α) (i : Nat) (x : α) (h : l[i]? = some x) : l.set i x = l := by
  obtain ⟨h1, h2⟩ := List.getElem?_eq_some_iff.1 h
  rw [← h2]
  exact List.set_getElem_self h1
theorem OC.putR1 {w : World} {base g n cap : Nat} {l : List Cl} (h : OC w base (.slice (some ⟨g, 0, none⟩) n cap) l) (k : Nat) (c : Cl) (hc : l[k]? = some c) (r : Int) : OC (w.setCell ⟨g, k * 3, none⟩ (.int .i32 r)) base (.slice (some ⟨g, 0, none⟩) n cap) (l.set k ⟨r, c.a, c.h⟩) := by
  obtain rfl := h.len
  have hk : k < l.length := (List.getElem?_eq_some_iff.1 hc).1
  obtain ⟨e0, e1, e2⟩ := vCs_get l k c hc
  have := (World.ownsRow.stored h (k * 3) (.int .i32 r)).1
  unfold OC
  rw [List.length_set, vCs_set l k _ hk]
  simp only
  rw [set_same1 ((vCs l).set (k * 3) (.int .i32 r)) (k * 3 + 1) (.int .u16 (c.a : Int)) (by rw [List.getElem?_set_ne (by omega)]; exact e1), set_same1 ((vCs l).set (k * 3) (.int .i32 r)) (k * 3 + 2) (.int .u8 (c.h : Int)) (by rw [List.getElem?_set_ne (by omega)]; exact e2)]
  exact this
theorem kG1 : blankL 2 2 = [blankC, blankC, blankC, blankC] := by decide +kernel
theorem kG2 : upL [blankC, blankC, ⟨120, 0, 0⟩, blankC] 2 0 1 1 = [⟨120, 0, 0⟩, blankC, blankC, blankC] := by decide +kernel
theorem kG3 : blankL 0 3 = [] := by decide +kernel
theorem add6 (ad : Addr) : ad.add 6 = ⟨ad.block, ad.off + 6, none⟩ := by simp [Addr.add]
theorem add00 (ad : Addr) : ad.add 0 = ad := by simp [Addr.add]
set_option maxHeartbeats 2000000 in
set_option maxRecDepth 100000 in
theorem knownG_any (w : World) : Calls Try.prog 7 #[] w fun e w' => e = .returned (.bool true) ∧ Below w.heap.size w w' := by
  have hb1 := gblank_any 2 2 w
  rw [kG1] at hb1
  go_enter Try.func7, Try.ntmps7
  go_wp2_with fail
  refine hb1.mono ?_
  rintro e w1 ⟨v1, rfl, o1, b1⟩
  clear hb1
  obtain ⟨g, cap, rfl, g1, g2, g3, g4⟩ := o1.open_ (by decide)
  have e4 : [blankC, blankC, blankC, blankC].length = 4 := rfl
  rw [e4] at o1 g3 ⊢
  clear e4
  obtain ⟨x, y, z, s0, s1, s2, f0, f1, f2⟩ := o1.spot 2 (by omega)
  have s0' : w1.cell? ⟨g, 6, none⟩ = some x := s0
  have f0' : w1.frozen? ⟨g, 6, none⟩ = false := f0
  have o2 : OC (w1.setCell ⟨g, 6, none⟩ (.int .i32 120)) w.heap.size (.slice (some ⟨g, 0, none⟩) 4 cap) [blankC, blankC, ⟨120, 0, 0⟩, blankC] := o1.putR1 2 blankC rfl 120
  have B2 := Lib.hid (Below.setCell (p := ⟨g, 6, none⟩) b1 g1 (.int .i32 120))
  have hu := gup_any _ _ 2 0 1 1 _ o2.cs (by decide)
  rw [kG2] at hu
  clear s0 s1 s2 f0 f1 f2 o1 b1 o2
  go_wp2_with fail
  refine hu.mono ?_
  rintro e w3 ⟨v3, rfl, h3, b3⟩
  have B3 := Lib.hid (B2.out.trans (b3.mono B2.out.size))
  clear hu b3
  obtain ⟨A3, c3, rfl, q1, q2⟩ := h3.form
  obtain ⟨ad, rfl, hab, t0⟩ := h3.get 0 ⟨120, 0, 0⟩ rfl
  obtain ⟨ad', hA, hab', t2⟩ := h3.get 2 blankC rfl
  cases hA
  have t0' : w3.cell? ad = some (.int .i32 120) := by have := t0.1; rw [Nat.zero_mul, add00] at this; exact this
  have t2' : w3.cell? ⟨ad.block, ad.off + 6, none⟩ = some (.int .i32 32) := by have := t2.1; rw [show 2 * 3 = 6 from rfl, add6] at this; exact this
  have e4 : [(⟨120, 0, 0⟩ : Cl), blankC, blankC, blankC].length = 4 := rfl
  rw [e4] at q1 ⊢
  clear e4 t0 t2 h3 hab'
  have hb3 := gblank_any 0 3 w3
  rw [kG3] at hb3
  go_wp2_with (refine hb3.mono ?_; rintro e w4 ⟨v4, rfl, o4, b4⟩; obtain ⟨A4, c4, rfl, q3, q4⟩ := o4.cs.form; have B4 := Lib.hid (B3.out.trans (b4.mono B3.out.size)); clear o4 b4)
  go_ret
  exact ⟨rfl, B4.out⟩
end Go.Proofs.Ytejemcpkmfhenaa

namespace Go.Proofs.Ytejemcpkmfhenaa

/-- A parser's state. -/
structure Pr where
  mode : Nat
  priv : Nat
  params : List Int
  inter : List UInt8
  utf : List UInt8
/-- What a byte comes to. -/
structure Ac where
  kind : Nat
  r : Int
  b : Nat
  priv : Nat
  params : List Int
  inter : List UInt8
def prM (m : Nat) : Pr := ⟨m, 0, [], [], []⟩
def acP (r : Int) : Ac := ⟨0, r, 0, 0, [], []⟩
def acC (b : Nat) : Ac := ⟨1, 0, b, 0, [], []⟩
def acE (b : Nat) (i : List UInt8) : Ac := ⟨2, 0, b, 0, [], i⟩
def acS (p : Pr) (b : Nat) : Ac := ⟨3, 0, b, p.priv, p.params, p.inter⟩
def interB (b : UInt8) : Bool := decide (32 ≤ b.toNat) && decide (b.toNat ≤ 47)
def printsL (l : List Nat) : List Ac := l.map fun (r : Nat) => acP (Int.ofNat r)
/-- The numbers, one of 0 at least. -/
def oneP (l : List Int) : List Int := if l.length = 0 then [0] else l
/-- The last number, and a digit more. -/
def digP (l : List Int) (b : Nat) : List Int := l.set (l.length - 1) (min (10 * l.getD (l.length - 1) 0 + ((b : Int) - 48)) 65535)
def csiL (p : Pr) (b : UInt8) : Pr × List Ac :=
  if 64 ≤ b.toNat then (prM 0, [acS p b.toNat])
  else if interB b = true then (if 2 ≤ p.inter.length then (prM 6, []) else ({ p with mode := 5, inter := p.inter ++ [b] }, []))
  else if p.mode = 5 ∨ b.toNat = 58 then (prM 6, [])
  else if 60 ≤ b.toNat then (if 0 < p.params.length ∨ p.priv ≠ 0 then (prM 6, []) else ({ p with priv := b.toNat }, []))
  else if b.toNat = 59 then (if 16 ≤ (oneP p.params).length then (prM 6, []) else ({ p with params := oneP p.params ++ [0] }, []))
  else ({ p with params := digP (oneP p.params) b.toNat }, [])
/-- Within a sequence, from 0x20 to 0x7e. -/
def vtM (p : Pr) (b : UInt8) : Pr × List Ac :=
  if p.mode = 1 then
    (if interB b = true then ({ prM 2 with inter := [b] }, [])
     else if b.toNat = 91 then (prM 4, [])
     else if b.toNat = 93 ∨ b.toNat = 80 ∨ b.toNat = 88 ∨ b.toNat = 94 ∨ b.toNat = 95 then (prM 7, [])
     else (prM 0, [acE b.toNat []]))
  else if p.mode = 2 then
    (if interB b = false then (prM 0, [acE b.toNat p.inter])
     else if 2 ≤ p.inter.length then (prM 3, [])
     else ({ prM 2 with inter := p.inter ++ [b] }, []))
  else if p.mode = 3 then (if 48 ≤ b.toNat then (prM 0, []) else (p, []))
  else if p.mode = 6 then (if 64 ≤ b.toNat then (prM 0, []) else (p, []))
  else csiL p b
/-- With nothing pending. -/
def vtN (p : Pr) (b : UInt8) : Pr × List Ac :=
  if b.toNat = 24 ∨ b.toNat = 26 then (prM 0, [])
  else if b.toNat = 27 then (prM 1, [])
  else if p.mode = 0 then
    (if b.toNat < 32 then (prM 0, [acC b.toNat])
     else if b.toNat = 127 then (prM 0, [])
     else ({ prM 0 with utf := (stepL [] b).1 }, printsL (stepL [] b).2))
  else if p.mode = 7 then (if b.toNat = 7 then (prM 0, []) else (p, []))
  else if b.toNat < 32 then (p, [acC b.toNat])
  else if b.toNat = 127 then (p, [])
  else if 128 ≤ b.toNat then (prM 0, [])
  else vtM p b
/-- Are the bytes U+FFFD's own? -/
def formedB (p : List UInt8) (b : UInt8) : Bool := p == [239, 191] && b == 189
/-- Does b go on with what is pending? -/
def goesB (u : List UInt8) (b : UInt8) : Bool :=
  decide (128 ≤ b.toNat) && (decide ((stepL u b).2.length = 0) || decide ((stepL u b).2.getD 0 0 ≠ 65533) || (decide ((stepL u b).2.length = 1) && decide ((stepL u b).1.length = 0) && formedB u b))
def vtL (p : Pr) (b : UInt8) : Pr × List Ac :=
  if p.mode = 0 ∧ 0 < p.utf.length then
    (if goesB p.utf b = true then ({ prM 0 with utf := (stepL p.utf b).1 }, printsL (stepL p.utf b).2)
     else ((vtN { p with utf := [] } b).1, acP 65533 :: (vtN { p with utf := [] } b).2))
  else vtN p b
def vtAll (p : Pr) (l : List UInt8) : Pr × List Ac := l.foldl (fun s b => ((vtL s.1 b).1, s.2 ++ (vtL s.1 b).2)) (p, [])

/-- Which states may be. -/
structure PrOk (p : Pr) : Prop where
  mode : p.mode ≤ 7
  priv : p.priv = 0 ∨ (60 ≤ p.priv ∧ p.priv ≤ 63)
  params : p.params.length ≤ 16
  each : ∀ x ∈ p.params, 0 ≤ x ∧ x ≤ 65535
  inter : p.inter.length ≤ 2
  eachI : ∀ b ∈ p.inter, interB b = true
  utf : p.utf = [] ∨ (p.mode = 0 ∧ beginsL p.utf = true)
  csi : p.mode = 4 ∨ p.mode = 5 ∨ (p.priv = 0 ∧ p.params = [])
  with_ : (p.mode = 2 ∨ p.mode = 5) ↔ 0 < p.inter.length
theorem prM_ok (m : Nat) (h : m ≤ 7) (h2 : m ≠ 2) (h5 : m ≠ 5) : PrOk (prM m) := ⟨h, .inl rfl, by simp [prM], by simp [prM], by simp [prM], by simp [prM], .inl rfl, .inr (.inr ⟨rfl, rfl⟩), by simp [prM]; omega⟩
theorem oneP_len (l : List Int) : 1 ≤ (oneP l).length ∧ ((oneP l).length = l.length ∨ (l.length = 0 ∧ (oneP l).length = 1)) := by
  unfold oneP
  split
  · rename_i h; simp [h]
  · rename_i h; exact ⟨by omega, .inl rfl⟩
theorem oneP_each (l : List Int) (h : ∀ x ∈ l, 0 ≤ x ∧ x ≤ 65535) : ∀ x ∈ oneP l, 0 ≤ x ∧ x ≤ 65535 := by
  unfold oneP
  split
  · simp
  · exact h
theorem digP_len (l : List Int) (b : Nat) : (digP l b).length = l.length := by simp [digP]
theorem digP_each (l : List Int) (b : Nat) (hb : 48 ≤ b) (hl : 1 ≤ l.length) (h : ∀ x ∈ l, 0 ≤ x ∧ x ≤ 65535) : ∀ x ∈ digP l b, 0 ≤ x ∧ x ≤ 65535 := by
  intro x hx
  unfold digP at hx
  rcases List.mem_or_eq_of_mem_set hx with h1 | h1
  · exact h x h1
  · have hlt : l.length - 1 < l.length := by omega
    have hm : 0 ≤ l.getD (l.length - 1) 0 ∧ l.getD (l.length - 1) 0 ≤ 65535 := by
      have := h (l[l.length - 1]) (List.getElem_mem hlt)
      simpa [List.getD, List.getElem?_eq_getElem hlt] using this
    rw [h1]
    omega
theorem csiL_ok (p : Pr) (b : UInt8) (h : PrOk p) (hm : p.mode = 4 ∨ p.mode = 5) (hb : 32 ≤ b.toNat) : PrOk (csiL p b).1 := by
  have hi := h.with_
  unfold csiL
  split
  · exact prM_ok 0 (by omega) (by omega) (by omega)
  split
  · rename_i hB
    split
    · exact prM_ok 6 (by omega) (by omega) (by omega)
    · rename_i hl
      refine ⟨by show 5 ≤ 7; omega, h.priv, h.params, h.each, by show (p.inter ++ [b]).length ≤ 2; simp; omega, ?_, ?_, .inr (.inl rfl), ?_⟩
      · intro c hc
        rcases List.mem_append.1 hc with h1 | h1
        · exact h.eachI c h1
        · rw [List.mem_singleton.1 h1]; exact hB
      · rcases h.utf with hu | ⟨hu, _⟩
        · exact .inl hu
        · omega
      · show ((5 : Nat) = 2 ∨ (5 : Nat) = 5) ↔ 0 < (p.inter ++ [b]).length
        simp
  rename_i hnb hB
  split
  · exact prM_ok 6 (by omega) (by omega) (by omega)
  rename_i hm5
  have hm4 : p.mode = 4 := by omega
  have hu : p.utf = [] := by
    rcases h.utf with hu | ⟨hu, _⟩
    · exact hu
    · omega
  split
  · split
    · exact prM_ok 6 (by omega) (by omega) (by omega)
    · rename_i h60 hp
      exact ⟨h.mode, .inr ⟨h60, by show b.toNat ≤ 63; omega⟩, h.params, h.each, h.inter, h.eachI, .inl hu, .inl hm4, h.with_⟩
  rename_i h60
  have hlen := oneP_len p.params
  have hpl := h.params
  split
  · split
    · exact prM_ok 6 (by omega) (by omega) (by omega)
    · rename_i h59 h16
      refine ⟨h.mode, h.priv, by show (oneP p.params ++ [0]).length ≤ 16; simp; omega, ?_, h.inter, h.eachI, .inl hu, .inl hm4, h.with_⟩
      intro x hx
      rcases List.mem_append.1 hx with h1 | h1
      · exact oneP_each _ h.each x h1
      · rw [List.mem_singleton.1 h1]; omega
  · rename_i h59
    have hn : 48 ≤ b.toNat := by
      rcases Nat.lt_or_ge b.toNat 48 with h1 | h1
      · exact absurd (show interB b = true by simp [interB]; omega) hB
      · exact h1
    exact ⟨h.mode, h.priv, by show (digP (oneP p.params) b.toNat).length ≤ 16; rw [digP_len]; omega, digP_each _ _ hn hlen.1 (oneP_each _ h.each), h.inter, h.eachI, .inl hu, .inl hm4, h.with_⟩
theorem utf_ok (u : List UInt8) (h : u = [] ∨ beginsL u = true) : PrOk { prM 0 with utf := u } :=
  ⟨by show (0 : Nat) ≤ 7; omega, .inl rfl, by simp [prM], by simp [prM], by simp [prM], by simp [prM], h.elim .inl (fun h => .inr ⟨rfl, h⟩), .inr (.inr ⟨rfl, rfl⟩), by simp [prM]⟩
theorem vtM_ok (p : Pr) (b : UInt8) (h : PrOk p) (h0 : p.mode ≠ 0) (h7 : p.mode ≠ 7) (hb : 32 ≤ b.toNat) : PrOk (vtM p b).1 := by
  have hi := h.with_
  have hmode := h.mode
  unfold vtM
  split
  · split
    · rename_i hB
      exact ⟨by show (2 : Nat) ≤ 7; omega, .inl rfl, by simp [prM], by simp [prM], by show [b].length ≤ 2; simp, by intro c hc; rw [List.mem_singleton.1 hc]; exact hB, .inl rfl, .inr (.inr ⟨rfl, rfl⟩), by show ((2 : Nat) = 2 ∨ (2 : Nat) = 5) ↔ 0 < [b].length; simp⟩
    split
    · exact prM_ok 4 (by omega) (by omega) (by omega)
    split
    · exact prM_ok 7 (by omega) (by omega) (by omega)
    · exact prM_ok 0 (by omega) (by omega) (by omega)
  split
  · split
    · exact prM_ok 0 (by omega) (by omega) (by omega)
    split
    · exact prM_ok 3 (by omega) (by omega) (by omega)
    · rename_i hB hl
      have hB' : interB b = true := by cases hh : interB b <;> simp_all
      refine ⟨by show (2 : Nat) ≤ 7; omega, .inl rfl, by simp [prM], by simp [prM], by show (p.inter ++ [b]).length ≤ 2; simp; omega, ?_, .inl rfl, .inr (.inr ⟨rfl, rfl⟩), by show ((2 : Nat) = 2 ∨ (2 : Nat) = 5) ↔ 0 < (p.inter ++ [b]).length; simp⟩
      intro c hc
      rcases List.mem_append.1 hc with h1 | h1
      · exact h.eachI c h1
      · rw [List.mem_singleton.1 h1]; exact hB'
  split
  · split
    · exact prM_ok 0 (by omega) (by omega) (by omega)
    · exact h
  split
  · split
    · exact prM_ok 0 (by omega) (by omega) (by omega)
    · exact h
  · exact csiL_ok p b h (by omega) (by omega)
theorem vtN_ok (p : Pr) (b : UInt8) (h : PrOk p) : PrOk (vtN p b).1 := by
  have hi := h.with_
  have hmode := h.mode
  unfold vtN
  split
  · exact prM_ok 0 (by omega) (by omega) (by omega)
  split
  · exact prM_ok 1 (by omega) (by omega) (by omega)
  split
  · split
    · exact prM_ok 0 (by omega) (by omega) (by omega)
    split
    · exact prM_ok 0 (by omega) (by omega) (by omega)
    · exact utf_ok _ (stepL_pend [] b)
  split
  · split
    · exact prM_ok 0 (by omega) (by omega) (by omega)
    · exact h
  split
  · exact h
  split
  · exact h
  split
  · exact prM_ok 0 (by omega) (by omega) (by omega)
  · exact vtM_ok p b h (by omega) (by omega) (by omega)
theorem drop_ok (p : Pr) (h : PrOk p) : PrOk { p with utf := [] } := ⟨h.mode, h.priv, h.params, h.each, h.inter, h.eachI, .inl rfl, h.csi, h.with_⟩
theorem vtL_ok (p : Pr) (b : UInt8) (h : PrOk p) : PrOk (vtL p b).1 := by
  unfold vtL
  split
  · split
    · exact utf_ok _ (stepL_pend p.utf b)
    · exact vtN_ok _ b (drop_ok p h)
  · exact vtN_ok p b h
end Go.Proofs.Ytejemcpkmfhenaa

namespace Go.Proofs.Ytejemcpkmfhenaa

/-- A screen. -/
structure Sc where
  rows : Int
  cols : Int
  cells : List Cl
  y : Int
  x : Int
  wrap : Bool
  attr : Nat
  top : Int
  bottom : Int
  tabs : List Bool
  sy : Int
  sx : Int
  sattr : Nat
  auto : Bool
  shown : Bool
  alt : Bool
  other : List Cl
  oy : Int
  ox : Int
  p : Pr
def newTabs (cols : Nat) : List Bool := (List.range cols).map fun x => decide (x % 8 = 0)
def newS (rows cols : Int) : Sc := ⟨rows, cols, blankL rows cols, 0, 0, false, 0, 0, rows - 1, newTabs cols.toNat, 0, 0, 0, true, true, false, [], 0, 0, prM 0⟩
/-- LF. -/
def downS (s : Sc) : Sc :=
  if s.y = s.bottom then { s with wrap := false, cells := upL s.cells s.cols s.top s.bottom 1 }
  else if s.y < s.rows - 1 then { s with wrap := false, y := s.y + 1 } else { s with wrap := false }
def crS (s : Sc) : Sc := { downS s with x := 0 }
def atS (s : Sc) : Nat := (s.y * s.cols + s.x).toNat
def cells1 (s : Sc) (r : Int) : List Cl := s.cells.set (atS s) ⟨r, s.attr, 0⟩
def cells2 (s : Sc) (r : Int) : List Cl := (s.cells.set (atS s) ⟨r, s.attr, 1⟩).set (atS s + 1) ⟨0, s.attr, 2⟩
/-- A rune of w cells, there where the cursor is. -/
def putS (s : Sc) (r : Int) (w : Int) : Sc :=
  if s.cols ≤ s.x + w then { s with cells := mendL (if w = 2 then cells2 s r else cells1 s r) s.cols s.y, x := s.cols - 1, wrap := s.auto }
  else { s with cells := mendL (if w = 2 then cells2 s r else cells1 s r) s.cols s.y, x := s.x + w }
def wrapS (s : Sc) : Sc := if s.wrap = true then crS s else s
def printS (s : Sc) (r : Int) : Sc :=
  if widthL r = 0 then s
  else if widthL r = 2 ∧ (wrapS s).x = (wrapS s).cols - 1 then
    (if (wrapS s).auto = false ∨ (wrapS s).cols = 1 then wrapS s else putS (crS (wrapS s)) r 2)
  else putS (wrapS s) r (widthL r)
/-- The next tab, from x on, or the end. -/
def nextTab (tabs : List Bool) : Nat → Nat → Nat
  | 0, x => x
  | n + 1, x => if tabs.getD x true = true then x else nextTab tabs n (x + 1)
def tabX (s : Sc) : Int := min (nextTab s.tabs (s.cols - (s.x + 1)).toNat (s.x + 1).toNat : Int) (s.cols - 1)
def controlS (s : Sc) (b : Nat) : Sc :=
  if b = 8 then { s with x := max (s.x - 1) 0, wrap := false }
  else if b = 9 then { s with wrap := false, x := tabX s }
  else if b = 10 ∨ b = 11 ∨ b = 12 then downS s
  else if b = 13 then { s with x := 0, wrap := false }
  else s
def escapeS (s : Sc) (b : Nat) : Sc :=
  if b = 55 then { s with sy := s.y, sx := s.x, sattr := s.attr }
  else if b = 56 then { s with y := s.sy, x := s.sx, attr := s.sattr, wrap := false }
  else if b = 68 then downS s
  else if b = 69 then crS s
  else if b = 77 then
    (if s.y = s.top then { s with wrap := false, cells := downL s.cells s.cols s.top s.bottom 1 }
     else if 0 < s.y then { s with wrap := false, y := s.y - 1 } else { s with wrap := false })
  else if b = 72 then { s with tabs := s.tabs.set s.x.toNat true }
  else if b = 99 then newS s.rows s.cols
  else s
def modeS (s : Sc) (k : Int) (on : Bool) : Sc :=
  if k = 7 then { s with auto := on }
  else if k = 25 then { s with shown := on }
  else if k = 1049 ∧ on = true ∧ s.alt = false then { s with other := s.cells, oy := s.y, ox := s.x, alt := true, wrap := false, cells := blankL s.rows s.cols }
  else if k = 1049 ∧ on = false ∧ s.alt = true then { s with cells := s.other, y := s.oy, x := s.ox, alt := false, wrap := false, other := [], oy := 0, ox := 0 }
  else s
def paramL (l : List Int) (i : Nat) (usual : Int) : Int := if l.getD i 0 = 0 then usual else l.getD i 0
def toS (s : Sc) (y x : Int) : Sc := { s with y := min (max y 0) (s.rows - 1), x := min (max x 0) (s.cols - 1), wrap := false }
def lookN (a : Nat) (k : Int) : Nat :=
  if k = 0 then 0
  else if k = 1 then (if a % 2 = 0 then a + 1 else a)
  else if k = 4 then (if a / 2 % 2 = 0 then a + 2 else a)
  else if k = 7 then (if a / 4 % 2 = 0 then a + 4 else a)
  else if k = 22 then a - a % 2
  else if k = 24 then a - a / 2 % 2 * 2
  else if k = 27 then a - a / 4 % 2 * 4
  else if 30 ≤ k ∧ k ≤ 37 then a - a / 16 % 16 * 16 + (k - 29).toNat * 16
  else if k = 39 then a - a / 16 % 16 * 16
  else if 40 ≤ k ∧ k ≤ 47 then a - a / 256 % 16 * 256 + (k - 39).toNat * 256
  else if k = 49 then a - a / 256 % 16 * 256
  else a
def eraseS (s : Sc) (row : Bool) (k : Int) : Sc :=
  if 2 < k then { s with wrap := false }
  else { s with wrap := false, cells := mendL (fillL s.cells (fun _ => blankC)
      (if k = 0 then s.y * s.cols + s.x else if row = true then s.y * s.cols else 0).toNat
      (if k = 1 then s.y * s.cols + s.x + 1 else if row = true then (s.y + 1) * s.cols else s.cells.length).toNat) s.cols s.y }
def seqS (s : Sc) (b : Nat) (l : List Int) : Sc :=
  let n := paramL l 0 1
  let m := paramL l 1 1
  let k := paramL l 0 0
  if b = 65 then toS s (s.y - n) s.x
  else if b = 66 then toS s (s.y + n) s.x
  else if b = 67 then toS s s.y (s.x + n)
  else if b = 68 then toS s s.y (s.x - n)
  else if b = 71 ∨ b = 96 then toS s s.y (n - 1)
  else if b = 100 then toS s (n - 1) s.x
  else if b = 72 ∨ b = 102 then toS s (n - 1) (m - 1)
  else if b = 74 then eraseS s false k
  else if b = 75 then eraseS s true k
  else if b = 76 then (if s.top ≤ s.y ∧ s.y ≤ s.bottom then { s with wrap := false, x := 0, cells := downL s.cells s.cols s.y s.bottom n } else { s with wrap := false })
  else if b = 77 then (if s.top ≤ s.y ∧ s.y ≤ s.bottom then { s with wrap := false, x := 0, cells := upL s.cells s.cols s.y s.bottom n } else { s with wrap := false })
  else if b = 64 then { s with cells := insertL s.cells s.cols s.y s.x n, wrap := false }
  else if b = 80 then { s with cells := deleteL s.cells s.cols s.y s.x n, wrap := false }
  else if b = 88 then { s with cells := eraseL s.cells s.cols s.y s.x (s.x + n), wrap := false }
  else if b = 83 then { s with cells := upL s.cells s.cols s.top s.bottom n, wrap := false }
  else if b = 84 then { s with cells := downL s.cells s.cols s.top s.bottom n, wrap := false }
  else if b = 114 then
    (if n - 1 < min (paramL l 1 s.rows) s.rows - 1 then { toS s 0 0 with top := n - 1, bottom := min (paramL l 1 s.rows) s.rows - 1 } else s)
  else if b = 103 then (if k = 0 then { s with tabs := s.tabs.set s.x.toNat false } else if k = 3 then { s with tabs := List.replicate s.cols.toNat false } else s)
  else if b = 109 then { s with attr := if l.length = 0 then 0 else l.foldl lookN s.attr }
  else s
def doS (s : Sc) (a : Ac) : Sc :=
  if a.kind = 0 then printS s a.r
  else if a.kind = 1 then controlS s a.b
  else if a.kind = 2 then (if a.inter.length = 0 then escapeS s a.b else s)
  else if a.kind = 3 then
    (if 0 < a.inter.length then s
     else if a.priv = 63 ∧ (a.b = 104 ∨ a.b = 108) then a.params.foldl (fun s k => modeS s k (decide (a.b = 104))) s
     else if a.priv = 0 then seqS s a.b a.params else s)
  else s
def stepS (s : Sc) (b : UInt8) : Sc := { (vtL s.p b).2.foldl doS s with p := (vtL s.p b).1 }
def feedS (s : Sc) (l : List UInt8) : Sc := l.foldl stepS s

/-- Which attributes may be. -/
def attrB (a : Nat) : Bool := decide (a < 4096) && decide (a / 8 % 2 = 0) && decide (a / 16 % 16 ≤ 8) && decide (a / 256 % 16 ≤ 8)
/-- Which cells may be. -/
def cellB (c : Cl) : Bool := mayR c.r && attrB c.a && decide (c.h ≤ 2) && (decide (c.r = 0) == decide (c.h = 2))
/-- What holds of each screen, but for the halves. -/
structure ScIn (s : Sc) (r c : Nat) : Prop where
  rows : s.rows = r
  cols : s.cols = c
  g : GOk s.cells.length r c
  cells : ∀ x ∈ s.cells, cellB x = true
  y0 : 0 ≤ s.y
  y1 : s.y < r
  x0 : 0 ≤ s.x
  x1 : s.x < c
  wrap : s.wrap = true → s.x = c - 1
  attr : attrB s.attr = true
  t0 : 0 ≤ s.top
  t1 : s.top ≤ s.bottom
  b1 : s.bottom < r
  tb : s.top < s.bottom ∨ r = 1
  tabs : s.tabs.length = c
  sy0 : 0 ≤ s.sy
  sy1 : s.sy < r
  sx0 : 0 ≤ s.sx
  sx1 : s.sx < c
  sattr : attrB s.sattr = true
  other : s.alt = true → (GOk s.other.length r c ∧ ∀ x ∈ s.other, cellB x = true)
  noAlt : s.alt = false → (s.other = [] ∧ s.oy = 0 ∧ s.ox = 0)
  oy0 : 0 ≤ s.oy
  oy1 : s.oy < r
  ox0 : 0 ≤ s.ox
  ox1 : s.ox < c
  p : PrOk s.p
end Go.Proofs.Ytejemcpkmfhenaa

namespace Go.Proofs.Ytejemcpkmfhenaa
open Go.RowKit

/-- A byte as a value. -/
def vT (b : Bool) : Value := .bool b
def vTs (l : List Bool) : List Value := l.map vT

/-- A row of bytes of the call's own, from block 'base' on. -/
def OT (w : World) (base : Nat) (v : Value) (l : List Bool) : Prop := w.ownsRow base 4 1 v l.length (vTs l)

/-- A slice that reads as the bytes l; it lies below block B. -/
def TS (w : World) (B : Nat) (v : Value) (l : List Bool) : Prop :=
  ∃ A c, v = .slice A l.length c ∧ l.length ≤ c ∧ c ≤ maxLen ∧
    (0 < l.length → ∃ ad, A = some ad ∧ ad.block < B ∧ ∀ j b, l[j]? = some b → w.cell? (ad.add j) = some (vT b))

theorem vTs_one (l : List Bool) : ∀ u ∈ vTs l, u.oneCell' = true := by
  intro u hu
  unfold vTs at hu
  rw [List.mem_map] at hu
  obtain ⟨b, _, rfl⟩ := hu
  rfl

section
variable {w w' : World} {B B' base : Nat} {v : Value} {l : List Bool}
theorem TS.keep (h : TS w B v l) (hk : ∀ p : Addr, p.block < B → w'.cell? p = w.cell? p) : TS w' B v l := by
  obtain ⟨A, c, hv, h1, h2, h3⟩ := h
  refine ⟨A, c, hv, h1, h2, fun hl => ?_⟩
  obtain ⟨ad, hA, hb, hc⟩ := h3 hl
  exact ⟨ad, hA, hb, fun j b hj => (hk _ (by rw [block_add]; exact hb)).trans (hc j b hj)⟩
theorem TS.below (h : TS w B v l) (hb : Below B w w') : TS w' B v l := h.keep fun _ hp => hb.cell hp
theorem TS.more (h : TS w B v l) (hB : B ≤ B') : TS w B' v l := by
  obtain ⟨A, c, hv, h1, h2, h3⟩ := h
  refine ⟨A, c, hv, h1, h2, fun hl => ?_⟩
  obtain ⟨ad, hA, hb, hc⟩ := h3 hl
  exact ⟨ad, hA, by omega, hc⟩
theorem TS.alloc (h : TS w B v l) (hB : B ≤ w.heap.size) (o : Obj) : TS (w.alloc o) B v l := h.keep fun p hp => World.cell?_alloc_lt w o p (by omega)
theorem TS.nil (w : World) (B : Nat) : TS w B (.slice none 0 0) [] := ⟨none, 0, rfl, by simp, by simp [maxLen], fun h => absurd h (by simp)⟩
theorem TS.at_ (h : TS w B v l) : ∃ A c, v = .slice A l.length c ∧ l.length ≤ c ∧ c ≤ maxLen ∧
    ∀ k (hk : k < l.length), ∃ ad, A = some ad ∧ w.cell? (ad.add k) = some (vT (l[k]'hk)) := by
  obtain ⟨A, c, hv, h1, h2, h3⟩ := h
  refine ⟨A, c, hv, h1, h2, fun k hk => ?_⟩
  obtain ⟨ad, hA, _, hc⟩ := h3 (by omega)
  exact ⟨ad, hA, hc k _ (List.getElem?_eq_getElem hk)⟩

theorem OT.nil (w : World) (base : Nat) : OT w base (.slice none 0 0) [] := World.ownsRow_nil w base _ _
theorem OT.below (h : OT w base v l) (hb : Below w.heap.size w w') : OT w' base v l := by
  have hg : w.grownBy w' none := ⟨hb.os, hb.tape, hb.output, hb.size, fun i hi _ => hb.block i hi⟩
  unfold OT at h ⊢
  refine h.kept hg ?_
  cases hv : v.ownBlock with
  | none => exact Or.inl rfl
  | some k => exact Or.inr (by simp)
theorem OT.bs (h : OT w base v l) : TS w w.heap.size v l := by
  unfold OT at h
  rcases h.2 with ⟨rfl, hn⟩ | ⟨g, cap, cur, rfl, hbg, hg, hnc, hcm, hcs, htake⟩
  · have : l = [] := List.eq_nil_of_length_eq_zero hn
    subst this
    exact TS.nil w _
  · have hlt : g < w.heap.size := by
      rcases Nat.lt_or_ge g w.heap.size with hh | hh
      · exact hh
      · rw [Array.getElem?_eq_none hh] at hg; cases hg
    refine ⟨_, cap, rfl, hnc, hcm, fun _ => ⟨_, rfl, hlt, fun j b hj => ?_⟩⟩
    refine h.cells (g := g) rfl j (vT b) ?_
    unfold vTs
    rw [List.getElem?_map, hj]; rfl
end

/-- A part of a slice. -/
theorem TS.cut {w : World} {B : Nat} {A : Option Addr} {n c : Nat} {l : List Bool} (h : TS w B (.slice A n c) l) (k m j : Nat) (hk : k + m ≤ l.length) (hj : j = m) :
    TS w B (.slice (if c = k then A else Option.map (fun x => x.add k) A) j (c - k)) ((l.drop k).take m) := by
  subst hj
  obtain ⟨A', c', hv, h1, h2, h3⟩ := h
  simp only [Value.slice.injEq] at hv
  obtain ⟨rfl, rfl, rfl⟩ := hv
  have hlen : ((l.drop k).take j).length = j := by simp; omega
  refine ⟨_, c - k, by rw [hlen], by rw [hlen]; omega, by omega, fun hl => ?_⟩
  rw [hlen] at hl
  obtain ⟨ad, rfl, hb, hc⟩ := h3 (by omega)
  rw [if_neg (by omega)]
  refine ⟨ad.add k, rfl, by rw [block_add]; exact hb, fun i b hi => ?_⟩
  rw [add_add]
  refine hc _ b ?_
  rw [List.getElem?_take] at hi
  split at hi
  · rw [List.getElem?_drop] at hi; exact hi
  · cases hi
theorem TS.cutH {w : World} {B : Nat} {A : Option Addr} {n c : Nat} {l : List Bool} (h : TS w B (.slice A n c) l) (m j : Nat) (hk : m ≤ l.length) (hj : j = m) :
    TS w B (.slice A j c) (l.take m) := by
  obtain ⟨A', c', hv, h1, h2, h3⟩ := h
  simp only [Value.slice.injEq] at hv
  obtain ⟨rfl, rfl, rfl⟩ := hv
  subst hj
  have hlen : (l.take j).length = j := by simp; omega
  refine ⟨A, c, by rw [hlen], by omega, h2, fun hl => ?_⟩
  rw [hlen] at hl
  obtain ⟨ad, rfl, hb, hc⟩ := h3 (by omega)
  refine ⟨ad, rfl, hb, fun i b hi => ?_⟩
  refine hc _ b ?_
  rw [List.getElem?_take] at hi
  split at hi
  · exact hi
  · cases hi

/-- A slice of one byte that has just been laid. -/
theorem TS.one (w : World) (b : Bool) (t : TypeId) : TS (w.alloc (.cells #[vT b] t)) (w.heap.size + 1) (.slice (some ⟨w.heap.size, 0, none⟩) 1 1) [b] := by
  refine ⟨_, 1, rfl, by simp, by simp [maxLen], fun _ => ⟨_, rfl, by simp, fun j c hj => ?_⟩⟩
  match j, hj with
  | 0, hj =>
    simp at hj
    subst hj
    simp [Addr.add]

theorem OT.alloc {w : World} {base : Nat} {v : Value} {l : List Bool} (h : OT w base v l) (o : Obj) : OT (w.alloc o) base v l := World.ownsRow.alloc h o

/-- A slice that has just been laid, its bytes written out. -/
theorem TS.lit (w : World) (l : List Bool) (n : Nat) (cs : Array Value) (t : TypeId) (hn : n = l.length) (hcs : cs = (vTs l).toArray) (hm : l.length ≤ 1048576) :
    TS (w.alloc (.cells cs t)) (w.heap.size + 1) (.slice (some ⟨w.heap.size, 0, none⟩) n n) l := by
  subst hn
  subst hcs
  refine ⟨_, _, rfl, by simp, by simp [maxLen]; omega, fun _ => ⟨_, rfl, by simp, fun j b hj => ?_⟩⟩
  have h := World.news_of_block (heap_alloc_new w (.cells (vTs l).toArray t)) j (vT b)
  exact h (by simp [vTs, hj])

/-- The same of a constant string's bytes: the row bears a mark. -/
theorem TS.litM (w : World) (l : List Bool) (n : Nat) (cs : Array Value) (t : TypeId) (fr : Nat × Nat) (hn : n = l.length) (hcs : cs = (vTs l).toArray) (hm : l.length ≤ 1048576) :
    TS (w.alloc (.cells cs t fr)) (w.heap.size + 1) (.slice (some ⟨w.heap.size, 0, none⟩) n n) l := by
  subst hn
  subst hcs
  refine ⟨_, _, rfl, by simp, by simp [maxLen]; omega, fun _ => ⟨_, rfl, by simp, fun j b hj => ?_⟩⟩
  have h := World.news_of_block (heap_alloc_new w (.cells (vTs l).toArray t fr)) j (vT b)
  exact h (by simp [vTs, hj])

theorem boolInfo : (Try.prog.info? 4).map (fun i => (i.zero, i.size, i.bytes)) = some (some (.bool false), 1, 1) := by kernel_rfl

/-- append onto a row of the call's own, of whatever bytes. -/
theorem run_appT (w : World) (ty : TypeId) {base B : Nat} {v u : Value} {l m : List Bool} (hown : OT w base v l) (hr : TS w B u m) (hlen : l.length + m.length ≤ 1099511627776) (hbase : base ≤ w.heap.size) :
    ∃ v' w', (Builtin.append_ #[27, 27] ty #[v, u]).run Try.prog w = .ok v' w' ∧ OT w' base v' (l ++ m) ∧ w.grownBy w' v.ownBlock ∧ Below base w w' ∧ (v'.ownBlock = v.ownBlock ∨ v'.ownBlock = some w.heap.size) := by
  obtain ⟨i0, hi0, hz0, hz1, hz2⟩ := info_parts boolInfo
  have hlt := World.ownsRow.lt hown
  have hfin : ∀ v' w', w'.ownsRow base 4 1 v' (l.length + m.length) (vTs l ++ vTs m) → OT w' base v' (l ++ m) := by
    intro v' w' h
    unfold OT vTs
    rw [List.length_append, List.map_append]
    exact h
  obtain ⟨A, c, rfl, h1, h2, h3⟩ := hr
  rcases Nat.eq_zero_or_pos m.length with h0 | h0
  · have hm : m = [] := List.eq_nil_of_length_eq_zero h0
    subst hm
    refine ⟨v, w, ?_, by simpa using hown, World.grownBy.refl w _, Below.refl _ _, .inl rfl⟩
    rcases hown.2 with ⟨rfl, hn⟩ | ⟨g, cap, cur, rfl, _, _, hnc, _⟩
    · cases A <;> simp [Builtin.append_, run_underlying Try.underlying27, sizeOf, typeInfo, hi0, Builtin.lenOf, Builtin.firstCells, loadCells, loadCellsFrom]
    · cases A <;> simp [Builtin.append_, run_underlying Try.underlying27, sizeOf, typeInfo, hi0, Builtin.lenOf, Builtin.firstCells, hnc, storeCells, loadCells, loadCellsFrom]
  · obtain ⟨ad, rfl, hb, hc⟩ := h3 h0
    obtain ⟨v', w', hrun, h4, h5, _, h6⟩ := run_append_own_at (P := Try.prog) w base 27 ty 4 i0 _ 1 1 Try.underlying27 hi0 hz0 hz1 hz2 rfl (by omega) v l.length (vTs l) hown ad m.length c (vTs m) (by simp [vTs])
      (fun j u hj => by
        unfold vTs at hj
        rw [List.getElem?_map] at hj
        cases hmj : m[j]? with
        | none => rw [hmj] at hj; cases hj
        | some b =>
          rw [hmj] at hj
          simp only [Option.map_some, Option.some.injEq] at hj
          subst hj
          exact hc j b hmj)
      (vTs_one m) (by simp only [maxLen]; omega) (by omega) hbase
    exact ⟨v', w', hrun, hfin v' w' h4, h5, (Below.refl _ _).grown h5 hbase (fun k hk => (hlt k hk).1), h6⟩

/-- The same at the operation, for the walk. -/
theorem wpl_appT (w : World) {ops : Array Oper} {rest : List Oper} {o : Oper} {a : Act} {Q : Exit → Act → World → Prop} (hgd : o.guard = none) (s x : Operand)
    (ho : o.op = .call { callee := .builtin .append, args := #[s, x], argTypes := #[27, 27] })
    (base B : Nat) (v u : Value) (l m : List Bool) (hs : a.eval s = v) (hx : a.eval x = u) (hown : OT w base v l) (hr : TS w B u m) (hlen : l.length + m.length ≤ 1099511627776) (hbase : base ≤ w.heap.size)
    (h : ∀ v' w', OT w' base v' (l ++ m) → w.grownBy w' v.ownBlock → Below base w w' → (v'.ownBlock = v.ownBlock ∨ v'.ownBlock = some w.heap.size) → wpList Try.prog ops Q rest (a.put o.dst v') w') :
    wpList Try.prog ops Q (o :: rest) a w := by
  refine wpList_plain hgd fun K hK => ?_
  obtain ⟨v', w', hrun, h2, h3, h4, h5⟩ := run_appT w o.type hown hr hlen hbase
  unfold Oper.wp execOp
  simp only [ho, resolve, invoke, builtin, Sem.run_bind, Sem.run_pure, Result.andThen_ok, List.map_toArray, List.map_cons, List.map_nil, hs, hx, hrun]
  exact hK _ _ (h v' w' h2 h3 h4 h5)

section
variable {w : World} {base g n cap : Nat} {l : List Bool}
theorem OT.len (h : OT w base (.slice (some ⟨g, 0, none⟩) n cap) l) : n = l.length := by
  unfold OT at h
  rcases h.2 with ⟨hv, _⟩ | ⟨g', cap', cur, hv, _⟩
  · cases hv
  · simp only [Value.slice.injEq] at hv
    exact hv.2.1
theorem OT.spot (h : OT w base (.slice (some ⟨g, 0, none⟩) n cap) l) (k : Nat) (hk : k < n) : ∃ x, w.cell? ⟨g, k, none⟩ = some x ∧ w.frozen? ⟨g, k, none⟩ = false := by
  obtain rfl := h.len
  unfold OT at h
  refine ⟨vT l[k], ?_, World.ownsRow.frozenAt h k⟩
  rw [World.ownsRow.cellAt h k (by omega)]
  simp [vTs, hk]
theorem OT.put (h : OT w base (.slice (some ⟨g, 0, none⟩) n cap) l) (k : Nat) (x : Bool) : OT (w.setCell ⟨g, k, none⟩ (.bool x)) base (.slice (some ⟨g, 0, none⟩) n cap) (l.set k x) := by
  obtain rfl := h.len
  have := (World.ownsRow.stored h k (vT x)).1
  unfold OT
  rw [List.length_set]
  have e : vTs (l.set k x) = (vTs l).set k (vT x) := by simp [vTs, List.map_set]
  rw [e]
  exact this
theorem OT.block (h : OT w base (.slice (some ⟨g, 0, none⟩) n cap) l) : base ≤ g ∧ g < w.heap.size := World.ownsRow.lt h g rfl
end
theorem OT.open_ {w : World} {base : Nat} {v : Value} {l : List Bool} (h : OT w base v l) (hl : 0 < l.length) : ∃ g cap, v = .slice (some ⟨g, 0, none⟩) l.length cap ∧ base ≤ g ∧ g < w.heap.size ∧ l.length ≤ cap ∧ cap ≤ 9223372036854775807 := by
  have hh := h
  unfold OT at h
  rcases h.2 with ⟨rfl, hn⟩ | ⟨g, cap, cur, rfl, hbg, hg, hnc, hcm, hcs, htake⟩
  · omega
  · unfold maxLen at hcm
    exact ⟨g, cap, rfl, hbg, (World.ownsRow.lt hh g rfl).2, hnc, by omega⟩
theorem madeT (n : Nat) : madeCells #[.bool false] n = (vTs (List.replicate n false)).toArray := by
  apply Array.ext_getElem?
  intro i
  simp only [madeCells, vTs, List.map_replicate, List.getElem?_toArray, Array.getElem?_map]
  by_cases h : i < n
  · simp [h, vT, Nat.mod_one]
  · simp [h]
theorem OT.made (w : World) (n : Nat) (hm : n ≤ 1048576) : OT (w.alloc (.cells (madeCells #[.bool false] n) 4)) w.heap.size (.slice (some ⟨w.heap.size, 0, none⟩) n n) (List.replicate n false) := by
  have := World.ownsRow_lit (base := w.heap.size) (e := 4) (size := 1) w (madeCells #[.bool false] n) n (Nat.le_refl _) (by simp [maxLen]; omega) (by rw [size_madeCells]; omega)
  unfold OT
  rw [List.length_replicate]
  rw [madeT] at this ⊢
  exact this
theorem run_makeT (n : Nat) (hn : n ≤ 1048576) (w : World) :
    (Instr.makeSlice 27 (.int .i64 (n : Int)) (.int .i64 (n : Int))).run Try.prog w = .ok (.slice (some ⟨w.heap.size, 0, none⟩) n n) (w.alloc (.cells (madeCells #[.bool false] n) 4)) :=
  run_make_row' 27 4 (.bool false) 1 Try.underlying27 boolInfo rfl .i64 .i64 n (by omega) (by omega) w
end Go.Proofs.Ytejemcpkmfhenaa

namespace Go.Proofs.Ytejemcpkmfhenaa
open Go.RowKit

/-- A byte as a value. -/
def vI (b : Int) : Value := .int .i64 b
def vIs (l : List Int) : List Value := l.map vI

/-- A row of bytes of the call's own, from block 'base' on. -/
def OI (w : World) (base : Nat) (v : Value) (l : List Int) : Prop := w.ownsRow base 3 1 v l.length (vIs l)

/-- A slice that reads as the bytes l; it lies below block B. -/
def IS (w : World) (B : Nat) (v : Value) (l : List Int) : Prop :=
  ∃ A c, v = .slice A l.length c ∧ l.length ≤ c ∧ c ≤ maxLen ∧
    (0 < l.length → ∃ ad, A = some ad ∧ ad.block < B ∧ ∀ j b, l[j]? = some b → w.cell? (ad.add j) = some (vI b))

theorem vIs_one (l : List Int) : ∀ u ∈ vIs l, u.oneCell' = true := by
  intro u hu
  unfold vIs at hu
  rw [List.mem_map] at hu
  obtain ⟨b, _, rfl⟩ := hu
  rfl

section
variable {w w' : World} {B B' base : Nat} {v : Value} {l : List Int}
theorem IS.keep (h : IS w B v l) (hk : ∀ p : Addr, p.block < B → w'.cell? p = w.cell? p) : IS w' B v l := by
  obtain ⟨A, c, hv, h1, h2, h3⟩ := h
  refine ⟨A, c, hv, h1, h2, fun hl => ?_⟩
  obtain ⟨ad, hA, hb, hc⟩ := h3 hl
  exact ⟨ad, hA, hb, fun j b hj => (hk _ (by rw [block_add]; exact hb)).trans (hc j b hj)⟩
theorem IS.below (h : IS w B v l) (hb : Below B w w') : IS w' B v l := h.keep fun _ hp => hb.cell hp
theorem IS.more (h : IS w B v l) (hB : B ≤ B') : IS w B' v l := by
  obtain ⟨A, c, hv, h1, h2, h3⟩ := h
  refine ⟨A, c, hv, h1, h2, fun hl => ?_⟩
  obtain ⟨ad, hA, hb, hc⟩ := h3 hl
  exact ⟨ad, hA, by omega, hc⟩
theorem IS.alloc (h : IS w B v l) (hB : B ≤ w.heap.size) (o : Obj) : IS (w.alloc o) B v l := h.keep fun p hp => World.cell?_alloc_lt w o p (by omega)
theorem IS.nil (w : World) (B : Nat) : IS w B (.slice none 0 0) [] := ⟨none, 0, rfl, by simp, by simp [maxLen], fun h => absurd h (by simp)⟩
theorem IS.at_ (h : IS w B v l) : ∃ A c, v = .slice A l.length c ∧ l.length ≤ c ∧ c ≤ maxLen ∧
    ∀ k (hk : k < l.length), ∃ ad, A = some ad ∧ w.cell? (ad.add k) = some (vI (l[k]'hk)) := by
  obtain ⟨A, c, hv, h1, h2, h3⟩ := h
  refine ⟨A, c, hv, h1, h2, fun k hk => ?_⟩
  obtain ⟨ad, hA, _, hc⟩ := h3 (by omega)
  exact ⟨ad, hA, hc k _ (List.getElem?_eq_getElem hk)⟩

theorem OI.nil (w : World) (base : Nat) : OI w base (.slice none 0 0) [] := World.ownsRow_nil w base _ _
theorem OI.below (h : OI w base v l) (hb : Below w.heap.size w w') : OI w' base v l := by
  have hg : w.grownBy w' none := ⟨hb.os, hb.tape, hb.output, hb.size, fun i hi _ => hb.block i hi⟩
  unfold OI at h ⊢
  refine h.kept hg ?_
  cases hv : v.ownBlock with
  | none => exact Or.inl rfl
  | some k => exact Or.inr (by simp)
theorem OI.bs (h : OI w base v l) : IS w w.heap.size v l := by
  unfold OI at h
  rcases h.2 with ⟨rfl, hn⟩ | ⟨g, cap, cur, rfl, hbg, hg, hnc, hcm, hcs, htake⟩
  · have : l = [] := List.eq_nil_of_length_eq_zero hn
    subst this
    exact IS.nil w _
  · have hlt : g < w.heap.size := by
      rcases Nat.lt_or_ge g w.heap.size with hh | hh
      · exact hh
      · rw [Array.getElem?_eq_none hh] at hg; cases hg
    refine ⟨_, cap, rfl, hnc, hcm, fun _ => ⟨_, rfl, hlt, fun j b hj => ?_⟩⟩
    refine h.cells (g := g) rfl j (vI b) ?_
    unfold vIs
    rw [List.getElem?_map, hj]; rfl
end

/-- A part of a slice. -/
theorem IS.cut {w : World} {B : Nat} {A : Option Addr} {n c : Nat} {l : List Int} (h : IS w B (.slice A n c) l) (k m j : Nat) (hk : k + m ≤ l.length) (hj : j = m) :
    IS w B (.slice (if c = k then A else Option.map (fun x => x.add k) A) j (c - k)) ((l.drop k).take m) := by
  subst hj
  obtain ⟨A', c', hv, h1, h2, h3⟩ := h
  simp only [Value.slice.injEq] at hv
  obtain ⟨rfl, rfl, rfl⟩ := hv
  have hlen : ((l.drop k).take j).length = j := by simp; omega
  refine ⟨_, c - k, by rw [hlen], by rw [hlen]; omega, by omega, fun hl => ?_⟩
  rw [hlen] at hl
  obtain ⟨ad, rfl, hb, hc⟩ := h3 (by omega)
  rw [if_neg (by omega)]
  refine ⟨ad.add k, rfl, by rw [block_add]; exact hb, fun i b hi => ?_⟩
  rw [add_add]
  refine hc _ b ?_
  rw [List.getElem?_take] at hi
  split at hi
  · rw [List.getElem?_drop] at hi; exact hi
  · cases hi
theorem IS.cutH {w : World} {B : Nat} {A : Option Addr} {n c : Nat} {l : List Int} (h : IS w B (.slice A n c) l) (m j : Nat) (hk : m ≤ l.length) (hj : j = m) :
    IS w B (.slice A j c) (l.take m) := by
  obtain ⟨A', c', hv, h1, h2, h3⟩ := h
  simp only [Value.slice.injEq] at hv
  obtain ⟨rfl, rfl, rfl⟩ := hv
  subst hj
  have hlen : (l.take j).length = j := by simp; omega
  refine ⟨A, c, by rw [hlen], by omega, h2, fun hl => ?_⟩
  rw [hlen] at hl
  obtain ⟨ad, rfl, hb, hc⟩ := h3 (by omega)
  refine ⟨ad, rfl, hb, fun i b hi => ?_⟩
  refine hc _ b ?_
  rw [List.getElem?_take] at hi
  split at hi
  · exact hi
  · cases hi

/-- A slice of one byte that has just been laid. -/
theorem IS.one (w : World) (b : Int) (t : TypeId) : IS (w.alloc (.cells #[vI b] t)) (w.heap.size + 1) (.slice (some ⟨w.heap.size, 0, none⟩) 1 1) [b] := by
  refine ⟨_, 1, rfl, by simp, by simp [maxLen], fun _ => ⟨_, rfl, by simp, fun j c hj => ?_⟩⟩
  match j, hj with
  | 0, hj =>
    simp at hj
    subst hj
    simp [Addr.add]

theorem OI.alloc {w : World} {base : Nat} {v : Value} {l : List Int} (h : OI w base v l) (o : Obj) : OI (w.alloc o) base v l := World.ownsRow.alloc h o

/-- A slice that has just been laid, its bytes written out. -/
theorem IS.lit (w : World) (l : List Int) (n : Nat) (cs : Array Value) (t : TypeId) (hn : n = l.length) (hcs : cs = (vIs l).toArray) (hm : l.length ≤ 1048576) :
    IS (w.alloc (.cells cs t)) (w.heap.size + 1) (.slice (some ⟨w.heap.size, 0, none⟩) n n) l := by
  subst hn
  subst hcs
  refine ⟨_, _, rfl, by simp, by simp [maxLen]; omega, fun _ => ⟨_, rfl, by simp, fun j b hj => ?_⟩⟩
  have h := World.news_of_block (heap_alloc_new w (.cells (vIs l).toArray t)) j (vI b)
  exact h (by simp [vIs, hj])

/-- The same of a constant string's bytes: the row bears a mark. -/
theorem IS.litM (w : World) (l : List Int) (n : Nat) (cs : Array Value) (t : TypeId) (fr : Nat × Nat) (hn : n = l.length) (hcs : cs = (vIs l).toArray) (hm : l.length ≤ 1048576) :
    IS (w.alloc (.cells cs t fr)) (w.heap.size + 1) (.slice (some ⟨w.heap.size, 0, none⟩) n n) l := by
  subst hn
  subst hcs
  refine ⟨_, _, rfl, by simp, by simp [maxLen]; omega, fun _ => ⟨_, rfl, by simp, fun j b hj => ?_⟩⟩
  have h := World.news_of_block (heap_alloc_new w (.cells (vIs l).toArray t fr)) j (vI b)
  exact h (by simp [vIs, hj])

/-- A row of ints that came in. -/
theorem is_row {W : World} {a : Addr} {len cap : Nat} {zs : List Int} (hl : len ≤ cap) (hm : cap ≤ maxLen) (hz : zs.length = cap)
    (hcell : ∀ i, i < zs.length → W.cell? (a.add i) = some (.int .i64 (zs.getD i 0))) (hwz : ∀ n ∈ zs, (Lit.int .i64 n).wf = true) : ∃ l, IS W W.heap.size (.slice (some a) len cap) l ∧ ∀ n ∈ l, (Lit.int .i64 n).wf = true := by
  have hlen : (zs.take len).length = len := by simp; omega
  refine ⟨zs.take len, ⟨_, cap, by rw [hlen], by rw [hlen]; exact hl, hm, fun h0 => ⟨a, rfl, ?_, fun j b hj => ?_⟩⟩, fun n hn => hwz n (List.mem_of_mem_take hn)⟩
  · rw [hlen] at h0
    have h := hcell 0 (by omega)
    rw [show a.add 0 = a from by simp [Addr.add]] at h
    rcases Nat.lt_or_ge a.block W.heap.size with hh | hh
    · exact hh
    · simp [World.cell?, Array.getElem?_eq_none hh] at h
  · have hj1 : j < len := by
      rcases Nat.lt_or_ge j len with hh | hh
      · exact hh
      · rw [List.getElem?_eq_none (by rw [hlen]; exact hh)] at hj; cases hj
    have hj2 : j < zs.length := by omega
    rw [hcell j hj2]
    rw [List.getElem?_take, if_pos hj1, List.getElem?_eq_getElem hj2] at hj
    injection hj with hj
    subst hj
    simp [vI, List.getD, List.getElem?_eq_getElem hj2]

theorem intInfo : (Try.prog.info? 3).map (fun i => (i.zero, i.size, i.bytes)) = some (some (.int .i64 0), 1, 8) := by kernel_rfl

/-- append onto a row of the call's own, of whatever bytes. -/
theorem run_appI (w : World) (ty : TypeId) {base B : Nat} {v u : Value} {l m : List Int} (hown : OI w base v l) (hr : IS w B u m) (hlen : l.length + m.length ≤ 1099511627776) (hbase : base ≤ w.heap.size) :
    ∃ v' w', (Builtin.append_ #[28, 28] ty #[v, u]).run Try.prog w = .ok v' w' ∧ OI w' base v' (l ++ m) ∧ w.grownBy w' v.ownBlock ∧ Below base w w' ∧ (v'.ownBlock = v.ownBlock ∨ v'.ownBlock = some w.heap.size) := by
  obtain ⟨i0, hi0, hz0, hz1, hz2⟩ := info_parts intInfo
  have hlt := World.ownsRow.lt hown
  have hfin : ∀ v' w', w'.ownsRow base 3 1 v' (l.length + m.length) (vIs l ++ vIs m) → OI w' base v' (l ++ m) := by
    intro v' w' h
    unfold OI vIs
    rw [List.length_append, List.map_append]
    exact h
  obtain ⟨A, c, rfl, h1, h2, h3⟩ := hr
  rcases Nat.eq_zero_or_pos m.length with h0 | h0
  · have hm : m = [] := List.eq_nil_of_length_eq_zero h0
    subst hm
    refine ⟨v, w, ?_, by simpa using hown, World.grownBy.refl w _, Below.refl _ _, .inl rfl⟩
    rcases hown.2 with ⟨rfl, hn⟩ | ⟨g, cap, cur, rfl, _, _, hnc, _⟩
    · cases A <;> simp [Builtin.append_, run_underlying Try.underlying28, sizeOf, typeInfo, hi0, Builtin.lenOf, Builtin.firstCells, loadCells, loadCellsFrom]
    · cases A <;> simp [Builtin.append_, run_underlying Try.underlying28, sizeOf, typeInfo, hi0, Builtin.lenOf, Builtin.firstCells, hnc, storeCells, loadCells, loadCellsFrom]
  · obtain ⟨ad, rfl, hb, hc⟩ := h3 h0
    obtain ⟨v', w', hrun, h4, h5, _, h6⟩ := run_append_own_at (P := Try.prog) w base 28 ty 3 i0 _ 1 8 Try.underlying28 hi0 hz0 hz1 hz2 rfl (by omega) v l.length (vIs l) hown ad m.length c (vIs m) (by simp [vIs])
      (fun j u hj => by
        unfold vIs at hj
        rw [List.getElem?_map] at hj
        cases hmj : m[j]? with
        | none => rw [hmj] at hj; cases hj
        | some b =>
          rw [hmj] at hj
          simp only [Option.map_some, Option.some.injEq] at hj
          subst hj
          exact hc j b hmj)
      (vIs_one m) (by simp only [maxLen]; omega) (by omega) hbase
    exact ⟨v', w', hrun, hfin v' w' h4, h5, (Below.refl _ _).grown h5 hbase (fun k hk => (hlt k hk).1), h6⟩

/-- The same at the operation, for the walk. -/
theorem wpl_appI (w : World) {ops : Array Oper} {rest : List Oper} {o : Oper} {a : Act} {Q : Exit → Act → World → Prop} (hgd : o.guard = none) (s x : Operand)
    (ho : o.op = .call { callee := .builtin .append, args := #[s, x], argTypes := #[28, 28] })
    (base B : Nat) (v u : Value) (l m : List Int) (hs : a.eval s = v) (hx : a.eval x = u) (hown : OI w base v l) (hr : IS w B u m) (hlen : l.length + m.length ≤ 1099511627776) (hbase : base ≤ w.heap.size)
    (h : ∀ v' w', OI w' base v' (l ++ m) → w.grownBy w' v.ownBlock → Below base w w' → (v'.ownBlock = v.ownBlock ∨ v'.ownBlock = some w.heap.size) → wpList Try.prog ops Q rest (a.put o.dst v') w') :
    wpList Try.prog ops Q (o :: rest) a w := by
  refine wpList_plain hgd fun K hK => ?_
  obtain ⟨v', w', hrun, h2, h3, h4, h5⟩ := run_appI w o.type hown hr hlen hbase
  unfold Oper.wp execOp
  simp only [ho, resolve, invoke, builtin, Sem.run_bind, Sem.run_pure, Result.andThen_ok, List.map_toArray, List.map_cons, List.map_nil, hs, hx, hrun]
  exact hK _ _ (h v' w' h2 h3 h4 h5)

end Go.Proofs.Ytejemcpkmfhenaa
