/- What is proved here: words for the laws of layer 7: a parser that has been laid in a block of its own, contracts of the program at such ones; a contract of the laws' helper 'known' of layer 7: it answers true; words for a parser that a call answers and that is laid in a variable, in whatever order the variable was made; a contract of the laws' helper 'some' of layer 7: it answers a parser that may be, in new memory; a contract of the laws' helper 'some' of layer 7, within a sequence: it answers a parser that may be, in new memory; a contract of the laws' helper 'some' of layer 7: it answers a parser that may be, in new memory, for any number. -/
import Derived.Test.YtbimhhcmfhooaaaM10
import Derived.Deep.CutRange
import Derived.Deep.RegionWith
import Derived.Deep.QuietTactic
import Derived.BigQuiet
namespace Go.Proofs.Ytbimhhcmfhooaaa
open Go.RowKit
set_option linter.unusedVariables false
set_option linter.unusedSimpArgs false

/-- All blocks that are there. -/
def Old (w : World) (x : Nat) : Prop := x < w.heap.size
/-- A parser's value in a world, its slices wherever they are. -/
def PW (w : World) (v : Value) (p : Pr) : Prop := PV w (Old w) v p
theorem PW.below {w w' : World} {v : Value} {p : Pr} (h : PW w v p) (hb : Below w.heap.size w w') : PW w' v p := (h.keep (fun q hq => hb.cell hq)).mono (fun x hx => Nat.lt_of_lt_of_le hx hb.size)
def AW (w : World) (v : Value) (l : List Ac) : Prop := AS w (Old w) (Old w) v l
theorem AW.below {w w' : World} {v : Value} {l : List Ac} (h : AW w v l) (hb : Below w.heap.size w w') : AW w' v l := (h.keep (fun q hq => hb.cell hq) (fun q hq => hb.cell hq)).mono (fun x hx => Nat.lt_of_lt_of_le hx hb.size) (fun x hx => Nat.lt_of_lt_of_le hx hb.size)
theorem PW.zero (w : World) : PW w (.agg #[.int .i64 0, .int .u8 0, .slice none 0 0, .slice none 0 0, .slice none 0 0]) (prM 0) := prM_pv w _ 0
/-- What Step and All answer, in the new world alone. -/
def VwPost (r : Pr × List Ac) (w : World) (e : Ending) (w' : World) : Prop :=
  ∃ m pv Ap np cp Ai ni ci Au nu cu Aa na ca, e = .returned (.tuple #[.agg (v5 m pv Ap np cp Ai ni ci Au nu cu), .slice Aa na ca]) ∧ (m = (r.1.mode : Int) ∧ pv = (r.1.priv : Int) ∧ np = r.1.params.length ∧ ni = r.1.inter.length ∧ nu = r.1.utf.length ∧ na = r.2.length ∧ na ≤ ca ∧ ca ≤ 9223372036854775807) ∧ PW w' (.agg (v5 m pv Ap np cp Ai ni ci Au nu cu)) r.1 ∧ AW w' (.slice Aa na ca) r.2 ∧ Below w.heap.size w w'
theorem VwPost.of {r : Pr × List Ac} {w w' : World} {e : Ending} (h : VtPost (Old w) r w e w') : VwPost r w e w' := by
  obtain ⟨qv, av, he, hq, ha, hb⟩ := h
  have hS : ∀ x, (Old w x ∨ NewB w' w.heap.size x) → Old w' x := fun x hx => hx.elim (fun h => Nat.lt_of_lt_of_le h hb.size) (fun h => h.2)
  have hq2 := hq.mono hS
  obtain ⟨vp, vi, vu, rfl, h1, h2, h3⟩ := hq2
  obtain ⟨Ap, cp, rfl, -, -⟩ := h1.form
  obtain ⟨Ai, ci, rfl, -, -⟩ := h2.form
  obtain ⟨Au, cu, rfl, -, -⟩ := h3.form
  obtain ⟨Aa, ca, rfl, x1, x2⟩ := ha.form
  exact ⟨_, _, Ap, _, cp, Ai, _, ci, Au, _, cu, Aa, _, ca, he, ⟨rfl, rfl, rfl, rfl, rfl, rfl, x1, x2⟩, ⟨_, _, _, rfl, h1, h2, h3⟩, ha.mono (fun x hx => hx.2) hS, hb⟩
theorem allw_any {v bv : Value} {p : Pr} {l : List UInt8} {w : World} (h : PW w v p) (hok : PrOk p) (hl : BS w w.heap.size bv l) (hll : l.length ≤ 1048576) : Calls Try.prog 17 #[v, bv] w (VwPost (vtAll p l) w) := by
  obtain ⟨vp, vi, vu, rfl, h1, h2, h3⟩ := h
  exact (vall_any vp vi vu p bv l (Old w) w h1 h2 h3 (fun x hx => hx) hok hl hll).mono fun e w' h => VwPost.of h
theorem stepw_any {v : Value} {p : Pr} (b : UInt8) {w : World} (h : PW w v p) (hok : PrOk p) : Calls Try.prog 13 #[v, .int .u8 (b.toNat : Int)] w (VwPost (vtL p b) w) := by
  obtain ⟨vp, vi, vu, rfl, h1, h2, h3⟩ := h
  exact (vstep_any vp vi vu p b (Old w) w h1 h2 h3 (fun x hx => hx) hok).mono fun e w' h => VwPost.of h
theorem steprw_any {v : Value} {p : Pr} (b : UInt8) {w : World} (h : PW w v p) (hok : PrOk p) : Calls Try.prog 14 #[v, .int .u8 (b.toNat : Int)] w (VwPost (vtL p b) w) := by
  obtain ⟨vp, vi, vu, rfl, h1, h2, h3⟩ := h
  exact (vtr_any vp vi vu p b (Old w) w h1 h2 h3 (fun x hx => hx) hok).mono fun e w' h => VwPost.of h
theorem utf_few {p : Pr} (h : PrOk p) : p.utf.length ≤ 3 ∧ p.priv < 256 := by
  refine ⟨?_, by rcases h.priv with e | e <;> omega⟩
  rcases h.utf with e | ⟨_, e⟩
  · rw [e]; simp
  · exact (beginsL_len _ e).2
theorem rightw_yes {v : Value} {p : Pr} {w : World} (h : PW w v p) (hok : PrOk p) : Calls Try.prog 9 #[v] w fun e w' => e = .returned (.bool true) ∧ Below w.heap.size w w' := by
  obtain ⟨vp, vi, vu, rfl, h1, h2, h3⟩ := h
  have hf := utf_few hok
  have hm := hok.mode
  refine (vright_any vp vi vu _ _ _ _ _ (Old w) w h1 h2 h3 (fun x hx => hx) (by omega) (by omega) (by omega) hf.2).mono ?_
  rintro e w' ⟨r, rfl, hr, hb⟩
  rw [hr.2 (rightP_ok hok)]
  exact ⟨rfl, hb⟩
theorem rightrw_yes {v : Value} {p : Pr} {w : World} (h : PW w v p) (hok : PrOk p) : Calls Try.prog 10 #[v] w fun e w' => e = .returned (.bool true) ∧ Below w.heap.size w w' := by
  obtain ⟨vp, vi, vu, rfl, h1, h2, h3⟩ := h
  have hf := utf_few hok
  have hm := hok.mode
  refine (rightr_any vp vi vu _ _ _ _ _ (Old w) w h1 h2 h3 (fun x hx => hx) (by omega) (by omega) (by omega) hf.2).mono ?_
  rintro e w' ⟨r, rfl, hr, hb⟩
  rw [hr.2 (rightP_ok hok)]
  exact ⟨rfl, hb⟩
theorem samew_any {va vb : Value} {p : Pr} {w : World} (ha : PW w va p) (hb : PW w vb p) (hok : PrOk p) : Calls Try.prog 15 #[va, vb] w fun e w' => e = .returned (.bool true) ∧ Below w.heap.size w w' :=
  same_eq va vb p (Old w) w ha hb (fun x hx => hx) (by have := hok.params; omega)
theorem actsw_any {va vb : Value} {l : List Ac} {w : World} (ha : AW w va l) (hb : AW w vb l) (hf : ∀ a ∈ l, FewA a) (hl : l.length ≤ 1048576) : Calls Try.prog 16 #[va, vb] w fun e w' => e = .returned (.bool true) ∧ Below w.heap.size w w' :=
  acts_eq va vb l (Old w) (Old w) w ha hb (fun x hx => hx) (fun x hx => hx) (fun a ha => by have := (hf a ha).1; omega) hl
/-- A parser that has been laid in a block. -/
def PB (w : World) (g : Nat) (x : Array Value) (p : Pr) : Prop := w.heap[g]? = some (.cells x 25) ∧ PW w (.agg x) p
theorem lt7 {w : World} {b : Nat} {o : Obj} (h : w.heap[b]? = some o) : b < w.heap.size := by
  rcases Nat.lt_or_ge b w.heap.size with c | c
  · exact c
  · rw [Array.getElem?_eq_none c] at h; cases h
theorem heap_new7 (w : World) (o : Obj) : (w.alloc o).heap[w.heap.size]? = some o := by
  show (w.heap.push o)[w.heap.size]? = some o
  simp
theorem PB.laid {w : World} {x : Array Value} {p : Pr} (h : PW w (.agg x) p) : PB (w.alloc (.cells x 25)) w.heap.size x p :=
  ⟨heap_new7 w _, h.below ((Below.refl _ _).alloc (Nat.le_refl _) _)⟩
theorem PB.below {w w' : World} {g : Nat} {x : Array Value} {p : Pr} (h : PB w g x p) (hb : Below w.heap.size w w') : PB w' g x p := ⟨(hb.block g (lt7 h.1)).trans h.1, h.2.below hb⟩
theorem cell7 {w : World} {g : Nat} {xs : Array Value} {t : TypeId} (h : w.heap[g]? = some (.cells xs t)) (i : Nat) {v : Value} (hv : xs[i]? = some v) : w.cell? ⟨g, i, none⟩ = some v := by rw [cell_of_row w g i _ t _ h]; exact hv
theorem PB.cells {w : World} {g : Nat} {m pv : Int} {Ap Ai Au : Option Addr} {np cp ni ci nu cu : Nat} {p : Pr} (h : PB w g (v5 m pv Ap np cp Ai ni ci Au nu cu) p) : w.cell? ⟨g, 0, none⟩ = some (.int .i64 m) ∧ w.cell? ⟨g, 1, none⟩ = some (.int .u8 pv) ∧ w.cell? ⟨g, 2, none⟩ = some (.slice Ap np cp) ∧ w.cell? ⟨g, 3, none⟩ = some (.slice Ai ni ci) ∧ w.cell? ⟨g, 4, none⟩ = some (.slice Au nu cu) :=
  ⟨cell7 h.1 0 rfl, cell7 h.1 1 rfl, cell7 h.1 2 rfl, cell7 h.1 3 rfl, cell7 h.1 4 rfl⟩
/-- The first cells of a slice of acts. -/
theorem AW.at0 {w : World} {v : Value} {a : Ac} {l : List Ac} (h : AW w v (a :: l)) : ∃ ad c vp, v = .slice (some ad) (l.length + 1) c ∧ l.length + 1 ≤ c ∧ c ≤ 9223372036854775807 ∧ SL vI w (Old w) vp a.params ∧ w.cell? ad = some (.int .i64 (a.kind : Int)) ∧ w.cell? ⟨ad.block, ad.off + 1, none⟩ = some (.int .i32 a.r) ∧ w.cell? ⟨ad.block, ad.off + 2, none⟩ = some (.int .u8 (a.b : Int)) ∧ w.cell? ⟨ad.block, ad.off + 3, none⟩ = some (.int .u8 (a.priv : Int)) ∧ w.cell? ⟨ad.block, ad.off + 4, none⟩ = some vp := by
  obtain ⟨A, c, rfl, h1, h2⟩ := AS.form h
  obtain ⟨ad, vp, vi, rfl, -, g1, g2, s0, s1, s2, s3, s4, s5⟩ := AS.get h 0 a rfl
  rw [Nat.zero_mul, show ad.add 0 = ad from by simp [Addr.add]] at s0 s1 s2 s3 s4
  exact ⟨ad, c, vp, rfl, by simpa using h1, h2, g1, s0, s1, s2, s3, s4⟩
theorem AW.at1 {w : World} {ad : Addr} {n c : Nat} {a b : Ac} {l : List Ac} (h : AW w (.slice (some ad) n c) (a :: b :: l)) : w.cell? ⟨ad.block, ad.off + 6 + 1, none⟩ = some (.int .i32 b.r) := by
  obtain ⟨ad2, vp, vi, hA, -, g1, g2, s0, s1, s2, s3, s4, s5⟩ := AS.get h 1 b rfl
  injection hA with hA
  subst hA
  have e : ad.add (1 * 6) = ⟨ad.block, ad.off + 6, none⟩ := by unfold Addr.add; rw [if_neg (by omega)]
  rw [e] at s1
  exact s1
end Go.Proofs.Ytbimhhcmfhooaaa

namespace Go.Proofs.Ytbimhhcmfhooaaa
open Go.RowKit
set_option linter.unusedVariables false
set_option linter.unusedSimpArgs false

def colL : List UInt8 := [27, 91, 49, 59, 51, 49, 109, 195, 169, 27]
theorem kv1 : vtAll (prM 0) colL = (prM 1, [⟨3, 0, 109, 0, [1, 31], []⟩, acP 233]) := by rfl
theorem bsc_lit (w : World) (l : List UInt8) (n : Nat) (cs : Array Value) (t : TypeId) (hn : n = l.length) (hcs : cs = (vBs l).toArray) (hm : l.length ≤ 1048576) (fr : Nat × Nat) : BS (w.alloc (.cells cs t fr)) (w.alloc (.cells cs t fr)).heap.size (.slice (some ⟨w.heap.size, 0, none⟩) n n) l :=
  (BS.litM w l n cs t fr hn hcs hm).more (by simp)
set_option maxHeartbeats 2000000 in
set_option maxRecDepth 100000 in
theorem knownV_any (w : World) : Calls Try.prog 8 #[] w fun e w' => e = .returned (.bool true) ∧ Below w.heap.size w w' := by
  have hk := Lib.run_convert_bytes_const (P := Try.prog) w 22 5 #[.int .u8 27, .int .u8 91, .int .u8 49, .int .u8 59, .int .u8 51, .int .u8 49, .int .u8 109, .int .u8 195, .int .u8 169, .int .u8 27] 10 10 Try.underlying22 Try.underlying5
  have hal := allw_any (PW.zero _) (prM_ok 0 (by omega) (by omega) (by omega)) (bsc_lit w colL 10 #[.int .u8 27, .int .u8 91, .int .u8 49, .int .u8 59, .int .u8 51, .int .u8 49, .int .u8 109, .int .u8 195, .int .u8 169, .int .u8 27] 5 rfl rfl (by decide) (10, 11)) (by decide)
  rw [kv1] at hal
  have HB0 := Lib.hid (show Below w.heap.size w (w.alloc (.cells #[.int .u8 27, .int .u8 91, .int .u8 49, .int .u8 59, .int .u8 51, .int .u8 49, .int .u8 109, .int .u8 195, .int .u8 169, .int .u8 27] 5 (10, 11))) from (Below.refl _ _).alloc (Nat.le_refl _) _)
  go_enter Try.func8, Try.ntmps8
  go_wp2_with fail
  refine hal.mono ?_
  rintro e w1 ⟨m, pv, Ap, np, cp, Ai, ni, ci, Au, nu, cu, Aa, na, ca, rfl, ⟨hm, hpv, hnp, hni, hnu, hna, x1, x2⟩, hpw, haw, hb1⟩
  obtain rfl : m = 1 := hm
  obtain rfl : pv = 0 := hpv
  obtain rfl : np = 0 := hnp
  obtain rfl : ni = 0 := hni
  obtain rfl : nu = 0 := hnu
  obtain rfl : na = 2 := hna
  have HB1 := Lib.hid (HB0.out.trans (hb1.mono HB0.out.size))
  have HPB := Lib.hid (PB.laid hpw)
  have HAW := Lib.hid (haw.below ((Below.refl _ _).alloc (Nat.le_refl _) (.cells (v5 1 0 Ap 0 cp Ai 0 ci Au 0 cu) 25)))
  have HBW := Lib.hid (HB1.out.alloc HB1.out.size (.cells (v5 1 0 Ap 0 cp Ai 0 ci Au 0 cu) 25))
  clear hk hal hpw haw hb1
  go_upto_region 2 with fail
  generalize World.alloc w1 _ = W at HPB HAW HBW ⊢
  generalize w1.heap.size = g at *
  obtain ⟨ad, c, vps, hAd, g1, g2, hps, s0, s1, s2, s3, s4⟩ := HAW.out.at0
  simp only [Value.slice.injEq] at hAd
  obtain ⟨rfl, -, rfl⟩ := hAd
  have s5 := HAW.out.at1
  obtain ⟨Aq, cq, rfl, p1, p2⟩ := hps.form
  obtain ⟨ap, hAp, e1⟩ := hps.get 1 31 rfl
  subst hAp
  obtain ⟨c0, c1, c2, c3, c4⟩ := HPB.out.cells
  have t0 : W.cell? ad = some (.int .i64 3) := s0
  have t2 : W.cell? ⟨ad.block, ad.off + 2, none⟩ = some (.int .u8 109) := s2
  have t4 : W.cell? ⟨ad.block, ad.off + 4, none⟩ = some (.slice (some ap) 2 cq) := s4
  have t5 : W.cell? ⟨ad.block, ad.off + 6 + 1, none⟩ = some (.int .i32 233) := s5
  have t5' : W.cell? ⟨ad.block, ad.off + 7, none⟩ = some (.int .i32 233) := s5
  have t6 : W.cell? ⟨ap.block, ap.off + 1, none⟩ = some (.int .i64 31) := by
    have e : ap.add 1 = ⟨ap.block, ap.off + 1, none⟩ := by unfold Addr.add; rw [if_neg (by omega)]
    rw [e] at e1
    exact e1
  have p1' : 2 ≤ cq := p1
  have hr1 := rightw_yes HPB.out.2 (prM_ok 1 (by omega) (by omega) (by omega))
  clear s0 s1 s2 s3 s4 s5 e1 p1 g1 hps
  go_wp2_with fail
  refine hr1.mono ?_
  rintro e w3 ⟨rfl, hb3⟩
  have HB3 := Lib.hid (HBW.out.trans (hb3.mono HBW.out.size))
  have hr2 := vright_any (.slice none 0 0) (.slice none 0 0) (.slice none 0 0) 99 0 [] [] [] (fun _ => False) w3 (SL.nil _ _ _) (SL.nil _ _ _) (SL.nil _ _ _) (fun _ h => h.elim) (by omega) (by omega) (by simp) (by omega)
  clear hr1 hb3 t0 t2 t4 t5 t5' t6 c0 c1 c2 c3 c4
  go_wp2_with fail
  refine hr2.mono ?_
  rintro e w4 ⟨r, rfl, hr, hb4⟩
  have hrf : r = false := by
    cases r with
    | false => rfl
    | true => exact absurd (hr.1 rfl).1.2.1 (by omega)
  subst hrf
  go_wp2
  go_ret
  exact ⟨rfl, HB3.out.trans (hb4.mono HB3.out.size)⟩
end Go.Proofs.Ytbimhhcmfhooaaa

namespace Go.Proofs.Ytbimhhcmfhooaaa
open Go.RowKit
set_option linter.unusedVariables false
set_option linter.unusedSimpArgs false

/-- Behind a call: its parser lies in a block, its acts in a slice. -/
def LaidAt (W : World) (r : Pr × List Ac) (s1 s2 : Value) (wx : World) : Prop :=
  ∃ g m pv Ap np cp Ai ni ci Au nu cu Aa na ca, s1 = .pointer (some ⟨g, 0, none⟩) ∧ s2 = .slice Aa na ca ∧ (m = (r.1.mode : Int) ∧ pv = (r.1.priv : Int) ∧ np = r.1.params.length ∧ ni = r.1.inter.length ∧ nu = r.1.utf.length ∧ na = r.2.length ∧ na ≤ ca ∧ ca ≤ 9223372036854775807) ∧ PB wx g (v5 m pv Ap np cp Ai ni ci Au nu cu) r.1 ∧ AW wx (.slice Aa na ca) r.2 ∧ Below W.heap.size W wx ∧ W.heap.size ≤ g
section
variable {r : Pr × List Ac} {W W1 w6 : World} {Ap Ai Au Aa : Option Addr} {cp ci cu ca : Nat}
theorem laidA (hW : Below W.heap.size W W1) (b6 : Below W1.heap.size W1 w6) (r1 : SL vI w6 (fun x => Old W x ∨ NewB w6 W1.heap.size x) (.slice Ap r.1.params.length cp) r.1.params) (r2 : SL vB w6 (fun x => Old W x ∨ NewB w6 W1.heap.size x) (.slice Ai r.1.inter.length ci) r.1.inter) (r3 : SL vB w6 (fun x => Old W x ∨ NewB w6 W1.heap.size x) (.slice Au r.1.utf.length cu) r.1.utf)
    (ha : AS w6 (NewB w6 W1.heap.size) (fun x => Old W x ∨ NewB w6 W1.heap.size x) (.slice Aa r.2.length ca) r.2) :
    LaidAt W r (.pointer (some ⟨w6.heap.size, 0, none⟩)) (.slice Aa r.2.length ca) (w6.alloc (.cells #[.int .i64 (r.1.mode : Int), .int .u8 (r.1.priv : Int), .slice Ap r.1.params.length cp, .slice Ai r.1.inter.length ci, .slice Au r.1.utf.length cu] 25)) := by
  have z1 := hW.size
  have z2 := b6.size
  have hS : ∀ x, (Old W x ∨ NewB w6 W1.heap.size x) → Old w6 x := fun x hx => hx.elim (fun h => Nat.lt_of_lt_of_le h (Nat.le_trans z1 z2)) (fun h => h.2)
  obtain ⟨A, c, hv, x1, x2⟩ := ha.form
  simp only [Value.slice.injEq] at hv
  obtain ⟨-, -, rfl⟩ := hv
  have hpw : PW w6 (.agg (v5 (r.1.mode : Int) (r.1.priv : Int) Ap r.1.params.length cp Ai r.1.inter.length ci Au r.1.utf.length cu)) r.1 := ⟨_, _, _, rfl, r1.mono hS, r2.mono hS, r3.mono hS⟩
  have hb := hW.trans (b6.mono z1)
  have haw : AW w6 (.slice Aa r.2.length ca) r.2 := ha.mono (fun x hx => hx.2) hS
  exact ⟨w6.heap.size, _, _, Ap, _, cp, Ai, _, ci, Au, _, cu, Aa, _, ca, rfl, rfl, ⟨rfl, rfl, rfl, rfl, rfl, rfl, x1, x2⟩, PB.laid hpw, haw.below ((Below.refl _ _).alloc (Nat.le_refl _) _), hb.alloc hb.size _, hb.size⟩
theorem blk7 {o : Obj} (b6 : Below (W.alloc o).drew.heap.size (W.alloc o).drew w6) : w6.heap[W.heap.size]? = some o := by
  have e : (W.alloc o).drew.heap[W.heap.size]? = some o := heap_new7 W o
  refine (b6.block _ ?_).trans e
  show W.heap.size < (W.heap.push o).size
  simp
theorem frz7 {w : World} {g : Nat} {xs : Array Value} {t : TypeId} (h : w.heap[g]? = some (.cells xs t)) (i : Nat) : w.frozen? ⟨g, i, none⟩ = false := by simp [World.frozen?, h]
theorem put5 {w : World} {g : Nat} {x0 x1 x2 x3 x4 y0 y1 y2 y3 y4 : Value} {t : TypeId} (h : w.heap[g]? = some (.cells #[x0, x1, x2, x3, x4] t)) : (((((w.setCell ⟨g, 0, none⟩ y0).setCell ⟨g, 1, none⟩ y1).setCell ⟨g, 2, none⟩ y2).setCell ⟨g, 3, none⟩ y3).setCell ⟨g, 4, none⟩ y4).heap[g]? = some (.cells #[y0, y1, y2, y3, y4] t) := by
  have h0 := heap_setCell_same w g 0 _ t y0 h
  have h1 := heap_setCell_same _ g 1 _ t y1 h0
  have h2 := heap_setCell_same _ g 2 _ t y2 h1
  have h3 := heap_setCell_same _ g 3 _ t y3 h2
  have h4 := heap_setCell_same _ g 4 _ t y4 h3
  rw [h4]
  rfl
theorem laidB {x0 x1 x2 x3 x4 : Value} (b6 : Below (W.alloc (.cells #[x0, x1, x2, x3, x4] 25)).drew.heap.size (W.alloc (.cells #[x0, x1, x2, x3, x4] 25)).drew w6)
    (r1 : SL vI w6 (fun x => Old W x ∨ NewB w6 (W.alloc (.cells #[x0, x1, x2, x3, x4] 25)).drew.heap.size x) (.slice Ap r.1.params.length cp) r.1.params) (r2 : SL vB w6 (fun x => Old W x ∨ NewB w6 (W.alloc (.cells #[x0, x1, x2, x3, x4] 25)).drew.heap.size x) (.slice Ai r.1.inter.length ci) r.1.inter) (r3 : SL vB w6 (fun x => Old W x ∨ NewB w6 (W.alloc (.cells #[x0, x1, x2, x3, x4] 25)).drew.heap.size x) (.slice Au r.1.utf.length cu) r.1.utf)
    (ha : AS w6 (NewB w6 (W.alloc (.cells #[x0, x1, x2, x3, x4] 25)).drew.heap.size) (fun x => Old W x ∨ NewB w6 (W.alloc (.cells #[x0, x1, x2, x3, x4] 25)).drew.heap.size x) (.slice Aa r.2.length ca) r.2) :
    LaidAt W r (.pointer (some ⟨W.heap.size, 0, none⟩)) (.slice Aa r.2.length ca) (((((w6.setCell ⟨W.heap.size, 0, none⟩ (.int .i64 (r.1.mode : Int))).setCell ⟨W.heap.size, 1, none⟩ (.int .u8 (r.1.priv : Int))).setCell ⟨W.heap.size, 2, none⟩ (.slice Ap r.1.params.length cp)).setCell ⟨W.heap.size, 3, none⟩ (.slice Ai r.1.inter.length ci)).setCell ⟨W.heap.size, 4, none⟩ (.slice Au r.1.utf.length cu)) := by
  have hblk := blk7 b6
  have z0 : (W.alloc (.cells #[x0, x1, x2, x3, x4] 25)).drew.heap.size = W.heap.size + 1 := by
    show (W.heap.push _).size = _
    simp
  have hbW : Below W.heap.size W (W.alloc (.cells #[x0, x1, x2, x3, x4] 25)).drew := ((Below.refl _ _).alloc (Nat.le_refl _) _).drew
  have hb := hbW.trans (b6.mono (by rw [z0]; omega))
  rw [z0] at b6 r1 r2 r3 ha
  have z2 : W.heap.size + 1 ≤ w6.heap.size := by have := b6.size; rw [z0] at this; exact this
  have hput := put5 (y0 := .int .i64 (r.1.mode : Int)) (y1 := .int .u8 (r.1.priv : Int)) (y2 := .slice Ap r.1.params.length cp) (y3 := .slice Ai r.1.inter.length ci) (y4 := .slice Au r.1.utf.length cu) hblk
  have hbb : Below W.heap.size W (((((w6.setCell ⟨W.heap.size, 0, none⟩ (.int .i64 (r.1.mode : Int))).setCell ⟨W.heap.size, 1, none⟩ (.int .u8 (r.1.priv : Int))).setCell ⟨W.heap.size, 2, none⟩ (.slice Ap r.1.params.length cp)).setCell ⟨W.heap.size, 3, none⟩ (.slice Ai r.1.inter.length ci)).setCell ⟨W.heap.size, 4, none⟩ (.slice Au r.1.utf.length cu)) :=
    ((((hb.setCell (p := ⟨W.heap.size, 0, none⟩) (Nat.le_refl _) _).setCell (p := ⟨W.heap.size, 1, none⟩) (Nat.le_refl _) _).setCell (p := ⟨W.heap.size, 2, none⟩) (Nat.le_refl _) _).setCell (p := ⟨W.heap.size, 3, none⟩) (Nat.le_refl _) _).setCell (p := ⟨W.heap.size, 4, none⟩) (Nat.le_refl _) _
  obtain ⟨W7, hW7⟩ : ∃ W7, W7 = ((((w6.setCell ⟨W.heap.size, 0, none⟩ (.int .i64 (r.1.mode : Int))).setCell ⟨W.heap.size, 1, none⟩ (.int .u8 (r.1.priv : Int))).setCell ⟨W.heap.size, 2, none⟩ (.slice Ap r.1.params.length cp)).setCell ⟨W.heap.size, 3, none⟩ (.slice Ai r.1.inter.length ci)).setCell ⟨W.heap.size, 4, none⟩ (.slice Au r.1.utf.length cu) := ⟨_, rfl⟩
  have hzz : W7.heap.size = w6.heap.size := by rw [hW7]; simp [World.setCell]
  have hoth : ∀ x, x ≠ W.heap.size → W7.heap[x]? = w6.heap[x]? := fun x hx => by
    rw [hW7]
    have e : ∀ (u : World) (i : Nat) (v : Value), (u.setCell ⟨W.heap.size, i, none⟩ v).heap[x]? = u.heap[x]? := fun u i v => by
      simp [World.setCell, Array.getElem?_modify, Ne.symm hx]
    rw [e, e, e, e, e]
  rw [← hW7] at hput hbb ⊢
  clear hW7
  have hk : ∀ q : Addr, (Old W q.block ∨ NewB w6 (W.heap.size + 1) q.block) → W7.cell? q = w6.cell? q := fun q hq => World.cell?_of_block (hoth _ (by
    rcases hq with h | h
    · have h1 : q.block < W.heap.size := h
      omega
    · have h1 := h.1
      omega))
  have hS : ∀ x, (Old W x ∨ NewB w6 (W.heap.size + 1) x) → Old W7 x := fun x hx => by
    show x < W7.heap.size
    rw [hzz]
    rcases hx with h | h
    · have h1 : x < W.heap.size := h
      omega
    · exact h.2
  obtain ⟨A, c, hv, x1, x2⟩ := ha.form
  simp only [Value.slice.injEq] at hv
  obtain ⟨-, -, rfl⟩ := hv
  refine ⟨W.heap.size, _, _, Ap, _, cp, Ai, _, ci, Au, _, cu, Aa, _, ca, rfl, rfl, ⟨rfl, rfl, rfl, rfl, rfl, rfl, x1, x2⟩, ⟨hput, ⟨_, _, _, rfl, (r1.keep hk).mono hS, (r2.keep hk).mono hS, (r3.keep hk).mono hS⟩⟩, (ha.keep (fun q hq => hk q (.inr hq)) hk).mono (fun x hx => hS x (.inr hx)) hS, hbb, Nat.le_refl _⟩
end
end Go.Proofs.Ytbimhhcmfhooaaa

namespace Go.Proofs.Ytbimhhcmfhooaaa
open Go.RowKit
set_option linter.unusedVariables false
set_option linter.unusedSimpArgs false

/-- A call that answers some parser that may be. -/
def SomePost (w : World) (e : Ending) (w' : World) : Prop := ∃ m pv Ap np cp Ai ni ci Au nu cu p, e = .returned (.agg (v5 m pv Ap np cp Ai ni ci Au nu cu)) ∧ PrOk p ∧ PW w' (.agg (v5 m pv Ap np cp Ai ni ci Au nu cu)) p ∧ Below w.heap.size w w'
theorem some_plain {w w' : World} {K : Nat} (hK : K ≤ 7) (h2 : K ≠ 2) (h5 : K ≠ 5) (hb : Below w.heap.size w w') : SomePost w (.returned (.agg #[.int .i64 (K : Int), .int .u8 0, .slice none 0 0, .slice none 0 0, .slice none 0 0])) w' :=
  ⟨_, _, _, _, _, _, _, _, _, _, _, prM K, rfl, prM_ok K hK h2 h5, prM_pv w' _ K, hb⟩
set_option maxHeartbeats 1000000 in
theorem some_1 (k : Nat) (hk : k < 256) (hK : (k : Int) % 8 = 1) (v : Value) (w : World) : Calls Try.prog 11 #[.int .u8 (k : Int), v] w (SomePost w) := by
  have ki : (k : Int) < 256 := by omega
  clear hk
  go_enter Try.func11, Try.ntmps11
  go_wp2
  refine bodyPost_ret (v := .agg #[.int .i64 1, .int .u8 0, .slice none 0 0, .slice none 0 0, .slice none 0 0]) (by simp [results, Try.results11, go_sem]) rfl ?_
  exact some_plain (K := 1) (by omega) (by omega) (by omega) (((Below.refl _ _).alloc (Nat.le_refl _) _).alloc (by simp) _)
set_option maxHeartbeats 1000000 in
theorem some_3 (k : Nat) (hk : k < 256) (hK : (k : Int) % 8 = 3) (v : Value) (w : World) : Calls Try.prog 11 #[.int .u8 (k : Int), v] w (SomePost w) := by
  have ki : (k : Int) < 256 := by omega
  clear hk
  go_enter Try.func11, Try.ntmps11
  go_wp2
  refine bodyPost_ret (v := .agg #[.int .i64 3, .int .u8 0, .slice none 0 0, .slice none 0 0, .slice none 0 0]) (by simp [results, Try.results11, go_sem]) rfl ?_
  exact some_plain (K := 3) (by omega) (by omega) (by omega) (((Below.refl _ _).alloc (Nat.le_refl _) _).alloc (by simp) _)
set_option maxHeartbeats 1000000 in
theorem some_6 (k : Nat) (hk : k < 256) (hK : (k : Int) % 8 = 6) (v : Value) (w : World) : Calls Try.prog 11 #[.int .u8 (k : Int), v] w (SomePost w) := by
  have ki : (k : Int) < 256 := by omega
  clear hk
  go_enter Try.func11, Try.ntmps11
  go_wp2
  refine bodyPost_ret (v := .agg #[.int .i64 6, .int .u8 0, .slice none 0 0, .slice none 0 0, .slice none 0 0]) (by simp [results, Try.results11, go_sem]) rfl ?_
  exact some_plain (K := 6) (by omega) (by omega) (by omega) (((Below.refl _ _).alloc (Nat.le_refl _) _).alloc (by simp) _)
set_option maxHeartbeats 1000000 in
theorem some_7 (k : Nat) (hk : k < 256) (hK : (k : Int) % 8 = 7) (v : Value) (w : World) : Calls Try.prog 11 #[.int .u8 (k : Int), v] w (SomePost w) := by
  have ki : (k : Int) < 256 := by omega
  clear hk
  go_enter Try.func11, Try.ntmps11
  go_wp2
  refine bodyPost_ret (v := .agg #[.int .i64 7, .int .u8 0, .slice none 0 0, .slice none 0 0, .slice none 0 0]) (by simp [results, Try.results11, go_sem]) rfl ?_
  exact some_plain (K := 7) (by omega) (by omega) (by omega) (((Below.refl _ _).alloc (Nat.le_refl _) _).alloc (by simp) _)
set_option maxHeartbeats 1000000 in
theorem some_0a (k : Nat) (hk : k < 128) (hK : (k : Int) % 8 = 0) (v : Value) (w : World) : Calls Try.prog 11 #[.int .u8 (k : Int), v] w (SomePost w) := by
  have ki : (k : Int) < 256 := by omega
  have kd : decide (128 ≤ (k : Int)) = false := by simp; omega
  clear hk
  go_enter Try.func11, Try.ntmps11
  go_wp2
  refine bodyPost_ret (v := .agg #[.int .i64 0, .int .u8 0, .slice none 0 0, .slice none 0 0, .slice none 0 0]) (by simp [results, Try.results11, go_sem]) rfl ?_
  exact some_plain (K := 0) (by omega) (by omega) (by omega) (((Below.refl _ _).alloc (Nat.le_refl _) _).alloc (by simp) _)
theorem alloc_b {w w' : World} (h : Below w.heap.size w w') (o : Obj) : Below w.heap.size w (w'.alloc o) := h.alloc h.size o
theorem heap7 (w : World) (o0 o1 o2 o3 o4 o5 o6 : Obj) : (((((((w.alloc o0).alloc o1).alloc o2).alloc o3).alloc o4).alloc o5).alloc o6).heap[w.heap.size + 1 + 1]? = some o2 ∧ (((((((w.alloc o0).alloc o1).alloc o2).alloc o3).alloc o4).alloc o5).alloc o6).heap[w.heap.size + 1 + 1 + 1]? = some o3 ∧ (((((((w.alloc o0).alloc o1).alloc o2).alloc o3).alloc o4).alloc o5).alloc o6).heap[w.heap.size + 1 + 1 + 1 + 1]? = some o4 ∧ (((((((w.alloc o0).alloc o1).alloc o2).alloc o3).alloc o4).alloc o5).alloc o6).heap[w.heap.size + 1 + 1 + 1 + 1 + 1]? = some o5 := by
  have e : (((((((w.alloc o0).alloc o1).alloc o2).alloc o3).alloc o4).alloc o5).alloc o6).heap = ((((((w.heap.push o0).push o1).push o2).push o3).push o4).push o5).push o6 := rfl
  rw [e]
  simp [Array.getElem_push]
theorem heap3 (w : World) (o0 o1 o2 : Obj) : (((w.alloc o0).alloc o1).alloc o2).heap[w.heap.size + 1 + 1]? = some o2 := by
  have e : (((w.alloc o0).alloc o1).alloc o2).heap = ((w.heap.push o0).push o1).push o2 := rfl
  rw [e]
  simp [Array.getElem_push]
/-- A row of bytes that lies in a block. -/
theorem sl_row {w : World} {g : Nat} {xs : Array Value} {t : TypeId} (h : w.heap[g]? = some (.cells xs t)) (l : List UInt8) (n c : Nat) (hn : n = l.length) (hc : n ≤ c) (hc2 : c ≤ 1048576) (hx : ∀ (j : Nat) (b : UInt8), l[j]? = some b → xs[j]? = some (vB b)) : SL vB w (Old w) (.slice (some ⟨g, 0, none⟩) n c) l := by
  subst hn
  refine ⟨_, c, rfl, hc, by unfold maxLen; omega, fun _ => ⟨_, rfl, lt7 h, fun j b hj => ?_⟩⟩
  have e : (⟨g, 0, none⟩ : Addr).add j = ⟨g, j, none⟩ := by unfold Addr.add; split <;> simp_all
  rw [e]
  exact cell7 h j (hx j b hj)
theorem some_utf {w w' : World} {g n : Nat} {u : List UInt8} {xs : Array Value} {t : TypeId} (hu : beginsL u = true) (h : w'.heap[g]? = some (.cells xs t)) (hn : n = u.length) (hx : xs = (vBs u).toArray) (hb : Below w.heap.size w w') : SomePost w (.returned (.agg #[.int .i64 0, .int .u8 0, .slice none 0 0, .slice none 0 0, .slice (some ⟨g, 0, none⟩) n n])) w' := by
  have hl := (beginsL_len _ hu).2
  refine ⟨_, _, _, _, _, _, _, _, _, _, _, { prM 0 with utf := u }, rfl, utf_ok u (.inr hu), ⟨_, _, _, rfl, SL.nil _ _ _, SL.nil _ _ _, ?_⟩, hb⟩
  exact sl_row h u n n hn (Nat.le_refl _) (by omega) (fun j b hj => by rw [hx]; simp [vBs, hj])
theorem inter_bd (x : Nat) (h0 : 32 ≤ x) (h1 : x ≤ 47) : interB (UInt8.ofNat x) = true := by
  have : (UInt8.ofNat x).toNat = x := by simp; omega
  unfold interB
  rw [this]
  simp
  omega
/-- The numbers that are between, of a number. -/
def intL (x n : Nat) : List UInt8 := ([UInt8.ofNat x, 47] : List UInt8).take n
theorem intL_ok (x n : Nat) (h0 : 32 ≤ x) (h1 : x ≤ 47) (hn : n = 1 ∨ n = 2) : (intL x n).length = n ∧ ∀ b ∈ intL x n, interB b = true := by
  rcases hn with rfl | rfl
  · refine ⟨rfl, fun b hb => ?_⟩
    simp only [intL, List.take_succ_cons, List.take_zero, List.mem_singleton] at hb
    rw [hb]
    exact inter_bd x h0 h1
  · refine ⟨rfl, fun b hb => ?_⟩
    simp only [intL, List.take_succ_cons, List.take_zero, List.mem_cons, List.not_mem_nil, or_false] at hb
    rcases hb with rfl | rfl
    · exact inter_bd x h0 h1
    · decide
theorem intL_at (x n : Nat) (h1 : x ≤ 47) : ∀ (j : Nat) (b : UInt8), (intL x n)[j]? = some b → (#[Value.int .u8 (x : Int), Value.int .u8 47] : Array Value)[j]? = some (vB b) := by
  intro j b hj
  unfold intL at hj
  rw [List.getElem?_take] at hj
  split at hj
  · match j, hj with
    | 0, hj =>
      simp at hj
      subst hj
      have : (UInt8.ofNat x).toNat = x := by simp; omega
      simp [vB]
      omega
    | 1, hj =>
      simp at hj
      subst hj
      rfl
  · cases hj
set_option maxHeartbeats 1000000 in
theorem some_0u0 (k : Nat) (hk : 128 ≤ k) (hk2 : k < 256) (hK : (k : Int) % 8 = 0) (hj : (k : Int) / 8 % 4 = 0) (v : Value) (w : World) : Calls Try.prog 11 #[.int .u8 (k : Int), v] w (SomePost w) := by
  have ki : (k : Int) < 256 := by omega
  have kd : decide (128 ≤ (k : Int)) = true := by simp; omega
  clear hk hk2
  go_enter Try.func11, Try.ntmps11
  go_wp2
  refine bodyPost_ret (v := .agg #[.int .i64 0, .int .u8 0, .slice none 0 0, .slice none 0 0, .slice (some ⟨w.heap.size + 1 + 1, 0, none⟩) 1 1]) (by simp [results, Try.results11, go_sem]) rfl ?_
  refine some_utf (u := [195]) (xs := #[.int .u8 195]) (t := 5) (by decide) ?_ rfl rfl ?_
  · exact (heap7 w _ _ _ _ _ _ _).1
  · exact alloc_b (alloc_b (alloc_b (alloc_b (alloc_b (alloc_b (alloc_b (Below.refl _ _) _) _) _) _) _) _) _
set_option maxHeartbeats 1000000 in
theorem some_0u1 (k : Nat) (hk : 128 ≤ k) (hk2 : k < 256) (hK : (k : Int) % 8 = 0) (hj : (k : Int) / 8 % 4 = 1) (v : Value) (w : World) : Calls Try.prog 11 #[.int .u8 (k : Int), v] w (SomePost w) := by
  have ki : (k : Int) < 256 := by omega
  have kd : decide (128 ≤ (k : Int)) = true := by simp; omega
  clear hk hk2
  go_enter Try.func11, Try.ntmps11
  go_wp2
  refine bodyPost_ret (v := .agg #[.int .i64 0, .int .u8 0, .slice none 0 0, .slice none 0 0, .slice (some ⟨w.heap.size + 1 + 1 + 1, 0, none⟩) 1 1]) (by simp [results, Try.results11, go_sem]) rfl ?_
  refine some_utf (u := [230]) (xs := #[.int .u8 230]) (t := 5) (by decide) ?_ rfl rfl ?_
  · exact (heap7 w _ _ _ _ _ _ _).2.1
  · exact alloc_b (alloc_b (alloc_b (alloc_b (alloc_b (alloc_b (alloc_b (Below.refl _ _) _) _) _) _) _) _) _
set_option maxHeartbeats 1000000 in
theorem some_0u2 (k : Nat) (hk : 128 ≤ k) (hk2 : k < 256) (hK : (k : Int) % 8 = 0) (hj : (k : Int) / 8 % 4 = 2) (v : Value) (w : World) : Calls Try.prog 11 #[.int .u8 (k : Int), v] w (SomePost w) := by
  have ki : (k : Int) < 256 := by omega
  have kd : decide (128 ≤ (k : Int)) = true := by simp; omega
  clear hk hk2
  go_enter Try.func11, Try.ntmps11
  go_wp2
  refine bodyPost_ret (v := .agg #[.int .i64 0, .int .u8 0, .slice none 0 0, .slice none 0 0, .slice (some ⟨w.heap.size + 1 + 1 + 1 + 1, 0, none⟩) 2 2]) (by simp [results, Try.results11, go_sem]) rfl ?_
  refine some_utf (u := [230, 188]) (xs := #[.int .u8 230, .int .u8 188]) (t := 5) (by decide) ?_ rfl rfl ?_
  · exact (heap7 w _ _ _ _ _ _ _).2.2.1
  · exact alloc_b (alloc_b (alloc_b (alloc_b (alloc_b (alloc_b (alloc_b (Below.refl _ _) _) _) _) _) _) _) _
set_option maxHeartbeats 1000000 in
theorem some_0u3 (k : Nat) (hk : 128 ≤ k) (hk2 : k < 256) (hK : (k : Int) % 8 = 0) (hj : (k : Int) / 8 % 4 = 3) (v : Value) (w : World) : Calls Try.prog 11 #[.int .u8 (k : Int), v] w (SomePost w) := by
  have ki : (k : Int) < 256 := by omega
  have kd : decide (128 ≤ (k : Int)) = true := by simp; omega
  clear hk hk2
  go_enter Try.func11, Try.ntmps11
  go_wp2
  refine bodyPost_ret (v := .agg #[.int .i64 0, .int .u8 0, .slice none 0 0, .slice none 0 0, .slice (some ⟨w.heap.size + 1 + 1 + 1 + 1 + 1, 0, none⟩) 3 3]) (by simp [results, Try.results11, go_sem]) rfl ?_
  refine some_utf (u := [240, 159, 152]) (xs := #[.int .u8 240, .int .u8 159, .int .u8 152]) (t := 5) (by decide) ?_ rfl rfl ?_
  · exact (heap7 w _ _ _ _ _ _ _).2.2.2
  · exact alloc_b (alloc_b (alloc_b (alloc_b (alloc_b (alloc_b (alloc_b (Below.refl _ _) _) _) _) _) _) _) _
set_option maxHeartbeats 1000000 in
theorem some_2 (k : Nat) (hk2 : k < 256) (hK : (k : Int) % 8 = 2) (v : Value) (w : World) : Calls Try.prog 11 #[.int .u8 (k : Int), v] w (SomePost w) := by
  have ki : (k : Int) < 256 := by omega
  obtain ⟨x, hx⟩ : ∃ x : Nat, 32 + (k : Int) / 8 % 16 = (x : Int) := ⟨32 + k / 8 % 16, by omega⟩
  obtain ⟨n, hn⟩ : ∃ n : Nat, 1 + (k : Int) / 64 % 2 = (n : Int) := ⟨1 + k / 64 % 2, by omega⟩
  have x0 : 32 ≤ x := by omega
  have x1 : x ≤ 47 := by omega
  have n12 : n = 1 ∨ n = 2 := by omega
  have ni : (n : Int) ≤ 2 := by omega
  have n2 : n ≤ 2 := by omega
  have xi : (x : Int) ≤ 47 := by omega
  clear hk2
  go_enter Try.func11, Try.ntmps11
  go_wp2
  refine bodyPost_ret (v := .agg #[.int .i64 2, .int .u8 0, .slice none 0 0, .slice (some ⟨w.heap.size + 1 + 1, 0, none⟩) n 2, .slice none 0 0]) (by simp [results, Try.results11, go_sem]) rfl ?_
  obtain ⟨il, ia⟩ := intL_ok x n x0 x1 n12
  refine ⟨_, _, _, _, _, _, _, _, _, _, _, { prM 2 with inter := intL x n }, rfl, ⟨by show (2 : Nat) ≤ 7; omega, .inl rfl, by simp [prM], by simp [prM], by show (intL x n).length ≤ 2; omega, ia, .inl rfl, .inr (.inr ⟨rfl, rfl⟩), by show ((2 : Nat) = 2 ∨ (2 : Nat) = 5) ↔ 0 < (intL x n).length; omega⟩, ⟨_, _, _, rfl, SL.nil _ _ _, ?_, SL.nil _ _ _⟩, ?_⟩
  · exact sl_row (heap3 w _ _ _) (intL x n) n 2 il.symm n2 (by omega) (intL_at x n x1)
  · exact alloc_b (alloc_b (alloc_b (Below.refl _ _) _) _) _
end Go.Proofs.Ytbimhhcmfhooaaa

namespace Go.Proofs.Ytbimhhcmfhooaaa
open Go.RowKit
set_option linter.unusedVariables false
set_option linter.unusedSimpArgs false

/-- append of numbers at a step of a region that draws. -/
theorem step_appI {ops : Array Oper} {o : Oper} {a : Act} {w : World} {K : Act → World → Prop} {Q : Exit → Act → World → Prop} {E : Prop} (hgd : o.guard = none) (s x : Operand)
    (ho : o.op = .call { callee := .builtin .append, args := #[s, x], argTypes := #[23, 23] })
    (base B : Nat) (v u : Value) (l m : List Int) (hs : a.eval s = v) (hx : a.eval x = u) (hown : OI w base v l) (hr : IS w B u m) (hlen : l.length + m.length ≤ 1099511627776) (hbase : base ≤ w.heap.size)
    (h : ∀ v' w', OI w' base v' (l ++ m) → w.grownBy w' v.ownBlock → Below base w w' → K (a.put o.dst v') w') :
    if Region.wanted o (yielded ops a.tmps) = true then Oper.wp Try.prog o a w K Q else E := by
  have hw : Region.wanted o (yielded ops a.tmps) = true := by simp [Region.wanted, hgd]
  rw [if_pos hw]
  obtain ⟨v', w', hrun, h2, h3, h4, h5⟩ := run_appI w o.type hown hr hlen hbase
  unfold Oper.wp execOp
  simp only [ho, resolve, invoke, builtin, Sem.run_bind, Sem.run_pure, Result.andThen_ok, List.map_toArray, List.map_cons, List.map_nil, hs, hx, hrun]
  exact h v' w' h2 h3 h4
theorem heap_two7 (w : World) (o p : Obj) : ((w.alloc o).alloc p).heap[w.heap.size + 1]? = some p ∧ ((w.alloc o).alloc p).heap[w.heap.size]? = some o := by
  have e : (w.alloc o).heap.size = w.heap.size + 1 := by simp
  refine ⟨?_, (Below.heap_alloc (w.alloc o) p w.heap.size (by rw [e]; omega)).trans (heap_new7 w o)⟩
  rw [← e]
  exact heap_new7 _ _
/-- At the loop's head: so many numbers. -/
def SoRel (l : List Int) (KK : Int) (w : World) (i : Value) (wr : World) : Prop :=
  ∃ (n : Nat) (ps : List Int) (v : Value), n ≤ l.length ∧ n ≤ 16 ∧ i = .int .i64 (n : Int) ∧ ps.length = n ∧ (∀ x ∈ ps, 0 ≤ x ∧ x ≤ 65535) ∧ OI wr (w.heap.size + 1 + 1) v ps ∧ wr.heap[w.heap.size + 1]? = some (.cells #[.int .i64 KK, .int .u8 0, v, .slice none 0 0, .slice none 0 0] 25) ∧ wr.heap[w.heap.size]? = some (.cells #[.int .i64 0, .int .u8 0, .slice none 0 0, .slice none 0 0, .slice none 0 0] 25) ∧ Below w.heap.size w wr
theorem so_next {l ps : List Int} {KK x : Int} {w wr w1 w2 : World} {v v' : Value} {n : Nat} (hw1 : Below wr.heap.size wr w1) (hn : n < l.length) (hn2 : n < 16) (hpl : ps.length = n) (hps : ∀ x ∈ ps, 0 ≤ x ∧ x ≤ 65535) (ho : OI wr (w.heap.size + 1 + 1) v ps) (kp : wr.heap[w.heap.size + 1]? = some (.cells #[.int .i64 KK, .int .u8 0, v, .slice none 0 0, .slice none 0 0] 25)) (kr : wr.heap[w.heap.size]? = some (.cells #[.int .i64 0, .int .u8 0, .slice none 0 0, .slice none 0 0, .slice none 0 0] 25)) (hb : Below w.heap.size w wr)
    (ho2 : OI w2 (w.heap.size + 1 + 1) v' (ps ++ [x % 65536])) (hg2 : w1.grownBy w2 v.ownBlock) (hb2 : Below (w.heap.size + 1 + 1) w1 w2) : SoRel l KK w (.int .i64 ((n : Int) + 1)) (w2.setCell ⟨w.heap.size + 1, 2, none⟩ v') := by
  have lp := lt7 kp
  have lr := lt7 kr
  have z1 := hw1.size
  have ne : ∀ g, g < w.heap.size + 1 + 1 → some g ≠ v.ownBlock := fun g hg e => by have := (World.ownsRow.lt ho _ e.symm).1; omega
  have kp2 : w2.heap[w.heap.size + 1]? = _ := (hg2.block _ (by omega) (ne _ (by omega))).trans ((hw1.block _ lp).trans kp)
  have kr2 : w2.heap[w.heap.size]? = _ := (hg2.block _ (by omega) (ne _ (by omega))).trans ((hw1.block _ lr).trans kr)
  have hoth : (w2.setCell ⟨w.heap.size + 1, 2, none⟩ v').heap[w.heap.size]? = w2.heap[w.heap.size]? := by
    simp [World.setCell, Array.getElem?_modify]
  refine ⟨n + 1, ps ++ [x % 65536], v', hn, hn2, by go_num, by simp [hpl], ?_, ?_, ?_, hoth.trans kr2, ?_⟩
  · intro y hy
    rcases List.mem_append.1 hy with h | h
    · exact hps y h
    · rw [List.mem_singleton.1 h]
      omega
  · unfold OI at ho2 ⊢
    refine World.ownsRow.kept ho2 (row := some (w.heap.size + 1)) ⟨rfl, rfl, rfl, by simp [World.setCell], fun i hi hne => ?_⟩ ?_
    · have : i ≠ w.heap.size + 1 := fun e => hne (by rw [e])
      simp [World.setCell, Array.getElem?_modify, Ne.symm this]
    · cases hv : v'.ownBlock with
      | none => exact .inl rfl
      | some g =>
        right
        intro e
        have := (World.ownsRow.lt ho2 _ hv).1
        injection e with e
        omega
  · rw [heap_setCell_same _ _ 2 _ _ _ kp2]
    rfl
  · exact ((hb.trans (hw1.mono hb.size)).trans (hb2.mono (by omega))).setCell (p := ⟨w.heap.size + 1, 2, none⟩) (by show w.heap.size ≤ w.heap.size + 1; omega) _
/-- A row of numbers of the call's own is kept where a field of the parser ahead of it is written. -/
theorem so_keep {w wr : World} {v u : Value} {ps : List Int} {i : Nat} (ho : OI wr (w.heap.size + 1 + 1) v ps) : OI (wr.setCell ⟨w.heap.size + 1, i, none⟩ u) (w.heap.size + 1 + 1) v ps := by
  unfold OI at ho ⊢
  refine World.ownsRow.kept ho (row := some (w.heap.size + 1)) ⟨rfl, rfl, rfl, by simp [World.setCell], fun i hi hne => ?_⟩ ?_
  · have : i ≠ w.heap.size + 1 := fun e => hne (by rw [e])
    simp [World.setCell, Array.getElem?_modify, Ne.symm this]
  · cases hv : v.ownBlock with
    | none => exact .inl rfl
    | some g =>
      right
      intro e
      have := (World.ownsRow.lt ho _ hv).1
      injection e with e
      omega
theorem set_at7 {w : World} {g i : Nat} {xs : Array Value} {t : TypeId} (h : w.heap[g]? = some (.cells xs t)) (hi : i < xs.size) (x : Value) : (w.setCell ⟨g, i, none⟩ x).cell? ⟨g, i, none⟩ = some x ∧ ∃ ys, ys.size = xs.size ∧ (w.setCell ⟨g, i, none⟩ x).heap[g]? = some (.cells ys t) := by
  have h2 := heap_setCell_same w g i xs t x h
  exact ⟨cell7 h2 i (by simp [hi]), _, by simp, h2⟩
theorem set_five {w : World} {g : Nat} {xs : Array Value} {t : TypeId} (h : w.heap[g]? = some (.cells xs t)) (hi : 4 < xs.size) (x y z u s : Value) : (w.setCell ⟨g, 0, none⟩ x).cell? ⟨g, 0, none⟩ = some x ∧ ((w.setCell ⟨g, 0, none⟩ x).setCell ⟨g, 1, none⟩ y).cell? ⟨g, 1, none⟩ = some y ∧ (((w.setCell ⟨g, 0, none⟩ x).setCell ⟨g, 1, none⟩ y).setCell ⟨g, 2, none⟩ z).cell? ⟨g, 2, none⟩ = some z ∧ ((((w.setCell ⟨g, 0, none⟩ x).setCell ⟨g, 1, none⟩ y).setCell ⟨g, 2, none⟩ z).setCell ⟨g, 3, none⟩ u).cell? ⟨g, 3, none⟩ = some u ∧ (((((w.setCell ⟨g, 0, none⟩ x).setCell ⟨g, 1, none⟩ y).setCell ⟨g, 2, none⟩ z).setCell ⟨g, 3, none⟩ u).setCell ⟨g, 4, none⟩ s).cell? ⟨g, 4, none⟩ = some s := by
  obtain ⟨e0, ys, s0, h0⟩ := set_at7 h (i := 0) (by omega) x
  obtain ⟨e1, zs, s1, h1⟩ := set_at7 h0 (i := 1) (by omega) y
  obtain ⟨e2, us, s2, h2⟩ := set_at7 h1 (i := 2) (by omega) z
  obtain ⟨e3, vs, s3, h3⟩ := set_at7 h2 (i := 3) (by omega) u
  obtain ⟨e4, -⟩ := set_at7 h3 (i := 4) (by omega) s
  exact ⟨e0, e1, e2, e3, e4⟩
/-- The end: the parser is laid in the result. -/
theorem so_end {w W : World} {q : Nat} {ps : List Int} {n : Nat} {A : Option Addr} {cv : Nat} (hq : q = 0 ∨ (60 ≤ q ∧ q ≤ 63)) (hpn : ps.length = n) (hn : n ≤ 16) (hps : ∀ x ∈ ps, 0 ≤ x ∧ x ≤ 65535) (ho : OI W (w.heap.size + 1 + 1) (.slice A n cv) ps) (hb : Below w.heap.size w W) (x0 x1 x2 x3 x4 : Value) :
    SomePost w (.returned (.agg #[.int .i64 4, .int .u8 (q : Int), .slice A n cv, .slice none 0 0, .slice none 0 0])) (((((W.setCell ⟨w.heap.size, 0, none⟩ x0).setCell ⟨w.heap.size, 1, none⟩ x1).setCell ⟨w.heap.size, 2, none⟩ x2).setCell ⟨w.heap.size, 3, none⟩ x3).setCell ⟨w.heap.size, 4, none⟩ x4) := by
  have hbb : Below w.heap.size w (((((W.setCell ⟨w.heap.size, 0, none⟩ x0).setCell ⟨w.heap.size, 1, none⟩ x1).setCell ⟨w.heap.size, 2, none⟩ x2).setCell ⟨w.heap.size, 3, none⟩ x3).setCell ⟨w.heap.size, 4, none⟩ x4) :=
    ((((hb.setCell (p := ⟨w.heap.size, 0, none⟩) (Nat.le_refl _) _).setCell (p := ⟨w.heap.size, 1, none⟩) (Nat.le_refl _) _).setCell (p := ⟨w.heap.size, 2, none⟩) (Nat.le_refl _) _).setCell (p := ⟨w.heap.size, 3, none⟩) (Nat.le_refl _) _).setCell (p := ⟨w.heap.size, 4, none⟩) (Nat.le_refl _) _
  refine ⟨_, _, _, _, _, _, _, _, _, _, _, ⟨4, q, ps, [], []⟩, rfl, ⟨by show (4 : Nat) ≤ 7; omega, hq, by show ps.length ≤ 16; omega, hps, by simp, by simp, .inl rfl, .inl rfl, by simp⟩, ⟨_, _, _, rfl, ?_, SL.nil _ _ _, SL.nil _ _ _⟩, hbb⟩
  have h := ho.sl
  refine (h.keep (fun a ha => ?_)).mono (fun x hx => ?_)
  · have e : ∀ (u : World) (i : Nat) (v : Value), (u.setCell ⟨w.heap.size, i, none⟩ v).cell? a = u.cell? a := fun u i v => World.cell?_of_block (by
      have : a.block ≠ w.heap.size := by have := ha.1; omega
      simp [World.setCell, Array.getElem?_modify, Ne.symm this])
    rw [e, e, e, e, e]
  · have := hx.2
    show x < _
    simpa [World.setCell] using this
theorem so_len {l ps : List Int} {KK : Int} {w w2 : World} {Av2 : Option Addr} {cv2 : Nat} {i : Value} {x : Int} (h : SoRel l KK w i (w2.setCell ⟨w.heap.size + 1, 2, none⟩ (.slice Av2 (ps ++ [x]).length cv2))) : SoRel l KK w i (w2.setCell ⟨w.heap.size + 1, 2, none⟩ (.slice Av2 (ps.length + 1) cv2)) := by
  rw [List.length_append] at h
  exact h
set_option maxHeartbeats 4000000 in
set_option maxRecDepth 100000 in
theorem some_4 (k : Nat) (hk2 : k < 256) (hK : (k : Int) % 8 = 4) (v : Value) (l : List Int) (w : World) (hv : IS w w.heap.size v l) (hl : l.length ≤ 1048576) (hf : ∀ x ∈ l, -9223372036854775808 ≤ x ∧ x ≤ 9223372036854775807) : Calls Try.prog 11 #[.int .u8 (k : Int), v] w (SomePost w) := by
  have ki : (k : Int) < 256 := by omega
  have HV := Lib.hid hv
  have HF := Lib.hid hf
  obtain ⟨A, cl, rfl, g1, g2, -⟩ := hv.at_
  unfold maxLen at g2
  clear hk2 hv hf
  go_enter Try.func11, Try.ntmps11
  go_wp2
  try simp only [hK]
  clear hK
  have HB0 := Lib.hid (alloc_b (alloc_b (Below.refl w.heap.size w) (.cells #[.int .i64 0, .int .u8 0, .slice none 0 0, .slice none 0 0, .slice none 0 0] 25)) (.cells #[.int .i64 4, .int .u8 0, .slice none 0 0, .slice none 0 0, .slice none 0 0] 25))
  go_loopw [6] (fun i wr => SoRel l 4 w i wr) (fun i _ => 16 - (intOf i).toNat)
  case atStart =>
    refine ⟨0, [], .slice none 0 0, Nat.zero_le _, by omega, rfl, rfl, by simp, OI.nil _ _, ?_, ?_, HB0.out⟩
    · exact (heap_two7 w _ _).1
    · exact (heap_two7 w _ _).2
  case round =>
    obtain ⟨n, ps, v, hnl, hn16, rfl, hpl, hps, ho, kp, kr, hbel⟩ := hrel
    have HO := Lib.hid ho
    have HPS := Lib.hid hps
    have HKPB := Lib.hid kp
    have HKR := Lib.hid kr
    have HBE := Lib.hid hbel
    have lp : w.heap.size + 1 < wr.heap.size := lt7 kp
    obtain ⟨Av, cv, rfl, v1, v2, -⟩ := ho.bs.at_
    rw [hpl] at kp
    have HPN := Lib.hid hpl
    rw [hpl] at v1
    simp only [hpl] at HO HKPB ⊢
    have c0 := cell7 kp 0 rfl
    have c1 := cell7 kp 1 rfl
    have c2 := cell7 kp 2 rfl
    have c3 := cell7 kp 3 rfl
    have c4 := cell7 kp 4 rfl
    have f1 := frz7 kp 1
    have f2 := frz7 kp 2
    have hz := hbel.size
    clear ho hps kp kr hbel hpl
    by_cases hlt : n < l.length ∧ n < 16
    · obtain ⟨hnl, hn16⟩ := hlt
      have hd1 : decide (n < l.length) = true := by simpa using hnl
      have hd2 : decide ((n : Int) < 16) = true := by simp; omega
      obtain ⟨x, hx⟩ : ∃ x, l[n]? = some x := ⟨_, List.getElem?_eq_getElem hnl⟩
      obtain ⟨b1, b2⟩ := HF.out x (List.mem_of_getElem? hx)
      obtain ⟨A', c', hv', -, -, h3⟩ := HV.out.below HBE.out
      simp only [Value.slice.injEq] at hv'
      obtain ⟨ad, hAd, hadb, hcell⟩ := h3 (by omega)
      obtain ⟨rfl, -, rfl⟩ := hv'
      subst hAd
      have hx1 : wr.cell? (ad.add n) = some (.int .i64 x) := hcell n x hx
      have hadl : (ad.add n).block < wr.heap.size := by rw [block_add]; omega
      have HPL : Hid (∀ W, Calls Try.prog 23 #[.int .i64 x, .int .i64 65536] W fun e w' => e = .returned (.int .i64 (x % 65536)) ∧ W = w') := fun W => place_any x 65536 W b1 b2 (by omega) (by omega)
      have HBA : Hid (∀ o, Below wr.heap.size wr (wr.drew.alloc o)) := fun o => (Below.drew (Below.refl _ _)).alloc (Nat.le_refl _) o
      have HODR : Hid (∀ o, OI (wr.drew.alloc o) (w.heap.size + 1 + 1) (.slice Av n cv) ps) := fun o => HO.out.below (HBA.out o)
      have HISR : Hid (∀ t, IS (wr.drew.alloc (.cells #[.int .i64 (x % 65536)] t)) (wr.drew.heap.size + 1) (.slice (some ⟨wr.drew.heap.size, 0, none⟩) 1 1) [x % 65536]) := fun t => IS.one wr.drew (x % 65536) t
      have HKP : Hid (∀ o w', (wr.drew.alloc o).grownBy w' (Value.slice Av n cv).ownBlock → w'.heap[w.heap.size + 1]? = some (.cells #[.int .i64 4, .int .u8 0, .slice Av n cv, .slice none 0 0, .slice none 0 0] 25)) := fun o w' hg =>
        (hg.block _ (by have := (HBA.out o).size; omega) (fun e => by have := (World.ownsRow.lt HO.out _ e.symm).1; omega)).trans (((HBA.out o).block _ lp).trans HKPB.out)
      clear hx hcell h3
      go_wp2
      refine wp_region_any (by kernel_rfl) ?_
      try (change wpAny _ _ _ _ _ _ _ (World.drew _))
      refine wpAny_take (i := 0) (v := .pointer (some ⟨w.heap.size + 1, 2, none⟩)) rfl (by kernel_rfl) (by kernel_rfl) (by kernel_rfl) (fun _ _ _ h => h) (Or.inl ⟨by rfl, fun w => by go_simp⟩) ?_
      go_simp
      refine wpAny_take (i := 2) (v := .slice (some ad) l.length cl) rfl (by kernel_rfl) (by kernel_rfl) (by kernel_rfl) (fun _ _ _ h => h) (Or.inl ⟨by rfl, fun w => by go_simp⟩) ?_
      go_simp
      refine wpAny_take (i := 3) (v := .int .i64 (n : Int)) rfl (by kernel_rfl) (by kernel_rfl) (by kernel_rfl) (fun _ _ _ h => h) (Or.inl ⟨by rfl, fun w => by go_simp⟩) ?_
      go_simp
      refine wpAny_take (i := 4) (v := .pointer (some (ad.add n))) rfl (by kernel_rfl) (by kernel_rfl) (by kernel_rfl) (fun _ _ _ h => h) (Or.inl ⟨by rfl, fun w => by go_simp⟩) ?_
      go_simp
      refine wpAny_ready (rs := [1, 5]) (by kernel_rfl) (by simp) ?_
      refine AllReady.cons rfl (fun K hK => ?_) (AllReady.cons rfl (fun K hK => ?_) AllReady.nil)
      · go_simp
        refine hK _ _ ?_
        clear hK K
        refine wpAny_ready (rs := [5]) (by kernel_rfl) (by simp) ?_
        refine AllReady.cons rfl (fun K hK => ?_) AllReady.nil
        go_simp
        refine hK _ _ ?_
        clear hK K
        refine wpAny_ready (rs := [6]) (by kernel_rfl) (by simp) ?_
        refine AllReady.cons rfl (fun K hK => ?_) AllReady.nil
        go_simp
        refine (HPL.out _).mono ?_
        rintro e w4 ⟨rfl, rfl⟩
        refine hK _ _ ?_
        clear hK K
        refine wpAny_ready (rs := [7]) (by kernel_rfl) (by simp) ?_
        refine AllReady.cons rfl (fun K hK => ?_) AllReady.nil
        go_simp
        refine hK _ _ ?_
        clear hK K
        refine wpAny_ready (rs := [8]) (by kernel_rfl) (by simp) ?_
        refine AllReady.cons rfl (fun K hK => ?_) AllReady.nil
        refine step_appI rfl (.tmp 30) (.tmp 36) rfl (w.heap.size + 1 + 1) _ _ _ ps [x % 65536] (by rfl) (by rfl) (HODR.out _) (HISR.out _) (by have := HPN.out; simp; omega) (by show w.heap.size + 1 + 1 ≤ (wr.heap.push _).size; simp; omega) ?_
        intro v' w' ho' hg' hb'
        obtain ⟨Av2, cv2, rfl, -, -, -⟩ := ho'.bs.at_
        have kp' := HKP.out _ _ hg'
        have kc := cell7 kp' 2 rfl
        have kf := frz7 kp' 2
        refine hK _ _ ?_
        clear hK K
        refine wpAny_take (i := 9) (v := .pointer (some ⟨w.heap.size + 1, 2, none⟩)) rfl (by kernel_rfl) (by kernel_rfl) (by kernel_rfl) (fun _ _ _ h => h) (Or.inl ⟨by rfl, fun w => by go_simp⟩) ?_
        go_simp
        refine wpAny_ready (rs := [10]) (by kernel_rfl) (by simp) ?_
        refine AllReady.cons rfl (fun K hK => ?_) AllReady.nil
        go_simp
        refine hK _ _ ?_
        clear hK K
        refine wpAny_done (by kernel_rfl) ?_ _
        go_simp
        go_wp2
        go_roundw
        case rel => exact so_len (so_next (HBA.out _) hnl hn16 HPN.out HPS.out HO.out HKPB.out HKR.out HBE.out ho' hg' hb')
        case measure => simp [intOf]; omega
      · go_simp
        refine hK _ _ ?_
        clear hK K
        refine wpAny_ready (rs := [1, 6]) (by kernel_rfl) (by simp) ?_
        refine AllReady.cons rfl (fun K hK => ?_) (AllReady.cons rfl (fun K hK => ?_) AllReady.nil)
        · go_simp
          refine hK _ _ ?_
          clear hK K
          refine wpAny_ready (rs := [6]) (by kernel_rfl) (by simp) ?_
          refine AllReady.cons rfl (fun K hK => ?_) AllReady.nil
          go_simp
          refine (HPL.out _).mono ?_
          rintro e w4 ⟨rfl, rfl⟩
          refine hK _ _ ?_
          clear hK K
          refine wpAny_ready (rs := [7]) (by kernel_rfl) (by simp) ?_
          refine AllReady.cons rfl (fun K hK => ?_) AllReady.nil
          go_simp
          refine hK _ _ ?_
          clear hK K
          refine wpAny_ready (rs := [8]) (by kernel_rfl) (by simp) ?_
          refine AllReady.cons rfl (fun K hK => ?_) AllReady.nil
          refine step_appI rfl (.tmp 30) (.tmp 36) rfl (w.heap.size + 1 + 1) _ _ _ ps [x % 65536] (by rfl) (by rfl) (HODR.out _) (HISR.out _) (by have := HPN.out; simp; omega) (by show w.heap.size + 1 + 1 ≤ (wr.heap.push _).size; simp; omega) ?_
          intro v' w' ho' hg' hb'
          obtain ⟨Av2, cv2, rfl, -, -, -⟩ := ho'.bs.at_
          have kp' := HKP.out _ _ hg'
          have kc := cell7 kp' 2 rfl
          have kf := frz7 kp' 2
          refine hK _ _ ?_
          clear hK K
          refine wpAny_take (i := 9) (v := .pointer (some ⟨w.heap.size + 1, 2, none⟩)) rfl (by kernel_rfl) (by kernel_rfl) (by kernel_rfl) (fun _ _ _ h => h) (Or.inl ⟨by rfl, fun w => by go_simp⟩) ?_
          go_simp
          refine wpAny_ready (rs := [10]) (by kernel_rfl) (by simp) ?_
          refine AllReady.cons rfl (fun K hK => ?_) AllReady.nil
          go_simp
          refine hK _ _ ?_
          clear hK K
          refine wpAny_done (by kernel_rfl) ?_ _
          go_simp
          go_wp2
          go_roundw
          case rel => exact so_len (so_next (HBA.out _) hnl hn16 HPN.out HPS.out HO.out HKPB.out HKR.out HBE.out ho' hg' hb')
          case measure => simp [intOf]; omega
        · go_simp
          refine (HPL.out _).mono ?_
          rintro e w4 ⟨rfl, rfl⟩
          refine hK _ _ ?_
          clear hK K
          refine wpAny_ready (rs := [1, 7]) (by kernel_rfl) (by simp) ?_
          refine AllReady.cons rfl (fun K hK => ?_) (AllReady.cons rfl (fun K hK => ?_) AllReady.nil)
          · go_simp
            refine hK _ _ ?_
            clear hK K
            refine wpAny_ready (rs := [7]) (by kernel_rfl) (by simp) ?_
            refine AllReady.cons rfl (fun K hK => ?_) AllReady.nil
            go_simp
            refine hK _ _ ?_
            clear hK K
            refine wpAny_ready (rs := [8]) (by kernel_rfl) (by simp) ?_
            refine AllReady.cons rfl (fun K hK => ?_) AllReady.nil
            refine step_appI rfl (.tmp 30) (.tmp 36) rfl (w.heap.size + 1 + 1) _ _ _ ps [x % 65536] (by rfl) (by rfl) (HODR.out _) (HISR.out _) (by have := HPN.out; simp; omega) (by show w.heap.size + 1 + 1 ≤ (wr.heap.push _).size; simp; omega) ?_
            intro v' w' ho' hg' hb'
            obtain ⟨Av2, cv2, rfl, -, -, -⟩ := ho'.bs.at_
            have kp' := HKP.out _ _ hg'
            have kc := cell7 kp' 2 rfl
            have kf := frz7 kp' 2
            refine hK _ _ ?_
            clear hK K
            refine wpAny_take (i := 9) (v := .pointer (some ⟨w.heap.size + 1, 2, none⟩)) rfl (by kernel_rfl) (by kernel_rfl) (by kernel_rfl) (fun _ _ _ h => h) (Or.inl ⟨by rfl, fun w => by go_simp⟩) ?_
            go_simp
            refine wpAny_ready (rs := [10]) (by kernel_rfl) (by simp) ?_
            refine AllReady.cons rfl (fun K hK => ?_) AllReady.nil
            go_simp
            refine hK _ _ ?_
            clear hK K
            refine wpAny_done (by kernel_rfl) ?_ _
            go_simp
            go_wp2
            go_roundw
            case rel => exact so_len (so_next (HBA.out _) hnl hn16 HPN.out HPS.out HO.out HKPB.out HKR.out HBE.out ho' hg' hb')
            case measure => simp [intOf]; omega
          · go_simp
            refine hK _ _ ?_
            clear hK K
            refine wpAny_ready (rs := [1]) (by kernel_rfl) (by simp) ?_
            refine AllReady.cons rfl (fun K hK => ?_) AllReady.nil
            go_simp
            refine hK _ _ ?_
            clear hK K
            refine wpAny_ready (rs := [8]) (by kernel_rfl) (by simp) ?_
            refine AllReady.cons rfl (fun K hK => ?_) AllReady.nil
            refine step_appI rfl (.tmp 30) (.tmp 36) rfl (w.heap.size + 1 + 1) _ _ _ ps [x % 65536] (by rfl) (by rfl) (HODR.out _) (HISR.out _) (by have := HPN.out; simp; omega) (by show w.heap.size + 1 + 1 ≤ (wr.heap.push _).size; simp; omega) ?_
            intro v' w' ho' hg' hb'
            obtain ⟨Av2, cv2, rfl, -, -, -⟩ := ho'.bs.at_
            have kp' := HKP.out _ _ hg'
            have kc := cell7 kp' 2 rfl
            have kf := frz7 kp' 2
            refine hK _ _ ?_
            clear hK K
            refine wpAny_take (i := 9) (v := .pointer (some ⟨w.heap.size + 1, 2, none⟩)) rfl (by kernel_rfl) (by kernel_rfl) (by kernel_rfl) (fun _ _ _ h => h) (Or.inl ⟨by rfl, fun w => by go_simp⟩) ?_
            go_simp
            refine wpAny_ready (rs := [10]) (by kernel_rfl) (by simp) ?_
            refine AllReady.cons rfl (fun K hK => ?_) AllReady.nil
            go_simp
            refine hK _ _ ?_
            clear hK K
            refine wpAny_done (by kernel_rfl) ?_ _
            go_simp
            go_wp2
            go_roundw
            case rel => exact so_len (so_next (HBA.out _) hnl hn16 HPN.out HPS.out HO.out HKPB.out HKR.out HBE.out ho' hg' hb')
            case measure => simp [intOf]; omega
    · have hex : decide (n < l.length) = false ∨ (decide (n < l.length) = true ∧ decide ((n : Int) < 16) = false) := by
        by_cases h : n < l.length
        · exact .inr ⟨by simpa using h, by simp; omega⟩
        · exact .inl (by simpa using h)
      have hni : (n : Int) ≤ 16 := by omega
      rcases hex with hd1 | ⟨hd1, hd2⟩
      all_goals
        by_cases hp : 128 ≤ k
        · have hpd : decide (128 ≤ (k : Int)) = true := by simp; omega
          obtain ⟨q, hq⟩ : ∃ q : Nat, 60 + (k : Int) / 8 % 4 = (q : Int) := ⟨60 + k / 8 % 4, by omega⟩
          have q0 : 60 ≤ q := by omega
          have q1 : q ≤ 63 := by omega
          go_upto_region 9 with fail
          have kq : (wr.setCell ⟨w.heap.size + 1, 1, none⟩ (.int .u8 (q : Int))).heap[w.heap.size + 1]? = some (.cells #[.int .i64 4, .int .u8 (q : Int), .slice Av n cv, .slice none 0 0, .slice none 0 0] 25) := by
            rw [heap_setCell_same _ _ 1 _ _ _ HKPB.out]
            rfl
          have kz : (wr.setCell ⟨w.heap.size + 1, 1, none⟩ (.int .u8 (q : Int))).heap[w.heap.size]? = _ := (show (wr.setCell ⟨w.heap.size + 1, 1, none⟩ (.int .u8 (q : Int))).heap[w.heap.size]? = wr.heap[w.heap.size]? by simp [World.setCell, Array.getElem?_modify]).trans HKR.out
          have hoq : OI (wr.setCell ⟨w.heap.size + 1, 1, none⟩ (.int .u8 (q : Int))) (w.heap.size + 1 + 1) (.slice Av n cv) ps := so_keep HO.out
          have hbq : Below w.heap.size w (wr.setCell ⟨w.heap.size + 1, 1, none⟩ (.int .u8 (q : Int))) := HBE.out.setCell (p := ⟨w.heap.size + 1, 1, none⟩) (by show w.heap.size ≤ w.heap.size + 1; omega) _
          have KQ := Lib.hid kq
          have KZ := Lib.hid kz
          have HOQ := Lib.hid hoq
          have HBQ := Lib.hid hbq
          clear kq kz hoq hbq c0 c1 c2 c3 c4 f1 f2 hq
          generalize World.setCell wr _ _ = W at KQ KZ HOQ HBQ ⊢
          have c0 := cell7 KQ.out 0 rfl
          have c1 := cell7 KQ.out 1 rfl
          have c2 := cell7 KQ.out 2 rfl
          have c3 := cell7 KQ.out 3 rfl
          have c4 := cell7 KQ.out 4 rfl
          have z0 := cell7 KZ.out 0 rfl
          have z1 := cell7 KZ.out 1 rfl
          have z2 := cell7 KZ.out 2 rfl
          have z3 := cell7 KZ.out 3 rfl
          have z4 := cell7 KZ.out 4 rfl
          have y0 := frz7 KZ.out 0
          have y1 := frz7 KZ.out 1
          have y2 := frz7 KZ.out 2
          have y3 := frz7 KZ.out 3
          have y4 := frz7 KZ.out 4
          go_wp2
          obtain ⟨s0, s1, s2, s3, s4⟩ := set_five KZ.out (by simp) (.int .i64 4) (.int .u8 (q : Int)) (.slice Av n cv) (.slice none 0 0) (.slice none 0 0)
          exact bodyPost_ret (v := .agg #[.int .i64 4, .int .u8 (q : Int), .slice Av n cv, .slice none 0 0, .slice none 0 0]) (by simp [results, Try.results11, go_sem, s0, s1, s2, s3, s4]) rfl (so_end (.inr ⟨q0, q1⟩) HPN.out hn16 HPS.out HOQ.out HBQ.out _ _ _ _ _)
        · have hpd : decide (128 ≤ (k : Int)) = false := by simp; omega
          have z0 := cell7 HKR.out 0 rfl
          have z1 := cell7 HKR.out 1 rfl
          have z2 := cell7 HKR.out 2 rfl
          have z3 := cell7 HKR.out 3 rfl
          have z4 := cell7 HKR.out 4 rfl
          have y0 := frz7 HKR.out 0
          have y1 := frz7 HKR.out 1
          have y2 := frz7 HKR.out 2
          have y3 := frz7 HKR.out 3
          have y4 := frz7 HKR.out 4
          go_wp2
          obtain ⟨s0, s1, s2, s3, s4⟩ := set_five HKR.out (by simp) (.int .i64 4) (.int .u8 0) (.slice Av n cv) (.slice none 0 0) (.slice none 0 0)
          exact bodyPost_ret (v := .agg #[.int .i64 4, .int .u8 0, .slice Av n cv, .slice none 0 0, .slice none 0 0]) (by simp [results, Try.results11, go_sem, s0, s1, s2, s3, s4]) rfl (so_end (q := 0) (.inl rfl) HPN.out hn16 HPS.out HO.out HBE.out _ _ _ _ _)
end Go.Proofs.Ytbimhhcmfhooaaa

namespace Go.Proofs.Ytbimhhcmfhooaaa
open Go.RowKit
set_option linter.unusedVariables false
set_option linter.unusedSimpArgs false

/-- Behind the bytes between: what lies where. -/
theorem so_fin5 {w W : World} {q5 : Value} {v : Value} {ps : List Int} {x n2 : Nat} {t : TypeId} (kq : W.heap[w.heap.size + 1]? = some (.cells #[.int .i64 5, q5, v, .slice none 0 0, .slice none 0 0] 25)) (kz : W.heap[w.heap.size]? = some (.cells #[.int .i64 0, .int .u8 0, .slice none 0 0, .slice none 0 0, .slice none 0 0] 25)) (ho : OI W (w.heap.size + 1 + 1) v ps) (hb : Below w.heap.size w W) :
    ((W.setCell ⟨w.heap.size + 1, 3, none⟩ (.slice (some ⟨W.heap.size, 0, none⟩) n2 2)).alloc (.cells #[.int .u8 (x : Int), .int .u8 47] t)).heap[w.heap.size + 1]? = some (.cells #[.int .i64 5, q5, v, .slice (some ⟨W.heap.size, 0, none⟩) n2 2, .slice none 0 0] 25) ∧
    ((W.setCell ⟨w.heap.size + 1, 3, none⟩ (.slice (some ⟨W.heap.size, 0, none⟩) n2 2)).alloc (.cells #[.int .u8 (x : Int), .int .u8 47] t)).heap[w.heap.size]? = some (.cells #[.int .i64 0, .int .u8 0, .slice none 0 0, .slice none 0 0, .slice none 0 0] 25) ∧
    ((W.setCell ⟨w.heap.size + 1, 3, none⟩ (.slice (some ⟨W.heap.size, 0, none⟩) n2 2)).alloc (.cells #[.int .u8 (x : Int), .int .u8 47] t)).heap[W.heap.size]? = some (.cells #[.int .u8 (x : Int), .int .u8 47] t) ∧
    OI ((W.setCell ⟨w.heap.size + 1, 3, none⟩ (.slice (some ⟨W.heap.size, 0, none⟩) n2 2)).alloc (.cells #[.int .u8 (x : Int), .int .u8 47] t)) (w.heap.size + 1 + 1) v ps ∧ Below w.heap.size w ((W.setCell ⟨w.heap.size + 1, 3, none⟩ (.slice (some ⟨W.heap.size, 0, none⟩) n2 2)).alloc (.cells #[.int .u8 (x : Int), .int .u8 47] t)) := by
  have lq := lt7 kq
  have lz := lt7 kz
  have e : ∀ g, g ≠ w.heap.size + 1 → (W.setCell ⟨w.heap.size + 1, 3, none⟩ (.slice (some ⟨W.heap.size, 0, none⟩) n2 2)).heap[g]? = W.heap[g]? := fun g hg => by simp [World.setCell, Array.getElem?_modify, Ne.symm hg]
  have kq2 : (W.setCell ⟨w.heap.size + 1, 3, none⟩ (.slice (some ⟨W.heap.size, 0, none⟩) n2 2)).heap[w.heap.size + 1]? = some (.cells #[.int .i64 5, q5, v, .slice (some ⟨W.heap.size, 0, none⟩) n2 2, .slice none 0 0] 25) := by
    rw [heap_setCell_same _ _ 3 _ _ _ kq]
    rfl
  have kz2 := (e w.heap.size (by omega)).trans kz
  have ho2 : OI (W.setCell ⟨w.heap.size + 1, 3, none⟩ (.slice (some ⟨W.heap.size, 0, none⟩) n2 2)) (w.heap.size + 1 + 1) v ps := so_keep ho
  have hb2 : Below w.heap.size w (W.setCell ⟨w.heap.size + 1, 3, none⟩ (.slice (some ⟨W.heap.size, 0, none⟩) n2 2)) := hb.setCell (p := ⟨w.heap.size + 1, 3, none⟩) (by show w.heap.size ≤ w.heap.size + 1; omega) _
  have hz : (W.setCell ⟨w.heap.size + 1, 3, none⟩ (.slice (some ⟨W.heap.size, 0, none⟩) n2 2)).heap.size = W.heap.size := by simp [World.setCell]
  refine ⟨(Below.heap_alloc _ _ _ (lt7 kq2)).trans kq2, (Below.heap_alloc _ _ _ (lt7 kz2)).trans kz2, ?_, ho2.alloc _, alloc_b hb2 _⟩
  have := heap_new7 (W.setCell ⟨w.heap.size + 1, 3, none⟩ (.slice (some ⟨W.heap.size, 0, none⟩) n2 2)) (.cells #[.int .u8 (x : Int), .int .u8 47] t)
  rw [hz] at this
  exact this
theorem so_end5 {w W : World} {q x n2 g : Nat} {ps : List Int} {n : Nat} {A : Option Addr} {cv : Nat} {t : TypeId} (hq : q = 0 ∨ (60 ≤ q ∧ q ≤ 63)) (hpn : ps.length = n) (hn : n ≤ 16) (hps : ∀ x ∈ ps, 0 ≤ x ∧ x ≤ 65535) (ho : OI W (w.heap.size + 1 + 1) (.slice A n cv) ps) (hb : Below w.heap.size w W) (kg : W.heap[g]? = some (.cells #[.int .u8 (x : Int), .int .u8 47] t)) (hg : w.heap.size + 1 + 1 ≤ g) (x0 : 32 ≤ x) (x1 : x ≤ 47) (n12 : n2 = 1 ∨ n2 = 2) (u0 u1 u2 u3 u4 : Value) :
    SomePost w (.returned (.agg #[.int .i64 5, .int .u8 (q : Int), .slice A n cv, .slice (some ⟨g, 0, none⟩) n2 2, .slice none 0 0])) (((((W.setCell ⟨w.heap.size, 0, none⟩ u0).setCell ⟨w.heap.size, 1, none⟩ u1).setCell ⟨w.heap.size, 2, none⟩ u2).setCell ⟨w.heap.size, 3, none⟩ u3).setCell ⟨w.heap.size, 4, none⟩ u4) := by
  have hbb : Below w.heap.size w (((((W.setCell ⟨w.heap.size, 0, none⟩ u0).setCell ⟨w.heap.size, 1, none⟩ u1).setCell ⟨w.heap.size, 2, none⟩ u2).setCell ⟨w.heap.size, 3, none⟩ u3).setCell ⟨w.heap.size, 4, none⟩ u4) :=
    ((((hb.setCell (p := ⟨w.heap.size, 0, none⟩) (Nat.le_refl _) _).setCell (p := ⟨w.heap.size, 1, none⟩) (Nat.le_refl _) _).setCell (p := ⟨w.heap.size, 2, none⟩) (Nat.le_refl _) _).setCell (p := ⟨w.heap.size, 3, none⟩) (Nat.le_refl _) _).setCell (p := ⟨w.heap.size, 4, none⟩) (Nat.le_refl _) _
  obtain ⟨il, ia⟩ := intL_ok x n2 x0 x1 n12
  have e : ∀ (b : Nat), b ≠ w.heap.size → (((((W.setCell ⟨w.heap.size, 0, none⟩ u0).setCell ⟨w.heap.size, 1, none⟩ u1).setCell ⟨w.heap.size, 2, none⟩ u2).setCell ⟨w.heap.size, 3, none⟩ u3).setCell ⟨w.heap.size, 4, none⟩ u4).heap[b]? = W.heap[b]? := fun b hb => by
    have e1 : ∀ (u : World) (i : Nat) (v : Value), (u.setCell ⟨w.heap.size, i, none⟩ v).heap[b]? = u.heap[b]? := fun u i v => by simp [World.setCell, Array.getElem?_modify, Ne.symm hb]
    rw [e1, e1, e1, e1, e1]
  refine ⟨_, _, _, _, _, _, _, _, _, _, _, ⟨5, q, ps, intL x n2, []⟩, rfl, ⟨by show (5 : Nat) ≤ 7; omega, hq, by show ps.length ≤ 16; omega, hps, by show (intL x n2).length ≤ 2; omega, ia, .inl rfl, .inr (.inl rfl), by show ((5 : Nat) = 2 ∨ (5 : Nat) = 5) ↔ 0 < (intL x n2).length; omega⟩, ⟨_, _, _, rfl, ?_, ?_, SL.nil _ _ _⟩, hbb⟩
  · refine (ho.sl.keep (fun a ha => World.cell?_of_block (e _ ?_))).mono (fun y hy => ?_)
    · have := ha.1; omega
    · have := hy.2
      show y < _
      simpa [World.setCell] using this
  · exact sl_row ((e g (by omega)).trans kg) (intL x n2) n2 2 il.symm (by omega) (by omega) (intL_at x n2 x1)
set_option maxHeartbeats 4000000 in
set_option maxRecDepth 100000 in
theorem some_5 (k : Nat) (hk2 : k < 256) (hK : (k : Int) % 8 = 5) (v : Value) (l : List Int) (w : World) (hv : IS w w.heap.size v l) (hl : l.length ≤ 1048576) (hf : ∀ x ∈ l, -9223372036854775808 ≤ x ∧ x ≤ 9223372036854775807) : Calls Try.prog 11 #[.int .u8 (k : Int), v] w (SomePost w) := by
  have ki : (k : Int) < 256 := by omega
  obtain ⟨x, hx⟩ : ∃ x : Nat, 32 + (k : Int) / 8 % 16 = (x : Int) := ⟨32 + k / 8 % 16, by omega⟩
  obtain ⟨n2, hn2⟩ : ∃ n2 : Nat, 1 + (k : Int) / 64 % 2 = (n2 : Int) := ⟨1 + k / 64 % 2, by omega⟩
  have x0 : 32 ≤ x := by omega
  have x1 : x ≤ 47 := by omega
  have n12 : n2 = 1 ∨ n2 = 2 := by omega
  have HX := Lib.hid hx
  have HN2 := Lib.hid hn2
  clear hx hn2
  have HV := Lib.hid hv
  have HF := Lib.hid hf
  obtain ⟨A, cl, rfl, g1, g2, -⟩ := hv.at_
  unfold maxLen at g2
  clear hk2 hv hf
  go_enter Try.func11, Try.ntmps11
  go_wp2
  try simp only [hK]
  clear hK
  have HB0 := Lib.hid (alloc_b (alloc_b (Below.refl w.heap.size w) (.cells #[.int .i64 0, .int .u8 0, .slice none 0 0, .slice none 0 0, .slice none 0 0] 25)) (.cells #[.int .i64 5, .int .u8 0, .slice none 0 0, .slice none 0 0, .slice none 0 0] 25))
  go_loopw [6] (fun i wr => SoRel l 5 w i wr) (fun i _ => 16 - (intOf i).toNat)
  case atStart =>
    refine ⟨0, [], .slice none 0 0, Nat.zero_le _, by omega, rfl, rfl, by simp, OI.nil _ _, ?_, ?_, HB0.out⟩
    · exact (heap_two7 w _ _).1
    · exact (heap_two7 w _ _).2
  case round =>
    obtain ⟨n, ps, v, hnl, hn16, rfl, hpl, hps, ho, kp, kr, hbel⟩ := hrel
    have HO := Lib.hid ho
    have HPS := Lib.hid hps
    have HKPB := Lib.hid kp
    have HKR := Lib.hid kr
    have HBE := Lib.hid hbel
    have lp : w.heap.size + 1 < wr.heap.size := lt7 kp
    obtain ⟨Av, cv, rfl, v1, v2, -⟩ := ho.bs.at_
    rw [hpl] at kp
    have HPN := Lib.hid hpl
    rw [hpl] at v1
    simp only [hpl] at HO HKPB ⊢
    have c0 := cell7 kp 0 rfl
    have c1 := cell7 kp 1 rfl
    have c2 := cell7 kp 2 rfl
    have c3 := cell7 kp 3 rfl
    have c4 := cell7 kp 4 rfl
    have f1 := frz7 kp 1
    have f2 := frz7 kp 2
    have hz := hbel.size
    clear ho hps kp kr hbel hpl
    by_cases hlt : n < l.length ∧ n < 16
    · obtain ⟨hnl, hn16⟩ := hlt
      have hd1 : decide (n < l.length) = true := by simpa using hnl
      have hd2 : decide ((n : Int) < 16) = true := by simp; omega
      obtain ⟨y, hy⟩ : ∃ y, l[n]? = some y := ⟨_, List.getElem?_eq_getElem hnl⟩
      obtain ⟨b1, b2⟩ := HF.out y (List.mem_of_getElem? hy)
      obtain ⟨A', c', hv', -, -, h3⟩ := HV.out.below HBE.out
      simp only [Value.slice.injEq] at hv'
      obtain ⟨ad, hAd, hadb, hcell⟩ := h3 (by omega)
      obtain ⟨rfl, -, rfl⟩ := hv'
      subst hAd
      have hx1 : wr.cell? (ad.add n) = some (.int .i64 y) := hcell n y hy
      have hadl : (ad.add n).block < wr.heap.size := by rw [block_add]; omega
      have HPL : Hid (∀ W, Calls Try.prog 23 #[.int .i64 y, .int .i64 65536] W fun e w' => e = .returned (.int .i64 (y % 65536)) ∧ W = w') := fun W => place_any y 65536 W b1 b2 (by omega) (by omega)
      have HBA : Hid (∀ o, Below wr.heap.size wr (wr.drew.alloc o)) := fun o => (Below.drew (Below.refl _ _)).alloc (Nat.le_refl _) o
      have HODR : Hid (∀ o, OI (wr.drew.alloc o) (w.heap.size + 1 + 1) (.slice Av n cv) ps) := fun o => HO.out.below (HBA.out o)
      have HISR : Hid (∀ t, IS (wr.drew.alloc (.cells #[.int .i64 (y % 65536)] t)) (wr.drew.heap.size + 1) (.slice (some ⟨wr.drew.heap.size, 0, none⟩) 1 1) [y % 65536]) := fun t => IS.one wr.drew (y % 65536) t
      have HKP : Hid (∀ o w', (wr.drew.alloc o).grownBy w' (Value.slice Av n cv).ownBlock → w'.heap[w.heap.size + 1]? = some (.cells #[.int .i64 5, .int .u8 0, .slice Av n cv, .slice none 0 0, .slice none 0 0] 25)) := fun o w' hg =>
        (hg.block _ (by have := (HBA.out o).size; omega) (fun e => by have := (World.ownsRow.lt HO.out _ e.symm).1; omega)).trans (((HBA.out o).block _ lp).trans HKPB.out)
      clear hy hcell h3
      go_wp2
      refine wp_region_any (by kernel_rfl) ?_
      try (change wpAny _ _ _ _ _ _ _ (World.drew _))
      refine wpAny_take (i := 0) (v := .pointer (some ⟨w.heap.size + 1, 2, none⟩)) rfl (by kernel_rfl) (by kernel_rfl) (by kernel_rfl) (fun _ _ _ h => h) (Or.inl ⟨by rfl, fun w => by go_simp⟩) ?_
      go_simp
      refine wpAny_take (i := 2) (v := .slice (some ad) l.length cl) rfl (by kernel_rfl) (by kernel_rfl) (by kernel_rfl) (fun _ _ _ h => h) (Or.inl ⟨by rfl, fun w => by go_simp⟩) ?_
      go_simp
      refine wpAny_take (i := 3) (v := .int .i64 (n : Int)) rfl (by kernel_rfl) (by kernel_rfl) (by kernel_rfl) (fun _ _ _ h => h) (Or.inl ⟨by rfl, fun w => by go_simp⟩) ?_
      go_simp
      refine wpAny_take (i := 4) (v := .pointer (some (ad.add n))) rfl (by kernel_rfl) (by kernel_rfl) (by kernel_rfl) (fun _ _ _ h => h) (Or.inl ⟨by rfl, fun w => by go_simp⟩) ?_
      go_simp
      refine wpAny_ready (rs := [1, 5]) (by kernel_rfl) (by simp) ?_
      refine AllReady.cons rfl (fun K hK => ?_) (AllReady.cons rfl (fun K hK => ?_) AllReady.nil)
      · go_simp
        refine hK _ _ ?_
        clear hK K
        refine wpAny_ready (rs := [5]) (by kernel_rfl) (by simp) ?_
        refine AllReady.cons rfl (fun K hK => ?_) AllReady.nil
        go_simp
        refine hK _ _ ?_
        clear hK K
        refine wpAny_ready (rs := [6]) (by kernel_rfl) (by simp) ?_
        refine AllReady.cons rfl (fun K hK => ?_) AllReady.nil
        go_simp
        refine (HPL.out _).mono ?_
        rintro e w4 ⟨rfl, rfl⟩
        refine hK _ _ ?_
        clear hK K
        refine wpAny_ready (rs := [7]) (by kernel_rfl) (by simp) ?_
        refine AllReady.cons rfl (fun K hK => ?_) AllReady.nil
        go_simp
        refine hK _ _ ?_
        clear hK K
        refine wpAny_ready (rs := [8]) (by kernel_rfl) (by simp) ?_
        refine AllReady.cons rfl (fun K hK => ?_) AllReady.nil
        refine step_appI rfl (.tmp 30) (.tmp 36) rfl (w.heap.size + 1 + 1) _ _ _ ps [y % 65536] (by rfl) (by rfl) (HODR.out _) (HISR.out _) (by have := HPN.out; simp; omega) (by show w.heap.size + 1 + 1 ≤ (wr.heap.push _).size; simp; omega) ?_
        intro v' w' ho' hg' hb'
        obtain ⟨Av2, cv2, rfl, -, -, -⟩ := ho'.bs.at_
        have kp' := HKP.out _ _ hg'
        have kc := cell7 kp' 2 rfl
        have kf := frz7 kp' 2
        refine hK _ _ ?_
        clear hK K
        refine wpAny_take (i := 9) (v := .pointer (some ⟨w.heap.size + 1, 2, none⟩)) rfl (by kernel_rfl) (by kernel_rfl) (by kernel_rfl) (fun _ _ _ h => h) (Or.inl ⟨by rfl, fun w => by go_simp⟩) ?_
        go_simp
        refine wpAny_ready (rs := [10]) (by kernel_rfl) (by simp) ?_
        refine AllReady.cons rfl (fun K hK => ?_) AllReady.nil
        go_simp
        refine hK _ _ ?_
        clear hK K
        refine wpAny_done (by kernel_rfl) ?_ _
        go_simp
        go_wp2
        go_roundw
        case rel => exact so_len (so_next (HBA.out _) hnl hn16 HPN.out HPS.out HO.out HKPB.out HKR.out HBE.out ho' hg' hb')
        case measure => simp [intOf]; omega
      · go_simp
        refine hK _ _ ?_
        clear hK K
        refine wpAny_ready (rs := [1, 6]) (by kernel_rfl) (by simp) ?_
        refine AllReady.cons rfl (fun K hK => ?_) (AllReady.cons rfl (fun K hK => ?_) AllReady.nil)
        · go_simp
          refine hK _ _ ?_
          clear hK K
          refine wpAny_ready (rs := [6]) (by kernel_rfl) (by simp) ?_
          refine AllReady.cons rfl (fun K hK => ?_) AllReady.nil
          go_simp
          refine (HPL.out _).mono ?_
          rintro e w4 ⟨rfl, rfl⟩
          refine hK _ _ ?_
          clear hK K
          refine wpAny_ready (rs := [7]) (by kernel_rfl) (by simp) ?_
          refine AllReady.cons rfl (fun K hK => ?_) AllReady.nil
          go_simp
          refine hK _ _ ?_
          clear hK K
          refine wpAny_ready (rs := [8]) (by kernel_rfl) (by simp) ?_
          refine AllReady.cons rfl (fun K hK => ?_) AllReady.nil
          refine step_appI rfl (.tmp 30) (.tmp 36) rfl (w.heap.size + 1 + 1) _ _ _ ps [y % 65536] (by rfl) (by rfl) (HODR.out _) (HISR.out _) (by have := HPN.out; simp; omega) (by show w.heap.size + 1 + 1 ≤ (wr.heap.push _).size; simp; omega) ?_
          intro v' w' ho' hg' hb'
          obtain ⟨Av2, cv2, rfl, -, -, -⟩ := ho'.bs.at_
          have kp' := HKP.out _ _ hg'
          have kc := cell7 kp' 2 rfl
          have kf := frz7 kp' 2
          refine hK _ _ ?_
          clear hK K
          refine wpAny_take (i := 9) (v := .pointer (some ⟨w.heap.size + 1, 2, none⟩)) rfl (by kernel_rfl) (by kernel_rfl) (by kernel_rfl) (fun _ _ _ h => h) (Or.inl ⟨by rfl, fun w => by go_simp⟩) ?_
          go_simp
          refine wpAny_ready (rs := [10]) (by kernel_rfl) (by simp) ?_
          refine AllReady.cons rfl (fun K hK => ?_) AllReady.nil
          go_simp
          refine hK _ _ ?_
          clear hK K
          refine wpAny_done (by kernel_rfl) ?_ _
          go_simp
          go_wp2
          go_roundw
          case rel => exact so_len (so_next (HBA.out _) hnl hn16 HPN.out HPS.out HO.out HKPB.out HKR.out HBE.out ho' hg' hb')
          case measure => simp [intOf]; omega
        · go_simp
          refine (HPL.out _).mono ?_
          rintro e w4 ⟨rfl, rfl⟩
          refine hK _ _ ?_
          clear hK K
          refine wpAny_ready (rs := [1, 7]) (by kernel_rfl) (by simp) ?_
          refine AllReady.cons rfl (fun K hK => ?_) (AllReady.cons rfl (fun K hK => ?_) AllReady.nil)
          · go_simp
            refine hK _ _ ?_
            clear hK K
            refine wpAny_ready (rs := [7]) (by kernel_rfl) (by simp) ?_
            refine AllReady.cons rfl (fun K hK => ?_) AllReady.nil
            go_simp
            refine hK _ _ ?_
            clear hK K
            refine wpAny_ready (rs := [8]) (by kernel_rfl) (by simp) ?_
            refine AllReady.cons rfl (fun K hK => ?_) AllReady.nil
            refine step_appI rfl (.tmp 30) (.tmp 36) rfl (w.heap.size + 1 + 1) _ _ _ ps [y % 65536] (by rfl) (by rfl) (HODR.out _) (HISR.out _) (by have := HPN.out; simp; omega) (by show w.heap.size + 1 + 1 ≤ (wr.heap.push _).size; simp; omega) ?_
            intro v' w' ho' hg' hb'
            obtain ⟨Av2, cv2, rfl, -, -, -⟩ := ho'.bs.at_
            have kp' := HKP.out _ _ hg'
            have kc := cell7 kp' 2 rfl
            have kf := frz7 kp' 2
            refine hK _ _ ?_
            clear hK K
            refine wpAny_take (i := 9) (v := .pointer (some ⟨w.heap.size + 1, 2, none⟩)) rfl (by kernel_rfl) (by kernel_rfl) (by kernel_rfl) (fun _ _ _ h => h) (Or.inl ⟨by rfl, fun w => by go_simp⟩) ?_
            go_simp
            refine wpAny_ready (rs := [10]) (by kernel_rfl) (by simp) ?_
            refine AllReady.cons rfl (fun K hK => ?_) AllReady.nil
            go_simp
            refine hK _ _ ?_
            clear hK K
            refine wpAny_done (by kernel_rfl) ?_ _
            go_simp
            go_wp2
            go_roundw
            case rel => exact so_len (so_next (HBA.out _) hnl hn16 HPN.out HPS.out HO.out HKPB.out HKR.out HBE.out ho' hg' hb')
            case measure => simp [intOf]; omega
          · go_simp
            refine hK _ _ ?_
            clear hK K
            refine wpAny_ready (rs := [1]) (by kernel_rfl) (by simp) ?_
            refine AllReady.cons rfl (fun K hK => ?_) AllReady.nil
            go_simp
            refine hK _ _ ?_
            clear hK K
            refine wpAny_ready (rs := [8]) (by kernel_rfl) (by simp) ?_
            refine AllReady.cons rfl (fun K hK => ?_) AllReady.nil
            refine step_appI rfl (.tmp 30) (.tmp 36) rfl (w.heap.size + 1 + 1) _ _ _ ps [y % 65536] (by rfl) (by rfl) (HODR.out _) (HISR.out _) (by have := HPN.out; simp; omega) (by show w.heap.size + 1 + 1 ≤ (wr.heap.push _).size; simp; omega) ?_
            intro v' w' ho' hg' hb'
            obtain ⟨Av2, cv2, rfl, -, -, -⟩ := ho'.bs.at_
            have kp' := HKP.out _ _ hg'
            have kc := cell7 kp' 2 rfl
            have kf := frz7 kp' 2
            refine hK _ _ ?_
            clear hK K
            refine wpAny_take (i := 9) (v := .pointer (some ⟨w.heap.size + 1, 2, none⟩)) rfl (by kernel_rfl) (by kernel_rfl) (by kernel_rfl) (fun _ _ _ h => h) (Or.inl ⟨by rfl, fun w => by go_simp⟩) ?_
            go_simp
            refine wpAny_ready (rs := [10]) (by kernel_rfl) (by simp) ?_
            refine AllReady.cons rfl (fun K hK => ?_) AllReady.nil
            go_simp
            refine hK _ _ ?_
            clear hK K
            refine wpAny_done (by kernel_rfl) ?_ _
            go_simp
            go_wp2
            go_roundw
            case rel => exact so_len (so_next (HBA.out _) hnl hn16 HPN.out HPS.out HO.out HKPB.out HKR.out HBE.out ho' hg' hb')
            case measure => simp [intOf]; omega
    · have hex : decide (n < l.length) = false ∨ (decide (n < l.length) = true ∧ decide ((n : Int) < 16) = false) := by
        by_cases h : n < l.length
        · exact .inr ⟨by simpa using h, by simp; omega⟩
        · exact .inl (by simpa using h)
      have hni : (n : Int) ≤ 16 := by omega
      have hxx := HX.out
      have hnn := HN2.out
      have xi : (x : Int) ≤ 47 := by omega
      have nni : (n2 : Int) ≤ 2 := by omega
      rcases hex with hd1 | ⟨hd1, hd2⟩
      all_goals
        by_cases hp : 128 ≤ k
        · have hpd : decide (128 ≤ (k : Int)) = true := by simp; omega
          obtain ⟨q, hq⟩ : ∃ q : Nat, 60 + (k : Int) / 8 % 4 = (q : Int) := ⟨60 + k / 8 % 4, by omega⟩
          have q0 : q = 0 ∨ (60 ≤ q ∧ q ≤ 63) := by omega
          go_upto_region 9 with fail
          have kq : (wr.setCell ⟨w.heap.size + 1, 1, none⟩ (.int .u8 (q : Int))).heap[w.heap.size + 1]? = some (.cells #[.int .i64 5, .int .u8 (q : Int), .slice Av n cv, .slice none 0 0, .slice none 0 0] 25) := by
            rw [heap_setCell_same _ _ 1 _ _ _ HKPB.out]
            rfl
          have kz : (wr.setCell ⟨w.heap.size + 1, 1, none⟩ (.int .u8 (q : Int))).heap[w.heap.size]? = _ := (show (wr.setCell ⟨w.heap.size + 1, 1, none⟩ (.int .u8 (q : Int))).heap[w.heap.size]? = wr.heap[w.heap.size]? by simp [World.setCell, Array.getElem?_modify]).trans HKR.out
          have hoq : OI (wr.setCell ⟨w.heap.size + 1, 1, none⟩ (.int .u8 (q : Int))) (w.heap.size + 1 + 1) (.slice Av n cv) ps := so_keep HO.out
          have hbq : Below w.heap.size w (wr.setCell ⟨w.heap.size + 1, 1, none⟩ (.int .u8 (q : Int))) := HBE.out.setCell (p := ⟨w.heap.size + 1, 1, none⟩) (by show w.heap.size ≤ w.heap.size + 1; omega) _
          have KQ := Lib.hid kq
          have KZ := Lib.hid kz
          have HOQ := Lib.hid hoq
          have HBQ := Lib.hid hbq
          clear kq kz hoq hbq c0 c1 c2 c3 c4 f1 f2 hq
          generalize World.setCell wr _ _ = W at KQ KZ HOQ HBQ ⊢
          have c0 := cell7 KQ.out 0 rfl
          have c1 := cell7 KQ.out 1 rfl
          have c2 := cell7 KQ.out 2 rfl
          have c3 := cell7 KQ.out 3 rfl
          have c4 := cell7 KQ.out 4 rfl
          have f3 := frz7 KQ.out 3
          have lq := lt7 KQ.out
          have lz := lt7 KZ.out
          go_upto_region 11 with fail
          have hfin := so_fin5 (x := x) (n2 := n2) (t := 5) KQ.out KZ.out HOQ.out HBQ.out
          have HFIN := Lib.hid hfin
          clear hfin c0 c1 c2 c3 c4 f3 hxx hnn
          have hgw : w.heap.size + 1 + 1 ≤ W.heap.size := lq
          generalize World.alloc (World.setCell W _ _) _ = W3 at HFIN ⊢
          generalize W.heap.size = g at *
          obtain ⟨kp3, kz3, kg3, ho3, hb3⟩ := HFIN.out
          have c0 := cell7 kp3 0 rfl
          have c1 := cell7 kp3 1 rfl
          have c2 := cell7 kp3 2 rfl
          have c3 := cell7 kp3 3 rfl
          have c4 := cell7 kp3 4 rfl
          have z0 := cell7 kz3 0 rfl
          have y0 := frz7 kz3 0
          have z1 := cell7 kz3 1 rfl
          have y1 := frz7 kz3 1
          have z2 := cell7 kz3 2 rfl
          have y2 := frz7 kz3 2
          have z3 := cell7 kz3 3 rfl
          have y3 := frz7 kz3 3
          have z4 := cell7 kz3 4 rfl
          have y4 := frz7 kz3 4
          have KP3 := Lib.hid kp3
          have KZ3 := Lib.hid kz3
          have KG3 := Lib.hid kg3
          have HO3 := Lib.hid ho3
          have HB3 := Lib.hid hb3
          clear kp3 kz3 kg3 ho3 hb3
          go_wp2
          obtain ⟨s0, s1, s2, s3, s4⟩ := set_five KZ3.out (by simp) (.int .i64 5) (.int .u8 (q : Int)) (.slice Av n cv) (.slice (some ⟨g, 0, none⟩) n2 2) (.slice none 0 0)
          exact bodyPost_ret (v := .agg #[.int .i64 5, .int .u8 (q : Int), .slice Av n cv, .slice (some ⟨g, 0, none⟩) n2 2, .slice none 0 0]) (by simp [results, Try.results11, go_sem, s0, s1, s2, s3, s4]) rfl (so_end5 (q := q) q0 HPN.out hn16 HPS.out HO3.out HB3.out KG3.out hgw x0 x1 n12 _ _ _ _ _)
        · have hpd : decide (128 ≤ (k : Int)) = false := by simp; omega
          go_upto_region 9 with fail
          have KQ := HKPB
          have KZ := HKR
          have HOQ := HO
          have HBQ := HBE
          clear c0 c1 c2 c3 c4 f1 f2
          generalize wr = W at KQ KZ HOQ HBQ ⊢
          have c0 := cell7 KQ.out 0 rfl
          have c1 := cell7 KQ.out 1 rfl
          have c2 := cell7 KQ.out 2 rfl
          have c3 := cell7 KQ.out 3 rfl
          have c4 := cell7 KQ.out 4 rfl
          have f3 := frz7 KQ.out 3
          have lq := lt7 KQ.out
          have lz := lt7 KZ.out
          go_upto_region 11 with fail
          have hfin := so_fin5 (x := x) (n2 := n2) (t := 5) KQ.out KZ.out HOQ.out HBQ.out
          have HFIN := Lib.hid hfin
          clear hfin c0 c1 c2 c3 c4 f3 hxx hnn
          have hgw : w.heap.size + 1 + 1 ≤ W.heap.size := lq
          generalize World.alloc (World.setCell W _ _) _ = W3 at HFIN ⊢
          generalize W.heap.size = g at *
          obtain ⟨kp3, kz3, kg3, ho3, hb3⟩ := HFIN.out
          have c0 := cell7 kp3 0 rfl
          have c1 := cell7 kp3 1 rfl
          have c2 := cell7 kp3 2 rfl
          have c3 := cell7 kp3 3 rfl
          have c4 := cell7 kp3 4 rfl
          have z0 := cell7 kz3 0 rfl
          have y0 := frz7 kz3 0
          have z1 := cell7 kz3 1 rfl
          have y1 := frz7 kz3 1
          have z2 := cell7 kz3 2 rfl
          have y2 := frz7 kz3 2
          have z3 := cell7 kz3 3 rfl
          have y3 := frz7 kz3 3
          have z4 := cell7 kz3 4 rfl
          have y4 := frz7 kz3 4
          have KP3 := Lib.hid kp3
          have KZ3 := Lib.hid kz3
          have KG3 := Lib.hid kg3
          have HO3 := Lib.hid ho3
          have HB3 := Lib.hid hb3
          clear kp3 kz3 kg3 ho3 hb3
          go_wp2
          obtain ⟨s0, s1, s2, s3, s4⟩ := set_five KZ3.out (by simp) (.int .i64 5) (.int .u8 0) (.slice Av n cv) (.slice (some ⟨g, 0, none⟩) n2 2) (.slice none 0 0)
          exact bodyPost_ret (v := .agg #[.int .i64 5, .int .u8 0, .slice Av n cv, .slice (some ⟨g, 0, none⟩) n2 2, .slice none 0 0]) (by simp [results, Try.results11, go_sem, s0, s1, s2, s3, s4]) rfl (so_end5 (q := 0) (.inl rfl) HPN.out hn16 HPS.out HO3.out HB3.out KG3.out hgw x0 x1 n12 _ _ _ _ _)
theorem some_any (k : Nat) (hk : k < 256) (v : Value) (l : List Int) (w : World) (hv : IS w w.heap.size v l) (hl : l.length ≤ 1048576) (hf : ∀ x ∈ l, -9223372036854775808 ≤ x ∧ x ≤ 9223372036854775807) : Calls Try.prog 11 #[.int .u8 (k : Int), v] w (SomePost w) := by
  have h : (k : Int) % 8 = 0 ∨ (k : Int) % 8 = 1 ∨ (k : Int) % 8 = 2 ∨ (k : Int) % 8 = 3 ∨ (k : Int) % 8 = 4 ∨ (k : Int) % 8 = 5 ∨ (k : Int) % 8 = 6 ∨ (k : Int) % 8 = 7 := by omega
  rcases h with h | h | h | h | h | h | h | h
  · by_cases hp : k < 128
    · exact some_0a k hp h v w
    · have hj : (k : Int) / 8 % 4 = 0 ∨ (k : Int) / 8 % 4 = 1 ∨ (k : Int) / 8 % 4 = 2 ∨ (k : Int) / 8 % 4 = 3 := by omega
      rcases hj with hj | hj | hj | hj
      · exact some_0u0 k (by omega) hk h hj v w
      · exact some_0u1 k (by omega) hk h hj v w
      · exact some_0u2 k (by omega) hk h hj v w
      · exact some_0u3 k (by omega) hk h hj v w
  · exact some_1 k hk h v w
  · exact some_2 k hk h v w
  · exact some_3 k hk h v w
  · exact some_4 k hk h v l w hv hl hf
  · exact some_5 k hk h v l w hv hl hf
  · exact some_6 k hk h v w
  · exact some_7 k hk h v w
end Go.Proofs.Ytbimhhcmfhooaaa
