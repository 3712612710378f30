/- What is proved here: parts of layer 10's proofs. -/
import Derived.Test.YthepofkdgbcifaaGreatS3
import Derived.RegionTactic
import Derived.BigRegion
namespace Go.Proofs.YthepofkdgbcifaaGreat
open Go.RowKit
set_option linter.unusedVariables false
set_option linter.unusedSimpArgs false
set_option maxHeartbeats 1000000
set_option maxRecDepth 100000
theorem SL.get {α : Type} {f : α → Value} {w : World} {S : Nat → Prop} {A : Option Addr} {n c : Nat} {l : List α} (h : SL f w S (.slice A n c) l) (k : Nat) (x : α) (hx : l[k]? = some x) : ∃ ad, A = some ad ∧ w.cell? (ad.add k) = some (f x) := by
 obtain ⟨A', c', hv, _, _, h3⟩ := h
 simp only [Value.slice.injEq] at hv
 have hk : k < l.length := (List.getElem?_eq_some_iff.1 hx).1
 obtain ⟨ad, hA, _, hc⟩ := h3 (by omega)
 exact ⟨ad, hv.1.trans hA, hc k x hx⟩
theorem AcsV.get {w : World} {S : Nat → Prop} {xs : List Value} {l : List Ac} (h : AcsV w S xs l) (k : Nat) (a : Ac) (ha : l[k]? = some a) : ∃ vp vi, SL vI w S vp a.params ∧ SL vB w S vi a.inter ∧ ∀ i u, [Value.int .i64 (a.kind : Int), .int .i32 a.r, .int .u8 (a.b : Int), .int .u8 (a.priv : Int), vp, vi][i]? = some u → xs[k * 6 + i]? = some u := by
 induction k generalizing xs l with
 | zero =>
  match l, h, ha with
  | x :: l, h, ha =>
   simp only [List.getElem?_cons_zero, Option.some.injEq] at ha
   subst ha
   obtain ⟨vp, vi, ys, hx, h1, h2, h3⟩ := h
   refine ⟨vp, vi, h1, h2, fun i u hu => ?_⟩
   rw [hx, Nat.zero_mul, Nat.zero_add]
   have hi := (List.getElem?_eq_some_iff.1 hu).1
   rw [List.getElem?_append_left hi]
   exact hu
 | succ k ih =>
  match l, h, ha with
  | x :: l, h, ha =>
   obtain ⟨vp, vi, ys, hx, h1, h2, h3⟩ := h
   obtain ⟨vp', vi', g1, g2, g3⟩ := ih h3 (by simpa using ha)
   refine ⟨vp', vi', g1, g2, fun i u hu => ?_⟩
   rw [hx, List.getElem?_append_right (by simp; omega), ← g3 i u hu]
   congr 1
   simp
   omega
theorem add_at (ad : Addr) (n i : Nat) (hi : 0 < i) : ad.add (n + i) = ⟨(ad.add n).block, (ad.add n).off + i, none⟩ := by
 unfold Addr.add
 rw [if_neg (by omega)]
 split
 ·next h => subst h; simp
 ·simp [Nat.add_assoc]
def SixAt (w : World) (xa : Addr) (a : Ac) (vp vi : Value) : Prop :=
 w.cell? xa = some (.int .i64 (a.kind : Int)) ∧ w.cell? ⟨xa.block, xa.off + 1, none⟩ = some (.int .i32 a.r) ∧ w.cell? ⟨xa.block, xa.off + 2, none⟩ = some (.int .u8 (a.b : Int)) ∧ w.cell? ⟨xa.block, xa.off + 3, none⟩ = some (.int .u8 (a.priv : Int)) ∧ w.cell? ⟨xa.block, xa.off + 4, none⟩ = some vp ∧ w.cell? ⟨xa.block, xa.off + 5, none⟩ = some vi
theorem AS.get {w : World} {T S : Nat → Prop} {A : Option Addr} {n c : Nat} {l : List Ac} (h : AS w T S (.slice A n c) l) (k : Nat) (a : Ac) (ha : l[k]? = some a) :
  ∃ ad vp vi, A = some ad ∧ T (ad.add (k * 6)).block ∧ SL vI w S vp a.params ∧ SL vB w S vi a.inter ∧ SixAt w (ad.add (k * 6)) a vp vi := by
 obtain ⟨A', c', xs, hv, _, _, h3, h4⟩ := h
 simp only [Value.slice.injEq] at hv
 have hk : k < l.length := (List.getElem?_eq_some_iff.1 ha).1
 obtain ⟨ad, hA, hT, hc⟩ := h4 (by omega)
 obtain ⟨vp, vi, g1, g2, g3⟩ := h3.get k a ha
 refine ⟨ad, vp, vi, hv.1.trans hA, by rw [block_add]; exact hT, g1, g2, hc _ _ (g3 0 _ rfl), ?_, ?_, ?_, ?_, ?_⟩
 ·rw [← add_at _ _ _ (by omega)]; exact hc _ _ (g3 1 _ rfl)
 ·rw [← add_at _ _ _ (by omega)]; exact hc _ _ (g3 2 _ rfl)
 ·rw [← add_at _ _ _ (by omega)]; exact hc _ _ (g3 3 _ rfl)
 ·rw [← add_at _ _ _ (by omega)]; exact hc _ _ (g3 4 _ rfl)
 ·rw [← add_at _ _ _ (by omega)]; exact hc _ _ (g3 5 _ rfl)
theorem inter_yes (b : UInt8) (h0 : 32 ≤ b.toNat) (h1 : b.toNat ≤ 47) : interB b = true := by simp [interB, h0, h1]
theorem inter_no (b : UInt8) (h : b.toNat < 32 ∨ 47 < b.toNat) : interB b = false := by
 rw [← Bool.not_eq_true]
 simp [interB]
 omega
theorem interr_any (b : UInt8) (w : World) : Calls Tryz.prog 88 #[.int .u8 (b.toNat : Int)] w fun e w' => e = .returned (.bool (interB b)) ∧ w = w' := by
 by_cases h0 : 32 ≤ b.toNat
 ·have d0 : (32 : Int) ≤ (b.toNat : Int) := by omega
  by_cases h1 : b.toNat ≤ 47
  ·have d1 : (b.toNat : Int) ≤ 47 := by omega
   rw [inter_yes b h0 h1]
   go_enter Tryz.func88, Tryz.ntmps88
   go_wp2
   go_ret
   exact ⟨rfl, rfl⟩
  ·have d1 : decide ((b.toNat : Int) ≤ 47) = false := by simp; omega
   rw [inter_no b (.inr (by omega))]
   go_enter Tryz.func88, Tryz.ntmps88
   go_wp2
   go_ret
   exact ⟨rfl, rfl⟩
 ·have d0 : decide ((32 : Int) ≤ (b.toNat : Int)) = false := by simp; omega
  rw [inter_no b (.inl (by omega))]
  go_enter Tryz.func88, Tryz.ntmps88
  go_wp2
  go_ret
  exact ⟨rfl, rfl⟩
theorem withr_any (v : Value) (l : List UInt8) (b : UInt8) (w : World) (hv : BS w w.heap.size v l) (hl : l.length ≤ 1048576) : Calls Tryz.prog 95 #[v, .int .u8 (b.toNat : Int)] w fun e w' => ∃ u, e = .returned u ∧ OB w' w.heap.size u (l ++ [b]) ∧ Below w.heap.size w w' := by
 have HV := Lh hv
 obtain ⟨A, c, rfl, g1, g2, -⟩ := hv.at_
 clear hv
 go_enter Tryz.func95, Tryz.ntmps95
 go_wp2_with (first
  | (at_builtin; refine wpl_app _ rfl (.const (.slice none 0 0)) (.tmp 5) rfl w.heap.size _ (.slice none 0 0) _ [] l rfl rfl (OB.nil _ _) HV.out (by simp; omega) (Nat.le_refl _) ?_; intro v1 w1 ho1 hg1 hb1 _; have hz1 := hb1.size)
  | (at_builtin; refine wpl_app _ rfl (.tmp 6) (.tmp 8) rfl w.heap.size _ _ _ ([] ++ l) [b] rfl rfl (ho1.alloc _) (BS.one _ b _) (by simp; omega) (by simp; omega) ?_; intro v2 w2 ho2 hg2 hb2 _))
 go_ret
 exact ⟨v2, rfl, by rw [← List.nil_append l]; exact ho2, (hb1.alloc hz1 _).trans hb2⟩
def PrintsRel (l : List Nat) (w0 : World) (o i : Value) (wr : World) : Prop := ∃ k : Nat, k ≤ l.length ∧ i = .int .i64 (k : Int) ∧ OA wr w0.heap.size (fun _ => False) o (printsL (l.take k)) ∧ Below w0.heap.size w0 wr
theorem AS.print (w : World) (r : Int) (t : TypeId) : AS (w.alloc (.cells #[.int .i64 0, .int .i32 r, .int .u8 0, .int .u8 0, .slice none 0 0, .slice none 0 0] t)) (fun x => x = w.heap.size) (fun _ => False) (.slice (some ⟨w.heap.size, 0, none⟩) 1 1) [acP r] :=
 AS.one w (fun _ => False) (acP r) (.slice none 0 0) (.slice none 0 0) t (SL.nil _ _ _) (SL.nil _ _ _) (fun _ h => h.elim)
theorem printsL_succ (l : List Nat) (k : Nat) (h : k < l.length) : printsL (l.take (k + 1)) = printsL (l.take k) ++ [acP (Int.ofNat l[k])] := by
 unfold printsL
 rw [List.take_succ_eq_append_getElem h, List.map_append]
 rfl
theorem printsr_any (v : Value) (l : List Nat) (w : World) (hv : RS w w.heap.size v (ints l)) (hl : l.length ≤ 1048576) : Calls Tryz.prog 70 #[v] w fun e w' => ∃ u, e = .returned u ∧ OA w' w.heap.size (fun _ => False) u (printsL l) ∧ Below w.heap.size w w' := by
 have hil : (ints l).length = l.length := by simp [ints]
 obtain ⟨A, c, rfl, g1, g2, -⟩ := hv.at_
 have HV := Lh hv
 rw [hil] at g1 HV ⊢
 have HIL := Lh hil
 unfold maxLen at g2
 clear hv hil
 go_enter Tryz.func70, Tryz.ntmps70
 go_wp2
 go_loopw [3, 4] (fun o i wr => PrintsRel l w o i wr) (fun _ i _ => l.length - (intOf i).toNat)
 case atStart => exact ⟨0, Nat.zero_le _, rfl, OA.nil _ _ _, Below.refl _ _⟩
 case round =>
  obtain ⟨k, hk, rfl, ho, hbel⟩ := hrel
  have hz := hbel.size
  by_cases hlt : k < l.length
  ·obtain ⟨ad, hA, hc⟩ : ∃ ad, A = some ad ∧ wr.cell? (ad.add k) = some (vR (Int.ofNat l[k])) := by
    obtain ⟨A', c', hv', _, _, h3⟩ := (HV.out.below hbel).at_
    obtain ⟨ad, hA, hc⟩ := h3 k (by rw [HIL.out]; exact hlt)
    simp only [Value.slice.injEq] at hv'
    refine ⟨ad, hv'.1.trans hA, hc.trans ?_⟩
    simp [ints]
   subst hA
   unfold vR at hc
   have hsucc := printsL_succ l k hlt
   have hpl : (printsL (l.take k)).length ≤ k := by simp [printsL]; omega
   generalize Int.ofNat l[k] = r at *
   have HS := Lh hsucc
   have HO := Lh ho
   have HG : Hid (∀ g, u3.ownBlock = some g → g < wr.heap.size) := fun g hg => (ho.lt g hg).2
   clear hsucc ho
   go_wp2_with (at_builtin; refine wpl_appA _ rfl (.tmp 11) (.tmp 17) rfl w.heap.size (fun _ => False) _ (fun _ => False) _ _ _ [acP r] rfl rfl (HO.out.below (fun _ h => h.elim) ((Below.refl _ _).alloc (Nat.le_refl _) _)) (AS.print _ r _) (fun _ h => h.elim) (fun _ h => h.elim) (fun _ _ h => h) (by simp; omega) (by simp; omega) ?_; intro v3 w3 ho3 hg3 hb3 _)
   go_roundw
   case rel => exact ⟨k + 1, hlt, by go_num, by rw [HS.out]; exact ho3.weak (fun _ h => h.elim id id) (fun _ _ h => h), (hbel.alloc hz _).trans hb3⟩
   case measure => simp [intOf]; omega
  ·obtain rfl : k = l.length := by omega
   rw [List.take_length] at ho
   go_wp2
   go_ret
   exact ⟨_, rfl, ho, hbel⟩
theorem formed_two (a c b : UInt8) : formedB [a, c] b = (decide (a.toNat = 239) && decide (c.toNat = 191) && decide (b.toNat = 189)) := by
 rw [Bool.eq_iff_iff]
 simp only [formedB, Bool.and_eq_true, beq_iff_eq, List.cons.injEq, and_true, decide_eq_true_eq, ← UInt8.toNat_inj]
 exact Iff.rfl
theorem formed_not (p : List UInt8) (b : UInt8) (h : p.length ≠ 2) : formedB p b = false := by
 rw [← Bool.not_eq_true]
 intro hh
 simp only [formedB, Bool.and_eq_true, beq_iff_eq] at hh
 rw [hh.1] at h
 exact h rfl
theorem formedr_any (v : Value) (p : List UInt8) (b : UInt8) (B : Nat) (w : World) (hv : BS w B v p) : Calls Tryz.prog 69 #[v, .int .u8 (b.toNat : Int)] w fun e w' => e = .returned (.bool (formedB p b)) ∧ w = w' := by
 by_cases h2 : p.length = 2
 ·match p, hv, h2 with
  | [a, c], hv, _ =>
   obtain ⟨ad, cp, rfl, _, _, ca, hcs⟩ := hv.lits
   have cc := hcs 0 c rfl
   rw [formed_two]
   clear hv hcs
   by_cases e1 : a.toNat = 239
   ·have f1 : ((a.toNat : Int) == 239) = true := beq_iff_eq.2 (by omega)
    by_cases e2 : c.toNat = 191
    ·have f2 : ((c.toNat : Int) == 191) = true := beq_iff_eq.2 (by omega)
     by_cases e3 : b.toNat = 189
     ·have f3 : ((b.toNat : Int) == 189) = true := beq_iff_eq.2 (by omega)
      rw [decide_eq_true e1, decide_eq_true e2, decide_eq_true e3]
      clear e1 e2 e3
      go_enter Tryz.func69, Tryz.ntmps69
      go_wp2
      go_ret
      exact ⟨rfl, rfl⟩
     ·have f3 : ((b.toNat : Int) == 189) = false := bF (by omega)
      rw [decide_eq_true e1, decide_eq_true e2, decide_eq_false e3]
      clear e1 e2 e3
      go_enter Tryz.func69, Tryz.ntmps69
      go_wp2
      go_ret
      exact ⟨rfl, rfl⟩
    ·have f2 : ((c.toNat : Int) == 191) = false := bF (by omega)
     rw [decide_eq_true e1, decide_eq_false e2]
     clear e1 e2
     go_enter Tryz.func69, Tryz.ntmps69
     go_wp2
     go_ret
     exact ⟨rfl, rfl⟩
   ·have f1 : ((a.toNat : Int) == 239) = false := bF (by omega)
    rw [decide_eq_false e1]
    clear e1
    go_enter Tryz.func69, Tryz.ntmps69
    go_wp2
    go_ret
    exact ⟨rfl, rfl⟩
 ·rw [formed_not p b h2]
  obtain ⟨A, c, rfl, _, _, -⟩ := hv.at_
  have f2 : ((p.length : Int) == 2) = false := bF (by omega)
  clear h2 hv
  go_enter Tryz.func69, Tryz.ntmps69
  go_wp2
  go_ret
  exact ⟨rfl, rfl⟩
def VtPost (S : Nat → Prop) (r : Pr × List Ac) (w : World) (e : Ending) (w' : World) : Prop :=
 ∃ qv av, e = .returned (.tuple #[qv, av]) ∧ PV w' (fun x => S x ∨ NewB w' w.heap.size x) qv r.1 ∧ AS w' (NewB w' w.heap.size) (fun x => S x ∨ NewB w' w.heap.size x) av r.2 ∧ Below w.heap.size w w'
theorem prM_pv (w : World) (S : Nat → Prop) (m : Nat) : PV w S (.agg #[.int .i64 (m : Int), .int .u8 0, .slice none 0 0, .slice none 0 0, .slice none 0 0]) (prM m) := ⟨_, _, _, rfl, SL.nil _ _ _, SL.nil _ _ _, SL.nil _ _ _⟩
theorem act_new {w W : World} {S : Nat → Prop} (hb : Below w.heap.size w W) (hS : ∀ x, S x → x < w.heap.size) (a : Ac) (vp vi : Value) (t : TypeId) (g : Nat) (hg : g = W.heap.size) (hp : SL vI w S vp a.params) (hi : SL vB w S vi a.inter) (cs : Array Value) (hcs : cs = #[.int .i64 (a.kind : Int), .int .i32 a.r, .int .u8 (a.b : Int), .int .u8 (a.priv : Int), vp, vi]) :
  AS (W.alloc (.cells cs t)).drew (NewB (W.alloc (.cells cs t)).drew w.heap.size) (fun x => S x ∨ NewB (W.alloc (.cells cs t)).drew w.heap.size x) (.slice (some ⟨g, 0, none⟩) 1 1) [a] := by
 subst hg hcs
 have hk : ∀ q : Addr, S q.block → W.cell? q = w.cell? q := fun q hq => hb.cell (hS _ hq)
 have h := AS.one W S a vp vi t (hp.keep hk) (hi.keep hk) (fun x hx => Nat.lt_of_lt_of_le (hS x hx) hb.size)
 have h2 := h.mono (T' := NewB (W.alloc (.cells #[.int .i64 (a.kind : Int), .int .i32 a.r, .int .u8 (a.b : Int), .int .u8 (a.priv : Int), vp, vi] t)) w.heap.size) (fun x hx => by rw [hx]; exact ⟨hb.size, by simp⟩) (fun x hx => Or.inl (b := NewB (W.alloc (.cells #[.int .i64 (a.kind : Int), .int .i32 a.r, .int .u8 (a.b : Int), .int .u8 (a.priv : Int), vp, vi] t)) w.heap.size x) hx)
 exact h2
theorem csir_fin (vp vi vu : Value) (p : Pr) (b : UInt8) (S : Nat → Prop) (w : World) (hp : SL vI w S vp p.params) (hi : SL vB w S vi p.inter) (hu : SL vB w S vu p.utf) (hS : ∀ x, S x → x < w.heap.size) (h64 : 64 ≤ b.toNat) :
  Calls Tryz.prog 96 #[.agg #[.int .i64 (p.mode : Int), .int .u8 (p.priv : Int), vp, vi, vu], .int .u8 (b.toNat : Int)] w (VtPost S (prM 0, [acS p b.toNat]) w) := by
 have HP := Lh hp
 have HI := Lh hi
 have HSS := Lh hS
 obtain ⟨Ap, cp, rfl, _, _⟩ := hp.form
 obtain ⟨Ai, ci, rfl, _, _⟩ := hi.form
 obtain ⟨Au, cu, rfl, _, _⟩ := hu.form
 have d1 : (64 : Int) ≤ (b.toNat : Int) := by omega
 clear hp hi hu hS
 go_enter Tryz.func96, Tryz.ntmps96
 go_wp2
 go_region
 all_goals
  go_wp2
  have hb3 := ((((Below.refl w.heap.size w).alloc (Nat.le_refl _) (.cells (vPq p Ap Ai Au cp ci cu) 28)).alloc (by simp) (.cells #[Value.int .i64 0, Value.int .u8 0, Value.slice none 0 0, Value.slice none 0 0, Value.slice none 0 0] 28)).alloc (by simp; omega) (.cells #[Value.int .i64 6, Value.int .u8 0, Value.slice none 0 0, Value.slice none 0 0, Value.slice none 0 0] 28))
  exact bodyPost_ret (v := .tuple #[.agg #[.int .i64 0, .int .u8 0, .slice none 0 0, .slice none 0 0, .slice none 0 0], .slice (some ⟨w.heap.size + 1 + 1 + 1, 0, none⟩) 1 1]) (by simp [results, Tryz.results96, go_sem]) rfl ⟨_, _, rfl, prM_pv _ _ 0, act_new hb3 HSS.out (acS p b.toNat) _ _ _ _ (by simp) HP.out HI.out _ rfl, (hb3.alloc (by simp; omega) _).drew⟩
theorem three_new (w : World) (x y z : Obj) : Below w.heap.size w (((w.alloc x).alloc y).alloc z) ∧ (((w.alloc x).alloc y).alloc z).heap.size = w.heap.size + 1 + 1 + 1 :=
 ⟨(((Below.refl w.heap.size w).alloc (Nat.le_refl _) x).alloc (by simp) y).alloc (by simp; omega) z, by simp⟩
theorem ignPost {S : Nat → Prop} {w w' : World} (hb : Below w.heap.size w w') : VtPost S (prM 6, []) w (.returned (.tuple #[.agg #[.int .i64 6, .int .u8 0, .slice none 0 0, .slice none 0 0, .slice none 0 0], .slice none 0 0])) w' :=
 ⟨_, _, rfl, prM_pv _ _ 6, AS.nil _ _ _, hb⟩
theorem sl_old {α : Type} {f : α → Value} {w w' : World} {S : Nat → Prop} {v : Value} {l : List α} (hb : Below w.heap.size w w') (hS : ∀ x, S x → x < w.heap.size) (h : SL f w S v l) : SL f w' (fun x => S x ∨ NewB w' w.heap.size x) v l :=
 (h.keep (fun q hq => hb.cell (hS _ hq))).mono (fun _ hx => .inl hx)
theorem csir_i2 (vp vi vu : Value) (p : Pr) (b : UInt8) (S : Nat → Prop) (w : World) (hp : SL vI w S vp p.params) (hi : SL vB w S vi p.inter) (hu : SL vB w S vu p.utf) (hS : ∀ x, S x → x < w.heap.size) (h64 : ¬ 64 ≤ b.toNat) (hB : interB b = true) (hl : 2 ≤ p.inter.length) :
  Calls Tryz.prog 96 #[.agg #[.int .i64 (p.mode : Int), .int .u8 (p.priv : Int), vp, vi, vu], .int .u8 (b.toNat : Int)] w (VtPost S (prM 6, []) w) := by
 have HP := Lh hp
 have HI := Lh hi
 have HU := Lh hu
 have HSS := Lh hS
 obtain ⟨Ap, cp, rfl, p1, p2⟩ := hp.form
 obtain ⟨Ai, ci, rfl, i1, i2⟩ := hi.form
 obtain ⟨Au, cu, rfl, u1, u2⟩ := hu.form
 clear hp hi hu hS
 have HIB := Lh hB
 clear hB
 have d64 : decide ((64 : Int) ≤ (b.toNat : Int)) = false := by simp; omega
 have d2 : (2 : Int) ≤ (p.inter.length : Int) := by omega
 go_enter Tryz.func96, Tryz.ntmps96
 go_wp2_with (go_at_call 88; refine (interr_any b _).mono ?_; rintro e w' ⟨rfl, rfl⟩; rw [HIB.out])
 exact bodyPost_ret (v := .tuple #[.agg #[.int .i64 6, .int .u8 0, .slice none 0 0, .slice none 0 0, .slice none 0 0], .slice none 0 0]) (by simp [results, Tryz.results96, go_sem]) rfl (ignPost (three_new w _ _ _).1)
theorem csir_i5 (vp vi vu : Value) (p : Pr) (b : UInt8) (S : Nat → Prop) (w : World) (hp : SL vI w S vp p.params) (hi : SL vB w S vi p.inter) (hu : SL vB w S vu p.utf) (hS : ∀ x, S x → x < w.heap.size) (h64 : ¬ 64 ≤ b.toNat) (hB : interB b = false) (hm : p.mode = 5) :
  Calls Tryz.prog 96 #[.agg #[.int .i64 (p.mode : Int), .int .u8 (p.priv : Int), vp, vi, vu], .int .u8 (b.toNat : Int)] w (VtPost S (prM 6, []) w) := by
 have HP := Lh hp
 have HI := Lh hi
 have HU := Lh hu
 have HSS := Lh hS
 obtain ⟨Ap, cp, rfl, p1, p2⟩ := hp.form
 obtain ⟨Ai, ci, rfl, i1, i2⟩ := hi.form
 obtain ⟨Au, cu, rfl, u1, u2⟩ := hu.form
 clear hp hi hu hS
 have HIB := Lh hB
 clear hB
 have d64 : decide ((64 : Int) ≤ (b.toNat : Int)) = false := by simp; omega
 have d2 : ((p.mode : Int) == 5) = true := by rw [hm]; rfl
 clear hm
 go_enter Tryz.func96, Tryz.ntmps96
 go_wp2_with (go_at_call 88; refine (interr_any b _).mono ?_; rintro e w' ⟨rfl, rfl⟩; rw [HIB.out])
 exact bodyPost_ret (v := .tuple #[.agg #[.int .i64 6, .int .u8 0, .slice none 0 0, .slice none 0 0, .slice none 0 0], .slice none 0 0]) (by simp [results, Tryz.results96, go_sem]) rfl (ignPost (three_new w _ _ _).1)
theorem csir_col (vp vi vu : Value) (p : Pr) (b : UInt8) (S : Nat → Prop) (w : World) (hp : SL vI w S vp p.params) (hi : SL vB w S vi p.inter) (hu : SL vB w S vu p.utf) (hS : ∀ x, S x → x < w.heap.size) (h64 : ¬ 64 ≤ b.toNat) (hB : interB b = false) (hm : p.mode ≠ 5) (h58 : b.toNat = 58) :
  Calls Tryz.prog 96 #[.agg #[.int .i64 (p.mode : Int), .int .u8 (p.priv : Int), vp, vi, vu], .int .u8 (b.toNat : Int)] w (VtPost S (prM 6, []) w) := by
 have HP := Lh hp
 have HI := Lh hi
 have HU := Lh hu
 have HSS := Lh hS
 obtain ⟨Ap, cp, rfl, p1, p2⟩ := hp.form
 obtain ⟨Ai, ci, rfl, i1, i2⟩ := hi.form
 obtain ⟨Au, cu, rfl, u1, u2⟩ := hu.form
 clear hp hi hu hS
 have HIB := Lh hB
 clear hB
 have d64 : decide ((64 : Int) ≤ (b.toNat : Int)) = false := by simp; omega
 have d5 : ((p.mode : Int) == 5) = false := bF (by omega)
 clear hm
 have d2 : ((b.toNat : Int) == 58) = true := beq_iff_eq.2 (by omega)
 clear h58
 go_enter Tryz.func96, Tryz.ntmps96
 go_wp2_with (go_at_call 88; refine (interr_any b _).mono ?_; rintro e w' ⟨rfl, rfl⟩; rw [HIB.out])
 exact bodyPost_ret (v := .tuple #[.agg #[.int .i64 6, .int .u8 0, .slice none 0 0, .slice none 0 0, .slice none 0 0], .slice none 0 0]) (by simp [results, Tryz.results96, go_sem]) rfl (ignPost (three_new w _ _ _).1)
theorem csir_pr1 (vp vi vu : Value) (p : Pr) (b : UInt8) (S : Nat → Prop) (w : World) (hp : SL vI w S vp p.params) (hi : SL vB w S vi p.inter) (hu : SL vB w S vu p.utf) (hS : ∀ x, S x → x < w.heap.size) (h64 : ¬ 64 ≤ b.toNat) (hB : interB b = false) (hm : p.mode ≠ 5) (h58 : b.toNat ≠ 58) (h60 : 60 ≤ b.toNat) (hq : 0 < p.params.length) :
  Calls Tryz.prog 96 #[.agg #[.int .i64 (p.mode : Int), .int .u8 (p.priv : Int), vp, vi, vu], .int .u8 (b.toNat : Int)] w (VtPost S (prM 6, []) w) := by
 have HP := Lh hp
 have HI := Lh hi
 have HU := Lh hu
 have HSS := Lh hS
 obtain ⟨Ap, cp, rfl, p1, p2⟩ := hp.form
 obtain ⟨Ai, ci, rfl, i1, i2⟩ := hi.form
 obtain ⟨Au, cu, rfl, u1, u2⟩ := hu.form
 clear hp hi hu hS
 have HIB := Lh hB
 clear hB
 have d64 : decide ((64 : Int) ≤ (b.toNat : Int)) = false := by simp; omega
 have d5 : ((p.mode : Int) == 5) = false := bF (by omega)
 clear hm
 have d58 : ((b.toNat : Int) == 58) = false := bF (by omega)
 clear h58
 have d60 : (60 : Int) ≤ (b.toNat : Int) := by omega
 go_enter Tryz.func96, Tryz.ntmps96
 go_wp2_with (go_at_call 88; refine (interr_any b _).mono ?_; rintro e w' ⟨rfl, rfl⟩; rw [HIB.out])
 exact bodyPost_ret (v := .tuple #[.agg #[.int .i64 6, .int .u8 0, .slice none 0 0, .slice none 0 0, .slice none 0 0], .slice none 0 0]) (by simp [results, Tryz.results96, go_sem]) rfl (ignPost (three_new w _ _ _).1)
theorem csir_pr2 (vp vi vu : Value) (p : Pr) (b : UInt8) (S : Nat → Prop) (w : World) (hp : SL vI w S vp p.params) (hi : SL vB w S vi p.inter) (hu : SL vB w S vu p.utf) (hS : ∀ x, S x → x < w.heap.size) (h64 : ¬ 64 ≤ b.toNat) (hB : interB b = false) (hm : p.mode ≠ 5) (h58 : b.toNat ≠ 58) (h60 : 60 ≤ b.toNat) (hq : p.params.length = 0) (hv : p.priv ≠ 0) :
  Calls Tryz.prog 96 #[.agg #[.int .i64 (p.mode : Int), .int .u8 (p.priv : Int), vp, vi, vu], .int .u8 (b.toNat : Int)] w (VtPost S (prM 6, []) w) := by
 have HP := Lh hp
 have HI := Lh hi
 have HU := Lh hu
 have HSS := Lh hS
 obtain ⟨Ap, cp, rfl, p1, p2⟩ := hp.form
 obtain ⟨Ai, ci, rfl, i1, i2⟩ := hi.form
 obtain ⟨Au, cu, rfl, u1, u2⟩ := hu.form
 clear hp hi hu hS
 have HIB := Lh hB
 clear hB
 have d64 : decide ((64 : Int) ≤ (b.toNat : Int)) = false := by simp; omega
 have d5 : ((p.mode : Int) == 5) = false := bF (by omega)
 clear hm
 have d58 : ((b.toNat : Int) == 58) = false := bF (by omega)
 clear h58
 have d60 : (60 : Int) ≤ (b.toNat : Int) := by omega
 have dq : decide (0 < p.params.length) = false := decide_eq_false (by omega)
 have dv : ((p.priv : Int) != 0) = true := by simp; omega
 clear hq hv
 go_enter Tryz.func96, Tryz.ntmps96
 go_wp2_with (go_at_call 88; refine (interr_any b _).mono ?_; rintro e w' ⟨rfl, rfl⟩; rw [HIB.out])
 exact bodyPost_ret (v := .tuple #[.agg #[.int .i64 6, .int .u8 0, .slice none 0 0, .slice none 0 0, .slice none 0 0], .slice none 0 0]) (by simp [results, Tryz.results96, go_sem]) rfl (ignPost (three_new w _ _ _).1)
theorem csir_pr3 (vp vi vu : Value) (p : Pr) (b : UInt8) (S : Nat → Prop) (w : World) (hp : SL vI w S vp p.params) (hi : SL vB w S vi p.inter) (hu : SL vB w S vu p.utf) (hS : ∀ x, S x → x < w.heap.size) (h64 : ¬ 64 ≤ b.toNat) (hB : interB b = false) (hm : p.mode ≠ 5) (h58 : b.toNat ≠ 58) (h60 : 60 ≤ b.toNat) (hq : p.params.length = 0) (hv : p.priv = 0) :
  Calls Tryz.prog 96 #[.agg #[.int .i64 (p.mode : Int), .int .u8 (p.priv : Int), vp, vi, vu], .int .u8 (b.toNat : Int)] w (VtPost S ({ p with priv := b.toNat }, []) w) := by
 have HP := Lh hp
 have HI := Lh hi
 have HU := Lh hu
 have HSS := Lh hS
 obtain ⟨Ap, cp, rfl, p1, p2⟩ := hp.form
 obtain ⟨Ai, ci, rfl, i1, i2⟩ := hi.form
 obtain ⟨Au, cu, rfl, u1, u2⟩ := hu.form
 clear hp hi hu hS
 have HIB := Lh hB
 clear hB
 have d64 : decide ((64 : Int) ≤ (b.toNat : Int)) = false := by simp; omega
 have d5 : ((p.mode : Int) == 5) = false := bF (by omega)
 clear hm
 have d58 : ((b.toNat : Int) == 58) = false := bF (by omega)
 clear h58
 have d60 : (60 : Int) ≤ (b.toNat : Int) := by omega
 have dq : decide (0 < p.params.length) = false := decide_eq_false (by omega)
 have dv : ((p.priv : Int) != 0) = false := by simp; omega
 clear hq hv
 go_enter Tryz.func96, Tryz.ntmps96
 go_wp2_with (go_at_call 88; refine (interr_any b _).mono ?_; rintro e w' ⟨rfl, rfl⟩; rw [HIB.out])
 exact bodyPost_ret (v := .tuple #[.agg #[.int .i64 (p.mode : Int), .int .u8 (b.toNat : Int), Value.slice Ap p.params.length cp, Value.slice Ai p.inter.length ci, Value.slice Au p.utf.length cu], .slice none 0 0]) (by simp [results, Tryz.results96, go_sem]) rfl ⟨_, _, rfl, ⟨_, _, _, rfl, sl_old (three_new w _ _ _).1 HSS.out HP.out, sl_old (three_new w _ _ _).1 HSS.out HI.out, sl_old (three_new w _ _ _).1 HSS.out HU.out⟩, AS.nil _ _ _, (three_new w _ _ _).1⟩
theorem five_cells {w : World} {g : Nat} {t : TypeId} {x0 x1 x2 x3 x4 : Value} (h : w.heap[g]? = some (.cells #[x0, x1, x2, x3, x4] t)) :
  w.cell? ⟨g, 0, none⟩ = some x0 ∧ w.cell? ⟨g, 1, none⟩ = some x1 ∧ w.cell? ⟨g, 2, none⟩ = some x2 ∧ w.cell? ⟨g, 3, none⟩ = some x3 ∧ w.cell? ⟨g, 4, none⟩ = some x4 ∧ ∀ o, w.frozen? ⟨g, o, none⟩ = false := by
 refine ⟨?_, ?_, ?_, ?_, ?_, fun o => ?_⟩
 ·rw [cell_of_row w g 0 _ t _ h]; rfl
 ·rw [cell_of_row w g 1 _ t _ h]; rfl
 ·rw [cell_of_row w g 2 _ t _ h]; rfl
 ·rw [cell_of_row w g 3 _ t _ h]; rfl
 ·rw [cell_of_row w g 4 _ t _ h]; rfl
 ·simp [World.frozen?, h]
theorem two_kept {w w4 : World} {x y z : Obj} (hb : Below (((w.alloc x).alloc y).alloc z).heap.size (((w.alloc x).alloc y).alloc z) w4) : w4.heap[w.heap.size]? = some x ∧ w4.heap[w.heap.size + 1]? = some y := by
 refine ⟨(hb.block _ (by simp; omega)).trans ?_, (hb.block _ (by simp)).trans ?_⟩
 ·show (((w.heap.push x).push y).push z)[w.heap.size]? = some x
  simp [Array.getElem?_push]
  omega
 ·show (((w.heap.push x).push y).push z)[w.heap.size + 1]? = some y
  rw [Array.getElem?_push, if_neg (by simp), Array.getElem?_push, if_pos (by simp)]
theorem SL.set {α : Type} {f : α → Value} {w : World} {S : Nat → Prop} {v u : Value} {l : List α} {a : Addr} (h : SL f w S v l) (hne : ∀ x, S x → x ≠ a.block) : SL f (w.setCell a u) S v l :=
 h.keep fun q hq => World.cell?_of_block (Below.heap_setCell _ _ _ _ (hne _ hq))
theorem set_keep {α : Type} {f : α → Value} {w w4 : World} {S : Nat → Prop} {v x0 x1 y0 y1 y2 y3 y4 : Value} {l : List α} {i j : Nat} (h : SL f w4 S v l) (hne : ∀ x, S x → x ≠ w.heap.size ∧ x ≠ w.heap.size + 1) :
  SL f (((((((w4.setCell ⟨w.heap.size, i, none⟩ x0).setCell ⟨w.heap.size, j, none⟩ x1).setCell ⟨w.heap.size + 1, 0, none⟩ y0).setCell ⟨w.heap.size + 1, 1, none⟩ y1).setCell ⟨w.heap.size + 1, 2, none⟩ y2).setCell ⟨w.heap.size + 1, 3, none⟩ y3).setCell ⟨w.heap.size + 1, 4, none⟩ y4) S v l :=
 ((((((h.set (fun x hx => (hne x hx).1)).set (fun x hx => (hne x hx).1)).set (fun x hx => (hne x hx).2)).set (fun x hx => (hne x hx).2)).set (fun x hx => (hne x hx).2)).set (fun x hx => (hne x hx).2)).set (fun x hx => (hne x hx).2)
theorem set_below {w w4 : World} {x0 x1 y0 y1 y2 y3 y4 : Value} {i j : Nat} (h : Below w.heap.size w w4) :
  Below w.heap.size w (((((((w4.setCell ⟨w.heap.size, i, none⟩ x0).setCell ⟨w.heap.size, j, none⟩ x1).setCell ⟨w.heap.size + 1, 0, none⟩ y0).setCell ⟨w.heap.size + 1, 1, none⟩ y1).setCell ⟨w.heap.size + 1, 2, none⟩ y2).setCell ⟨w.heap.size + 1, 3, none⟩ y3).setCell ⟨w.heap.size + 1, 4, none⟩ y4) :=
 ((((((h.setCell (Nat.le_refl _) _).setCell (Nat.le_refl _) _).setCell (Nat.le_succ _) _).setCell (Nat.le_succ _) _).setCell (Nat.le_succ _) _).setCell (Nat.le_succ _) _).setCell (Nat.le_succ _) _
theorem csir_int (vp vi vu : Value) (p : Pr) (b : UInt8) (S : Nat → Prop) (w : World) (hp : SL vI w S vp p.params) (hi : SL vB w S vi p.inter) (hu : SL vB w S vu p.utf) (hS : ∀ x, S x → x < w.heap.size) (h64 : ¬ 64 ≤ b.toNat) (hB : interB b = true) (hl : p.inter.length < 2) :
  Calls Tryz.prog 96 #[.agg #[.int .i64 (p.mode : Int), .int .u8 (p.priv : Int), vp, vi, vu], .int .u8 (b.toNat : Int)] w (VtPost S ({ p with mode := 5, inter := p.inter ++ [b] }, []) w) := by
 have HP := Lh hp
 have HI := Lh hi
 have HU := Lh hu
 have HSS := Lh hS
 obtain ⟨Ap, cp, rfl, p1, p2⟩ := hp.form
 obtain ⟨Ai, ci, rfl, i1, i2⟩ := hi.form
 obtain ⟨Au, cu, rfl, u1, u2⟩ := hu.form
 clear hp hi hu hS
 have HIB := Lh hB
 clear hB
 have d64 : decide ((64 : Int) ≤ (b.toNat : Int)) = false := by simp; omega
 have d2 : decide ((2 : Int) ≤ (p.inter.length : Int)) = false := by simp; omega
 go_enter Tryz.func96, Tryz.ntmps96
 go_wp2_with (first
  | (go_at_call 88; refine (interr_any b _).mono ?_; rintro e w' ⟨rfl, rfl⟩; rw [HIB.out])
  | (go_at_call 95; refine (withr_any _ p.inter b _ (((HI.out.bs HSS.out).below (three_new w _ _ _).1).more (three_new w _ _ _).1.size) (by omega)).mono ?_; rintro e w4 ⟨u, rfl, ho, hb4⟩; obtain ⟨k0, k1⟩ := two_kept hb4; obtain ⟨c0, c1, c2, c3, c4, cf⟩ := five_cells k0; obtain ⟨e0, e1, e2, e3, e4, ef⟩ := five_cells k1; have HB4 := Lh hb4; have HO4 := Lh ho; clear hb4 k0 k1; obtain ⟨Av, cv, rfl, _, _, -⟩ := ho.bs.at_; clear ho))
 have h3 := three_new w (.cells (vPq p Ap Ai Au cp ci cu) 28) (.cells #[Value.int .i64 0, Value.int .u8 0, Value.slice none 0 0, Value.slice none 0 0, Value.slice none 0 0] 28) (.cells #[Value.int .i64 6, Value.int .u8 0, Value.slice none 0 0, Value.slice none 0 0, Value.slice none 0 0] 28)
 have hb4 := h3.1.trans (HB4.out.mono h3.1.size)
 have ho := HO4.out.sl
 rw [h3.2, List.length_append] at ho
 have hbF := set_below (i := 0) (j := 3) (x0 := .int .i64 5) (x1 := .slice Av (p.inter.length + 1) cv) (y0 := .int .i64 5) (y1 := .int .u8 (p.priv : Int)) (y2 := .slice Ap p.params.length cp) (y3 := .slice Av (p.inter.length + 1) cv) (y4 := .slice Au p.utf.length cu) hb4
 have hoF := set_keep (w := w) (i := 0) (j := 3) (x0 := .int .i64 5) (x1 := .slice Av (p.inter.length + 1) cv) (y0 := .int .i64 5) (y1 := .int .u8 (p.priv : Int)) (y2 := .slice Ap p.params.length cp) (y3 := .slice Av (p.inter.length + 1) cv) (y4 := .slice Au p.utf.length cu) ho (fun x hx => by have := hx.1; omega)
 refine bodyPost_ret (v := .tuple #[.agg #[.int .i64 5, .int .u8 (p.priv : Int), Value.slice Ap p.params.length cp, Value.slice Av (p.inter.length + 1) cv, Value.slice Au p.utf.length cu], .slice none 0 0]) (by simp [results, Tryz.results96, go_sem, e0, e1, e2, e3, e4]) rfl ⟨_, _, rfl, ⟨_, _, _, rfl, sl_old hbF HSS.out HP.out, hoF.mono (fun x hx => .inr ⟨by have := hx.1; omega, by simpa using hx.2⟩), sl_old hbF HSS.out HU.out⟩, AS.nil _ _ _, hbF⟩
section
variable {w : World} {base g cap : Nat} {l : List Int}
theorem OI.cellAt (h : OI w base (.slice (some ⟨g, 0, none⟩) l.length cap) l) (j : Nat) (hj : j < l.length) : w.cell? ⟨g, j, none⟩ = some (vI l[j]) := by
 unfold OI at h
 rw [World.ownsRow.cellAt h j (by omega)]
 simp [vIs, hj]
theorem OI.frozenAt (h : OI w base (.slice (some ⟨g, 0, none⟩) l.length cap) l) (j : Nat) : w.frozen? ⟨g, j, none⟩ = false := World.ownsRow.frozenAt h j
theorem OI.stored (h : OI w base (.slice (some ⟨g, 0, none⟩) l.length cap) l) (j : Nat) (x : Int) : OI (w.setCell ⟨g, j, none⟩ (vI x)) base (.slice (some ⟨g, 0, none⟩) l.length cap) (l.set j x) := by
 have := (World.ownsRow.stored h j (vI x)).1
 unfold OI
 rw [List.length_set]
 have e : vIs (l.set j x) = (vIs l).set j (vI x) := by simp [vIs, List.map_set]
 rw [e]
 exact this
theorem OI.formed {v : Value} (h : OI w base v l) (hl : 0 < l.length) : ∃ g cap, v = .slice (some ⟨g, 0, none⟩) l.length cap ∧ l.length ≤ cap ∧ cap ≤ 9223372036854775807 ∧ base ≤ g := by
 unfold OI at h
 rcases h.2 with ⟨hv, h0⟩ | ⟨g', cap', cur, hv, hb, hg, hnc, hcm, hcs, htake⟩
 ·omega
 ·unfold maxLen at hcm
  exact ⟨g', cap', hv, hnc, by omega, hb⟩
end
theorem set_keep1 {α : Type} {f : α → Value} {w w4 : World} {S : Nat → Prop} {v x0 y0 y1 y2 y3 y4 : Value} {l : List α} {i : Nat} (h : SL f w4 S v l) (hne : ∀ x, S x → x ≠ w.heap.size ∧ x ≠ w.heap.size + 1) :
  SL f ((((((w4.setCell ⟨w.heap.size, i, none⟩ x0).setCell ⟨w.heap.size + 1, 0, none⟩ y0).setCell ⟨w.heap.size + 1, 1, none⟩ y1).setCell ⟨w.heap.size + 1, 2, none⟩ y2).setCell ⟨w.heap.size + 1, 3, none⟩ y3).setCell ⟨w.heap.size + 1, 4, none⟩ y4) S v l :=
 (((((h.set (fun x hx => (hne x hx).1)).set (fun x hx => (hne x hx).2)).set (fun x hx => (hne x hx).2)).set (fun x hx => (hne x hx).2)).set (fun x hx => (hne x hx).2)).set (fun x hx => (hne x hx).2)
theorem set_below1 {w w4 : World} {x0 y0 y1 y2 y3 y4 : Value} {i : Nat} (h : Below w.heap.size w w4) :
  Below w.heap.size w ((((((w4.setCell ⟨w.heap.size, i, none⟩ x0).setCell ⟨w.heap.size + 1, 0, none⟩ y0).setCell ⟨w.heap.size + 1, 1, none⟩ y1).setCell ⟨w.heap.size + 1, 2, none⟩ y2).setCell ⟨w.heap.size + 1, 3, none⟩ y3).setCell ⟨w.heap.size + 1, 4, none⟩ y4) :=
 (((((h.setCell (Nat.le_refl _) _).setCell (Nat.le_succ _) _).setCell (Nat.le_succ _) _).setCell (Nat.le_succ _) _).setCell (Nat.le_succ _) _).setCell (Nat.le_succ _) _
theorem params_post {w w5 : World} {S : Nat → Prop} {p : Pr} {Ai Au : Option Addr} {ci cu : Nat} {v x0 : Value} {ps : List Int} (hS : ∀ x, S x → x < w.heap.size) (hi : SL vB w S (.slice Ai p.inter.length ci) p.inter) (hu : SL vB w S (.slice Au p.utf.length cu) p.utf) (hb5 : Below w.heap.size w w5) (ho : OI w5 (w.heap.size + 1 + 1 + 1) v ps) :
  VtPost S ({ p with params := ps }, []) w (.returned (.tuple #[.agg #[.int .i64 (p.mode : Int), .int .u8 (p.priv : Int), v, .slice Ai p.inter.length ci, .slice Au p.utf.length cu], .slice none 0 0]))
   ((((((w5.setCell ⟨w.heap.size, 2, none⟩ x0).setCell ⟨w.heap.size + 1, 0, none⟩ (.int .i64 (p.mode : Int))).setCell ⟨w.heap.size + 1, 1, none⟩ (.int .u8 (p.priv : Int))).setCell ⟨w.heap.size + 1, 2, none⟩ v).setCell ⟨w.heap.size + 1, 3, none⟩ (.slice Ai p.inter.length ci)).setCell ⟨w.heap.size + 1, 4, none⟩ (.slice Au p.utf.length cu)) := by
 have hbF := set_below1 (i := 2) (x0 := x0) (y0 := .int .i64 (p.mode : Int)) (y1 := .int .u8 (p.priv : Int)) (y2 := v) (y3 := .slice Ai p.inter.length ci) (y4 := .slice Au p.utf.length cu) hb5
 have hoF := set_keep1 (w := w) (i := 2) (x0 := x0) (y0 := .int .i64 (p.mode : Int)) (y1 := .int .u8 (p.priv : Int)) (y2 := v) (y3 := .slice Ai p.inter.length ci) (y4 := .slice Au p.utf.length cu) ho.sl (fun x hx => by have := hx.1; omega)
 exact ⟨_, _, rfl, ⟨_, _, _, rfl, hoF.mono (fun x hx => .inr ⟨by have := hx.1; omega, by simpa using hx.2⟩), sl_old hbF hS hi, sl_old hbF hS hu⟩, AS.nil _ _ _, hbF⟩
theorem two_kept3 {w w4 : World} {x y z : Obj} (hb : Below (w.heap.size + 1 + 1 + 1) (((w.alloc x).alloc y).alloc z) w4) : w4.heap[w.heap.size]? = some x ∧ w4.heap[w.heap.size + 1]? = some y := two_kept (by rw [(three_new w x y z).2]; exact hb)
theorem three_kept3 {w w4 : World} {x y z : Obj} (hb : Below (w.heap.size + 1 + 1 + 1) (((w.alloc x).alloc y).alloc z) w4) : w4.heap[w.heap.size]? = some x ∧ w4.heap[w.heap.size + 1]? = some y ∧ w4.heap[w.heap.size + 1 + 1]? = some z := by
 refine ⟨(two_kept3 hb).1, (two_kept3 hb).2, (hb.block _ (by omega)).trans ?_⟩
 show (((w.heap.push x).push y).push z)[w.heap.size + 1 + 1]? = some z
 rw [Array.getElem?_push, if_pos (by simp)]
theorem oneP_some (l : List Int) (h : 0 < l.length) : oneP l = l := by unfold oneP; rw [if_neg (by omega)]
theorem oneP_none (l : List Int) (h : l.length = 0) : oneP l = [0] := by unfold oneP; rw [if_pos h]
theorem csir_dig (vp vi vu : Value) (p : Pr) (b : UInt8) (S : Nat → Prop) (w : World) (hp : SL vI w S vp p.params) (hi : SL vB w S vi p.inter) (hu : SL vB w S vu p.utf) (hS : ∀ x, S x → x < w.heap.size) (h64 : ¬ 60 ≤ b.toNat) (hB : interB b = false) (hm : p.mode ≠ 5) (h58 : b.toNat ≠ 58) (h59 : b.toNat ≠ 59) (h48 : 48 ≤ b.toNat) (hq : 0 < p.params.length) (hq2 : p.params.length ≤ 16) (hpr : ∀ x ∈ p.params, 0 ≤ x ∧ x ≤ 65535) :
  Calls Tryz.prog 96 #[.agg #[.int .i64 (p.mode : Int), .int .u8 (p.priv : Int), vp, vi, vu], .int .u8 (b.toNat : Int)] w (VtPost S ({ p with params := digP (oneP p.params) b.toNat }, []) w) := by
 rw [oneP_some _ hq]
 have HP := Lh hp
 have HI := Lh hi
 have HU := Lh hu
 have HSS := Lh hS
 obtain ⟨Ap, cp, rfl, p1, p2⟩ := hp.form
 obtain ⟨Ai, ci, rfl, i1, i2⟩ := hi.form
 obtain ⟨Au, cu, rfl, u1, u2⟩ := hu.form
 clear hp hi hu hS
 have HIB := Lh hB
 clear hB
 have d64 : decide ((64 : Int) ≤ (b.toNat : Int)) = false := by simp; omega
 have d60 : decide ((60 : Int) ≤ (b.toNat : Int)) = false := by simp; omega
 have d5 : ((p.mode : Int) == 5) = false := bF (by omega)
 have d58 : ((b.toNat : Int) == 58) = false := bF (by omega)
 have d59 : ((b.toNat : Int) == 59) = false := bF (by omega)
 have dq : ((p.params.length : Int) == 0) = false := bF (by omega)
 have hb0 : (48 : Int) ≤ (b.toNat : Int) := by omega
 have hb1 : (b.toNat : Int) ≤ 57 := by omega
 have hlast : p.params.length - 1 < p.params.length := by omega
 obtain ⟨x0, x1⟩ := hpr (p.params[p.params.length - 1]) (List.getElem_mem hlast)
 obtain ⟨x, hx⟩ : ∃ x, p.params[p.params.length - 1] = x := ⟨_, rfl⟩
 rw [hx] at x0 x1
 have HX := Lh hx
 obtain ⟨M, hM⟩ : ∃ M, (if 65535 < 10 * x + ((b.toNat : Int) - 48) then 65535 else 10 * x + ((b.toNat : Int) - 48)) = M := ⟨_, rfl⟩
 have HM : Hid (p.params.set (p.params.length - 1) M = digP p.params b.toNat) := by
  unfold digP
  have e : p.params.getD (p.params.length - 1) 0 = x := by rw [← hx]; simp [List.getD, List.getElem?_eq_getElem hlast]
  rw [e, ← hM]
  show p.params.set (p.params.length - 1) _ = p.params.set (p.params.length - 1) _
  congr 1
  split <;> omega
 clear hx hpr hm h58 h59
 go_enter Tryz.func96, Tryz.ntmps96
 go_wp2_with (first
  | (go_at_call 88; refine (interr_any b _).mono ?_; rintro e w' ⟨rfl, rfl⟩; rw [HIB.out])
  | (at_builtin; refine wpl_appI _ rfl (.const (.slice none 0 0)) (.tmp 64) rfl (w.heap.size + 1 + 1 + 1) w.heap.size (.slice none 0 0) (.slice Ap p.params.length cp) [] p.params rfl rfl (OI.nil _ _) ((HP.out.is HSS.out).below (three_new w _ _ _).1) (by simp; omega) (Nat.le_of_eq (three_new w _ _ _).2.symm) ?_; intro v4 w4 ho hg4 hb4 _; clear hg4; rw [List.nil_append] at ho; obtain ⟨k0, k1⟩ := two_kept3 hb4; obtain ⟨c0, c1, c2, c3, c4, cf⟩ := five_cells k0; obtain ⟨e0, e1, e2, e3, e4, ef⟩ := five_cells k1; obtain ⟨g, q, rfl, q1, q2, hgg⟩ := ho.formed hq; have cl := ho.cellAt (p.params.length - 1) hlast; rw [HX.out] at cl; unfold vI at cl; have fl := ho.frozenAt (p.params.length - 1); have HB4 := Lh hb4; have HO4 := Lh ho; have HGG := Lh hgg; have n1 : ¬ g = w.heap.size := (by omega); have n2 : ¬ g = w.heap.size + 1 := (by omega); have n3 : ¬ w.heap.size = g := (by omega); have n4 : ¬ w.heap.size + 1 = g := (by omega); clear hb4 k0 k1 ho hgg))
 have h3 := three_new w (.cells (vPq p Ap Ai Au cp ci cu) 28) (.cells #[Value.int .i64 0, Value.int .u8 0, Value.slice none 0 0, Value.slice none 0 0, Value.slice none 0 0] 28) (.cells #[Value.int .i64 6, Value.int .u8 0, Value.slice none 0 0, Value.slice none 0 0, Value.slice none 0 0] 28)
 have hb5 := h3.1.trans ((HB4.out.setCell (p := ⟨g, p.params.length - 1, none⟩) HGG.out (.int .i64 M)).mono (by omega))
 have ho := HO4.out.stored (p.params.length - 1) M
 rw [HM.out] at ho
 exact bodyPost_ret (v := .tuple #[.agg #[.int .i64 (p.mode : Int), .int .u8 (p.priv : Int), Value.slice (some ⟨g, 0, none⟩) p.params.length q, Value.slice Ai p.inter.length ci, Value.slice Au p.utf.length cu], .slice none 0 0]) (by simp [results, Tryz.results96, go_sem, e0, e1, e2, e3, e4]) rfl (params_post HSS.out HI.out HU.out hb5 ho)
theorem csir_more (vp vi vu : Value) (p : Pr) (b : UInt8) (S : Nat → Prop) (w : World) (hp : SL vI w S vp p.params) (hi : SL vB w S vi p.inter) (hu : SL vB w S vu p.utf) (hS : ∀ x, S x → x < w.heap.size) (h64 : ¬ 60 ≤ b.toNat) (hB : interB b = false) (hm : p.mode ≠ 5) (h58 : b.toNat ≠ 58) (h59 : b.toNat = 59) (hq : 0 < p.params.length) (hq2 : p.params.length < 16) :
  Calls Tryz.prog 96 #[.agg #[.int .i64 (p.mode : Int), .int .u8 (p.priv : Int), vp, vi, vu], .int .u8 (b.toNat : Int)] w (VtPost S ({ p with params := oneP p.params ++ [0] }, []) w) := by
 have HP := Lh hp
 have HI := Lh hi
 have HU := Lh hu
 have HSS := Lh hS
 obtain ⟨Ap, cp, rfl, p1, p2⟩ := hp.form
 obtain ⟨Ai, ci, rfl, i1, i2⟩ := hi.form
 obtain ⟨Au, cu, rfl, u1, u2⟩ := hu.form
 clear hp hi hu hS
 have HIB := Lh hB
 clear hB
 have d64 : decide ((64 : Int) ≤ (b.toNat : Int)) = false := by simp; omega
 have d60 : decide ((60 : Int) ≤ (b.toNat : Int)) = false := by simp; omega
 have d5 : ((p.mode : Int) == 5) = false := bF (by omega)
 have d58 : ((b.toNat : Int) == 58) = false := bF (by omega)
 rw [oneP_some _ hq]
 have d59 : ((b.toNat : Int) == 59) = true := beq_iff_eq.2 (by omega)
 have dq : ((p.params.length : Int) == 0) = false := bF (by omega)
 have d16 : decide ((16 : Int) ≤ (p.params.length : Int)) = false := by simp; omega
 clear hm h58 h59
 go_enter Tryz.func96, Tryz.ntmps96
 go_wp2_with (first
  | (go_at_call 88; refine (interr_any b _).mono ?_; rintro e w' ⟨rfl, rfl⟩; rw [HIB.out])
  | (at_builtin; refine wpl_appI _ rfl (.const (.slice none 0 0)) (.tmp 64) rfl (w.heap.size + 1 + 1 + 1) w.heap.size (.slice none 0 0) (.slice Ap p.params.length cp) [] p.params rfl rfl (OI.nil _ _) ((HP.out.is HSS.out).below (three_new w _ _ _).1) (by simp; omega) (Nat.le_of_eq (three_new w _ _ _).2.symm) ?_; intro v4 w4 ho4 hg4 hb4 _; clear hg4; rw [List.nil_append] at ho4; have z4 := hb4.size; rw [(three_new w _ _ _).2] at z4; obtain ⟨A4, q4, rfl, _, _, -⟩ := ho4.bs.at_)
  | (at_builtin; refine wpl_appI _ rfl (.tmp 78) (.tmp 79) rfl (w.heap.size + 1 + 1 + 1) _ _ _ p.params [0] rfl rfl (ho4.alloc _) (IS.one _ 0 _) (by simp; omega) (by simp; omega) ?_; intro v6 w6 ho6 hg6 hb6' _; clear hg6; have hb6 := (hb4.alloc z4 _).trans hb6'; obtain ⟨A6, q6, rfl, _, _, -⟩ := ho6.bs.at_; obtain ⟨k0, k1⟩ := two_kept3 hb6; obtain ⟨c0, c1, c2, c3, c4, cf⟩ := five_cells k0; obtain ⟨e0, e1, e2, e3, e4, ef⟩ := five_cells k1; have HB6 := Lh hb6; have HO6 := Lh ho6; clear hb6 k0 k1 ho6))
 have h3 := three_new w (.cells (vPq p Ap Ai Au cp ci cu) 28) (.cells #[Value.int .i64 0, Value.int .u8 0, Value.slice none 0 0, Value.slice none 0 0, Value.slice none 0 0] 28) (.cells #[Value.int .i64 6, Value.int .u8 0, Value.slice none 0 0, Value.slice none 0 0, Value.slice none 0 0] 28)
 have hb7 := h3.1.trans (HB6.out.mono (by omega))
 have ho := HO6.out
 rw [List.length_append] at ho
 exact bodyPost_ret (v := .tuple #[.agg #[.int .i64 (p.mode : Int), .int .u8 (p.priv : Int), Value.slice A6 (p.params.length + 1) q6, Value.slice Ai p.inter.length ci, Value.slice Au p.utf.length cu], .slice none 0 0]) (by simp [results, Tryz.results96, go_sem, e0, e1, e2, e3, e4]) rfl (params_post HSS.out HI.out HU.out hb7 ho)
theorem csir_full (vp vi vu : Value) (p : Pr) (b : UInt8) (S : Nat → Prop) (w : World) (hp : SL vI w S vp p.params) (hi : SL vB w S vi p.inter) (hu : SL vB w S vu p.utf) (hS : ∀ x, S x → x < w.heap.size) (h64 : ¬ 60 ≤ b.toNat) (hB : interB b = false) (hm : p.mode ≠ 5) (h58 : b.toNat ≠ 58) (h59 : b.toNat = 59) (hq : 0 < p.params.length) (hq2 : 16 ≤ p.params.length) (hq3 : p.params.length ≤ 1048576) :
  Calls Tryz.prog 96 #[.agg #[.int .i64 (p.mode : Int), .int .u8 (p.priv : Int), vp, vi, vu], .int .u8 (b.toNat : Int)] w (VtPost S (prM 6, []) w) := by
 have HP := Lh hp
 have HI := Lh hi
 have HU := Lh hu
 have HSS := Lh hS
 obtain ⟨Ap, cp, rfl, p1, p2⟩ := hp.form
 obtain ⟨Ai, ci, rfl, i1, i2⟩ := hi.form
 obtain ⟨Au, cu, rfl, u1, u2⟩ := hu.form
 clear hp hi hu hS
 have HIB := Lh hB
 clear hB
 have d64 : decide ((64 : Int) ≤ (b.toNat : Int)) = false := by simp; omega
 have d60 : decide ((60 : Int) ≤ (b.toNat : Int)) = false := by simp; omega
 have d5 : ((p.mode : Int) == 5) = false := bF (by omega)
 have d58 : ((b.toNat : Int) == 58) = false := bF (by omega)
 have d59 : ((b.toNat : Int) == 59) = true := beq_iff_eq.2 (by omega)
 have dq : ((p.params.length : Int) == 0) = false := bF (by omega)
 have d16 : (16 : Int) ≤ (p.params.length : Int) := by omega
 clear hm h58 h59
 go_enter Tryz.func96, Tryz.ntmps96
 go_wp2_with (first
  | (go_at_call 88; refine (interr_any b _).mono ?_; rintro e w' ⟨rfl, rfl⟩; rw [HIB.out])
  | (at_builtin; refine wpl_appI _ rfl (.const (.slice none 0 0)) (.tmp 64) rfl (w.heap.size + 1 + 1 + 1) w.heap.size (.slice none 0 0) (.slice Ap p.params.length cp) [] p.params rfl rfl (OI.nil _ _) ((HP.out.is HSS.out).below (three_new w _ _ _).1) (by simp; omega) (Nat.le_of_eq (three_new w _ _ _).2.symm) ?_; intro v4 w4 ho4 hg4 hb4 _; clear hg4; rw [List.nil_append] at ho4; have z4 := hb4.size; rw [(three_new w _ _ _).2] at z4; obtain ⟨A4, q4, rfl, _, _, -⟩ := ho4.bs.at_; obtain ⟨k0, k1, k2⟩ := three_kept3 hb4; obtain ⟨e0, e1, e2, e3, e4, ef⟩ := five_cells k1; obtain ⟨f0, f1, f2, f3, f4, ff⟩ := five_cells k2; have HB4 := Lh hb4; clear hb4 k0 k1 k2 ho4))
 have h3 := three_new w (.cells (vPq p Ap Ai Au cp ci cu) 28) (.cells #[Value.int .i64 0, Value.int .u8 0, Value.slice none 0 0, Value.slice none 0 0, Value.slice none 0 0] 28) (.cells #[Value.int .i64 6, Value.int .u8 0, Value.slice none 0 0, Value.slice none 0 0, Value.slice none 0 0] 28)
 have hb5 := h3.1.trans (HB4.out.mono (by omega))
 exact bodyPost_ret (v := .tuple #[.agg #[.int .i64 6, .int .u8 0, .slice none 0 0, .slice none 0 0, .slice none 0 0], .slice none 0 0]) (by simp [results, Tryz.results96, go_sem, e0, e1, e2, e3, e4]) rfl (ignPost (((((hb5.setCell (Nat.le_succ _) _).setCell (Nat.le_succ _) _).setCell (Nat.le_succ _) _).setCell (Nat.le_succ _) _).setCell (Nat.le_succ _) _))
theorem csir_more0 (vp vi vu : Value) (p : Pr) (b : UInt8) (S : Nat → Prop) (w : World) (hp : SL vI w S vp p.params) (hi : SL vB w S vi p.inter) (hu : SL vB w S vu p.utf) (hS : ∀ x, S x → x < w.heap.size) (h64 : ¬ 60 ≤ b.toNat) (hB : interB b = false) (hm : p.mode ≠ 5) (h58 : b.toNat ≠ 58) (h59 : b.toNat = 59) (hq : p.params.length = 0) :
  Calls Tryz.prog 96 #[.agg #[.int .i64 (p.mode : Int), .int .u8 (p.priv : Int), vp, vi, vu], .int .u8 (b.toNat : Int)] w (VtPost S ({ p with params := oneP p.params ++ [0] }, []) w) := by
 have HP := Lh hp
 have HI := Lh hi
 have HU := Lh hu
 have HSS := Lh hS
 obtain ⟨Ap, cp, rfl, p1, p2⟩ := hp.form
 obtain ⟨Ai, ci, rfl, i1, i2⟩ := hi.form
 obtain ⟨Au, cu, rfl, u1, u2⟩ := hu.form
 clear hp hi hu hS
 have HIB := Lh hB
 clear hB
 have d64 : decide ((64 : Int) ≤ (b.toNat : Int)) = false := by simp; omega
 have d60 : decide ((60 : Int) ≤ (b.toNat : Int)) = false := by simp; omega
 have d5 : ((p.mode : Int) == 5) = false := bF (by omega)
 have d58 : ((b.toNat : Int) == 58) = false := bF (by omega)
 rw [oneP_none _ hq]
 have HE : Hid (p.params ++ [0] = [0]) := by
  rw [List.eq_nil_of_length_eq_zero hq]
  rfl
 have d59 : ((b.toNat : Int) == 59) = true := beq_iff_eq.2 (by omega)
 have dq : ((p.params.length : Int) == 0) = true := beq_iff_eq.2 (by omega)
 clear hm h58 h59
 have hq0 : p.params.length ≤ 0 := by omega
 clear hq
 go_enter Tryz.func96, Tryz.ntmps96
 go_wp2_with (first
  | (go_at_call 88; refine (interr_any b _).mono ?_; rintro e w' ⟨rfl, rfl⟩; rw [HIB.out])
  | (at_builtin; refine wpl_appI _ rfl (.const (.slice none 0 0)) (.tmp 64) rfl (w.heap.size + 1 + 1 + 1) w.heap.size (.slice none 0 0) (.slice Ap p.params.length cp) [] p.params rfl rfl (OI.nil _ _) ((HP.out.is HSS.out).below (three_new w _ _ _).1) (by simp; omega) (Nat.le_of_eq (three_new w _ _ _).2.symm) ?_; intro v4 w4 ho4 hg4 hb4 _; clear hg4; rw [List.nil_append] at ho4; have z4 := hb4.size; rw [(three_new w _ _ _).2] at z4; obtain ⟨A4, q4, rfl, _, _, -⟩ := ho4.bs.at_)
  | (at_builtin; refine wpl_appI _ rfl (.tmp 69) (.tmp 70) rfl (w.heap.size + 1 + 1 + 1) _ _ _ p.params [0] rfl rfl (ho4.alloc _) (IS.one _ 0 _) (by simp; omega) (by simp; omega) ?_; intro v5 w5 ho5 hg5 hb5' _; clear hg5; rw [HE.out] at ho5; have hb5 := (hb4.alloc z4 _).trans hb5'; have z5 := hb5.size; rw [(three_new w _ _ _).2] at z5; obtain ⟨A5, q5, rfl, _, _, -⟩ := ho5.bs.at_)
  | (at_builtin; refine wpl_appI _ rfl (.tmp 78) (.tmp 79) rfl (w.heap.size + 1 + 1 + 1) _ _ _ [0] [0] rfl rfl (ho5.alloc _) (IS.one _ 0 _) (by simp) (by simp; omega) ?_; intro v6 w6 ho6 hg6 hb6' _; clear hg6; have hb6 := (hb5.alloc z5 _).trans hb6'; obtain ⟨A6, q6, rfl, _, _, -⟩ := ho6.bs.at_; obtain ⟨k0, k1⟩ := two_kept3 hb6; obtain ⟨c0, c1, c2, c3, c4, cf⟩ := five_cells k0; obtain ⟨e0, e1, e2, e3, e4, ef⟩ := five_cells k1; have HB6 := Lh hb6; have HO6 := Lh ho6; clear hb6 k0 k1 ho6))
 have h3 := three_new w (.cells (vPq p Ap Ai Au cp ci cu) 28) (.cells #[Value.int .i64 0, Value.int .u8 0, Value.slice none 0 0, Value.slice none 0 0, Value.slice none 0 0] 28) (.cells #[Value.int .i64 6, Value.int .u8 0, Value.slice none 0 0, Value.slice none 0 0, Value.slice none 0 0] 28)
 have hb7 := h3.1.trans (HB6.out.mono (by omega))
 have ho := HO6.out
 have ho : OI w6 (w.heap.size + 1 + 1 + 1) (.slice A6 2 q6) ([0] ++ [0]) := ho
 exact bodyPost_ret (v := .tuple #[.agg #[.int .i64 (p.mode : Int), .int .u8 (p.priv : Int), Value.slice A6 2 q6, Value.slice Ai p.inter.length ci, Value.slice Au p.utf.length cu], .slice none 0 0]) (by simp [results, Tryz.results96, go_sem, e0, e1, e2, e3, e4]) rfl (params_post HSS.out HI.out HU.out hb7 ho)
theorem csir_dig0 (vp vi vu : Value) (p : Pr) (b : UInt8) (S : Nat → Prop) (w : World) (hp : SL vI w S vp p.params) (hi : SL vB w S vi p.inter) (hu : SL vB w S vu p.utf) (hS : ∀ x, S x → x < w.heap.size) (h64 : ¬ 60 ≤ b.toNat) (hB : interB b = false) (hm : p.mode ≠ 5) (h58 : b.toNat ≠ 58) (h59 : b.toNat ≠ 59) (h48 : 48 ≤ b.toNat) (hq : p.params.length = 0) :
  Calls Tryz.prog 96 #[.agg #[.int .i64 (p.mode : Int), .int .u8 (p.priv : Int), vp, vi, vu], .int .u8 (b.toNat : Int)] w (VtPost S ({ p with params := digP (oneP p.params) b.toNat }, []) w) := by
 rw [oneP_none _ hq]
 have HE : Hid (p.params ++ [0] = [0]) := by
  rw [List.eq_nil_of_length_eq_zero hq]
  rfl
 have HP := Lh hp
 have HI := Lh hi
 have HU := Lh hu
 have HSS := Lh hS
 obtain ⟨Ap, cp, rfl, p1, p2⟩ := hp.form
 obtain ⟨Ai, ci, rfl, i1, i2⟩ := hi.form
 obtain ⟨Au, cu, rfl, u1, u2⟩ := hu.form
 clear hp hi hu hS
 have HIB := Lh hB
 clear hB
 have d64 : decide ((64 : Int) ≤ (b.toNat : Int)) = false := by simp; omega
 have d60 : decide ((60 : Int) ≤ (b.toNat : Int)) = false := by simp; omega
 have d5 : ((p.mode : Int) == 5) = false := bF (by omega)
 have d58 : ((b.toNat : Int) == 58) = false := bF (by omega)
 have d59 : ((b.toNat : Int) == 59) = false := bF (by omega)
 have dq : ((p.params.length : Int) == 0) = true := beq_iff_eq.2 (by omega)
 have hq0 : p.params.length ≤ 0 := by omega
 have hb0 : (48 : Int) ≤ (b.toNat : Int) := by omega
 have hb1 : (b.toNat : Int) ≤ 57 := by omega
 have HM : Hid ([((b.toNat : Int) - 48)] = digP [0] b.toNat) := by
  unfold digP
  show [((b.toNat : Int) - 48)] = [min (10 * 0 + ((b.toNat : Int) - 48)) 65535]
  congr 1
  omega
 clear hq hm h58 h59
 go_enter Tryz.func96, Tryz.ntmps96
 go_wp2_with (first
  | (go_at_call 88; refine (interr_any b _).mono ?_; rintro e w' ⟨rfl, rfl⟩; rw [HIB.out])
  | (at_builtin; refine wpl_appI _ rfl (.const (.slice none 0 0)) (.tmp 64) rfl (w.heap.size + 1 + 1 + 1) w.heap.size (.slice none 0 0) (.slice Ap p.params.length cp) [] p.params rfl rfl (OI.nil _ _) ((HP.out.is HSS.out).below (three_new w _ _ _).1) (by simp; omega) (Nat.le_of_eq (three_new w _ _ _).2.symm) ?_; intro v4 w4 ho4 hg4 hb4 _; clear hg4; rw [List.nil_append] at ho4; have z4 := hb4.size; rw [(three_new w _ _ _).2] at z4; obtain ⟨A4, q4, rfl, _, _, -⟩ := ho4.bs.at_)
  | (at_builtin; refine wpl_appI _ rfl (.tmp 69) (.tmp 70) rfl (w.heap.size + 1 + 1 + 1) _ _ _ p.params [0] rfl rfl (ho4.alloc _) (IS.one _ 0 _) (by simp; omega) (by simp; omega) ?_; intro v5 w5 ho5 hg5 hb5' _; clear hg5; rw [HE.out] at ho5; have hb5 := (hb4.alloc z4 _).trans hb5'; have z5 := hb5.size; rw [(three_new w _ _ _).2] at z5; obtain ⟨k0, k1⟩ := two_kept3 hb5; obtain ⟨c0, c1, c2, c3, c4, cf⟩ := five_cells k0; obtain ⟨e0, e1, e2, e3, e4, ef⟩ := five_cells k1; obtain ⟨g, q, rfl, q1, q2, hgg⟩ := ho5.formed (by simp); have ho5 : OI w5 (w.heap.size + 1 + 1 + 1) (.slice (some ⟨g, 0, none⟩) 1 q) [0] := ho5; have cl : w5.cell? ⟨g, 0, none⟩ = some (.int .i64 0) := OI.cellAt (l := [0]) ho5 0 (by simp); have fl := OI.frozenAt (l := [0]) ho5 0; have HB5 := Lh hb5; have HO5 := Lh ho5; have HGG := Lh hgg; have n1 : ¬ g = w.heap.size := (by omega); have n2 : ¬ g = w.heap.size + 1 := (by omega); have n3 : ¬ w.heap.size = g := (by omega); have n4 : ¬ w.heap.size + 1 = g := (by omega); clear hb5 k0 k1 ho5 hgg))
 have h3 := three_new w (.cells (vPq p Ap Ai Au cp ci cu) 28) (.cells #[Value.int .i64 0, Value.int .u8 0, Value.slice none 0 0, Value.slice none 0 0, Value.slice none 0 0] 28) (.cells #[Value.int .i64 6, Value.int .u8 0, Value.slice none 0 0, Value.slice none 0 0, Value.slice none 0 0] 28)
 have hb5 := h3.1.trans ((HB5.out.setCell (p := ⟨g, 0, none⟩) HGG.out (.int .i64 ((b.toNat : Int) - 48))).mono (by omega))
 have ho : OI (w5.setCell ⟨g, 0, none⟩ (.int .i64 ((b.toNat : Int) - 48))) (w.heap.size + 1 + 1 + 1) (.slice (some ⟨g, 0, none⟩) 1 q) [((b.toNat : Int) - 48)] := OI.stored (l := [0]) HO5.out 0 ((b.toNat : Int) - 48)
 rw [HM.out] at ho
 exact bodyPost_ret (v := .tuple #[.agg #[.int .i64 (p.mode : Int), .int .u8 (p.priv : Int), Value.slice (some ⟨g, 0, none⟩) 1 q, Value.slice Ai p.inter.length ci, Value.slice Au p.utf.length cu], .slice none 0 0]) (by simp [results, Tryz.results96, go_sem, e0, e1, e2, e3, e4]) rfl (params_post HSS.out HI.out HU.out hb5 ho)
theorem csir_any (vp vi vu : Value) (p : Pr) (b : UInt8) (S : Nat → Prop) (w : World) (hp : SL vI w S vp p.params) (hi : SL vB w S vi p.inter) (hu : SL vB w S vu p.utf) (hS : ∀ x, S x → x < w.heap.size) (hok : PrOk p) (hb : 32 ≤ b.toNat) :
  Calls Tryz.prog 96 #[.agg #[.int .i64 (p.mode : Int), .int .u8 (p.priv : Int), vp, vi, vu], .int .u8 (b.toNat : Int)] w (VtPost S (csiL p b) w) := by
 have hpl := hok.params
 unfold csiL
 by_cases h64 : 64 ≤ b.toNat
 ·rw [if_pos h64]
  exact csir_fin vp vi vu p b S w hp hi hu hS h64
 rw [if_neg h64]
 cases hB : interB b
 ·rw [if_neg (by simp)]
  by_cases hm : p.mode = 5
  ·rw [if_pos (.inl hm)]
   exact csir_i5 vp vi vu p b S w hp hi hu hS h64 hB hm
  by_cases h58 : b.toNat = 58
  ·rw [if_pos (.inr h58)]
   exact csir_col vp vi vu p b S w hp hi hu hS h64 hB hm h58
  rw [if_neg (by omega)]
  by_cases h60 : 60 ≤ b.toNat
  ·rw [if_pos h60]
   by_cases hq : 0 < p.params.length
   ·rw [if_pos (.inl hq)]
    exact csir_pr1 vp vi vu p b S w hp hi hu hS h64 hB hm h58 h60 hq
   by_cases hv : p.priv = 0
   ·rw [if_neg (by omega)]
    exact csir_pr3 vp vi vu p b S w hp hi hu hS h64 hB hm h58 h60 (by omega) hv
   ·rw [if_pos (.inr hv)]
    exact csir_pr2 vp vi vu p b S w hp hi hu hS h64 hB hm h58 h60 (by omega) hv
  rw [if_neg h60]
  have h48 : 48 ≤ b.toNat := by
   rcases Nat.lt_or_ge b.toNat 48 with h1 | h1
   ·rw [inter_yes b hb (by omega)] at hB
    cases hB
   ·exact h1
  by_cases h59 : b.toNat = 59
  ·rw [if_pos h59]
   by_cases hq : 0 < p.params.length
   ·by_cases h16 : 16 ≤ (oneP p.params).length
    ·rw [if_pos h16]
     rw [oneP_some _ hq] at h16
     exact csir_full vp vi vu p b S w hp hi hu hS h60 hB hm h58 h59 hq h16 (by omega)
    ·rw [if_neg h16]
     rw [oneP_some _ hq] at h16
     exact csir_more vp vi vu p b S w hp hi hu hS h60 hB hm h58 h59 hq (by omega)
   ·rw [if_neg (by rw [oneP_none _ (by omega)]; simp)]
    exact csir_more0 vp vi vu p b S w hp hi hu hS h60 hB hm h58 h59 (by omega)
  ·rw [if_neg h59]
   by_cases hq : 0 < p.params.length
   ·exact csir_dig vp vi vu p b S w hp hi hu hS h60 hB hm h58 h59 h48 hq hpl hok.each
   ·exact csir_dig0 vp vi vu p b S w hp hi hu hS h60 hB hm h58 h59 h48 (by omega)
 ·rw [if_pos rfl]
  by_cases hl : 2 ≤ p.inter.length
  ·rw [if_pos hl]
   exact csir_i2 vp vi vu p b S w hp hi hu hS h64 hB hl
  ·rw [if_neg hl]
   exact csir_int vp vi vu p b S w hp hi hu hS h64 hB (by omega)
theorem two_new (w : World) (x y : Obj) : Below w.heap.size w ((w.alloc x).alloc y) ∧ ((w.alloc x).alloc y).heap.size = w.heap.size + 1 + 1 :=
 ⟨((Below.refl w.heap.size w).alloc (Nat.le_refl _) x).alloc (by simp) y, by simp⟩
theorem act_new0 {w W : World} {S : Nat → Prop} (hb : Below w.heap.size w W) (hS : ∀ x, S x → x < w.heap.size) (a : Ac) (vp vi : Value) (t : TypeId) (g : Nat) (hg : g = W.heap.size) (hp : SL vI w S vp a.params) (hi : SL vB w S vi a.inter) (cs : Array Value) (hcs : cs = #[.int .i64 (a.kind : Int), .int .i32 a.r, .int .u8 (a.b : Int), .int .u8 (a.priv : Int), vp, vi]) :
  AS (W.alloc (.cells cs t)) (NewB (W.alloc (.cells cs t)) w.heap.size) (fun x => S x ∨ NewB (W.alloc (.cells cs t)) w.heap.size x) (.slice (some ⟨g, 0, none⟩) 1 1) [a] := act_new hb hS a vp vi t g hg hp hi cs hcs
theorem byte_new {w W : World} {S : Nat → Prop} (hb : Below w.heap.size w W) (b : UInt8) (t : TypeId) (g : Nat) (hg : g = W.heap.size) : SL vB (W.alloc (.cells #[.int .u8 (b.toNat : Int)] t)) (fun x => S x ∨ NewB (W.alloc (.cells #[.int .u8 (b.toNat : Int)] t)) w.heap.size x) (.slice (some ⟨g, 0, none⟩) 1 1) [b] := by
 subst hg
 obtain ⟨A, c, hv, h1, h2, h3⟩ := BS.one W b t
 refine ⟨A, c, hv, h1, h2, fun hl => ?_⟩
 obtain ⟨ad, hA, hbk, hc⟩ := h3 hl
 subst hA
 simp only [Value.slice.injEq, Option.some.injEq] at hv
 refine ⟨ad, rfl, .inr ⟨?_, by simpa using hbk⟩, hc⟩
 rw [← hv.1]
 exact hb.size
theorem stepr_24 (vp vi vu : Value) (p : Pr) (b : UInt8) (S : Nat → Prop) (w : World) (hp : SL vI w S vp p.params) (hi : SL vB w S vi p.inter) (hu : SL vB w S vu p.utf) (hS : ∀ x, S x → x < w.heap.size) (h : b.toNat = 24) :
  Calls Tryz.prog 71 #[.agg #[.int .i64 (p.mode : Int), .int .u8 (p.priv : Int), vp, vi, vu], .int .u8 (b.toNat : Int)] w (VtPost S (prM 0, []) w) := by
 have HP := Lh hp
 have HI := Lh hi
 have HU := Lh hu
 have HSS := Lh hS
 obtain ⟨Ap, cp, rfl, p1, p2⟩ := hp.form
 obtain ⟨Ai, ci, rfl, i1, i2⟩ := hi.form
 obtain ⟨Au, cu, rfl, u1, u2⟩ := hu.form
 clear hp hi hu hS
 have hb255 := b.toNat_lt
 have d24 : ((b.toNat : Int) == 24) = true := beq_iff_eq.2 (by omega)
 clear h
 go_enter Tryz.func71, Tryz.ntmps71
 go_wp2
 exact bodyPost_ret (v := .tuple #[.agg #[.int .i64 0, .int .u8 0, .slice none 0 0, .slice none 0 0, .slice none 0 0], .slice none 0 0]) (by simp [results, Tryz.results71, go_sem]) rfl ⟨_, _, rfl, prM_pv _ _ 0, AS.nil _ _ _, (two_new w _ _).1⟩
theorem stepr_26 (vp vi vu : Value) (p : Pr) (b : UInt8) (S : Nat → Prop) (w : World) (hp : SL vI w S vp p.params) (hi : SL vB w S vi p.inter) (hu : SL vB w S vu p.utf) (hS : ∀ x, S x → x < w.heap.size) (h : b.toNat = 26) :
  Calls Tryz.prog 71 #[.agg #[.int .i64 (p.mode : Int), .int .u8 (p.priv : Int), vp, vi, vu], .int .u8 (b.toNat : Int)] w (VtPost S (prM 0, []) w) := by
 have HP := Lh hp
 have HI := Lh hi
 have HU := Lh hu
 have HSS := Lh hS
 obtain ⟨Ap, cp, rfl, p1, p2⟩ := hp.form
 obtain ⟨Ai, ci, rfl, i1, i2⟩ := hi.form
 obtain ⟨Au, cu, rfl, u1, u2⟩ := hu.form
 clear hp hi hu hS
 have hb255 := b.toNat_lt
 have d24 : ((b.toNat : Int) == 24) = false := bF (by omega)
 have d26 : ((b.toNat : Int) == 26) = true := beq_iff_eq.2 (by omega)
 clear h
 go_enter Tryz.func71, Tryz.ntmps71
 go_wp2
 exact bodyPost_ret (v := .tuple #[.agg #[.int .i64 0, .int .u8 0, .slice none 0 0, .slice none 0 0, .slice none 0 0], .slice none 0 0]) (by simp [results, Tryz.results71, go_sem]) rfl ⟨_, _, rfl, prM_pv _ _ 0, AS.nil _ _ _, (two_new w _ _).1⟩
theorem stepr_27 (vp vi vu : Value) (p : Pr) (b : UInt8) (S : Nat → Prop) (w : World) (hp : SL vI w S vp p.params) (hi : SL vB w S vi p.inter) (hu : SL vB w S vu p.utf) (hS : ∀ x, S x → x < w.heap.size) (h : b.toNat = 27) :
  Calls Tryz.prog 71 #[.agg #[.int .i64 (p.mode : Int), .int .u8 (p.priv : Int), vp, vi, vu], .int .u8 (b.toNat : Int)] w (VtPost S (prM 1, []) w) := by
 have HP := Lh hp
 have HI := Lh hi
 have HU := Lh hu
 have HSS := Lh hS
 obtain ⟨Ap, cp, rfl, p1, p2⟩ := hp.form
 obtain ⟨Ai, ci, rfl, i1, i2⟩ := hi.form
 obtain ⟨Au, cu, rfl, u1, u2⟩ := hu.form
 clear hp hi hu hS
 have hb255 := b.toNat_lt
 have d24 : ((b.toNat : Int) == 24) = false := bF (by omega)
 have d26 : ((b.toNat : Int) == 26) = false := bF (by omega)
 have d27 : ((b.toNat : Int) == 27) = true := beq_iff_eq.2 (by omega)
 clear h
 go_enter Tryz.func71, Tryz.ntmps71
 go_wp2
 exact bodyPost_ret (v := .tuple #[.agg #[.int .i64 1, .int .u8 0, .slice none 0 0, .slice none 0 0, .slice none 0 0], .slice none 0 0]) (by simp [results, Tryz.results71, go_sem]) rfl ⟨_, _, rfl, prM_pv _ _ 1, AS.nil _ _ _, (two_new w _ _).1⟩
theorem stepr_g1 (vp vi vu : Value) (p : Pr) (b : UInt8) (S : Nat → Prop) (w : World) (hp : SL vI w S vp p.params) (hi : SL vB w S vi p.inter) (hu : SL vB w S vu p.utf) (hS : ∀ x, S x → x < w.heap.size) (h24 : b.toNat ≠ 24) (h26 : b.toNat ≠ 26) (h27 : b.toNat ≠ 27) (hm : p.mode = 0) (h : b.toNat < 32) :
  Calls Tryz.prog 71 #[.agg #[.int .i64 (p.mode : Int), .int .u8 (p.priv : Int), vp, vi, vu], .int .u8 (b.toNat : Int)] w (VtPost S (prM 0, [acC b.toNat]) w) := by
 have HP := Lh hp
 have HI := Lh hi
 have HU := Lh hu
 have HSS := Lh hS
 obtain ⟨Ap, cp, rfl, p1, p2⟩ := hp.form
 obtain ⟨Ai, ci, rfl, i1, i2⟩ := hi.form
 obtain ⟨Au, cu, rfl, u1, u2⟩ := hu.form
 clear hp hi hu hS
 have hb255 := b.toNat_lt
 have d24 : ((b.toNat : Int) == 24) = false := bF (by omega)
 have d26 : ((b.toNat : Int) == 26) = false := bF (by omega)
 have d27 : ((b.toNat : Int) == 27) = false := bF (by omega)
 have m0 : ((p.mode : Int) == 0) = true := beq_iff_eq.2 (by omega)
 have l32 : (b.toNat : Int) < 32 := by omega
 clear h24 h26 h27 hm
 go_enter Tryz.func71, Tryz.ntmps71
 go_wp2
 exact bodyPost_ret (v := .tuple #[.agg #[.int .i64 0, .int .u8 0, .slice none 0 0, .slice none 0 0, .slice none 0 0], .slice (some ⟨w.heap.size + 1 + 1, 0, none⟩) 1 1]) (by simp [results, Tryz.results71, go_sem]) rfl ⟨_, _, rfl, prM_pv _ _ 0, act_new0 (two_new w _ _).1 HSS.out (acC b.toNat) _ _ _ _ (by simp) (SL.nil _ _ _) (SL.nil _ _ _) _ rfl, (two_new w _ _).1.alloc (by simp; omega) _⟩
theorem stepr_g2 (vp vi vu : Value) (p : Pr) (b : UInt8) (S : Nat → Prop) (w : World) (hp : SL vI w S vp p.params) (hi : SL vB w S vi p.inter) (hu : SL vB w S vu p.utf) (hS : ∀ x, S x → x < w.heap.size) (h24 : b.toNat ≠ 24) (h26 : b.toNat ≠ 26) (h27 : b.toNat ≠ 27) (hm : p.mode = 0) (h : b.toNat = 127) :
  Calls Tryz.prog 71 #[.agg #[.int .i64 (p.mode : Int), .int .u8 (p.priv : Int), vp, vi, vu], .int .u8 (b.toNat : Int)] w (VtPost S (prM 0, []) w) := by
 have HP := Lh hp
 have HI := Lh hi
 have HU := Lh hu
 have HSS := Lh hS
 obtain ⟨Ap, cp, rfl, p1, p2⟩ := hp.form
 obtain ⟨Ai, ci, rfl, i1, i2⟩ := hi.form
 obtain ⟨Au, cu, rfl, u1, u2⟩ := hu.form
 clear hp hi hu hS
 have hb255 := b.toNat_lt
 have d24 : ((b.toNat : Int) == 24) = false := bF (by omega)
 have d26 : ((b.toNat : Int) == 26) = false := bF (by omega)
 have d27 : ((b.toNat : Int) == 27) = false := bF (by omega)
 have m0 : ((p.mode : Int) == 0) = true := beq_iff_eq.2 (by omega)
 have l32 : decide ((b.toNat : Int) < 32) = false := by simp; omega
 have d127 : ((b.toNat : Int) == 127) = true := beq_iff_eq.2 (by omega)
 clear h24 h26 h27 hm h
 go_enter Tryz.func71, Tryz.ntmps71
 go_wp2
 exact bodyPost_ret (v := .tuple #[.agg #[.int .i64 0, .int .u8 0, .slice none 0 0, .slice none 0 0, .slice none 0 0], .slice none 0 0]) (by simp [results, Tryz.results71, go_sem]) rfl ⟨_, _, rfl, prM_pv _ _ 0, AS.nil _ _ _, (two_new w _ _).1⟩
theorem stepr_s1 (vp vi vu : Value) (p : Pr) (b : UInt8) (S : Nat → Prop) (w : World) (hp : SL vI w S vp p.params) (hi : SL vB w S vi p.inter) (hu : SL vB w S vu p.utf) (hS : ∀ x, S x → x < w.heap.size) (h24 : b.toNat ≠ 24) (h26 : b.toNat ≠ 26) (h27 : b.toNat ≠ 27) (hm : p.mode = 7) (h : b.toNat = 7) :
  Calls Tryz.prog 71 #[.agg #[.int .i64 (p.mode : Int), .int .u8 (p.priv : Int), vp, vi, vu], .int .u8 (b.toNat : Int)] w (VtPost S (prM 0, []) w) := by
 have HP := Lh hp
 have HI := Lh hi
 have HU := Lh hu
 have HSS := Lh hS
 obtain ⟨Ap, cp, rfl, p1, p2⟩ := hp.form
 obtain ⟨Ai, ci, rfl, i1, i2⟩ := hi.form
 obtain ⟨Au, cu, rfl, u1, u2⟩ := hu.form
 clear hp hi hu hS
 have hb255 := b.toNat_lt
 have d24 : ((b.toNat : Int) == 24) = false := bF (by omega)
 have d26 : ((b.toNat : Int) == 26) = false := bF (by omega)
 have d27 : ((b.toNat : Int) == 27) = false := bF (by omega)
 have m0 : ((p.mode : Int) == 0) = false := bF (by omega)
 have m7 : ((p.mode : Int) == 7) = true := beq_iff_eq.2 (by omega)
 have d7 : ((b.toNat : Int) == 7) = true := beq_iff_eq.2 (by omega)
 clear h24 h26 h27 hm h
 go_enter Tryz.func71, Tryz.ntmps71
 go_wp2
 exact bodyPost_ret (v := .tuple #[.agg #[.int .i64 0, .int .u8 0, .slice none 0 0, .slice none 0 0, .slice none 0 0], .slice none 0 0]) (by simp [results, Tryz.results71, go_sem]) rfl ⟨_, _, rfl, prM_pv _ _ 0, AS.nil _ _ _, (two_new w _ _).1⟩
theorem stepr_s2 (vp vi vu : Value) (p : Pr) (b : UInt8) (S : Nat → Prop) (w : World) (hp : SL vI w S vp p.params) (hi : SL vB w S vi p.inter) (hu : SL vB w S vu p.utf) (hS : ∀ x, S x → x < w.heap.size) (h24 : b.toNat ≠ 24) (h26 : b.toNat ≠ 26) (h27 : b.toNat ≠ 27) (hm : p.mode = 7) (h : b.toNat ≠ 7) :
  Calls Tryz.prog 71 #[.agg #[.int .i64 (p.mode : Int), .int .u8 (p.priv : Int), vp, vi, vu], .int .u8 (b.toNat : Int)] w (VtPost S (p, []) w) := by
 have HP := Lh hp
 have HI := Lh hi
 have HU := Lh hu
 have HSS := Lh hS
 obtain ⟨Ap, cp, rfl, p1, p2⟩ := hp.form
 obtain ⟨Ai, ci, rfl, i1, i2⟩ := hi.form
 obtain ⟨Au, cu, rfl, u1, u2⟩ := hu.form
 clear hp hi hu hS
 have hb255 := b.toNat_lt
 have d24 : ((b.toNat : Int) == 24) = false := bF (by omega)
 have d26 : ((b.toNat : Int) == 26) = false := bF (by omega)
 have d27 : ((b.toNat : Int) == 27) = false := bF (by omega)
 have m0 : ((p.mode : Int) == 0) = false := bF (by omega)
 have m7 : ((p.mode : Int) == 7) = true := beq_iff_eq.2 (by omega)
 have d7 : ((b.toNat : Int) == 7) = false := bF (by omega)
 clear h24 h26 h27 hm h
 go_enter Tryz.func71, Tryz.ntmps71
 go_wp2
 exact bodyPost_ret (v := .tuple #[.agg (vPq p Ap Ai Au cp ci cu), .slice none 0 0]) (by simp [results, Tryz.results71, go_sem]) rfl ⟨_, _, rfl, ⟨_, _, _, rfl, sl_old (two_new w _ _).1 HSS.out HP.out, sl_old (two_new w _ _).1 HSS.out HI.out, sl_old (two_new w _ _).1 HSS.out HU.out⟩, AS.nil _ _ _, (two_new w _ _).1⟩
theorem stepr_c1 (vp vi vu : Value) (p : Pr) (b : UInt8) (S : Nat → Prop) (w : World) (hp : SL vI w S vp p.params) (hi : SL vB w S vi p.inter) (hu : SL vB w S vu p.utf) (hS : ∀ x, S x → x < w.heap.size) (h24 : b.toNat ≠ 24) (h26 : b.toNat ≠ 26) (h27 : b.toNat ≠ 27) (hm0 : p.mode ≠ 0) (hm7 : p.mode ≠ 7) (h : b.toNat < 32) :
  Calls Tryz.prog 71 #[.agg #[.int .i64 (p.mode : Int), .int .u8 (p.priv : Int), vp, vi, vu], .int .u8 (b.toNat : Int)] w (VtPost S (p, [acC b.toNat]) w) := by
 have HP := Lh hp
 have HI := Lh hi
 have HU := Lh hu
 have HSS := Lh hS
 obtain ⟨Ap, cp, rfl, p1, p2⟩ := hp.form
 obtain ⟨Ai, ci, rfl, i1, i2⟩ := hi.form
 obtain ⟨Au, cu, rfl, u1, u2⟩ := hu.form
 clear hp hi hu hS
 have hb255 := b.toNat_lt
 have d24 : ((b.toNat : Int) == 24) = false := bF (by omega)
 have d26 : ((b.toNat : Int) == 26) = false := bF (by omega)
 have d27 : ((b.toNat : Int) == 27) = false := bF (by omega)
 have m0 : ((p.mode : Int) == 0) = false := bF (by omega)
 have m7 : ((p.mode : Int) == 7) = false := bF (by omega)
 have l32 : (b.toNat : Int) < 32 := by omega
 clear h24 h26 h27 hm0 hm7
 go_enter Tryz.func71, Tryz.ntmps71
 go_wp2
 exact bodyPost_ret (v := .tuple #[.agg (vPq p Ap Ai Au cp ci cu), .slice (some ⟨w.heap.size + 1 + 1, 0, none⟩) 1 1]) (by simp [results, Tryz.results71, go_sem]) rfl ⟨_, _, rfl, ⟨_, _, _, rfl, sl_old ((two_new w _ _).1.alloc (by simp; omega) _) HSS.out HP.out, sl_old ((two_new w _ _).1.alloc (by simp; omega) _) HSS.out HI.out, sl_old ((two_new w _ _).1.alloc (by simp; omega) _) HSS.out HU.out⟩, act_new0 (two_new w _ _).1 HSS.out (acC b.toNat) _ _ _ _ (by simp) (SL.nil _ _ _) (SL.nil _ _ _) _ rfl, (two_new w _ _).1.alloc (by simp; omega) _⟩
theorem stepr_c2 (vp vi vu : Value) (p : Pr) (b : UInt8) (S : Nat → Prop) (w : World) (hp : SL vI w S vp p.params) (hi : SL vB w S vi p.inter) (hu : SL vB w S vu p.utf) (hS : ∀ x, S x → x < w.heap.size) (h24 : b.toNat ≠ 24) (h26 : b.toNat ≠ 26) (h27 : b.toNat ≠ 27) (hm0 : p.mode ≠ 0) (hm7 : p.mode ≠ 7) (h : b.toNat = 127) :
  Calls Tryz.prog 71 #[.agg #[.int .i64 (p.mode : Int), .int .u8 (p.priv : Int), vp, vi, vu], .int .u8 (b.toNat : Int)] w (VtPost S (p, []) w) := by
 have HP := Lh hp
 have HI := Lh hi
 have HU := Lh hu
 have HSS := Lh hS
 obtain ⟨Ap, cp, rfl, p1, p2⟩ := hp.form
 obtain ⟨Ai, ci, rfl, i1, i2⟩ := hi.form
 obtain ⟨Au, cu, rfl, u1, u2⟩ := hu.form
 clear hp hi hu hS
 have hb255 := b.toNat_lt
 have d24 : ((b.toNat : Int) == 24) = false := bF (by omega)
 have d26 : ((b.toNat : Int) == 26) = false := bF (by omega)
 have d27 : ((b.toNat : Int) == 27) = false := bF (by omega)
 have m0 : ((p.mode : Int) == 0) = false := bF (by omega)
 have m7 : ((p.mode : Int) == 7) = false := bF (by omega)
 have l32 : decide ((b.toNat : Int) < 32) = false := by simp; omega
 have d127 : ((b.toNat : Int) == 127) = true := beq_iff_eq.2 (by omega)
 clear h24 h26 h27 hm0 hm7 h
 go_enter Tryz.func71, Tryz.ntmps71
 go_wp2
 exact bodyPost_ret (v := .tuple #[.agg (vPq p Ap Ai Au cp ci cu), .slice none 0 0]) (by simp [results, Tryz.results71, go_sem]) rfl ⟨_, _, rfl, ⟨_, _, _, rfl, sl_old (two_new w _ _).1 HSS.out HP.out, sl_old (two_new w _ _).1 HSS.out HI.out, sl_old (two_new w _ _).1 HSS.out HU.out⟩, AS.nil _ _ _, (two_new w _ _).1⟩
theorem stepr_c3 (vp vi vu : Value) (p : Pr) (b : UInt8) (S : Nat → Prop) (w : World) (hp : SL vI w S vp p.params) (hi : SL vB w S vi p.inter) (hu : SL vB w S vu p.utf) (hS : ∀ x, S x → x < w.heap.size) (h24 : b.toNat ≠ 24) (h26 : b.toNat ≠ 26) (h27 : b.toNat ≠ 27) (hm0 : p.mode ≠ 0) (hm7 : p.mode ≠ 7) (h : 128 ≤ b.toNat) :
  Calls Tryz.prog 71 #[.agg #[.int .i64 (p.mode : Int), .int .u8 (p.priv : Int), vp, vi, vu], .int .u8 (b.toNat : Int)] w (VtPost S (prM 0, []) w) := by
 have HP := Lh hp
 have HI := Lh hi
 have HU := Lh hu
 have HSS := Lh hS
 obtain ⟨Ap, cp, rfl, p1, p2⟩ := hp.form
 obtain ⟨Ai, ci, rfl, i1, i2⟩ := hi.form
 obtain ⟨Au, cu, rfl, u1, u2⟩ := hu.form
 clear hp hi hu hS
 have hb255 := b.toNat_lt
 have d24 : ((b.toNat : Int) == 24) = false := bF (by omega)
 have d26 : ((b.toNat : Int) == 26) = false := bF (by omega)
 have d27 : ((b.toNat : Int) == 27) = false := bF (by omega)
 have m0 : ((p.mode : Int) == 0) = false := bF (by omega)
 have m7 : ((p.mode : Int) == 7) = false := bF (by omega)
 have l32 : decide ((b.toNat : Int) < 32) = false := by simp; omega
 have d127 : ((b.toNat : Int) == 127) = false := bF (by omega)
 have g128 : (128 : Int) ≤ (b.toNat : Int) := by omega
 clear h24 h26 h27 hm0 hm7
 go_enter Tryz.func71, Tryz.ntmps71
 go_wp2
 exact bodyPost_ret (v := .tuple #[.agg #[.int .i64 0, .int .u8 0, .slice none 0 0, .slice none 0 0, .slice none 0 0], .slice none 0 0]) (by simp [results, Tryz.results71, go_sem]) rfl ⟨_, _, rfl, prM_pv _ _ 0, AS.nil _ _ _, (two_new w _ _).1⟩
theorem stepr_e1 (vp vi vu : Value) (p : Pr) (b : UInt8) (S : Nat → Prop) (w : World) (hp : SL vI w S vp p.params) (hi : SL vB w S vi p.inter) (hu : SL vB w S vu p.utf) (hS : ∀ x, S x → x < w.heap.size) (h24 : b.toNat ≠ 24) (h26 : b.toNat ≠ 26) (h27 : b.toNat ≠ 27) (hm0 : p.mode ≠ 0) (hm7 : p.mode ≠ 7) (hb0 : 32 ≤ b.toNat) (hb1 : b.toNat < 127) (hm : p.mode = 1) (hB : interB b = true) :
  Calls Tryz.prog 71 #[.agg #[.int .i64 (p.mode : Int), .int .u8 (p.priv : Int), vp, vi, vu], .int .u8 (b.toNat : Int)] w (VtPost S ({ prM 2 with inter := [b] }, []) w) := by
 have HP := Lh hp
 have HI := Lh hi
 have HU := Lh hu
 have HSS := Lh hS
 obtain ⟨Ap, cp, rfl, p1, p2⟩ := hp.form
 obtain ⟨Ai, ci, rfl, i1, i2⟩ := hi.form
 obtain ⟨Au, cu, rfl, u1, u2⟩ := hu.form
 clear hp hi hu hS
 have hb255 := b.toNat_lt
 have d24 : ((b.toNat : Int) == 24) = false := bF (by omega)
 have d26 : ((b.toNat : Int) == 26) = false := bF (by omega)
 have d27 : ((b.toNat : Int) == 27) = false := bF (by omega)
 have m0 : ((p.mode : Int) == 0) = false := bF (by omega)
 have m7 : ((p.mode : Int) == 7) = false := bF (by omega)
 have l32 : decide ((b.toNat : Int) < 32) = false := by simp; omega
 have d127 : ((b.toNat : Int) == 127) = false := bF (by omega)
 have g128 : decide ((128 : Int) ≤ (b.toNat : Int)) = false := by simp; omega
 have m1 : ((p.mode : Int) == 1) = true := beq_iff_eq.2 (by omega)
 have HIB := Lh hB
 clear hB
 clear h24 h26 h27 hm0 hm7 hm
 go_enter Tryz.func71, Tryz.ntmps71
 go_wp2_with (go_at_call 88; refine (interr_any b _).mono ?_; rintro e w' ⟨rfl, rfl⟩; rw [HIB.out])
 exact bodyPost_ret (v := .tuple #[.agg #[.int .i64 2, .int .u8 0, .slice none 0 0, .slice (some ⟨w.heap.size + 1 + 1, 0, none⟩) 1 1, .slice none 0 0], .slice none 0 0]) (by simp [results, Tryz.results71, go_sem]) rfl ⟨_, _, rfl, ⟨_, _, _, rfl, SL.nil _ _ _, byte_new (two_new w _ _).1 b _ _ (by simp), SL.nil _ _ _⟩, AS.nil _ _ _, (two_new w _ _).1.alloc (by simp; omega) _⟩
theorem stepr_e2 (vp vi vu : Value) (p : Pr) (b : UInt8) (S : Nat → Prop) (w : World) (hp : SL vI w S vp p.params) (hi : SL vB w S vi p.inter) (hu : SL vB w S vu p.utf) (hS : ∀ x, S x → x < w.heap.size) (h24 : b.toNat ≠ 24) (h26 : b.toNat ≠ 26) (h27 : b.toNat ≠ 27) (hm0 : p.mode ≠ 0) (hm7 : p.mode ≠ 7) (hb0 : 32 ≤ b.toNat) (hb1 : b.toNat < 127) (hm : p.mode = 1) (hB : interB b = false) (h : b.toNat = 91) :
  Calls Tryz.prog 71 #[.agg #[.int .i64 (p.mode : Int), .int .u8 (p.priv : Int), vp, vi, vu], .int .u8 (b.toNat : Int)] w (VtPost S (prM 4, []) w) := by
 have HP := Lh hp
 have HI := Lh hi
 have HU := Lh hu
 have HSS := Lh hS
 obtain ⟨Ap, cp, rfl, p1, p2⟩ := hp.form
 obtain ⟨Ai, ci, rfl, i1, i2⟩ := hi.form
 obtain ⟨Au, cu, rfl, u1, u2⟩ := hu.form
 clear hp hi hu hS
 have hb255 := b.toNat_lt
 have d24 : ((b.toNat : Int) == 24) = false := bF (by omega)
 have d26 : ((b.toNat : Int) == 26) = false := bF (by omega)
 have d27 : ((b.toNat : Int) == 27) = false := bF (by omega)
 have m0 : ((p.mode : Int) == 0) = false := bF (by omega)
 have m7 : ((p.mode : Int) == 7) = false := bF (by omega)
 have l32 : decide ((b.toNat : Int) < 32) = false := by simp; omega
 have d127 : ((b.toNat : Int) == 127) = false := bF (by omega)
 have g128 : decide ((128 : Int) ≤ (b.toNat : Int)) = false := by simp; omega
 have m1 : ((p.mode : Int) == 1) = true := beq_iff_eq.2 (by omega)
 have HIB := Lh hB
 clear hB
 have d91 : ((b.toNat : Int) == 91) = true := beq_iff_eq.2 (by omega)
 clear h24 h26 h27 hm0 hm7 hm h
 go_enter Tryz.func71, Tryz.ntmps71
 go_wp2_with (go_at_call 88; refine (interr_any b _).mono ?_; rintro e w' ⟨rfl, rfl⟩; rw [HIB.out])
 exact bodyPost_ret (v := .tuple #[.agg #[.int .i64 4, .int .u8 0, .slice none 0 0, .slice none 0 0, .slice none 0 0], .slice none 0 0]) (by simp [results, Tryz.results71, go_sem]) rfl ⟨_, _, rfl, prM_pv _ _ 4, AS.nil _ _ _, (two_new w _ _).1⟩
theorem stepr_e3_93 (vp vi vu : Value) (p : Pr) (b : UInt8) (S : Nat → Prop) (w : World) (hp : SL vI w S vp p.params) (hi : SL vB w S vi p.inter) (hu : SL vB w S vu p.utf) (hS : ∀ x, S x → x < w.heap.size) (h24 : b.toNat ≠ 24) (h26 : b.toNat ≠ 26) (h27 : b.toNat ≠ 27) (hm0 : p.mode ≠ 0) (hm7 : p.mode ≠ 7) (hb0 : 32 ≤ b.toNat) (hb1 : b.toNat < 127) (hm : p.mode = 1) (hB : interB b = false) (h : b.toNat = 93) :
  Calls Tryz.prog 71 #[.agg #[.int .i64 (p.mode : Int), .int .u8 (p.priv : Int), vp, vi, vu], .int .u8 (b.toNat : Int)] w (VtPost S (prM 7, []) w) := by
 have HP := Lh hp
 have HI := Lh hi
 have HU := Lh hu
 have HSS := Lh hS
 obtain ⟨Ap, cp, rfl, p1, p2⟩ := hp.form
 obtain ⟨Ai, ci, rfl, i1, i2⟩ := hi.form
 obtain ⟨Au, cu, rfl, u1, u2⟩ := hu.form
 clear hp hi hu hS
 have hb255 := b.toNat_lt
 have d24 : ((b.toNat : Int) == 24) = false := bF (by omega)
 have d26 : ((b.toNat : Int) == 26) = false := bF (by omega)
 have d27 : ((b.toNat : Int) == 27) = false := bF (by omega)
 have m0 : ((p.mode : Int) == 0) = false := bF (by omega)
 have m7 : ((p.mode : Int) == 7) = false := bF (by omega)
 have l32 : decide ((b.toNat : Int) < 32) = false := by simp; omega
 have d127 : ((b.toNat : Int) == 127) = false := bF (by omega)
 have g128 : decide ((128 : Int) ≤ (b.toNat : Int)) = false := by simp; omega
 have m1 : ((p.mode : Int) == 1) = true := beq_iff_eq.2 (by omega)
 have HIB := Lh hB
 clear hB
 have d91 : ((b.toNat : Int) == 91) = false := bF (by omega)
 have d93 : ((b.toNat : Int) == 93) = true := beq_iff_eq.2 (by omega)
 clear h24 h26 h27 hm0 hm7 hm h
 go_enter Tryz.func71, Tryz.ntmps71
 go_wp2_with (go_at_call 88; refine (interr_any b _).mono ?_; rintro e w' ⟨rfl, rfl⟩; rw [HIB.out])
 exact bodyPost_ret (v := .tuple #[.agg #[.int .i64 7, .int .u8 0, .slice none 0 0, .slice none 0 0, .slice none 0 0], .slice none 0 0]) (by simp [results, Tryz.results71, go_sem]) rfl ⟨_, _, rfl, prM_pv _ _ 7, AS.nil _ _ _, (two_new w _ _).1⟩
theorem stepr_e3_80 (vp vi vu : Value) (p : Pr) (b : UInt8) (S : Nat → Prop) (w : World) (hp : SL vI w S vp p.params) (hi : SL vB w S vi p.inter) (hu : SL vB w S vu p.utf) (hS : ∀ x, S x → x < w.heap.size) (h24 : b.toNat ≠ 24) (h26 : b.toNat ≠ 26) (h27 : b.toNat ≠ 27) (hm0 : p.mode ≠ 0) (hm7 : p.mode ≠ 7) (hb0 : 32 ≤ b.toNat) (hb1 : b.toNat < 127) (hm : p.mode = 1) (hB : interB b = false) (h : b.toNat = 80) :
  Calls Tryz.prog 71 #[.agg #[.int .i64 (p.mode : Int), .int .u8 (p.priv : Int), vp, vi, vu], .int .u8 (b.toNat : Int)] w (VtPost S (prM 7, []) w) := by
 have HP := Lh hp
 have HI := Lh hi
 have HU := Lh hu
 have HSS := Lh hS
 obtain ⟨Ap, cp, rfl, p1, p2⟩ := hp.form
 obtain ⟨Ai, ci, rfl, i1, i2⟩ := hi.form
 obtain ⟨Au, cu, rfl, u1, u2⟩ := hu.form
 clear hp hi hu hS
 have hb255 := b.toNat_lt
 have d24 : ((b.toNat : Int) == 24) = false := bF (by omega)
 have d26 : ((b.toNat : Int) == 26) = false := bF (by omega)
 have d27 : ((b.toNat : Int) == 27) = false := bF (by omega)
 have m0 : ((p.mode : Int) == 0) = false := bF (by omega)
 have m7 : ((p.mode : Int) == 7) = false := bF (by omega)
 have l32 : decide ((b.toNat : Int) < 32) = false := by simp; omega
 have d127 : ((b.toNat : Int) == 127) = false := bF (by omega)
 have g128 : decide ((128 : Int) ≤ (b.toNat : Int)) = false := by simp; omega
 have m1 : ((p.mode : Int) == 1) = true := beq_iff_eq.2 (by omega)
 have HIB := Lh hB
 clear hB
 have d91 : ((b.toNat : Int) == 91) = false := bF (by omega)
 have d93 : ((b.toNat : Int) == 93) = false := bF (by omega)
 have d80 : ((b.toNat : Int) == 80) = true := beq_iff_eq.2 (by omega)
 clear h24 h26 h27 hm0 hm7 hm h
 go_enter Tryz.func71, Tryz.ntmps71
 go_wp2_with (go_at_call 88; refine (interr_any b _).mono ?_; rintro e w' ⟨rfl, rfl⟩; rw [HIB.out])
 exact bodyPost_ret (v := .tuple #[.agg #[.int .i64 7, .int .u8 0, .slice none 0 0, .slice none 0 0, .slice none 0 0], .slice none 0 0]) (by simp [results, Tryz.results71, go_sem]) rfl ⟨_, _, rfl, prM_pv _ _ 7, AS.nil _ _ _, (two_new w _ _).1⟩
theorem stepr_e3_88 (vp vi vu : Value) (p : Pr) (b : UInt8) (S : Nat → Prop) (w : World) (hp : SL vI w S vp p.params) (hi : SL vB w S vi p.inter) (hu : SL vB w S vu p.utf) (hS : ∀ x, S x → x < w.heap.size) (h24 : b.toNat ≠ 24) (h26 : b.toNat ≠ 26) (h27 : b.toNat ≠ 27) (hm0 : p.mode ≠ 0) (hm7 : p.mode ≠ 7) (hb0 : 32 ≤ b.toNat) (hb1 : b.toNat < 127) (hm : p.mode = 1) (hB : interB b = false) (h : b.toNat = 88) :
  Calls Tryz.prog 71 #[.agg #[.int .i64 (p.mode : Int), .int .u8 (p.priv : Int), vp, vi, vu], .int .u8 (b.toNat : Int)] w (VtPost S (prM 7, []) w) := by
 have HP := Lh hp
 have HI := Lh hi
 have HU := Lh hu
 have HSS := Lh hS
 obtain ⟨Ap, cp, rfl, p1, p2⟩ := hp.form
 obtain ⟨Ai, ci, rfl, i1, i2⟩ := hi.form
 obtain ⟨Au, cu, rfl, u1, u2⟩ := hu.form
 clear hp hi hu hS
 have hb255 := b.toNat_lt
 have d24 : ((b.toNat : Int) == 24) = false := bF (by omega)
 have d26 : ((b.toNat : Int) == 26) = false := bF (by omega)
 have d27 : ((b.toNat : Int) == 27) = false := bF (by omega)
 have m0 : ((p.mode : Int) == 0) = false := bF (by omega)
 have m7 : ((p.mode : Int) == 7) = false := bF (by omega)
 have l32 : decide ((b.toNat : Int) < 32) = false := by simp; omega
 have d127 : ((b.toNat : Int) == 127) = false := bF (by omega)
 have g128 : decide ((128 : Int) ≤ (b.toNat : Int)) = false := by simp; omega
 have m1 : ((p.mode : Int) == 1) = true := beq_iff_eq.2 (by omega)
 have HIB := Lh hB
 clear hB
 have d91 : ((b.toNat : Int) == 91) = false := bF (by omega)
 have d93 : ((b.toNat : Int) == 93) = false := bF (by omega)
 have d80 : ((b.toNat : Int) == 80) = false := bF (by omega)
 have d88 : ((b.toNat : Int) == 88) = true := beq_iff_eq.2 (by omega)
 clear h24 h26 h27 hm0 hm7 hm h
 go_enter Tryz.func71, Tryz.ntmps71
 go_wp2_with (go_at_call 88; refine (interr_any b _).mono ?_; rintro e w' ⟨rfl, rfl⟩; rw [HIB.out])
 exact bodyPost_ret (v := .tuple #[.agg #[.int .i64 7, .int .u8 0, .slice none 0 0, .slice none 0 0, .slice none 0 0], .slice none 0 0]) (by simp [results, Tryz.results71, go_sem]) rfl ⟨_, _, rfl, prM_pv _ _ 7, AS.nil _ _ _, (two_new w _ _).1⟩
theorem stepr_e3_94 (vp vi vu : Value) (p : Pr) (b : UInt8) (S : Nat → Prop) (w : World) (hp : SL vI w S vp p.params) (hi : SL vB w S vi p.inter) (hu : SL vB w S vu p.utf) (hS : ∀ x, S x → x < w.heap.size) (h24 : b.toNat ≠ 24) (h26 : b.toNat ≠ 26) (h27 : b.toNat ≠ 27) (hm0 : p.mode ≠ 0) (hm7 : p.mode ≠ 7) (hb0 : 32 ≤ b.toNat) (hb1 : b.toNat < 127) (hm : p.mode = 1) (hB : interB b = false) (h : b.toNat = 94) :
  Calls Tryz.prog 71 #[.agg #[.int .i64 (p.mode : Int), .int .u8 (p.priv : Int), vp, vi, vu], .int .u8 (b.toNat : Int)] w (VtPost S (prM 7, []) w) := by
 have HP := Lh hp
 have HI := Lh hi
 have HU := Lh hu
 have HSS := Lh hS
 obtain ⟨Ap, cp, rfl, p1, p2⟩ := hp.form
 obtain ⟨Ai, ci, rfl, i1, i2⟩ := hi.form
 obtain ⟨Au, cu, rfl, u1, u2⟩ := hu.form
 clear hp hi hu hS
 have hb255 := b.toNat_lt
 have d24 : ((b.toNat : Int) == 24) = false := bF (by omega)
 have d26 : ((b.toNat : Int) == 26) = false := bF (by omega)
 have d27 : ((b.toNat : Int) == 27) = false := bF (by omega)
 have m0 : ((p.mode : Int) == 0) = false := bF (by omega)
 have m7 : ((p.mode : Int) == 7) = false := bF (by omega)
 have l32 : decide ((b.toNat : Int) < 32) = false := by simp; omega
 have d127 : ((b.toNat : Int) == 127) = false := bF (by omega)
 have g128 : decide ((128 : Int) ≤ (b.toNat : Int)) = false := by simp; omega
 have m1 : ((p.mode : Int) == 1) = true := beq_iff_eq.2 (by omega)
 have HIB := Lh hB
 clear hB
 have d91 : ((b.toNat : Int) == 91) = false := bF (by omega)
 have d93 : ((b.toNat : Int) == 93) = false := bF (by omega)
 have d80 : ((b.toNat : Int) == 80) = false := bF (by omega)
 have d88 : ((b.toNat : Int) == 88) = false := bF (by omega)
 have d94 : ((b.toNat : Int) == 94) = true := beq_iff_eq.2 (by omega)
 clear h24 h26 h27 hm0 hm7 hm h
 go_enter Tryz.func71, Tryz.ntmps71
 go_wp2_with (go_at_call 88; refine (interr_any b _).mono ?_; rintro e w' ⟨rfl, rfl⟩; rw [HIB.out])
 exact bodyPost_ret (v := .tuple #[.agg #[.int .i64 7, .int .u8 0, .slice none 0 0, .slice none 0 0, .slice none 0 0], .slice none 0 0]) (by simp [results, Tryz.results71, go_sem]) rfl ⟨_, _, rfl, prM_pv _ _ 7, AS.nil _ _ _, (two_new w _ _).1⟩
theorem stepr_e3_95 (vp vi vu : Value) (p : Pr) (b : UInt8) (S : Nat → Prop) (w : World) (hp : SL vI w S vp p.params) (hi : SL vB w S vi p.inter) (hu : SL vB w S vu p.utf) (hS : ∀ x, S x → x < w.heap.size) (h24 : b.toNat ≠ 24) (h26 : b.toNat ≠ 26) (h27 : b.toNat ≠ 27) (hm0 : p.mode ≠ 0) (hm7 : p.mode ≠ 7) (hb0 : 32 ≤ b.toNat) (hb1 : b.toNat < 127) (hm : p.mode = 1) (hB : interB b = false) (h : b.toNat = 95) :
  Calls Tryz.prog 71 #[.agg #[.int .i64 (p.mode : Int), .int .u8 (p.priv : Int), vp, vi, vu], .int .u8 (b.toNat : Int)] w (VtPost S (prM 7, []) w) := by
 have HP := Lh hp
 have HI := Lh hi
 have HU := Lh hu
 have HSS := Lh hS
 obtain ⟨Ap, cp, rfl, p1, p2⟩ := hp.form
 obtain ⟨Ai, ci, rfl, i1, i2⟩ := hi.form
 obtain ⟨Au, cu, rfl, u1, u2⟩ := hu.form
 clear hp hi hu hS
 have hb255 := b.toNat_lt
 have d24 : ((b.toNat : Int) == 24) = false := bF (by omega)
 have d26 : ((b.toNat : Int) == 26) = false := bF (by omega)
 have d27 : ((b.toNat : Int) == 27) = false := bF (by omega)
 have m0 : ((p.mode : Int) == 0) = false := bF (by omega)
 have m7 : ((p.mode : Int) == 7) = false := bF (by omega)
 have l32 : decide ((b.toNat : Int) < 32) = false := by simp; omega
 have d127 : ((b.toNat : Int) == 127) = false := bF (by omega)
 have g128 : decide ((128 : Int) ≤ (b.toNat : Int)) = false := by simp; omega
 have m1 : ((p.mode : Int) == 1) = true := beq_iff_eq.2 (by omega)
 have HIB := Lh hB
 clear hB
 have d91 : ((b.toNat : Int) == 91) = false := bF (by omega)
 have d93 : ((b.toNat : Int) == 93) = false := bF (by omega)
 have d80 : ((b.toNat : Int) == 80) = false := bF (by omega)
 have d88 : ((b.toNat : Int) == 88) = false := bF (by omega)
 have d94 : ((b.toNat : Int) == 94) = false := bF (by omega)
 have d95 : ((b.toNat : Int) == 95) = true := beq_iff_eq.2 (by omega)
 clear h24 h26 h27 hm0 hm7 hm h
 go_enter Tryz.func71, Tryz.ntmps71
 go_wp2_with (go_at_call 88; refine (interr_any b _).mono ?_; rintro e w' ⟨rfl, rfl⟩; rw [HIB.out])
 exact bodyPost_ret (v := .tuple #[.agg #[.int .i64 7, .int .u8 0, .slice none 0 0, .slice none 0 0, .slice none 0 0], .slice none 0 0]) (by simp [results, Tryz.results71, go_sem]) rfl ⟨_, _, rfl, prM_pv _ _ 7, AS.nil _ _ _, (two_new w _ _).1⟩
theorem stepr_e4 (vp vi vu : Value) (p : Pr) (b : UInt8) (S : Nat → Prop) (w : World) (hp : SL vI w S vp p.params) (hi : SL vB w S vi p.inter) (hu : SL vB w S vu p.utf) (hS : ∀ x, S x → x < w.heap.size) (h24 : b.toNat ≠ 24) (h26 : b.toNat ≠ 26) (h27 : b.toNat ≠ 27) (hm0 : p.mode ≠ 0) (hm7 : p.mode ≠ 7) (hb0 : 32 ≤ b.toNat) (hb1 : b.toNat < 127) (hm : p.mode = 1) (hB : interB b = false) (h91 : b.toNat ≠ 91) (h93 : b.toNat ≠ 93) (h80 : b.toNat ≠ 80) (h88 : b.toNat ≠ 88) (h94 : b.toNat ≠ 94) (h95 : b.toNat ≠ 95) :
  Calls Tryz.prog 71 #[.agg #[.int .i64 (p.mode : Int), .int .u8 (p.priv : Int), vp, vi, vu], .int .u8 (b.toNat : Int)] w (VtPost S (prM 0, [acE b.toNat []]) w) := by
 have HP := Lh hp
 have HI := Lh hi
 have HU := Lh hu
 have HSS := Lh hS
 obtain ⟨Ap, cp, rfl, p1, p2⟩ := hp.form
 obtain ⟨Ai, ci, rfl, i1, i2⟩ := hi.form
 obtain ⟨Au, cu, rfl, u1, u2⟩ := hu.form
 clear hp hi hu hS
 have hb255 := b.toNat_lt
 have d24 : ((b.toNat : Int) == 24) = false := bF (by omega)
 have d26 : ((b.toNat : Int) == 26) = false := bF (by omega)
 have d27 : ((b.toNat : Int) == 27) = false := bF (by omega)
 have m0 : ((p.mode : Int) == 0) = false := bF (by omega)
 have m7 : ((p.mode : Int) == 7) = false := bF (by omega)
 have l32 : decide ((b.toNat : Int) < 32) = false := by simp; omega
 have d127 : ((b.toNat : Int) == 127) = false := bF (by omega)
 have g128 : decide ((128 : Int) ≤ (b.toNat : Int)) = false := by simp; omega
 have m1 : ((p.mode : Int) == 1) = true := beq_iff_eq.2 (by omega)
 have HIB := Lh hB
 clear hB
 have d91 : ((b.toNat : Int) == 91) = false := bF (by omega)
 have d93 : ((b.toNat : Int) == 93) = false := bF (by omega)
 have d80 : ((b.toNat : Int) == 80) = false := bF (by omega)
 have d88 : ((b.toNat : Int) == 88) = false := bF (by omega)
 have d94 : ((b.toNat : Int) == 94) = false := bF (by omega)
 have d95 : ((b.toNat : Int) == 95) = false := bF (by omega)
 clear h24 h26 h27 hm0 hm7 hm h91 h93 h80 h88 h94 h95
 go_enter Tryz.func71, Tryz.ntmps71
 go_wp2_with (go_at_call 88; refine (interr_any b _).mono ?_; rintro e w' ⟨rfl, rfl⟩; rw [HIB.out])
 exact bodyPost_ret (v := .tuple #[.agg #[.int .i64 0, .int .u8 0, .slice none 0 0, .slice none 0 0, .slice none 0 0], .slice (some ⟨w.heap.size + 1 + 1, 0, none⟩) 1 1]) (by simp [results, Tryz.results71, go_sem]) rfl ⟨_, _, rfl, prM_pv _ _ 0, act_new0 (two_new w _ _).1 HSS.out (acE b.toNat []) _ _ _ _ (by simp) (SL.nil _ _ _) (SL.nil _ _ _) _ rfl, (two_new w _ _).1.alloc (by simp; omega) _⟩
theorem stepr_x1 (vp vi vu : Value) (p : Pr) (b : UInt8) (S : Nat → Prop) (w : World) (hp : SL vI w S vp p.params) (hi : SL vB w S vi p.inter) (hu : SL vB w S vu p.utf) (hS : ∀ x, S x → x < w.heap.size) (h24 : b.toNat ≠ 24) (h26 : b.toNat ≠ 26) (h27 : b.toNat ≠ 27) (hm0 : p.mode ≠ 0) (hm7 : p.mode ≠ 7) (hb0 : 32 ≤ b.toNat) (hb1 : b.toNat < 127) (hm : p.mode = 3) (h : 48 ≤ b.toNat) :
  Calls Tryz.prog 71 #[.agg #[.int .i64 (p.mode : Int), .int .u8 (p.priv : Int), vp, vi, vu], .int .u8 (b.toNat : Int)] w (VtPost S (prM 0, []) w) := by
 have HP := Lh hp
 have HI := Lh hi
 have HU := Lh hu
 have HSS := Lh hS
 obtain ⟨Ap, cp, rfl, p1, p2⟩ := hp.form
 obtain ⟨Ai, ci, rfl, i1, i2⟩ := hi.form
 obtain ⟨Au, cu, rfl, u1, u2⟩ := hu.form
 clear hp hi hu hS
 have hb255 := b.toNat_lt
 have d24 : ((b.toNat : Int) == 24) = false := bF (by omega)
 have d26 : ((b.toNat : Int) == 26) = false := bF (by omega)
 have d27 : ((b.toNat : Int) == 27) = false := bF (by omega)
 have m0 : ((p.mode : Int) == 0) = false := bF (by omega)
 have m7 : ((p.mode : Int) == 7) = false := bF (by omega)
 have l32 : decide ((b.toNat : Int) < 32) = false := by simp; omega
 have d127 : ((b.toNat : Int) == 127) = false := bF (by omega)
 have g128 : decide ((128 : Int) ≤ (b.toNat : Int)) = false := by simp; omega
 have m1 : ((p.mode : Int) == 1) = false := bF (by omega)
 have m2 : ((p.mode : Int) == 2) = false := bF (by omega)
 have m3 : ((p.mode : Int) == 3) = true := beq_iff_eq.2 (by omega)
 have g48 : (48 : Int) ≤ (b.toNat : Int) := by omega
 clear h24 h26 h27 hm0 hm7 hm
 go_enter Tryz.func71, Tryz.ntmps71
 go_wp2
 exact bodyPost_ret (v := .tuple #[.agg #[.int .i64 0, .int .u8 0, .slice none 0 0, .slice none 0 0, .slice none 0 0], .slice none 0 0]) (by simp [results, Tryz.results71, go_sem]) rfl ⟨_, _, rfl, prM_pv _ _ 0, AS.nil _ _ _, (two_new w _ _).1⟩
theorem stepr_x2 (vp vi vu : Value) (p : Pr) (b : UInt8) (S : Nat → Prop) (w : World) (hp : SL vI w S vp p.params) (hi : SL vB w S vi p.inter) (hu : SL vB w S vu p.utf) (hS : ∀ x, S x → x < w.heap.size) (h24 : b.toNat ≠ 24) (h26 : b.toNat ≠ 26) (h27 : b.toNat ≠ 27) (hm0 : p.mode ≠ 0) (hm7 : p.mode ≠ 7) (hb0 : 32 ≤ b.toNat) (hb1 : b.toNat < 127) (hm : p.mode = 3) (h : ¬ 48 ≤ b.toNat) :
  Calls Tryz.prog 71 #[.agg #[.int .i64 (p.mode : Int), .int .u8 (p.priv : Int), vp, vi, vu], .int .u8 (b.toNat : Int)] w (VtPost S (p, []) w) := by
 have HP := Lh hp
 have HI := Lh hi
 have HU := Lh hu
 have HSS := Lh hS
 obtain ⟨Ap, cp, rfl, p1, p2⟩ := hp.form
 obtain ⟨Ai, ci, rfl, i1, i2⟩ := hi.form
 obtain ⟨Au, cu, rfl, u1, u2⟩ := hu.form
 clear hp hi hu hS
 have hb255 := b.toNat_lt
 have d24 : ((b.toNat : Int) == 24) = false := bF (by omega)
 have d26 : ((b.toNat : Int) == 26) = false := bF (by omega)
 have d27 : ((b.toNat : Int) == 27) = false := bF (by omega)
 have m0 : ((p.mode : Int) == 0) = false := bF (by omega)
 have m7 : ((p.mode : Int) == 7) = false := bF (by omega)
 have l32 : decide ((b.toNat : Int) < 32) = false := by simp; omega
 have d127 : ((b.toNat : Int) == 127) = false := bF (by omega)
 have g128 : decide ((128 : Int) ≤ (b.toNat : Int)) = false := by simp; omega
 have m1 : ((p.mode : Int) == 1) = false := bF (by omega)
 have m2 : ((p.mode : Int) == 2) = false := bF (by omega)
 have m3 : ((p.mode : Int) == 3) = true := beq_iff_eq.2 (by omega)
 have g48 : decide ((48 : Int) ≤ (b.toNat : Int)) = false := by simp; omega
 clear h24 h26 h27 hm0 hm7 hm
 go_enter Tryz.func71, Tryz.ntmps71
 go_wp2
 exact bodyPost_ret (v := .tuple #[.agg (vPq p Ap Ai Au cp ci cu), .slice none 0 0]) (by simp [results, Tryz.results71, go_sem]) rfl ⟨_, _, rfl, ⟨_, _, _, rfl, sl_old (two_new w _ _).1 HSS.out HP.out, sl_old (two_new w _ _).1 HSS.out HI.out, sl_old (two_new w _ _).1 HSS.out HU.out⟩, AS.nil _ _ _, (two_new w _ _).1⟩
theorem stepr_y1 (vp vi vu : Value) (p : Pr) (b : UInt8) (S : Nat → Prop) (w : World) (hp : SL vI w S vp p.params) (hi : SL vB w S vi p.inter) (hu : SL vB w S vu p.utf) (hS : ∀ x, S x → x < w.heap.size) (h24 : b.toNat ≠ 24) (h26 : b.toNat ≠ 26) (h27 : b.toNat ≠ 27) (hm0 : p.mode ≠ 0) (hm7 : p.mode ≠ 7) (hb0 : 32 ≤ b.toNat) (hb1 : b.toNat < 127) (hm : p.mode = 6) (h : 64 ≤ b.toNat) :
  Calls Tryz.prog 71 #[.agg #[.int .i64 (p.mode : Int), .int .u8 (p.priv : Int), vp, vi, vu], .int .u8 (b.toNat : Int)] w (VtPost S (prM 0, []) w) := by
 have HP := Lh hp
 have HI := Lh hi
 have HU := Lh hu
 have HSS := Lh hS
 obtain ⟨Ap, cp, rfl, p1, p2⟩ := hp.form
 obtain ⟨Ai, ci, rfl, i1, i2⟩ := hi.form
 obtain ⟨Au, cu, rfl, u1, u2⟩ := hu.form
 clear hp hi hu hS
 have hb255 := b.toNat_lt
 have d24 : ((b.toNat : Int) == 24) = false := bF (by omega)
 have d26 : ((b.toNat : Int) == 26) = false := bF (by omega)
 have d27 : ((b.toNat : Int) == 27) = false := bF (by omega)
 have m0 : ((p.mode : Int) == 0) = false := bF (by omega)
 have m7 : ((p.mode : Int) == 7) = false := bF (by omega)
 have l32 : decide ((b.toNat : Int) < 32) = false := by simp; omega
 have d127 : ((b.toNat : Int) == 127) = false := bF (by omega)
 have g128 : decide ((128 : Int) ≤ (b.toNat : Int)) = false := by simp; omega
 have m1 : ((p.mode : Int) == 1) = false := bF (by omega)
 have m2 : ((p.mode : Int) == 2) = false := bF (by omega)
 have m3 : ((p.mode : Int) == 3) = false := bF (by omega)
 have m6 : ((p.mode : Int) == 6) = true := beq_iff_eq.2 (by omega)
 have g64 : (64 : Int) ≤ (b.toNat : Int) := by omega
 clear h24 h26 h27 hm0 hm7 hm
 go_enter Tryz.func71, Tryz.ntmps71
 go_wp2
 exact bodyPost_ret (v := .tuple #[.agg #[.int .i64 0, .int .u8 0, .slice none 0 0, .slice none 0 0, .slice none 0 0], .slice none 0 0]) (by simp [results, Tryz.results71, go_sem]) rfl ⟨_, _, rfl, prM_pv _ _ 0, AS.nil _ _ _, (two_new w _ _).1⟩
theorem stepr_y2 (vp vi vu : Value) (p : Pr) (b : UInt8) (S : Nat → Prop) (w : World) (hp : SL vI w S vp p.params) (hi : SL vB w S vi p.inter) (hu : SL vB w S vu p.utf) (hS : ∀ x, S x → x < w.heap.size) (h24 : b.toNat ≠ 24) (h26 : b.toNat ≠ 26) (h27 : b.toNat ≠ 27) (hm0 : p.mode ≠ 0) (hm7 : p.mode ≠ 7) (hb0 : 32 ≤ b.toNat) (hb1 : b.toNat < 127) (hm : p.mode = 6) (h : ¬ 64 ≤ b.toNat) :
  Calls Tryz.prog 71 #[.agg #[.int .i64 (p.mode : Int), .int .u8 (p.priv : Int), vp, vi, vu], .int .u8 (b.toNat : Int)] w (VtPost S (p, []) w) := by
 have HP := Lh hp
 have HI := Lh hi
 have HU := Lh hu
 have HSS := Lh hS
 obtain ⟨Ap, cp, rfl, p1, p2⟩ := hp.form
 obtain ⟨Ai, ci, rfl, i1, i2⟩ := hi.form
 obtain ⟨Au, cu, rfl, u1, u2⟩ := hu.form
 clear hp hi hu hS
 have hb255 := b.toNat_lt
 have d24 : ((b.toNat : Int) == 24) = false := bF (by omega)
 have d26 : ((b.toNat : Int) == 26) = false := bF (by omega)
 have d27 : ((b.toNat : Int) == 27) = false := bF (by omega)
 have m0 : ((p.mode : Int) == 0) = false := bF (by omega)
 have m7 : ((p.mode : Int) == 7) = false := bF (by omega)
 have l32 : decide ((b.toNat : Int) < 32) = false := by simp; omega
 have d127 : ((b.toNat : Int) == 127) = false := bF (by omega)
 have g128 : decide ((128 : Int) ≤ (b.toNat : Int)) = false := by simp; omega
 have m1 : ((p.mode : Int) == 1) = false := bF (by omega)
 have m2 : ((p.mode : Int) == 2) = false := bF (by omega)
 have m3 : ((p.mode : Int) == 3) = false := bF (by omega)
 have m6 : ((p.mode : Int) == 6) = true := beq_iff_eq.2 (by omega)
 have g64 : decide ((64 : Int) ≤ (b.toNat : Int)) = false := by simp; omega
 clear h24 h26 h27 hm0 hm7 hm
 go_enter Tryz.func71, Tryz.ntmps71
 go_wp2
 exact bodyPost_ret (v := .tuple #[.agg (vPq p Ap Ai Au cp ci cu), .slice none 0 0]) (by simp [results, Tryz.results71, go_sem]) rfl ⟨_, _, rfl, ⟨_, _, _, rfl, sl_old (two_new w _ _).1 HSS.out HP.out, sl_old (two_new w _ _).1 HSS.out HI.out, sl_old (two_new w _ _).1 HSS.out HU.out⟩, AS.nil _ _ _, (two_new w _ _).1⟩
theorem stepr_i2 (vp vi vu : Value) (p : Pr) (b : UInt8) (S : Nat → Prop) (w : World) (hp : SL vI w S vp p.params) (hi : SL vB w S vi p.inter) (hu : SL vB w S vu p.utf) (hS : ∀ x, S x → x < w.heap.size) (h24 : b.toNat ≠ 24) (h26 : b.toNat ≠ 26) (h27 : b.toNat ≠ 27) (hm0 : p.mode ≠ 0) (hm7 : p.mode ≠ 7) (hb0 : 32 ≤ b.toNat) (hb1 : b.toNat < 127) (hm : p.mode = 2) (hB : interB b = true) (hl : 2 ≤ p.inter.length) :
  Calls Tryz.prog 71 #[.agg #[.int .i64 (p.mode : Int), .int .u8 (p.priv : Int), vp, vi, vu], .int .u8 (b.toNat : Int)] w (VtPost S (prM 3, []) w) := by
 have HP := Lh hp
 have HI := Lh hi
 have HU := Lh hu
 have HSS := Lh hS
 obtain ⟨Ap, cp, rfl, p1, p2⟩ := hp.form
 obtain ⟨Ai, ci, rfl, i1, i2⟩ := hi.form
 obtain ⟨Au, cu, rfl, u1, u2⟩ := hu.form
 clear hp hi hu hS
 have hb255 := b.toNat_lt
 have d24 : ((b.toNat : Int) == 24) = false := bF (by omega)
 have d26 : ((b.toNat : Int) == 26) = false := bF (by omega)
 have d27 : ((b.toNat : Int) == 27) = false := bF (by omega)
 have m0 : ((p.mode : Int) == 0) = false := bF (by omega)
 have m7 : ((p.mode : Int) == 7) = false := bF (by omega)
 have l32 : decide ((b.toNat : Int) < 32) = false := by simp; omega
 have d127 : ((b.toNat : Int) == 127) = false := bF (by omega)
 have g128 : decide ((128 : Int) ≤ (b.toNat : Int)) = false := by simp; omega
 have m1 : ((p.mode : Int) == 1) = false := bF (by omega)
 have m2 : ((p.mode : Int) == 2) = true := beq_iff_eq.2 (by omega)
 have HIB := Lh hB
 clear hB
 have hl2 : (2 : Int) ≤ (p.inter.length : Int) := by omega
 clear h24 h26 h27 hm0 hm7 hm
 go_enter Tryz.func71, Tryz.ntmps71
 go_wp2_with (go_at_call 88; refine (interr_any b _).mono ?_; rintro e w' ⟨rfl, rfl⟩; rw [HIB.out])
 exact bodyPost_ret (v := .tuple #[.agg #[.int .i64 3, .int .u8 0, .slice none 0 0, .slice none 0 0, .slice none 0 0], .slice none 0 0]) (by simp [results, Tryz.results71, go_sem]) rfl ⟨_, _, rfl, prM_pv _ _ 3, AS.nil _ _ _, (two_new w _ _).1⟩
theorem two_keptB {w w4 : World} {x y : Obj} (hb : Below (w.heap.size + 1 + 1) ((w.alloc x).alloc y) w4) : w4.heap[w.heap.size]? = some x ∧ w4.heap[w.heap.size + 1]? = some y := by
 refine ⟨(hb.block _ (by omega)).trans ?_, (hb.block _ (by omega)).trans ?_⟩
 ·show ((w.heap.push x).push y)[w.heap.size]? = some x
  rw [Array.getElem?_push, if_neg (by simp), Array.getElem?_push, if_pos rfl]
 ·show ((w.heap.push x).push y)[w.heap.size + 1]? = some y
  rw [Array.getElem?_push, if_pos (by simp)]
def wset (w w5 : World) (y0 y1 y2 y3 y4 : Value) : World := ((((w5.setCell ⟨w.heap.size + 1, 0, none⟩ y0).setCell ⟨w.heap.size + 1, 1, none⟩ y1).setCell ⟨w.heap.size + 1, 2, none⟩ y2).setCell ⟨w.heap.size + 1, 3, none⟩ y3).setCell ⟨w.heap.size + 1, 4, none⟩ y4
theorem wset_size (w w5 : World) (y0 y1 y2 y3 y4 : Value) : (wset w w5 y0 y1 y2 y3 y4).heap.size = w5.heap.size := by simp [wset]
theorem wset_below {w w5 : World} {y0 y1 y2 y3 y4 : Value} (h : Below w.heap.size w w5) : Below w.heap.size w (wset w w5 y0 y1 y2 y3 y4) :=
 ((((h.setCell (Nat.le_succ _) _).setCell (Nat.le_succ _) _).setCell (Nat.le_succ _) _).setCell (Nat.le_succ _) _).setCell (Nat.le_succ _) _
theorem wset_cell {w w5 : World} {y0 y1 y2 y3 y4 : Value} {S : Nat → Prop} (hne : ∀ x, S x → x ≠ w.heap.size + 1) : ∀ q : Addr, S q.block → (wset w w5 y0 y1 y2 y3 y4).cell? q = w5.cell? q := by
 intro q hq
 have hn := hne _ hq
 unfold wset
 have h1 (W : World) (i : Nat) (y : Value) : (W.setCell ⟨w.heap.size + 1, i, none⟩ y).cell? q = W.cell? q := World.cell?_of_block (Below.heap_setCell _ _ _ _ hn)
 rw [h1, h1, h1, h1, h1]
theorem utf_post {w w4 w5 : World} {S : Nat → Prop} {qv av : Value} {u : List UInt8} {l : List Ac} (hb : Below w.heap.size w w5) (hq : BN w4 (w.heap.size + 1 + 1) qv u) (hb5 : Below w4.heap.size w4 w5) (ho : OA w5 w4.heap.size (fun _ => False) av l) (hz4 : w.heap.size + 1 + 1 ≤ w4.heap.size) :
  VtPost S ({ prM 0 with utf := u }, l) w (.returned (.tuple #[.agg #[.int .i64 0, .int .u8 0, .slice none 0 0, .slice none 0 0, qv], av])) (wset w w5 (.int .i64 0) (.int .u8 0) (.slice none 0 0) (.slice none 0 0) qv) := by
 have hsz := wset_size w w5 (.int .i64 0) (.int .u8 0) (.slice none 0 0) (.slice none 0 0) qv
 have h1 : SL vB w5 (NewB w4 (w.heap.size + 1 + 1)) qv u := hq.sl.keep (fun q h => hb5.cell h.2)
 have h2 := h1.keep (wset_cell (w := w) (w5 := w5) (y0 := .int .i64 0) (y1 := .int .u8 0) (y2 := .slice none 0 0) (y3 := .slice none 0 0) (y4 := qv) (fun x hx => by have := hx.1; omega))
 have h3 := ho.as.keep (wset_cell (w := w) (w5 := w5) (y0 := .int .i64 0) (y1 := .int .u8 0) (y2 := .slice none 0 0) (y3 := .slice none 0 0) (y4 := qv) (fun x hx => by have := hx.1; omega)) (fun _ h => h.elim)
 have hz5 := hb5.size
 exact ⟨_, _, rfl, ⟨_, _, _, rfl, SL.nil _ _ _, SL.nil _ _ _, h2.mono (fun x hx => .inr ⟨by have := hx.1; omega, by rw [hsz]; have := hx.2; omega⟩)⟩, h3.mono (fun x hx => ⟨by have := hx.1; omega, by rw [hsz]; exact hx.2⟩) (fun _ h => h.elim), wset_below hb⟩
theorem stepr_g3 (vp vi vu : Value) (p : Pr) (b : UInt8) (S : Nat → Prop) (w : World) (hp : SL vI w S vp p.params) (hi : SL vB w S vi p.inter) (hu : SL vB w S vu p.utf) (hS : ∀ x, S x → x < w.heap.size) (hm : p.mode = 0) (h24 : b.toNat ≠ 27) (hb0 : 32 ≤ b.toNat) (hb1 : b.toNat ≠ 127) :
  Calls Tryz.prog 71 #[.agg #[.int .i64 (p.mode : Int), .int .u8 (p.priv : Int), vp, vi, vu], .int .u8 (b.toNat : Int)] w (VtPost S ({ prM 0 with utf := (stepL [] b).1 }, printsL (stepL [] b).2) w) := by
 obtain ⟨Ap, cp, rfl, p1, p2⟩ := hp.form
 obtain ⟨Ai, ci, rfl, i1, i2⟩ := hi.form
 obtain ⟨Au, cu, rfl, u1, u2⟩ := hu.form
 clear hp hi hu hS
 have d24 : ((b.toNat : Int) == 24) = false := bF (by omega)
 have d26 : ((b.toNat : Int) == 26) = false := bF (by omega)
 have d27 : ((b.toNat : Int) == 27) = false := bF (by omega)
 have d127 : ((b.toNat : Int) == 127) = false := bF (by omega)
 have m0 : ((p.mode : Int) == 0) = true := beq_iff_eq.2 (by omega)
 have l32 : decide ((b.toNat : Int) < 32) = false := by simp; omega
 have hsl := stepL_len [] b
 clear hm h24 hb1
 go_enter Tryz.func71, Tryz.ntmps71
 go_wp2_with (first
  | (go_at_call 68; refine (stepr_any (.slice none 0 0) [] b _ (BS.nil _ _)).mono ?_; rintro e w4 ⟨v1, v2, rfl, hq, hr, hb4⟩; rw [(two_new w _ _).2] at hq hb4; obtain ⟨Aq, cq, rfl, _, _, -⟩ := hq.1.at_; have HQ := Lh hq; have HB4 := Lh hb4; clear hq hb4)
  | (go_at_call 70; refine (printsr_any _ (stepL [] b).2 _ hr (by omega)).mono ?_; rintro e w5 ⟨v3, rfl, ho, hb5⟩; have hb45 := HB4.out.trans (hb5.mono (by have := HB4.out.size; rw [(two_new w _ _).2] at this; exact this)); obtain ⟨k0, k1⟩ := two_keptB hb45; obtain ⟨e0, e1, e2, e3, e4, ef⟩ := five_cells k1; have HB5 := Lh hb5; have HB45 := Lh hb45; have HO := Lh ho; clear hb5 hb45 ho k0 k1 hr))
 have h2 := two_new w (.cells (vPq p Ap Ai Au cp ci cu) 28) (.cells #[Value.int .i64 0, Value.int .u8 0, Value.slice none 0 0, Value.slice none 0 0, Value.slice none 0 0] 28)
 have hz4 := HB4.out.size
 rw [h2.2] at hz4
 exact bodyPost_ret (v := .tuple #[.agg #[.int .i64 0, .int .u8 0, .slice none 0 0, .slice none 0 0, Value.slice Aq (stepL [] b).1.length cq], v3]) (by simp [results, Tryz.results71, go_sem, e0, e1, e2, e3, e4]) rfl (utf_post (h2.1.trans (HB45.out.mono (by omega))) HQ.out HB5.out HO.out hz4)
theorem stepr_i1 (vp vi vu : Value) (p : Pr) (b : UInt8) (S : Nat → Prop) (w : World) (hp : SL vI w S vp p.params) (hi : SL vB w S vi p.inter) (hu : SL vB w S vu p.utf) (hS : ∀ x, S x → x < w.heap.size) (h27 : b.toNat ≠ 27) (hb0 : 32 ≤ b.toNat) (hb1 : b.toNat < 127) (hm : p.mode = 2) (hB : interB b = false) :
  Calls Tryz.prog 71 #[.agg #[.int .i64 (p.mode : Int), .int .u8 (p.priv : Int), vp, vi, vu], .int .u8 (b.toNat : Int)] w (VtPost S (prM 0, [acE b.toNat p.inter]) w) := by
 have HP := Lh hp
 have HI := Lh hi
 have HU := Lh hu
 have HSS := Lh hS
 obtain ⟨Ap, cp, rfl, p1, p2⟩ := hp.form
 obtain ⟨Ai, ci, rfl, i1, i2⟩ := hi.form
 obtain ⟨Au, cu, rfl, u1, u2⟩ := hu.form
 clear hp hi hu hS
 have d24 : ((b.toNat : Int) == 24) = false := bF (by omega)
 have d26 : ((b.toNat : Int) == 26) = false := bF (by omega)
 have d27 : ((b.toNat : Int) == 27) = false := bF (by omega)
 have d127 : ((b.toNat : Int) == 127) = false := bF (by omega)
 have l32 : decide ((b.toNat : Int) < 32) = false := by simp; omega
 have g128 : decide ((128 : Int) ≤ (b.toNat : Int)) = false := by simp; omega
 have HIB := Lh hB
 clear hB
 have m0 : ((p.mode : Int) == 0) = false := bF (by omega)
 have m7 : ((p.mode : Int) == 7) = false := bF (by omega)
 have m1 : ((p.mode : Int) == 1) = false := bF (by omega)
 have m2 : ((p.mode : Int) == 2) = true := beq_iff_eq.2 (by omega)
 clear hm h27
 go_enter Tryz.func71, Tryz.ntmps71
 go_wp2_with (go_at_call 88; refine (interr_any b _).mono ?_; rintro e w' ⟨rfl, rfl⟩; rw [HIB.out])
 go_region
 all_goals
  go_wp2
  exact bodyPost_ret (v := .tuple #[.agg #[.int .i64 0, .int .u8 0, .slice none 0 0, .slice none 0 0, .slice none 0 0], .slice (some ⟨w.heap.size + 1 + 1, 0, none⟩) 1 1]) (by simp [results, Tryz.results71, go_sem]) rfl ⟨_, _, rfl, prM_pv _ _ 0, act_new (two_new w _ _).1 HSS.out (acE b.toNat p.inter) _ _ _ _ (by simp) (SL.nil _ _ _) HI.out _ rfl, ((two_new w _ _).1.alloc (by simp; omega) _).drew⟩
theorem stepr_i3 (vp vi vu : Value) (p : Pr) (b : UInt8) (S : Nat → Prop) (w : World) (hp : SL vI w S vp p.params) (hi : SL vB w S vi p.inter) (hu : SL vB w S vu p.utf) (hS : ∀ x, S x → x < w.heap.size) (h27 : b.toNat ≠ 27) (hb0 : 32 ≤ b.toNat) (hb1 : b.toNat < 127) (hm : p.mode = 2) (hB : interB b = true) (hl : p.inter.length < 2) :
  Calls Tryz.prog 71 #[.agg #[.int .i64 (p.mode : Int), .int .u8 (p.priv : Int), vp, vi, vu], .int .u8 (b.toNat : Int)] w (VtPost S ({ prM 2 with inter := p.inter ++ [b] }, []) w) := by
 have HP := Lh hp
 have HI := Lh hi
 have HU := Lh hu
 have HSS := Lh hS
 obtain ⟨Ap, cp, rfl, p1, p2⟩ := hp.form
 obtain ⟨Ai, ci, rfl, i1, i2⟩ := hi.form
 obtain ⟨Au, cu, rfl, u1, u2⟩ := hu.form
 clear hp hi hu hS
 have d24 : ((b.toNat : Int) == 24) = false := bF (by omega)
 have d26 : ((b.toNat : Int) == 26) = false := bF (by omega)
 have d27 : ((b.toNat : Int) == 27) = false := bF (by omega)
 have d127 : ((b.toNat : Int) == 127) = false := bF (by omega)
 have l32 : decide ((b.toNat : Int) < 32) = false := by simp; omega
 have g128 : decide ((128 : Int) ≤ (b.toNat : Int)) = false := by simp; omega
 have HIB := Lh hB
 clear hB
 have m0 : ((p.mode : Int) == 0) = false := bF (by omega)
 have m7 : ((p.mode : Int) == 7) = false := bF (by omega)
 have m1 : ((p.mode : Int) == 1) = false := bF (by omega)
 have m2 : ((p.mode : Int) == 2) = true := beq_iff_eq.2 (by omega)
 have dl : decide ((2 : Int) ≤ (p.inter.length : Int)) = false := by simp; omega
 clear hm h27
 go_enter Tryz.func71, Tryz.ntmps71
 go_wp2_with (first
  | (go_at_call 88; refine (interr_any b _).mono ?_; rintro e w' ⟨rfl, rfl⟩; rw [HIB.out])
  | (go_at_call 95; refine (withr_any _ p.inter b _ (((HI.out.bs HSS.out).below (two_new w _ _).1).more (two_new w _ _).1.size) (by omega)).mono ?_; rintro e w4 ⟨u, rfl, ho, hb4⟩; rw [(two_new w _ _).2] at ho hb4; obtain ⟨k0, k1⟩ := two_keptB hb4; obtain ⟨e0, e1, e2, e3, e4, ef⟩ := five_cells k1; obtain ⟨Av, cv, rfl, _, _, -⟩ := ho.bs.at_; have HO := Lh ho; have HB4 := Lh hb4; clear ho hb4 k0 k1))
 have h2 := two_new w (.cells (vPq p Ap Ai Au cp ci cu) 28) (.cells #[Value.int .i64 0, Value.int .u8 0, Value.slice none 0 0, Value.slice none 0 0, Value.slice none 0 0] 28)
 have hb5 := h2.1.trans (HB4.out.mono (by omega))
 have ho := HO.out.sl
 rw [List.length_append] at ho
 have ho2 := ho.keep (wset_cell (w := w) (w5 := w4) (y0 := .int .i64 2) (y1 := .int .u8 0) (y2 := .slice none 0 0) (y3 := .slice Av (p.inter.length + 1) cv) (y4 := .slice none 0 0) (fun x hx => by have := hx.1; omega))
 have hsz := wset_size w w4 (.int .i64 2) (.int .u8 0) (.slice none 0 0) (.slice Av (p.inter.length + 1) cv) (.slice none 0 0)
 have hpost : VtPost S ({ prM 2 with inter := p.inter ++ [b] }, []) w (.returned (.tuple #[.agg #[.int .i64 2, .int .u8 0, .slice none 0 0, .slice Av (p.inter.length + 1) cv, .slice none 0 0], .slice none 0 0])) (wset w w4 (.int .i64 2) (.int .u8 0) (.slice none 0 0) (.slice Av (p.inter.length + 1) cv) (.slice none 0 0)) :=
  ⟨_, _, rfl, ⟨_, _, _, rfl, SL.nil _ _ _, ho2.mono (fun x hx => .inr ⟨by have := hx.1; omega, by rw [hsz]; exact hx.2⟩), SL.nil _ _ _⟩, AS.nil _ _ _, wset_below hb5⟩
 exact bodyPost_ret (v := .tuple #[.agg #[.int .i64 2, .int .u8 0, .slice none 0 0, .slice Av (p.inter.length + 1) cv, .slice none 0 0], .slice none 0 0]) (by simp [results, Tryz.results71, go_sem, e0, e1, e2, e3, e4]) rfl hpost
theorem hand_post {w w4 : World} {S : Nat → Prop} {m pr : Int} {vp vi vu av : Value} {r : Pr × List Ac} (hb : Below w.heap.size w w4) (hS : ∀ x, S x → x < w.heap.size) (hz : w.heap.size + 1 + 1 ≤ w4.heap.size)
  (hq : PV w4 (fun x => S x ∨ NewB w4 (w.heap.size + 1 + 1) x) (.agg #[.int .i64 m, .int .u8 pr, vp, vi, vu]) r.1) (ha : AS w4 (NewB w4 (w.heap.size + 1 + 1)) (fun x => S x ∨ NewB w4 (w.heap.size + 1 + 1) x) av r.2) :
  VtPost S r w (.returned (.tuple #[.agg #[.int .i64 m, .int .u8 pr, vp, vi, vu], av])) (wset w w4 (.int .i64 m) (.int .u8 pr) vp vi vu) := by
 have hsz := wset_size w w4 (.int .i64 m) (.int .u8 pr) vp vi vu
 have hk := wset_cell (w := w) (w5 := w4) (y0 := .int .i64 m) (y1 := .int .u8 pr) (y2 := vp) (y3 := vi) (y4 := vu) (S := fun x => S x ∨ NewB w4 (w.heap.size + 1 + 1) x) (fun x hx => by
  rcases hx with h | h
  ·have := hS x h; omega
  ·have := h.1; omega)
 have hk2 := wset_cell (w := w) (w5 := w4) (y0 := .int .i64 m) (y1 := .int .u8 pr) (y2 := vp) (y3 := vi) (y4 := vu) (S := NewB w4 (w.heap.size + 1 + 1)) (fun x hx => by have := hx.1; omega)
 have hmono : ∀ x, (S x ∨ NewB w4 (w.heap.size + 1 + 1) x) → (S x ∨ NewB (wset w w4 (.int .i64 m) (.int .u8 pr) vp vi vu) w.heap.size x) := fun x hx => hx.imp id (fun h => ⟨by have := h.1; omega, by rw [hsz]; exact h.2⟩)
 exact ⟨_, _, rfl, (hq.keep hk).mono hmono, (ha.keep hk2 hk).mono (fun x h => ⟨by have := h.1; omega, by rw [hsz]; exact h.2⟩) hmono, wset_below hb⟩
theorem stepr_z (vp vi vu : Value) (p : Pr) (b : UInt8) (S : Nat → Prop) (w : World) (hp : SL vI w S vp p.params) (hi : SL vB w S vi p.inter) (hu : SL vB w S vu p.utf) (hS : ∀ x, S x → x < w.heap.size) (h27 : b.toNat ≠ 27) (hb0 : 32 ≤ b.toNat) (hb1 : b.toNat < 127) (hm : p.mode = 4 ∨ p.mode = 5) (hok : PrOk p) :
  Calls Tryz.prog 71 #[.agg #[.int .i64 (p.mode : Int), .int .u8 (p.priv : Int), vp, vi, vu], .int .u8 (b.toNat : Int)] w (VtPost S (csiL p b) w) := by
 have HP := Lh hp
 have HI := Lh hi
 have HU := Lh hu
 have HSS := Lh hS
 obtain ⟨Ap, cp, rfl, p1, p2⟩ := hp.form
 obtain ⟨Ai, ci, rfl, i1, i2⟩ := hi.form
 obtain ⟨Au, cu, rfl, u1, u2⟩ := hu.form
 clear hp hi hu hS
 have d24 : ((b.toNat : Int) == 24) = false := bF (by omega)
 have d26 : ((b.toNat : Int) == 26) = false := bF (by omega)
 have d27 : ((b.toNat : Int) == 27) = false := bF (by omega)
 have d127 : ((b.toNat : Int) == 127) = false := bF (by omega)
 have l32 : decide ((b.toNat : Int) < 32) = false := by simp; omega
 have g128 : decide ((128 : Int) ≤ (b.toNat : Int)) = false := by simp; omega
 have m0 : ((p.mode : Int) == 0) = false := bF (by omega)
 have m7 : ((p.mode : Int) == 7) = false := bF (by omega)
 have m1 : ((p.mode : Int) == 1) = false := bF (by omega)
 have m2 : ((p.mode : Int) == 2) = false := bF (by omega)
 have m3 : ((p.mode : Int) == 3) = false := bF (by omega)
 have m6 : ((p.mode : Int) == 6) = false := bF (by omega)
 have HOK := Lh hok
 clear hm h27 hok
 go_enter Tryz.func71, Tryz.ntmps71
 go_wp2_with (go_at_call 96; refine (csir_any _ _ _ p b S _ (HP.out.keep (fun q hq => (two_new w _ _).1.cell (HSS.out _ hq))) (HI.out.keep (fun q hq => (two_new w _ _).1.cell (HSS.out _ hq))) (HU.out.keep (fun q hq => (two_new w _ _).1.cell (HSS.out _ hq))) (fun x hx => Nat.lt_of_lt_of_le (HSS.out x hx) (two_new w _ _).1.size) HOK.out hb0).mono ?_; rintro e w4 ⟨qv, av, rfl, hq, ha, hb4⟩; rw [(two_new w _ _).2] at hq ha hb4; obtain ⟨k0, k1⟩ := two_keptB hb4; obtain ⟨e0, e1, e2, e3, e4, ef⟩ := five_cells k1; have HQ := Lh hq; have HA := Lh ha; have HB4 := Lh hb4; obtain ⟨v1, v2, v3, rfl, s1, s2, s3⟩ := hq; obtain ⟨Aa, ca, rfl, _, _⟩ := s1.form; obtain ⟨Ab, cb, rfl, _, _⟩ := s2.form; obtain ⟨Ac, cc, rfl, _, _⟩ := s3.form; clear s1 s2 s3 ha hb4 k0 k1)
 have h2 := two_new w (.cells (vPq p Ap Ai Au cp ci cu) 28) (.cells #[Value.int .i64 0, Value.int .u8 0, Value.slice none 0 0, Value.slice none 0 0, Value.slice none 0 0] 28)
 have hz4 := HB4.out.size
 rw [h2.2] at hz4
 exact bodyPost_ret (v := .tuple #[.agg #[.int .i64 ((csiL p b).1.mode : Int), .int .u8 ((csiL p b).1.priv : Int), Value.slice Aa (csiL p b).1.params.length ca, Value.slice Ab (csiL p b).1.inter.length cb, Value.slice Ac (csiL p b).1.utf.length cc], av]) (by simp [results, Tryz.results71, go_sem, e0, e1, e2, e3, e4]) rfl (hand_post (h2.1.trans (HB4.out.mono (by omega))) HSS.out hz4 HQ.out HA.out)
theorem vtNr_any (vp vi vu : Value) (p : Pr) (b : UInt8) (S : Nat → Prop) (w : World) (hp : SL vI w S vp p.params) (hi : SL vB w S vi p.inter) (hu : SL vB w S vu p.utf) (hS : ∀ x, S x → x < w.heap.size) (hok : PrOk p) :
  Calls Tryz.prog 71 #[.agg #[.int .i64 (p.mode : Int), .int .u8 (p.priv : Int), vp, vi, vu], .int .u8 (b.toNat : Int)] w (VtPost S (vtN p b) w) := by
 have hmode := hok.mode
 unfold vtN
 by_cases h24 : b.toNat = 24
 ·rw [if_pos (.inl h24)]
  exact stepr_24 vp vi vu p b S w hp hi hu hS h24
 by_cases h26 : b.toNat = 26
 ·rw [if_pos (.inr h26)]
  exact stepr_26 vp vi vu p b S w hp hi hu hS h26
 rw [if_neg (by omega)]
 by_cases h27 : b.toNat = 27
 ·rw [if_pos h27]
  exact stepr_27 vp vi vu p b S w hp hi hu hS h27
 rw [if_neg h27]
 by_cases hm0 : p.mode = 0
 ·rw [if_pos hm0]
  by_cases h32 : b.toNat < 32
  ·rw [if_pos h32]
   exact stepr_g1 vp vi vu p b S w hp hi hu hS h24 h26 h27 hm0 h32
  rw [if_neg h32]
  by_cases h127 : b.toNat = 127
  ·rw [if_pos h127]
   exact stepr_g2 vp vi vu p b S w hp hi hu hS h24 h26 h27 hm0 h127
  rw [if_neg h127]
  exact stepr_g3 vp vi vu p b S w hp hi hu hS hm0 h27 (by omega) h127
 rw [if_neg hm0]
 by_cases hm7 : p.mode = 7
 ·rw [if_pos hm7]
  by_cases h7 : b.toNat = 7
  ·rw [if_pos h7]
   exact stepr_s1 vp vi vu p b S w hp hi hu hS h24 h26 h27 hm7 h7
  ·rw [if_neg h7]
   exact stepr_s2 vp vi vu p b S w hp hi hu hS h24 h26 h27 hm7 h7
 rw [if_neg hm7]
 by_cases h32 : b.toNat < 32
 ·rw [if_pos h32]
  exact stepr_c1 vp vi vu p b S w hp hi hu hS h24 h26 h27 hm0 hm7 h32
 rw [if_neg h32]
 by_cases h127 : b.toNat = 127
 ·rw [if_pos h127]
  exact stepr_c2 vp vi vu p b S w hp hi hu hS h24 h26 h27 hm0 hm7 h127
 rw [if_neg h127]
 by_cases h128 : 128 ≤ b.toNat
 ·rw [if_pos h128]
  exact stepr_c3 vp vi vu p b S w hp hi hu hS h24 h26 h27 hm0 hm7 h128
 rw [if_neg h128]
 have hb0 : 32 ≤ b.toNat := by omega
 have hb1 : b.toNat < 127 := by omega
 unfold vtM
 by_cases hm1 : p.mode = 1
 ·rw [if_pos hm1]
  cases hB : interB b
  ·rw [if_neg (by simp)]
   by_cases h91 : b.toNat = 91
   ·rw [if_pos h91]
    exact stepr_e2 vp vi vu p b S w hp hi hu hS h24 h26 h27 hm0 hm7 hb0 hb1 hm1 hB h91
   rw [if_neg h91]
   by_cases h93 : b.toNat = 93
   ·rw [if_pos (.inl h93)]
    exact stepr_e3_93 vp vi vu p b S w hp hi hu hS h24 h26 h27 hm0 hm7 hb0 hb1 hm1 hB h93
   by_cases h80 : b.toNat = 80
   ·rw [if_pos (by omega)]
    exact stepr_e3_80 vp vi vu p b S w hp hi hu hS h24 h26 h27 hm0 hm7 hb0 hb1 hm1 hB h80
   by_cases h88 : b.toNat = 88
   ·rw [if_pos (by omega)]
    exact stepr_e3_88 vp vi vu p b S w hp hi hu hS h24 h26 h27 hm0 hm7 hb0 hb1 hm1 hB h88
   by_cases h94 : b.toNat = 94
   ·rw [if_pos (by omega)]
    exact stepr_e3_94 vp vi vu p b S w hp hi hu hS h24 h26 h27 hm0 hm7 hb0 hb1 hm1 hB h94
   by_cases h95 : b.toNat = 95
   ·rw [if_pos (by omega)]
    exact stepr_e3_95 vp vi vu p b S w hp hi hu hS h24 h26 h27 hm0 hm7 hb0 hb1 hm1 hB h95
   ·rw [if_neg (by omega)]
    exact stepr_e4 vp vi vu p b S w hp hi hu hS h24 h26 h27 hm0 hm7 hb0 hb1 hm1 hB h91 h93 h80 h88 h94 h95
  ·rw [if_pos rfl]
   exact stepr_e1 vp vi vu p b S w hp hi hu hS h24 h26 h27 hm0 hm7 hb0 hb1 hm1 hB
 rw [if_neg hm1]
 by_cases hm2 : p.mode = 2
 ·rw [if_pos hm2]
  cases hB : interB b
  ·rw [if_pos rfl]
   exact stepr_i1 vp vi vu p b S w hp hi hu hS h27 hb0 hb1 hm2 hB
  ·rw [if_neg (by simp)]
   by_cases hl : 2 ≤ p.inter.length
   ·rw [if_pos hl]
    exact stepr_i2 vp vi vu p b S w hp hi hu hS h24 h26 h27 hm0 hm7 hb0 hb1 hm2 hB hl
   ·rw [if_neg hl]
    exact stepr_i3 vp vi vu p b S w hp hi hu hS h27 hb0 hb1 hm2 hB (by omega)
 rw [if_neg hm2]
 by_cases hm3 : p.mode = 3
 ·rw [if_pos hm3]
  by_cases h : 48 ≤ b.toNat
  ·rw [if_pos h]
   exact stepr_x1 vp vi vu p b S w hp hi hu hS h24 h26 h27 hm0 hm7 hb0 hb1 hm3 h
  ·rw [if_neg h]
   exact stepr_x2 vp vi vu p b S w hp hi hu hS h24 h26 h27 hm0 hm7 hb0 hb1 hm3 h
 rw [if_neg hm3]
 by_cases hm6 : p.mode = 6
 ·rw [if_pos hm6]
  by_cases h : 64 ≤ b.toNat
  ·rw [if_pos h]
   exact stepr_y1 vp vi vu p b S w hp hi hu hS h24 h26 h27 hm0 hm7 hb0 hb1 hm6 h
  ·rw [if_neg h]
   exact stepr_y2 vp vi vu p b S w hp hi hu hS h24 h26 h27 hm0 hm7 hb0 hb1 hm6 h
 rw [if_neg hm6]
 exact stepr_z vp vi vu p b S w hp hi hu hS h27 hb0 hb1 (by omega) hok
end Go.Proofs.YthepofkdgbcifaaGreat
