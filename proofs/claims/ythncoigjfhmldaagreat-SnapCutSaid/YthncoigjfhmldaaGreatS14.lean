/- What is proved here: parts of the proofs of the laws of layer 10. -/
import Derived.Test.YthncoigjfhmldaaGreatS5
import Derived.Test.YthncoigjfhmldaaGreatS11
import Derived.Test.YthncoigjfhmldaaGreatS13
import Derived.Test.YthncoigjfhmldaaGreatS9
import Derived.Test.YthncoigjfhmldaaGreatS2
namespace Go.Proofs.YthncoigjfhmldaaGreat
open Go.RowKit
set_option linter.unusedVariables false
set_option linter.unusedSimpArgs false
set_option maxHeartbeats 4000000
set_option maxRecDepth 100000
structure Fr (B : Nat → Prop) (w w' : World) : Prop where
 os : w'.os = w.os
 tape : w'.tape = w.tape
 output : w'.output = w.output
 size : w.heap.size ≤ w'.heap.size
 block : ∀ k, k < w.heap.size → ¬ B k → w'.heap[k]? = w.heap[k]?
section
variable {B B1 : Nat → Prop} {w w1 w2 : World}
theorem Fr.refl (B : Nat → Prop) (w : World) : Fr B w w := ⟨rfl, rfl, rfl, Nat.le_refl _, fun _ _ _ => rfl⟩
theorem Fr.of (h : Below w.heap.size w w1) (B : Nat → Prop) : Fr B w w1 := ⟨h.os, h.tape, h.output, h.size, fun k hk _ => h.block k hk⟩
theorem Fr.below {n : Nat} (h : Fr B w w1) (hB : ∀ x, B x → n ≤ x) (hn : n ≤ w.heap.size) : Below n w w1 := ⟨h.os, h.tape, h.output, h.size, fun k hk => h.block k (by omega) (fun hb => by have := hB k hb; omega)⟩
theorem Fr.trans (h : Fr B w w1) (h2 : Fr B1 w1 w2) (hB : ∀ x, B1 x → B x ∨ w.heap.size ≤ x) : Fr B w w2 :=
 ⟨h2.os.trans h.os, h2.tape.trans h.tape, h2.output.trans h.output, Nat.le_trans h.size h2.size, fun k hk hn =>
  (h2.block k (Nat.lt_of_lt_of_le hk h.size) (fun hb => (hB k hb).elim hn (fun h => by omega))).trans (h.block k hk hn)⟩
theorem Fr.mono (h : Fr B w w1) (hB : ∀ x, B x → B1 x) : Fr B1 w w1 := ⟨h.os, h.tape, h.output, h.size, fun k hk hn => h.block k hk (fun hb => hn (hB k hb))⟩
theorem Fr.alloc (h : Fr B w w1) (o : Obj) : Fr B w (w1.alloc o) :=
 ⟨h.os, h.tape, h.output, by have := h.size; simp; omega, fun k hk hn => (Below.heap_alloc _ _ _ (Nat.lt_of_lt_of_le hk h.size)).trans (h.block k hk hn)⟩
theorem Fr.drew (h : Fr B w w1) : Fr B w w1.drew := ⟨h.os, h.tape, h.output, h.size, h.block⟩
theorem Fr.setCell (h : Fr B w w1) {p : Addr} (hp : B p.block ∨ w.heap.size ≤ p.block) (u : Value) : Fr B w (w1.setCell p u) :=
 ⟨h.os, h.tape, h.output, by have := h.size; simp; omega, fun k hk hn => (Below.heap_setCell _ _ _ _ (fun e => hp.elim (fun hb => hn (by rw [e]; exact hb)) (fun hh => by omega))).trans (h.block k hk hn)⟩
theorem Fr.grown {row : Option Nat} (h : Fr B w w1) (hg : w1.grownBy w2 row) (hr : ∀ k, row = some k → B k ∨ w.heap.size ≤ k) : Fr B w w2 :=
 ⟨hg.os.trans h.os, hg.tape.trans h.tape, hg.output.trans h.output, Nat.le_trans h.size hg.size, fun k hk hn =>
  (hg.block k (Nat.lt_of_lt_of_le hk h.size) (fun e => (hr k e.symm).elim hn (fun hh => by omega))).trans (h.block k hk hn)⟩
end
theorem own_keep {w w' : World} {base size n : Nat} {e : TypeId} {v : Value} {xs : List Value} (h : w.ownsRow base e size v n xs) (hk : ∀ g, v.ownBlock = some g → w'.heap[g]? = w.heap[g]?) : w'.ownsRow base e size v n xs := by
 refine ⟨h.1, ?_⟩
 rcases h.2 with hn | ⟨g, cap, cur, rfl, hb, hgg, rest⟩
 ·exact .inl hn
 ·exact .inr ⟨g, cap, cur, rfl, hb, (hk g rfl).trans hgg, rest⟩
theorem OA.keepB {w w' : World} {base : Nat} {S : Nat → Prop} {v : Value} {l : List Ac} (h : OA w base S v l) (hk : ∀ g, v.ownBlock = some g → w'.heap[g]? = w.heap[g]?) (hS : ∀ g, S g → w'.heap[g]? = w.heap[g]?) : OA w' base S v l := by
 obtain ⟨xs, a, b, c⟩ := h
 exact ⟨xs, own_keep a hk, b.keep (fun q hq => World.cell?_of_block (hS _ hq)), c⟩
theorem own_apart {w : World} {b1 b2 z1 z2 n1 n2 : Nat} {e1 e2 : TypeId} {v1 v2 : Value} {xs1 xs2 : List Value} (h1 : w.ownsRow b1 e1 z1 v1 n1 xs1) (h2 : w.ownsRow b2 e2 z2 v2 n2 xs2) (hne : e1 ≠ e2) (g : Nat) (hg1 : v1.ownBlock = some g) (hg2 : v2.ownBlock = some g) : False := by
 rcases h1.2 with ⟨rfl, _⟩ | ⟨g1, c1, u1, rfl, _, k1, _⟩
 ·cases hg1
 rcases h2.2 with ⟨rfl, _⟩ | ⟨g2, c2, u2, rfl, _, k2, _⟩
 ·cases hg2
 simp [Value.ownBlock] at hg1 hg2
 subst hg1
 subst hg2
 rw [k1] at k2
 injection k2 with k2
 injection k2 with _ k2 _
 exact hne k2
def StL (w : World) (base : Nat) (B : Nat → Prop) (vp vi vu av : Value) (ps : List Int) (is us : List UInt8) (l : List Ac) : Prop :=
 ∃ S : Nat → Prop, (OI w base vp ps ∧ OB w base vi is ∧ SL vB w S vu us ∧ OA w base S av l) ∧ (∀ x, S x → B x) ∧ (∀ x, B x → base ≤ x ∧ x < w.heap.size) ∧ (∀ g, vp.ownBlock = some g → B g ∧ ¬ S g) ∧ (∀ g, vi.ownBlock = some g → B g ∧ ¬ S g) ∧ (∀ g, av.ownBlock = some g → B g)
section
variable {w w' : World} {base : Nat} {B : Nat → Prop} {vp vi vu av : Value} {ps : List Int} {is us : List UInt8} {l : List Ac}
theorem StL.lt (h : StL w base B vp vi vu av ps is us l) : ∀ x, B x → base ≤ x ∧ x < w.heap.size := by
 obtain ⟨S, _, _, h3, _⟩ := h
 exact h3
theorem StL.keep (h : StL w base B vp vi vu av ps is us l) (hk : ∀ x, B x → w'.heap[x]? = w.heap[x]?) : StL w' base B vp vi vu av ps is us l := by
 obtain ⟨S, ⟨a1, a2, a3, a4⟩, h2, h3, h4, h5, h6⟩ := h
 refine ⟨S, ⟨own_keep a1 (fun g hg => hk g (h4 g hg).1), own_keep a2 (fun g hg => hk g (h5 g hg).1), a3.keep (fun q hq => World.cell?_of_block (hk _ (h2 _ hq))), a4.keepB (fun g hg => hk g (h6 g hg)) (fun g hg => hk g (h2 g hg))⟩, h2, fun x hx => ⟨(h3 x hx).1, ?_⟩, h4, h5, h6⟩
 have h7 := hk x hx
 have h8 := (h3 x hx).2
 rcases Nat.lt_or_ge x w'.heap.size with h9 | h9
 ·exact h9
 ·rw [Array.getElem?_eq_none h9] at h7
  rw [Array.getElem?_eq_getElem h8] at h7
  cases h7
theorem StL.below (h : StL w base B vp vi vu av ps is us l) (hb : Below w.heap.size w w') : StL w' base B vp vi vu av ps is us l := h.keep (fun x hx => hb.block x (h.lt x hx).2)
theorem StL.set (h : StL w base B vp vi vu av ps is us l) {p : Addr} (hp : ¬ B p.block) (u : Value) : StL (w.setCell p u) base B vp vi vu av ps is us l := h.keep (fun x hx => Below.heap_setCell _ _ _ _ (fun e => hp (by rw [← e]; exact hx)))
theorem StL.form (h : StL w base B vp vi vu av ps is us l) : ∃ Ap cp Ai ci Au cu Aa ca, vp = .slice Ap ps.length cp ∧ vi = .slice Ai is.length ci ∧ vu = .slice Au us.length cu ∧ av = .slice Aa l.length ca ∧ (ps.length ≤ cp ∧ cp ≤ 9223372036854775807) ∧ (is.length ≤ ci ∧ ci ≤ 9223372036854775807) ∧ (us.length ≤ cu ∧ cu ≤ 9223372036854775807) ∧ (l.length ≤ ca ∧ ca ≤ 9223372036854775807) := by
 obtain ⟨S, ⟨a1, a2, a3, a4⟩, -⟩ := h
 obtain ⟨Ap, cp, rfl, p1, p2⟩ := a1.sl.form
 obtain ⟨Ai, ci, rfl, i1, i2⟩ := a2.sl.form
 obtain ⟨Au, cu, rfl, u1, u2⟩ := a3.form
 obtain ⟨Aa, ca, rfl, x1, x2⟩ := a4.as.form
 exact ⟨Ap, cp, Ai, ci, Au, cu, Aa, ca, rfl, rfl, rfl, rfl, ⟨p1, p2⟩, ⟨i1, i2⟩, ⟨u1, u2⟩, ⟨x1, x2⟩⟩
theorem StL.noP (h : StL w base B vp vi vu av ps is us l) : StL w base B (.slice none 0 0) vi vu av [] is us l := by
 obtain ⟨S, ⟨a1, a2, a3, a4⟩, h2, h3, h4, h5, h6⟩ := h
 exact ⟨S, ⟨OI.nil _ _, a2, a3, a4⟩, h2, h3, fun g hg => by (cases hg), h5, h6⟩
theorem StL.noI (h : StL w base B vp vi vu av ps is us l) : StL w base B vp (.slice none 0 0) vu av ps [] us l := by
 obtain ⟨S, ⟨a1, a2, a3, a4⟩, h2, h3, h4, h5, h6⟩ := h
 exact ⟨S, ⟨a1, OB.nil _ _, a3, a4⟩, h2, h3, h4, fun g hg => by (cases hg), h6⟩
theorem StL.noU (h : StL w base B vp vi vu av ps is us l) : StL w base B vp vi (.slice none 0 0) av ps is [] l := by
 obtain ⟨S, ⟨a1, a2, a3, a4⟩, h2, h3, h4, h5, h6⟩ := h
 exact ⟨S, ⟨a1, a2, SL.nil _ _ _, a4⟩, h2, h3, h4, h5, h6⟩
theorem StL.zero (h : StL w base B vp vi vu av ps is us l) : StL w base B (.slice none 0 0) (.slice none 0 0) (.slice none 0 0) av [] [] [] l := h.noP.noI.noU
theorem StL.acts (h : StL w base B vp vi vu av ps is us l) : ∃ S, OA w base S av l ∧ (∀ x, S x → B x) ∧ (∀ g, av.ownBlock = some g → B g) ∧ (∀ g, vp.ownBlock = some g → ¬ S g) ∧ (∀ g, vi.ownBlock = some g → ¬ S g) ∧ SL vB w S vu us := by
 obtain ⟨S, ⟨a1, a2, a3, a4⟩, h2, h3, h4, h5, h6⟩ := h
 exact ⟨S, a4, h2, h6, fun g e => (h4 g e).2, fun g e => (h5 g e).2, a3⟩
theorem StL.more {S T : Nat → Prop} {av' : Value} {m : List Ac} (h : StL w base B vp vi vu av ps is us l) (ha : ∀ x, S x → B x) (hs : ∀ x, S x ∨ T x → B x) (ho : OA w' base (fun x => S x ∨ T x) av' (l ++ m)) (hg : w.grownBy w' av.ownBlock) (hv : ∀ g, av'.ownBlock = some g → B g ∨ w.heap.size ≤ g) (hbase : base ≤ w.heap.size) :
  ∃ B', StL w' base B' (.slice none 0 0) (.slice none 0 0) (.slice none 0 0) av' [] [] [] (l ++ m) ∧ ∀ x, B' x → B x ∨ w.heap.size ≤ x := by
 have h3 := h.lt
 refine ⟨fun x => B x ∨ av'.ownBlock = some x, ⟨_, ⟨OI.nil _ _, OB.nil _ _, SL.nil _ _ _, ho⟩, fun x hx => .inl (hs x hx), fun x hx => ?_, fun g e => by (cases e), fun g e => by (cases e), fun g e => .inr e⟩, fun x hx => hx.elim .inl (hv x)⟩
 rcases hx with hx | hx
 ·exact ⟨(h3 x hx).1, Nat.lt_of_lt_of_le (h3 x hx).2 hg.size⟩
 ·exact ho.lt x hx
theorem StL.act {S : Nat → Prop} {av' : Value} {m : List Ac} (h : StL w base B vp vi vu av ps is us l) (hS : ∀ x, S x → B x) (hsame : OA w base S av l) (ho : OA w' base (fun x => S x ∨ False) av' (l ++ m)) (hg : w.grownBy w' av.ownBlock) (hv : av'.ownBlock = av.ownBlock ∨ av'.ownBlock = some w.heap.size) (hbase : base ≤ w.heap.size)
  (hSp : ∀ g, vp.ownBlock = some g → ¬ S g) (hSi : ∀ g, vi.ownBlock = some g → ¬ S g) (hu : SL vB w S vu us) :
  ∃ B', StL w' base B' vp vi vu av' ps is us (l ++ m) ∧ ∀ x, B' x → B x ∨ w.heap.size ≤ x := by
 obtain ⟨S0, ⟨a1, a2, a3, a4⟩, h2, h3, h4, h5, h6⟩ := h
 have hk : ∀ x, B x → av.ownBlock ≠ some x → w'.heap[x]? = w.heap[x]? := fun x hx hn => hg.block x (h3 x hx).2 (fun e => hn e.symm)
 have hva : ∀ g, av'.ownBlock = some g → B g ∨ w.heap.size ≤ g := fun g e => by
  rcases hv with e2 | e2
  ·rw [e2] at e; exact .inl (h6 g e)
  ·rw [e2] at e; injection e with e; exact .inr (by omega)
 refine ⟨fun x => B x ∨ av'.ownBlock = some x, ⟨S, ⟨own_keep a1 (fun g e => hk g (h4 g e).1 (fun e2 => by obtain ⟨xs, b1, _⟩ := a4; exact own_apart a1 b1 (by decide) g e e2)), own_keep a2 (fun g e => hk g (h5 g e).1 (fun e2 => by obtain ⟨xs, b1, _⟩ := a4; exact own_apart a2 b1 (by decide) g e e2)), hu.keep (fun q hq => World.cell?_of_block (hk _ (hS _ hq) (fun e => by obtain ⟨xs, _, _, c⟩ := hsame; exact c _ e hq))), ho.weak (fun x hx => hx.elim id False.elim) (fun g e hx => ?_)⟩, fun x hx => .inl (hS x hx), fun x hx => ?_, fun g e => ⟨.inl (h4 g e).1, hSp g e⟩, fun g e => ⟨.inl (h5 g e).1, hSi g e⟩, fun g e => .inr e⟩, fun x hx => hx.elim .inl (hva x)⟩
 ·obtain ⟨xs, _, _, c⟩ := ho
  exact c g e (.inl hx)
 ·rcases hx with hx | hx
  ·exact ⟨(h3 x hx).1, Nat.lt_of_lt_of_le (h3 x hx).2 hg.size⟩
  ·exact ho.lt x hx
end
def RD (w : World) (g : Nat) (q : Rd) : Prop := ∃ A c, w.heap[g]? = some (.cells #[.slice A q.1.length c, .bool q.2] 71) ∧ BS w g (.slice A q.1.length c) q.1
def FrG (g : Nat) (w w' : World) : Prop := Fr (fun x => x = g) w w'
theorem FrG.trans {g : Nat} {w w1 w2 : World} (h : FrG g w w1) (h2 : FrG g w1 w2) : FrG g w w2 := Fr.trans h h2 (fun x hx => .inl hx)
theorem FrG.refl (g : Nat) (w : World) : FrG g w w := Fr.refl _ w
theorem FrG.below {g : Nat} {w w' : World} (h : FrG g w w') (hg : g ≤ w.heap.size) : Below g w w' := Fr.below h (fun x hx => by omega) hg
theorem FrG.alloc {g : Nat} {w w1 w2 : World} (hb : Below w.heap.size w w1) (h : FrG g w1 w2) : FrG g w w2 := Fr.trans (Fr.of hb _) h (fun x hx => .inl hx)
theorem RD.lt {w : World} {g : Nat} {q : Rd} (h : RD w g q) : g < w.heap.size := by
 obtain ⟨A, c, h1, -⟩ := h
 rcases Nat.lt_or_ge g w.heap.size with h | h
 ·exact h
 ·rw [Array.getElem?_eq_none h] at h1; cases h1
theorem RD.keep {w w' : World} {g : Nat} {q : Rd} (h : RD w g q) (hb : Below w.heap.size w w') : RD w' g q := by
 have hl := h.lt
 obtain ⟨A, c, h1, h2⟩ := h
 exact ⟨A, c, (hb.block g hl).trans h1, h2.keep (fun p hp => hb.cell (by omega))⟩
theorem RD.set {w : World} {g : Nat} {q : Rd} (h : RD w g q) {p : Addr} (hp : g < p.block) (u : Value) : RD (w.setCell p u) g q := by
 obtain ⟨A, c, h1, h2⟩ := h
 exact ⟨A, c, (Below.heap_setCell _ _ _ _ (by omega)).trans h1, h2.below ((Below.refl g w).setCell (by omega) _)⟩
def NumPost (g : Nat) (n : Int) (q : Rd) (w : World) (e : Ending) (w' : World) : Prop := e = .returned (.int .i64 n) ∧ RD w' g q ∧ FrG g w w'
theorem fail_any (g : Nat) (q : Rd) (w : World) (h : RD w g q) : Calls Tryz.prog 91 #[.pointer (some ⟨g, 0, none⟩)] w fun e w' => e = .returned (.tuple #[]) ∧ RD w' g ([], true) ∧ FrG g w w' := by
 obtain ⟨A, c, hg, hq⟩ := h
 obtain ⟨d0, i0⟩ := cellR (v := .slice A q.1.length c) hg 0 rfl
 obtain ⟨d1, i1⟩ := cellR (v := .bool q.2) hg 1 rfl
 have HG := Lib.hid hg
 clear hg hq
 go_enter Tryz.func91, Tryz.ntmps91
 go_wp2
 go_end0
 refine ⟨rfl, ⟨none, 0, ?_, BS.nil _ _⟩, ?_⟩
 ·exact (heap_setCell_same _ _ 1 _ _ _ ((heap_setCell_same _ _ 0 _ _ _ HG.out).trans rfl)).trans rfl
 ·exact ((FrG.refl g w).setCell (.inl rfl) _).setCell (.inl rfl) _
theorem numR_yes {most : Nat} {l : List UInt8} {f : Bool} {x : Int} {k : Nat} (hr : readL l = (x.toNat, k, 0)) (hx : 0 ≤ x) (h : x ≤ (most : Int)) : numR most (l, f) = (x.toNat, l.drop k, f) := by
 unfold numR
 simp only [hr]
 rw [if_pos ⟨trivial, by omega⟩]
theorem numR_no {most : Nat} {l : List UInt8} {f : Bool} {x : Int} {k er : Nat} (hr : readL l = (x.toNat, k, er)) (hx : 0 ≤ x) (h : er ≠ 0 ∨ (most : Int) < x) : numR most (l, f) = (0, [], true) := by
 unfold numR
 simp only [hr]
 rw [if_neg (by omega)]
theorem number_any (g most : Nat) (q : Rd) (w : World) (h : RD w g q) (hl : q.1.length ≤ 1048576) (hm : most ≤ 9223372036854775807) : Calls Tryz.prog 60 #[.pointer (some ⟨g, 0, none⟩), .int .u64 (most : Int)] w (NumPost g ((numR most q).1 : Int) (numR most q).2 w) := by
 obtain ⟨l, fl⟩ := q
 have H := Lib.hid h
 obtain ⟨A, c, hg, hq⟩ := h
 simp only at hl hg hq
 obtain ⟨x, k, er, hr, hx0, hx1, hk, her⟩ := readL_ex6 l
 have hcl : l.length ≤ c ∧ c ≤ 9223372036854775807 := by
  obtain ⟨A', c', hv, h1, h2, -⟩ := hq
  simp only [Value.slice.injEq] at hv
  obtain ⟨rfl, -, rfl⟩ := hv
  exact ⟨h1, h2⟩
 obtain ⟨c1, c2⟩ := hcl
 have HRD : Hid (Calls Tryz.prog 90 #[.slice A l.length c] w fun e w' => e = .returned (.tuple #[.int .u64 x, .int .i64 (k : Int), .int .i64 (er : Int)]) ∧ w = w') := by
  refine (read_any (.slice A l.length c) l g w hq (by omega)).mono ?_
  rintro e w' ⟨he, hw⟩
  refine ⟨?_, hw⟩
  rw [he, hr]
  unfold tup
  rw [Int.toNat_of_nonneg hx0]
 obtain ⟨d0, i0⟩ := cellR (v := .slice A l.length c) hg 0 rfl
 have HG := Lib.hid hg
 have HQ := Lib.hid hq
 have HR := Lib.hid hr
 clear hg hq hr
 by_cases hok : er = 0 ∧ x ≤ (most : Int)
 ·obtain ⟨rfl, hxm⟩ := hok
  rw [numR_yes HR.out hx0 hxm]
  have hnat : ((x.toNat : Nat) : Int) = x := Int.toNat_of_nonneg hx0
  rw [hnat]
  obtain ⟨A4, hif⟩ : ∃ A4, (if c = k then A else Option.map (fun x => x.add k) A) = A4 := ⟨_, rfl⟩
  have hq2 : BS w g (.slice A4 (l.length - k) (c - k)) (l.drop k) := by
   have h1 := HQ.out.cut k (l.length - k) (l.length - k) (by omega) rfl
   rw [hif, List.take_of_length_le (by simp)] at h1
   exact h1
  have HQ2 := Lib.hid hq2
  have x7 : x ≤ 9223372036854775807 := by omega
  clear hq2 hnat hx1
  go_enter Tryz.func60, Tryz.ntmps60
  go_wp2_with (go_at_call 90; refine HRD.out.mono ?_; rintro e w1 ⟨rfl, rfl⟩)
  go_ret
  refine ⟨rfl, ⟨A4, c - k, ?_, ?_⟩, (FrG.refl g w).setCell (.inl rfl) _⟩
  ·rw [List.length_drop]; exact (heap_setCell_same _ _ 0 _ _ _ HG.out).trans rfl
  ·rw [List.length_drop]; exact HQ2.out.below ((Below.refl g w).setCell (by simp) _)
 ·have hno : er ≠ 0 ∨ (most : Int) < x := by omega
  rw [numR_no HR.out hx0 hno]
  by_cases he : er = 0
  ·subst he
   have hlt : (most : Int) < x := by omega
   clear hok hno
   go_enter Tryz.func60, Tryz.ntmps60
   go_wp2_with first
    | (go_at_call 90; refine HRD.out.mono ?_; rintro e w1 ⟨rfl, rfl⟩)
    | (go_at_call 91; refine (fail_any g (l, fl) _ H.out).mono ?_; rintro e w1 ⟨rfl, hp⟩)
   go_ret
   exact ⟨rfl, hp⟩
  ·have hne : ((er : Int) != 0) = true := by simp; omega
   clear hok hno
   go_enter Tryz.func60, Tryz.ntmps60
   go_wp2_with first
    | (go_at_call 90; refine HRD.out.mono ?_; rintro e w1 ⟨rfl, rfl⟩)
    | (go_at_call 91; refine (fail_any g (l, fl) _ H.out).mono ?_; rintro e w1 ⟨rfl, hp⟩)
   go_ret
   exact ⟨rfl, hp⟩
theorem place_any (g : Nat) (q : Rd) (w : World) (h : RD w g q) (hl : q.1.length ≤ 1048576) : Calls Tryz.prog 59 #[.pointer (some ⟨g, 0, none⟩)] w fun e w' => e = .returned (.tuple #[.int .i64 ((numR 1000 q).1 : Int), .int .i64 ((numR 1000 (numR 1000 q).2).1 : Int)]) ∧ RD w' g (numR 1000 (numR 1000 q).2).2 ∧ FrG g w w' := by
 have H1 := Lib.hid (number_any g 1000 q w h hl (by omega))
 have H2 : Hid (∀ W, RD W g (numR 1000 q).2 → Calls Tryz.prog 60 #[.pointer (some ⟨g, 0, none⟩), .int .u64 1000] W (NumPost g ((numR 1000 (numR 1000 q).2).1 : Int) (numR 1000 (numR 1000 q).2).2 W)) := fun W hW => number_any g 1000 _ W hW (Nat.le_trans (numR_rest 1000 q) hl) (by omega)
 generalize numR 1000 (numR 1000 q).2 = b at *
 generalize numR 1000 q = a at *
 clear h
 go_enter Tryz.func59, Tryz.ntmps59
 go_wp2_with fail
 refine H1.out.mono ?_
 rintro e w1 ⟨rfl, r1, f1⟩
 go_wp2_with fail
 refine (H2.out _ r1).mono ?_
 rintro e w2 ⟨rfl, r2, f2⟩
 go_wp2
 go_ret2
 exact ⟨rfl, r2, f1.trans f2⟩
theorem rrune_any (r : Int) (h0 : -2147483648 ≤ r) (h1 : r ≤ 2147483647) (w : World) : Calls Tryz.prog 113 #[.int .i32 r] w fun e w' => e = .returned (.bool (mayR r)) ∧ w = w' := by
 by_cases a1 : 0 ≤ r
 ·by_cases a2 : r ≤ 1114111
  ·by_cases a3 : r < 55296
   ·rw [mayR_true a1 a2 (.inl a3)]
    go_enter Tryz.func113, Tryz.ntmps113
    go_wp2
    go_ret
    exact ⟨rfl, rfl⟩
   ·have d3 : decide (r < 55296) = false := by simp; omega
    by_cases a4 : 57343 < r
    ·rw [mayR_true a1 a2 (.inr a4)]
     go_enter Tryz.func113, Tryz.ntmps113
     go_wp2
     go_ret
     exact ⟨rfl, rfl⟩
    ·have d4 : decide (57343 < r) = false := by simp; omega
     rw [mayR_false (.inr (.inr ⟨by omega, by omega⟩))]
     go_enter Tryz.func113, Tryz.ntmps113
     go_wp2
     go_ret
     exact ⟨rfl, rfl⟩
  ·have d2 : decide (r ≤ 1114111) = false := by simp; omega
   rw [mayR_false (.inr (.inl (by omega)))]
   go_enter Tryz.func113, Tryz.ntmps113
   go_wp2
   go_ret
   exact ⟨rfl, rfl⟩
 ·have d1 : decide (0 ≤ r) = false := by simp; omega
  rw [mayR_false (.inl (by omega))]
  go_enter Tryz.func113, Tryz.ntmps113
  go_wp2
  go_ret
  exact ⟨rfl, rfl⟩
theorem rattr_any (a : Nat) (w : World) : Calls Tryz.prog 114 #[.int .u16 (a : Int)] w fun e w' => e = .returned (.bool (attrB a)) ∧ w = w' := by
 by_cases ha : a < 4096
 ·have hai : (a : Int) < 4096 := by omega
  have h8 := eq_of_beq (andU andT8 a ha)
  have h4 := eq_of_beq (andU andT4 a ha)
  have h2 := eq_of_beq (andU andT2 a ha)
  by_cases b1 : a / 8 % 2 = 0
  ·rw [show (a / 8 % 2 * 8 : Nat) = 0 by omega] at h8
   by_cases b2 : a / 16 % 16 ≤ 8
   ·have b2' : decide (((a / 16 % 16 : Nat) : Int) ≤ 8) = true := by simp; omega
    by_cases b3 : a / 256 % 16 ≤ 8
    ·have b3' : decide (((a / 256 % 16 : Nat) : Int) ≤ 8) = true := by simp; omega
     rw [show attrB a = true by simp [attrB, ha, b1, b2, b3]]
     generalize ((a / 16 % 16 : Nat) : Int) = x4 at *
     generalize ((a / 256 % 16 : Nat) : Int) = x2 at *
     clear b1 b2 b3
     go_enter Tryz.func114, Tryz.ntmps114
     go_wp2
     go_ret
     exact ⟨rfl, rfl⟩
    ·have b3' : decide (((a / 256 % 16 : Nat) : Int) ≤ 8) = false := by simp; omega
     rw [show attrB a = false by simp [attrB]; omega]
     generalize ((a / 16 % 16 : Nat) : Int) = x4 at *
     generalize ((a / 256 % 16 : Nat) : Int) = x2 at *
     clear b1 b2 b3
     go_enter Tryz.func114, Tryz.ntmps114
     go_wp2
     go_ret
     exact ⟨rfl, rfl⟩
   ·have b2' : decide (((a / 16 % 16 : Nat) : Int) ≤ 8) = false := by simp; omega
    rw [show attrB a = false by simp [attrB]; omega]
    generalize ((a / 16 % 16 : Nat) : Int) = x4 at *
    clear b1 b2
    go_enter Tryz.func114, Tryz.ntmps114
    go_wp2
    go_ret
    exact ⟨rfl, rfl⟩
  ·rw [show (a / 8 % 2 * 8 : Nat) = 8 by omega] at h8
   rw [show attrB a = false by simp [attrB]; omega]
   clear b1
   go_enter Tryz.func114, Tryz.ntmps114
   go_wp2
   go_ret
   exact ⟨rfl, rfl⟩
 ·have hai : decide ((a : Int) < 4096) = false := by simp; omega
  rw [show attrB a = false by simp [attrB, ha]]
  go_enter Tryz.func114, Tryz.ntmps114
  go_wp2
  go_ret
  exact ⟨rfl, rfl⟩
theorem right_fit (c : Cl) (r0 : -2147483648 ≤ c.r) (r1 : c.r ≤ 2147483647) (hh : c.h < 256) (w : World) : Calls Tryz.prog 79 #[aC c] w fun e w' => e = .returned (.bool (cellB c)) ∧ Below w.heap.size w w' := by
 unfold aC
 have hr (w : World) := rrune_any c.r r0 r1 w
 have ht (w : World) := rattr_any c.a w
 cases hm : mayR c.r with
 | false =>
  rw [show cellB c = false by simp [cellB, hm]]
  rw [hm] at hr
  go_enter Tryz.func79, Tryz.ntmps79
  go_wp2_with (first | (go_at_call 113; refine (hr _).mono ?_; rintro e w' ⟨rfl, rfl⟩))
  go_ret
  exact ⟨rfl, (Below.refl _ _).alloc (Nat.le_refl _) _⟩
 | true =>
  rw [hm] at hr
  cases ht2 : attrB c.a with
  | false =>
   rw [show cellB c = false by simp [cellB, hm, ht2]]
   rw [ht2] at ht
   go_enter Tryz.func79, Tryz.ntmps79
   go_wp2_with (first | (go_at_call 113; refine (hr _).mono ?_; rintro e w' ⟨rfl, rfl⟩) | (go_at_call 114; refine (ht _).mono ?_; rintro e w' ⟨rfl, rfl⟩))
   go_ret
   exact ⟨rfl, (Below.refl _ _).alloc (Nat.le_refl _) _⟩
  | true =>
   rw [ht2] at ht
   have hX : cellB c = (decide (c.h ≤ 2) && (decide (c.r = 0) == decide (c.h = 2))) := by simp [cellB, hm, ht2]
   rw [hX]
   clear hX
   go_enter Tryz.func79, Tryz.ntmps79
   go_wp2_with (first | (go_at_call 113; refine (hr _).mono ?_; rintro e w' ⟨rfl, rfl⟩) | (go_at_call 114; refine (ht _).mono ?_; rintro e w' ⟨rfl, rfl⟩))
   all_goals
    go_ret
    refine ⟨congrArg (fun b => Ending.returned (.bool b)) ?_, (Below.refl _ _).alloc (Nat.le_refl _) _⟩
    rw [Bool.eq_iff_iff]
    simp
    first | omega | (rw [Bool.eq_iff_iff, beq_iff_eq, beq_iff_eq]; omega)
theorem right_any (c : Cl) (hc : FitC c) (w : World) : Calls Tryz.prog 79 #[aC c] w fun e w' => e = .returned (.bool (cellB c)) ∧ Below w.heap.size w w' := right_fit c hc.1 hc.2.1 hc.2.2.2 w
theorem bcell6 {W w1 : World} (hb : Below W.heap.size W w1) : (∀ b o, b < W.heap.size → w1.cell? ⟨b, o, none⟩ = W.cell? ⟨b, o, none⟩) ∧ (∀ b o, b < W.heap.size → w1.frozen? ⟨b, o, none⟩ = W.frozen? ⟨b, o, none⟩) :=
 ⟨fun b o h => hb.cell (p := ⟨b, o, none⟩) h, fun b o h => hb.frozen (p := ⟨b, o, none⟩) h⟩
theorem setcell_at {w : World} {g i : Nat} {xs : Array Value} {t : TypeId} (h : w.heap[g]? = some (.cells xs t)) (hi : i < xs.size) (x : Value) : (w.setCell ⟨g, i, none⟩ x).cell? ⟨g, i, none⟩ = some x ∧ ∃ ys, ys.size = xs.size ∧ (w.setCell ⟨g, i, none⟩ x).heap[g]? = some (.cells ys t) := by
 have h2 := heap_setCell_same w g i xs t x h
 refine ⟨(cell3 h2 i (by simp [hi])).1, _, ?_, h2⟩
 simp
theorem setcell_three {w : World} {g : Nat} {xs : Array Value} {t : TypeId} (h : w.heap[g]? = some (.cells xs t)) (hi : 2 < xs.size) (x y z : Value) : (w.setCell ⟨g, 0, none⟩ x).cell? ⟨g, 0, none⟩ = some x ∧ ((w.setCell ⟨g, 0, none⟩ x).setCell ⟨g, 1, none⟩ y).cell? ⟨g, 1, none⟩ = some y ∧ (((w.setCell ⟨g, 0, none⟩ x).setCell ⟨g, 1, none⟩ y).setCell ⟨g, 2, none⟩ z).cell? ⟨g, 2, none⟩ = some z := by
 obtain ⟨e0, ys, s0, h0⟩ := setcell_at h (i := 0) (by omega) x
 obtain ⟨e1, zs, s1, h1⟩ := setcell_at h0 (i := 1) (by omega) y
 obtain ⟨e2, -⟩ := setcell_at h1 (i := 2) (by omega) z
 exact ⟨e0, e1, e2⟩
theorem heap_two (w : World) (o p : Obj) : ((w.alloc o).alloc p).heap[w.heap.size]? = some o := by
 show ((w.heap.push o).push p)[w.heap.size]? = some o
 rw [Array.getElem?_push, if_neg (by simp), Array.getElem?_push, if_pos rfl]
def cofL (x y : Nat) : Cl × Bool := if 1114111 < x ∨ 16384 ≤ y then (⟨0, 0, 0⟩, false) else (cellOf x y, cellB (cellOf x y))
def CofPost (x y : Nat) (w : World) (e : Ending) (w' : World) : Prop := e = .returned (.tuple #[aC (cofL x y).1, .bool (cofL x y).2]) ∧ Below w.heap.size w w'
theorem cellOf_any (x y : Int) (x0 : 0 ≤ x) (x1 : x < 18446744073709551616) (y0 : 0 ≤ y) (y1 : y < 18446744073709551616) (w : World) : Calls Tryz.prog 136 #[.int .u64 x, .int .u64 y] w (CofPost x.toNat y.toNat w) := by
 have HBW := Lib.hid (show Below w.heap.size w (w.alloc (.cells #[.int .i32 0, .int .u16 0, .int .u8 0] 65)) from (Below.refl _ _).alloc (Nat.le_refl _) _)
 by_cases b1 : 1114111 < x
 ·have HX := Lib.hid (show cofL x.toNat y.toNat = (⟨0, 0, 0⟩, false) from if_pos (.inl (by omega)))
  have b1' : decide (1114111 < x) = true := by simpa using b1
  go_enter Tryz.func136, Tryz.ntmps136
  go_wp2
  exact bodyPost_ret (v := .tuple #[.agg #[.int .i32 0, .int .u16 0, .int .u8 0], .bool false]) (by simp [results, Tryz.results136, go_sem]) rfl ⟨by rw [HX.out]; rfl, HBW.out⟩
 have b1' : decide (1114111 < x) = false := by simpa using b1
 by_cases b2 : 16384 ≤ y
 ·have HX := Lib.hid (show cofL x.toNat y.toNat = (⟨0, 0, 0⟩, false) from if_pos (.inr (by omega)))
  have b2' : decide (4096 ≤ y / 4) = true := by simp; omega
  go_enter Tryz.func136, Tryz.ntmps136
  go_wp2
  exact bodyPost_ret (v := .tuple #[.agg #[.int .i32 0, .int .u16 0, .int .u8 0], .bool false]) (by simp [results, Tryz.results136, go_sem]) rfl ⟨by rw [HX.out]; rfl, HBW.out⟩
 have b2' : decide (4096 ≤ y / 4) = false := by simp; omega
 obtain ⟨R, rfl⟩ : ∃ R : Nat, x = (R : Int) := ⟨x.toNat, by omega⟩
 obtain ⟨Z, rfl⟩ : ∃ Z : Nat, y = (Z : Int) := ⟨y.toNat, by omega⟩
 have HX := Lib.hid (show cofL ((R : Int)).toNat ((Z : Int)).toNat = (cellOf R Z, cellB (cellOf R Z)) by rw [Int.toNat_natCast, Int.toNat_natCast]; exact if_neg (by omega))
 obtain ⟨a4, ha4⟩ : ∃ a4 : Nat, (Z : Int) / 4 = (a4 : Int) := ⟨Z / 4, by omega⟩
 obtain ⟨h4, hh4⟩ : ∃ h4 : Nat, (Z : Int) % 4 = (h4 : Int) := ⟨Z % 4, by omega⟩
 have HCO := Lib.hid (show cellOf R Z = ⟨(R : Int), a4, h4⟩ by unfold cellOf; rw [show Z / 4 = a4 by omega, show Z % 4 = h4 by omega])
 have a4l : (a4 : Int) < 4096 := by omega
 have h4l : (h4 : Int) < 4 := by omega
 have hR : (R : Int) ≤ 1114111 := by omega
 have hcr (w : World) := right_any ⟨(R : Int), a4, h4⟩ ⟨by show (-2147483648 : Int) ≤ (R : Int); omega, by show (R : Int) ≤ 2147483647; omega, by show a4 < 65536; omega, by show h4 < 256; omega⟩ w
 unfold aC at hcr
 simp only at hcr
 have hZ : (Z : Int) < 16384 := by omega
 clear x0 x1 y0 y1 b1 b2
 go_enter Tryz.func136, Tryz.ntmps136
 go_wp2
 go_region_with ((go_at_call 79; refine (hcr _).mono ?_; rintro e wx ⟨rfl, bx⟩; obtain ⟨hcx, hfx⟩ := bcell6 bx; have HBX := Lib.hid bx; clear bx))
 all_goals
  go_simp
  go_wp2
  have hkx : wx.heap[w.heap.size]? = some (.cells #[.int .i32 0, .int .u16 0, .int .u8 0] 65) :=
   (HBX.out.block w.heap.size (by simp; omega)).trans (heap_two w _ _)
  obtain ⟨e0, e1, e2⟩ := setcell_three hkx (by simp) (.int .i32 (R : Int)) (.int .u16 (a4 : Int)) (.int .u8 (h4 : Int))
  refine bodyPost_ret (v := .tuple #[.agg #[.int .i32 (R : Int), .int .u16 (a4 : Int), .int .u8 (h4 : Int)], .bool (cellB ⟨(R : Int), a4, h4⟩)]) (by simp [results, Tryz.results136, go_sem, e0, e1, e2]) rfl ⟨by rw [HX.out, HCO.out]; rfl, ?_⟩
  refine below_put (k := 0) ?_ (Nat.le_refl _) _ _ _
  first
   | exact (((Below.refl w.heap.size w).alloc (Nat.le_refl _) _).alloc (by simp) _).drew.trans (HBX.out.mono (by simp; omega))
   | exact (((Below.refl w.heap.size w).alloc (Nat.le_refl _) _).alloc (by simp) _).trans (HBX.out.mono (by simp; omega))
theorem OB.low6 {w : World} {b1 b2 : Nat} {v : Value} {l : List UInt8} (h : OB w b1 v l) (hb : b2 ≤ b1) : OB w b2 v l := by
 obtain ⟨a1, a2⟩ := h
 refine ⟨a1, ?_⟩
 rcases a2 with a2 | ⟨g, cap, cur, hv, hg, hr⟩
 ·exact .inl a2
 ·exact .inr ⟨g, cap, cur, hv, Nat.le_trans hb hg, hr⟩
@[reducible] def aU (n : Int) (c : Cl) : Value := .agg #[.int .u64 n, .int .i32 c.r, .int .u16 (c.a : Int), .int .u8 (c.h : Int)]
theorem threeAt0 {w : World} {ad : Addr} {c : Cl} (h : ThreeAt w (ad.add (0 * 3)) c) : w.cell? ad = some (.int .i32 c.r) ∧ w.cell? ⟨ad.block, ad.off + 1, none⟩ = some (.int .u16 (c.a : Int)) ∧ w.cell? ⟨ad.block, ad.off + 2, none⟩ = some (.int .u8 (c.h : Int)) := by
 rw [Nat.zero_mul, show ad.add 0 = ad by simp [Addr.add]] at h
 exact h
def FrRel (N : Nat) (w1 : World) (k : Value) (wr : World) : Prop := ∃ m : Nat, 1 ≤ m ∧ m ≤ N ∧ k = .int .i64 (m : Int) ∧ ∃ q, wr = w1.drewN q
def FrPost (N : Nat) (c : Cl) (w : World) (e : Ending) (w' : World) : Prop := e = .returned (aU (N : Int) c) ∧ Below w.heap.size w w'
theorem firstRun_any (v : Value) (l : List Cl) (c : Cl) (N : Nat) (w : World) (h : CS w w.heap.size v l) (hl : l.length ≤ 1048576) (hc : l[0]? = some c) (hN : sameN c l = N) : Calls Tryz.prog 84 #[v] w (FrPost N c w) := by
 have hpos : 0 < l.length := (List.getElem?_eq_some_iff.1 hc).1
 have hN1 : 1 ≤ N ∧ N ≤ l.length := by
  have := bytL_drop l 0 N c hc (by rw [List.drop_zero]; exact hN)
  omega
 obtain ⟨n1, n2⟩ := hN1
 have HC := Lib.hid h
 obtain ⟨A, cp, rfl, g1, g2⟩ := h.form
 have HNN := Lib.hid hN
 have HC0 := Lib.hid hc
 clear h hN hc
 go_enter Tryz.func84, Tryz.ntmps84
 go_wp2
 have hbW : Below w.heap.size w (w.alloc (.cells #[.int .u64 0, .int .i32 0, .int .u16 0, .int .u8 0] 123)) := (Below.refl _ _).alloc (Nat.le_refl _) _
 have HBW := Lib.hid hbW
 clear hbW
 go_loopw [3] (fun k wr => FrRel N (w.alloc (.cells #[.int .u64 0, .int .i32 0, .int .u16 0, .int .u8 0] 123)) k wr) (fun k _ => N - (intOf k).toNat)
 case atStart => exact ⟨1, Nat.le_refl _, n1, rfl, 0, rfl⟩
 case round =>
  obtain ⟨K, k1, hk, rfl, q, rfl⟩ := hrel
  obtain ⟨ad, hAd, hadb, t⟩ := (HC.out.below HBW.out).get 0 c HC0.out
  obtain ⟨t0, t1, t2⟩ := threeAt0 t
  subst hAd
  clear t
  by_cases hmN : K < N
  ·have hKl : K < l.length := by omega
   have hKc : l[K]? = some c := sameN_at c l K (by rw [HNN.out]; exact hmN)
   obtain ⟨ad3, hAd3, hadb3, s0, s1, s2⟩ := (HC.out.below HBW.out).get K c hKc
   injection hAd3 with hAd3
   subst hAd3
   have hKd : decide (K < l.length) = true := by simpa using hKl
   clear hKc
   go_wp2
   go_quiet (fail)
   go_wp2
   go_roundw
   case rel => exact ⟨K + 1, by omega, hmN, by go_num, q + nq, by first | rfl | rw [World.drewN_drewN]⟩
   case measure => simp [intOf]; omega
  ·obtain rfl : K = N := by omega
   by_cases hKl : K < l.length
   ·obtain ⟨c2, hc2⟩ : ∃ c2, l[K]? = some c2 := ⟨_, List.getElem?_eq_getElem hKl⟩
    have hne : c2 ≠ c := by
     intro e
     have h := sameN_stop c l (by rw [HNN.out]; exact hKl)
     rw [HNN.out, hc2, e] at h
     exact h rfl
    obtain ⟨ad3, hAd3, hadb3, s0, s1, s2⟩ := (HC.out.below HBW.out).get K c2 hc2
    injection hAd3 with hAd3
    subst hAd3
    have hKd : decide (K < l.length) = true := by simpa using hKl
    have hk3 : ((c2.r == c.r) = false) ∨ (c2.r = c.r ∧ ((c2.a : Int) == (c.a : Int)) = false) ∨ (c2.r = c.r ∧ c2.a = c.a ∧ ((c2.h : Int) == (c.h : Int)) = false) := by
     by_cases e1 : c2.r = c.r
     ·by_cases e2 : c2.a = c.a
      ·refine .inr (.inr ⟨e1, e2, beq_eq_false_iff_ne.2 fun e => hne ?_⟩)
       cases c2
       cases c
       simp only at e1 e2 e
       rw [e1, e2]
       congr 1
       omega
      ·exact .inr (.inl ⟨e1, beq_eq_false_iff_ne.2 (by omega)⟩)
     ·exact .inl (beq_eq_false_iff_ne.2 e1)
    clear hc2 hne
    rcases hk3 with hbq | ⟨hrq, hbq⟩ | ⟨hrq, haq, hbq⟩
    all_goals
     try rw [hrq] at s0
     try rw [haq] at s1
     try clear hrq
     try clear haq
     go_wp2
     go_quiet (fail)
     go_wp2
     exact bodyPost_ret (v := aU (K : Int) c) (by simp [results, Tryz.results84, go_sem]) rfl ⟨rfl, ((((below_drewP HBW.out (q + nq)).setCell (p := ⟨w.heap.size, 0, none⟩) (Nat.le_refl _) _).setCell (p := ⟨w.heap.size, 1, none⟩) (Nat.le_refl _) _).setCell (p := ⟨w.heap.size, 2, none⟩) (Nat.le_refl _) _).setCell (p := ⟨w.heap.size, 3, none⟩) (Nat.le_refl _) _⟩
   ·have hKd : decide (K < l.length) = false := by simpa using hKl
    go_wp2
    go_quiet (fail)
    go_wp2
    exact bodyPost_ret (v := aU (K : Int) c) (by simp [results, Tryz.results84, go_sem]) rfl ⟨rfl, ((((below_drewP HBW.out (q + nq)).setCell (p := ⟨w.heap.size, 0, none⟩) (Nat.le_refl _) _).setCell (p := ⟨w.heap.size, 1, none⟩) (Nat.le_refl _) _).setCell (p := ⟨w.heap.size, 2, none⟩) (Nat.le_refl _) _).setCell (p := ⟨w.heap.size, 3, none⟩) (Nat.le_refl _) _⟩
def PuPost (N : Nat) (c : Cl) (w : World) (e : Ending) (w' : World) : Prop := ∃ u, e = .returned u ∧ OB w' w.heap.size u (runB N c) ∧ Below w.heap.size w w'
theorem putRun_any (N : Nat) (c : Cl) (w : World) (hN : N ≤ 1048576) (hc : cellB c = true) : Calls Tryz.prog 85 #[aU (N : Int) c] w (PuPost N c w) := by
 obtain ⟨r0, r1, a1, h1⟩ := cellB_bd hc
 have l1 := (lebP_length N).2
 have l2 := (lebP_length c.r.toNat).2
 have l3 := (lebP_length (4 * c.a + c.h)).2
 have ai : (c.a : Int) < 4096 := by omega
 have hi : (c.h : Int) ≤ 2 := by omega
 have Ni : (N : Int) ≤ 1048576 := by omega
 clear hc
 have HBW := Lib.hid (show Below w.heap.size w (w.alloc (.cells #[.int .u64 (N : Int), .int .i32 c.r, .int .u16 (c.a : Int), .int .u8 (c.h : Int)] 123)) from (Below.refl _ _).alloc (Nat.le_refl _) _)
 have HKW := Lib.hid (show (w.alloc (.cells #[.int .u64 (N : Int), .int .i32 c.r, .int .u16 (c.a : Int), .int .u8 (c.h : Int)] 123)).heap[w.heap.size]? = some (.cells #[.int .u64 (N : Int), .int .i32 c.r, .int .u16 (c.a : Int), .int .u8 (c.h : Int)] 123) by
  show (w.heap.push _)[w.heap.size]? = _
  simp)
 have HZW := Lib.hid (show (w.alloc (.cells #[.int .u64 (N : Int), .int .i32 c.r, .int .u16 (c.a : Int), .int .u8 (c.h : Int)] 123)).heap.size = w.heap.size + 1 by simp)
 go_enter Tryz.func85, Tryz.ntmps85
 go_wp2_with fail
 refine (put_any (N : Int) (by omega) (by omega) _).mono ?_
 rintro e wa ⟨va, rfl, oa, ba⟩
 rw [show ((N : Int)).toNat = N by omega] at oa
 have HKA := Lib.hid ((ba.block w.heap.size (by rw [HZW.out]; omega)).trans HKW.out)
 have HBA := Lib.hid (HBW.out.trans (ba.mono HBW.out.size))
 rw [HZW.out] at oa ba
 have z1 : w.heap.size + 1 ≤ wa.heap.size := by have := ba.size; rw [HZW.out] at this; exact this
 have HOA := Lib.hid oa
 clear oa ba
 obtain ⟨c1, -⟩ := cell3 HKA.out 1 rfl
 go_wp2_with fail
 refine (put_any c.r (by omega) (by omega) _).mono ?_
 rintro e wb ⟨vb, rfl, ob, bb⟩
 have HKB := Lib.hid ((bb.block w.heap.size (by omega)).trans HKA.out)
 have HBB := Lib.hid (HBA.out.trans (bb.mono (by omega)))
 have hoa := HOA.out.below bb
 have hob := ob.bs
 have z2 : w.heap.size + 1 ≤ wb.heap.size := Nat.le_trans z1 bb.size
 clear c1 ob bb
 go_wp2_with (at_builtin; refine wpl_app _ rfl (.tmp 7) (.tmp 12) rfl (w.heap.size + 1) _ _ _ (lebP N) (lebP c.r.toNat) rfl rfl hoa hob (by omega) z2 ?_; intro vd wd od gd bd _; have HKD := Lib.hid ((bd.block w.heap.size (by omega)).trans HKB.out); have HBD := Lib.hid (HBB.out.trans (bd.mono (by omega))); have HOD := Lib.hid od; have z3 : w.heap.size + 1 ≤ wd.heap.size := Nat.le_trans z2 bd.size; clear od gd bd hoa hob; obtain ⟨c2, -⟩ := cell3 HKD.out 2 rfl; obtain ⟨c3, -⟩ := cell3 HKD.out 3 rfl)
 refine (put_any (4 * (c.a : Int) + (c.h : Int)) (by omega) (by omega) _).mono ?_
 rintro e we ⟨ve, rfl, oe, be⟩
 rw [show (4 * (c.a : Int) + (c.h : Int)).toNat = 4 * c.a + c.h by omega] at oe
 have HBE := Lib.hid (HBD.out.trans (be.mono (by omega)))
 have hod := HOD.out.below be
 have hoe := oe.bs
 have z4 : w.heap.size + 1 ≤ we.heap.size := Nat.le_trans z3 be.size
 clear c2 c3 oe be
 go_wp2_with (at_builtin; refine wpl_app _ rfl (.tmp 14) (.tmp 25) rfl (w.heap.size + 1) _ _ _ (lebP N ++ lebP c.r.toNat) (lebP (4 * c.a + c.h)) rfl rfl hod hoe (by simp only [List.length_append]; omega) z4 ?_; intro vf wf off gf bf _)
 go_ret
 exact ⟨vf, rfl, by unfold runB; rw [← List.append_assoc]; exact off.low6 (Nat.le_succ _), HBE.out.trans (bf.mono (Nat.le_succ _))⟩
theorem readp_at6 {v : Value} {l : List UInt8} {B : Nat} {w : World} (h : BS w B v l) (hl : l.length ≤ 1099511627776) {x : Int} {k er : Nat} (hx : 0 ≤ x) (hr : readL l = (x.toNat, k, er)) :
  Calls Tryz.prog 90 #[v] w fun e w' => e = .returned (.tuple #[.int .u64 x, .int .i64 (k : Int), .int .i64 (er : Int)]) ∧ w = w' := by
 refine (read_any v l B w h hl).mono ?_
 rintro e w' ⟨rfl, rfl⟩
 refine ⟨?_, rfl⟩
 rw [hr, tup]
 simp
 omega
theorem heap_one (w : World) (o : Obj) : (w.alloc o).heap[w.heap.size]? = some o := by
 show (w.heap.push o)[w.heap.size]? = some o
 simp
theorem setcell_four {w : World} {g : Nat} {xs : Array Value} {t : TypeId} (h : w.heap[g]? = some (.cells xs t)) (hi : 3 < xs.size) (x y z u : Value) : (w.setCell ⟨g, 0, none⟩ x).cell? ⟨g, 0, none⟩ = some x ∧ ((w.setCell ⟨g, 0, none⟩ x).setCell ⟨g, 1, none⟩ y).cell? ⟨g, 1, none⟩ = some y ∧ (((w.setCell ⟨g, 0, none⟩ x).setCell ⟨g, 1, none⟩ y).setCell ⟨g, 2, none⟩ z).cell? ⟨g, 2, none⟩ = some z ∧ ((((w.setCell ⟨g, 0, none⟩ x).setCell ⟨g, 1, none⟩ y).setCell ⟨g, 2, none⟩ z).setCell ⟨g, 3, none⟩ u).cell? ⟨g, 3, none⟩ = some u := by
 obtain ⟨e0, ys, s0, h0⟩ := setcell_at h (i := 0) (by omega) x
 obtain ⟨e1, zs, s1, h1⟩ := setcell_at h0 (i := 1) (by omega) y
 obtain ⟨e2, us, s2, h2⟩ := setcell_at h1 (i := 2) (by omega) z
 obtain ⟨e3, -⟩ := setcell_at h2 (i := 3) (by omega) u
 exact ⟨e0, e1, e2, e3⟩
theorem below_put4 {B : Nat} {w w' : World} (h : Below B w w') {g : Nat} (hg : B ≤ g) (x y z u : Value) : Below B w ((((w'.setCell ⟨g, 0, none⟩ x).setCell ⟨g, 1, none⟩ y).setCell ⟨g, 2, none⟩ z).setCell ⟨g, 3, none⟩ u) :=
 (((h.setCell (p := ⟨g, 0, none⟩) hg x).setCell (p := ⟨g, 1, none⟩) hg y).setCell (p := ⟨g, 2, none⟩) hg z).setCell (p := ⟨g, 3, none⟩) hg u
def rrL (b : List UInt8) (left : Nat) : (Nat × Cl) × Nat × Nat :=
 if (run3 b).2.2 ≠ 0 then ((0, ⟨0, 0, 0⟩), 0, (run3 b).2.2)
 else if (run3 b).1.1 = 0 ∨ left < (run3 b).1.1 ∨ (cofL (run3 b).1.2.1 (run3 b).1.2.2).2 = false then ((0, ⟨0, 0, 0⟩), 0, 21)
 else (((run3 b).1.1, (cofL (run3 b).1.2.1 (run3 b).1.2.2).1), (run3 b).2.1, 0)
theorem rrL_err {b : List UInt8} {left k e : Nat} {x : Nat × Nat × Nat} (hr : run3 b = (x, k, e)) (he : e ≠ 0) : rrL b left = ((0, ⟨0, 0, 0⟩), 0, e) := by
 unfold rrL; rw [hr]; exact if_pos he
theorem rrL_bad {b : List UInt8} {left k v1 v2 v3 : Nat} (hr : run3 b = ((v1, v2, v3), k, 0)) (h : v1 = 0 ∨ left < v1 ∨ (cofL v2 v3).2 = false) : rrL b left = ((0, ⟨0, 0, 0⟩), 0, 21) := by
 unfold rrL; rw [hr]; simp only [ne_eq, not_true_eq_false, if_false]; rw [if_pos h]
theorem rrL_ok {b : List UInt8} {left k v1 v2 v3 : Nat} (hr : run3 b = ((v1, v2, v3), k, 0)) (h : ¬ (v1 = 0 ∨ left < v1 ∨ (cofL v2 v3).2 = false)) : rrL b left = ((v1, (cofL v2 v3).1), k, 0) := by
 unfold rrL; rw [hr]; simp only [ne_eq, not_true_eq_false, if_false]; rw [if_neg h]
def RrPost (b : List UInt8) (left : Nat) (w : World) (e : Ending) (w' : World) : Prop :=
 e = .returned (.tuple #[aU ((rrL b left).1.1 : Int) (rrL b left).1.2, .int .i64 ((rrL b left).2.1 : Int), .int .i64 ((rrL b left).2.2 : Int)]) ∧ Below w.heap.size w w'
theorem readRun_any (v : Value) (b : List UInt8) (left : Int) (w : World) (B : Nat) (hB : B ≤ w.heap.size) (h : BS w B v b) (hl : b.length ≤ 1048576) (l0 : 0 ≤ left) (l1 : left < 18446744073709551616) : Calls Tryz.prog 133 #[v, .int .u64 left] w (RrPost b left.toNat w) := by
 have HB := Lib.hid (h.more hB)
 obtain ⟨A, cp, rfl, g1, g2, -⟩ := h.at_
 unfold maxLen at g2
 clear h
 obtain ⟨w5, hw5⟩ : ∃ w5, w.alloc (.cells #[.int .u64 0, .int .i32 0, .int .u16 0, .int .u8 0] 123) = w5 := ⟨_, rfl⟩
 have hz5 : w5.heap.size = w.heap.size + 1 := by rw [← hw5]; simp
 have hk5 : w5.heap[w.heap.size]? = some (.cells #[.int .u64 0, .int .i32 0, .int .u16 0, .int .u8 0] 123) := by
  rw [← hw5]
  show (w.heap.push _)[w.heap.size]? = _
  simp
 have hb5 : Below w.heap.size w w5 := by rw [← hw5]; exact (Below.refl _ _).alloc (Nat.le_refl _) _
 have HW5 := Lib.hid hw5
 have HZ5 := Lib.hid hz5
 have HK5 := Lib.hid hk5
 have HB5 := Lib.hid hb5
 clear hw5 hz5 hk5 hb5
 go_enter Tryz.func133, Tryz.ntmps133
 go_wp2
 go_loopw [8, 16] (fun av iv wr => NumRel b 0 w5 av iv wr) (fun _ iv _ => 3 - (intOf iv).toNat)
 case atStart =>
  refine ⟨0, 0, 0, 0, 0, by omega, rfl, rfl, Nat.zero_le _, by omega, by omega, by omega, by omega, by omega, by omega, .inl ⟨rfl, rfl, rfl, rfl, rfl⟩, ?_, ?_⟩
  ·rw [← HW5.out]
   exact heap_one _ _
  ·rw [← HW5.out]
   exact (Below.refl _ _).alloc (Nat.le_refl _) _
 case round =>
  obtain ⟨i, a, y1, y2, y3, hi, rfl, rfl, ha, q1, q2, q3, q4, q5, q6, hnum, kv, hb⟩ := hrel
  have HNUM := Lib.hid hnum
  have KV := Lib.hid kv
  have HBW := Lib.hid hb
  have HBR := Lib.hid (HB5.out.trans (hb.mono HB5.out.size))
  have KR := Lib.hid ((hb.block w.heap.size (by rw [HZ5.out]; omega)).trans HK5.out)
  clear hnum kv hb
  by_cases hi3 : i < 3
  ·obtain ⟨x, k, er, hr, x0, x1, hk, her⟩ := readL_ex6 (b.drop a)
   rw [List.length_drop] at hk
   obtain ⟨A2, hif2⟩ : ∃ A2, (if cp = a then A else Option.map (fun x => x.add a) A) = A2 := ⟨_, rfl⟩
   have hc1 := (HB.out.below HBR.out).cut a (b.length - a) (b.length - a) (by omega) rfl
   rw [hif2, List.take_of_length_le (by simp)] at hc1
   have hread := readp_at6 hc1 (by simp; omega) x0 hr
   have HR := Lib.hid hr
   have hi3' : (i : Int) < 3 := by omega
   clear hr hc1
   by_cases he : er = 0
   ·subst he
    have HNX := Lib.hid (num_next HNUM.out hi3 HR.out)
    have hz5 := HZ5.out
    obtain ⟨c0, f0⟩ := cell3 KV.out 0 rfl
    obtain ⟨c1, f1⟩ := cell3 KV.out 1 rfl
    obtain ⟨c2, f2⟩ := cell3 KV.out 2 rfl
    rw [hz5] at c0 f0 c1 f1 c2 f2
    clear hz5
    have hi4 : i = 0 ∨ i = 1 ∨ i = 2 := by omega
    rcases hi4 with rfl | rfl | rfl
    ·go_wp2_with (first
      | (go_at_call 90; refine hread.mono ?_; rintro e w1 ⟨rfl, rfl⟩))
     go_roundw
     case rel =>
      rw [← HZ5.out]
      exact ⟨1, a + k, x, y2, y3, by omega, rfl, by go_num, by omega, x0, x1, q3, q4, q5, q6, HNX.out, by rw [heap_setCell_same _ _ 0 _ _ _ KV.out]; rfl, HBW.out.setCell (p := ⟨w5.heap.size, 0, none⟩) (Nat.le_refl _) _⟩
     case measure => simp [intOf]
    ·go_wp2_with (first
      | (go_at_call 90; refine hread.mono ?_; rintro e w1 ⟨rfl, rfl⟩))
     go_roundw
     case rel =>
      rw [← HZ5.out]
      exact ⟨2, a + k, y1, x, y3, by omega, rfl, by go_num, by omega, q1, q2, x0, x1, q5, q6, HNX.out, by rw [heap_setCell_same _ _ 1 _ _ _ KV.out]; rfl, HBW.out.setCell (p := ⟨w5.heap.size, 1, none⟩) (Nat.le_refl _) _⟩
     case measure => simp [intOf]
    ·go_wp2_with (first
      | (go_at_call 90; refine hread.mono ?_; rintro e w1 ⟨rfl, rfl⟩))
     go_roundw
     case rel =>
      rw [← HZ5.out]
      exact ⟨3, a + k, y1, y2, x, by omega, rfl, by go_num, by omega, q1, q2, q3, q4, x0, x1, HNX.out, by rw [heap_setCell_same _ _ 2 _ _ _ KV.out]; rfl, HBW.out.setCell (p := ⟨w5.heap.size, 2, none⟩) (Nat.le_refl _) _⟩
     case measure => simp [intOf]
   ·have e1 : ((er : Int) != 0) = true := by simp; omega
    have hrr := rrL_err (left := left.toNat) (num_err HNUM.out hi3 HR.out he) he
    rw [List.drop_zero] at hrr
    have HRR := Lib.hid hrr
    obtain ⟨c0, f0⟩ := cell3 KR.out 0 rfl
    obtain ⟨c1, f1⟩ := cell3 KR.out 1 rfl
    obtain ⟨c2, f2⟩ := cell3 KR.out 2 rfl
    obtain ⟨c3, f3⟩ := cell3 KR.out 3 rfl
    clear hrr
    go_wp2_with (first
     | (go_at_call 90; refine hread.mono ?_; rintro e w1 ⟨rfl, rfl⟩))
    obtain ⟨s0, s1, s2, s3⟩ := setcell_four KR.out (by simp) (.int .u64 0) (.int .i32 0) (.int .u16 0) (.int .u8 0)
    exact bodyPost_ret (v := .tuple #[.agg #[.int .u64 0, .int .i32 0, .int .u16 0, .int .u8 0], .int .i64 0, .int .i64 (er : Int)]) (by simp [results, Tryz.results133, go_sem, s0, s1, s2, s3]) rfl ⟨by rw [HRR.out]; rfl, below_put4 HBR.out (Nat.le_refl _) _ _ _ _⟩
  ·obtain rfl : i = 3 := by omega
   generalize wr = wn at *
   obtain ⟨k, hrun, hak⟩ := num_done HNUM.out
   rw [List.drop_zero] at hrun
   rw [Nat.zero_add] at hak
   subst hak
   have HRUN := Lib.hid hrun
   have hz5 := HZ5.out
   obtain ⟨c0, f0⟩ := cell3 KV.out 0 rfl
   obtain ⟨c1, f1⟩ := cell3 KV.out 1 rfl
   obtain ⟨c2, f2⟩ := cell3 KV.out 2 rfl
   rw [hz5] at c0 f0 c1 f1 c2 f2
   clear hz5 hrun
   have hco := cellOf_any y2 y3 q3 q4 q5 q6 wn
   obtain ⟨⟨cc, ok⟩, hcc⟩ : ∃ X, cofL y2.toNat y3.toNat = X := ⟨_, rfl⟩
   have HCC := Lib.hid hcc
   unfold CofPost at hco
   rw [hcc] at hco
   unfold aC at hco
   simp only at hco
   clear hcc
   go_wp2_with fail
   refine hco.mono ?_
   rintro e wx ⟨rfl, bx⟩
   have hlw : w.heap.size < wn.heap.size := lt3 KR.out
   have hax : w.heap.size < wx.heap.size := Nat.lt_of_lt_of_le hlw bx.size
   have KX := Lib.hid ((Below.heap_alloc wx (.cells #[.int .i32 cc.r, .int .u16 (cc.a : Int), .int .u8 (cc.h : Int)] 65) w.heap.size hax).trans ((bx.block w.heap.size hlw).trans KR.out))
   have HBX := Lib.hid ((HBR.out.trans (bx.mono HBR.out.size)).alloc (HBR.out.trans (bx.mono HBR.out.size)).size (.cells #[.int .i32 cc.r, .int .u16 (cc.a : Int), .int .u8 (cc.h : Int)] 65))
   have KC := Lib.hid (heap_one wx (.cells #[.int .i32 cc.r, .int .u16 (cc.a : Int), .int .u8 (cc.h : Int)] 65))
   clear bx c0 f0 c1 f1 c2 f2 hlw
   go_upto_region 14 with fail
   generalize World.alloc wx _ = W at KX HBX KC ⊢
   obtain ⟨d0, g0⟩ := cell3 KX.out 0 rfl
   obtain ⟨d1, g1⟩ := cell3 KX.out 1 rfl
   obtain ⟨d2, g2⟩ := cell3 KX.out 2 rfl
   obtain ⟨d3, g3⟩ := cell3 KX.out 3 rfl
   obtain ⟨m0, -⟩ := cell3 KC.out 0 rfl
   obtain ⟨m1, -⟩ := cell3 KC.out 1 rfl
   obtain ⟨m2, -⟩ := cell3 KC.out 2 rfl
   by_cases b1 : y1 = 0
   ·subst b1
    have HRR := Lib.hid (rrL_bad (left := left.toNat) HRUN.out (.inl rfl))
    obtain ⟨s0, s1, s2, s3⟩ := setcell_four KX.out (by simp) (.int .u64 0) (.int .i32 0) (.int .u16 0) (.int .u8 0)
    have HS := Lib.hid (And.intro s0 (And.intro s1 (And.intro s2 s3)))
    clear s0 s1 s2 s3
    go_wp2
    obtain ⟨s0, s1, s2, s3⟩ := HS.out
    exact bodyPost_ret (v := .tuple #[.agg #[.int .u64 0, .int .i32 0, .int .u16 0, .int .u8 0], .int .i64 0, .int .i64 21]) (by simp [results, Tryz.results133, go_sem, s0, s1, s2, s3]) rfl ⟨by rw [HRR.out]; rfl, below_put4 HBX.out (Nat.le_refl _) _ _ _ _⟩
   have b1' : (y1 == 0) = false := beq_eq_false_iff_ne.2 b1
   by_cases b2 : left < y1
   ·have b2' : decide (left < y1) = true := by simpa using b2
    have HRR := Lib.hid (rrL_bad (left := left.toNat) HRUN.out (.inr (.inl (by omega))))
    obtain ⟨s0, s1, s2, s3⟩ := setcell_four KX.out (by simp) (.int .u64 0) (.int .i32 0) (.int .u16 0) (.int .u8 0)
    have HS := Lib.hid (And.intro s0 (And.intro s1 (And.intro s2 s3)))
    clear s0 s1 s2 s3
    go_wp2
    obtain ⟨s0, s1, s2, s3⟩ := HS.out
    exact bodyPost_ret (v := .tuple #[.agg #[.int .u64 0, .int .i32 0, .int .u16 0, .int .u8 0], .int .i64 0, .int .i64 21]) (by simp [results, Tryz.results133, go_sem, s0, s1, s2, s3]) rfl ⟨by rw [HRR.out]; rfl, below_put4 HBX.out (Nat.le_refl _) _ _ _ _⟩
   have b2' : decide (left < y1) = false := by simpa using b2
   cases ok with
   | false =>
    have HRR := Lib.hid (rrL_bad (left := left.toNat) HRUN.out (.inr (.inr (by rw [HCC.out]))))
    obtain ⟨s0, s1, s2, s3⟩ := setcell_four KX.out (by simp) (.int .u64 0) (.int .i32 0) (.int .u16 0) (.int .u8 0)
    have HS := Lib.hid (And.intro s0 (And.intro s1 (And.intro s2 s3)))
    clear s0 s1 s2 s3
    go_wp2
    obtain ⟨s0, s1, s2, s3⟩ := HS.out
    exact bodyPost_ret (v := .tuple #[.agg #[.int .u64 0, .int .i32 0, .int .u16 0, .int .u8 0], .int .i64 0, .int .i64 21]) (by simp [results, Tryz.results133, go_sem, s0, s1, s2, s3]) rfl ⟨by rw [HRR.out]; rfl, below_put4 HBX.out (Nat.le_refl _) _ _ _ _⟩
   | true =>
    have hrr := rrL_ok (left := left.toNat) HRUN.out (by rw [HCC.out]; simp only [Bool.true_eq_false, or_false]; omega)
    rw [HCC.out] at hrr
    have HRR := Lib.hid hrr
    obtain ⟨s0, s1, s2, s3⟩ := setcell_four KX.out (by simp) (.int .u64 y1) (.int .i32 cc.r) (.int .u16 (cc.a : Int)) (.int .u8 (cc.h : Int))
    have HS := Lib.hid (And.intro s0 (And.intro s1 (And.intro s2 s3)))
    clear s0 s1 s2 s3 hrr
    go_wp2
    obtain ⟨s0, s1, s2, s3⟩ := HS.out
    exact bodyPost_ret (v := .tuple #[.agg #[.int .u64 y1, .int .i32 cc.r, .int .u16 (cc.a : Int), .int .u8 (cc.h : Int)], .int .i64 (a : Int), .int .i64 0]) (by simp [results, Tryz.results133, go_sem, s0, s1, s2, s3]) rfl ⟨by rw [HRR.out]; simp only [aU, Int.toNat_of_nonneg q1]; rfl, below_put4 HBX.out (Nat.le_refl _) _ _ _ _⟩
abbrev Ru := Nat × Cl
def vU (x : Ru) : List Value := [.int .u64 (x.1 : Int), .int .i32 x.2.r, .int .u16 (x.2.a : Int), .int .u8 (x.2.h : Int)]
def vUs (l : List Ru) : List Value := l.flatMap vU
theorem vUs_len (l : List Ru) : (vUs l).length = l.length * 4 := by
 induction l with
 | nil => rfl
 | cons c l ih => simp only [vUs, List.flatMap_cons, List.length_append] at ih ⊢; rw [ih]; simp [vU]; omega
theorem vUs_app (l m : List Ru) : vUs (l ++ m) = vUs l ++ vUs m := by simp [vUs, List.flatMap_append]
theorem vUs_get (l : List Ru) (k : Nat) (c : Ru) (h : l[k]? = some c) : (vUs l)[k * 4]? = some (.int .u64 (c.1 : Int)) ∧ (vUs l)[k * 4 + 1]? = some (.int .i32 c.2.r) ∧ (vUs l)[k * 4 + 2]? = some (.int .u16 (c.2.a : Int)) ∧ (vUs l)[k * 4 + 3]? = some (.int .u8 (c.2.h : Int)) := by
 induction l generalizing k with
 | nil => simp at h
 | cons d l ih =>
  have e : vUs (d :: l) = vU d ++ vUs l := rfl
  rw [e]
  match k, h with
  | 0, h =>
   simp at h
   subst h
   simp [vU]
  | k + 1, h =>
   have h' : l[k]? = some c := by simpa using h
   obtain ⟨a1, a2, a3, a4⟩ := ih k h'
   have hl : (vU d).length = 4 := rfl
   rw [List.getElem?_append_right (by omega), List.getElem?_append_right (by omega), List.getElem?_append_right (by omega), List.getElem?_append_right (by omega), hl]
   rw [show (k + 1) * 4 - 4 = k * 4 by omega, show (k + 1) * 4 + 1 - 4 = k * 4 + 1 by omega, show (k + 1) * 4 + 2 - 4 = k * 4 + 2 by omega, show (k + 1) * 4 + 3 - 4 = k * 4 + 3 by omega]
   exact ⟨a1, a2, a3, a4⟩
theorem vUs_one (l : List Ru) : ∀ u ∈ vUs l, u.oneCell' = true := by
 intro u hu
 unfold vUs at hu
 rw [List.mem_flatMap] at hu
 obtain ⟨c, _, hc⟩ := hu
 simp only [vU, List.mem_cons, List.not_mem_nil, or_false] at hc
 rcases hc with rfl | rfl | rfl | rfl <;> rfl
def OU (w : World) (base : Nat) (v : Value) (l : List Ru) : Prop := w.ownsRow base 123 4 v l.length (vUs l)
section
variable {w w' : World} {base g n cap : Nat} {v : Value} {l : List Ru}
theorem OU.nil (w : World) (base : Nat) : OU w base (.slice none 0 0) [] := World.ownsRow_nil w base _ _
theorem OU.alloc (h : OU w base v l) (o : Obj) : OU (w.alloc o) base v l := World.ownsRow.alloc h o
theorem OU.kept {row : Option Nat} (h : OU w base v l) (hg : w.grownBy w' row) (hne : v.ownBlock = none ∨ v.ownBlock ≠ row) : OU w' base v l := World.ownsRow.kept h hg hne
theorem OU.below (h : OU w base v l) (hb : Below w.heap.size w w') : OU w' base v l := by
 have hg : w.grownBy w' none := ⟨hb.os, hb.tape, hb.output, hb.size, fun i hi _ => hb.block i hi⟩
 refine h.kept hg ?_
 cases hv : v.ownBlock with
 | none => exact Or.inl rfl
 | some k => exact Or.inr (by simp)
theorem OU.form (h : OU w base v l) : ∃ A c, v = .slice A l.length c ∧ l.length ≤ c ∧ c ≤ 9223372036854775807 := by
 unfold OU at h
 rcases h.2 with ⟨rfl, hn⟩ | ⟨g, cap, cur, rfl, hbg, hg, hnc, hcm, hcs, htake⟩
 ·exact ⟨none, 0, by rw [hn], by omega, by omega⟩
 ·unfold maxLen at hcm
  exact ⟨_, cap, rfl, hnc, by omega⟩
theorem OU.get (h : OU w base v l) (k : Nat) (c : Ru) (hc : l[k]? = some c) : ∃ g cap, v = .slice (some ⟨g, 0, none⟩) l.length cap ∧ base ≤ g ∧ g < w.heap.size ∧ l.length ≤ cap ∧ cap ≤ 9223372036854775807 ∧ w.cell? ⟨g, k * 4, none⟩ = some (.int .u64 (c.1 : Int)) ∧ w.cell? ⟨g, k * 4 + 1, none⟩ = some (.int .i32 c.2.r) ∧ w.cell? ⟨g, k * 4 + 2, none⟩ = some (.int .u16 (c.2.a : Int)) ∧ w.cell? ⟨g, k * 4 + 3, none⟩ = some (.int .u8 (c.2.h : Int)) := by
 have hh := h
 have hk : k < l.length := (List.getElem?_eq_some_iff.1 hc).1
 obtain ⟨e0, e1, e2, e3⟩ := vUs_get l k c hc
 unfold OU at h
 rcases h.2 with ⟨rfl, hn⟩ | ⟨g, cap, cur, rfl, hbg, hg, hnc, hcm, hcs, htake⟩
 ·omega
 ·unfold maxLen at hcm
  exact ⟨g, cap, rfl, hbg, (World.ownsRow.lt hh g rfl).2, hnc, by omega, (World.ownsRow.cellAt h _ (by omega)).trans e0, (World.ownsRow.cellAt h _ (by omega)).trans e1, (World.ownsRow.cellAt h _ (by omega)).trans e2, (World.ownsRow.cellAt h _ (by omega)).trans e3⟩
end
theorem runInfo : (Tryz.prog.info? 123).map (fun i => (i.zero, i.size, i.bytes)) = some (some (.agg #[.int .u64 0, .int .i32 0, .int .u16 0, .int .u8 0]), 4, 16) := by kernel_rfl
theorem run_appU (w : World) (ty : TypeId) {base : Nat} {v : Value} {l : List Ru} {x : Ru} {ad : Addr} (hown : OU w base v l) (hr : ∀ j u, (vU x)[j]? = some u → w.cell? (ad.add j) = some u) (hlen : l.length + 1 ≤ 1099511627776) (hbase : base ≤ w.heap.size) :
  ∃ v' w', (Builtin.append_ #[149, 149] ty #[v, .slice (some ad) 1 1]).run Tryz.prog w = .ok v' w' ∧ OU w' base v' (l ++ [x]) ∧ w.grownBy w' v.ownBlock ∧ Below base w w' ∧ (v'.ownBlock = v.ownBlock ∨ v'.ownBlock = some w.heap.size) := by
 obtain ⟨i0, hi0, hz0, hz1, hz2⟩ := info_parts runInfo
 have hlt := World.ownsRow.lt hown
 have e : vUs [x] = vU x := by simp [vUs]
 obtain ⟨v', w', hrun, h4, h5, _, h6⟩ := run_append_own_at (P := Tryz.prog) w base 149 ty 123 i0 _ 4 16 Tryz.underlying149 hi0 hz0 hz1 hz2 rfl (by omega) v l.length (vUs l) hown ad 1 1 (vUs [x]) (by rw [vUs_len]; rfl) (by rw [e]; exact hr)
  (vUs_one [x]) (by simp only [maxLen]; omega) (by omega) hbase
 refine ⟨v', w', hrun, ?_, h5, (Below.refl _ _).grown h5 hbase (fun k hk => (hlt k hk).1), h6⟩
 unfold OU
 rw [List.length_append, vUs_app]
 exact h4
theorem wpl_appU (w : World) {ops : Array Oper} {rest : List Oper} {o : Oper} {a : Act} {Q : Exit → Act → World → Prop} (hgd : o.guard = none) (s y : Operand)
  (ho : o.op = .call { callee := .builtin .append, args := #[s, y], argTypes := #[149, 149] })
  (base : Nat) (v : Value) (ad : Addr) (l : List Ru) (x : Ru) (hs : a.eval s = v) (hx : a.eval y = .slice (some ad) 1 1) (hown : OU w base v l) (hr : ∀ j u, (vU x)[j]? = some u → w.cell? (ad.add j) = some u) (hlen : l.length + 1 ≤ 1099511627776) (hbase : base ≤ w.heap.size)
  (h : ∀ v' w', OU w' base v' (l ++ [x]) → w.grownBy w' v.ownBlock → Below base w w' → (v'.ownBlock = v.ownBlock ∨ v'.ownBlock = some w.heap.size) → wpList Tryz.prog ops Q rest (a.put o.dst v') w') :
  wpList Tryz.prog ops Q (o :: rest) a w := by
 refine wpList_plain hgd fun K hK => ?_
 obtain ⟨v', w', hrun, h2, h3, h4, h5⟩ := run_appU w o.type hown hr hlen hbase
 unfold Oper.wp execOp
 simp only [ho, resolve, invoke, builtin, Sem.run_bind, Sem.run_pure, Result.andThen_ok, List.map_toArray, List.map_cons, List.map_nil, hs, hx, hrun]
 exact hK _ _ (h v' w' h2 h3 h4 h5)
theorem oneU (w : World) (x : Ru) (t : TypeId) : ∀ j u, (vU x)[j]? = some u → (w.alloc (.cells #[.int .u64 (x.1 : Int), .int .i32 x.2.r, .int .u16 (x.2.a : Int), .int .u8 (x.2.h : Int)] t)).cell? ((⟨w.heap.size, 0, none⟩ : Addr).add j) = some u := by
 intro j u hj
 have hk := heap_one w (.cells #[.int .u64 (x.1 : Int), .int .i32 x.2.r, .int .u16 (x.2.a : Int), .int .u8 (x.2.h : Int)] t)
 have e : (⟨w.heap.size, 0, none⟩ : Addr).add j = ⟨w.heap.size, j, none⟩ := by unfold Addr.add; split <;> simp_all
 rw [e]
 refine (cell3 hk j ?_).1
 rw [← hj]
 simp [vU]
/-! ### the cells of runs -/
def expL (l : List Ru) : List Cl := l.flatMap fun x => List.replicate x.1 x.2
theorem expL_app (l m : List Ru) : expL (l ++ m) = expL l ++ expL m := by simp [expL, List.flatMap_append]
theorem expL_one (x : Ru) : expL [x] = List.replicate x.1 x.2 := by simp [expL]
theorem expL_len (l : List Ru) (h : ∀ x ∈ l, 0 < x.1) : l.length ≤ (expL l).length := by
 induction l with
 | nil => simp
 | cons x l ih =>
  have := ih (fun y hy => h y (List.mem_cons_of_mem _ hy))
  have h0 := h x (by simp)
  simp only [expL, List.flatMap_cons, List.length_append, List.length_replicate, List.length_cons] at this ⊢
  omega
theorem expL_last (l : List Ru) (h : ∀ x ∈ l, 0 < x.1) : (expL l).getLast? = l.getLast?.map (·.2) := by
 rcases List.eq_nil_or_concat l with rfl | ⟨m, x, rfl⟩
 ·rfl
 ·have h0 := h x (by simp)
  rw [List.concat_eq_append, expL_app, expL_one, List.getLast?_append, List.getLast?_append]
  obtain ⟨n, hn⟩ : ∃ n, x.1 = n + 1 := ⟨x.1 - 1, by omega⟩
  rw [hn, List.replicate_succ', List.getLast?_append]
  simp
theorem run3_len {b : List UInt8} {x : Nat × Nat × Nat} {k : Nat} (h : run3 b = (x, k, 0)) : k ≤ b.length := by
 have h1 := (readL_bd b).2.1
 have h2 := (readL_bd (b.drop (readL b).2.1)).2.1
 have h3 := (readL_bd (b.drop ((readL b).2.1 + (readL (b.drop (readL b).2.1)).2.1))).2.1
 rw [List.length_drop] at h2 h3
 unfold run3 at h
 split at h
 ·simp only [Prod.mk.injEq] at h; omega
 ·split at h
  ·simp only [Prod.mk.injEq] at h; omega
  ·split at h
   ·simp only [Prod.mk.injEq] at h; omega
   ·simp only [Prod.mk.injEq] at h; omega
theorem rr_cases (n : Nat) (b : List UInt8) (left : Nat) :
  (∃ e, e ≠ 0 ∧ rrL b left = ((0, ⟨0, 0, 0⟩), 0, e) ∧ ∀ f out at_, out.length < n → n - out.length = left → left ≤ f → readF n f b out at_ = ([], 0, e)) ∨
  (∃ v1 c k, rrL b left = ((v1, c), k, 0) ∧ 0 < v1 ∧ v1 ≤ left ∧ k ≤ b.length ∧ ∀ f out at_, out.length < n → n - out.length = left → left ≤ f → (out.getLast? = some c → readF n f b out at_ = ([], 0, 21)) ∧ (out.getLast? ≠ some c → readF n f b out at_ = readF n f (b.drop k) (out ++ List.replicate v1 c) (at_ + k))) := by
 obtain ⟨⟨⟨v1, v2, v3⟩, k, e⟩, hr⟩ : ∃ X, run3 b = X := ⟨_, rfl⟩
 by_cases he : e = 0
 ·subst he
  by_cases hb : v1 = 0 ∨ left < v1 ∨ (cofL v2 v3).2 = false
  ·refine .inl ⟨21, by decide, rrL_bad hr hb, fun f out at_ h1 h2 h3 => readF_bad (by omega) h1 hr ?_⟩
   rcases hb with h | h | h
   ·exact .inl (.inl h)
   ·exact .inl (.inr (.inl (by omega)))
   ·unfold cofL at h
    by_cases hx : 1114111 < v2 ∨ 16384 ≤ v3
    ·exact .inl (.inr (.inr hx))
    ·rw [if_neg hx] at h
     exact .inr (.inl h)
  ·refine .inr ⟨v1, (cofL v2 v3).1, k, rrL_ok hr hb, by omega, by omega, run3_len hr, fun f out at_ h1 h2 h3 => ?_⟩
   have hx : ¬ (1114111 < v2 ∨ 16384 ≤ v3) := by
    intro hx
    apply hb
    right; right
    unfold cofL
    rw [if_pos hx]
   have hc : cofL v2 v3 = (cellOf v2 v3, cellB (cellOf v2 v3)) := by unfold cofL; rw [if_neg hx]
   rw [hc] at hb ⊢
   simp only at hb ⊢
   refine ⟨fun h => readF_bad (by omega) h1 hr (.inr (.inr h)), fun h => readF_go (by omega) h1 hr (by omega) ?_⟩
   rintro (g | g)
   ·exact hb (.inr (.inr g))
   ·exact h g
 ·exact .inl ⟨e, he, rrL_err hr he, fun f out at_ h1 h2 h3 => readF_err (by omega) h1 hr he⟩
end Go.Proofs.YthncoigjfhmldaaGreat
