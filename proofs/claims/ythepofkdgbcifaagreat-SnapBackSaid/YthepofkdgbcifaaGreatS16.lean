/- What is proved here: parts of layer 10's proofs. -/
import Derived.Test.YthepofkdgbcifaaGreatS15
namespace Go.Proofs.YthepofkdgbcifaaGreat
open Go.RowKit
set_option linter.unusedVariables false
set_option linter.unusedSimpArgs false
set_option maxHeartbeats 8000000
set_option maxRecDepth 100000
theorem fitC_of {l : List Cl} (h : ∀ x ∈ l, cellB x = true) : ∀ x ∈ l, FitC x := fun x hx => by
 obtain ⟨h1, h2, h3, h4⟩ := cellB_bd (h x hx)
 exact ⟨by omega, by omega, by omega, by omega⟩
theorem putCells_any (v : Value) (l : List Cl) (w : World) (h : CS w w.heap.size v l) (hl : l.length ≤ 1048576) (hc : ∀ x ∈ l, cellB x = true) : Calls Tryz.prog 22 #[v] w (BytesPost (bytL l) w) := by
 have hp := putP_any v l w h hl (fitC_of hc)
 have HP : Hid (Calls Tryz.prog 52 #[v] w fun e w' => ∃ u, e = .returned (.tuple #[u, .int .i64 0]) ∧ OB w' w.heap.size u (bytL l) ∧ Below w.heap.size w w') := by
  refine hp.mono ?_
  rintro e w' ⟨u, he, ho, hb⟩
  rw [putCL_yes hc] at he ho
  exact ⟨u, he, ho, hb⟩
 obtain ⟨A, c, rfl, -⟩ := h
 clear hp hc hl
 go_enter Tryz.func22, Tryz.ntmps22
 go_wp2_with (go_at_call 52; refine HP.out.mono ?_; rintro e w1 ⟨u, rfl, ho, hb⟩)
 go_ret
 exact ⟨u, rfl, ho, hb⟩
theorem putParser_any (p : Pr) (vp vi vu : Value) (S : Nat → Prop) (w : World) (hS : ∀ x, S x → x < w.heap.size) (hp : SL vI w S vp p.params) (hi : SL vB w S vi p.inter) (hu : SL vB w S vu p.utf) (hr : RightP (p.mode : Int) p.priv p.params p.inter p.utf) : Calls Tryz.prog 23 #[.agg #[.int .i64 (p.mode : Int), .int .u8 (p.priv : Int), vp, vi, vu]] w (BytesPost (parserB p) w) := by
 obtain ⟨⟨-, m7, k16, i2, huf⟩, hps, -, hpv, -, -⟩ := hr
 have hul : p.utf.length ≤ 3 := by
  rcases Nat.eq_zero_or_pos p.utf.length with h | h
  ·omega
  ·exact (beginsL_len _ (huf h).2).2
 have hpv2 : p.priv ≤ 63 := by omega
 have HP := Lh (hp.is hS)
 have HI := Lh (hi.bs hS)
 have HU := Lh (hu.bs hS)
 obtain ⟨Ap, cp, rfl, p1, p2⟩ := hp.form
 obtain ⟨Ai, ci, rfl, i1, i3⟩ := hi.form
 obtain ⟨Au, cu, rfl, u1, u2⟩ := hu.form
 have HPS := Lh hps
 clear hp hi hu hps hpv huf hS
 have HN : Hid (∀ (v : Value) (l : List Int) (W : World), IS W W.heap.size v l → l.length ≤ 100 → (∀ x ∈ l, 0 ≤ x ∧ x < 9223372036854775808) → Calls Tryz.prog 19 #[v] W (BytesPost (snumL (l.map Int.toNat)) W)) := fun v l W => putNumbers_any v l W
 have HPB : Hid (∀ (v : Value) (l : List UInt8) (W : World), BS W W.heap.size v l → l.length ≤ 1048576 → Calls Tryz.prog 53 #[v] W (PBPost l W)) := fun v l W => putbytes_any v l W
 have l1 := snumL_len [p.mode, p.priv, p.params.length]
 have l2 := snumL_len (p.params.map Int.toNat)
 have l3 := (lebP_length p.inter.length).2
 have l4 := (lebP_length p.utf.length).2
 have l5 : (putB p.inter).length ≤ 12 := by simp [putB]; omega
 have l6 : (putB p.utf).length ≤ 13 := by simp [putB]; omega
 simp only [List.length_map, List.length_cons, List.length_nil] at l1 l2
 clear l3 l4
 obtain ⟨M1, hM1⟩ : ∃ M, snumL [p.mode, p.priv, p.params.length] = M := ⟨_, rfl⟩
 obtain ⟨M2, hM2⟩ : ∃ M, snumL (p.params.map Int.toNat) = M := ⟨_, rfl⟩
 obtain ⟨L3, hL3⟩ : ∃ L, M1 ++ M2 = L := ⟨_, rfl⟩
 obtain ⟨L5, hL5⟩ : ∃ L, L3 ++ putB p.inter = L := ⟨_, rfl⟩
 rw [hM1] at l1
 rw [hM2] at l2
 have l7 : L3.length ≤ 200 := by rw [← hL3, List.length_append]; omega
 have l8 : L5.length ≤ 220 := by rw [← hL5, List.length_append]; omega
 have HM1 := Lh hM1
 have HM2 := Lh hM2
 have HL3 := Lh hL3
 have HL5 := Lh hL5
 clear hM1 hM2 hL3 hL5
 go_enter Tryz.func23, Tryz.ntmps23
 go_wp2_with fail
 obtain ⟨k0, -⟩ := two_keptB (w := w) (x := .cells #[.int .i64 (p.mode : Int), .int .u8 (p.priv : Int), .slice Ap p.params.length cp, .slice Ai p.inter.length ci, .slice Au p.utf.length cu] 28) (y := .cells #[.int .i64 (p.mode : Int), .int .i64 (p.priv : Int), .int .i64 (p.params.length : Int)] 3) (Below.refl _ _)
 obtain ⟨bw, sw⟩ := two_new w (.cells #[.int .i64 (p.mode : Int), .int .u8 (p.priv : Int), .slice Ap p.params.length cp, .slice Ai p.inter.length ci, .slice Au p.utf.length cu] 28) (.cells #[.int .i64 (p.mode : Int), .int .i64 (p.priv : Int), .int .i64 (p.params.length : Int)] 3)
 have hlit := IS.lit (w.alloc (.cells #[.int .i64 (p.mode : Int), .int .u8 (p.priv : Int), .slice Ap p.params.length cp, .slice Ai p.inter.length ci, .slice Au p.utf.length cu] 28)) [(p.mode : Int), (p.priv : Int), (p.params.length : Int)] 3 _ 3 rfl rfl (by simp)
 rw [show (w.alloc (.cells #[.int .i64 (p.mode : Int), .int .u8 (p.priv : Int), .slice Ap p.params.length cp, .slice Ai p.inter.length ci, .slice Au p.utf.length cu] 28)).heap.size = w.heap.size + 1 by simp] at hlit
 generalize hW : World.alloc (World.alloc w _) _ = W0 at k0 bw sw ⊢
 have hlit2 : IS W0 W0.heap.size (.slice (some ⟨w.heap.size + 1, 0, none⟩) 3 3) [(p.mode : Int), (p.priv : Int), (p.params.length : Int)] := by
  rw [← hW]
  exact hlit.more (by simp)
 clear hW hlit
 have hc := HN.out _ _ _ hlit2 (by simp) (by simp; omega)
 rw [show [(p.mode : Int), (p.priv : Int), (p.params.length : Int)].map Int.toNat = [p.mode, p.priv, p.params.length] by simp, HM1.out] at hc
 refine hc.mono ?_
 rintro e w1 ⟨v1, rfl, o1, b1⟩
 clear hc hlit2
 have K1 := Lh ((b1.block _ (by omega)).trans k0)
 have B1 := Lh (bw.trans (b1.mono (by omega)))
 have O1 := Lh (own_lowS o1 (b2 := w.heap.size + 1) (by omega))
 have s1 := b1.size
 obtain ⟨A1, c1, rfl, -, -⟩ := o1.sl.form
 obtain ⟨d2, i2⟩ := cellR (v := .slice Ap p.params.length cp) K1.out 2 rfl
 clear b1 o1 k0 bw
 have HBX : Hid (∀ W, Below w.heap.size w W → IS W W.heap.size (.slice Ap p.params.length cp) p.params ∧ BS W W.heap.size (.slice Ai p.inter.length ci) p.inter ∧ BS W W.heap.size (.slice Au p.utf.length cu) p.utf) := fun W h => ⟨(HP.out.below h).more h.size, (HI.out.below h).more h.size, (HU.out.below h).more h.size⟩
 have hq : w.heap.size + 2 ≤ w1.heap.size := by omega
 clear sw s1
 go_wp2_with fail
 refine (HN.out _ _ _ (HBX.out _ B1.out).1 (by omega) (fun x hx => by have := HPS.out x hx; omega)).mono ?_
 rintro e w2 ⟨v2, rfl, o2, b2⟩
 rw [HM2.out] at o2
 have s2 := b2.size
 have K2 := Lh ((b2.block _ (by omega)).trans K1.out)
 have B2 := Lh (B1.out.trans (b2.mono (by omega)))
 have O2 := Lh ((show OB w1 (w.heap.size + 1) _ _ from O1.out).below b2)
 have N2 := Lh o2
 obtain ⟨A2, c2, rfl, -, -⟩ := o2.sl.form
 clear b2 o2 K1 B1 O1 d2 i2
 go_wp2_with (at_builtin; refine wpl_app _ rfl (.tmp 14) (.tmp 17) rfl (w.heap.size + 1) _ _ _ _ _ rfl rfl O2.out N2.out.bs (by omega) (by omega) ?_; intro v3 w3 ho3 hg3 hb3 hat3; rw [HL3.out] at ho3; have K3 := Lh ((hb3.block _ (by omega)).trans K2.out); have B3 := Lh (B2.out.trans (hb3.mono (by omega))); have O3 := Lh ho3; obtain ⟨A3, c3, hv3, -, -⟩ := ho3.sl.form; subst hv3; obtain ⟨d3, i3⟩ := cellR (v := .slice Ai p.inter.length ci) K3.out 3 rfl; have s3 := hb3.size; clear ho3 hg3 hb3 hat3 K2 B2 O2 N2)
 refine (HPB.out _ _ _ (HBX.out _ B3.out).2.1 (by omega)).mono ?_
 rintro e w4 ⟨v4, rfl, o4, b4⟩
 have s4 := b4.size
 have K4 := Lh ((b4.block _ (by omega)).trans K3.out)
 have B4 := Lh (B3.out.trans (b4.mono (by omega)))
 have O4 := Lh (O3.out.below b4)
 have N4 := Lh o4
 obtain ⟨A4, c4, hv4, -, -⟩ := o4.sl.form
 subst hv4
 clear b4 o4 K3 B3 O3 d3 i3
 go_wp2_with (at_builtin; refine wpl_app _ rfl (.tmp 19) (.tmp 22) rfl (w.heap.size + 1) _ _ _ _ _ rfl rfl O4.out N4.out.bs (by omega) (by omega) ?_; intro v5 w5 ho5 hg5 hb5 hat5; rw [HL5.out] at ho5; have K5 := Lh ((hb5.block _ (by omega)).trans K4.out); have B5 := Lh (B4.out.trans (hb5.mono (by omega))); have O5 := Lh ho5; obtain ⟨A5, c5, hv5, -, -⟩ := ho5.sl.form; subst hv5; obtain ⟨d4, i4⟩ := cellR (v := .slice Au p.utf.length cu) K5.out 4 rfl; have s5 := hb5.size; clear ho5 hg5 hb5 hat5 K4 B4 O4 N4)
 refine (HPB.out _ _ _ (HBX.out _ B5.out).2.2 (by omega)).mono ?_
 rintro e w6 ⟨v6, rfl, o6, b6⟩
 have s6 := b6.size
 have B6 := Lh (B5.out.trans (b6.mono (by omega)))
 have O6 := Lh (O5.out.below b6)
 have N6 := Lh o6
 obtain ⟨A6, c6, hv6, -, -⟩ := o6.sl.form
 subst hv6
 clear b6 o6 K5 B5 O5 d4 i4
 go_wp2_with (at_builtin; refine wpl_app _ rfl (.tmp 24) (.tmp 27) rfl (w.heap.size + 1) _ _ _ _ _ rfl rfl O6.out N6.out.bs (by omega) (by omega) ?_; intro v7 w7 ho7 hg7 hb7 hat7)
 go_ret
 refine ⟨_, rfl, ?_, B6.out.trans (hb7.mono (by omega))⟩
 have := own_lowS (b2 := w.heap.size) ho7 (by omega)
 rw [← HL5.out, ← HL3.out, ← HM1.out, ← HM2.out] at this
 rw [show parserB p = snumL [p.mode, p.priv, p.params.length] ++ snumL (p.params.map Int.toNat) ++ putB p.inter ++ putB p.utf by simp [parserB]]
 exact this
theorem or_bits (a b c d : Bool) : bits .or .i64 (bN a 1 : Int) (bN b 2 : Int) = (bN a 1 : Int) + (bN b 2 : Int) ∧ bits .or .i64 ((bN a 1 : Int) + (bN b 2 : Int)) (bN c 4 : Int) = (bN a 1 : Int) + (bN b 2 : Int) + (bN c 4 : Int) ∧ bits .or .i64 ((bN a 1 : Int) + (bN b 2 : Int) + (bN c 4 : Int)) (bN d 8 : Int) = (bN a 1 : Int) + (bN b 2 : Int) + (bN c 4 : Int) + (bN d 8 : Int) := by
 cases a <;> cases b <;> cases c <;> cases d <;> decide
theorem bitsOf_any (s : Sc) (m : Int) (A1 A2 A3 A4 A5 A6 : Option Addr) (n1 n2 n3 n4 n5 n6 k1 k2 k3 k4 k5 k6 : Nat) (w : World) : Calls Tryz.prog 20 #[.agg (vNq m s A1 A2 A3 A4 A5 A6 n1 n2 n3 n4 n5 n6 k1 k2 k3 k4 k5 k6)] w fun e w' => e = .returned (.int .i64 (bitsN s : Int)) ∧ Below w.heap.size w w' := by
 obtain ⟨h1, h2, h3⟩ := or_bits s.wrap s.auto s.shown s.alt
 have H1 : Hid (∀ (W : World) (n : Nat), Calls Tryz.prog 51 #[.bool s.wrap, .int .i64 1] (W.drewN n) fun e w' => e = .returned (.int .i64 (bN s.wrap 1 : Int)) ∧ w' = W.drewN n) := fun W n => (bitIf_any s.wrap 1 1 (by omega) (W.drewN n)).mono fun e w' ⟨a, b⟩ => ⟨a, b.symm⟩
 have H2 : Hid (∀ (W : World) (n : Nat), Calls Tryz.prog 51 #[.bool s.auto, .int .i64 2] (W.drewN n) fun e w' => e = .returned (.int .i64 (bN s.auto 2 : Int)) ∧ w' = W.drewN n) := fun W n => (bitIf_any s.auto 2 2 (by omega) (W.drewN n)).mono fun e w' ⟨a, b⟩ => ⟨a, b.symm⟩
 have H4 : Hid (∀ (W : World) (n : Nat), Calls Tryz.prog 51 #[.bool s.shown, .int .i64 4] (W.drewN n) fun e w' => e = .returned (.int .i64 (bN s.shown 4 : Int)) ∧ w' = W.drewN n) := fun W n => (bitIf_any s.shown 4 4 (by omega) (W.drewN n)).mono fun e w' ⟨a, b⟩ => ⟨a, b.symm⟩
 have H8 : Hid (∀ (W : World) (n : Nat), Calls Tryz.prog 51 #[.bool s.alt, .int .i64 8] (W.drewN n) fun e w' => e = .returned (.int .i64 (bN s.alt 8 : Int)) ∧ w' = W.drewN n) := fun W n => (bitIf_any s.alt 8 8 (by omega) (W.drewN n)).mono fun e w' ⟨a, b⟩ => ⟨a, b.symm⟩
 have hb0 : (w.alloc (.cells (vNq m s A1 A2 A3 A4 A5 A6 n1 n2 n3 n4 n5 n6 k1 k2 k3 k4 k5 k6) 30)).heap[w.heap.size]? = some (.cells (vNq m s A1 A2 A3 A4 A5 A6 n1 n2 n3 n4 n5 n6 k1 k2 k3 k4 k5 k6) 30) := heap_one w _
 obtain ⟨d5, -⟩ := cellR (v := .bool s.wrap) hb0 5 rfl
 obtain ⟨d13, -⟩ := cellR (v := .bool s.auto) hb0 13 rfl
 obtain ⟨d14, -⟩ := cellR (v := .bool s.shown) hb0 14 rfl
 obtain ⟨d15, -⟩ := cellR (v := .bool s.alt) hb0 15 rfl
 have HBW := Lh ((Below.refl w.heap.size w).alloc (Nat.le_refl _) (.cells (vNq m s A1 A2 A3 A4 A5 A6 n1 n2 n3 n4 n5 n6 k1 k2 k3 k4 k5 k6) 30))
 clear hb0
 go_enter Tryz.func20, Tryz.ntmps20
 go_upto_region 1 with fail
 generalize World.alloc w _ = W at d5 d13 d14 d15 HBW ⊢
 go_quiet (first
  | (go_at_call 51; with_reducible exact Calls.quiet_of_same (H1.out _ _))
  | (go_at_call 51; with_reducible exact Calls.quiet_of_same (H2.out _ _))
  | (go_at_call 51; with_reducible exact Calls.quiet_of_same (H4.out _ _))
  | (go_at_call 51; with_reducible exact Calls.quiet_of_same (H8.out _ _)))
 go_wp2
 go_ret
 refine ⟨?_, below_drewP HBW.out _⟩
 rw [show (bitsN s : Int) = (bN s.wrap 1 : Int) + (bN s.auto 2 : Int) + (bN s.shown 4 : Int) + (bN s.alt 8 : Int) by simp [bitsN]]
 rfl
def findReg (n : Nat) : Code → Option Code
  | .region id ops b => if id = n then some (.region id ops b) else none
  | .seq a b => match findReg n a with
    | some c => some c
    | none => findReg n b
  | .cond _ a b => match findReg n a with
    | some c => some c
    | none => findReg n b
  | .block _ c => findReg n c
  | .scope c => findReg n c
  | .loop c => findReg n c
  | _ => none
def Has (a : Act) (j : Nat) (v : Value) : Prop := a.tmps[j]? = some v
section
variable {a b c : Act} {i j lo hi lo' hi' : Nat} {u v : Value}
theorem Has.eval (h : Has a j v) : a.eval (.tmp j) = v := by
  unfold Has at h
  unfold Act.eval
  simp only
  rw [Array.getD_eq_getD_getElem?, h]
  rfl
theorem Has.put_same (hi : i < a.tmps.size) : Has (a.put (some i) v) i v := by
  unfold Has Act.put
  simp only
  rw [Array.getElem?_setIfInBounds, if_pos rfl, if_pos hi]
theorem Has.put_ne (h : Has a j v) (hne : i ≠ j) : Has (a.put (some i) u) j v := by
  unfold Has Act.put at *
  simp only
  rw [Array.getElem?_setIfInBounds, if_neg hne]
  exact h
structure Agree (D : List Nat) (a b : Act) : Prop where
  size : b.tmps.size = a.tmps.size
  defers : b.defers = a.defers
  same : ∀ j, D.contains j = false → b.tmps[j]? = a.tmps[j]?
theorem Agree.refl {D : List Nat} : Agree D a a := ⟨rfl, rfl, fun _ _ => rfl⟩
theorem Agree.put {D : List Nat} (h : Agree D a b) (h1 : D.contains i = true) : Agree D a (b.put (some i) u) := by
  obtain ⟨h3, h4, h5⟩ := h
  refine ⟨?_, ?_, fun j hj => ?_⟩
  · unfold Act.put; simp only; rw [Array.size_setIfInBounds, h3]
  · unfold Act.put; exact h4
  · unfold Act.put
    simp only
    have hne : i ≠ j := fun e => by subst e; rw [h1] at hj; cases hj
    rw [Array.getElem?_setIfInBounds, if_neg hne]
    exact h5 j hj
def rowOfD (n : Nat) (D : List Nat) (u f : Nat → Value) : List Value := (List.range n).map fun j => bif D.contains j then f j else u j
theorem Agree.form {D : List Nat} (h : Agree D a b) (n : Nat) (hn : a.tmps.size = n) (u : Nat → Value) (hu : ∀ j, j < n → a.tmps[j]? = some (u j)) : ∃ f : Nat → Value, b = ⟨(rowOfD n D u f).toArray, a.defers⟩ ∧ ∀ j v, Has b j v → f j = v := by
  refine ⟨fun j => b.tmps.getD j undef, ?_, fun j v hv => ?_⟩
  · obtain ⟨bt, bd⟩ := b
    obtain ⟨h3, h4, h5⟩ := h
    simp only at h3 h4 h5 ⊢
    subst h4
    congr 1
    apply Array.ext_getElem?
    intro j
    unfold rowOfD
    refine Eq.trans ?_ (List.getElem?_toArray ..).symm
    rw [List.getElem?_map]
    by_cases hj : j < n
    · rw [List.getElem?_range hj]
      simp only [Option.map_some]
      have hjb : j < bt.size := by omega
      cases hb : D.contains j with
      | true =>
        simp only [cond_true]
        rw [Array.getD_eq_getD_getElem?, Array.getElem?_eq_getElem hjb]
        rfl
      | false =>
        simp only [cond_false]
        rw [h5 j hb, hu j hj]
    · rw [Array.getElem?_eq_none (by omega), List.getElem?_eq_none (by simp; omega)]
      rfl
  · unfold Has at hv
    simp only
    rw [Array.getD_eq_getD_getElem?, hv]
    rfl
end
section
variable {P : Program} {ops : Array Oper} {Q : Exit → Act → World → Prop} {S : World → Prop}
def RunH (P : Program) (ops : Array Oper) (Q : Exit → Act → World → Prop) (S : World → Prop) : List (Nat × Bool) → Act → World → Prop
  | [], a, w => Q .normal a w
  | (i, true) :: rest, a, w => ∃ o v, ops[i]? = some o ∧ YieldsIf P ops S o v a ∧ S w ∧ RunH P ops Q S rest (a.put o.dst v) w
  | (i, false) :: rest, a, w => wpOp P ops Q i (fun a' w' => S w' ∧ RunH P ops Q S rest a' w') a w
def bitsUp (n m : Nat) : Array Bool := ((List.range n).map fun j => m.testBit j).toArray
theorem bitsUp_get (n m j : Nat) : (bitsUp n m)[j]? = if j < n then some (m.testBit j) else none := by
  unfold bitsUp
  rw [List.getElem?_toArray, List.getElem?_map]
  by_cases h : j < n
  · rw [List.getElem?_range h, if_pos h]; rfl
  · rw [List.getElem?_eq_none (by simp; omega), if_neg h]; rfl
theorem bitsUp_zero (n : Nat) : Array.replicate n false = bitsUp n 0 := by
  apply Array.ext_getElem?
  intro j
  rw [bitsUp_get, Array.getElem?_replicate, Nat.zero_testBit]
theorem bitsUp_set (n m i : Nat) : (bitsUp n m).setIfInBounds i true = bitsUp n (m ||| 2 ^ i) := by
  apply Array.ext_getElem?
  intro j
  rw [Array.getElem?_setIfInBounds, bitsUp_get, bitsUp_get, Nat.testBit_or, Nat.testBit_two_pow]
  have hs : (bitsUp n m).size = n := by simp [bitsUp]
  rw [hs]
  by_cases h : i = j
  · subst h
    rw [if_pos rfl]
    by_cases h2 : i < n
    · rw [if_pos h2, if_pos h2]; simp
    · rw [if_neg h2, if_neg h2]
  · rw [if_neg h]
    simp [h]
theorem blt_no {x y : Nat} (h : ¬ x < y) : Nat.blt x y = false := by
  cases e : Nat.blt x y with
  | false => rfl
  | true => exact absurd (by simpa [Nat.blt_eq] using e) h
theorem blt_yes {x y : Nat} (h : x < y) : Nat.blt x y = true := by
  cases e : Nat.blt x y with
  | true => rfl
  | false => exact absurd h (fun h => by have : Nat.blt x y = true := by simpa [Nat.blt_eq] using h
                                         rw [e] at this; cases this)
def allIdx (p : Nat → Oper → Bool) : Nat → List Oper → Bool
  | _, [] => true
  | k, o :: l => p k o && allIdx p (k + 1) l
theorem allIdx_get {p : Nat → Oper → Bool} : ∀ (l : List Oper) (k : Nat), allIdx p k l = true → ∀ (j : Nat) (o : Oper), l[j]? = some o → p (k + j) o = true
  | [], _, _, j, o, h => by simp at h
  | x :: l, k, h, j, o, hj => by
    unfold allIdx at h
    rw [Bool.and_eq_true] at h
    match j, hj with
    | 0, hj =>
      simp at hj
      subst hj
      exact h.1
    | j + 1, hj =>
      have := allIdx_get l (k + 1) h.2 j o (by simpa using hj)
      rw [show k + (j + 1) = k + 1 + j by omega]
      exact this
def okOwn (ops : Array Oper) : Bool :=
  allIdx (fun j o => allIdx (fun i oi => (i == j) || (match oi.dst with
    | none => true
    | some d => (o.dst != some d) && (!(o.looksAt ops).contains d || ((o.after.toList.any fun e => Region.binds .any e && e.on == i) || (oi.after.toList.any fun e => Region.binds .any e && e.on == j))))) 0 ops.toList) 0 ops.toList
def readyB (n m j : Nat) (o : Oper) : Bool := !m.testBit j && o.after.all fun e => !Region.binds .any e || (Nat.blt e.on n && m.testBit e.on)
def okSteps (ops : Array Oper) (n : Nat) : List (Nat × Bool × Nat) → Nat → Bool
  | [], m => m == 2 ^ n - 1
  | (i, t, m') :: rest, m => ((m ||| 2 ^ i) == m') && (match ops.toList[i]? with | some o => readyB n m i o | none => false) && (t || allIdx (fun j o => j == i || !readyB n m j o) 0 ops.toList) && okSteps ops n rest m'
theorem mem_bits {n m i : Nat} {o : Oper} (ho : ops[i]? = some o) (hn : ops.size = n) : i ∈ Region.ready .any ops (bitsUp n m) ↔ readyB n m i o = true := by
  have hi : i < n := by rw [← hn]; exact (Array.getElem?_eq_some_iff.1 ho).1
  have hb : ∀ j d, (bitsUp n m).getD j d = if j < n then m.testBit j else d := fun j d => by
    rw [Array.getD_eq_getD_getElem?, bitsUp_get]
    split <;> rfl
  unfold Region.ready readyB
  rw [List.mem_filter, List.mem_range, hn]
  simp only [hb, ho, Option.map_some, Option.getD_some, if_pos hi]
  constructor
  · rintro ⟨_, h⟩
    rw [Bool.and_eq_true] at h ⊢
    refine ⟨h.1, ?_⟩
    rw [Array.all_eq_true_iff_forall_mem] at h ⊢
    intro e he
    have := h.2 e he
    by_cases h2 : e.on < n
    · rw [if_pos h2] at this
      rw [blt_yes h2, Bool.true_and]
      exact this
    · rw [if_neg h2] at this
      rw [blt_no h2, Bool.false_and]
      exact this
  · intro h
    refine ⟨hi, ?_⟩
    rw [Bool.and_eq_true] at h ⊢
    refine ⟨h.1, ?_⟩
    rw [Array.all_eq_true_iff_forall_mem] at h ⊢
    intro e he
    have := h.2 e he
    by_cases h2 : e.on < n
    · rw [blt_yes h2, Bool.true_and] at this
      rw [if_pos h2]
      exact this
    · rw [blt_no h2, Bool.false_and] at this
      rw [if_neg h2]
      exact this
theorem own_at {i j : Nat} {oi oj : Oper} {d : Nat} (hok : okOwn ops = true) (hi : ops[i]? = some oi) (hj : ops[j]? = some oj) (hne : i ≠ j) (hd : oi.dst = some d) : oj.dst ≠ some d ∧ ((oj.looksAt ops).contains d = true → (∃ e ∈ oj.after, Region.binds .any e = true ∧ e.on = i) ∨ (∃ e ∈ oi.after, Region.binds .any e = true ∧ e.on = j)) := by
  have g1 := allIdx_get _ _ hok j oj (by rw [Array.getElem?_toList]; exact hj)
  have g2 := allIdx_get _ _ g1 i oi (by rw [Array.getElem?_toList]; exact hi)
  simp only [Nat.zero_add, hd, Bool.or_eq_true, beq_iff_eq, Bool.and_eq_true, bne_iff_ne, ne_eq, Bool.not_eq_true', List.any_eq_true] at g2
  rcases g2 with g2 | ⟨g3, g4⟩
  · exact absurd g2 hne
  · refine ⟨g3, fun hc => ?_⟩
    rcases g4 with g4 | ⟨e, he, h1, h2⟩ | ⟨e, he, h1, h2⟩
    · rw [hc] at g4; cases g4
    · exact .inl ⟨e, Array.mem_toList_iff.1 he, h1, h2⟩
    · exact .inr ⟨e, Array.mem_toList_iff.1 he, h1, h2⟩
theorem apart_own {n m i j : Nat} {oi oj : Oper} (hok : okOwn ops = true) (hn : ops.size = n) (hi : ops[i]? = some oi) (hj : ops[j]? = some oj) (hne : j ≠ i)
    (hr : readyB n m i oi = true) (hun : (bitsUp n m).getD j true = false) (hno : ∀ e ∈ oj.after, Region.binds .any e = true → e.on ≠ i) : oi.apart ops oj = true := by
  have lj : j < n := by rw [← hn]; exact (Array.getElem?_eq_some_iff.1 hj).1
  have hbj : m.testBit j = false := by
    rw [Array.getD_eq_getD_getElem?, bitsUp_get, if_pos lj] at hun
    exact hun
  have hw : ∀ e ∈ oi.after, Region.binds .any e = true → e.on = j → False := fun e he h3 h4 => by
    unfold readyB at hr
    rw [Bool.and_eq_true, Array.all_eq_true_iff_forall_mem] at hr
    have h5 := hr.2 e he
    rw [h3, h4, hbj] at h5
    simp at h5
  unfold Oper.apart
  rw [Bool.and_eq_true]
  constructor
  · cases hd : oi.dst with
    | none => rfl
    | some d =>
      obtain ⟨h1, h2⟩ := own_at hok hi hj (Ne.symm hne) hd
      simp only [Bool.and_eq_true, Bool.not_eq_true', bne_iff_ne, ne_eq]
      refine ⟨?_, h1⟩
      cases hc : (oj.looksAt ops).contains d with
      | false => rfl
      | true =>
        rcases h2 hc with ⟨e, he, h3, h4⟩ | ⟨e, he, h3, h4⟩
        · exact absurd h4 (hno e he h3)
        · exact (hw e he h3 h4).elim
  · cases hd : oj.dst with
    | none => rfl
    | some d =>
      obtain ⟨h1, h2⟩ := own_at hok hj hi hne hd
      simp only [Bool.not_eq_true']
      cases hc : (oi.looksAt ops).contains d with
      | false => rfl
      | true =>
        rcases h2 hc with ⟨e, he, h3, h4⟩ | ⟨e, he, h3, h4⟩
        · exact (hw e he h3 h4).elim
        · exact absurd h4 (hno e he h3)
theorem run_held {n : Nat} (hs : Region.noSelect ops = true) (hQ : ∀ c d v a w, Q (.panic c) (Act.put a d v) w → Q (.panic c) a w) (hn : ops.size = n) (hown : okOwn ops = true) :
    ∀ (ord : List (Nat × Bool × Nat)) (fuel m : Nat) (a : Act) (w : World), ord.length ≤ fuel → okSteps ops n ord m = true → RunH P ops Q S (ord.map fun x => (x.1, x.2.1)) a w → wpAnyH P .any ops Q S fuel (bitsUp n m) a w := by
  intro ord
  induction ord with
  | nil =>
    intro fuel m a w _ hok h
    refine wpAnyH_done ?_ h fuel
    unfold okSteps at hok
    rw [beq_iff_eq] at hok
    apply List.eq_nil_iff_forall_not_mem.2
    intro i hi
    have h1 : i < n := by
      unfold Region.ready at hi
      rw [List.mem_filter, List.mem_range, hn] at hi
      exact hi.1
    obtain ⟨o, ho⟩ : ∃ o, ops[i]? = some o := ⟨_, Array.getElem?_eq_getElem (by omega)⟩
    rw [mem_bits ho hn] at hi
    unfold readyB at hi
    rw [hok, Nat.testBit_two_pow_sub_one] at hi
    simp [h1] at hi
  | cons x rest ih =>
    obtain ⟨i, t, m'⟩ := x
    intro fuel m a w hl hok h
    obtain ⟨f, rfl⟩ : ∃ f, fuel = f + 1 := ⟨fuel - 1, by simp at hl; omega⟩
    have hl' : rest.length ≤ f := by simpa using hl
    unfold okSteps at hok
    rw [Bool.and_eq_true, Bool.and_eq_true, Bool.and_eq_true, beq_iff_eq] at hok
    obtain ⟨⟨⟨h1, h2⟩, h3⟩, h4⟩ := hok
    subst h1
    cases ho : ops.toList[i]? with
    | none => rw [ho] at h2; cases h2
    | some o =>
      rw [ho] at h2
      simp only at h2
      rw [Array.getElem?_toList] at ho
      have hmem := (mem_bits ho hn).2 h2
      cases t with
      | true =>
        obtain ⟨o', v, ho', hy, hS, hr⟩ := h
        obtain rfl : o = o' := by rw [ho] at ho'; exact Option.some.inj ho'
        refine wpAnyH_first ho (fun j oj cs b hj => Region.noSelect_spec hs j oj cs b hj) (fun c a w => hQ c o.dst v a w) f _ a w (fun j oj hj hne hun hno => apart_own hown hn ho hj hne h2 hun hno) hmem hy hS ?_
        rw [bitsUp_set]
        exact ih f _ _ _ hl' h4 hr
      | false =>
        have hrs : ∀ j ∈ Region.ready .any ops (bitsUp n m), j = i := fun j hj => by
          have hjn : j < n := by
            unfold Region.ready at hj
            rw [List.mem_filter, List.mem_range, hn] at hj
            exact hj.1
          obtain ⟨oj, hoj⟩ : ∃ o, ops[j]? = some o := ⟨_, Array.getElem?_eq_getElem (by omega)⟩
          rw [mem_bits hoj hn] at hj
          rw [Bool.false_or] at h3
          have := allIdx_get _ _ h3 j oj (by rw [Array.getElem?_toList]; exact hoj)
          rw [Nat.zero_add, hj] at this
          simpa using this
        refine wpAnyH_all rfl (List.ne_nil_of_mem hmem) fun j hj => ?_
        obtain rfl := hrs j hj
        refine wpOp_mono (fun a' w' hh => ⟨hh.1, ?_⟩) h
        rw [bitsUp_set]
        exact ih f _ _ _ hl' h4 hh.2
theorem region_run {id n : Nat} {a : Act} {w : World} (ord : List (Nat × Bool × Nat)) (hm : P.follows .mixedOrders = true) (hs : Region.noSelect ops = true) (hQ : ∀ c d v a w, Q (.panic c) (Act.put a d v) w → Q (.panic c) a w)
    (hn : ops.size = n) (hl : Nat.ble ord.length n = true) (hown : okOwn ops = true) (hok : okSteps ops n ord 0 = true) (hS : S w.drew) (h : RunH P ops Q S (ord.map fun x => (x.1, x.2.1)) a w.drew) : (Code.region id ops true).wp P Q a w :=
  wp_region_held_drew hm hS fun _ => by
    rw [hn, bitsUp_zero]
    exact run_held hs hQ hn hown ord n 0 a _ (Nat.le_of_ble_eq_true hl) hok h
variable {a : Act} {w : World} {i d : Nat} {v : Value} {op : Op} {g : Option (Nat × Bool)} {rest : List (Nat × Bool)}
def Asked (ops : Array Oper) (a : Act) : Option (Nat × Bool) → Prop
  | none => True
  | some (g, b) => ∃ t, (ops[g]?).bind (·.dst) = some t ∧ Has a t (.bool b)
theorem Asked.wanted {o : Oper} (hg : o.guard = g) (h : Asked ops a g) : Region.wanted o (yielded ops a.tmps) = true := by
  cases g with
  | none => simp [Region.wanted, hg]
  | some x =>
    obtain ⟨j, b⟩ := x
    obtain ⟨t, h1, h2⟩ := h
    have : yielded ops a.tmps j = some b := by
      unfold Has at h2
      simp [yielded, h1, h2]
    simp [Region.wanted, hg, this]
theorem RunH.pure (i d : Nat) (op : Op) (g : Option (Nat × Bool)) (v : Value) (ho : (ops[i]?).map (fun o => (o.dst, o.op, o.guard)) = some (some d, op, g)) (hg : Asked ops a g)
    (hx : ∀ o : Oper, o.op = op → ∀ w, S w → (execOp a.eval o).run P w = .ok (.value v) w) (hS : S w) (h : RunH P ops Q S rest (a.put (some d) v) w) : RunH P ops Q S ((i, true) :: rest) a w := by
  cases hi : ops[i]? with
  | none => rw [hi] at ho; cases ho
  | some o =>
    rw [hi] at ho
    simp only [Option.map_some, Option.some.injEq, Prod.mk.injEq] at ho
    obtain ⟨h1, h2, h3⟩ := ho
    refine ⟨o, v, hi, .inl ⟨hg.wanted h3, fun w hw => hx o h2 w hw⟩, hS, ?_⟩
    rw [h1]
    exact h
def isGo (P : Program) (f : Nat) : Bool := match P.funcs[f]? with
  | some fn => !(fn.name == "runtime.NumGoroutine") && fn.body.isSome
  | none => false
theorem run_go {f : Nat} (h : isGo P f = true) (args : Array Value) (w : World) : (callFunc f args).run P w = .ok (.enter f args) w := by
  unfold isGo at h
  cases hf : P.funcs[f]? with
  | none => rw [hf] at h; cases h
  | some fn =>
    rw [hf] at h
    simp only [Bool.and_eq_true, Bool.not_eq_true'] at h
    obtain ⟨h1, h2⟩ := h
    obtain ⟨c, hc⟩ := Option.isSome_iff_exists.1 h2
    unfold callFunc
    have h1' : ¬ fn.name = "runtime.NumGoroutine" := fun e => by rw [e] at h1; exact absurd h1 (by decide)
    simp [hf, h1', hc, go_sem]
theorem RunH.call (i d f : Nat) (args : Array Operand) (tys : Array TypeId) (g : Option (Nat × Bool)) (vals : Array Value) (ho : (ops[i]?).map (fun o => (o.dst, o.op, o.guard)) = some (some d, .call { callee := .value (.func f), args := args, argTypes := tys }, g)) (hg : Asked ops a g)
    (hv : args.map a.eval = vals) (hf : isGo P f = true) (h : Calls P f vals w fun e w' => ∃ v, e = .returned v ∧ S w' ∧ RunH P ops Q S rest (a.put (some d) v) w') : RunH P ops Q S ((i, false) :: rest) a w := by
  cases hi : ops[i]? with
  | none => rw [hi] at ho; cases ho
  | some o =>
    rw [hi] at ho
    simp only [Option.map_some, Option.some.injEq, Prod.mk.injEq] at ho
    obtain ⟨h1, h2, h3⟩ := ho
    unfold RunH wpOp
    simp only [hi]
    rw [if_pos (hg.wanted h3)]
    left
    have hr : (execOp a.eval o).run P w = .ok (.enter f vals) w := by
      unfold execOp
      simp only [h2]
      subst hv
      simp [resolve, Deferred.ofValue, invoke, Act.eval, go_sem]
      exact run_go hf _ w
    unfold Oper.wp
    rw [hr, Oper.upon_enter]
    refine h.mono ?_
    rintro e w' ⟨v, rfl, h4, h5⟩
    rw [h1]
    exact ⟨h4, h5⟩
theorem RunH.make (i : Nat) (dst : Option Nat) (op : Op) (g : Option (Nat × Bool)) (v : Value) (w' : World) (ho : (ops[i]?).map (fun o => (o.dst, o.op, o.guard)) = some (dst, op, g)) (hg : Asked ops a g)
    (hx : ∀ o : Oper, o.op = op → (execOp a.eval o).run P w = .ok (.value v) w') (hS : S w') (h : RunH P ops Q S rest (a.put dst v) w') : RunH P ops Q S ((i, false) :: rest) a w := by
  cases hi : ops[i]? with
  | none => rw [hi] at ho; cases ho
  | some o =>
    rw [hi] at ho
    simp only [Option.map_some, Option.some.injEq, Prod.mk.injEq] at ho
    obtain ⟨h1, h2, h3⟩ := ho
    unfold RunH wpOp
    simp only [hi]
    rw [if_pos (hg.wanted h3)]
    left
    unfold Oper.wp
    rw [hx o h2, Oper.upon_value, h1]
    exact ⟨hS, h⟩
theorem RunH.idle (i d : Nat) (k : Nat) (x : Bool) (t : Nat) (ho : (ops[i]?).map (fun o => (o.dst, o.guard)) = some (some d, some (k, x))) (h1 : (ops[k]?).bind (·.dst) = some t) (h2 : Has a t (.bool (!x))) (hS : S w) (h : RunH P ops Q S rest (a.put (some d) undef) w) : RunH P ops Q S ((i, true) :: rest) a w := by
  cases hi : ops[i]? with
  | none => rw [hi] at ho; cases ho
  | some o =>
    rw [hi] at ho
    simp only [Option.map_some, Option.some.injEq, Prod.mk.injEq] at ho
    obtain ⟨h3, h4⟩ := ho
    have hy : yielded ops a.tmps k = some (!x) := by
      unfold Has at h2
      simp [yielded, h1, h2]
    refine ⟨o, undef, hi, .inr ⟨?_, rfl⟩, hS, ?_⟩
    · simp [Region.wanted, h4, hy]
    · rw [h3]; exact h
structure St (n : Nat) (D : List Nat) (a b : Act) (L : List (Nat × Value)) : Prop where
  size : b.tmps.size = n
  agree : Agree D a b
  holds : ∀ j v, L.lookup j = some v → Has b j v
section
variable {n : Nat} {D : List Nat} {b : Act} {L : List (Nat × Value)} {j : Nat}
theorem St.eval (h : St n D a b L) (hl : L.lookup j = some v) : b.eval (.tmp j) = v := (h.holds j v hl).eval
theorem St.put (h : St n D a b L) (hd : d < n) (h1 : D.contains d = true) : St n D a (b.put (some d) v) ((d, v) :: L) := by
  obtain ⟨h3, h4, h5⟩ := h
  refine ⟨?_, h4.put h1, fun j x hx => ?_⟩
  · unfold Act.put; simp only; rw [Array.size_setIfInBounds, h3]
  · rw [List.lookup_cons] at hx
    by_cases e : j = d
    · subst e
      simp at hx
      subst hx
      exact Has.put_same (by omega)
    · have e2 : (j == d) = false := by simpa using e
      rw [e2] at hx
      exact (h5 j x hx).put_ne (Ne.symm e)
theorem St.asked (h : St n D a b L) (k : Nat) (x : Bool) (t : Nat) (h1 : (ops[k]?).bind (·.dst) = some t) (h2 : L.lookup t = some (.bool x)) : Asked ops b (some (k, x)) := ⟨t, h1, h.holds t _ h2⟩
theorem St.pure (h : St n D a b L) (i d : Nat) (op : Op) (g : Option (Nat × Bool)) (v : Value) (ho : (ops[i]?).map (fun o => (o.dst, o.op, o.guard)) = some (some d, op, g)) (hg : Asked ops b g)
    (hx : ∀ o : Oper, o.op = op → ∀ w, S w → (execOp b.eval o).run P w = .ok (.value v) w) (hS : S w) (hd : d < n) (h1 : D.contains d = true)
    (hr : ∀ b', St n D a b' ((d, v) :: L) → RunH P ops Q S rest b' w) : RunH P ops Q S ((i, true) :: rest) b w :=
  RunH.pure i d op g v ho hg hx hS (hr _ (h.put hd h1))
theorem St.idle (h : St n D a b L) (i d : Nat) (k : Nat) (x : Bool) (t : Nat) (ho : (ops[i]?).map (fun o => (o.dst, o.guard)) = some (some d, some (k, x))) (h2 : (ops[k]?).bind (·.dst) = some t) (h3 : L.lookup t = some (.bool (!x))) (hS : S w) (hd : d < n) (h1 : D.contains d = true)
    (hr : ∀ b', St n D a b' ((d, undef) :: L) → RunH P ops Q S rest b' w) : RunH P ops Q S ((i, true) :: rest) b w :=
  RunH.idle i d k x t ho h2 (h.holds t _ h3) hS (hr _ (h.put hd h1))
theorem St.make (h : St n D a b L) (i d : Nat) (op : Op) (g : Option (Nat × Bool)) (v : Value) (w' : World) (ho : (ops[i]?).map (fun o => (o.dst, o.op, o.guard)) = some (some d, op, g)) (hg : Asked ops b g)
    (hx : ∀ o : Oper, o.op = op → (execOp b.eval o).run P w = .ok (.value v) w') (hS : S w') (hd : d < n) (h1 : D.contains d = true)
    (hr : ∀ b', St n D a b' ((d, v) :: L) → RunH P ops Q S rest b' w') : RunH P ops Q S ((i, false) :: rest) b w :=
  RunH.make i (some d) op g v w' ho hg hx hS (hr _ (h.put hd h1))
theorem St.call (h : St n D a b L) (i d f : Nat) (args : Array Operand) (tys : Array TypeId) (g : Option (Nat × Bool)) (vals : Array Value) (ho : (ops[i]?).map (fun o => (o.dst, o.op, o.guard)) = some (some d, .call { callee := .value (.func f), args := args, argTypes := tys }, g)) (hg : Asked ops b g)
    (hv : args.map b.eval = vals) (hf : isGo P f = true) (hd : d < n) (h1 : D.contains d = true)
    (hc : Calls P f vals w fun e w' => ∃ v, e = .returned v ∧ S w' ∧ ∀ b', St n D a b' ((d, v) :: L) → RunH P ops Q S rest b' w') : RunH P ops Q S ((i, false) :: rest) b w :=
  RunH.call i d f args tys g vals ho hg hv hf (hc.mono fun e w' ⟨v, he, hS, hr⟩ => ⟨v, he, hS, hr _ (h.put hd h1)⟩)
def LRun (P : Program) (ops : Array Oper) (Q : Exit → Act → World → Prop) (k : Nat) (a : Act) (w : World) : Prop := wpList P ops Q (ops.toList.drop k) a w
theorem lrun_start {id : Nat} (h : LRun P ops Q 0 a w) : (Code.region id ops false).wp P Q a w := wp_region_lit h
theorem lrun_end {k : Nat} (hk : ops.size = k) (h : Q .normal a w) : LRun P ops Q k a w := by
  unfold LRun
  rw [List.drop_eq_nil_of_le (by rw [Array.length_toList]; omega)]
  exact h
theorem lrun_drop {k : Nat} {o : Oper} (ho : ops[k]? = some o) : ops.toList.drop k = o :: ops.toList.drop (k + 1) := by
  have hk := (Array.getElem?_eq_some_iff.1 ho).1
  have he := (Array.getElem?_eq_some_iff.1 ho).2
  rw [List.drop_eq_getElem_cons (by rw [Array.length_toList]; exact hk), Array.getElem_toList, he]
theorem LRun.step {k : Nat} {dst : Option Nat} {w' : World} (ho : (ops[k]?).map (fun o => (o.dst, o.op, o.guard)) = some (dst, op, g)) (hg : Asked ops a g)
    (hx : ∀ o : Oper, o.op = op → (execOp a.eval o).run P w = .ok (.value v) w') (h : LRun P ops Q (k + 1) (a.put dst v) w') : LRun P ops Q k a w := by
  cases hi : ops[k]? with
  | none => rw [hi] at ho; cases ho
  | some o =>
    rw [hi] at ho
    simp only [Option.map_some, Option.some.injEq, Prod.mk.injEq] at ho
    obtain ⟨h1, h2, h3⟩ := ho
    unfold LRun
    rw [lrun_drop hi]
    refine wpList_step fun K hK => ?_
    rw [if_pos (hg.wanted h3)]
    unfold Oper.wp
    rw [hx o h2, Oper.upon_value, h1]
    exact hK _ _ h
theorem LRun.call {k d f : Nat} {args : Array Operand} {tys : Array TypeId} {vals : Array Value} (ho : (ops[k]?).map (fun o => (o.dst, o.op, o.guard)) = some (some d, .call { callee := .value (.func f), args := args, argTypes := tys }, g)) (hg : Asked ops a g)
    (hv : args.map a.eval = vals) (hf : isGo P f = true) (h : Calls P f vals w fun e w' => ∃ v, e = .returned v ∧ LRun P ops Q (k + 1) (a.put (some d) v) w') : LRun P ops Q k a w := by
  cases hi : ops[k]? with
  | none => rw [hi] at ho; cases ho
  | some o =>
    rw [hi] at ho
    simp only [Option.map_some, Option.some.injEq, Prod.mk.injEq] at ho
    obtain ⟨h1, h2, h3⟩ := ho
    unfold LRun
    rw [lrun_drop hi]
    refine wpList_step fun K hK => ?_
    rw [if_pos (hg.wanted h3)]
    have hr : (execOp a.eval o).run P w = .ok (.enter f vals) w := by
      unfold execOp
      simp only [h2]
      subst hv
      simp [resolve, Deferred.ofValue, invoke, Act.eval, go_sem]
      exact run_go hf _ w
    unfold Oper.wp
    rw [hr, Oper.upon_enter]
    refine h.mono ?_
    rintro e w' ⟨v, rfl, h5⟩
    rw [h1]
    exact hK _ _ h5
theorem St.lpure (h : St n D a b L) (k d : Nat) (op : Op) (g : Option (Nat × Bool)) (v : Value) (ho : (ops[k]?).map (fun o => (o.dst, o.op, o.guard)) = some (some d, op, g)) (hg : Asked ops b g)
    (hx : ∀ o : Oper, o.op = op → (execOp b.eval o).run P w = .ok (.value v) w) (hd : d < n) (h1 : D.contains d = true)
    (hr : ∀ b', St n D a b' ((d, v) :: L) → LRun P ops Q (k + 1) b' w) : LRun P ops Q k b w :=
  LRun.step ho hg hx (hr _ (h.put hd h1))
theorem St.lcall (h : St n D a b L) (k d f : Nat) (args : Array Operand) (tys : Array TypeId) (g : Option (Nat × Bool)) (vals : Array Value) (ho : (ops[k]?).map (fun o => (o.dst, o.op, o.guard)) = some (some d, .call { callee := .value (.func f), args := args, argTypes := tys }, g)) (hg : Asked ops b g)
    (hv : args.map b.eval = vals) (hf : isGo P f = true) (hd : d < n) (h1 : D.contains d = true)
    (hc : Calls P f vals w fun e w' => ∃ v, e = .returned v ∧ ∀ b', St n D a b' ((d, v) :: L) → LRun P ops Q (k + 1) b' w') : LRun P ops Q k b w :=
  LRun.call ho hg hv hf (hc.mono fun e w' ⟨v, he, hr⟩ => ⟨v, he, hr _ (h.put hd h1)⟩)
theorem map1 {ρ : Operand → Value} {x1 : Operand} {v1 : Value} (h1 : ρ x1 = v1) : #[x1].map ρ = #[v1] := by simp [h1]
theorem map2 {ρ : Operand → Value} {x1 x2 : Operand} {v1 v2 : Value} (h1 : ρ x1 = v1) (h2 : ρ x2 = v2) : #[x1, x2].map ρ = #[v1, v2] := by simp [h1, h2]
end
theorem exec_move {ρ : Operand → Value} {x : Operand} (v : Value) (h : ρ x = v) (o : Oper) (ho : o.op = .move x) (w : World) : (execOp ρ o).run P w = .ok (.value v) w := by
  subst h
  simp [execOp, ho, go_sem]
theorem exec_pick {ρ : Operand → Value} {c x y : Operand} (b : Bool) (v : Value) (hc : ρ c = .bool b) (h : (bif b then ρ x else ρ y) = v) (o : Oper) (ho : o.op = .pick c x y) (w : World) : (execOp ρ o).run P w = .ok (.value v) w := by
  subst h
  cases b <;> simp [execOp, ho, hc, asBool, go_sem]
theorem exec_not {ρ : Operand → Value} {x : Operand} {t : TypeId} (b : Bool) (h : ρ x = .bool b) (o : Oper) (ho : o.op = .unOp .not t x) (w : World) : (execOp ρ o).run P w = .ok (.value (.bool (!b))) w := by
  simp [execOp, ho, h, Op.unary, go_sem]
end
theorem Agree.formA {D : List Nat} {A : Array Value} {ds : List Deferred} {b : Act} (h : Agree D ⟨A, ds⟩ b) (n : Nat) (hn : A.size = n) : ∃ f : Nat → Value, b = ⟨(rowOfD n D (fun j => A.getD j undef) f).toArray, ds⟩ ∧ ∀ j v, Has b j v → f j = v :=
  h.form n hn (fun j => A.getD j undef) fun j hj => by rw [Array.getD_eq_getD_getElem?, Array.getElem?_eq_getElem (show j < A.size by omega)]; rfl
section
variable {ρ : Operand → Value} {x y : Operand} {g : Nat}
theorem ex_field0 (h : ρ x = .pointer (some ⟨g, 0, none⟩)) (o : Oper) (ho : o.op = .fieldAddr 30 x 0) (w : World) : (execOp ρ o).run Tryz.prog w = .ok (.value (.pointer (some ⟨g, 0, none⟩))) w := by
 obtain ⟨dst, op, ty, pos, after, guard⟩ := o
 simp only at ho
 subst ho
 unfold execOp
 simp only [h]
 go_simp
theorem ex_field1 (h : ρ x = .pointer (some ⟨g, 0, none⟩)) (o : Oper) (ho : o.op = .fieldAddr 30 x 1) (w : World) : (execOp ρ o).run Tryz.prog w = .ok (.value (.pointer (some ⟨g, 1, none⟩))) w := by
 obtain ⟨dst, op, ty, pos, after, guard⟩ := o
 simp only at ho
 subst ho
 unfold execOp
 simp only [h]
 go_simp
theorem ex_field2 (h : ρ x = .pointer (some ⟨g, 0, none⟩)) (o : Oper) (ho : o.op = .fieldAddr 30 x 2) (w : World) : (execOp ρ o).run Tryz.prog w = .ok (.value (.pointer (some ⟨g, 2, none⟩))) w := by
 obtain ⟨dst, op, ty, pos, after, guard⟩ := o
 simp only at ho
 subst ho
 unfold execOp
 simp only [h]
 go_simp
theorem ex_field3 (h : ρ x = .pointer (some ⟨g, 0, none⟩)) (o : Oper) (ho : o.op = .fieldAddr 30 x 3) (w : World) : (execOp ρ o).run Tryz.prog w = .ok (.value (.pointer (some ⟨g, 3, none⟩))) w := by
 obtain ⟨dst, op, ty, pos, after, guard⟩ := o
 simp only at ho
 subst ho
 unfold execOp
 simp only [h]
 go_simp
theorem ex_field4 (h : ρ x = .pointer (some ⟨g, 0, none⟩)) (o : Oper) (ho : o.op = .fieldAddr 30 x 4) (w : World) : (execOp ρ o).run Tryz.prog w = .ok (.value (.pointer (some ⟨g, 4, none⟩))) w := by
 obtain ⟨dst, op, ty, pos, after, guard⟩ := o
 simp only at ho
 subst ho
 unfold execOp
 simp only [h]
 go_simp
theorem ex_field5 (h : ρ x = .pointer (some ⟨g, 0, none⟩)) (o : Oper) (ho : o.op = .fieldAddr 30 x 5) (w : World) : (execOp ρ o).run Tryz.prog w = .ok (.value (.pointer (some ⟨g, 5, none⟩))) w := by
 obtain ⟨dst, op, ty, pos, after, guard⟩ := o
 simp only at ho
 subst ho
 unfold execOp
 simp only [h]
 go_simp
theorem ex_field6 (h : ρ x = .pointer (some ⟨g, 0, none⟩)) (o : Oper) (ho : o.op = .fieldAddr 30 x 6) (w : World) : (execOp ρ o).run Tryz.prog w = .ok (.value (.pointer (some ⟨g, 6, none⟩))) w := by
 obtain ⟨dst, op, ty, pos, after, guard⟩ := o
 simp only at ho
 subst ho
 unfold execOp
 simp only [h]
 go_simp
theorem ex_field7 (h : ρ x = .pointer (some ⟨g, 0, none⟩)) (o : Oper) (ho : o.op = .fieldAddr 30 x 7) (w : World) : (execOp ρ o).run Tryz.prog w = .ok (.value (.pointer (some ⟨g, 7, none⟩))) w := by
 obtain ⟨dst, op, ty, pos, after, guard⟩ := o
 simp only at ho
 subst ho
 unfold execOp
 simp only [h]
 go_simp
theorem ex_field8 (h : ρ x = .pointer (some ⟨g, 0, none⟩)) (o : Oper) (ho : o.op = .fieldAddr 30 x 8) (w : World) : (execOp ρ o).run Tryz.prog w = .ok (.value (.pointer (some ⟨g, 8, none⟩))) w := by
 obtain ⟨dst, op, ty, pos, after, guard⟩ := o
 simp only at ho
 subst ho
 unfold execOp
 simp only [h]
 go_simp
theorem ex_field9 (h : ρ x = .pointer (some ⟨g, 0, none⟩)) (o : Oper) (ho : o.op = .fieldAddr 30 x 9) (w : World) : (execOp ρ o).run Tryz.prog w = .ok (.value (.pointer (some ⟨g, 9, none⟩))) w := by
 obtain ⟨dst, op, ty, pos, after, guard⟩ := o
 simp only at ho
 subst ho
 unfold execOp
 simp only [h]
 go_simp
theorem ex_field10 (h : ρ x = .pointer (some ⟨g, 0, none⟩)) (o : Oper) (ho : o.op = .fieldAddr 30 x 10) (w : World) : (execOp ρ o).run Tryz.prog w = .ok (.value (.pointer (some ⟨g, 10, none⟩))) w := by
 obtain ⟨dst, op, ty, pos, after, guard⟩ := o
 simp only at ho
 subst ho
 unfold execOp
 simp only [h]
 go_simp
theorem ex_field11 (h : ρ x = .pointer (some ⟨g, 0, none⟩)) (o : Oper) (ho : o.op = .fieldAddr 30 x 11) (w : World) : (execOp ρ o).run Tryz.prog w = .ok (.value (.pointer (some ⟨g, 11, none⟩))) w := by
 obtain ⟨dst, op, ty, pos, after, guard⟩ := o
 simp only at ho
 subst ho
 unfold execOp
 simp only [h]
 go_simp
theorem ex_field12 (h : ρ x = .pointer (some ⟨g, 0, none⟩)) (o : Oper) (ho : o.op = .fieldAddr 30 x 12) (w : World) : (execOp ρ o).run Tryz.prog w = .ok (.value (.pointer (some ⟨g, 12, none⟩))) w := by
 obtain ⟨dst, op, ty, pos, after, guard⟩ := o
 simp only at ho
 subst ho
 unfold execOp
 simp only [h]
 go_simp
theorem ex_field13 (h : ρ x = .pointer (some ⟨g, 0, none⟩)) (o : Oper) (ho : o.op = .fieldAddr 30 x 13) (w : World) : (execOp ρ o).run Tryz.prog w = .ok (.value (.pointer (some ⟨g, 13, none⟩))) w := by
 obtain ⟨dst, op, ty, pos, after, guard⟩ := o
 simp only at ho
 subst ho
 unfold execOp
 simp only [h]
 go_simp
theorem ex_field14 (h : ρ x = .pointer (some ⟨g, 0, none⟩)) (o : Oper) (ho : o.op = .fieldAddr 30 x 14) (w : World) : (execOp ρ o).run Tryz.prog w = .ok (.value (.pointer (some ⟨g, 14, none⟩))) w := by
 obtain ⟨dst, op, ty, pos, after, guard⟩ := o
 simp only at ho
 subst ho
 unfold execOp
 simp only [h]
 go_simp
theorem ex_field15 (h : ρ x = .pointer (some ⟨g, 0, none⟩)) (o : Oper) (ho : o.op = .fieldAddr 30 x 15) (w : World) : (execOp ρ o).run Tryz.prog w = .ok (.value (.pointer (some ⟨g, 15, none⟩))) w := by
 obtain ⟨dst, op, ty, pos, after, guard⟩ := o
 simp only at ho
 subst ho
 unfold execOp
 simp only [h]
 go_simp
theorem ex_field16 (h : ρ x = .pointer (some ⟨g, 0, none⟩)) (o : Oper) (ho : o.op = .fieldAddr 30 x 16) (w : World) : (execOp ρ o).run Tryz.prog w = .ok (.value (.pointer (some ⟨g, 16, none⟩))) w := by
 obtain ⟨dst, op, ty, pos, after, guard⟩ := o
 simp only at ho
 subst ho
 unfold execOp
 simp only [h]
 go_simp
theorem ex_field17 (h : ρ x = .pointer (some ⟨g, 0, none⟩)) (o : Oper) (ho : o.op = .fieldAddr 30 x 17) (w : World) : (execOp ρ o).run Tryz.prog w = .ok (.value (.pointer (some ⟨g, 17, none⟩))) w := by
 obtain ⟨dst, op, ty, pos, after, guard⟩ := o
 simp only at ho
 subst ho
 unfold execOp
 simp only [h]
 go_simp
theorem ex_field18 (h : ρ x = .pointer (some ⟨g, 0, none⟩)) (o : Oper) (ho : o.op = .fieldAddr 30 x 18) (w : World) : (execOp ρ o).run Tryz.prog w = .ok (.value (.pointer (some ⟨g, 18, none⟩))) w := by
 obtain ⟨dst, op, ty, pos, after, guard⟩ := o
 simp only at ho
 subst ho
 unfold execOp
 simp only [h]
 go_simp
theorem ex_field19 (h : ρ x = .pointer (some ⟨g, 0, none⟩)) (o : Oper) (ho : o.op = .fieldAddr 30 x 19) (w : World) : (execOp ρ o).run Tryz.prog w = .ok (.value (.pointer (some ⟨g, 19, none⟩))) w := by
 obtain ⟨dst, op, ty, pos, after, guard⟩ := o
 simp only at ho
 subst ho
 unfold execOp
 simp only [h]
 go_simp
theorem ex_loadI {ad : Addr} {n : Int} (h : ρ x = .pointer (some ad)) (o : Oper) (ho : o.op = .load 3 x) (w : World) (hc : w.cell? ad = some (.int .i64 n)) : (execOp ρ o).run Tryz.prog w = .ok (.value (.int .i64 n)) w := by
 obtain ⟨dst, op, ty, pos, after, guard⟩ := o
 simp only at ho
 subst ho
 unfold execOp
 simp only [h]
 go_simp
theorem ex_loadB {ad : Addr} {n : Bool} (h : ρ x = .pointer (some ad)) (o : Oper) (ho : o.op = .load 4 x) (w : World) (hc : w.cell? ad = some (.bool n)) : (execOp ρ o).run Tryz.prog w = .ok (.value (.bool n)) w := by
 obtain ⟨dst, op, ty, pos, after, guard⟩ := o
 simp only at ho
 subst ho
 unfold execOp
 simp only [h]
 go_simp
theorem ex_loadU {ad : Addr} {n : Int} (h : ρ x = .pointer (some ad)) (o : Oper) (ho : o.op = .load 23 x) (w : World) (hc : w.cell? ad = some (.int .u16 n)) : (execOp ρ o).run Tryz.prog w = .ok (.value (.int .u16 n)) w := by
 obtain ⟨dst, op, ty, pos, after, guard⟩ := o
 simp only at ho
 subst ho
 unfold execOp
 simp only [h]
 go_simp
theorem ex_loadC {ad : Addr} {A : Option Addr} {n k : Nat} (h : ρ x = .pointer (some ad)) (o : Oper) (ho : o.op = .load 22 x) (w : World) (hc : w.cell? ad = some (.slice A n k)) : (execOp ρ o).run Tryz.prog w = .ok (.value (.slice A n k)) w := by
 obtain ⟨dst, op, ty, pos, after, guard⟩ := o
 simp only at ho
 subst ho
 unfold execOp
 simp only [h]
 go_simp
theorem ex_loadT {ad : Addr} {A : Option Addr} {n k : Nat} (h : ρ x = .pointer (some ad)) (o : Oper) (ho : o.op = .load 24 x) (w : World) (hc : w.cell? ad = some (.slice A n k)) : (execOp ρ o).run Tryz.prog w = .ok (.value (.slice A n k)) w := by
 obtain ⟨dst, op, ty, pos, after, guard⟩ := o
 simp only at ho
 subst ho
 unfold execOp
 simp only [h]
 go_simp
theorem ex_loadS {xs : Array Value} (h : ρ x = .pointer (some ⟨g, 0, none⟩)) (o : Oper) (ho : o.op = .load 30 x) (w : World) (hg : w.heap[g]? = some (.cells xs 30)) (hn : xs.size = 24) : (execOp ρ o).run Tryz.prog w = .ok (.value (.agg xs)) w := by
 obtain ⟨dst, op, ty, pos, after, guard⟩ := o
 simp only at ho
 subst ho
 unfold execOp
 simp only [h, Sem.run_bind, run_loadS hg hn, Result.andThen_ok, Sem.run_pure]
theorem ex_loadP {p0 p1 p2 p3 p4 : Value} (h : ρ x = .pointer (some ⟨g, 19, none⟩)) (o : Oper) (ho : o.op = .load 28 x) (w : World) (h0 : w.cell? ⟨g, 19, none⟩ = some p0) (h1 : w.cell? ⟨g, 20, none⟩ = some p1) (h2 : w.cell? ⟨g, 21, none⟩ = some p2) (h3 : w.cell? ⟨g, 22, none⟩ = some p3) (h4 : w.cell? ⟨g, 23, none⟩ = some p4) : (execOp ρ o).run Tryz.prog w = .ok (.value (.agg #[p0, p1, p2, p3, p4])) w := by
 obtain ⟨dst, op, ty, pos, after, guard⟩ := o
 simp only at ho
 subst ho
 unfold execOp
 simp only [h]
 go_simp
theorem ex_lenT {A : Option Addr} {n k : Nat} (h : ρ x = .slice A n k) (o : Oper) (ho : o.op = .call { callee := .builtin .len, args := #[x], argTypes := #[24] }) (w : World) : (execOp ρ o).run Tryz.prog w = .ok (.value (.int .i64 (n : Int))) w := by
 obtain ⟨dst, op, ty, pos, after, guard⟩ := o
 simp only at ho
 subst ho
 unfold execOp
 simp only [resolve, Array.map, h]
 go_simp
theorem ex_assign {P : Program} {x : Operand} (v : Value) (h : ρ x = v) (o : Oper) (ho : o.op = .assign x) (w : World) : (execOp ρ o).run P w = .ok (.value v) w := by
 subst h
 simp [execOp, ho, go_sem]
end
theorem i64_attr {a : Nat} (h : a < 4096) : IntKind.i64.wrap (a : Int) = (a : Int) := IntWalk.i64_in _ (by omega)
theorem headI_bd {m : Int} {s : Sc} (h : RightS m s) : ∀ x ∈ [s.rows, s.cols, s.y, s.x, (bitsN s : Int), (s.attr : Int), s.top, s.bottom, s.sy, s.sx, (s.sattr : Int)], (0 : Int) ≤ x ∧ x < 9223372036854775808 := by
 have r1 := h.r1
 have r2 := h.r2
 have c1 := h.c1
 have c2 := h.c2
 have y0 := h.y0
 have y1 := h.y1
 have x0 := h.x0
 have x1 := h.x1
 have b1 := h.b1
 have t0 := h.t0
 have tb := h.tb
 have s0 := h.sy0
 have s1 := h.sy1
 have s2 := h.sx0
 have s3 := h.sx1
 have a1 := attrS_lt h.attr
 have a2 := attrS_lt h.sattr
 have bl := bits_lt s
 intro x hx
 simp only [List.mem_cons, List.not_mem_nil, or_false] at hx
 omega
theorem ex_convU {ρ : Operand → Value} {x : Operand} {a : Nat} (ha : a < 4096) (h : ρ x = .int .u16 (a : Int)) (o : Oper) (ho : o.op = .convert 23 3 x) (w : World) : (execOp ρ o).run Tryz.prog w = .ok (.value (.int .i64 (a : Int))) w := by
 obtain ⟨dst, op, ty, pos, after, guard⟩ := o
 simp only at ho
 subst ho
 unfold execOp
 simp only [h]
 have := i64_attr ha
 go_simp
theorem ex_build11 {ρ : Operand → Value} {x0 x1 x2 x3 x4 x5 x6 x7 x8 x9 x10 : Operand} {v0 v1 v2 v3 v4 v5 v6 v7 v8 v9 v10 : Int} (h0 : ρ x0 = .int .i64 v0) (h1 : ρ x1 = .int .i64 v1) (h2 : ρ x2 = .int .i64 v2) (h3 : ρ x3 = .int .i64 v3) (h4 : ρ x4 = .int .i64 v4) (h5 : ρ x5 = .int .i64 v5) (h6 : ρ x6 = .int .i64 v6) (h7 : ρ x7 = .int .i64 v7) (h8 : ρ x8 = .int .i64 v8) (h9 : ρ x9 = .int .i64 v9) (h10 : ρ x10 = .int .i64 v10) (o : Oper) (ho : o.op = .buildSlice 25 11 #[(0, x0), (1, x1), (2, x2), (3, x3), (4, x4), (5, x5), (6, x6), (7, x7), (8, x8), (9, x9), (10, x10)]) (w : World) : (execOp ρ o).run Tryz.prog w = .ok (.value (.slice (some ⟨w.heap.size, 0, none⟩) 11 11)) (w.alloc (.cells #[.int .i64 v0, .int .i64 v1, .int .i64 v2, .int .i64 v3, .int .i64 v4, .int .i64 v5, .int .i64 v6, .int .i64 v7, .int .i64 v8, .int .i64 v9, .int .i64 v10] 3)) := by
 obtain ⟨dst, op, ty, pos, after, guard⟩ := o
 simp only at ho
 subst ho
 unfold execOp
 simp only [h0, h1, h2, h3, h4, h5, h6, h7, h8, h9, h10]
 go_simp
noncomputable def puReg : Code := (Tryz.f9.body.bind (findReg 3)).getD .skip
noncomputable def puOps : Array Oper := match puReg with
 | .region _ ops _ => ops
 | _ => #[]
def puD : List Nat := [4, 8, 9, 10, 11, 12, 13, 14, 15, 16, 17, 18, 19, 20, 21, 22, 23, 24, 25, 26, 27, 28, 29, 30, 31, 32, 33]
theorem puIs : puReg = .region 3 puOps true := by kernel_rfl
theorem puSize : puOps.size = 27 := by kernel_rfl
def puOrd : List (Nat × Bool × Nat) := [(0, true, 1), (1, true, 3), (2, true, 7), (3, true, 15), (4, true, 31), (5, true, 63), (6, true, 127), (7, true, 255), (8, true, 511), (10, true, 1535), (11, true, 3583), (12, true, 7679), (13, true, 15871), (14, true, 32255), (15, true, 65023), (16, true, 130559), (17, true, 261631), (18, true, 523775), (19, true, 1048063), (20, true, 2096639), (21, true, 4193791), (22, true, 8388095), (23, true, 16776703), (9, false, 16777215), (24, false, 33554431), (25, false, 67108863), (26, true, 134217727)]
theorem puOwn : okOwn puOps = true := by kernel_rfl
theorem puOk : okSteps puOps 27 puOrd 0 = true := by kernel_rfl
theorem puSel : Region.noSelect puOps = true := by kernel_rfl
theorem puLen : Nat.ble puOrd.length 27 = true := by kernel_rfl
theorem puRun (s : Sc) (m : Int) (A1 A2 A3 A4 A5 A6 : Option Addr) (n1 n2 n3 n4 n5 n6 k1 k2 k3 k4 k5 k6 : Nat) (g : Nat) (W : World) (hg : W.heap[g]? = some (.cells (vNq m s A1 A2 A3 A4 A5 A6 n1 n2 n3 n4 n5 n6 k1 k2 k3 k4 k5 k6) 30)) (HR : RightS m s) (Q : Exit → Act → World → Prop)
  (act : Act) (hst : St 64 puD act act [(1, .pointer (some ⟨g, 0, none⟩))]) (hQ : ∀ VB bfr wfin, Agree puD act bfr → Has bfr 4 (VB) → Below W.heap.size W wfin → OB wfin W.heap.size VB (snumL (headN s)) → Q .normal bfr wfin) :
  RunH Tryz.prog puOps Q (fun x : World => x.heap[g]? = some (.cells (vNq m s A1 A2 A3 A4 A5 A6 n1 n2 n3 n4 n5 n6 k1 k2 k3 k4 k5 k6) 30)) (puOrd.map fun x => (x.1, x.2.1)) act (W).drew := by
 have hgl : g < W.heap.size := lt3 hg
 have HS9 : ∀ x : World, Below W.heap.size W x → x.heap[g]? = some (.cells (vNq m s A1 A2 A3 A4 A5 A6 n1 n2 n3 n4 n5 n6 k1 k2 k3 k4 k5 k6) 30) := fun x hx => (hx.block _ hgl).trans hg
 have B0 : Below W.heap.size W W.drew := (Below.refl _ _).drew
 have hSw := HS9 _ B0
 simp only [puOrd, List.map_cons, List.map_nil]
 refine hst.pure 0 8 (.fieldAddr 30 (.tmp 1) 0) none (.pointer (some ⟨g, 0, none⟩)) (by kernel_rfl) trivial (fun o ho w hw => ex_field0 (hst.eval (by rfl)) o ho _) hSw (by decide) (by decide) fun bt hst => ?_
 refine hst.pure 1 9 (.load 3 (.tmp 8)) none (.int .i64 s.rows) (by kernel_rfl) trivial (fun o ho w hw => ex_loadI (hst.eval (by rfl)) o ho w (cellR hw 0 rfl).1) hSw (by decide) (by decide) fun bt hst => ?_
 refine hst.pure 2 10 (.fieldAddr 30 (.tmp 1) 1) none (.pointer (some ⟨g, 1, none⟩)) (by kernel_rfl) trivial (fun o ho w hw => ex_field1 (hst.eval (by rfl)) o ho _) hSw (by decide) (by decide) fun bt hst => ?_
 refine hst.pure 3 11 (.load 3 (.tmp 10)) none (.int .i64 s.cols) (by kernel_rfl) trivial (fun o ho w hw => ex_loadI (hst.eval (by rfl)) o ho w (cellR hw 1 rfl).1) hSw (by decide) (by decide) fun bt hst => ?_
 refine hst.pure 4 12 (.fieldAddr 30 (.tmp 1) 3) none (.pointer (some ⟨g, 3, none⟩)) (by kernel_rfl) trivial (fun o ho w hw => ex_field3 (hst.eval (by rfl)) o ho _) hSw (by decide) (by decide) fun bt hst => ?_
 refine hst.pure 5 13 (.load 3 (.tmp 12)) none (.int .i64 s.y) (by kernel_rfl) trivial (fun o ho w hw => ex_loadI (hst.eval (by rfl)) o ho w (cellR hw 3 rfl).1) hSw (by decide) (by decide) fun bt hst => ?_
 refine hst.pure 6 14 (.fieldAddr 30 (.tmp 1) 4) none (.pointer (some ⟨g, 4, none⟩)) (by kernel_rfl) trivial (fun o ho w hw => ex_field4 (hst.eval (by rfl)) o ho _) hSw (by decide) (by decide) fun bt hst => ?_
 refine hst.pure 7 15 (.load 3 (.tmp 14)) none (.int .i64 s.x) (by kernel_rfl) trivial (fun o ho w hw => ex_loadI (hst.eval (by rfl)) o ho w (cellR hw 4 rfl).1) hSw (by decide) (by decide) fun bt hst => ?_
 refine hst.pure 8 16 (.load 30 (.tmp 1)) none (.agg (vNq m s A1 A2 A3 A4 A5 A6 n1 n2 n3 n4 n5 n6 k1 k2 k3 k4 k5 k6)) (by kernel_rfl) trivial (fun o ho w hw => ex_loadS (hst.eval (by rfl)) o ho w hw rfl) hSw (by decide) (by decide) fun bt hst => ?_
 refine hst.pure 10 18 (.fieldAddr 30 (.tmp 1) 6) none (.pointer (some ⟨g, 6, none⟩)) (by kernel_rfl) trivial (fun o ho w hw => ex_field6 (hst.eval (by rfl)) o ho _) hSw (by decide) (by decide) fun bt hst => ?_
 refine hst.pure 11 19 (.load 23 (.tmp 18)) none (.int .u16 (s.attr : Int)) (by kernel_rfl) trivial (fun o ho w hw => ex_loadU (hst.eval (by rfl)) o ho w (cellR hw 6 rfl).1) hSw (by decide) (by decide) fun bt hst => ?_
 refine hst.pure 12 20 (.convert 23 3 (.tmp 19)) none (.int .i64 (s.attr : Int)) (by kernel_rfl) trivial (fun o ho w hw => ex_convU (attrS_lt HR.attr) (hst.eval (by rfl)) o ho w) hSw (by decide) (by decide) fun bt hst => ?_
 refine hst.pure 13 21 (.fieldAddr 30 (.tmp 1) 7) none (.pointer (some ⟨g, 7, none⟩)) (by kernel_rfl) trivial (fun o ho w hw => ex_field7 (hst.eval (by rfl)) o ho _) hSw (by decide) (by decide) fun bt hst => ?_
 refine hst.pure 14 22 (.load 3 (.tmp 21)) none (.int .i64 s.top) (by kernel_rfl) trivial (fun o ho w hw => ex_loadI (hst.eval (by rfl)) o ho w (cellR hw 7 rfl).1) hSw (by decide) (by decide) fun bt hst => ?_
 refine hst.pure 15 23 (.fieldAddr 30 (.tmp 1) 8) none (.pointer (some ⟨g, 8, none⟩)) (by kernel_rfl) trivial (fun o ho w hw => ex_field8 (hst.eval (by rfl)) o ho _) hSw (by decide) (by decide) fun bt hst => ?_
 refine hst.pure 16 24 (.load 3 (.tmp 23)) none (.int .i64 s.bottom) (by kernel_rfl) trivial (fun o ho w hw => ex_loadI (hst.eval (by rfl)) o ho w (cellR hw 8 rfl).1) hSw (by decide) (by decide) fun bt hst => ?_
 refine hst.pure 17 25 (.fieldAddr 30 (.tmp 1) 10) none (.pointer (some ⟨g, 10, none⟩)) (by kernel_rfl) trivial (fun o ho w hw => ex_field10 (hst.eval (by rfl)) o ho _) hSw (by decide) (by decide) fun bt hst => ?_
 refine hst.pure 18 26 (.load 3 (.tmp 25)) none (.int .i64 s.sy) (by kernel_rfl) trivial (fun o ho w hw => ex_loadI (hst.eval (by rfl)) o ho w (cellR hw 10 rfl).1) hSw (by decide) (by decide) fun bt hst => ?_
 refine hst.pure 19 27 (.fieldAddr 30 (.tmp 1) 11) none (.pointer (some ⟨g, 11, none⟩)) (by kernel_rfl) trivial (fun o ho w hw => ex_field11 (hst.eval (by rfl)) o ho _) hSw (by decide) (by decide) fun bt hst => ?_
 refine hst.pure 20 28 (.load 3 (.tmp 27)) none (.int .i64 s.sx) (by kernel_rfl) trivial (fun o ho w hw => ex_loadI (hst.eval (by rfl)) o ho w (cellR hw 11 rfl).1) hSw (by decide) (by decide) fun bt hst => ?_
 refine hst.pure 21 29 (.fieldAddr 30 (.tmp 1) 12) none (.pointer (some ⟨g, 12, none⟩)) (by kernel_rfl) trivial (fun o ho w hw => ex_field12 (hst.eval (by rfl)) o ho _) hSw (by decide) (by decide) fun bt hst => ?_
 refine hst.pure 22 30 (.load 23 (.tmp 29)) none (.int .u16 (s.sattr : Int)) (by kernel_rfl) trivial (fun o ho w hw => ex_loadU (hst.eval (by rfl)) o ho w (cellR hw 12 rfl).1) hSw (by decide) (by decide) fun bt hst => ?_
 refine hst.pure 23 31 (.convert 23 3 (.tmp 30)) none (.int .i64 (s.sattr : Int)) (by kernel_rfl) trivial (fun o ho w hw => ex_convU (attrS_lt HR.sattr) (hst.eval (by rfl)) o ho w) hSw (by decide) (by decide) fun bt hst => ?_
 refine hst.call 9 17 20 #[.tmp 16] #[30] none #[.agg (vNq m s A1 A2 A3 A4 A5 A6 n1 n2 n3 n4 n5 n6 k1 k2 k3 k4 k5 k6)] (by kernel_rfl) trivial (map1 (hst.eval (by rfl))) (by kernel_rfl) (by decide) (by decide) ?_
 refine (bitsOf_any s m A1 A2 A3 A4 A5 A6 n1 n2 n3 n4 n5 n6 k1 k2 k3 k4 k5 k6 _).mono ?_
 rintro e wx ⟨rfl, bx⟩
 have B1 := B0.trans (bx.mono B0.size)
 refine ⟨_, rfl, HS9 _ B1, fun bt hst => ?_⟩
 have hSw := HS9 _ B1
 have B2 := B1.alloc B1.size (.cells #[.int .i64 s.rows, .int .i64 s.cols, .int .i64 s.y, .int .i64 s.x, .int .i64 (bitsN s : Int), .int .i64 (s.attr : Int), .int .i64 s.top, .int .i64 s.bottom, .int .i64 s.sy, .int .i64 s.sx, .int .i64 (s.sattr : Int)] 3)
 have hSw := HS9 _ B2
 refine hst.make 24 32 (.buildSlice 25 11 #[(0, .tmp 9), (1, .tmp 11), (2, .tmp 13), (3, .tmp 15), (4, .tmp 17), (5, .tmp 20), (6, .tmp 22), (7, .tmp 24), (8, .tmp 26), (9, .tmp 28), (10, .tmp 31)]) none (.slice (some ⟨wx.heap.size, 0, none⟩) 11 11) (wx.alloc (.cells #[.int .i64 s.rows, .int .i64 s.cols, .int .i64 s.y, .int .i64 s.x, .int .i64 (bitsN s : Int), .int .i64 (s.attr : Int), .int .i64 s.top, .int .i64 s.bottom, .int .i64 s.sy, .int .i64 s.sx, .int .i64 (s.sattr : Int)] 3)) (by kernel_rfl) trivial (fun o ho => ex_build11 (hst.eval (by rfl)) (hst.eval (by rfl)) (hst.eval (by rfl)) (hst.eval (by rfl)) (hst.eval (by rfl)) (hst.eval (by rfl)) (hst.eval (by rfl)) (hst.eval (by rfl)) (hst.eval (by rfl)) (hst.eval (by rfl)) (hst.eval (by rfl)) o ho wx) hSw (by decide) (by decide) fun bt hst => ?_
 refine hst.call 25 33 19 #[.tmp 32] #[25] none #[.slice (some ⟨wx.heap.size, 0, none⟩) 11 11] (by kernel_rfl) trivial (map1 (hst.eval (by rfl))) (by kernel_rfl) (by decide) (by decide) ?_
 have hz2 : (wx.alloc (.cells #[.int .i64 s.rows, .int .i64 s.cols, .int .i64 s.y, .int .i64 s.x, .int .i64 (bitsN s : Int), .int .i64 (s.attr : Int), .int .i64 s.top, .int .i64 s.bottom, .int .i64 s.sy, .int .i64 s.sx, .int .i64 (s.sattr : Int)] 3)).heap.size = wx.heap.size + 1 := by simp
 have hzx := B1.size
 refine (putNumbers_any _ [s.rows, s.cols, s.y, s.x, (bitsN s : Int), (s.attr : Int), s.top, s.bottom, s.sy, s.sx, (s.sattr : Int)] _ ((IS.lit wx [s.rows, s.cols, s.y, s.x, (bitsN s : Int), (s.attr : Int), s.top, s.bottom, s.sy, s.sx, (s.sattr : Int)] 11 _ 3 rfl rfl (by simp)).more (by simp)) (by simp) (headI_bd HR)).mono ?_
 rintro e wy ⟨VB, rfl, oy, bY9⟩
 have B3 := B2.trans (bY9.mono B2.size)
 refine ⟨_, rfl, HS9 _ B3, fun bt hst => ?_⟩
 have hSw := HS9 _ B3
 refine hst.pure 26 4 (.assign (.tmp 33)) none (VB) (by kernel_rfl) trivial (fun o ho w hw => ex_assign _ (hst.eval (by rfl)) o ho w) hSw (by decide) (by decide) fun bt hst => ?_
 exact hQ _ _ _ hst.agree (hst.holds 4 _ (by rfl)) B3 (own_lowS (b2 := W.heap.size) oy (by simp; omega))
theorem puAt (s : Sc) (m : Int) (A1 A2 A3 A4 A5 A6 : Option Addr) (n1 n2 n3 n4 n5 n6 k1 k2 k3 k4 k5 k6 : Nat) (g : Nat) (W : World) (hg : W.heap[g]? = some (.cells (vNq m s A1 A2 A3 A4 A5 A6 n1 n2 n3 n4 n5 n6 k1 k2 k3 k4 k5 k6) 30)) (HR : RightS m s) (Q : Exit → Act → World → Prop) {u0 u2 u3 u4 u5 u6 u7 u8 u9 u10 u11 u12 u13 u14 u15 u16 u17 u18 u19 u20 u21 u22 u23 u24 u25 u26 u27 u28 u29 u30 u31 u32 u33 u34 u35 u36 u37 u38 u39 u40 u41 u42 u43 u44 u45 u46 u47 u48 u49 u50 u51 u52 u53 u54 u55 u56 u57 u58 u59 u60 u61 u62 u63 : Value}
  (hQ : ∀ (VB : Value) (f : Nat → Value) (wfin : World), Below W.heap.size W wfin → OB wfin W.heap.size VB (snumL (headN s)) → Q .normal ⟨#[u0, .pointer (some ⟨g, 0, none⟩), u2, u3, VB, u5, u6, u7, f 8, f 9, f 10, f 11, f 12, f 13, f 14, f 15, f 16, f 17, f 18, f 19, f 20, f 21, f 22, f 23, f 24, f 25, f 26, f 27, f 28, f 29, f 30, f 31, f 32, f 33, u34, u35, u36, u37, u38, u39, u40, u41, u42, u43, u44, u45, u46, u47, u48, u49, u50, u51, u52, u53, u54, u55, u56, u57, u58, u59, u60, u61, u62, u63], []⟩ wfin) :
  Code.wp Tryz.prog puReg Q ⟨#[u0, .pointer (some ⟨g, 0, none⟩), u2, u3, u4, u5, u6, u7, u8, u9, u10, u11, u12, u13, u14, u15, u16, u17, u18, u19, u20, u21, u22, u23, u24, u25, u26, u27, u28, u29, u30, u31, u32, u33, u34, u35, u36, u37, u38, u39, u40, u41, u42, u43, u44, u45, u46, u47, u48, u49, u50, u51, u52, u53, u54, u55, u56, u57, u58, u59, u60, u61, u62, u63], []⟩ (W) := by
 refine Code.wp_mono NoPanic.imp ?_
 rw [puIs]
 refine region_run (S := (fun x : World => x.heap[g]? = some (.cells (vNq m s A1 A2 A3 A4 A5 A6 n1 n2 n3 n4 n5 n6 k1 k2 k3 k4 k5 k6) 30))) puOrd (by kernel_rfl) puSel (fun _ _ _ _ _ h => h) puSize puLen puOwn puOk (hg) ?_
 refine puRun s m A1 A2 A3 A4 A5 A6 n1 n2 n3 n4 n5 n6 k1 k2 k3 k4 k5 k6 g W hg HR _ _ ⟨rfl, Agree.refl, fun j v h => ?_⟩ fun VB bfr wfin hag hv4 hb ho => NoPanic.normal ?_
 ·simp only [List.lookup_cons] at h
  repeat (split at h; · (rename_i e; have e2 := eq_of_beq e; subst e2; injection h with h; subst h; rfl))
  cases h
 ·obtain ⟨f, rfl, hf⟩ := hag.formA 64 rfl
  have e4 : f 4 = VB := hf 4 _ hv4
  have := hQ VB f wfin hb ho
  rw [← e4] at this
  exact (congrArg (fun l => Q .normal ⟨l, []⟩ wfin) (by kernel_rfl)).mpr this
def PutSPost (m : Int) (s : Sc) (w : World) (e : Ending) (w' : World) : Prop := ∃ u er, e = .returned (.tuple #[u, .int .i64 er]) ∧ Below w.heap.size w w' ∧ ((RightS m s ∧ er = 0 ∧ OB w' w.heap.size u (snapL s)) ∨ (¬ RightS m s ∧ er = 27 ∧ u = .slice none 0 0))
theorem parserB_len {m : Int} {p : Pr} (h : RightP m p.priv p.params p.inter p.utf) : (parserB p).length ≤ 300 := by
 obtain ⟨⟨-, m7, k16, i2, huf⟩, hps, -, hpv, -, -⟩ := h
 have hul : p.utf.length ≤ 3 := by
  rcases Nat.eq_zero_or_pos p.utf.length with h | h
  ·omega
  ·exact (beginsL_len _ (huf h).2).2
 have l1 := snumL_len [p.mode, p.priv, p.params.length]
 have l2 := snumL_len (p.params.map Int.toNat)
 have l3 := (lebP_length p.inter.length).2
 have l4 := (lebP_length p.utf.length).2
 simp only [List.length_map, List.length_cons, List.length_nil] at l1 l2
 simp only [parserB, putB, List.length_append]
 omega
theorem snap_parts (s : Sc) : snumL (headN s) ++ tabsB s.tabs ++ bytL s.cells ++ otherB s ++ parserB s.p = snapL s := by simp [snapL]
theorem pPut_any (m : Int) (s : Sc) (vc vt vo vp vi vu : Value) (S : Nat → Prop) (w : World) (hS : ∀ x, S x → x < w.heap.size) (hs : SSl w S s vc vt vo vp vi vu) (hf : FitS m s) (hm : RightS m s → m = (s.p.mode : Int)) : Calls Tryz.prog 9 #[.agg (vRaw m s vc vt vo vp vi vu)] w (PutSPost m s w) := by
 have HSS := Lh hS
 have HS := Lh hs
 obtain ⟨A1, kk1, A2, k2, A3, k3, A4, k4, A5, k5, A6, k6, rfl, rfl, rfl, rfl, rfl, rfl, p1, q1, p2, q2, p3, q3, p4, q4, p5, q5, p6, q6⟩ := sslSix hs
 obtain ⟨X, hX⟩ : ∃ X, vMq m s A1 A2 A3 A4 A5 A6 kk1 k2 k3 k4 k5 k6 = X := ⟨_, rfl⟩
 have hb0 : (w.alloc (.cells (vMq m s A1 A2 A3 A4 A5 A6 kk1 k2 k3 k4 k5 k6) 30)).heap[w.heap.size]? = some (.cells (vMq m s A1 A2 A3 A4 A5 A6 kk1 k2 k3 k4 k5 k6) 30) := heap_one w _
 have K0 := Lh hb0
 have BW := Lh ((Below.refl w.heap.size w).alloc (Nat.le_refl _) (.cells (vMq m s A1 A2 A3 A4 A5 A6 kk1 k2 k3 k4 k5 k6) 30))
 have ZW : w.heap.size < (w.alloc (.cells (vMq m s A1 A2 A3 A4 A5 A6 kk1 k2 k3 k4 k5 k6) 30)).heap.size := by simp
 clear hb0 hX
 have HFIT := Lh hf
 go_enter Tryz.func9, Tryz.ntmps9
 go_upto_region 1 with fail
 generalize World.alloc w _ = W at K0 BW ZW ⊢
 have HSW := Lh (HS.out.below HSS.out BW.out)
 have hR := pRight_any m s _ _ _ _ _ _ S W (fun x hx => by have := HSS.out x hx; omega) HSW.out hf
 refine wp_region_lit ?_
 refine wpl_loadS rfl (.tmp 1) rfl rfl K0.out rfl ?_
 go_wp2_with fail
 refine hR.mono ?_
 rintro e w1 ⟨b, rfl, hb, b1⟩
 have HB := Lh hb
 have K1 := Lh ((b1.block _ ZW).trans K0.out)
 have B1 := Lh (BW.out.trans (b1.mono (by omega)))
 have z1 := b1.size
 have HS1 := Lh (HSW.out.below (B := W.heap.size) (fun x hx => by have := HSS.out x hx; omega) b1)
 clear hR hb b1 K0 BW HSW
 rename_i K hK
 refine hK _ _ ?_
 clear hK K
 cases b
 ·have HN := Lh (show ¬ RightS m s from fun h => by have := HB.out.2 h; cases this)
  go_wp2
  go_ret2
  exact ⟨_, _, rfl, B1.out, .inr ⟨HN.out, rfl, rfl⟩⟩
 ·have HR := Lh (HB.out.1 rfl)
  have hmm := hm HR.out
  subst hmm
  clear hm HB
  go_upto_region 3 with fail
  refine puAt s _ A1 A2 A3 A4 A5 A6 _ _ _ _ _ _ kk1 k2 k3 k4 k5 k6 w.heap.size w1 K1.out HR.out _ fun VB f wf hbf ob => ?_
  obtain ⟨r1, r2, c1, c2, tl, oy0, oy1, ox0, ox1⟩ : 1 ≤ s.rows ∧ s.rows ≤ 1000 ∧ 1 ≤ s.cols ∧ s.cols ≤ 1000 ∧ (s.tabs.length : Int) = s.cols ∧ 0 ≤ s.oy ∧ s.oy < s.rows ∧ 0 ≤ s.ox ∧ s.ox < s.cols := ⟨HR.out.r1, HR.out.r2, HR.out.c1, HR.out.c2, HR.out.tabs, HR.out.oy0, HR.out.oy1, HR.out.ox0, HR.out.ox1⟩
  have n0 := snumL_len (headN s)
  have n1 := snumL_len (s.tabs.map fun b => bN b 1)
  have n2 := bytL_len s.cells
  have n3 := bytL_len s.other
  have n4 := parserB_len HR.out.p
  have n5 := snumL_len [s.oy.toNat, s.ox.toNat]
  have n6 := HFIT.out.nc
  have n7 := HFIT.out.no
  simp only [headN, List.length_map, List.length_cons, List.length_nil] at n0 n1 n5
  have HCL : Hid (∀ W, Below w1.heap.size w1 W → (∀ x, S x → x < W.heap.size) ∧ TS W W.heap.size (.slice A2 s.tabs.length k2) s.tabs ∧ CS W W.heap.size (.slice A1 s.cells.length kk1) s.cells ∧ CS W W.heap.size (.slice A3 s.other.length k3) s.other ∧ SSl W S s (.slice A1 s.cells.length kk1) (.slice A2 s.tabs.length k2) (.slice A3 s.other.length k3) (.slice A4 s.p.params.length k4) (.slice A5 s.p.inter.length k5) (.slice A6 s.p.utf.length k6)) := fun W hW => by
   have hSW : ∀ x, S x → x < W.heap.size := fun x hx => by have := HSS.out x hx; have := hW.size; omega
   have hs := HS1.out.below (B := w1.heap.size) (fun x hx => by have := HSS.out x hx; omega) hW
   exact ⟨hSW, hs.2.1.mono hSW, hs.1.cs hSW, hs.2.2.1.cs hSW, hs⟩
  obtain ⟨M0, hM0⟩ : ∃ M, snumL (headN s) = M := ⟨_, rfl⟩
  obtain ⟨M1, hM1⟩ : ∃ M, M0 ++ tabsB s.tabs = M := ⟨_, rfl⟩
  obtain ⟨M2, hM2⟩ : ∃ M, M1 ++ bytL s.cells = M := ⟨_, rfl⟩
  obtain ⟨M3, hM3⟩ : ∃ M, M2 ++ otherB s = M := ⟨_, rfl⟩
  obtain ⟨N0, hN0⟩ : ∃ M, M2 ++ snumL [s.oy.toNat, s.ox.toNat] = M := ⟨_, rfl⟩
  have q0 : M0.length ≤ 200 := by rw [← hM0]; simp only [headN]; omega
  have q1 : M1.length ≤ 20000 := by rw [← hM1, List.length_append]; unfold tabsB; omega
  have q2 : M2.length ≤ 100000000 := by rw [← hM2, List.length_append]; omega
  have q3 : N0.length ≤ 100001000 := by rw [← hN0, List.length_append]; omega
  have q4 : M3.length ≤ 300000000 := by rw [← hM3, List.length_append]; unfold otherB; split <;> simp only [List.length_append, List.length_nil] <;> omega
  have n8 : (tabsB s.tabs).length ≤ 20000 := by unfold tabsB; omega
  rw [hM0] at ob
  have HM := Lh (And.intro hM0 (And.intro hM1 (And.intro hM2 (And.intro hM3 hN0))))
  clear hM0 hM1 hM2 hM3 hN0 n0
  have P := Lh ob
  obtain ⟨B9, c9, hv, -, -⟩ := ob.sl.form
  subst hv
  have C := Lh hbf
  have z0 := hbf.size
  have L := Lh ((hbf.block _ (by omega)).trans K1.out)
  clear ob hbf
  go_simp
  obtain ⟨d9, -⟩ := cellR (v := .slice A2 s.tabs.length k2) L.out 9 rfl
  go_wp2_with fail
  refine (putTabs_any _ s.tabs _ (HCL.out _ C.out).2.1 (by omega)).mono ?_
  rintro e x1 ⟨v1, rfl, o1, b1⟩
  have zb1 := b1.size
  have L := Lh ((b1.block _ (by have := C.out.size; omega)).trans L.out)
  have P := Lh ((show OB _ w1.heap.size _ _ from P.out).below b1)
  have C := Lh (C.out.trans (b1.mono C.out.size))
  have zc1 := C.out.size
  have N := Lh o1
  obtain ⟨E1, f1, hv, -, -⟩ := o1.sl.form
  subst hv
  clear d9 o1 b1
  go_wp2_with (at_builtin; refine wpl_app _ rfl (.tmp 34) (.tmp 37) rfl w1.heap.size _ _ _ _ _ rfl rfl P.out N.out.bs (by omega) (by omega) ?_; intro y1 u1 ho hg hb hat; rw [HM.out.2.1] at ho; have P := Lh ho; have C := Lh (C.out.trans hb); have L := Lh ((hb.block _ (by omega)).trans L.out); have zu1 := hb.size; obtain ⟨G1, g1, hv, -, -⟩ := ho.sl.form; subst hv; obtain ⟨d2, -⟩ := cellR (v := .slice A1 s.cells.length kk1) L.out 2 rfl; clear ho hg hb hat)
  refine (putCells_any _ s.cells _ (HCL.out _ C.out).2.2.1 (by omega) HR.out.cells.2.1).mono ?_
  rintro e x2 ⟨v2, rfl, o1, b1⟩
  have zb2 := b1.size
  have L := Lh ((b1.block _ (by have := C.out.size; omega)).trans L.out)
  have P := Lh ((show OB _ w1.heap.size _ _ from P.out).below b1)
  have C := Lh (C.out.trans (b1.mono C.out.size))
  have zc2 := C.out.size
  have N := Lh o1
  obtain ⟨E2, f2, hv, -, -⟩ := o1.sl.form
  subst hv
  clear d2 o1 b1
  cases halt : s.alt
  focus
   have hM3 := HM.out.2.2.2.1
   rw [show otherB s = [] by simp [otherB, halt], List.append_nil] at hM3
   have HF := Lh (show M2 ++ parserB s.p = snapL s by have h := snap_parts s; rw [HM.out.1, HM.out.2.1, HM.out.2.2.1, HM.out.2.2.2.1, ← hM3] at h; exact h)
   clear hM3
   go_wp2_with (at_builtin; refine wpl_app _ rfl (.tmp 39) (.tmp 42) rfl w1.heap.size _ _ _ _ _ rfl rfl P.out N.out.bs (by omega) (by omega) ?_; intro y2 u2 ho hg hb hat; rw [HM.out.2.2.1] at ho; have P := Lh ho; have C := Lh (C.out.trans hb); have L := Lh ((hb.block _ (by omega)).trans L.out); have zu2 := hb.size; obtain ⟨G2, g2, hv, -, -⟩ := ho.sl.form; subst hv; obtain ⟨d15, -⟩ := cellR (v := .bool s.alt) L.out 15 rfl; obtain ⟨d19, -⟩ := cellR (v := .int .i64 (s.p.mode : Int)) L.out 19 rfl; obtain ⟨d20, -⟩ := cellR (v := .int .u8 (s.p.priv : Int)) L.out 20 rfl; obtain ⟨d21, -⟩ := cellR (v := .slice A4 s.p.params.length k4) L.out 21 rfl; obtain ⟨d22, -⟩ := cellR (v := .slice A5 s.p.inter.length k5) L.out 22 rfl; obtain ⟨d23, -⟩ := cellR (v := .slice A6 s.p.utf.length k6) L.out 23 rfl; rw [halt] at d15; clear ho hg hb hat)
  rotate_left
  focus
   go_wp2_with (at_builtin; refine wpl_app _ rfl (.tmp 39) (.tmp 42) rfl w1.heap.size _ _ _ _ _ rfl rfl P.out N.out.bs (by omega) (by omega) ?_; intro y2 u2 ho hg hb hat; rw [HM.out.2.2.1] at ho; have P := Lh ho; have C := Lh (C.out.trans hb); have L := Lh ((hb.block _ (by omega)).trans L.out); have zu2 := hb.size; obtain ⟨G2, g2, hv, -, -⟩ := ho.sl.form; subst hv; obtain ⟨d15, -⟩ := cellR (v := .bool s.alt) L.out 15 rfl; obtain ⟨d17, -⟩ := cellR (v := .int .i64 s.oy) L.out 17 rfl; obtain ⟨d18, -⟩ := cellR (v := .int .i64 s.ox) L.out 18 rfl; rw [halt] at d15; clear ho hg hb hat)
   have hlit := IS.lit u2 [s.oy, s.ox] 2 _ 3 rfl rfl (by simp)
   refine (putNumbers_any _ [s.oy, s.ox] _ (hlit.more (by simp)) (by simp) (by simp; omega)).mono ?_
   rintro e x3 ⟨v3, rfl, o1, b1⟩
   have zb3 := b1.size
   have hzz : (u2.alloc (.cells #[.int .i64 s.oy, .int .i64 s.ox] 3)).heap.size = u2.heap.size + 1 := by simp
   have bA : Below u2.heap.size u2 x3 := ((Below.refl _ _).alloc (Nat.le_refl _) _).trans (b1.mono (by simp))
   have L := Lh ((bA.block _ (by have := C.out.size; omega)).trans L.out)
   have P := Lh ((show OB _ w1.heap.size _ _ from P.out).below bA)
   have C := Lh (C.out.trans (bA.mono C.out.size))
   have zc3 := C.out.size
   have N := Lh (show OB _ _ _ (snumL [s.oy.toNat, s.ox.toNat]) from o1)
   obtain ⟨E3, f3, hv, -, -⟩ := o1.sl.form
   subst hv
   have HN5 := Lh n5
   have n9 : (snumL ([s.oy, s.ox].map Int.toNat)).length ≤ 20 := n5
   clear d17 d18 o1 b1 bA hlit
   generalize hZ5 : snumL [s.oy.toNat, s.ox.toNat] = Z5 at *
   have HZ5 := Lh hZ5
   clear hZ5
   have n9 : Z5.length ≤ 20 := HN5.out
   go_wp2_with (at_builtin; refine wpl_app _ rfl (.tmp 46) (.tmp 52) rfl w1.heap.size _ _ _ _ _ rfl rfl P.out N.out.bs (by omega) (by omega) ?_; intro y3 u3 ho hg hb hat; rw [HM.out.2.2.2.2] at ho; have P := Lh ho; have C := Lh (C.out.trans hb); have L := Lh ((hb.block _ (by omega)).trans L.out); have zu3 := hb.size; obtain ⟨G3, g3, hv, -, -⟩ := ho.sl.form; subst hv; obtain ⟨d16, -⟩ := cellR (v := .slice A3 s.other.length k3) L.out 16 rfl; clear ho hg hb hat)
   refine (putCells_any _ s.other _ (HCL.out _ C.out).2.2.2.1 (by omega) (HR.out.other halt).2.1).mono ?_
   rintro e x4 ⟨v4, rfl, o1, b1⟩
   have zb4 := b1.size
   have L := Lh ((b1.block _ (by have := C.out.size; omega)).trans L.out)
   have P := Lh ((show OB _ w1.heap.size _ _ from P.out).below b1)
   have C := Lh (C.out.trans (b1.mono C.out.size))
   have zc4 := C.out.size
   have N := Lh o1
   obtain ⟨E4, f4, hv, -, -⟩ := o1.sl.form
   subst hv
   clear d16 o1 b1
   have HO := Lh (show N0 ++ bytL s.other = M3 by have h1 := HM.out.2.2.2.1; have h2 := HM.out.2.2.2.2; rw [show otherB s = Z5 ++ bytL s.other by rw [← HZ5.out]; simp [otherB, halt], ← List.append_assoc, h2] at h1; exact h1)
   have HF := Lh (show M3 ++ parserB s.p = snapL s by have h := snap_parts s; rw [HM.out.1, HM.out.2.1, HM.out.2.2.1, HM.out.2.2.2.1] at h; exact h)
   go_wp2_with (at_builtin; refine wpl_app _ rfl (.tmp 54) (.tmp 57) rfl w1.heap.size _ _ _ _ _ rfl rfl P.out N.out.bs (by omega) (by omega) ?_; intro y4 u4 ho hg hb hat; rw [HO.out] at ho; have P := Lh ho; have C := Lh (C.out.trans hb); have L := Lh ((hb.block _ (by omega)).trans L.out); have zu4 := hb.size; obtain ⟨G4, g4, hv, -, -⟩ := ho.sl.form; subst hv; obtain ⟨d19, -⟩ := cellR (v := .int .i64 (s.p.mode : Int)) L.out 19 rfl; obtain ⟨d20, -⟩ := cellR (v := .int .u8 (s.p.priv : Int)) L.out 20 rfl; obtain ⟨d21, -⟩ := cellR (v := .slice A4 s.p.params.length k4) L.out 21 rfl; obtain ⟨d22, -⟩ := cellR (v := .slice A5 s.p.inter.length k5) L.out 22 rfl; obtain ⟨d23, -⟩ := cellR (v := .slice A6 s.p.utf.length k6) L.out 23 rfl; clear ho hg hb hat)
  all_goals
   have hs9 := (HCL.out _ C.out).2.2.2.2
   refine (putParser_any s.p _ _ _ S _ (HCL.out _ C.out).1 hs9.2.2.2.1 hs9.2.2.2.2.1 hs9.2.2.2.2.2 HR.out.p).mono ?_
   rintro e x9 ⟨v9, rfl, o1, b1⟩
   have P := Lh ((show OB _ w1.heap.size _ _ from P.out).below b1)
   have C := Lh (C.out.trans (b1.mono C.out.size))
   have zc9 := C.out.size
   have zb9 := b1.size
   have N := Lh o1
   obtain ⟨E9, f9, hv, -, -⟩ := o1.sl.form
   subst hv
   clear o1 b1 hs9
   go_wp2_with (at_builtin; refine wpl_app _ rfl (.tmp 59) (.tmp 62) rfl w1.heap.size _ _ _ _ _ rfl rfl P.out N.out.bs (by omega) (by omega) ?_; intro y9 u9 ho hg hb hat; rw [HF.out] at ho)
   go_ret2
   exact ⟨_, _, rfl, B1.out.trans ((C.out.trans hb).mono (by omega)), .inl ⟨HR.out, rfl, own_lowS ho (by omega)⟩⟩
@[reducible] def fixV (m : Int) (s : Sc) : Array Value := #[.int .i64 s.rows, .int .i64 s.cols, .int .i64 s.y, .int .i64 s.x, .bool s.wrap, .bool s.auto, .bool s.shown, .bool s.alt, .int .u16 (s.attr : Int), .int .u16 (s.sattr : Int), .int .i64 s.top, .int .i64 s.bottom, .int .i64 s.sy, .int .i64 s.sx, .int .i64 s.oy, .int .i64 s.ox, .int .i64 m, .int .u8 (s.p.priv : Int)]
theorem fixSize : (Tryz.prog.info? 61).map (·.size) = some 18 := by kernel_rfl
theorem resultF {fn : Func} {p : Tmp} (h : fn.results = #[.cell p 61]) {tmps : Array Value} {w : World} {g : Nat} {xs : Array Value} (ht : tmps.getD p undef = .pointer (some ⟨g, 0, none⟩)) (hg : w.heap[g]? = some (.cells xs 61)) (hn : xs.size = 18) :
  (results fn tmps).run Tryz.prog w = .ok (.agg xs) w := by
 simp only [results, h]
 have := run_loadVar_row (P := Tryz.prog) w g _ 61 xs (0, 0) _ hg Tryz.underlying61 rfl (by rw [fixSize, hn])
 have ht2 : tmps[p]?.getD undef = .pointer (some ⟨g, 0, none⟩) := by simpa using ht
 simp [ht2, asAddr, this]
theorem fixedOf_any (s : Sc) (m : Int) (A1 A2 A3 A4 A5 A6 : Option Addr) (n1 n2 n3 n4 n5 n6 k1 k2 k3 k4 k5 k6 : Nat) (w : World) : Calls Tryz.prog 29 #[.agg (vNq m s A1 A2 A3 A4 A5 A6 n1 n2 n3 n4 n5 n6 k1 k2 k3 k4 k5 k6)] w fun e w' => e = .returned (.agg (fixV m s)) ∧ Below w.heap.size w w' := by
 have hb0 : (w.alloc (.cells (vNq m s A1 A2 A3 A4 A5 A6 n1 n2 n3 n4 n5 n6 k1 k2 k3 k4 k5 k6) 30)).heap[w.heap.size]? = some (.cells (vNq m s A1 A2 A3 A4 A5 A6 n1 n2 n3 n4 n5 n6 k1 k2 k3 k4 k5 k6) 30) := heap_one w _
 go_enter Tryz.func29, Tryz.ntmps29
 go_wp2
 refine bodyPost_ret (v := .agg (fixV m s)) (resultF Tryz.results29 rfl (two_keptB (w := w) (x := .cells (vNq m s A1 A2 A3 A4 A5 A6 n1 n2 n3 n4 n5 n6 k1 k2 k3 k4 k5 k6) 30) (y := .cells (fixV m s) 61) (Below.refl _ _)).2 rfl) rfl ⟨rfl, (two_new w _ _).1⟩
def EqPost (P : Prop) (w : World) (e : Ending) (w' : World) : Prop := (∃ b, e = .returned (.bool b) ∧ (b = true ↔ P)) ∧ Below w.heap.size w w'
def EqRelX {α : Type} (n : Nat) (l m : List α) (w : World) (i : Value) (wr : World) : Prop := ∃ k : Nat, k ≤ n ∧ i = .int .i64 (k : Int) ∧ (∀ j, j < k → l[j]? = m[j]?) ∧ Below w.heap.size w wr
theorem equalT_any (v u : Value) (l m : List Bool) (S : Nat → Prop) (w : World) (hS : ∀ x, S x → x < w.heap.size) (h : SL vT w S v l) (g : SL vT w S u m) (hl : l.length ≤ 1048576) (hm9 : m.length ≤ 1048576) : Calls Tryz.prog 31 #[v, u] w (EqPost (l = m) w) := by
 obtain ⟨A, cp, rfl, g1, g2⟩ := h.form
 obtain ⟨D, cd, rfl, g3, g4⟩ := g.form
 have H := Lh h
 have G := Lh g
 have HSS := Lh hS
 clear h g hS
 by_cases hm : l.length = m.length
 rotate_left
 ·have hlm : (((l.length : Nat) : Int) != ((m.length : Nat) : Int)) = true := by simp; omega
  have hno : ¬ l = m := fun e => hm (by rw [e])
  clear hm
  go_enter Tryz.func31, Tryz.ntmps31
  go_wp2
  go_ret
  exact ⟨⟨false, rfl, ⟨(fun h => by cases h), fun h => absurd h hno⟩⟩, Below.refl _ _⟩
 have hlm : (((l.length : Nat) : Int) != ((m.length : Nat) : Int)) = false := by rw [hm]; simp
 obtain ⟨n, hn⟩ : ∃ n, n = l.length := ⟨_, rfl⟩
 rw [← hn] at g1 hl hlm H hm
 rw [← hm] at g3 hlm G
 rw [← hn, ← hm]
 have HN := Lh hn
 have HM := Lh hm
 clear hn hm hm9
 go_enter Tryz.func31, Tryz.ntmps31
 go_wp2
 go_loopw [13] (fun i wr => EqRelX n l m w i wr) (fun i _ => n - (intOf i).toNat)
 case atStart => exact ⟨0, Nat.zero_le _, rfl, fun j hj => absurd hj (by omega), Below.refl _ _⟩
 case round =>
  generalize wr = w2 at *
  obtain ⟨k, hk, rfl, hall, hb⟩ := hrel
  have HB := Lh hb
  have HALL := Lh hall
  clear hb hall
  by_cases hlt : k < n
  ·obtain ⟨x, hx⟩ : ∃ x, l[k]? = some x := ⟨_, List.getElem?_eq_getElem (by have := HN.out; omega)⟩
   obtain ⟨y, hy⟩ : ∃ y, m[k]? = some y := ⟨_, List.getElem?_eq_getElem (by have := HM.out; omega)⟩
   obtain ⟨ad, hA, t0'⟩ := (H.out.keep (fun q hq => HB.out.cell (HSS.out _ hq))).get k x hx
   obtain ⟨ad2, hA2, u0'⟩ := (G.out.keep (fun q hq => HB.out.cell (HSS.out _ hq))).get k y hy
   subst hA hA2
   have t0 : w2.cell? (ad.add k) = some (.bool x) := t0'
   have u0 : w2.cell? (ad2.add k) = some (.bool y) := u0'
   have hki : (k : Int) < (n : Int) := by omega
   have HX := Lh hx
   have HY := Lh hy
   clear hx hy t0' u0'
   by_cases hxy : x = y
   ·subst hxy
    go_wp2
    go_quiet (fail)
    have hbq := below_drewW HB.out nq
    go_wp2
    go_roundw
    case rel =>
     refine ⟨k + 1, hlt, by go_num, ?_, hbq⟩
     intro j hj
     by_cases e : j = k
     ·rw [e, HX.out, HY.out]
     ·exact HALL.out j (by omega)
    case measure => simp [intOf]; omega
   ·have hbq : (x == y) = false := by cases x <;> cases y <;> simp_all
    have hno : ¬ l = m := fun e => hxy (by have h1 := HX.out; rw [e, HY.out] at h1; exact (Option.some.inj h1).symm)
    go_wp2
    go_quiet (fail)
    have hbq2 := below_drewW HB.out nq
    go_wp2
    go_ret
    exact ⟨⟨false, rfl, ⟨(fun h => by cases h), fun h => absurd h hno⟩⟩, hbq2⟩
  ·obtain rfl : k = n := by omega
   have heq : l = m := by
    apply List.ext_getElem?
    intro j
    by_cases hj : j < k
    ·exact HALL.out j hj
    ·rw [List.getElem?_eq_none (by have := HN.out; omega), List.getElem?_eq_none (by have := HM.out; omega)]
   have HE := Lh heq
   clear heq
   go_wp2
   go_ret
   exact ⟨⟨true, rfl, by simp only [true_iff]; exact HE.out⟩, HB.out⟩
theorem equalI_any (v u : Value) (l m : List Int) (S : Nat → Prop) (w : World) (hS : ∀ x, S x → x < w.heap.size) (h : SL vI w S v l) (g : SL vI w S u m) (hl : l.length ≤ 1048576) (hm9 : m.length ≤ 1048576) : Calls Tryz.prog 32 #[v, u] w (EqPost (l = m) w) := by
 obtain ⟨A, cp, rfl, g1, g2⟩ := h.form
 obtain ⟨D, cd, rfl, g3, g4⟩ := g.form
 have H := Lh h
 have G := Lh g
 have HSS := Lh hS
 clear h g hS
 by_cases hm : l.length = m.length
 rotate_left
 ·have hlm : (((l.length : Nat) : Int) != ((m.length : Nat) : Int)) = true := by simp; omega
  have hno : ¬ l = m := fun e => hm (by rw [e])
  clear hm
  go_enter Tryz.func32, Tryz.ntmps32
  go_wp2
  go_ret
  exact ⟨⟨false, rfl, ⟨(fun h => by cases h), fun h => absurd h hno⟩⟩, Below.refl _ _⟩
 have hlm : (((l.length : Nat) : Int) != ((m.length : Nat) : Int)) = false := by rw [hm]; simp
 obtain ⟨n, hn⟩ : ∃ n, n = l.length := ⟨_, rfl⟩
 rw [← hn] at g1 hl hlm H hm
 rw [← hm] at g3 hlm G
 rw [← hn, ← hm]
 have HN := Lh hn
 have HM := Lh hm
 clear hn hm hm9
 go_enter Tryz.func32, Tryz.ntmps32
 go_wp2
 go_loopw [13] (fun i wr => EqRelX n l m w i wr) (fun i _ => n - (intOf i).toNat)
 case atStart => exact ⟨0, Nat.zero_le _, rfl, fun j hj => absurd hj (by omega), Below.refl _ _⟩
 case round =>
  generalize wr = w2 at *
  obtain ⟨k, hk, rfl, hall, hb⟩ := hrel
  have HB := Lh hb
  have HALL := Lh hall
  clear hb hall
  by_cases hlt : k < n
  ·obtain ⟨x, hx⟩ : ∃ x, l[k]? = some x := ⟨_, List.getElem?_eq_getElem (by have := HN.out; omega)⟩
   obtain ⟨y, hy⟩ : ∃ y, m[k]? = some y := ⟨_, List.getElem?_eq_getElem (by have := HM.out; omega)⟩
   obtain ⟨ad, hA, t0'⟩ := (H.out.keep (fun q hq => HB.out.cell (HSS.out _ hq))).get k x hx
   obtain ⟨ad2, hA2, u0'⟩ := (G.out.keep (fun q hq => HB.out.cell (HSS.out _ hq))).get k y hy
   subst hA hA2
   have t0 : w2.cell? (ad.add k) = some (.int .i64 x) := t0'
   have u0 : w2.cell? (ad2.add k) = some (.int .i64 y) := u0'
   have hki : (k : Int) < (n : Int) := by omega
   have HX := Lh hx
   have HY := Lh hy
   clear hx hy t0' u0'
   by_cases hxy : x = y
   ·subst hxy
    go_wp2
    go_quiet (fail)
    have hbq := below_drewW HB.out nq
    go_wp2
    go_roundw
    case rel =>
     refine ⟨k + 1, hlt, by go_num, ?_, hbq⟩
     intro j hj
     by_cases e : j = k
     ·rw [e, HX.out, HY.out]
     ·exact HALL.out j (by omega)
    case measure => simp [intOf]; omega
   ·have hbq : (x == y) = false := by simpa using hxy
    have hno : ¬ l = m := fun e => hxy (by have h1 := HX.out; rw [e, HY.out] at h1; exact (Option.some.inj h1).symm)
    go_wp2
    go_quiet (fail)
    have hbq2 := below_drewW HB.out nq
    go_wp2
    go_ret
    exact ⟨⟨false, rfl, ⟨(fun h => by cases h), fun h => absurd h hno⟩⟩, hbq2⟩
  ·obtain rfl : k = n := by omega
   have heq : l = m := by
    apply List.ext_getElem?
    intro j
    by_cases hj : j < k
    ·exact HALL.out j hj
    ·rw [List.getElem?_eq_none (by have := HN.out; omega), List.getElem?_eq_none (by have := HM.out; omega)]
   have HE := Lh heq
   clear heq
   go_wp2
   go_ret
   exact ⟨⟨true, rfl, by simp only [true_iff]; exact HE.out⟩, HB.out⟩
theorem equalB_any (v u : Value) (l m : List UInt8) (S : Nat → Prop) (w : World) (hS : ∀ x, S x → x < w.heap.size) (h : SL vB w S v l) (g : SL vB w S u m) (hl : l.length ≤ 1048576) (hm9 : m.length ≤ 1048576) : Calls Tryz.prog 33 #[v, u] w (EqPost (l = m) w) := by
 obtain ⟨A, cp, rfl, g1, g2⟩ := h.form
 obtain ⟨D, cd, rfl, g3, g4⟩ := g.form
 have H := Lh h
 have G := Lh g
 have HSS := Lh hS
 clear h g hS
 by_cases hm : l.length = m.length
 rotate_left
 ·have hlm : (((l.length : Nat) : Int) != ((m.length : Nat) : Int)) = true := by simp; omega
  have hno : ¬ l = m := fun e => hm (by rw [e])
  clear hm
  go_enter Tryz.func33, Tryz.ntmps33
  go_wp2
  go_ret
  exact ⟨⟨false, rfl, ⟨(fun h => by cases h), fun h => absurd h hno⟩⟩, Below.refl _ _⟩
 have hlm : (((l.length : Nat) : Int) != ((m.length : Nat) : Int)) = false := by rw [hm]; simp
 obtain ⟨n, hn⟩ : ∃ n, n = l.length := ⟨_, rfl⟩
 rw [← hn] at g1 hl hlm H hm
 rw [← hm] at g3 hlm G
 rw [← hn, ← hm]
 have HN := Lh hn
 have HM := Lh hm
 clear hn hm hm9
 go_enter Tryz.func33, Tryz.ntmps33
 go_wp2
 go_loopw [13] (fun i wr => EqRelX n l m w i wr) (fun i _ => n - (intOf i).toNat)
 case atStart => exact ⟨0, Nat.zero_le _, rfl, fun j hj => absurd hj (by omega), Below.refl _ _⟩
 case round =>
  generalize wr = w2 at *
  obtain ⟨k, hk, rfl, hall, hb⟩ := hrel
  have HB := Lh hb
  have HALL := Lh hall
  clear hb hall
  by_cases hlt : k < n
  ·obtain ⟨x, hx⟩ : ∃ x, l[k]? = some x := ⟨_, List.getElem?_eq_getElem (by have := HN.out; omega)⟩
   obtain ⟨y, hy⟩ : ∃ y, m[k]? = some y := ⟨_, List.getElem?_eq_getElem (by have := HM.out; omega)⟩
   obtain ⟨ad, hA, t0'⟩ := (H.out.keep (fun q hq => HB.out.cell (HSS.out _ hq))).get k x hx
   obtain ⟨ad2, hA2, u0'⟩ := (G.out.keep (fun q hq => HB.out.cell (HSS.out _ hq))).get k y hy
   subst hA hA2
   have t0 : w2.cell? (ad.add k) = some (.int .u8 (x.toNat : Int)) := t0'
   have u0 : w2.cell? (ad2.add k) = some (.int .u8 (y.toNat : Int)) := u0'
   have hki : (k : Int) < (n : Int) := by omega
   have HX := Lh hx
   have HY := Lh hy
   clear hx hy t0' u0'
   by_cases hxy : x = y
   ·subst hxy
    go_wp2
    go_quiet (fail)
    have hbq := below_drewW HB.out nq
    go_wp2
    go_roundw
    case rel =>
     refine ⟨k + 1, hlt, by go_num, ?_, hbq⟩
     intro j hj
     by_cases e : j = k
     ·rw [e, HX.out, HY.out]
     ·exact HALL.out j (by omega)
    case measure => simp [intOf]; omega
   ·have hbq : ((x.toNat : Int) == (y.toNat : Int)) = false := by exact bF (fun e => hxy (UInt8.toNat.inj (by omega)))
    have hno : ¬ l = m := fun e => hxy (by have h1 := HX.out; rw [e, HY.out] at h1; exact (Option.some.inj h1).symm)
    go_wp2
    go_quiet (fail)
    have hbq2 := below_drewW HB.out nq
    go_wp2
    go_ret
    exact ⟨⟨false, rfl, ⟨(fun h => by cases h), fun h => absurd h hno⟩⟩, hbq2⟩
  ·obtain rfl : k = n := by omega
   have heq : l = m := by
    apply List.ext_getElem?
    intro j
    by_cases hj : j < k
    ·exact HALL.out j hj
    ·rw [List.getElem?_eq_none (by have := HN.out; omega), List.getElem?_eq_none (by have := HM.out; omega)]
   have HE := Lh heq
   clear heq
   go_wp2
   go_ret
   exact ⟨⟨true, rfl, by simp only [true_iff]; exact HE.out⟩, HB.out⟩
end Go.Proofs.YthepofkdgbcifaaGreat
