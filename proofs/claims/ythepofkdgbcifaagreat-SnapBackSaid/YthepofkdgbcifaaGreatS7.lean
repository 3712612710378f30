/- What is proved here: parts of layer 10's proofs. -/
import Derived.Test.YthepofkdgbcifaaGreatS6
import Derived.Deep.RegionHeld3
import Derived.Deep.RegionWith
namespace Go.Proofs.YthepofkdgbcifaaGreat
open Go.RowKit
set_option linter.unusedVariables false
set_option linter.unusedSimpArgs false
set_option maxHeartbeats 4000000
set_option maxRecDepth 100000
def PutCPost (l : List Cl) (w : World) (e : Ending) (w' : World) : Prop := ∃ u, e = .returned (.tuple #[u, .int .i64 ((putCL l).2 : Int)]) ∧ OB w' w.heap.size u (putCL l).1 ∧ Below w.heap.size w w'
theorem below_drewP {B : Nat} {w w' : World} (h : Below B w w') (n : Nat) : Below B w (w'.drewN n) := ⟨h.os, h.tape, h.output, h.size, h.block⟩
theorem bytL_drop (l : List Cl) (j N : Nat) (c : Cl) (hc : l[j]? = some c) (hN : sameN c (l.drop j) = N) : 1 ≤ N ∧ j + N ≤ l.length ∧ bytL (l.drop j) = runB N c ++ bytL (l.drop (j + N)) := by
 have hj : j < l.length := (List.getElem?_eq_some_iff.1 hc).1
 have hd : l.drop j = c :: l.drop (j + 1) := by
  rw [List.drop_eq_getElem_cons hj]
  congr 1
  exact (List.getElem?_eq_some_iff.1 hc).2
 have hle := sameN_le c (l.drop j)
 rw [hN, List.length_drop] at hle
 rw [hd] at hN
 unfold sameN at hN
 rw [if_pos rfl] at hN
 refine ⟨by omega, by omega, ?_⟩
 rw [hd, bytL_cons, hN, List.drop_drop, show j + 1 + sameN c (l.drop (j + 1)) = j + N by omega]
theorem readL_ex6 (l : List UInt8) : ∃ (x : Int) (k er : Nat), readL l = (x.toNat, k, er) ∧ 0 ≤ x ∧ x < 18446744073709551616 ∧ k ≤ l.length ∧ (er = 0 ∨ er = 21 ∨ er = 22) := by
 have h := readL_bd l
 exact ⟨((readL l).1 : Int), (readL l).2.1, (readL l).2.2, by rw [Int.toNat_natCast], by omega, by omega, h.2.1, h.2.2⟩
def ReadCPost (b : List UInt8) (n : Int) (w : World) (e : Ending) (w' : World) : Prop :=
 ∃ u, e = .returned (.tuple #[u, .int .i64 ((readCL b n).2.1 : Int), .int .i64 ((readCL b n).2.2 : Int)]) ∧ OC w' w.heap.size u (readCL b n).1 ∧ Below w.heap.size w w'
theorem cell3 {w : World} {g : Nat} {xs : Array Value} {t : TypeId} (h : w.heap[g]? = some (.cells xs t)) (i : Nat) {v : Value} (hv : xs[i]? = some v) : w.cell? ⟨g, i, none⟩ = some v ∧ w.frozen? ⟨g, i, none⟩ = false :=
 ⟨by rw [cell_of_row w g i _ t _ h]; exact hv, by simp [World.frozen?, h]⟩
theorem lt3 {w : World} {b : Nat} {o : Obj} (h : w.heap[b]? = some o) : b < w.heap.size := by
 rcases Nat.lt_or_ge b w.heap.size with c | c
 ·exact c
 ·rw [Array.getElem?_eq_none c] at h; cases h
def Num3 (b : List UInt8) (at_ i a : Nat) (y1 y2 y3 : Int) : Prop :=
 (i = 0 ∧ a = at_ ∧ y1 = 0 ∧ y2 = 0 ∧ y3 = 0) ∨
 (i = 1 ∧ y2 = 0 ∧ y3 = 0 ∧ ∃ k1, readL (b.drop at_) = (y1.toNat, k1, 0) ∧ a = at_ + k1) ∨
 (i = 2 ∧ y3 = 0 ∧ ∃ k1 k2, readL (b.drop at_) = (y1.toNat, k1, 0) ∧ readL ((b.drop at_).drop k1) = (y2.toNat, k2, 0) ∧ a = at_ + k1 + k2) ∨
 (i = 3 ∧ ∃ k1 k2 k3, readL (b.drop at_) = (y1.toNat, k1, 0) ∧ readL ((b.drop at_).drop k1) = (y2.toNat, k2, 0) ∧ readL ((b.drop at_).drop (k1 + k2)) = (y3.toNat, k3, 0) ∧ a = at_ + k1 + k2 + k3)
def NumRel (b : List UInt8) (at_ : Nat) (w5 : World) (av iv : Value) (wr : World) : Prop :=
 ∃ (i a : Nat) (y1 y2 y3 : Int), i ≤ 3 ∧ iv = .int .i64 (i : Int) ∧ av = .int .i64 (a : Int) ∧ a ≤ b.length ∧ 0 ≤ y1 ∧ y1 < 18446744073709551616 ∧ 0 ≤ y2 ∧ y2 < 18446744073709551616 ∧ 0 ≤ y3 ∧ y3 < 18446744073709551616 ∧ Num3 b at_ i a y1 y2 y3 ∧ wr.heap[w5.heap.size]? = some (.cells #[.int .u64 y1, .int .u64 y2, .int .u64 y3] 133) ∧ Below w5.heap.size w5 wr
theorem num_err {b : List UInt8} {at_ i a : Nat} {y1 y2 y3 : Int} {v k e : Nat} (h : Num3 b at_ i a y1 y2 y3) (hi : i < 3) (hr : readL (b.drop a) = (v, k, e)) (he : e ≠ 0) : run3 (b.drop at_) = ((0, 0, 0), 0, e) := by
 rcases h with ⟨rfl, rfl, -⟩ | ⟨rfl, -, -, k1, h1, rfl⟩ | ⟨rfl, -, k1, k2, h1, h2, rfl⟩ | ⟨rfl, -⟩
 ·exact run3_e1 hr he
 ·rw [← List.drop_drop] at hr
  exact run3_e2 h1 hr he
 ·rw [Nat.add_assoc, ← List.drop_drop] at hr
  exact run3_e3 h1 h2 hr he
 ·omega
theorem num_next {b : List UInt8} {at_ i a : Nat} {y1 y2 y3 x : Int} {k : Nat} (h : Num3 b at_ i a y1 y2 y3) (hi : i < 3) (hr : readL (b.drop a) = (x.toNat, k, 0)) : Num3 b at_ (i + 1) (a + k) (if i = 0 then x else y1) (if i = 1 then x else y2) (if i = 2 then x else y3) := by
 rcases h with ⟨rfl, rfl, r1, r2, r3⟩ | ⟨rfl, r2, r3, k1, h1, rfl⟩ | ⟨rfl, r3, k1, k2, h1, h2, rfl⟩ | ⟨rfl, -⟩
 ·exact .inr (.inl ⟨rfl, by simpa using r2, by simpa using r3, k, by simpa using hr, rfl⟩)
 ·rw [← List.drop_drop] at hr
  exact .inr (.inr (.inl ⟨rfl, by simpa using r3, k1, k, by simpa using h1, by simpa using hr, rfl⟩))
 ·rw [Nat.add_assoc, ← List.drop_drop] at hr
  exact .inr (.inr (.inr ⟨rfl, k1, k2, k, by simpa using h1, by simpa using h2, by simpa using hr, rfl⟩))
 ·omega
theorem num_done {b : List UInt8} {at_ a : Nat} {y1 y2 y3 : Int} (h : Num3 b at_ 3 a y1 y2 y3) : ∃ k, run3 (b.drop at_) = ((y1.toNat, y2.toNat, y3.toNat), k, 0) ∧ a = at_ + k := by
 rcases h with ⟨h, -⟩ | ⟨h, -⟩ | ⟨h, -⟩ | ⟨-, k1, k2, k3, h1, h2, h3, h4⟩
 ·omega
 ·omega
 ·omega
 ·exact ⟨k1 + k2 + k3, run3_ok h1 h2 h3, by omega⟩
theorem oneC (w : World) (c : Cl) : CS (w.alloc (.cells #[.int .i32 c.r, .int .u16 (c.a : Int), .int .u8 (c.h : Int)] 65)) (w.heap.size + 1) (.slice (some ⟨w.heap.size, 0, none⟩) 1 1) [c] := by
 have hk : (w.alloc (.cells #[.int .i32 c.r, .int .u16 (c.a : Int), .int .u8 (c.h : Int)] 65)).heap[w.heap.size]? = some (.cells #[.int .i32 c.r, .int .u16 (c.a : Int), .int .u8 (c.h : Int)] 65) := by
  show (w.heap.push _)[w.heap.size]? = _
  simp
 refine ⟨_, 1, rfl, by simp, by simp [maxLen], fun _ => ⟨_, rfl, by simp, fun j x hj => ?_⟩⟩
 match j, hj with
 | 0, hj =>
  simp at hj
  subst hj
  exact ⟨(cell3 hk 0 rfl).1, (cell3 hk 1 rfl).1, (cell3 hk 2 rfl).1⟩
structure Fr (B : Nat → Prop) (w w' : World) : Prop where
 os : w'.os = w.os
 tape : w'.tape = w.tape
 output : w'.output = w.output
 size : w.heap.size ≤ w'.heap.size
 block : ∀ k, k < w.heap.size → ¬ B k → w'.heap[k]? = w.heap[k]?
section
variable {B B1 : Nat → Prop} {w w1 w2 : World}
theorem Fr.refl (B : Nat → Prop) (w : World) : Fr B w w := ⟨rfl, rfl, rfl, Nat.le_refl _, fun _ _ _ => rfl⟩
theorem Fr.of (h : Below w.heap.size w w1) (B : Nat → Prop) : Fr B w w1 := ⟨h.os, h.tape, h.output, h.size, fun k hk _ => h.block k hk⟩
theorem Fr.below {n : Nat} (h : Fr B w w1) (hB : ∀ x, B x → n ≤ x) (hn : n ≤ w.heap.size) : Below n w w1 := ⟨h.os, h.tape, h.output, h.size, fun k hk => h.block k (by omega) (fun hb => by have := hB k hb; omega)⟩
theorem Fr.trans (h : Fr B w w1) (h2 : Fr B1 w1 w2) (hB : ∀ x, B1 x → B x ∨ w.heap.size ≤ x) : Fr B w w2 :=
 ⟨h2.os.trans h.os, h2.tape.trans h.tape, h2.output.trans h.output, Nat.le_trans h.size h2.size, fun k hk hn =>
  (h2.block k (Nat.lt_of_lt_of_le hk h.size) (fun hb => (hB k hb).elim hn (fun h => by omega))).trans (h.block k hk hn)⟩
theorem Fr.drew (h : Fr B w w1) : Fr B w w1.drew := ⟨h.os, h.tape, h.output, h.size, h.block⟩
theorem Fr.setCell (h : Fr B w w1) {p : Addr} (hp : B p.block ∨ w.heap.size ≤ p.block) (u : Value) : Fr B w (w1.setCell p u) :=
 ⟨h.os, h.tape, h.output, by have := h.size; simp; omega, fun k hk hn => (Below.heap_setCell _ _ _ _ (fun e => hp.elim (fun hb => hn (by rw [e]; exact hb)) (fun hh => by omega))).trans (h.block k hk hn)⟩
end
theorem own_keep {w w' : World} {base size n : Nat} {e : TypeId} {v : Value} {xs : List Value} (h : w.ownsRow base e size v n xs) (hk : ∀ g, v.ownBlock = some g → w'.heap[g]? = w.heap[g]?) : w'.ownsRow base e size v n xs := by
 refine ⟨h.1, ?_⟩
 rcases h.2 with hn | ⟨g, cap, cur, rfl, hb, hgg, rest⟩
 ·exact .inl hn
 ·exact .inr ⟨g, cap, cur, rfl, hb, (hk g rfl).trans hgg, rest⟩
section
variable {w w' : World} {base : Nat} {B : Nat → Prop} {vp vi vu av : Value} {ps : List Int} {is us : List UInt8} {l : List Ac}
end
def RD (w : World) (g : Nat) (q : Rd) : Prop := ∃ A c, w.heap[g]? = some (.cells #[.slice A q.1.length c, .bool q.2] 71) ∧ BS w g (.slice A q.1.length c) q.1
def FrG (g : Nat) (w w' : World) : Prop := Fr (fun x => x = g) w w'
theorem FrG.trans {g : Nat} {w w1 w2 : World} (h : FrG g w w1) (h2 : FrG g w1 w2) : FrG g w w2 := Fr.trans h h2 (fun x hx => .inl hx)
theorem FrG.refl (g : Nat) (w : World) : FrG g w w := Fr.refl _ w
theorem FrG.below {g : Nat} {w w' : World} (h : FrG g w w') (hg : g ≤ w.heap.size) : Below g w w' := Fr.below h (fun x hx => by omega) hg
theorem FrG.alloc {g : Nat} {w w1 w2 : World} (hb : Below w.heap.size w w1) (h : FrG g w1 w2) : FrG g w w2 := Fr.trans (Fr.of hb _) h (fun x hx => .inl hx)
theorem RD.lt {w : World} {g : Nat} {q : Rd} (h : RD w g q) : g < w.heap.size := by
 obtain ⟨A, c, h1, -⟩ := h
 rcases Nat.lt_or_ge g w.heap.size with h | h
 ·exact h
 ·rw [Array.getElem?_eq_none h] at h1; cases h1
theorem RD.keep {w w' : World} {g : Nat} {q : Rd} (h : RD w g q) (hb : Below w.heap.size w w') : RD w' g q := by
 have hl := h.lt
 obtain ⟨A, c, h1, h2⟩ := h
 exact ⟨A, c, (hb.block g hl).trans h1, h2.keep (fun p hp => hb.cell (by omega))⟩
theorem RD.set {w : World} {g : Nat} {q : Rd} (h : RD w g q) {p : Addr} (hp : g < p.block) (u : Value) : RD (w.setCell p u) g q := by
 obtain ⟨A, c, h1, h2⟩ := h
 exact ⟨A, c, (Below.heap_setCell _ _ _ _ (by omega)).trans h1, h2.below ((Below.refl g w).setCell (by omega) _)⟩
def NumPost (g : Nat) (n : Int) (q : Rd) (w : World) (e : Ending) (w' : World) : Prop := e = .returned (.int .i64 n) ∧ RD w' g q ∧ FrG g w w'
theorem fail_any (g : Nat) (q : Rd) (w : World) (h : RD w g q) : Calls Tryz.prog 91 #[.pointer (some ⟨g, 0, none⟩)] w fun e w' => e = .returned (.tuple #[]) ∧ RD w' g ([], true) ∧ FrG g w w' := by
 obtain ⟨A, c, hg, hq⟩ := h
 obtain ⟨d0, i0⟩ := cellR (v := .slice A q.1.length c) hg 0 rfl
 obtain ⟨d1, i1⟩ := cellR (v := .bool q.2) hg 1 rfl
 have HG := Lh hg
 clear hg hq
 go_enter Tryz.func91, Tryz.ntmps91
 go_wp2
 go_end0
 refine ⟨rfl, ⟨none, 0, ?_, BS.nil _ _⟩, ?_⟩
 ·exact (heap_setCell_same _ _ 1 _ _ _ ((heap_setCell_same _ _ 0 _ _ _ HG.out).trans rfl)).trans rfl
 ·exact ((FrG.refl g w).setCell (.inl rfl) _).setCell (.inl rfl) _
theorem numR_yes {most : Nat} {l : List UInt8} {f : Bool} {x : Int} {k : Nat} (hr : readL l = (x.toNat, k, 0)) (hx : 0 ≤ x) (h : x ≤ (most : Int)) : numR most (l, f) = (x.toNat, l.drop k, f) := by
 unfold numR
 simp only [hr]
 rw [if_pos ⟨trivial, by omega⟩]
theorem numR_no {most : Nat} {l : List UInt8} {f : Bool} {x : Int} {k er : Nat} (hr : readL l = (x.toNat, k, er)) (hx : 0 ≤ x) (h : er ≠ 0 ∨ (most : Int) < x) : numR most (l, f) = (0, [], true) := by
 unfold numR
 simp only [hr]
 rw [if_neg (by omega)]
theorem number_any (g most : Nat) (q : Rd) (w : World) (h : RD w g q) (hl : q.1.length ≤ 1048576) (hm : most ≤ 9223372036854775807) : Calls Tryz.prog 60 #[.pointer (some ⟨g, 0, none⟩), .int .u64 (most : Int)] w (NumPost g ((numR most q).1 : Int) (numR most q).2 w) := by
 obtain ⟨l, fl⟩ := q
 have H := Lh h
 obtain ⟨A, c, hg, hq⟩ := h
 simp only at hl hg hq
 obtain ⟨x, k, er, hr, hx0, hx1, hk, her⟩ := readL_ex6 l
 have hcl : l.length ≤ c ∧ c ≤ 9223372036854775807 := by
  obtain ⟨A', c', hv, h1, h2, -⟩ := hq
  simp only [Value.slice.injEq] at hv
  obtain ⟨rfl, -, rfl⟩ := hv
  exact ⟨h1, h2⟩
 obtain ⟨c1, c2⟩ := hcl
 have HRD : Hid (Calls Tryz.prog 90 #[.slice A l.length c] w fun e w' => e = .returned (.tuple #[.int .u64 x, .int .i64 (k : Int), .int .i64 (er : Int)]) ∧ w = w') := by
  refine (read_any (.slice A l.length c) l g w hq (by omega)).mono ?_
  rintro e w' ⟨he, hw⟩
  refine ⟨?_, hw⟩
  rw [he, hr]
  unfold tup
  rw [Int.toNat_of_nonneg hx0]
 obtain ⟨d0, i0⟩ := cellR (v := .slice A l.length c) hg 0 rfl
 have HG := Lh hg
 have HQ := Lh hq
 have HR := Lh hr
 clear hg hq hr
 by_cases hok : er = 0 ∧ x ≤ (most : Int)
 ·obtain ⟨rfl, hxm⟩ := hok
  rw [numR_yes HR.out hx0 hxm]
  have hnat : ((x.toNat : Nat) : Int) = x := Int.toNat_of_nonneg hx0
  rw [hnat]
  obtain ⟨A4, hif⟩ : ∃ A4, (if c = k then A else Option.map (fun x => x.add k) A) = A4 := ⟨_, rfl⟩
  have hq2 : BS w g (.slice A4 (l.length - k) (c - k)) (l.drop k) := by
   have h1 := HQ.out.cut k (l.length - k) (l.length - k) (by omega) rfl
   rw [hif, List.take_of_length_le (by simp)] at h1
   exact h1
  have HQ2 := Lh hq2
  have x7 : x ≤ 9223372036854775807 := by omega
  clear hq2 hnat hx1
  go_enter Tryz.func60, Tryz.ntmps60
  go_wp2_with (go_at_call 90; refine HRD.out.mono ?_; rintro e w1 ⟨rfl, rfl⟩)
  go_ret
  refine ⟨rfl, ⟨A4, c - k, ?_, ?_⟩, (FrG.refl g w).setCell (.inl rfl) _⟩
  ·rw [List.length_drop]; exact (heap_setCell_same _ _ 0 _ _ _ HG.out).trans rfl
  ·rw [List.length_drop]; exact HQ2.out.below ((Below.refl g w).setCell (by simp) _)
 ·have hno : er ≠ 0 ∨ (most : Int) < x := by omega
  rw [numR_no HR.out hx0 hno]
  by_cases he : er = 0
  ·subst he
   have hlt : (most : Int) < x := by omega
   clear hok hno
   go_enter Tryz.func60, Tryz.ntmps60
   go_wp2_with first
    | (go_at_call 90; refine HRD.out.mono ?_; rintro e w1 ⟨rfl, rfl⟩)
    | (go_at_call 91; refine (fail_any g (l, fl) _ H.out).mono ?_; rintro e w1 ⟨rfl, hp⟩)
   go_ret
   exact ⟨rfl, hp⟩
  ·have hne : ((er : Int) != 0) = true := by simp; omega
   clear hok hno
   go_enter Tryz.func60, Tryz.ntmps60
   go_wp2_with first
    | (go_at_call 90; refine HRD.out.mono ?_; rintro e w1 ⟨rfl, rfl⟩)
    | (go_at_call 91; refine (fail_any g (l, fl) _ H.out).mono ?_; rintro e w1 ⟨rfl, hp⟩)
   go_ret
   exact ⟨rfl, hp⟩
theorem place_any (g : Nat) (q : Rd) (w : World) (h : RD w g q) (hl : q.1.length ≤ 1048576) : Calls Tryz.prog 59 #[.pointer (some ⟨g, 0, none⟩)] w fun e w' => e = .returned (.tuple #[.int .i64 ((numR 1000 q).1 : Int), .int .i64 ((numR 1000 (numR 1000 q).2).1 : Int)]) ∧ RD w' g (numR 1000 (numR 1000 q).2).2 ∧ FrG g w w' := by
 have H1 := Lh (number_any g 1000 q w h hl (by omega))
 have H2 : Hid (∀ W, RD W g (numR 1000 q).2 → Calls Tryz.prog 60 #[.pointer (some ⟨g, 0, none⟩), .int .u64 1000] W (NumPost g ((numR 1000 (numR 1000 q).2).1 : Int) (numR 1000 (numR 1000 q).2).2 W)) := fun W hW => number_any g 1000 _ W hW (Nat.le_trans (numR_rest 1000 q) hl) (by omega)
 generalize numR 1000 (numR 1000 q).2 = b at *
 generalize numR 1000 q = a at *
 clear h
 go_enter Tryz.func59, Tryz.ntmps59
 go_wp2_with fail
 refine H1.out.mono ?_
 rintro e w1 ⟨rfl, r1, f1⟩
 go_wp2_with fail
 refine (H2.out _ r1).mono ?_
 rintro e w2 ⟨rfl, r2, f2⟩
 go_wp2
 go_ret2
 exact ⟨rfl, r2, f1.trans f2⟩
theorem rrune_any (r : Int) (h0 : -2147483648 ≤ r) (h1 : r ≤ 2147483647) (w : World) : Calls Tryz.prog 113 #[.int .i32 r] w fun e w' => e = .returned (.bool (mayR r)) ∧ w = w' := by
 by_cases a1 : 0 ≤ r
 ·by_cases a2 : r ≤ 1114111
  ·by_cases a3 : r < 55296
   ·rw [mayR_true a1 a2 (.inl a3)]
    go_enter Tryz.func113, Tryz.ntmps113
    go_wp2
    go_ret
    exact ⟨rfl, rfl⟩
   ·have d3 : decide (r < 55296) = false := by simp; omega
    by_cases a4 : 57343 < r
    ·rw [mayR_true a1 a2 (.inr a4)]
     go_enter Tryz.func113, Tryz.ntmps113
     go_wp2
     go_ret
     exact ⟨rfl, rfl⟩
    ·have d4 : decide (57343 < r) = false := by simp; omega
     rw [mayR_false (.inr (.inr ⟨by omega, by omega⟩))]
     go_enter Tryz.func113, Tryz.ntmps113
     go_wp2
     go_ret
     exact ⟨rfl, rfl⟩
  ·have d2 : decide (r ≤ 1114111) = false := by simp; omega
   rw [mayR_false (.inr (.inl (by omega)))]
   go_enter Tryz.func113, Tryz.ntmps113
   go_wp2
   go_ret
   exact ⟨rfl, rfl⟩
 ·have d1 : decide (0 ≤ r) = false := by simp; omega
  rw [mayR_false (.inl (by omega))]
  go_enter Tryz.func113, Tryz.ntmps113
  go_wp2
  go_ret
  exact ⟨rfl, rfl⟩
theorem rattr_any (a : Nat) (w : World) : Calls Tryz.prog 114 #[.int .u16 (a : Int)] w fun e w' => e = .returned (.bool (attrB a)) ∧ w = w' := by
 by_cases ha : a < 4096
 ·have hai : (a : Int) < 4096 := by omega
  have h8 := eq_of_beq (andU andT8 a ha)
  have h4 := eq_of_beq (andU andT4 a ha)
  have h2 := eq_of_beq (andU andT2 a ha)
  by_cases b1 : a / 8 % 2 = 0
  ·rw [show (a / 8 % 2 * 8 : Nat) = 0 by omega] at h8
   by_cases b2 : a / 16 % 16 ≤ 8
   ·have b2' : decide (((a / 16 % 16 : Nat) : Int) ≤ 8) = true := by simp; omega
    by_cases b3 : a / 256 % 16 ≤ 8
    ·have b3' : decide (((a / 256 % 16 : Nat) : Int) ≤ 8) = true := by simp; omega
     rw [show attrB a = true by simp [attrB, ha, b1, b2, b3]]
     generalize ((a / 16 % 16 : Nat) : Int) = x4 at *
     generalize ((a / 256 % 16 : Nat) : Int) = x2 at *
     clear b1 b2 b3
     go_enter Tryz.func114, Tryz.ntmps114
     go_wp2
     go_ret
     exact ⟨rfl, rfl⟩
    ·have b3' : decide (((a / 256 % 16 : Nat) : Int) ≤ 8) = false := by simp; omega
     rw [show attrB a = false by simp [attrB]; omega]
     generalize ((a / 16 % 16 : Nat) : Int) = x4 at *
     generalize ((a / 256 % 16 : Nat) : Int) = x2 at *
     clear b1 b2 b3
     go_enter Tryz.func114, Tryz.ntmps114
     go_wp2
     go_ret
     exact ⟨rfl, rfl⟩
   ·have b2' : decide (((a / 16 % 16 : Nat) : Int) ≤ 8) = false := by simp; omega
    rw [show attrB a = false by simp [attrB]; omega]
    generalize ((a / 16 % 16 : Nat) : Int) = x4 at *
    clear b1 b2
    go_enter Tryz.func114, Tryz.ntmps114
    go_wp2
    go_ret
    exact ⟨rfl, rfl⟩
  ·rw [show (a / 8 % 2 * 8 : Nat) = 8 by omega] at h8
   rw [show attrB a = false by simp [attrB]; omega]
   clear b1
   go_enter Tryz.func114, Tryz.ntmps114
   go_wp2
   go_ret
   exact ⟨rfl, rfl⟩
 ·have hai : decide ((a : Int) < 4096) = false := by simp; omega
  rw [show attrB a = false by simp [attrB, ha]]
  go_enter Tryz.func114, Tryz.ntmps114
  go_wp2
  go_ret
  exact ⟨rfl, rfl⟩
theorem right_fit (c : Cl) (r0 : -2147483648 ≤ c.r) (r1 : c.r ≤ 2147483647) (hh : c.h < 256) (w : World) : Calls Tryz.prog 79 #[aC c] w fun e w' => e = .returned (.bool (cellB c)) ∧ Below w.heap.size w w' := by
 unfold aC
 have hr (w : World) := rrune_any c.r r0 r1 w
 have ht (w : World) := rattr_any c.a w
 cases hm : mayR c.r with
 | false =>
  rw [show cellB c = false by simp [cellB, hm]]
  rw [hm] at hr
  go_enter Tryz.func79, Tryz.ntmps79
  go_wp2_with (first | (go_at_call 113; refine (hr _).mono ?_; rintro e w' ⟨rfl, rfl⟩))
  go_ret
  exact ⟨rfl, (Below.refl _ _).alloc (Nat.le_refl _) _⟩
 | true =>
  rw [hm] at hr
  cases ht2 : attrB c.a with
  | false =>
   rw [show cellB c = false by simp [cellB, hm, ht2]]
   rw [ht2] at ht
   go_enter Tryz.func79, Tryz.ntmps79
   go_wp2_with (first | (go_at_call 113; refine (hr _).mono ?_; rintro e w' ⟨rfl, rfl⟩) | (go_at_call 114; refine (ht _).mono ?_; rintro e w' ⟨rfl, rfl⟩))
   go_ret
   exact ⟨rfl, (Below.refl _ _).alloc (Nat.le_refl _) _⟩
  | true =>
   rw [ht2] at ht
   have hX : cellB c = (decide (c.h ≤ 2) && (decide (c.r = 0) == decide (c.h = 2))) := by simp [cellB, hm, ht2]
   rw [hX]
   clear hX
   go_enter Tryz.func79, Tryz.ntmps79
   go_wp2_with (first | (go_at_call 113; refine (hr _).mono ?_; rintro e w' ⟨rfl, rfl⟩) | (go_at_call 114; refine (ht _).mono ?_; rintro e w' ⟨rfl, rfl⟩))
   all_goals
    go_ret
    refine ⟨congrArg (fun b => Ending.returned (.bool b)) ?_, (Below.refl _ _).alloc (Nat.le_refl _) _⟩
    rw [Bool.eq_iff_iff]
    simp
    first | omega | (rw [Bool.eq_iff_iff, beq_iff_eq, beq_iff_eq]; omega)
theorem right_any (c : Cl) (hc : FitC c) (w : World) : Calls Tryz.prog 79 #[aC c] w fun e w' => e = .returned (.bool (cellB c)) ∧ Below w.heap.size w w' := right_fit c hc.1 hc.2.1 hc.2.2.2 w
theorem bcell6 {W w1 : World} (hb : Below W.heap.size W w1) : (∀ b o, b < W.heap.size → w1.cell? ⟨b, o, none⟩ = W.cell? ⟨b, o, none⟩) ∧ (∀ b o, b < W.heap.size → w1.frozen? ⟨b, o, none⟩ = W.frozen? ⟨b, o, none⟩) :=
 ⟨fun b o h => hb.cell (p := ⟨b, o, none⟩) h, fun b o h => hb.frozen (p := ⟨b, o, none⟩) h⟩
theorem setcell_at {w : World} {g i : Nat} {xs : Array Value} {t : TypeId} (h : w.heap[g]? = some (.cells xs t)) (hi : i < xs.size) (x : Value) : (w.setCell ⟨g, i, none⟩ x).cell? ⟨g, i, none⟩ = some x ∧ ∃ ys, ys.size = xs.size ∧ (w.setCell ⟨g, i, none⟩ x).heap[g]? = some (.cells ys t) := by
 have h2 := heap_setCell_same w g i xs t x h
 refine ⟨(cell3 h2 i (by simp [hi])).1, _, ?_, h2⟩
 simp
theorem setcell_three {w : World} {g : Nat} {xs : Array Value} {t : TypeId} (h : w.heap[g]? = some (.cells xs t)) (hi : 2 < xs.size) (x y z : Value) : (w.setCell ⟨g, 0, none⟩ x).cell? ⟨g, 0, none⟩ = some x ∧ ((w.setCell ⟨g, 0, none⟩ x).setCell ⟨g, 1, none⟩ y).cell? ⟨g, 1, none⟩ = some y ∧ (((w.setCell ⟨g, 0, none⟩ x).setCell ⟨g, 1, none⟩ y).setCell ⟨g, 2, none⟩ z).cell? ⟨g, 2, none⟩ = some z := by
 obtain ⟨e0, ys, s0, h0⟩ := setcell_at h (i := 0) (by omega) x
 obtain ⟨e1, zs, s1, h1⟩ := setcell_at h0 (i := 1) (by omega) y
 obtain ⟨e2, -⟩ := setcell_at h1 (i := 2) (by omega) z
 exact ⟨e0, e1, e2⟩
theorem heap_two (w : World) (o p : Obj) : ((w.alloc o).alloc p).heap[w.heap.size]? = some o := by
 show ((w.heap.push o).push p)[w.heap.size]? = some o
 rw [Array.getElem?_push, if_neg (by simp), Array.getElem?_push, if_pos rfl]
def cofL (x y : Nat) : Cl × Bool := if 1114111 < x ∨ 16384 ≤ y then (⟨0, 0, 0⟩, false) else (cellOf x y, cellB (cellOf x y))
def CofPost (x y : Nat) (w : World) (e : Ending) (w' : World) : Prop := e = .returned (.tuple #[aC (cofL x y).1, .bool (cofL x y).2]) ∧ Below w.heap.size w w'
theorem cellOf_any (x y : Int) (x0 : 0 ≤ x) (x1 : x < 18446744073709551616) (y0 : 0 ≤ y) (y1 : y < 18446744073709551616) (w : World) : Calls Tryz.prog 136 #[.int .u64 x, .int .u64 y] w (CofPost x.toNat y.toNat w) := by
 have HBW := Lh (show Below w.heap.size w (w.alloc (.cells #[.int .i32 0, .int .u16 0, .int .u8 0] 65)) from (Below.refl _ _).alloc (Nat.le_refl _) _)
 by_cases b1 : 1114111 < x
 ·have HX := Lh (show cofL x.toNat y.toNat = (⟨0, 0, 0⟩, false) from if_pos (.inl (by omega)))
  have b1' : decide (1114111 < x) = true := by simpa using b1
  go_enter Tryz.func136, Tryz.ntmps136
  go_wp2
  exact bodyPost_ret (v := .tuple #[.agg #[.int .i32 0, .int .u16 0, .int .u8 0], .bool false]) (by simp [results, Tryz.results136, go_sem]) rfl ⟨by rw [HX.out]; rfl, HBW.out⟩
 have b1' : decide (1114111 < x) = false := by simpa using b1
 by_cases b2 : 16384 ≤ y
 ·have HX := Lh (show cofL x.toNat y.toNat = (⟨0, 0, 0⟩, false) from if_pos (.inr (by omega)))
  have b2' : decide (4096 ≤ y / 4) = true := by simp; omega
  go_enter Tryz.func136, Tryz.ntmps136
  go_wp2
  exact bodyPost_ret (v := .tuple #[.agg #[.int .i32 0, .int .u16 0, .int .u8 0], .bool false]) (by simp [results, Tryz.results136, go_sem]) rfl ⟨by rw [HX.out]; rfl, HBW.out⟩
 have b2' : decide (4096 ≤ y / 4) = false := by simp; omega
 obtain ⟨R, rfl⟩ : ∃ R : Nat, x = (R : Int) := ⟨x.toNat, by omega⟩
 obtain ⟨Z, rfl⟩ : ∃ Z : Nat, y = (Z : Int) := ⟨y.toNat, by omega⟩
 have HX := Lh (show cofL ((R : Int)).toNat ((Z : Int)).toNat = (cellOf R Z, cellB (cellOf R Z)) by rw [Int.toNat_natCast, Int.toNat_natCast]; exact if_neg (by omega))
 obtain ⟨a4, ha4⟩ : ∃ a4 : Nat, (Z : Int) / 4 = (a4 : Int) := ⟨Z / 4, by omega⟩
 obtain ⟨h4, hh4⟩ : ∃ h4 : Nat, (Z : Int) % 4 = (h4 : Int) := ⟨Z % 4, by omega⟩
 have HCO := Lh (show cellOf R Z = ⟨(R : Int), a4, h4⟩ by unfold cellOf; rw [show Z / 4 = a4 by omega, show Z % 4 = h4 by omega])
 have a4l : (a4 : Int) < 4096 := by omega
 have h4l : (h4 : Int) < 4 := by omega
 have hR : (R : Int) ≤ 1114111 := by omega
 have hcr (w : World) := right_any ⟨(R : Int), a4, h4⟩ ⟨by show (-2147483648 : Int) ≤ (R : Int); omega, by show (R : Int) ≤ 2147483647; omega, by show a4 < 65536; omega, by show h4 < 256; omega⟩ w
 unfold aC at hcr
 simp only at hcr
 have hZ : (Z : Int) < 16384 := by omega
 clear x0 x1 y0 y1 b1 b2
 go_enter Tryz.func136, Tryz.ntmps136
 go_wp2
 go_region_with ((go_at_call 79; refine (hcr _).mono ?_; rintro e wx ⟨rfl, bx⟩; obtain ⟨hcx, hfx⟩ := bcell6 bx; have HBX := Lh bx; clear bx))
 all_goals
  go_simp
  go_wp2
  have hkx : wx.heap[w.heap.size]? = some (.cells #[.int .i32 0, .int .u16 0, .int .u8 0] 65) :=
   (HBX.out.block w.heap.size (by simp; omega)).trans (heap_two w _ _)
  obtain ⟨e0, e1, e2⟩ := setcell_three hkx (by simp) (.int .i32 (R : Int)) (.int .u16 (a4 : Int)) (.int .u8 (h4 : Int))
  refine bodyPost_ret (v := .tuple #[.agg #[.int .i32 (R : Int), .int .u16 (a4 : Int), .int .u8 (h4 : Int)], .bool (cellB ⟨(R : Int), a4, h4⟩)]) (by simp [results, Tryz.results136, go_sem, e0, e1, e2]) rfl ⟨by rw [HX.out, HCO.out]; rfl, ?_⟩
  refine below_put (k := 0) ?_ (Nat.le_refl _) _ _ _
  first
   | exact (((Below.refl w.heap.size w).alloc (Nat.le_refl _) _).alloc (by simp) _).drew.trans (HBX.out.mono (by simp; omega))
   | exact (((Below.refl w.heap.size w).alloc (Nat.le_refl _) _).alloc (by simp) _).trans (HBX.out.mono (by simp; omega))
theorem OB.low6 {w : World} {b1 b2 : Nat} {v : Value} {l : List UInt8} (h : OB w b1 v l) (hb : b2 ≤ b1) : OB w b2 v l := by
 obtain ⟨a1, a2⟩ := h
 refine ⟨a1, ?_⟩
 rcases a2 with a2 | ⟨g, cap, cur, hv, hg, hr⟩
 ·exact .inl a2
 ·exact .inr ⟨g, cap, cur, hv, Nat.le_trans hb hg, hr⟩
@[reducible] def aU (n : Int) (c : Cl) : Value := .agg #[.int .u64 n, .int .i32 c.r, .int .u16 (c.a : Int), .int .u8 (c.h : Int)]
theorem threeAt0 {w : World} {ad : Addr} {c : Cl} (h : ThreeAt w (ad.add (0 * 3)) c) : w.cell? ad = some (.int .i32 c.r) ∧ w.cell? ⟨ad.block, ad.off + 1, none⟩ = some (.int .u16 (c.a : Int)) ∧ w.cell? ⟨ad.block, ad.off + 2, none⟩ = some (.int .u8 (c.h : Int)) := by
 rw [Nat.zero_mul, show ad.add 0 = ad by simp [Addr.add]] at h
 exact h
def FrRel (N : Nat) (w1 : World) (k : Value) (wr : World) : Prop := ∃ m : Nat, 1 ≤ m ∧ m ≤ N ∧ k = .int .i64 (m : Int) ∧ ∃ q, wr = w1.drewN q
def FrPost (N : Nat) (c : Cl) (w : World) (e : Ending) (w' : World) : Prop := e = .returned (aU (N : Int) c) ∧ Below w.heap.size w w'
theorem firstRun_any (v : Value) (l : List Cl) (c : Cl) (N : Nat) (w : World) (h : CS w w.heap.size v l) (hl : l.length ≤ 1048576) (hc : l[0]? = some c) (hN : sameN c l = N) : Calls Tryz.prog 84 #[v] w (FrPost N c w) := by
 have hpos : 0 < l.length := (List.getElem?_eq_some_iff.1 hc).1
 have hN1 : 1 ≤ N ∧ N ≤ l.length := by
  have := bytL_drop l 0 N c hc (by rw [List.drop_zero]; exact hN)
  omega
 obtain ⟨n1, n2⟩ := hN1
 have HC := Lh h
 obtain ⟨A, cp, rfl, g1, g2⟩ := h.form
 have HNN := Lh hN
 have HC0 := Lh hc
 clear h hN hc
 go_enter Tryz.func84, Tryz.ntmps84
 go_wp2
 have hbW : Below w.heap.size w (w.alloc (.cells #[.int .u64 0, .int .i32 0, .int .u16 0, .int .u8 0] 123)) := (Below.refl _ _).alloc (Nat.le_refl _) _
 have HBW := Lh hbW
 clear hbW
 go_loopw [3] (fun k wr => FrRel N (w.alloc (.cells #[.int .u64 0, .int .i32 0, .int .u16 0, .int .u8 0] 123)) k wr) (fun k _ => N - (intOf k).toNat)
 case atStart => exact ⟨1, Nat.le_refl _, n1, rfl, 0, rfl⟩
 case round =>
  obtain ⟨K, k1, hk, rfl, q, rfl⟩ := hrel
  obtain ⟨ad, hAd, hadb, t⟩ := (HC.out.below HBW.out).get 0 c HC0.out
  obtain ⟨t0, t1, t2⟩ := threeAt0 t
  subst hAd
  clear t
  by_cases hmN : K < N
  ·have hKl : K < l.length := by omega
   have hKc : l[K]? = some c := sameN_at c l K (by rw [HNN.out]; exact hmN)
   obtain ⟨ad3, hAd3, hadb3, s0, s1, s2⟩ := (HC.out.below HBW.out).get K c hKc
   injection hAd3 with hAd3
   subst hAd3
   have hKd : decide (K < l.length) = true := by simpa using hKl
   clear hKc
   go_wp2
   go_quiet (fail)
   go_wp2
   go_roundw
   case rel => exact ⟨K + 1, by omega, hmN, by go_num, q + nq, by first | rfl | rw [World.drewN_drewN]⟩
   case measure => simp [intOf]; omega
  ·obtain rfl : K = N := by omega
   by_cases hKl : K < l.length
   ·obtain ⟨c2, hc2⟩ : ∃ c2, l[K]? = some c2 := ⟨_, List.getElem?_eq_getElem hKl⟩
    have hne : c2 ≠ c := by
     intro e
     have h := sameN_stop c l (by rw [HNN.out]; exact hKl)
     rw [HNN.out, hc2, e] at h
     exact h rfl
    obtain ⟨ad3, hAd3, hadb3, s0, s1, s2⟩ := (HC.out.below HBW.out).get K c2 hc2
    injection hAd3 with hAd3
    subst hAd3
    have hKd : decide (K < l.length) = true := by simpa using hKl
    have hk3 : ((c2.r == c.r) = false) ∨ (c2.r = c.r ∧ ((c2.a : Int) == (c.a : Int)) = false) ∨ (c2.r = c.r ∧ c2.a = c.a ∧ ((c2.h : Int) == (c.h : Int)) = false) := by
     by_cases e1 : c2.r = c.r
     ·by_cases e2 : c2.a = c.a
      ·refine .inr (.inr ⟨e1, e2, bF fun e => hne ?_⟩)
       cases c2
       cases c
       simp only at e1 e2 e
       rw [e1, e2]
       congr 1
       omega
      ·exact .inr (.inl ⟨e1, bF (by omega)⟩)
     ·exact .inl (bF e1)
    clear hc2 hne
    rcases hk3 with hbq | ⟨hrq, hbq⟩ | ⟨hrq, haq, hbq⟩
    all_goals
     try rw [hrq] at s0
     try rw [haq] at s1
     try clear hrq
     try clear haq
     go_wp2
     go_quiet (fail)
     go_wp2
     exact bodyPost_ret (v := aU (K : Int) c) (by simp [results, Tryz.results84, go_sem]) rfl ⟨rfl, ((((below_drewP HBW.out (q + nq)).setCell (p := ⟨w.heap.size, 0, none⟩) (Nat.le_refl _) _).setCell (p := ⟨w.heap.size, 1, none⟩) (Nat.le_refl _) _).setCell (p := ⟨w.heap.size, 2, none⟩) (Nat.le_refl _) _).setCell (p := ⟨w.heap.size, 3, none⟩) (Nat.le_refl _) _⟩
   ·have hKd : decide (K < l.length) = false := by simpa using hKl
    go_wp2
    go_quiet (fail)
    go_wp2
    exact bodyPost_ret (v := aU (K : Int) c) (by simp [results, Tryz.results84, go_sem]) rfl ⟨rfl, ((((below_drewP HBW.out (q + nq)).setCell (p := ⟨w.heap.size, 0, none⟩) (Nat.le_refl _) _).setCell (p := ⟨w.heap.size, 1, none⟩) (Nat.le_refl _) _).setCell (p := ⟨w.heap.size, 2, none⟩) (Nat.le_refl _) _).setCell (p := ⟨w.heap.size, 3, none⟩) (Nat.le_refl _) _⟩
def PuPost (N : Nat) (c : Cl) (w : World) (e : Ending) (w' : World) : Prop := ∃ u, e = .returned u ∧ OB w' w.heap.size u (runB N c) ∧ Below w.heap.size w w'
theorem putRun_any (N : Nat) (c : Cl) (w : World) (hN : N ≤ 1048576) (hc : cellB c = true) : Calls Tryz.prog 85 #[aU (N : Int) c] w (PuPost N c w) := by
 obtain ⟨r0, r1, a1, h1⟩ := cellB_bd hc
 have l1 := (lebP_length N).2
 have l2 := (lebP_length c.r.toNat).2
 have l3 := (lebP_length (4 * c.a + c.h)).2
 have ai : (c.a : Int) < 4096 := by omega
 have hi : (c.h : Int) ≤ 2 := by omega
 have Ni : (N : Int) ≤ 1048576 := by omega
 clear hc
 have HBW := Lh (show Below w.heap.size w (w.alloc (.cells #[.int .u64 (N : Int), .int .i32 c.r, .int .u16 (c.a : Int), .int .u8 (c.h : Int)] 123)) from (Below.refl _ _).alloc (Nat.le_refl _) _)
 have HKW := Lh (show (w.alloc (.cells #[.int .u64 (N : Int), .int .i32 c.r, .int .u16 (c.a : Int), .int .u8 (c.h : Int)] 123)).heap[w.heap.size]? = some (.cells #[.int .u64 (N : Int), .int .i32 c.r, .int .u16 (c.a : Int), .int .u8 (c.h : Int)] 123) by
  show (w.heap.push _)[w.heap.size]? = _
  simp)
 have HZW := Lh (show (w.alloc (.cells #[.int .u64 (N : Int), .int .i32 c.r, .int .u16 (c.a : Int), .int .u8 (c.h : Int)] 123)).heap.size = w.heap.size + 1 by simp)
 go_enter Tryz.func85, Tryz.ntmps85
 go_wp2_with fail
 refine (put_any (N : Int) (by omega) (by omega) _).mono ?_
 rintro e wa ⟨va, rfl, oa, ba⟩
 rw [show ((N : Int)).toNat = N by omega] at oa
 have HKA := Lh ((ba.block w.heap.size (by rw [HZW.out]; omega)).trans HKW.out)
 have HBA := Lh (HBW.out.trans (ba.mono HBW.out.size))
 rw [HZW.out] at oa ba
 have z1 : w.heap.size + 1 ≤ wa.heap.size := by have := ba.size; rw [HZW.out] at this; exact this
 have HOA := Lh oa
 clear oa ba
 obtain ⟨c1, -⟩ := cell3 HKA.out 1 rfl
 go_wp2_with fail
 refine (put_any c.r (by omega) (by omega) _).mono ?_
 rintro e wb ⟨vb, rfl, ob, bb⟩
 have HKB := Lh ((bb.block w.heap.size (by omega)).trans HKA.out)
 have HBB := Lh (HBA.out.trans (bb.mono (by omega)))
 have hoa := HOA.out.below bb
 have hob := ob.bs
 have z2 : w.heap.size + 1 ≤ wb.heap.size := Nat.le_trans z1 bb.size
 clear c1 ob bb
 go_wp2_with (at_builtin; refine wpl_app _ rfl (.tmp 7) (.tmp 12) rfl (w.heap.size + 1) _ _ _ (lebP N) (lebP c.r.toNat) rfl rfl hoa hob (by omega) z2 ?_; intro vd wd od gd bd _; have HKD := Lh ((bd.block w.heap.size (by omega)).trans HKB.out); have HBD := Lh (HBB.out.trans (bd.mono (by omega))); have HOD := Lh od; have z3 : w.heap.size + 1 ≤ wd.heap.size := Nat.le_trans z2 bd.size; clear od gd bd hoa hob; obtain ⟨c2, -⟩ := cell3 HKD.out 2 rfl; obtain ⟨c3, -⟩ := cell3 HKD.out 3 rfl)
 refine (put_any (4 * (c.a : Int) + (c.h : Int)) (by omega) (by omega) _).mono ?_
 rintro e we ⟨ve, rfl, oe, be⟩
 rw [show (4 * (c.a : Int) + (c.h : Int)).toNat = 4 * c.a + c.h by omega] at oe
 have HBE := Lh (HBD.out.trans (be.mono (by omega)))
 have hod := HOD.out.below be
 have hoe := oe.bs
 have z4 : w.heap.size + 1 ≤ we.heap.size := Nat.le_trans z3 be.size
 clear c2 c3 oe be
 go_wp2_with (at_builtin; refine wpl_app _ rfl (.tmp 14) (.tmp 25) rfl (w.heap.size + 1) _ _ _ (lebP N ++ lebP c.r.toNat) (lebP (4 * c.a + c.h)) rfl rfl hod hoe (by simp only [List.length_append]; omega) z4 ?_; intro vf wf off gf bf _)
 go_ret
 exact ⟨vf, rfl, by unfold runB; rw [← List.append_assoc]; exact off.low6 (Nat.le_succ _), HBE.out.trans (bf.mono (Nat.le_succ _))⟩
theorem readp_at6 {v : Value} {l : List UInt8} {B : Nat} {w : World} (h : BS w B v l) (hl : l.length ≤ 1099511627776) {x : Int} {k er : Nat} (hx : 0 ≤ x) (hr : readL l = (x.toNat, k, er)) :
  Calls Tryz.prog 90 #[v] w fun e w' => e = .returned (.tuple #[.int .u64 x, .int .i64 (k : Int), .int .i64 (er : Int)]) ∧ w = w' := by
 refine (read_any v l B w h hl).mono ?_
 rintro e w' ⟨rfl, rfl⟩
 refine ⟨?_, rfl⟩
 rw [hr, tup]
 simp
 omega
theorem heap_one (w : World) (o : Obj) : (w.alloc o).heap[w.heap.size]? = some o := by
 show (w.heap.push o)[w.heap.size]? = some o
 simp
theorem setcell_four {w : World} {g : Nat} {xs : Array Value} {t : TypeId} (h : w.heap[g]? = some (.cells xs t)) (hi : 3 < xs.size) (x y z u : Value) : (w.setCell ⟨g, 0, none⟩ x).cell? ⟨g, 0, none⟩ = some x ∧ ((w.setCell ⟨g, 0, none⟩ x).setCell ⟨g, 1, none⟩ y).cell? ⟨g, 1, none⟩ = some y ∧ (((w.setCell ⟨g, 0, none⟩ x).setCell ⟨g, 1, none⟩ y).setCell ⟨g, 2, none⟩ z).cell? ⟨g, 2, none⟩ = some z ∧ ((((w.setCell ⟨g, 0, none⟩ x).setCell ⟨g, 1, none⟩ y).setCell ⟨g, 2, none⟩ z).setCell ⟨g, 3, none⟩ u).cell? ⟨g, 3, none⟩ = some u := by
 obtain ⟨e0, ys, s0, h0⟩ := setcell_at h (i := 0) (by omega) x
 obtain ⟨e1, zs, s1, h1⟩ := setcell_at h0 (i := 1) (by omega) y
 obtain ⟨e2, us, s2, h2⟩ := setcell_at h1 (i := 2) (by omega) z
 obtain ⟨e3, -⟩ := setcell_at h2 (i := 3) (by omega) u
 exact ⟨e0, e1, e2, e3⟩
theorem below_put4 {B : Nat} {w w' : World} (h : Below B w w') {g : Nat} (hg : B ≤ g) (x y z u : Value) : Below B w ((((w'.setCell ⟨g, 0, none⟩ x).setCell ⟨g, 1, none⟩ y).setCell ⟨g, 2, none⟩ z).setCell ⟨g, 3, none⟩ u) :=
 (((h.setCell (p := ⟨g, 0, none⟩) hg x).setCell (p := ⟨g, 1, none⟩) hg y).setCell (p := ⟨g, 2, none⟩) hg z).setCell (p := ⟨g, 3, none⟩) hg u
def rrL (b : List UInt8) (left : Nat) : (Nat × Cl) × Nat × Nat :=
 if (run3 b).2.2 ≠ 0 then ((0, ⟨0, 0, 0⟩), 0, (run3 b).2.2)
 else if (run3 b).1.1 = 0 ∨ left < (run3 b).1.1 ∨ (cofL (run3 b).1.2.1 (run3 b).1.2.2).2 = false then ((0, ⟨0, 0, 0⟩), 0, 21)
 else (((run3 b).1.1, (cofL (run3 b).1.2.1 (run3 b).1.2.2).1), (run3 b).2.1, 0)
theorem rrL_err {b : List UInt8} {left k e : Nat} {x : Nat × Nat × Nat} (hr : run3 b = (x, k, e)) (he : e ≠ 0) : rrL b left = ((0, ⟨0, 0, 0⟩), 0, e) := by
 unfold rrL; rw [hr]; exact if_pos he
theorem rrL_bad {b : List UInt8} {left k v1 v2 v3 : Nat} (hr : run3 b = ((v1, v2, v3), k, 0)) (h : v1 = 0 ∨ left < v1 ∨ (cofL v2 v3).2 = false) : rrL b left = ((0, ⟨0, 0, 0⟩), 0, 21) := by
 unfold rrL; rw [hr]; simp only [ne_eq, not_true_eq_false, if_false]; rw [if_pos h]
theorem rrL_ok {b : List UInt8} {left k v1 v2 v3 : Nat} (hr : run3 b = ((v1, v2, v3), k, 0)) (h : ¬ (v1 = 0 ∨ left < v1 ∨ (cofL v2 v3).2 = false)) : rrL b left = ((v1, (cofL v2 v3).1), k, 0) := by
 unfold rrL; rw [hr]; simp only [ne_eq, not_true_eq_false, if_false]; rw [if_neg h]
def RrPost (b : List UInt8) (left : Nat) (w : World) (e : Ending) (w' : World) : Prop :=
 e = .returned (.tuple #[aU ((rrL b left).1.1 : Int) (rrL b left).1.2, .int .i64 ((rrL b left).2.1 : Int), .int .i64 ((rrL b left).2.2 : Int)]) ∧ Below w.heap.size w w'
theorem readRun_any (v : Value) (b : List UInt8) (left : Int) (w : World) (B : Nat) (hB : B ≤ w.heap.size) (h : BS w B v b) (hl : b.length ≤ 1048576) (l0 : 0 ≤ left) (l1 : left < 18446744073709551616) : Calls Tryz.prog 133 #[v, .int .u64 left] w (RrPost b left.toNat w) := by
 have HB := Lh (h.more hB)
 obtain ⟨A, cp, rfl, g1, g2, -⟩ := h.at_
 unfold maxLen at g2
 clear h
 obtain ⟨w5, hw5⟩ : ∃ w5, w.alloc (.cells #[.int .u64 0, .int .i32 0, .int .u16 0, .int .u8 0] 123) = w5 := ⟨_, rfl⟩
 have hz5 : w5.heap.size = w.heap.size + 1 := by rw [← hw5]; simp
 have hk5 : w5.heap[w.heap.size]? = some (.cells #[.int .u64 0, .int .i32 0, .int .u16 0, .int .u8 0] 123) := by
  rw [← hw5]
  show (w.heap.push _)[w.heap.size]? = _
  simp
 have hb5 : Below w.heap.size w w5 := by rw [← hw5]; exact (Below.refl _ _).alloc (Nat.le_refl _) _
 have HW5 := Lh hw5
 have HZ5 := Lh hz5
 have HK5 := Lh hk5
 have HB5 := Lh hb5
 clear hw5 hz5 hk5 hb5
 go_enter Tryz.func133, Tryz.ntmps133
 go_wp2
 go_loopw [8, 16] (fun av iv wr => NumRel b 0 w5 av iv wr) (fun _ iv _ => 3 - (intOf iv).toNat)
 case atStart =>
  refine ⟨0, 0, 0, 0, 0, by omega, rfl, rfl, Nat.zero_le _, by omega, by omega, by omega, by omega, by omega, by omega, .inl ⟨rfl, rfl, rfl, rfl, rfl⟩, ?_, ?_⟩
  ·rw [← HW5.out]
   exact heap_one _ _
  ·rw [← HW5.out]
   exact (Below.refl _ _).alloc (Nat.le_refl _) _
 case round =>
  obtain ⟨i, a, y1, y2, y3, hi, rfl, rfl, ha, q1, q2, q3, q4, q5, q6, hnum, kv, hb⟩ := hrel
  have HNUM := Lh hnum
  have KV := Lh kv
  have HBW := Lh hb
  have HBR := Lh (HB5.out.trans (hb.mono HB5.out.size))
  have KR := Lh ((hb.block w.heap.size (by rw [HZ5.out]; omega)).trans HK5.out)
  clear hnum kv hb
  by_cases hi3 : i < 3
  ·obtain ⟨x, k, er, hr, x0, x1, hk, her⟩ := readL_ex6 (b.drop a)
   rw [List.length_drop] at hk
   obtain ⟨A2, hif2⟩ : ∃ A2, (if cp = a then A else Option.map (fun x => x.add a) A) = A2 := ⟨_, rfl⟩
   have hc1 := (HB.out.below HBR.out).cut a (b.length - a) (b.length - a) (by omega) rfl
   rw [hif2, List.take_of_length_le (by simp)] at hc1
   have hread := readp_at6 hc1 (by simp; omega) x0 hr
   have HR := Lh hr
   have hi3' : (i : Int) < 3 := by omega
   clear hr hc1
   by_cases he : er = 0
   ·subst he
    have HNX := Lh (num_next HNUM.out hi3 HR.out)
    have hz5 := HZ5.out
    obtain ⟨c0, f0⟩ := cell3 KV.out 0 rfl
    obtain ⟨c1, f1⟩ := cell3 KV.out 1 rfl
    obtain ⟨c2, f2⟩ := cell3 KV.out 2 rfl
    rw [hz5] at c0 f0 c1 f1 c2 f2
    clear hz5
    have hi4 : i = 0 ∨ i = 1 ∨ i = 2 := by omega
    rcases hi4 with rfl | rfl | rfl
    ·go_wp2_with (first
      | (go_at_call 90; refine hread.mono ?_; rintro e w1 ⟨rfl, rfl⟩))
     go_roundw
     case rel =>
      rw [← HZ5.out]
      exact ⟨1, a + k, x, y2, y3, by omega, rfl, by go_num, by omega, x0, x1, q3, q4, q5, q6, HNX.out, by rw [heap_setCell_same _ _ 0 _ _ _ KV.out]; rfl, HBW.out.setCell (p := ⟨w5.heap.size, 0, none⟩) (Nat.le_refl _) _⟩
     case measure => simp [intOf]
    ·go_wp2_with (first
      | (go_at_call 90; refine hread.mono ?_; rintro e w1 ⟨rfl, rfl⟩))
     go_roundw
     case rel =>
      rw [← HZ5.out]
      exact ⟨2, a + k, y1, x, y3, by omega, rfl, by go_num, by omega, q1, q2, x0, x1, q5, q6, HNX.out, by rw [heap_setCell_same _ _ 1 _ _ _ KV.out]; rfl, HBW.out.setCell (p := ⟨w5.heap.size, 1, none⟩) (Nat.le_refl _) _⟩
     case measure => simp [intOf]
    ·go_wp2_with (first
      | (go_at_call 90; refine hread.mono ?_; rintro e w1 ⟨rfl, rfl⟩))
     go_roundw
     case rel =>
      rw [← HZ5.out]
      exact ⟨3, a + k, y1, y2, x, by omega, rfl, by go_num, by omega, q1, q2, q3, q4, x0, x1, HNX.out, by rw [heap_setCell_same _ _ 2 _ _ _ KV.out]; rfl, HBW.out.setCell (p := ⟨w5.heap.size, 2, none⟩) (Nat.le_refl _) _⟩
     case measure => simp [intOf]
   ·have e1 : ((er : Int) != 0) = true := by simp; omega
    have hrr := rrL_err (left := left.toNat) (num_err HNUM.out hi3 HR.out he) he
    rw [List.drop_zero] at hrr
    have HRR := Lh hrr
    obtain ⟨c0, f0⟩ := cell3 KR.out 0 rfl
    obtain ⟨c1, f1⟩ := cell3 KR.out 1 rfl
    obtain ⟨c2, f2⟩ := cell3 KR.out 2 rfl
    obtain ⟨c3, f3⟩ := cell3 KR.out 3 rfl
    clear hrr
    go_wp2_with (first
     | (go_at_call 90; refine hread.mono ?_; rintro e w1 ⟨rfl, rfl⟩))
    obtain ⟨s0, s1, s2, s3⟩ := setcell_four KR.out (by simp) (.int .u64 0) (.int .i32 0) (.int .u16 0) (.int .u8 0)
    exact bodyPost_ret (v := .tuple #[.agg #[.int .u64 0, .int .i32 0, .int .u16 0, .int .u8 0], .int .i64 0, .int .i64 (er : Int)]) (by simp [results, Tryz.results133, go_sem, s0, s1, s2, s3]) rfl ⟨by rw [HRR.out]; rfl, below_put4 HBR.out (Nat.le_refl _) _ _ _ _⟩
  ·obtain rfl : i = 3 := by omega
   generalize wr = wn at *
   obtain ⟨k, hrun, hak⟩ := num_done HNUM.out
   rw [List.drop_zero] at hrun
   rw [Nat.zero_add] at hak
   subst hak
   have HRUN := Lh hrun
   have hz5 := HZ5.out
   obtain ⟨c0, f0⟩ := cell3 KV.out 0 rfl
   obtain ⟨c1, f1⟩ := cell3 KV.out 1 rfl
   obtain ⟨c2, f2⟩ := cell3 KV.out 2 rfl
   rw [hz5] at c0 f0 c1 f1 c2 f2
   clear hz5 hrun
   have hco := cellOf_any y2 y3 q3 q4 q5 q6 wn
   obtain ⟨⟨cc, ok⟩, hcc⟩ : ∃ X, cofL y2.toNat y3.toNat = X := ⟨_, rfl⟩
   have HCC := Lh hcc
   unfold CofPost at hco
   rw [hcc] at hco
   unfold aC at hco
   simp only at hco
   clear hcc
   go_wp2_with fail
   refine hco.mono ?_
   rintro e wx ⟨rfl, bx⟩
   have hlw : w.heap.size < wn.heap.size := lt3 KR.out
   have hax : w.heap.size < wx.heap.size := Nat.lt_of_lt_of_le hlw bx.size
   have KX := Lh ((Below.heap_alloc wx (.cells #[.int .i32 cc.r, .int .u16 (cc.a : Int), .int .u8 (cc.h : Int)] 65) w.heap.size hax).trans ((bx.block w.heap.size hlw).trans KR.out))
   have HBX := Lh ((HBR.out.trans (bx.mono HBR.out.size)).alloc (HBR.out.trans (bx.mono HBR.out.size)).size (.cells #[.int .i32 cc.r, .int .u16 (cc.a : Int), .int .u8 (cc.h : Int)] 65))
   have KC := Lh (heap_one wx (.cells #[.int .i32 cc.r, .int .u16 (cc.a : Int), .int .u8 (cc.h : Int)] 65))
   clear bx c0 f0 c1 f1 c2 f2 hlw
   go_upto_region 14 with fail
   generalize World.alloc wx _ = W at KX HBX KC ⊢
   obtain ⟨d0, g0⟩ := cell3 KX.out 0 rfl
   obtain ⟨d1, g1⟩ := cell3 KX.out 1 rfl
   obtain ⟨d2, g2⟩ := cell3 KX.out 2 rfl
   obtain ⟨d3, g3⟩ := cell3 KX.out 3 rfl
   obtain ⟨m0, -⟩ := cell3 KC.out 0 rfl
   obtain ⟨m1, -⟩ := cell3 KC.out 1 rfl
   obtain ⟨m2, -⟩ := cell3 KC.out 2 rfl
   by_cases b1 : y1 = 0
   ·subst b1
    have HRR := Lh (rrL_bad (left := left.toNat) HRUN.out (.inl rfl))
    obtain ⟨s0, s1, s2, s3⟩ := setcell_four KX.out (by simp) (.int .u64 0) (.int .i32 0) (.int .u16 0) (.int .u8 0)
    have HS := Lh (And.intro s0 (And.intro s1 (And.intro s2 s3)))
    clear s0 s1 s2 s3
    go_wp2
    obtain ⟨s0, s1, s2, s3⟩ := HS.out
    exact bodyPost_ret (v := .tuple #[.agg #[.int .u64 0, .int .i32 0, .int .u16 0, .int .u8 0], .int .i64 0, .int .i64 21]) (by simp [results, Tryz.results133, go_sem, s0, s1, s2, s3]) rfl ⟨by rw [HRR.out]; rfl, below_put4 HBX.out (Nat.le_refl _) _ _ _ _⟩
   have b1' : (y1 == 0) = false := bF b1
   by_cases b2 : left < y1
   ·have b2' : decide (left < y1) = true := by simpa using b2
    have HRR := Lh (rrL_bad (left := left.toNat) HRUN.out (.inr (.inl (by omega))))
    obtain ⟨s0, s1, s2, s3⟩ := setcell_four KX.out (by simp) (.int .u64 0) (.int .i32 0) (.int .u16 0) (.int .u8 0)
    have HS := Lh (And.intro s0 (And.intro s1 (And.intro s2 s3)))
    clear s0 s1 s2 s3
    go_wp2
    obtain ⟨s0, s1, s2, s3⟩ := HS.out
    exact bodyPost_ret (v := .tuple #[.agg #[.int .u64 0, .int .i32 0, .int .u16 0, .int .u8 0], .int .i64 0, .int .i64 21]) (by simp [results, Tryz.results133, go_sem, s0, s1, s2, s3]) rfl ⟨by rw [HRR.out]; rfl, below_put4 HBX.out (Nat.le_refl _) _ _ _ _⟩
   have b2' : decide (left < y1) = false := by simpa using b2
   cases ok with
   | false =>
    have HRR := Lh (rrL_bad (left := left.toNat) HRUN.out (.inr (.inr (by rw [HCC.out]))))
    obtain ⟨s0, s1, s2, s3⟩ := setcell_four KX.out (by simp) (.int .u64 0) (.int .i32 0) (.int .u16 0) (.int .u8 0)
    have HS := Lh (And.intro s0 (And.intro s1 (And.intro s2 s3)))
    clear s0 s1 s2 s3
    go_wp2
    obtain ⟨s0, s1, s2, s3⟩ := HS.out
    exact bodyPost_ret (v := .tuple #[.agg #[.int .u64 0, .int .i32 0, .int .u16 0, .int .u8 0], .int .i64 0, .int .i64 21]) (by simp [results, Tryz.results133, go_sem, s0, s1, s2, s3]) rfl ⟨by rw [HRR.out]; rfl, below_put4 HBX.out (Nat.le_refl _) _ _ _ _⟩
   | true =>
    have hrr := rrL_ok (left := left.toNat) HRUN.out (by rw [HCC.out]; simp only [Bool.true_eq_false, or_false]; omega)
    rw [HCC.out] at hrr
    have HRR := Lh hrr
    obtain ⟨s0, s1, s2, s3⟩ := setcell_four KX.out (by simp) (.int .u64 y1) (.int .i32 cc.r) (.int .u16 (cc.a : Int)) (.int .u8 (cc.h : Int))
    have HS := Lh (And.intro s0 (And.intro s1 (And.intro s2 s3)))
    clear s0 s1 s2 s3 hrr
    go_wp2
    obtain ⟨s0, s1, s2, s3⟩ := HS.out
    exact bodyPost_ret (v := .tuple #[.agg #[.int .u64 y1, .int .i32 cc.r, .int .u16 (cc.a : Int), .int .u8 (cc.h : Int)], .int .i64 (a : Int), .int .i64 0]) (by simp [results, Tryz.results133, go_sem, s0, s1, s2, s3]) rfl ⟨by rw [HRR.out]; simp only [aU, Int.toNat_of_nonneg q1]; rfl, below_put4 HBX.out (Nat.le_refl _) _ _ _ _⟩
end Go.Proofs.YthepofkdgbcifaaGreat
