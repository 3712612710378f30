/- What is proved here: a contract of the program's function on a byte within a sequence, in each mode; contracts of the program's inner functions on bytes that may be a rune's form (how many bytes a first one asks for, which may be the second, whether bytes fit), and of Begins: memory is left alone; contracts of the program's Begins and of its inner function that tells the rune of a whole form: memory is left alone; a contract of the program's inner step (a byte behind what is pending, the runes behind those that are there): both in rows of the caller's own; contracts of the program's functions on UTF-8 Begins and Step: each answers what the document's own does, in new memory; a contract of the program's function on a byte outside of all sequences; a contract of the program's function on a byte within a sequence; plain facts on a byte that breaks off a rune; words for a byte's step in the call's own lists. -/
import Derived.Test.YtlolgfgcgfjdjaaGreatDoorS18
import Derived.Test.YtlolgfgcgfjdjaaGreatDoorS1
import Derived.Lib.OwnKind
import Derived.Deep.RegionLaw
import Derived.Test.YtlolgfgcgfjdjaaGreatDoorS2
namespace Go.Proofs.YtlolgfgcgfjdjaaGreatDoor
open Go.RowKit
set_option linter.unusedVariables false
set_option linter.unusedSimpArgs false
set_option maxHeartbeats 2000000
set_option maxRecDepth 100000
theorem Fr.undrew {B : Nat → Prop} {w w1 : World} (h : Fr B w.drew w1) : Fr B w w1 := ⟨h.os, h.tape, h.output, h.size, h.block⟩
theorem escInter_any (vp vi vu av : Value) (p : Pr) (b : UInt8) (l : List Ac) (base : Nat) (B : Nat → Prop) (w : World) (h : StL w base B vp vi vu av p.params p.inter p.utf l) (hbase : base ≤ w.heap.size) (hl : l.length ≤ 1099511627000) (hok : PrOk p) (hm : p.mode = 2) :
  Calls Tryz.prog 135 #[.agg #[.int .i64 (p.mode : Int), .int .u8 (p.priv : Int), vp, vi, vu], .int .u8 (b.toNat : Int), av] w (VPost w base B (vtM p b).1 (l ++ (vtM p b).2)) := by
 cases hB : interB b
 ·have e : vtM p b = (prM 0, [acE b.toNat p.inter]) := by
   unfold vtM
   rw [if_neg (by omega), if_pos hm, if_pos hB]
  rw [e]
  exact escInter_end vp vi vu av p b l base B w h (kind_other hB) hbase hl
 ·have e : vtM p b = (if 2 ≤ p.inter.length then prM 3 else { p with inter := p.inter ++ [b] }, []) := by
   unfold vtM
   rw [if_neg (by omega), if_pos hm, if_neg (by rw [hB]; simp)]
   split
   ·rfl
   ·have h1 : p.priv = 0 ∧ p.params = [] := by rcases hok.csi with h | h | h <;> first | omega | exact h
    have h2 : p.utf = [] := by rcases hok.utf with h | ⟨h, _⟩ <;> first | omega | exact h
    rw [show ({ p with inter := p.inter ++ [b] } : Pr) = ⟨p.mode, p.priv, p.params, p.inter ++ [b], p.utf⟩ from rfl, hm, h1.1, h1.2, h2]
    rfl
  rw [e, List.append_nil]
  exact escInter_more vp vi vu av p _ b l base B w h (kind_inter hB) fun W hW hz => moreInter_any vp vi vu av p b 3 l base B W hW (by omega) (by omega)
theorem csi_any (vp vi vu av : Value) (p : Pr) (b : UInt8) (l : List Ac) (base : Nat) (B : Nat → Prop) (w : World) (h : StL w base B vp vi vu av p.params p.inter p.utf l) (hbase : base ≤ w.heap.size) (hl : l.length ≤ 1099511627000) (hok : PrOk p) (hm : p.mode = 4) (hb0 : 32 ≤ b.toNat) (hb1 : b.toNat < 127) :
  Calls Tryz.prog 137 #[.agg #[.int .i64 (p.mode : Int), .int .u8 (p.priv : Int), vp, vi, vu], .int .u8 (b.toNat : Int), av] w (VPost w base B (csiL p b).1 (l ++ (csiL p b).2)) := by
 have hi : p.inter = [] := by
  have := hok.with_
  rcases Nat.eq_zero_or_pos p.inter.length with h | h
  ·exact List.eq_nil_of_length_eq_zero h
  ·omega
 by_cases h48 : b.toNat < 48
 ·have hB := inter_yes b hb0 (by omega)
  have e : csiL p b = ({ p with mode := 5, inter := [b] }, []) := by
   unfold csiL
   rw [if_neg (by omega), if_pos hB, if_neg (by rw [hi]; simp), hi]
   rfl
  rw [e, List.append_nil]
  exact csi_inter vp vi vu av p b l base B w h (kind_inter hB) hbase
 ·by_cases h64 : b.toNat < 64
  ·have e : (csiL p b).2 = [] := by
    unfold csiL
    rw [if_neg (by omega)]
    repeat' split
    all_goals rfl
   rw [e, List.append_nil]
   exact csi_par vp vi vu av p _ b l base B w h (kind_ahead (by omega) h64) fun W hW hz => par_any vp vi vu av p b l base B W hW (by omega) hok hm (by omega) h64
  ·have e : csiL p b = (prM 0, [acS p b.toNat]) := by
    unfold csiL
    rw [if_pos (by omega)]
   rw [e]
   exact csi_end vp vi vu av p _ b l _ base B w h (kind_last (by omega) hb1) fun W hW hz => endCsi_any vp vi vu av p b l base B W hW (by omega) hl
theorem csiInter_any (vp vi vu av : Value) (p : Pr) (b : UInt8) (l : List Ac) (base : Nat) (B : Nat → Prop) (w : World) (h : StL w base B vp vi vu av p.params p.inter p.utf l) (hbase : base ≤ w.heap.size) (hl : l.length ≤ 1099511627000) (hok : PrOk p) (hm : p.mode = 5) (hb0 : 32 ≤ b.toNat) (hb1 : b.toNat < 127) :
  Calls Tryz.prog 138 #[.agg #[.int .i64 (p.mode : Int), .int .u8 (p.priv : Int), vp, vi, vu], .int .u8 (b.toNat : Int), av] w (VPost w base B (csiL p b).1 (l ++ (csiL p b).2)) := by
 by_cases h48 : b.toNat < 48
 ·have hB := inter_yes b hb0 (by omega)
  have e : csiL p b = (if 2 ≤ p.inter.length then prM 6 else { p with inter := p.inter ++ [b] }, []) := by
   unfold csiL
   rw [if_neg (by omega), if_pos hB]
   split
   ·rfl
   ·rw [show ({ p with inter := p.inter ++ [b] } : Pr) = ⟨p.mode, p.priv, p.params, p.inter ++ [b], p.utf⟩ from rfl, hm]
  rw [e, List.append_nil]
  exact csiInter_more vp vi vu av p _ b l base B w h (kind_inter hB) fun W hW hz => moreInter_any vp vi vu av p b 6 l base B W hW (by omega) (by omega)
 ·have hni := inter_no b (.inr (by omega))
  by_cases h64 : b.toNat < 64
  ·have e : csiL p b = (prM 6, []) := by
    unfold csiL
    rw [if_neg (by omega), if_neg (by rw [hni]; simp), if_pos (.inl hm)]
   rw [e, List.append_nil]
   exact csiInter_ign vp vi vu av p b l base B w h (kind_ahead (by omega) h64)
  ·have e : csiL p b = (prM 0, [acS p b.toNat]) := by
    unfold csiL
    rw [if_pos (by omega)]
   rw [e]
   exact csiInter_end vp vi vu av p _ b l _ base B w h (kind_last (by omega) hb1) fun W hW hz => endCsi_any vp vi vu av p b l base B W hW (by omega) hl
theorem seq_1 (vp vi vu av : Value) (p r : Pr) (b : UInt8) (l l2 : List Ac) (base : Nat) (B : Nat → Prop) (w : World) (h : StL w base B vp vi vu av p.params p.inter p.utf l) (hm : p.mode = 1)
  (hc : ∀ W, StL W base B vp vi vu av p.params p.inter p.utf l → w.heap.size ≤ W.heap.size → Calls Tryz.prog 134 #[.int .u8 (b.toNat : Int), av] W (VPost W base B r l2)) :
  Calls Tryz.prog 104 #[.agg #[.int .i64 (p.mode : Int), .int .u8 (p.priv : Int), vp, vi, vu], .int .u8 (b.toNat : Int), av] w (VPost w base B r l2) := by
 have HC := Lib.hid hc
 have H := Lib.hid h
 have HL : Hid (∀ x, B x → x < w.heap.size) := fun x hx => (h.lt x hx).2
 have HAV := Lib.hid (stl_oa h)
 obtain ⟨Ap, cp, Ai, ci, Au, cu, Aa, ca, rfl, rfl, rfl, rfl, -⟩ := h.form
 clear h hc
 have m1 : ((p.mode : Int) == 1) = true := beq_iff_eq.2 (by omega)
 clear hm
 go_enter Tryz.func104, Tryz.ntmps104
 go_wp2_with (first
  | (go_at_call 101; refine (kindOf_any b _).mono ?_; rintro e w' ⟨rfl, rfl⟩)
  | (go_at_call 134; refine (HC.out _ (H.out.below (two_new w _ _).1) (two_new w _ _).1.size).mono ?_; rintro e w4 ⟨B', Bp, np, Bi, ni, Bu, nu, Ba, na, rfl, hst, hB, hF⟩; obtain ⟨k0, k1⟩ := kept_two HL.out hF; obtain ⟨e0, e1, e2, e3, e4, ef⟩ := five_cells k1; have HP := Lib.hid (hand_v (r := r) HL.out hst hB hF ⟨rfl, rfl, rfl, rfl, rfl⟩); clear hst hB hF k0 k1))
 exact bodyPost_ret (v := .tuple #[.agg #[.int .i64 (r.mode : Int), .int .u8 (r.priv : Int), .slice Bp r.params.length np, .slice Bi r.inter.length ni, .slice Bu r.utf.length nu], .slice Ba l2.length na]) (by simp [results, Tryz.results104, go_sem, e0, e1, e2, e3, e4]) rfl HP.out
theorem seq_2 (vp vi vu av : Value) (p r : Pr) (b : UInt8) (l l2 : List Ac) (base : Nat) (B : Nat → Prop) (w : World) (h : StL w base B vp vi vu av p.params p.inter p.utf l) (hm : p.mode = 2)
  (hc : ∀ W, StL W base B vp vi vu av p.params p.inter p.utf l → w.heap.size ≤ W.heap.size → Calls Tryz.prog 135 #[.agg #[.int .i64 (p.mode : Int), .int .u8 (p.priv : Int), vp, vi, vu], .int .u8 (b.toNat : Int), av] W (VPost W base B r l2)) :
  Calls Tryz.prog 104 #[.agg #[.int .i64 (p.mode : Int), .int .u8 (p.priv : Int), vp, vi, vu], .int .u8 (b.toNat : Int), av] w (VPost w base B r l2) := by
 have HC := Lib.hid hc
 have H := Lib.hid h
 have HL : Hid (∀ x, B x → x < w.heap.size) := fun x hx => (h.lt x hx).2
 have HAV := Lib.hid (stl_oa h)
 obtain ⟨Ap, cp, Ai, ci, Au, cu, Aa, ca, rfl, rfl, rfl, rfl, -⟩ := h.form
 clear h hc
 have m1 : ((p.mode : Int) == 1) = false := beq_eq_false_iff_ne.2 (by omega)
 have m2 : ((p.mode : Int) == 2) = true := beq_iff_eq.2 (by omega)
 clear hm
 go_enter Tryz.func104, Tryz.ntmps104
 go_wp2_with (first
  | (go_at_call 101; refine (kindOf_any b _).mono ?_; rintro e w' ⟨rfl, rfl⟩)
  | (go_at_call 135; refine (HC.out _ (H.out.below (two_new w _ _).1) (two_new w _ _).1.size).mono ?_; rintro e w4 ⟨B', Bp, np, Bi, ni, Bu, nu, Ba, na, rfl, hst, hB, hF⟩; obtain ⟨k0, k1⟩ := kept_two HL.out hF; obtain ⟨e0, e1, e2, e3, e4, ef⟩ := five_cells k1; have HP := Lib.hid (hand_v (r := r) HL.out hst hB hF ⟨rfl, rfl, rfl, rfl, rfl⟩); clear hst hB hF k0 k1))
 exact bodyPost_ret (v := .tuple #[.agg #[.int .i64 (r.mode : Int), .int .u8 (r.priv : Int), .slice Bp r.params.length np, .slice Bi r.inter.length ni, .slice Bu r.utf.length nu], .slice Ba l2.length na]) (by simp [results, Tryz.results104, go_sem, e0, e1, e2, e3, e4]) rfl HP.out
theorem seq_4 (vp vi vu av : Value) (p r : Pr) (b : UInt8) (l l2 : List Ac) (base : Nat) (B : Nat → Prop) (w : World) (h : StL w base B vp vi vu av p.params p.inter p.utf l) (hm : p.mode = 4)
  (hc : ∀ W, StL W base B vp vi vu av p.params p.inter p.utf l → w.heap.size ≤ W.heap.size → Calls Tryz.prog 137 #[.agg #[.int .i64 (p.mode : Int), .int .u8 (p.priv : Int), vp, vi, vu], .int .u8 (b.toNat : Int), av] W (VPost W base B r l2)) :
  Calls Tryz.prog 104 #[.agg #[.int .i64 (p.mode : Int), .int .u8 (p.priv : Int), vp, vi, vu], .int .u8 (b.toNat : Int), av] w (VPost w base B r l2) := by
 have HC := Lib.hid hc
 have H := Lib.hid h
 have HL : Hid (∀ x, B x → x < w.heap.size) := fun x hx => (h.lt x hx).2
 have HAV := Lib.hid (stl_oa h)
 obtain ⟨Ap, cp, Ai, ci, Au, cu, Aa, ca, rfl, rfl, rfl, rfl, -⟩ := h.form
 clear h hc
 have m1 : ((p.mode : Int) == 1) = false := beq_eq_false_iff_ne.2 (by omega)
 have m2 : ((p.mode : Int) == 2) = false := beq_eq_false_iff_ne.2 (by omega)
 have m3 : ((p.mode : Int) == 3) = false := beq_eq_false_iff_ne.2 (by omega)
 have m4 : ((p.mode : Int) == 4) = true := beq_iff_eq.2 (by omega)
 clear hm
 go_enter Tryz.func104, Tryz.ntmps104
 go_wp2_with (first
  | (go_at_call 101; refine (kindOf_any b _).mono ?_; rintro e w' ⟨rfl, rfl⟩)
  | (go_at_call 137; refine (HC.out _ (H.out.below (two_new w _ _).1) (two_new w _ _).1.size).mono ?_; rintro e w4 ⟨B', Bp, np, Bi, ni, Bu, nu, Ba, na, rfl, hst, hB, hF⟩; obtain ⟨k0, k1⟩ := kept_two HL.out hF; obtain ⟨e0, e1, e2, e3, e4, ef⟩ := five_cells k1; have HP := Lib.hid (hand_v (r := r) HL.out hst hB hF ⟨rfl, rfl, rfl, rfl, rfl⟩); clear hst hB hF k0 k1))
 exact bodyPost_ret (v := .tuple #[.agg #[.int .i64 (r.mode : Int), .int .u8 (r.priv : Int), .slice Bp r.params.length np, .slice Bi r.inter.length ni, .slice Bu r.utf.length nu], .slice Ba l2.length na]) (by simp [results, Tryz.results104, go_sem, e0, e1, e2, e3, e4]) rfl HP.out
theorem seq_5 (vp vi vu av : Value) (p r : Pr) (b : UInt8) (l l2 : List Ac) (base : Nat) (B : Nat → Prop) (w : World) (h : StL w base B vp vi vu av p.params p.inter p.utf l) (hm : p.mode = 5)
  (hc : ∀ W, StL W base B vp vi vu av p.params p.inter p.utf l → w.heap.size ≤ W.heap.size → Calls Tryz.prog 138 #[.agg #[.int .i64 (p.mode : Int), .int .u8 (p.priv : Int), vp, vi, vu], .int .u8 (b.toNat : Int), av] W (VPost W base B r l2)) :
  Calls Tryz.prog 104 #[.agg #[.int .i64 (p.mode : Int), .int .u8 (p.priv : Int), vp, vi, vu], .int .u8 (b.toNat : Int), av] w (VPost w base B r l2) := by
 have HC := Lib.hid hc
 have H := Lib.hid h
 have HL : Hid (∀ x, B x → x < w.heap.size) := fun x hx => (h.lt x hx).2
 have HAV := Lib.hid (stl_oa h)
 obtain ⟨Ap, cp, Ai, ci, Au, cu, Aa, ca, rfl, rfl, rfl, rfl, -⟩ := h.form
 clear h hc
 have m1 : ((p.mode : Int) == 1) = false := beq_eq_false_iff_ne.2 (by omega)
 have m2 : ((p.mode : Int) == 2) = false := beq_eq_false_iff_ne.2 (by omega)
 have m3 : ((p.mode : Int) == 3) = false := beq_eq_false_iff_ne.2 (by omega)
 have m4 : ((p.mode : Int) == 4) = false := beq_eq_false_iff_ne.2 (by omega)
 have m5 : ((p.mode : Int) == 5) = true := beq_iff_eq.2 (by omega)
 clear hm
 go_enter Tryz.func104, Tryz.ntmps104
 go_wp2_with (first
  | (go_at_call 101; refine (kindOf_any b _).mono ?_; rintro e w' ⟨rfl, rfl⟩)
  | (go_at_call 138; refine (HC.out _ (H.out.below (two_new w _ _).1) (two_new w _ _).1.size).mono ?_; rintro e w4 ⟨B', Bp, np, Bi, ni, Bu, nu, Ba, na, rfl, hst, hB, hF⟩; obtain ⟨k0, k1⟩ := kept_two HL.out hF; obtain ⟨e0, e1, e2, e3, e4, ef⟩ := five_cells k1; have HP := Lib.hid (hand_v (r := r) HL.out hst hB hF ⟨rfl, rfl, rfl, rfl, rfl⟩); clear hst hB hF k0 k1))
 exact bodyPost_ret (v := .tuple #[.agg #[.int .i64 (r.mode : Int), .int .u8 (r.priv : Int), .slice Bp r.params.length np, .slice Bi r.inter.length ni, .slice Bu r.utf.length nu], .slice Ba l2.length na]) (by simp [results, Tryz.results104, go_sem, e0, e1, e2, e3, e4]) rfl HP.out
theorem seq_3 (vp vi vu av : Value) (p r : Pr) (b : UInt8) (t : Bool) (l : List Ac) (base : Nat) (B : Nat → Prop) (w : World) (h : StL w base B vp vi vu av p.params p.inter p.utf l) (hm : p.mode = 3) (ht : ((kindN b : Int) != 1) = t)
  (hc : ∀ W, StL W base B vp vi vu av p.params p.inter p.utf l → w.heap.size ≤ W.heap.size → Calls Tryz.prog 136 #[.agg #[.int .i64 (p.mode : Int), .int .u8 (p.priv : Int), vp, vi, vu], .bool t] W (PPost W base B r av l)) :
  Calls Tryz.prog 104 #[.agg #[.int .i64 (p.mode : Int), .int .u8 (p.priv : Int), vp, vi, vu], .int .u8 (b.toNat : Int), av] w (VPost w base B r l) := by
 have HC := Lib.hid hc
 have H := Lib.hid h
 have HL : Hid (∀ x, B x → x < w.heap.size) := fun x hx => (h.lt x hx).2
 have HAV := Lib.hid (stl_oa h)
 obtain ⟨Ap, cp, Ai, ci, Au, cu, Aa, ca, rfl, rfl, rfl, rfl, -⟩ := h.form
 clear h hc
 have m1 : ((p.mode : Int) == 1) = false := beq_eq_false_iff_ne.2 (by omega)
 have m2 : ((p.mode : Int) == 2) = false := beq_eq_false_iff_ne.2 (by omega)
 have m3 : ((p.mode : Int) == 3) = true := beq_iff_eq.2 (by omega)
 clear hm
 go_enter Tryz.func104, Tryz.ntmps104
 go_wp2
 go_region_with (first
  | (go_at_call 101; refine (kindOf_any b _).mono ?_; rintro e w' ⟨rfl, rfl⟩)
  | (go_at_call 136; refine (HC.out _ (H.out.below (two_new w _ _).1.drew) (two_new w _ _).1.size).mono ?_; rintro e w4 ⟨B', Bp, np, Bi, ni, Bu, nu, rfl, hst, hB, hF⟩; obtain ⟨k0, k1⟩ := kept_two HL.out hF.undrew; obtain ⟨e0, e1, e2, e3, e4, ef⟩ := five_cells k1; have HP := Lib.hid (hand_v (r := r) HL.out hst hB hF.undrew ⟨rfl, rfl, rfl, rfl, rfl⟩); clear hst hB hF k0 k1))
 all_goals
  go_wp2
  exact bodyPost_ret (v := .tuple #[.agg #[.int .i64 (r.mode : Int), .int .u8 (r.priv : Int), .slice Bp r.params.length np, .slice Bi r.inter.length ni, .slice Bu r.utf.length nu], .slice Aa l.length ca]) (by simp [results, Tryz.results104, go_sem, e0, e1, e2, e3, e4]) rfl HP.out
theorem seq_6 (vp vi vu av : Value) (p r : Pr) (b : UInt8) (t : Bool) (l : List Ac) (base : Nat) (B : Nat → Prop) (w : World) (h : StL w base B vp vi vu av p.params p.inter p.utf l) (hm : p.mode = 6) (ht : ((kindN b : Int) == 3) = t)
  (hc : ∀ W, StL W base B vp vi vu av p.params p.inter p.utf l → w.heap.size ≤ W.heap.size → Calls Tryz.prog 136 #[.agg #[.int .i64 (p.mode : Int), .int .u8 (p.priv : Int), vp, vi, vu], .bool t] W (PPost W base B r av l)) :
  Calls Tryz.prog 104 #[.agg #[.int .i64 (p.mode : Int), .int .u8 (p.priv : Int), vp, vi, vu], .int .u8 (b.toNat : Int), av] w (VPost w base B r l) := by
 have HC := Lib.hid hc
 have H := Lib.hid h
 have HL : Hid (∀ x, B x → x < w.heap.size) := fun x hx => (h.lt x hx).2
 have HAV := Lib.hid (stl_oa h)
 obtain ⟨Ap, cp, Ai, ci, Au, cu, Aa, ca, rfl, rfl, rfl, rfl, -⟩ := h.form
 clear h hc
 have m1 : ((p.mode : Int) == 1) = false := beq_eq_false_iff_ne.2 (by omega)
 have m2 : ((p.mode : Int) == 2) = false := beq_eq_false_iff_ne.2 (by omega)
 have m3 : ((p.mode : Int) == 3) = false := beq_eq_false_iff_ne.2 (by omega)
 have m4 : ((p.mode : Int) == 4) = false := beq_eq_false_iff_ne.2 (by omega)
 have m5 : ((p.mode : Int) == 5) = false := beq_eq_false_iff_ne.2 (by omega)
 have m6 : ((p.mode : Int) == 6) = true := beq_iff_eq.2 (by omega)
 clear hm
 go_enter Tryz.func104, Tryz.ntmps104
 go_wp2
 go_region_with (first
  | (go_at_call 101; refine (kindOf_any b _).mono ?_; rintro e w' ⟨rfl, rfl⟩)
  | (go_at_call 136; refine (HC.out _ (H.out.below (two_new w _ _).1.drew) (two_new w _ _).1.size).mono ?_; rintro e w4 ⟨B', Bp, np, Bi, ni, Bu, nu, rfl, hst, hB, hF⟩; obtain ⟨k0, k1⟩ := kept_two HL.out hF.undrew; obtain ⟨e0, e1, e2, e3, e4, ef⟩ := five_cells k1; have HP := Lib.hid (hand_v (r := r) HL.out hst hB hF.undrew ⟨rfl, rfl, rfl, rfl, rfl⟩); clear hst hB hF k0 k1))
 all_goals
  go_wp2
  exact bodyPost_ret (v := .tuple #[.agg #[.int .i64 (r.mode : Int), .int .u8 (r.priv : Int), .slice Bp r.params.length np, .slice Bi r.inter.length ni, .slice Bu r.utf.length nu], .slice Aa l.length ca]) (by simp [results, Tryz.results104, go_sem, e0, e1, e2, e3, e4]) rfl HP.out
end Go.Proofs.YtlolgfgcgfjdjaaGreatDoor

namespace Go.Proofs.YtlolgfgcgfjdjaaGreatDoor
open Go.RowKit
set_option linter.unusedVariables false
set_option linter.unusedSimpArgs false
set_option maxHeartbeats 1000000
set_option maxRecDepth 100000
def fsN (x : Nat) : Nat := if x < 128 then 1 else if x < 194 then 0 else if x < 224 then 2 else if x < 240 then 3 else if x < 245 then 4 else 0
theorem fs_1 (x : Nat) (h : x < 128) : fsN x = 1 := by unfold fsN; rw [if_pos h]
theorem fs_0 (x : Nat) (h : 128 ≤ x) (h2 : x < 194) : fsN x = 0 := by unfold fsN; rw [if_neg (by omega), if_pos h2]
theorem fs_2 (x : Nat) (h : 194 ≤ x) (h2 : x < 224) : fsN x = 2 := by unfold fsN; rw [if_neg (by omega), if_neg (by omega), if_pos h2]
theorem fs_3 (x : Nat) (h : 224 ≤ x) (h2 : x < 240) : fsN x = 3 := by unfold fsN; rw [if_neg (by omega), if_neg (by omega), if_neg (by omega), if_pos h2]
theorem fs_4 (x : Nat) (h : 240 ≤ x) (h2 : x < 245) : fsN x = 4 := by unfold fsN; rw [if_neg (by omega), if_neg (by omega), if_neg (by omega), if_neg (by omega), if_pos h2]
theorem fs_5 (x : Nat) (h : 245 ≤ x) : fsN x = 0 := by unfold fsN; rw [if_neg (by omega), if_neg (by omega), if_neg (by omega), if_neg (by omega), if_neg (by omega)]
theorem fs_le (x : Nat) : fsN x ≤ 4 := by unfold fsN; (repeat' split) <;> omega
def okT (a : UInt8) (i : Nat) (c : UInt8) : Bool := if i = 0 then secB a c else contB c
def tailsL (a : UInt8) : Nat → List UInt8 → Bool
  | _, [] => true
  | i, c :: t => okT a i c && tailsL a (i + 1) t
def fitsL : List UInt8 → Bool
  | [] => false
  | a :: t => decide (t.length < fsN a.toNat) && tailsL a 0 t
theorem tails_all (a : UInt8) (t : List UInt8) : ∀ i, (∀ k (h : k < t.length), okT a (i + k) t[k] = true) → tailsL a i t = true := by
  induction t with
  | nil => intro i _; rfl
  | cons c t ih =>
    intro i h
    unfold tailsL
    have h0 := h 0 (by simp)
    have h1 := ih (i + 1) (fun k hk => by
      have := h (k + 1) (by simp; omega)
      rw [show i + 1 + k = i + (k + 1) from by omega]
      simpa using this)
    simp at h0
    rw [h0, h1]
    rfl
theorem tails_not (a : UInt8) (t : List UInt8) : ∀ i k (h : k < t.length), okT a (i + k) t[k] = false → tailsL a i t = false := by
  induction t with
  | nil => intro i k h; simp at h
  | cons c t ih =>
    intro i k h h2
    unfold tailsL
    cases k with
    | zero =>
      simp at h2
      rw [h2]
      rfl
    | succ k =>
      have := ih (i + 1) k (by simpa using h) (by
        rw [show i + 1 + k = i + (k + 1) from by omega]
        simpa using h2)
      rw [this, Bool.and_false]
theorem fsize_any (x : Nat) (w : World) (hx : x < 256) : Calls Tryz.prog 130 #[.int .u8 (x : Int)] w fun e w' => e = .returned (.int .i64 (fsN x : Int)) ∧ w = w' := by
  by_cases h1 : x < 128
  · rw [fs_1 x h1]
    have d1 : (x : Int) < 128 := by omega
    go_enter Tryz.func130, Tryz.ntmps130
    go_wp2
    go_ret
    exact ⟨rfl, rfl⟩
  have d1 : decide ((x : Int) < 128) = false := by simp; omega
  by_cases h2 : x < 194
  · rw [fs_0 x (by omega) h2]
    have d2 : (x : Int) < 194 := by omega
    go_enter Tryz.func130, Tryz.ntmps130
    go_wp2
    go_ret
    exact ⟨rfl, rfl⟩
  have d2 : decide ((x : Int) < 194) = false := by simp; omega
  by_cases h3 : x < 224
  · rw [fs_2 x (by omega) h3]
    have d3 : (x : Int) < 224 := by omega
    go_enter Tryz.func130, Tryz.ntmps130
    go_wp2
    go_ret
    exact ⟨rfl, rfl⟩
  have d3 : decide ((x : Int) < 224) = false := by simp; omega
  by_cases h4 : x < 240
  · rw [fs_3 x (by omega) h4]
    have d4 : (x : Int) < 240 := by omega
    go_enter Tryz.func130, Tryz.ntmps130
    go_wp2
    go_ret
    exact ⟨rfl, rfl⟩
  have d4 : decide ((x : Int) < 240) = false := by simp; omega
  by_cases h5 : x < 245
  · rw [fs_4 x (by omega) h5]
    have d5 : (x : Int) < 245 := by omega
    go_enter Tryz.func130, Tryz.ntmps130
    go_wp2
    go_ret
    exact ⟨rfl, rfl⟩
  have d5 : decide ((x : Int) < 245) = false := by simp; omega
  rw [fs_5 x (by omega)]
  go_enter Tryz.func130, Tryz.ntmps130
  go_wp2
  go_ret
  exact ⟨rfl, rfl⟩
theorem second_any (x : Nat) (w : World) (hx : x < 256) : Calls Tryz.prog 152 #[.int .u8 (x : Int)] w fun e w' => e = .returned (.tuple #[.int .u8 (loB x : Int), .int .u8 (hiB x : Int)]) ∧ w = w' := by
  by_cases h1 : x = 224
  · subst h1
    go_enter Tryz.func152, Tryz.ntmps152
    go_wp2
    go_ret2
    exact ⟨rfl, rfl⟩
  by_cases h2 : x = 237
  · subst h2
    go_enter Tryz.func152, Tryz.ntmps152
    go_wp2
    go_ret2
    exact ⟨rfl, rfl⟩
  by_cases h3 : x = 240
  · subst h3
    go_enter Tryz.func152, Tryz.ntmps152
    go_wp2
    go_ret2
    exact ⟨rfl, rfl⟩
  by_cases h4 : x = 244
  · subst h4
    go_enter Tryz.func152, Tryz.ntmps152
    go_wp2
    go_ret2
    exact ⟨rfl, rfl⟩
  have e224 : ((x : Int) == 224) = false := beq_eq_false_iff_ne.2 (by omega)
  have e237 : ((x : Int) == 237) = false := beq_eq_false_iff_ne.2 (by omega)
  have e240 : ((x : Int) == 240) = false := beq_eq_false_iff_ne.2 (by omega)
  have e244 : ((x : Int) == 244) = false := beq_eq_false_iff_ne.2 (by omega)
  rw [lo_other x h1 h3, hi_other x h2 h4]
  clear h1 h2 h3 h4
  go_enter Tryz.func152, Tryz.ntmps152
  go_wp2
  go_ret2
  exact ⟨rfl, rfl⟩
def FitPost (l : List UInt8) (w : World) (e : Ending) (w' : World) : Prop := e = .returned (.bool (fitsL l)) ∧ w = w'
theorem fitPost_of {l : List UInt8} {w : World} {b : Bool} (h : b = fitsL l) : FitPost l w (.returned (.bool b)) w := ⟨by rw [h], rfl⟩
def FitRel (a : UInt8) (t : List UInt8) (m : Nat) (i : Value) : Prop := i = .int .i64 0 ∨ ∃ k : Nat, 1 ≤ k ∧ k ≤ m ∧ i = .int .i64 (k : Int) ∧ ∀ j (h : j < t.length), j < k → okT a j t[j] = true
theorem fits_yes (a : UInt8) (t : List UInt8) (h : t.length < fsN a.toNat) (h2 : ∀ j (h : j < t.length), okT a j t[j] = true) : fitsL (a :: t) = true := by
  show (decide (t.length < fsN a.toNat) && tailsL a 0 t) = _
  rw [tails_all a t 0 (fun k hk => by simpa using h2 k hk), Bool.and_true]
  exact decide_eq_true h
theorem fits_no (a : UInt8) (t : List UInt8) (k : Nat) (h : k < t.length) (h2 : okT a k t[k] = false) : fitsL (a :: t) = false := by
  show (decide (t.length < fsN a.toNat) && tailsL a 0 t) = _
  rw [tails_not a t 0 k h (by simpa using h2), Bool.and_false]
theorem fits_long (a : UInt8) (t : List UInt8) (h : fsN a.toNat ≤ t.length) : fitsL (a :: t) = false := by
  show (decide (t.length < fsN a.toNat) && tailsL a 0 t) = _
  rw [decide_eq_false (by omega), Bool.false_and]
theorem okT_zero (a : UInt8) (t : List UInt8) (c : Nat) (h : 0 < t.length) (hc : (t[0]'h).toNat = c) (x : Nat) (hx : a.toNat = x) : okT a 0 t[0] = (decide (loB x ≤ c) && decide (c ≤ hiB x)) := by
  unfold okT secB
  rw [if_pos rfl, hc, hx]
theorem okT_pos (a : UInt8) (c : UInt8) (k : Nat) (h : 1 ≤ k) : okT a k c = contB c := by
  unfold okT
  rw [if_neg (by omega)]
theorem fits_cons (ad : Addr) (cp n : Nat) (a : UInt8) (t : List UInt8) (x : Nat) (w : World) (hx : a.toNat = x) (ca : w.cell? ad = some (.int .u8 (x : Int))) (hcs : ∀ j b, t[j]? = some b → w.cell? ⟨ad.block, ad.off + (j + 1), none⟩ = some (.int .u8 (b.toNat : Int)))
    (hn : n = t.length + 1) (hlen : n ≤ cp) (hcp : cp ≤ 9223372036854775807) : Calls Tryz.prog 129 #[.slice (some ad) n cp] w (FitPost (a :: t) w) := by
  have hx1 : x < 256 := by rw [← hx]; exact a.toNat_lt
  have HX := Lib.hid hx
  have HC := Lib.hid hcs
  have hn1 : 1 ≤ n := by omega
  have HT := Lib.hid hn
  clear hx hcs hn
  have hfs := fs_le x
  have e0 : ((n : Int) == 0) = false := beq_eq_false_iff_ne.2 (by omega)
  obtain ⟨N, hN⟩ : ∃ N, fsN x = N := ⟨_, rfl⟩
  have HN := Lib.hid hN
  rw [hN] at hfs
  clear hN
  by_cases hf : n ≤ N
  · have HF : Hid (t.length < fsN a.toNat) := by
      have := HT.out
      rw [HX.out, HN.out]
      show t.length < N
      omega
    have d1 : decide (N < n) = false := by simp; omega
    by_cases hc1 : cp = 1
    · obtain rfl : n = 1 := by omega
      have hnil : t = [] := List.eq_nil_of_length_eq_zero (by have := HT.out; omega)
      subst hnil
      subst hc1
      go_enter Tryz.func129, Tryz.ntmps129
      go_wp2_with (go_at_call 130; refine (fsize_any x w hx1).mono ?_; rintro e w' ⟨rfl, rfl⟩; rw [HN.out])
      go_loop [22] (fun i => i = .int .i64 0) (fun i => 1 - (intOf i).toNat)
      case atStart => rfl
      case round =>
        obtain rfl := hrel
        go_wp2
        go_ret
        exact fitPost_of (fits_yes a [] HF.out (fun j h => by simp at h)).symm
    · obtain ⟨m, hm⟩ : ∃ m, n - 1 = m := ⟨_, rfl⟩
      have hmn : m < n := by omega
      have HM : Hid (m = t.length) := by
        have := HT.out
        show m = t.length
        omega
      go_enter Tryz.func129, Tryz.ntmps129
      go_wp2_with (go_at_call 130; refine (fsize_any x w hx1).mono ?_; rintro e w' ⟨rfl, rfl⟩; rw [HN.out])
      clear hm d1 e0
      go_loop [22] (fun i => FitRel a t m i) (fun i => m - (intOf i).toNat)
      case atStart => exact .inl rfl
      case round =>
        rcases hrel with rfl | ⟨k, hk1, hk2, rfl, hok⟩
        · by_cases hlt : 0 < m
          · have ht : 0 < t.length := by rw [← HM.out]; exact hlt
            have hc := HC.out 0 t[0] (List.getElem?_eq_getElem ht)
            obtain ⟨c, hce⟩ : ∃ c, (t[0]'ht).toNat = c := ⟨_, rfl⟩
            have hc1 : c < 256 := by rw [← hce]; exact UInt8.toNat_lt _
            rw [hce] at hc
            have HO : Hid _ := okT_zero a t c ht hce x HX.out
            have hlo := lo_ge x
            have hhi := hiB_le x
            clear hce
            obtain ⟨L, hL⟩ : ∃ L, loB x = L := ⟨_, rfl⟩
            obtain ⟨H, hH⟩ : ∃ H, hiB x = H := ⟨_, rfl⟩
            rw [hL] at hlo HO
            rw [hH] at hhi HO
            have HL := Lib.hid hL
            have HH := Lib.hid hH
            clear hL hH
            by_cases c1 : c < L
            · have HZ := Lib.hid (fits_no a t 0 ht (by rw [HO.out, decide_eq_false (by omega), Bool.false_and]))
              go_wp2_with (go_at_call 152; refine (second_any x w hx1).mono ?_; rintro e w' ⟨rfl, rfl⟩; rw [HL.out, HH.out])
              go_ret
              exact fitPost_of HZ.out.symm
            have d1 : decide (c < L) = false := by simp; omega
            by_cases c2 : H < c
            · have HZ := Lib.hid (fits_no a t 0 ht (by rw [HO.out, decide_eq_false (show ¬ c ≤ H by omega), Bool.and_false]))
              go_wp2_with (go_at_call 152; refine (second_any x w hx1).mono ?_; rintro e w' ⟨rfl, rfl⟩; rw [HL.out, HH.out])
              go_ret
              exact fitPost_of HZ.out.symm
            have d2 : decide (H < c) = false := by simp; omega
            have HZ : Hid (okT a 0 t[0] = true) := by
              rw [HO.out, decide_eq_true (show L ≤ c by omega), decide_eq_true (show c ≤ H by omega)]
              rfl
            go_wp2_with (go_at_call 152; refine (second_any x w hx1).mono ?_; rintro e w' ⟨rfl, rfl⟩; rw [HL.out, HH.out])
            go_round
            case rel => exact .inr ⟨1, by omega, by omega, rfl, fun j h hj => by obtain rfl : j = 0 := by omega
                                                                                 exact HZ.out⟩
            case measure => simp [intOf]; omega
          · have hm0 : m = 0 := by omega
            subst hm0
            have hnil : t = [] := List.eq_nil_of_length_eq_zero HM.out.symm
            subst hnil
            go_wp2
            go_ret
            exact fitPost_of (fits_yes a [] HF.out (fun j h => by simp at h)).symm
        · have HK := Lib.hid hok
          clear hok
          have e1 : ((k : Int) == 0) = false := beq_eq_false_iff_ne.2 (by omega)
          by_cases hlt : k < m
          · have ht : k < t.length := by rw [← HM.out]; exact hlt
            have hc0 := HC.out k t[k] (List.getElem?_eq_getElem ht)
            have hc : w.cell? ⟨ad.block, ad.off + 1 + k, none⟩ = some (.int .u8 ((t[k]).toNat : Int)) := by
              rw [← hc0, show ad.off + 1 + k = ad.off + (k + 1) from by omega]
            clear hc0
            have HO := Lib.hid (okT_pos a t[k] k hk1)
            have hci := contB_iff t[k]
            obtain ⟨c, hce⟩ : ∃ c, (t[k]'ht).toNat = c := ⟨_, rfl⟩
            have hc1 : c < 256 := by rw [← hce]; exact UInt8.toNat_lt _
            rw [hce] at hc hci
            have HI := Lib.hid hci
            clear hce hci
            by_cases c1 : c < 128
            · have c1' : (c : Int) < 128 := by omega
              have HZ := Lib.hid (fits_no a t k ht (by rw [HO.out, ← Bool.not_eq_true, HI.out]; omega))
              go_wp2
              go_ret
              exact fitPost_of HZ.out.symm
            have d1 : decide ((c : Int) < 128) = false := by simp; omega
            by_cases c2 : 191 < c
            · have c2' : 191 < (c : Int) := by omega
              have HZ := Lib.hid (fits_no a t k ht (by rw [HO.out, ← Bool.not_eq_true, HI.out]; omega))
              go_wp2
              go_ret
              exact fitPost_of HZ.out.symm
            have d2 : decide (191 < (c : Int)) = false := by simp; omega
            have HZ : Hid (okT a k t[k] = true) := by
              rw [HO.out]
              exact HI.out.2 (by omega)
            go_wp2
            go_round
            case rel => exact .inr ⟨k + 1, by omega, by omega, by go_num, fun j h hj => by
              by_cases hjk : j = k
              · subst hjk
                exact HZ.out
              · exact HK.out j h (by omega)⟩
            case measure => simp [intOf]; omega
          · have hkm : k = m := by omega
            subst hkm
            have HZ := Lib.hid (fits_yes a t HF.out (fun j h => HK.out j h (by rw [HM.out]; exact h)))
            go_wp2
            go_ret
            exact fitPost_of HZ.out.symm
  · have HF : Hid (fsN a.toNat ≤ t.length) := by
      have := HT.out
      rw [HX.out, HN.out]
      show N ≤ t.length
      omega
    have d1 : N < n := by omega
    go_enter Tryz.func129, Tryz.ntmps129
    go_wp2_with (go_at_call 130; refine (fsize_any x w hx1).mono ?_; rintro e w' ⟨rfl, rfl⟩; rw [HN.out])
    go_ret
    exact fitPost_of (fits_long a t HF.out).symm
theorem fits_nil (A : Option Addr) (cp : Nat) (w : World) : Calls Tryz.prog 129 #[.slice A 0 cp] w (FitPost [] w) := by
  go_enter Tryz.func129, Tryz.ntmps129
  go_wp2
  go_ret
  exact fitPost_of rfl
theorem fits_any (v : Value) (l : List UInt8) (B : Nat) (w : World) (hv : BS w B v l) : Calls Tryz.prog 129 #[v] w (FitPost l w) := by
  match l, hv with
  | [], hv =>
    obtain ⟨A, c, rfl, _⟩ := hv
    exact fits_nil A c w
  | a :: t, hv =>
    obtain ⟨ad, cp, rfl, h1, h2, ca, hcs⟩ := hv.lits
    unfold maxLen at h2
    exact fits_cons ad cp _ a t a.toNat w rfl ca hcs rfl h1 (by omega)
end Go.Proofs.YtlolgfgcgfjdjaaGreatDoor

namespace Go.Proofs.YtlolgfgcgfjdjaaGreatDoor
open Go.RowKit
set_option linter.unusedVariables false
set_option linter.unusedSimpArgs false
set_option maxHeartbeats 1000000
set_option maxRecDepth 100000
theorem okT0 (a c : UInt8) : okT a 0 c = secB a c := rfl
theorem okT1 (a c : UInt8) (k : Nat) : okT a (k + 1) c = contB c := rfl
theorem fits1_iff (a : UInt8) : fitsL [a] = true ↔ 0 < fsN a.toNat := by
 show (decide (0 < fsN a.toNat) && tailsL a 0 []) = true ↔ _
 simp [tailsL]
theorem fits2_iff (a b : UInt8) : fitsL [a, b] = true ↔ 1 < fsN a.toNat ∧ secB a b = true := by
 show (decide (1 < fsN a.toNat) && tailsL a 0 [b]) = true ↔ _
 simp [tailsL, okT0]
theorem fits3_iff (a b c : UInt8) : fitsL [a, b, c] = true ↔ 2 < fsN a.toNat ∧ secB a b = true ∧ contB c = true := by
 show (decide (2 < fsN a.toNat) && tailsL a 0 [b, c]) = true ↔ _
 simp [tailsL, okT0, okT1]
theorem fits4_iff (a b c d : UInt8) : fitsL [a, b, c, d] = true ↔ 3 < fsN a.toNat ∧ secB a b = true ∧ contB c = true ∧ contB d = true := by
 show (decide (3 < fsN a.toNat) && tailsL a 0 [b, c, d]) = true ↔ _
 simp [tailsL, okT0, okT1]
theorem fits5 (a b c d e : UInt8) (t : List UInt8) : fitsL (a :: b :: c :: d :: e :: t) = false := fits_long a _ (by have := fs_le a.toNat; simp; omega)
theorem fs_cases (x : Nat) : (x < 128 ∧ fsN x = 1) ∨ (128 ≤ x ∧ x < 194 ∧ fsN x = 0) ∨ (194 ≤ x ∧ x < 224 ∧ fsN x = 2) ∨ (224 ≤ x ∧ x < 240 ∧ fsN x = 3) ∨ (240 ≤ x ∧ x < 245 ∧ fsN x = 4) ∨ (245 ≤ x ∧ fsN x = 0) := by
 unfold fsN
 (repeat' split) <;> omega
theorem beg_fits (a : UInt8) (t : List UInt8) : beginsL (a :: t) = (fitsL (a :: t) && decide (t.length + 1 < fsN a.toNat)) := by
 have hx := fs_cases a.toNat
 match t with
 | [] =>
  rw [Bool.eq_iff_iff, beg1_iff, Bool.and_eq_true, fits1_iff, decide_eq_true_eq]
  simp only [List.length_nil]
  omega
 | [b] =>
  rw [Bool.eq_iff_iff, beg2_iff, Bool.and_eq_true, fits2_iff, secB_iff, decide_eq_true_eq]
  simp only [List.length_cons, List.length_nil]
  omega
 | [b, c] =>
  rw [Bool.eq_iff_iff, beg3_iff, Bool.and_eq_true, fits3_iff, secB_iff, decide_eq_true_eq]
  simp only [List.length_cons, List.length_nil]
  constructor
  ·rintro ⟨h1, h2, h3, h4, h5⟩
   exact ⟨⟨by omega, ⟨h3, h4⟩, h5⟩, by omega⟩
  ·rintro ⟨⟨h1, ⟨h3, h4⟩, h5⟩, h6⟩
   exact ⟨by omega, by omega, h3, h4, h5⟩
 | b :: c :: d :: t =>
  have := fs_le a.toNat
  rw [decide_eq_false (by simp; omega), Bool.and_false]
  rfl
theorem secB_low (a b : UInt8) (h : a.toNat < 224) : secB a b = contB b := by
 rw [Bool.eq_iff_iff, secB_iff, contB_iff, lo_other _ (by omega) (by omega), hi_other _ (by omega) (by omega)]
 omega
theorem fits_whole (q : List UInt8) (hf : fitsL q = true) (hb : beginsL q = false) : ∃ r, wholeL q = some r := by
 match q, hf, hb with
 | [a], hf, hb =>
  rw [beg_fits, hf, Bool.true_and] at hb
  rw [fits1_iff] at hf
  have hx := fs_cases a.toNat
  have := of_decide_eq_false hb
  simp at this
  refine ⟨a.toNat, ?_⟩
  simp only [wholeL]
  rw [if_pos (by omega)]
 | [a, b], hf, hb =>
  rw [beg_fits, hf, Bool.true_and] at hb
  rw [fits2_iff] at hf
  have hx := fs_cases a.toNat
  have := of_decide_eq_false hb
  simp at this
  have h1 : 194 ≤ a.toNat ∧ a.toNat < 224 := by omega
  exact ⟨_, whole2_yes a b h1.1 h1.2 (by rw [← secB_low a b h1.2]; exact hf.2)⟩
 | [a, b, c], hf, hb =>
  rw [beg_fits, hf, Bool.true_and] at hb
  rw [fits3_iff] at hf
  have hx := fs_cases a.toNat
  have := of_decide_eq_false hb
  simp at this
  have h1 : 224 ≤ a.toNat ∧ a.toNat < 240 := by omega
  exact ⟨_, whole3_yes a b c h1.1 h1.2 hf.2.1 hf.2.2⟩
 | [a, b, c, d], hf, hb =>
  rw [fits4_iff] at hf
  have hx := fs_cases a.toNat
  have h1 : 240 ≤ a.toNat ∧ a.toNat ≤ 244 := by omega
  exact ⟨_, whole4_yes a b c d h1.1 h1.2 hf.2.1 hf.2.2.1 hf.2.2.2⟩
 | a :: b :: c :: d :: e :: t, hf, hb => rw [fits5] at hf; cases hf
theorem whole_fits (q : List UInt8) (r : Nat) (h : wholeL q = some r) : fitsL q = true ∧ beginsL q = false := by
 match q, h with
 | [a], h =>
  simp only [wholeL] at h
  split at h
  ·rename_i h1
   have hx := fs_cases a.toNat
   refine ⟨(fits1_iff a).2 (by omega), ?_⟩
   rw [← Bool.not_eq_true, beg1_iff]
   omega
  ·cases h
 | [a, b], h =>
  simp only [wholeL] at h
  split at h
  ·rename_i h1
   simp only [Bool.and_eq_true, decide_eq_true_eq] at h1
   have hx := fs_cases a.toNat
   refine ⟨(fits2_iff a b).2 ⟨by omega, by rw [secB_low a b (by omega)]; exact h1.2⟩, ?_⟩
   rw [← Bool.not_eq_true, beg2_iff]
   omega
  ·cases h
 | [a, b, c], h =>
  simp only [wholeL] at h
  split at h
  ·rename_i h1
   simp only [Bool.and_eq_true, decide_eq_true_eq] at h1
   have hx := fs_cases a.toNat
   refine ⟨(fits3_iff a b c).2 ⟨by omega, h1.1.2, h1.2⟩, ?_⟩
   rw [← Bool.not_eq_true, beg3_iff]
   omega
  ·cases h
 | [a, b, c, d], h =>
  simp only [wholeL] at h
  split at h
  ·rename_i h1
   simp only [Bool.and_eq_true, decide_eq_true_eq] at h1
   have hx := fs_cases a.toNat
   exact ⟨(fits4_iff a b c d).2 ⟨by omega, h1.1.1.2, h1.1.2, h1.2⟩, rfl⟩
  ·cases h
theorem begins_any (v : Value) (l : List UInt8) (B : Nat) (w : World) (hv : BS w B v l) : Calls Tryz.prog 94 #[v] w (BegPost l w) := by
 have hfit := fits_any v l B w hv
 cases hf : fitsL l
 ·have HB : Hid (false = beginsL l) := by
   match l, hf with
   | [], _ => rfl
   | a :: t, hf => rw [beg_fits, hf, Bool.false_and]; rfl
  obtain ⟨A, c, rfl, _⟩ := hv
  unfold FitPost at hfit
  rw [hf] at hfit
  clear hf
  go_enter Tryz.func94, Tryz.ntmps94
  go_wp2_with (go_at_call 129; refine hfit.mono ?_; rintro e w' ⟨rfl, rfl⟩)
  go_ret
  exact begPost_of HB.out
 ·match l, hv, hfit, hf with
  | a :: t, hv, hfit, hf =>
   have hb := beg_fits a t
   rw [hf, Bool.true_and] at hb
   obtain ⟨ad, cp, rfl, h1, h2, ca, _⟩ := hv.lits
   unfold maxLen at h2
   unfold FitPost at hfit
   rw [hf] at hfit
   obtain ⟨x, hx⟩ : ∃ x, a.toNat = x := ⟨_, rfl⟩
   have hx1 : x < 256 := by rw [← hx]; exact a.toNat_lt
   rw [hx] at ca hb
   clear hf hx hv
   have hn : (a :: t).length = t.length + 1 := rfl
   rw [← hn] at hb
   have hn1 : 0 < (a :: t).length := by simp
   clear hn
   have hfs := fs_le x
   have hsz := fsize_any x w hx1
   have HB := Lib.hid hb
   generalize (a :: t).length = n at *
   generalize fsN x = N at *
   clear hb
   go_enter Tryz.func94, Tryz.ntmps94
   go_wp2_with (first
    | (go_at_call 129; refine hfit.mono ?_; rintro e w' ⟨rfl, rfl⟩)
    | (go_at_call 130; refine hsz.mono ?_; rintro e w' ⟨rfl, rfl⟩))
   go_ret
   exact begPost_of HB.out.symm
theorem and31 (x : Int) (h0 : 0 ≤ x) (h1 : x < 2147483648) : bits .and .i32 x 31 = x % 32 := bits_mask .i32 31 (by decide) wraps_i32 5 (by decide) x h0 h1
theorem and15 (x : Int) (h0 : 0 ≤ x) (h1 : x < 2147483648) : bits .and .i32 x 15 = x % 16 := bits_mask .i32 31 (by decide) wraps_i32 4 (by decide) x h0 h1
theorem and7 (x : Int) (h0 : 0 ≤ x) (h1 : x < 2147483648) : bits .and .i32 x 7 = x % 8 := bits_mask .i32 31 (by decide) wraps_i32 3 (by decide) x h0 h1
def RunePost (r : Nat) (w : World) (e : Ending) (w' : World) : Prop := e = .returned (.int .i32 (r : Int)) ∧ w = w'
def Ru2 (m R : Nat) (r i : Value) : Prop := (i = .int .i64 0 ∧ r = .int .i32 (m : Int)) ∨ (i = .int .i64 1 ∧ r = .int .i32 (R : Int))
def Ru3 (m R2 R : Nat) (r i : Value) : Prop := (i = .int .i64 0 ∧ r = .int .i32 (m : Int)) ∨ (i = .int .i64 1 ∧ r = .int .i32 (R2 : Int)) ∨ (i = .int .i64 2 ∧ r = .int .i32 (R : Int))
def Ru4 (m R2 R3 R : Nat) (r i : Value) : Prop := (i = .int .i64 0 ∧ r = .int .i32 (m : Int)) ∨ (i = .int .i64 1 ∧ r = .int .i32 (R2 : Int)) ∨ (i = .int .i64 2 ∧ r = .int .i32 (R3 : Int)) ∨ (i = .int .i64 3 ∧ r = .int .i32 (R : Int))
theorem rune1 (ad : Addr) (cp x : Nat) (w : World) (ca : w.cell? ad = some (.int .u8 (x : Int))) (hcp : cp ≤ 9223372036854775807) (h1 : 1 ≤ cp) (hx : x < 128) : Calls Tryz.prog 167 #[.slice (some ad) 1 cp] w (RunePost x w) := by
 by_cases hc1 : cp = 1
 ·subst hc1
  go_enter Tryz.func167, Tryz.ntmps167
  go_wp2
  go_loop [3, 21] (fun r i => r = .int .i32 (x : Int) ∧ i = .int .i64 0) (fun _ i => 1 - (intOf i).toNat)
  case atStart => exact ⟨rfl, rfl⟩
  case round =>
   obtain ⟨rfl, rfl⟩ := hrel
   go_wp2
   go_ret
   exact ⟨rfl, rfl⟩
 ·go_enter Tryz.func167, Tryz.ntmps167
  go_wp2
  go_loop [3, 21] (fun r i => r = .int .i32 (x : Int) ∧ i = .int .i64 0) (fun _ i => 1 - (intOf i).toNat)
  case atStart => exact ⟨rfl, rfl⟩
  case round =>
   obtain ⟨rfl, rfl⟩ := hrel
   go_wp2
   go_ret
   exact ⟨rfl, rfl⟩
theorem rune2 (ad : Addr) (cp : Nat) (a b : UInt8) (w : World) (ca : w.cell? ad = some (.int .u8 (a.toNat : Int))) (cb : w.cell? ⟨ad.block, ad.off + 1, none⟩ = some (.int .u8 (b.toNat : Int))) (hcp : cp ≤ 9223372036854775807) (h2 : 2 ≤ cp) (h0 : 194 ≤ a.toNat) (h1 : a.toNat < 224) (hc : contB b = true) :
  Calls Tryz.prog 167 #[.slice (some ad) 2 cp] w (RunePost ((a.toNat - 192) * 64 + (b.toNat - 128)) w) := by
 have e1 : bits .and .i32 (a.toNat : Int) 31 = ((a.toNat - 192 : Nat) : Int) := by rw [and31 _ (by omega) (by omega)]; omega
 have e2 := m63 b hc
 rw [contB_iff] at hc
 obtain ⟨m, hm⟩ : ∃ m, a.toNat - 192 = m := ⟨_, rfl⟩
 obtain ⟨v, hv⟩ : ∃ v, b.toNat - 128 = v := ⟨_, rfl⟩
 obtain ⟨R, hR⟩ : ∃ R, m * 64 + v = R := ⟨_, rfl⟩
 have hm2 : m < 32 := by omega
 have hv1 : v < 64 := by omega
 have e4 := or6n m v R (by omega) hv1 hR
 rw [hm, hv, hR]
 rw [hm] at e1
 rw [hv] at e2
 have r2 : R < 2048 := by omega
 clear hm hv hR
 have hcx : ¬ cp = 1 := by omega
 go_enter Tryz.func167, Tryz.ntmps167
 go_wp2
 go_loop [3, 21] (fun r i => Ru2 m R r i) (fun _ i => 1 - (intOf i).toNat)
 case atStart => exact .inl ⟨rfl, rfl⟩
 case round =>
  rcases hrel with ⟨rfl, rfl⟩ | ⟨rfl, rfl⟩
  ·go_wp2
   go_round
   case rel => exact .inr ⟨rfl, rfl⟩
   case measure => simp [intOf]
  ·go_wp2
   go_ret
   exact ⟨rfl, rfl⟩
theorem rune3 (ad : Addr) (cp : Nat) (a b c : UInt8) (w : World) (ca : w.cell? ad = some (.int .u8 (a.toNat : Int))) (cb : w.cell? ⟨ad.block, ad.off + 1, none⟩ = some (.int .u8 (b.toNat : Int))) (cc : w.cell? ⟨ad.block, ad.off + 1 + 1, none⟩ = some (.int .u8 (c.toNat : Int))) (hcp : cp ≤ 9223372036854775807) (h2 : 3 ≤ cp) (h0 : 224 ≤ a.toNat) (h1 : a.toNat < 240) (hb : contB b = true) (hc : contB c = true) :
  Calls Tryz.prog 167 #[.slice (some ad) 3 cp] w (RunePost ((a.toNat - 224) * 4096 + (b.toNat - 128) * 64 + (c.toNat - 128)) w) := by
 have e1 : bits .and .i32 (a.toNat : Int) 15 = ((a.toNat - 224 : Nat) : Int) := by rw [and15 _ (by omega) (by omega)]; omega
 have e2 := m63 b hb
 have e3 := m63 c hc
 rw [contB_iff] at hb hc
 obtain ⟨m, hm⟩ : ∃ m, a.toNat - 224 = m := ⟨_, rfl⟩
 obtain ⟨v, hv⟩ : ∃ v, b.toNat - 128 = v := ⟨_, rfl⟩
 obtain ⟨u, hu⟩ : ∃ u, c.toNat - 128 = u := ⟨_, rfl⟩
 obtain ⟨R2, hR2⟩ : ∃ R, m * 64 + v = R := ⟨_, rfl⟩
 obtain ⟨R, hR⟩ : ∃ R, R2 * 64 + u = R := ⟨_, rfl⟩
 have hm2 : m < 16 := by omega
 have hv1 : v < 64 := by omega
 have hu1 : u < 64 := by omega
 have e4 := or6n m v R2 (by omega) hv1 hR2
 have e7 := or6n R2 u R (by omega) hu1 hR
 rw [hm, hv, hu, show m * 4096 + v * 64 + u = R by omega]
 rw [hm] at e1
 rw [hv] at e2
 rw [hu] at e3
 have r2 : R < 65536 := by omega
 have r3 : R2 < 1024 := by omega
 clear hm hv hu hR hR2
 have hcx : ¬ cp = 1 := by omega
 go_enter Tryz.func167, Tryz.ntmps167
 go_wp2
 go_loop [3, 21] (fun r i => Ru3 m R2 R r i) (fun _ i => 2 - (intOf i).toNat)
 case atStart => exact .inl ⟨rfl, rfl⟩
 case round =>
  rcases hrel with ⟨rfl, rfl⟩ | ⟨rfl, rfl⟩ | ⟨rfl, rfl⟩
  ·go_wp2
   go_round
   case rel => exact .inr (.inl ⟨rfl, rfl⟩)
   case measure => simp [intOf]
  ·go_wp2
   go_round
   case rel => exact .inr (.inr ⟨rfl, rfl⟩)
   case measure => simp [intOf]
  ·go_wp2
   go_ret
   exact ⟨rfl, rfl⟩
theorem rune4 (ad : Addr) (cp : Nat) (a b c d : UInt8) (w : World) (ca : w.cell? ad = some (.int .u8 (a.toNat : Int))) (cb : w.cell? ⟨ad.block, ad.off + 1, none⟩ = some (.int .u8 (b.toNat : Int))) (cc : w.cell? ⟨ad.block, ad.off + 1 + 1, none⟩ = some (.int .u8 (c.toNat : Int))) (cd : w.cell? ⟨ad.block, ad.off + 1 + 2, none⟩ = some (.int .u8 (d.toNat : Int))) (hcp : cp ≤ 9223372036854775807) (h2 : 4 ≤ cp) (h0 : 240 ≤ a.toNat) (h1 : a.toNat ≤ 244) (hb : contB b = true) (hc : contB c = true) (hd : contB d = true) :
  Calls Tryz.prog 167 #[.slice (some ad) 4 cp] w (RunePost ((a.toNat - 240) * 262144 + (b.toNat - 128) * 4096 + (c.toNat - 128) * 64 + (d.toNat - 128)) w) := by
 have e1 : bits .and .i32 (a.toNat : Int) 7 = ((a.toNat - 240 : Nat) : Int) := by rw [and7 _ (by omega) (by omega)]; omega
 have e2 := m63 b hb
 have e3 := m63 c hc
 have e5 := m63 d hd
 rw [contB_iff] at hb hc hd
 obtain ⟨m, hm⟩ : ∃ m, a.toNat - 240 = m := ⟨_, rfl⟩
 obtain ⟨v, hv⟩ : ∃ v, b.toNat - 128 = v := ⟨_, rfl⟩
 obtain ⟨u, hu⟩ : ∃ u, c.toNat - 128 = u := ⟨_, rfl⟩
 obtain ⟨q, hq⟩ : ∃ q, d.toNat - 128 = q := ⟨_, rfl⟩
 obtain ⟨R2, hR2⟩ : ∃ R, m * 64 + v = R := ⟨_, rfl⟩
 obtain ⟨R3, hR3⟩ : ∃ R, R2 * 64 + u = R := ⟨_, rfl⟩
 obtain ⟨R, hR⟩ : ∃ R, R3 * 64 + q = R := ⟨_, rfl⟩
 have hm2 : m < 8 := by omega
 have hv1 : v < 64 := by omega
 have hu1 : u < 64 := by omega
 have hq1 : q < 64 := by omega
 have e4 := or6n m v R2 (by omega) hv1 hR2
 have e7 := or6n R2 u R3 (by omega) hu1 hR3
 have e8 := or6n R3 q R (by omega) hq1 hR
 rw [hm, hv, hu, hq, show m * 262144 + v * 4096 + u * 64 + q = R by omega]
 rw [hm] at e1
 rw [hv] at e2
 rw [hu] at e3
 rw [hq] at e5
 have r2 : R < 2097152 := by omega
 have r3 : R2 < 512 := by omega
 have r4 : R3 < 32768 := by omega
 clear hm hv hu hq hR hR2 hR3
 have hcx : ¬ cp = 1 := by omega
 go_enter Tryz.func167, Tryz.ntmps167
 go_wp2
 go_loop [3, 21] (fun r i => Ru4 m R2 R3 R r i) (fun _ i => 3 - (intOf i).toNat)
 case atStart => exact .inl ⟨rfl, rfl⟩
 case round =>
  rcases hrel with ⟨rfl, rfl⟩ | ⟨rfl, rfl⟩ | ⟨rfl, rfl⟩ | ⟨rfl, rfl⟩
  ·go_wp2
   go_round
   case rel => exact .inr (.inl ⟨rfl, rfl⟩)
   case measure => simp [intOf]
  ·go_wp2
   go_round
   case rel => exact .inr (.inr (.inl ⟨rfl, rfl⟩))
   case measure => simp [intOf]
  ·go_wp2
   go_round
   case rel => exact .inr (.inr (.inr ⟨rfl, rfl⟩))
   case measure => simp [intOf]
  ·go_wp2
   go_ret
   exact ⟨rfl, rfl⟩
theorem rune_any (v : Value) (q : List UInt8) (B : Nat) (w : World) (hv : BS w B v q) (r : Nat) (hw : wholeL q = some r) : Calls Tryz.prog 167 #[v] w (RunePost r w) := by
 match q, hv, hw with
 | [a], hv, hw =>
  obtain ⟨ad, cp, rfl, h1, h2, ca, hcs⟩ := hv.lits
  unfold maxLen at h2
  simp only [wholeL] at hw
  split at hw
  ·injection hw with hw
   subst hw
   exact rune1 ad cp a.toNat w ca (by omega) (by simpa using h1) (by assumption)
  ·cases hw
 | [a, b], hv, hw =>
  obtain ⟨ad, cp, rfl, h1, h2, ca, hcs⟩ := hv.lits
  unfold maxLen at h2
  simp only [wholeL] at hw
  split at hw
  ·rename_i h
   simp only [Bool.and_eq_true, decide_eq_true_eq] at h
   injection hw with hw
   subst hw
   exact rune2 ad cp a b w ca (hcs 0 b rfl) (by omega) (by simpa using h1) h.1.1 h.1.2 h.2
  ·cases hw
 | [a, b, c], hv, hw =>
  obtain ⟨ad, cp, rfl, h1, h2, ca, hcs⟩ := hv.lits
  unfold maxLen at h2
  simp only [wholeL] at hw
  split at hw
  ·rename_i h
   simp only [Bool.and_eq_true, decide_eq_true_eq] at h
   injection hw with hw
   subst hw
   exact rune3 ad cp a b c w ca (hcs 0 b rfl) (hcs 1 c rfl) (by omega) (by simpa using h1) h.1.1.1 h.1.1.2 (secB_cont a b h.1.2) h.2
  ·cases hw
 | [a, b, c, d], hv, hw =>
  obtain ⟨ad, cp, rfl, h1, h2, ca, hcs⟩ := hv.lits
  unfold maxLen at h2
  simp only [wholeL] at hw
  split at hw
  ·rename_i h
   simp only [Bool.and_eq_true, decide_eq_true_eq] at h
   injection hw with hw
   subst hw
   exact rune4 ad cp a b c d w ca (hcs 0 b rfl) (hcs 1 c rfl) (hcs 2 d rfl) (by omega) (by simpa using h1) h.1.1.1.1 h.1.1.1.2 (secB_cont a b h.1.1.2) h.1.2 h.2
  ·cases hw
end Go.Proofs.YtlolgfgcgfjdjaaGreatDoor

namespace Go.Proofs.YtlolgfgcgfjdjaaGreatDoor
open Go.RowKit
set_option linter.unusedVariables false
set_option linter.unusedSimpArgs false
set_option maxHeartbeats 1000000
set_option maxRecDepth 100000
theorem ob_or {w : World} {B1 B2 : Nat} {v1 v2 : Value} {l1 : List UInt8} {l2 : List Int} (h1 : OB w B1 v1 l1) (h2 : OR w B2 v2 l2) : (v2.ownBlock = none ∨ v2.ownBlock ≠ v1.ownBlock) := by
 cases e : v2.ownBlock with
 | none => exact .inl rfl
 | some g =>
  refine .inr fun e2 => ?_
  obtain ⟨c2, f2, hh2⟩ := Lib.ownsRow_kind h2 g e
  obtain ⟨c1, f1, hh1⟩ := Lib.ownsRow_kind h1 g e2.symm
  rw [hh1] at hh2
  injection hh2 with hh2
  injection hh2 with _ hh2 _
  exact absurd hh2 (by decide)
theorem OR.keptB {w w' : World} {B1 B2 : Nat} {v1 v2 : Value} {l1 : List UInt8} {l2 : List Int} (h2 : OR w B2 v2 l2) (h1 : OB w B1 v1 l1) (hg : w.grownBy w' v1.ownBlock) : OR w' B2 v2 l2 := World.ownsRow.kept h2 hg (ob_or h1 h2)
theorem OB.keptR {w w' : World} {B1 B2 : Nat} {v1 v2 : Value} {l1 : List UInt8} {l2 : List Int} (h1 : OB w B1 v1 l1) (h2 : OR w B2 v2 l2) (hg : w.grownBy w' v2.ownBlock) : OB w' B1 v1 l1 := by
 refine World.ownsRow.kept h1 hg ?_
 rcases ob_or h1 h2 with h | h
 ·cases e : v1.ownBlock with
  | none => exact .inl rfl
  | some g => exact .inr (by rw [h]; simp)
 ·exact .inr h.symm
theorem OB.cut0 {w : World} {base g n cap : Nat} {l : List UInt8} (h : OB w base (.slice (some ⟨g, 0, none⟩) n cap) l) : OB w base (.slice (some ⟨g, 0, none⟩) 0 cap) [] := by
 unfold OB at h ⊢
 rcases h.2 with ⟨hv, _⟩ | ⟨g', cap', cur, hv, hb, hg, hnc, hcm, hcs, htake⟩
 ·cases hv
 ·simp only [Value.slice.injEq, Option.some.injEq, Addr.mk.injEq] at hv
  obtain ⟨⟨rfl, _⟩, _, rfl⟩ := hv
  exact ⟨by simp [vBs], .inr ⟨_, _, cur, rfl, hb, hg, by simp, hcm, hcs, by simp [vBs]⟩⟩
theorem OB.formed {w : World} {base : Nat} {v : Value} {l : List UInt8} (h : OB w base v l) (hl : 0 < l.length) : ∃ g cap, v = .slice (some ⟨g, 0, none⟩) l.length cap ∧ cap ≤ 9223372036854775807 := by
 unfold OB at h
 rcases h.2 with ⟨hv, h0⟩ | ⟨g', cap', cur, hv, hb, hg, hnc, hcm, hcs, htake⟩
 ·omega
 ·unfold maxLen at hcm
  exact ⟨g', cap', hv, by omega⟩
theorem step_appR {ops : Array Oper} {o : Oper} {a : Act} {w : World} {K : Act → World → Prop} {Q : Exit → Act → World → Prop} {E : Prop} (hgd : o.guard = none) (s x : Operand)
  (ho : o.op = .call { callee := .builtin .append, args := #[s, x], argTypes := #[91, 91] })
  (base B : Nat) (v u : Value) (l m : List Int) (hs : a.eval s = v) (hx : a.eval x = u) (hown : OR w base v l) (hr : RS w B u m) (hlen : l.length + m.length ≤ 1099511627776) (hbase : base ≤ w.heap.size)
  (h : ∀ v' w', OR w' base v' (l ++ m) → w.grownBy w' v.ownBlock → Below base w w' → K (a.put o.dst v') w') :
  if Region.wanted o (yielded ops a.tmps) = true then Oper.wp Tryz.prog o a w K Q else E := by
 have hw : Region.wanted o (yielded ops a.tmps) = true := by simp [Region.wanted, hgd]
 rw [if_pos hw]
 obtain ⟨v', w', hrun, h2, h3, h4, h5⟩ := run_appR w o.type hown hr hlen hbase
 unfold Oper.wp execOp
 simp only [ho, resolve, invoke, builtin, Sem.run_bind, Sem.run_pure, Result.andThen_ok, List.map_toArray, List.map_cons, List.map_nil, hs, hx, hrun]
 exact h v' w' h2 h3 h4
def InPost (base : Nat) (p : List UInt8) (b : UInt8) (m : List Int) (w : World) (e : Ending) (w' : World) : Prop :=
 ∃ v1 v2, e = .returned (.tuple #[v1, v2]) ∧ OB w' base v1 (stepL p b).1 ∧ OR w' base v2 (m ++ ints (stepL p b).2) ∧ Below base w w'
theorem inPost_of {base : Nat} {p : List UInt8} {b : UInt8} {m : List Int} {w w' : World} {v1 v2 : Value} {q : List UInt8} {o : List Nat} {mo : List Int} (h : stepL p b = (q, o)) (hm : mo = m ++ ints o) (h1 : OB w' base v1 q) (h2 : OR w' base v2 mo) (h3 : Below base w w') :
  InPost base p b m w (.returned (.tuple #[v1, v2])) w' := ⟨v1, v2, rfl, by rw [h]; exact h1, by rw [h, ← hm]; exact h2, h3⟩
theorem in_a1 (v o : Value) (p q : List UInt8) (b : UInt8) (m : List Int) (base : Nat) (w : World) (hv : OB w base v p) (ho : OR w base o m) (hbase : base ≤ w.heap.size) (hpl : p.length ≤ 3) (hml : m.length ≤ 1099511627000)
  (hq : p ++ [b] = q) (hf : fitsL q = true) (hb : beginsL q = true) (hs : stepL p b = (q, [])) :
  Calls Tryz.prog 153 #[v, .int .u8 (b.toNat : Int), o] w (InPost base p b m w) := by
 have HS := Lib.hid hs
 have HB := Lib.hid hb
 have HF := Lib.hid hf
 have HQ := Lib.hid hq
 have HV := Lib.hid hv
 have HO := Lib.hid ho
 have hq0 : 0 < q.length := by rw [← hq]; simp
 clear hs hb hf hq hv ho
 by_cases h1 : q.length = 1
 ·have d1 : decide ((1 : Int) < (q.length : Int)) = false := by simp; omega
  clear h1
  go_enter Tryz.func153, Tryz.ntmps153
  go_wp2_with (first
   | (at_builtin; refine wpl_app _ rfl (.tmp 9) (.tmp 11) rfl base _ _ _ p [b] rfl rfl (HV.out.alloc _) (BS.one w b _) (by simp; omega) (by simp; omega) ?_; intro v1 w1 hown1 hg1 hbel1 _; rw [HQ.out] at hown1; have ho1 := (HO.out.alloc _).keptB (HV.out.alloc _) hg1; obtain ⟨g, cap, rfl, hcap⟩ := hown1.formed hq0; have hb1 := ((Below.refl base w).alloc hbase _).trans hbel1; have hz1 := hb1.size; clear hg1 hbel1)
   | (go_at_call 129; (with_reducible refine (fits_any _ q _ _ hown1.bs).mono ?_); rintro e w' ⟨rfl, rfl⟩; rw [HF.out])
   | (go_at_call 94; (with_reducible refine (begins_any _ q _ _ hown1.bs).mono ?_); rintro e w' ⟨rfl, rfl⟩; rw [HB.out]))
  go_ret2
  exact inPost_of HS.out (by simp [ints]) hown1 ho1 hb1
 ·have d1 : (1 : Int) < (q.length : Int) := by omega
  clear h1
  go_enter Tryz.func153, Tryz.ntmps153
  go_wp2_with (first
   | (at_builtin; refine wpl_app _ rfl (.tmp 9) (.tmp 11) rfl base _ _ _ p [b] rfl rfl (HV.out.alloc _) (BS.one w b _) (by simp; omega) (by simp; omega) ?_; intro v1 w1 hown1 hg1 hbel1 _; rw [HQ.out] at hown1; have ho1 := (HO.out.alloc _).keptB (HV.out.alloc _) hg1; obtain ⟨g, cap, rfl, hcap⟩ := hown1.formed hq0; have hb1 := ((Below.refl base w).alloc hbase _).trans hbel1; have hz1 := hb1.size; clear hg1 hbel1)
   | (go_at_call 129; (with_reducible refine (fits_any _ q _ _ hown1.bs).mono ?_); rintro e w' ⟨rfl, rfl⟩; rw [HF.out])
   | (go_at_call 94; (with_reducible refine (begins_any _ q _ _ hown1.bs).mono ?_); rintro e w' ⟨rfl, rfl⟩; rw [HB.out]))
  go_ret2
  exact inPost_of HS.out (by simp [ints]) hown1 ho1 hb1
theorem in_a2 (v o : Value) (p q : List UInt8) (b : UInt8) (m : List Int) (base : Nat) (w : World) (hv : OB w base v p) (ho : OR w base o m) (hbase : base ≤ w.heap.size) (hpl : p.length ≤ 3) (hml : m.length ≤ 1099511627000)
  (hq : p ++ [b] = q) (hf : fitsL q = true) (hb : beginsL q = false) (r : Nat) (hw : wholeL q = some r) (hs : stepL p b = ([], [r])) :
  Calls Tryz.prog 153 #[v, .int .u8 (b.toNat : Int), o] w (InPost base p b m w) := by
 have HS := Lib.hid hs
 have HB := Lib.hid hb
 have HF := Lib.hid hf
 have HQ := Lib.hid hq
 have HV := Lib.hid hv
 have HO := Lib.hid ho
 have hq0 : 0 < q.length := by rw [← hq]; simp
 clear hs hb hf hq hv ho
 have HW := Lib.hid hw
 clear hw
 by_cases h1 : q.length = 1
 ·have d1 : decide ((1 : Int) < (q.length : Int)) = false := by simp; omega
  clear h1
  go_enter Tryz.func153, Tryz.ntmps153
  go_wp2_with (first
   | (at_builtin; refine wpl_app _ rfl (.tmp 9) (.tmp 11) rfl base _ _ _ p [b] rfl rfl (HV.out.alloc _) (BS.one w b _) (by simp; omega) (by simp; omega) ?_; intro v1 w1 hown1 hg1 hbel1 _; rw [HQ.out] at hown1; have ho1 := (HO.out.alloc _).keptB (HV.out.alloc _) hg1; obtain ⟨g, cap, rfl, hcap⟩ := hown1.formed hq0; have hb1 := ((Below.refl base w).alloc hbase _).trans hbel1; have hz1 := hb1.size; clear hg1 hbel1)
   | (go_at_call 129; (with_reducible refine (fits_any _ q _ _ hown1.bs).mono ?_); rintro e w' ⟨rfl, rfl⟩; rw [HF.out])
   | (go_at_call 94; (with_reducible refine (begins_any _ q _ _ hown1.bs).mono ?_); rintro e w' ⟨rfl, rfl⟩; rw [HB.out]))
  have hown2 : OB w1.drew base (.slice (some ⟨g, 0, none⟩) q.length cap) q := hown1
  have ho2 : OR w1.drew base o m := ho1
  have hb2 : Below base w w1.drew := hb1.drew
  have hz2 : base ≤ w1.drew.heap.size := Nat.le_trans hbase hz1
  clear hown1 ho1 hb1
  go_region_law (first
   | (go_simp; go_at_call 167; (with_reducible refine (rune_any _ q _ _ hown2.bs r HW.out).mono ?_); rintro e w' ⟨rfl, rfl⟩)
   | (refine step_appR rfl (.tmp 39) (.tmp 42) rfl base _ o _ m [(r : Int)] ?_ ?_ (ho2.alloc _) (RS.one _ _ _) (by simp; omega) (by simp; omega) ?_; go_simp; go_simp; intro v3 w3 ho3 hg3 hbel3))
  all_goals
   have hown3 : OB w3 base (.slice (some ⟨g, 0, none⟩) q.length cap) q := (hown2.alloc _).keptR (ho2.alloc _) hg3
   have hb3 : Below base w w3 := (hb2.alloc hz2 _).trans hbel3
   go_wp2
   go_ret2
   exact inPost_of HS.out rfl hown3.cut0 ho3 hb3
 ·have d1 : (1 : Int) < (q.length : Int) := by omega
  clear h1
  go_enter Tryz.func153, Tryz.ntmps153
  go_wp2_with (first
   | (at_builtin; refine wpl_app _ rfl (.tmp 9) (.tmp 11) rfl base _ _ _ p [b] rfl rfl (HV.out.alloc _) (BS.one w b _) (by simp; omega) (by simp; omega) ?_; intro v1 w1 hown1 hg1 hbel1 _; rw [HQ.out] at hown1; have ho1 := (HO.out.alloc _).keptB (HV.out.alloc _) hg1; obtain ⟨g, cap, rfl, hcap⟩ := hown1.formed hq0; have hb1 := ((Below.refl base w).alloc hbase _).trans hbel1; have hz1 := hb1.size; clear hg1 hbel1)
   | (go_at_call 129; (with_reducible refine (fits_any _ q _ _ hown1.bs).mono ?_); rintro e w' ⟨rfl, rfl⟩; rw [HF.out])
   | (go_at_call 94; (with_reducible refine (begins_any _ q _ _ hown1.bs).mono ?_); rintro e w' ⟨rfl, rfl⟩; rw [HB.out]))
  have hown2 : OB w1.drew base (.slice (some ⟨g, 0, none⟩) q.length cap) q := hown1
  have ho2 : OR w1.drew base o m := ho1
  have hb2 : Below base w w1.drew := hb1.drew
  have hz2 : base ≤ w1.drew.heap.size := Nat.le_trans hbase hz1
  clear hown1 ho1 hb1
  go_region_law (first
   | (go_simp; go_at_call 167; (with_reducible refine (rune_any _ q _ _ hown2.bs r HW.out).mono ?_); rintro e w' ⟨rfl, rfl⟩)
   | (refine step_appR rfl (.tmp 39) (.tmp 42) rfl base _ o _ m [(r : Int)] ?_ ?_ (ho2.alloc _) (RS.one _ _ _) (by simp; omega) (by simp; omega) ?_; go_simp; go_simp; intro v3 w3 ho3 hg3 hbel3))
  all_goals
   have hown3 : OB w3 base (.slice (some ⟨g, 0, none⟩) q.length cap) q := (hown2.alloc _).keptR (ho2.alloc _) hg3
   have hb3 : Below base w w3 := (hb2.alloc hz2 _).trans hbel3
   go_wp2
   go_ret2
   exact inPost_of HS.out rfl hown3.cut0 ho3 hb3
theorem in_a3 (v o : Value) (p q : List UInt8) (b : UInt8) (m : List Int) (base : Nat) (w : World) (hv : OB w base v p) (ho : OR w base o m) (hbase : base ≤ w.heap.size) (hpl : p.length ≤ 3) (hml : m.length ≤ 1099511627000)
  (hq : p ++ [b] = q) (hn : q.length = 1) (hf : fitsL q = false) (hb : beginsL q = false) (hs : stepL p b = ([], [65533])) :
  Calls Tryz.prog 153 #[v, .int .u8 (b.toNat : Int), o] w (InPost base p b m w) := by
 have HS := Lib.hid hs
 have HB := Lib.hid hb
 have HF := Lib.hid hf
 have HQ := Lib.hid hq
 have HV := Lib.hid hv
 have HO := Lib.hid ho
 have hq0 : 0 < q.length := by rw [← hq]; simp
 clear hs hb hf hq hv ho
 have d1 : decide ((1 : Int) < (q.length : Int)) = false := by simp; omega
 clear hn
 go_enter Tryz.func153, Tryz.ntmps153
 go_wp2_with (first
  | (at_builtin; refine wpl_app _ rfl (.tmp 9) (.tmp 11) rfl base _ _ _ p [b] rfl rfl (HV.out.alloc _) (BS.one w b _) (by simp; omega) (by simp; omega) ?_; intro v1 w1 hown1 hg1 hbel1 _; rw [HQ.out] at hown1; have ho1 := (HO.out.alloc _).keptB (HV.out.alloc _) hg1; obtain ⟨g, cap, rfl, hcap⟩ := hown1.formed hq0; have hb1 := ((Below.refl base w).alloc hbase _).trans hbel1; have hz1 := Nat.le_trans hbase hb1.size; clear hg1 hbel1)
  | (go_at_call 129; (with_reducible refine (fits_any _ q _ _ hown1.bs).mono ?_); rintro e w' ⟨rfl, rfl⟩; rw [HF.out])
  | (go_at_call 94; (with_reducible refine (begins_any _ q _ _ hown1.bs).mono ?_); rintro e w' ⟨rfl, rfl⟩; rw [HB.out]))
 have hown2 : OB w1.drew base (.slice (some ⟨g, 0, none⟩) q.length cap) q := hown1
 have ho2 : OR w1.drew base o m := ho1
 have hb2 : Below base w w1.drew := hb1.drew
 have hz2 : base ≤ w1.drew.heap.size := hz1
 clear hown1 ho1 hb1
 go_region_law (refine step_appR rfl (.tmp 46) (.tmp 47) rfl base _ o _ m [(65533 : Int)] ?_ ?_ (ho2.alloc _) (RS.one _ _ _) (by simp; omega) (by simp; omega) ?_; go_simp; go_simp; intro v3 w3 ho3 hg3 hbel3)
 all_goals
  have hown3 : OB w3 base (.slice (some ⟨g, 0, none⟩) q.length cap) q := (hown2.alloc _).keptR (ho2.alloc _) hg3
  have hb3 : Below base w w3 := (hb2.alloc hz2 _).trans hbel3
  go_wp2
  go_ret2
  exact inPost_of HS.out rfl hown3.cut0 ho3 hb3
theorem in_b1 (v o : Value) (p q : List UInt8) (b : UInt8) (m : List Int) (base : Nat) (w : World) (hv : OB w base v p) (ho : OR w base o m) (hbase : base ≤ w.heap.size) (hpl : p.length ≤ 3) (hml : m.length ≤ 1099511627000)
  (hq : p ++ [b] = q) (hn : 1 < q.length) (hf : fitsL q = false) (hb : beginsL [b] = true) (hf2 : fitsL [b] = true) (hs : stepL p b = ([b], [65533])) :
  Calls Tryz.prog 153 #[v, .int .u8 (b.toNat : Int), o] w (InPost base p b m w) := by
 have HS := Lib.hid hs
 have HB := Lib.hid hb
 have HF := Lib.hid hf
 have HQ := Lib.hid hq
 have HV := Lib.hid hv
 have HO := Lib.hid ho
 have hq0 : 0 < q.length := by rw [← hq]; simp
 clear hs hb hf hq hv ho
 have HF2 := Lib.hid hf2
 clear hf2
 have d1 : (1 : Int) < (q.length : Int) := by omega
 go_enter Tryz.func153, Tryz.ntmps153
 go_wp2_with (first
  | (at_builtin; refine wpl_app _ rfl (.tmp 9) (.tmp 11) rfl base _ _ _ p [b] rfl rfl (HV.out.alloc _) (BS.one w b _) (by simp; omega) (by simp; omega) ?_; intro v1 w1 hown1 hg1 hbel1 _; rw [HQ.out] at hown1; have ho1 := (HO.out.alloc _).keptB (HV.out.alloc _) hg1; obtain ⟨g, cap, rfl, hcap⟩ := hown1.formed hq0; have hb1 := ((Below.refl base w).alloc hbase _).trans hbel1; have hz1 := Nat.le_trans hbase hb1.size; clear hg1 hbel1)
  | (go_at_call 129; (with_reducible refine (fits_any _ q _ _ hown1.bs).mono ?_); rintro e w' ⟨rfl, rfl⟩; rw [HF.out])
  | (at_builtin; refine wpl_appR _ rfl (.tmp 21) (.tmp 22) rfl base _ _ _ m [(65533 : Int)] rfl rfl (ho1.alloc _) (RS.oneAt _ _ _ _ (by simp)) (by simp; omega) (by simp; omega) ?_; intro v2 w2 ho2 hg2 hbel2 _; have hown2 := ((hown1.alloc _).keptR (ho1.alloc _) hg2).cut0; have hb2 := (hb1.alloc hz1 _).trans hbel2; have hz2 := Nat.le_trans hbase hb2.size; clear hg2 hbel2 hown1 ho1 hb1 hz1)
  | (at_builtin; refine wpl_app _ rfl (.tmp 25) (.tmp 27) rfl base _ _ _ [] [b] rfl rfl (hown2.alloc _) (BS.one w2 b _) (by simp) (by simp; omega) ?_; intro v3 w3 hown3 hg3 hbel3 _; have ho3 := (ho2.alloc _).keptB (hown2.alloc _) hg3; rw [List.nil_append] at hown3; obtain ⟨g3, cap3, rfl, hcap3⟩ := hown3.formed (by simp); have hown3 : OB w3 base (.slice (some ⟨g3, 0, none⟩) 1 cap3) [b] := hown3; have hb3 := (hb2.alloc hz2 _).trans hbel3; have hz3 := Nat.le_trans hbase hb3.size; clear hg3 hbel3 hown2 ho2 hb2 hz2)
  | (go_at_call 94; (with_reducible refine (begins_any _ [b] _ _ hown3.bs).mono ?_); rintro e w' ⟨rfl, rfl⟩; rw [HB.out])
  | (go_at_call 129; (with_reducible refine (fits_any _ [b] _ _ hown3.bs).mono ?_); rintro e w' ⟨rfl, rfl⟩; rw [HF2.out]))
 go_ret2
 exact inPost_of HS.out rfl hown3 ho3 hb3
theorem in_b2 (v o : Value) (p q : List UInt8) (b : UInt8) (m : List Int) (base : Nat) (w : World) (hv : OB w base v p) (ho : OR w base o m) (hbase : base ≤ w.heap.size) (hpl : p.length ≤ 3) (hml : m.length ≤ 1099511627000)
  (hq : p ++ [b] = q) (hn : 1 < q.length) (hf : fitsL q = false) (hb : beginsL [b] = false) (hf2 : fitsL [b] = true) (r : Nat) (hw : wholeL [b] = some r) (hs : stepL p b = ([], [65533, r])) :
  Calls Tryz.prog 153 #[v, .int .u8 (b.toNat : Int), o] w (InPost base p b m w) := by
 have HS := Lib.hid hs
 have HB := Lib.hid hb
 have HF := Lib.hid hf
 have HQ := Lib.hid hq
 have HV := Lib.hid hv
 have HO := Lib.hid ho
 have hq0 : 0 < q.length := by rw [← hq]; simp
 clear hs hb hf hq hv ho
 have HF2 := Lib.hid hf2
 clear hf2
 have d1 : (1 : Int) < (q.length : Int) := by omega
 have HW := Lib.hid hw
 clear hw
 go_enter Tryz.func153, Tryz.ntmps153
 go_wp2_with (first
  | (at_builtin; refine wpl_app _ rfl (.tmp 9) (.tmp 11) rfl base _ _ _ p [b] rfl rfl (HV.out.alloc _) (BS.one w b _) (by simp; omega) (by simp; omega) ?_; intro v1 w1 hown1 hg1 hbel1 _; rw [HQ.out] at hown1; have ho1 := (HO.out.alloc _).keptB (HV.out.alloc _) hg1; obtain ⟨g, cap, rfl, hcap⟩ := hown1.formed hq0; have hb1 := ((Below.refl base w).alloc hbase _).trans hbel1; have hz1 := Nat.le_trans hbase hb1.size; clear hg1 hbel1)
  | (go_at_call 129; (with_reducible refine (fits_any _ q _ _ hown1.bs).mono ?_); rintro e w' ⟨rfl, rfl⟩; rw [HF.out])
  | (at_builtin; refine wpl_appR _ rfl (.tmp 21) (.tmp 22) rfl base _ _ _ m [(65533 : Int)] rfl rfl (ho1.alloc _) (RS.oneAt _ _ _ _ (by simp)) (by simp; omega) (by simp; omega) ?_; intro v2 w2 ho2 hg2 hbel2 _; have hown2 := ((hown1.alloc _).keptR (ho1.alloc _) hg2).cut0; have hb2 := (hb1.alloc hz1 _).trans hbel2; have hz2 := Nat.le_trans hbase hb2.size; clear hg2 hbel2 hown1 ho1 hb1 hz1)
  | (at_builtin; refine wpl_app _ rfl (.tmp 25) (.tmp 27) rfl base _ _ _ [] [b] rfl rfl (hown2.alloc _) (BS.one w2 b _) (by simp) (by simp; omega) ?_; intro v3 w3 hown3 hg3 hbel3 _; have ho3 := (ho2.alloc _).keptB (hown2.alloc _) hg3; rw [List.nil_append] at hown3; obtain ⟨g3, cap3, rfl, hcap3⟩ := hown3.formed (by simp); have hown3 : OB w3 base (.slice (some ⟨g3, 0, none⟩) 1 cap3) [b] := hown3; have hb3 := (hb2.alloc hz2 _).trans hbel3; have hz3 := Nat.le_trans hbase hb3.size; clear hg3 hbel3 hown2 ho2 hb2 hz2)
  | (go_at_call 94; (with_reducible refine (begins_any _ [b] _ _ hown3.bs).mono ?_); rintro e w' ⟨rfl, rfl⟩; rw [HB.out])
  | (go_at_call 129; (with_reducible refine (fits_any _ [b] _ _ hown3.bs).mono ?_); rintro e w' ⟨rfl, rfl⟩; rw [HF2.out]))
 have hown4 : OB w3.drew base (.slice (some ⟨g3, 0, none⟩) 1 cap3) [b] := hown3
 have ho4 : OR w3.drew base v2 (m ++ [65533]) := ho3
 have hb4 : Below base w w3.drew := hb3.drew
 have hz4 : base ≤ w3.drew.heap.size := hz3
 clear hown3 ho3 hb3
 go_region_law (first
  | (go_simp; go_at_call 167; (with_reducible refine (rune_any _ [b] _ _ hown4.bs r HW.out).mono ?_); rintro e w' ⟨rfl, rfl⟩)
  | (refine step_appR rfl (.tmp 39) (.tmp 42) rfl base _ v2 _ (m ++ [65533]) [(r : Int)] ?_ ?_ (ho4.alloc _) (RS.one _ _ _) (by simp; omega) (by simp; omega) ?_; go_simp; go_simp; intro v5 w5 ho5 hg5 hbel5))
 all_goals
  have hown5 : OB w5 base (.slice (some ⟨g3, 0, none⟩) 1 cap3) [b] := (hown4.alloc _).keptR (ho4.alloc _) hg5
  have hb5 : Below base w w5 := (hb4.alloc hz4 _).trans hbel5
  go_wp2
  go_ret2
  exact inPost_of HS.out (by simp [ints]) hown5.cut0 ho5 hb5
theorem in_b3 (v o : Value) (p q : List UInt8) (b : UInt8) (m : List Int) (base : Nat) (w : World) (hv : OB w base v p) (ho : OR w base o m) (hbase : base ≤ w.heap.size) (hpl : p.length ≤ 3) (hml : m.length ≤ 1099511627000)
  (hq : p ++ [b] = q) (hn : 1 < q.length) (hf : fitsL q = false) (hb : beginsL [b] = false) (hf2 : fitsL [b] = false) (hs : stepL p b = ([], [65533, 65533])) :
  Calls Tryz.prog 153 #[v, .int .u8 (b.toNat : Int), o] w (InPost base p b m w) := by
 have HS := Lib.hid hs
 have HB := Lib.hid hb
 have HF := Lib.hid hf
 have HQ := Lib.hid hq
 have HV := Lib.hid hv
 have HO := Lib.hid ho
 have hq0 : 0 < q.length := by rw [← hq]; simp
 clear hs hb hf hq hv ho
 have HF2 := Lib.hid hf2
 clear hf2
 have d1 : (1 : Int) < (q.length : Int) := by omega
 go_enter Tryz.func153, Tryz.ntmps153
 go_wp2_with (first
  | (at_builtin; refine wpl_app _ rfl (.tmp 9) (.tmp 11) rfl base _ _ _ p [b] rfl rfl (HV.out.alloc _) (BS.one w b _) (by simp; omega) (by simp; omega) ?_; intro v1 w1 hown1 hg1 hbel1 _; rw [HQ.out] at hown1; have ho1 := (HO.out.alloc _).keptB (HV.out.alloc _) hg1; obtain ⟨g, cap, rfl, hcap⟩ := hown1.formed hq0; have hb1 := ((Below.refl base w).alloc hbase _).trans hbel1; have hz1 := Nat.le_trans hbase hb1.size; clear hg1 hbel1)
  | (go_at_call 129; (with_reducible refine (fits_any _ q _ _ hown1.bs).mono ?_); rintro e w' ⟨rfl, rfl⟩; rw [HF.out])
  | (at_builtin; refine wpl_appR _ rfl (.tmp 21) (.tmp 22) rfl base _ _ _ m [(65533 : Int)] rfl rfl (ho1.alloc _) (RS.oneAt _ _ _ _ (by simp)) (by simp; omega) (by simp; omega) ?_; intro v2 w2 ho2 hg2 hbel2 _; have hown2 := ((hown1.alloc _).keptR (ho1.alloc _) hg2).cut0; have hb2 := (hb1.alloc hz1 _).trans hbel2; have hz2 := Nat.le_trans hbase hb2.size; clear hg2 hbel2 hown1 ho1 hb1 hz1)
  | (at_builtin; refine wpl_app _ rfl (.tmp 25) (.tmp 27) rfl base _ _ _ [] [b] rfl rfl (hown2.alloc _) (BS.one w2 b _) (by simp) (by simp; omega) ?_; intro v3 w3 hown3 hg3 hbel3 _; have ho3 := (ho2.alloc _).keptB (hown2.alloc _) hg3; rw [List.nil_append] at hown3; obtain ⟨g3, cap3, rfl, hcap3⟩ := hown3.formed (by simp); have hown3 : OB w3 base (.slice (some ⟨g3, 0, none⟩) 1 cap3) [b] := hown3; have hb3 := (hb2.alloc hz2 _).trans hbel3; have hz3 := Nat.le_trans hbase hb3.size; clear hg3 hbel3 hown2 ho2 hb2 hz2)
  | (go_at_call 94; (with_reducible refine (begins_any _ [b] _ _ hown3.bs).mono ?_); rintro e w' ⟨rfl, rfl⟩; rw [HB.out])
  | (go_at_call 129; (with_reducible refine (fits_any _ [b] _ _ hown3.bs).mono ?_); rintro e w' ⟨rfl, rfl⟩; rw [HF2.out]))
 have hown4 : OB w3.drew base (.slice (some ⟨g3, 0, none⟩) 1 cap3) [b] := hown3
 have ho4 : OR w3.drew base v2 (m ++ [65533]) := ho3
 have hb4 : Below base w w3.drew := hb3.drew
 have hz4 : base ≤ w3.drew.heap.size := hz3
 clear hown3 ho3 hb3
 go_region_law (refine step_appR rfl (.tmp 46) (.tmp 47) rfl base _ v2 _ (m ++ [65533]) [(65533 : Int)] ?_ ?_ (ho4.alloc _) (RS.one _ _ _) (by simp; omega) (by simp; omega) ?_; go_simp; go_simp; intro v5 w5 ho5 hg5 hbel5)
 all_goals
  have hown5 : OB w5 base (.slice (some ⟨g3, 0, none⟩) 1 cap3) [b] := (hown4.alloc _).keptR (ho4.alloc _) hg5
  have hb5 : Below base w w5 := (hb4.alloc hz4 _).trans hbel5
  go_wp2
  go_ret2
  exact inPost_of HS.out (by simp [ints]) hown5.cut0 ho5 hb5
theorem in_any (v o : Value) (p : List UInt8) (b : UInt8) (m : List Int) (base : Nat) (w : World) (hv : OB w base v p) (ho : OR w base o m) (hbase : base ≤ w.heap.size) (hml : m.length ≤ 1099511627000) (hp : p = [] ∨ beginsL p = true) :
  Calls Tryz.prog 153 #[v, .int .u8 (b.toNat : Int), o] w (InPost base p b m w) := by
 rcases hp with rfl | hp
 ·have hs := stepL_no [] b rfl
  cases hf : fitsL [b]
  ·have hb : beginsL [b] = false := by rw [beg_fits, hf, Bool.false_and]
   have h0 : ¬ b.toNat < 128 := by
    intro h
    rw [(fits1_iff b).2 (by rw [fs_1 _ h]; omega)] at hf
    cases hf
   rw [firstL_bad b _ h0 hb] at hs
   exact in_a3 v o [] [b] b m base w hv ho hbase (by simp) hml rfl rfl hf hb hs
  ·cases hb : beginsL [b]
   ·obtain ⟨r, hw⟩ := fits_whole [b] hf hb
    have h0 : b.toNat < 128 ∧ r = b.toNat := by
     simp only [wholeL] at hw
     split at hw
     ·injection hw with hw
      exact ⟨by assumption, hw.symm⟩
     ·cases hw
    rw [firstL_ascii b _ h0.1] at hs
    rw [← h0.2] at hs
    exact in_a2 v o [] [b] b m base w hv ho hbase (by simp) hml rfl hf hb r hw hs
   ·have h0 : ¬ b.toNat < 128 := by rw [beg1_iff] at hb; omega
    rw [firstL_lead b _ h0 hb] at hs
    exact in_a1 v o [] [b] b m base w hv ho hbase (by simp) hml rfl hf hb hs
 ·have hl := beginsL_len p hp
  have hq1 : 1 < (p ++ [b]).length := by simp; omega
  cases hf : fitsL (p ++ [b])
  ·have hq : beginsL (p ++ [b]) = false := by
    match p, hp, hf with
    | a :: t, hp, hf =>
     rw [List.cons_append] at hf ⊢
     rw [beg_fits, hf, Bool.false_and]
   have hw : wholeL (p ++ [b]) = none := by
    cases hw : wholeL (p ++ [b]) with
    | none => rfl
    | some r =>
     rw [(whole_fits _ r hw).1] at hf
     cases hf
   have hs := stepL_breaks p b hp hw hq
   cases hf2 : fitsL [b]
   ·have hb : beginsL [b] = false := by rw [beg_fits, hf2, Bool.false_and]
    have h0 : ¬ b.toNat < 128 := by
     intro h
     rw [(fits1_iff b).2 (by rw [fs_1 _ h]; omega)] at hf2
     cases hf2
    rw [firstL_bad b _ h0 hb] at hs
    exact in_b3 v o p _ b m base w hv ho hbase hl.2 hml rfl hq1 hf hb hf2 hs
   ·cases hb : beginsL [b]
    ·obtain ⟨r, hw2⟩ := fits_whole [b] hf2 hb
     have h0 : b.toNat < 128 ∧ r = b.toNat := by
      simp only [wholeL] at hw2
      split at hw2
      ·injection hw2 with hw2
       exact ⟨by assumption, hw2.symm⟩
      ·cases hw2
     rw [firstL_ascii b _ h0.1] at hs
     rw [← h0.2] at hs
     exact in_b2 v o p _ b m base w hv ho hbase hl.2 hml rfl hq1 hf hb hf2 r hw2 hs
    ·have h0 : ¬ b.toNat < 128 := by rw [beg1_iff] at hb; omega
     rw [firstL_lead b _ h0 hb] at hs
     exact in_b1 v o p _ b m base w hv ho hbase hl.2 hml rfl hq1 hf hb hf2 hs
  ·cases hb : beginsL (p ++ [b])
   ·obtain ⟨r, hw⟩ := fits_whole _ hf hb
    exact in_a2 v o p _ b m base w hv ho hbase hl.2 hml rfl hf hb r hw (stepL_some p b r hp hw)
   ·have hw : wholeL (p ++ [b]) = none := by
     cases hw : wholeL (p ++ [b]) with
     | none => rfl
     | some r =>
      rw [(whole_fits _ r hw).2] at hb
      cases hb
    exact in_a1 v o p _ b m base w hv ho hbase hl.2 hml rfl hf hb (stepL_pends p b hp hw hb)
end Go.Proofs.YtlolgfgcgfjdjaaGreatDoor

namespace Go.Proofs.YtlolgfgcgfjdjaaGreatDoor
open Go.RowKit
set_option linter.unusedVariables false
set_option linter.unusedSimpArgs false
set_option maxHeartbeats 400000
set_option maxRecDepth 100000
def StepPostO (p : List UInt8) (b : UInt8) (w : World) (e : Ending) (w' : World) : Prop :=
 ∃ v1 v2, e = .returned (.tuple #[v1, v2]) ∧ BN w' w.heap.size v1 (stepL p b).1 ∧ OR w' w.heap.size v2 (ints (stepL p b).2) ∧ Below w.heap.size w w'
theorem stepPost_no {p : List UInt8} {b : UInt8} {w w' : World} {e : Ending} (hp : beginsL p = false) (h : InPost w.heap.size [] b [] w e w') : StepPostO p b w e w' := by
 obtain ⟨v1, v2, he, h1, h2, h3⟩ := h
 rw [List.nil_append] at h2
 have e1 : stepL p b = stepL [] b := by rw [stepL_no p b hp, stepL_no [] b rfl]
 exact ⟨v1, v2, he, by rw [e1]; exact h1.bn, by rw [e1]; exact h2, h3⟩
theorem stepPost_yes {p : List UInt8} {b : UInt8} {w w1 w' : World} {e : Ending} (hb : Below w.heap.size w w1) (h : InPost w.heap.size p b [] w1 e w') : StepPostO p b w e w' := by
 obtain ⟨v1, v2, he, h1, h2, h3⟩ := h
 rw [List.nil_append] at h2
 exact ⟨v1, v2, he, h1.bn, h2, hb.trans h3⟩
theorem ustepO_any (v : Value) (p : List UInt8) (b : UInt8) (w : World) (hv : BS w w.heap.size v p) (hl : p.length ≤ 1048576) : Calls Tryz.prog 133 #[v, .int .u8 (b.toNat : Int)] w (StepPostO p b w) := by
 have HV := Lib.hid hv
 obtain ⟨A, c, rfl, g1, g2, _⟩ := hv.at_
 unfold maxLen at g2
 clear hv
 cases hp : beginsL p
 ·have HP := Lib.hid hp
  clear hp
  have hin := in_any (.slice none 0 0) (.slice none 0 0) [] b [] w.heap.size w (OB.nil _ _) (OR.nil _ _) (Nat.le_refl _) (by simp) (.inl rfl)
  go_enter Tryz.func133, Tryz.ntmps133
  go_wp2_with (first
   | (go_at_call 94; (with_reducible refine (begins_any _ p _ _ HV.out).mono ?_); rintro e w' ⟨rfl, rfl⟩; rw [HP.out])
   | (go_at_call 153; (with_reducible refine hin.mono ?_); intro e w2 hpost; have hst := stepPost_no HP.out hpost; obtain ⟨v1, v2, rfl, _⟩ := hpost))
  go_ret2
  exact hst
 ·have HP := Lib.hid hp
  clear hp
  go_enter Tryz.func133, Tryz.ntmps133
  go_wp2_with (first
   | (go_at_call 94; (with_reducible refine (begins_any _ p _ _ HV.out).mono ?_); rintro e w' ⟨rfl, rfl⟩; rw [HP.out])
   | (at_builtin; refine wpl_app _ rfl (.tmp 9) (.tmp 10) rfl w.heap.size _ (.slice none 0 0) _ [] p rfl rfl (OB.nil _ _) HV.out (by simp; omega) (Nat.le_refl _) ?_; intro v1 w1 hown0 hg1 hbel1 _; have hown1 : OB w1 w.heap.size v1 p := hown0; clear hown0 hg1; have hz1 := hbel1.size)
   | (go_at_call 153; (with_reducible refine (in_any _ _ p b [] w.heap.size _ hown1 (OR.nil _ _) hz1 (by simp) (.inr HP.out)).mono ?_); intro e w2 hpost; have hst := stepPost_yes hbel1 hpost; obtain ⟨v1, v2, rfl, _⟩ := hpost))
  go_ret2
  exact hst
end Go.Proofs.YtlolgfgcgfjdjaaGreatDoor

namespace Go.Proofs.YtlolgfgcgfjdjaaGreatDoor
open Go.RowKit
set_option linter.unusedVariables false
set_option linter.unusedSimpArgs false
set_option maxHeartbeats 1000000
set_option maxRecDepth 100000
def GrRel (base : Nat) (S : Nat → Prop) (av : Value) (l : List Ac) (R : List Nat) (w4 : World) (o i : Value) (wr : World) : Prop :=
 ∃ k : Nat, k ≤ R.length ∧ i = .int .i64 (k : Int) ∧ OA wr base S o (l ++ printsL (R.take k)) ∧ Fr (fun x => av.ownBlock = some x) w4 wr ∧ (o.ownBlock = av.ownBlock ∨ ∃ g, o.ownBlock = some g ∧ w4.heap.size ≤ g)
theorem gr_post {w w4 w5 : World} {base : Nat} {B S : Nat → Prop} {vp vi vu av v1 o : Value} {ps : List Int} {is us Q : List UInt8} {l l' : List Ac} (h : StL w base B vp vi vu av ps is us l) (hS : ∀ x, S x → B x) (hb4 : Below w.heap.size w w4) (hz4 : w.heap.size + 1 + 1 ≤ w4.heap.size) (hbn : BN w4 (w.heap.size + 1 + 1) v1 Q) (hF : Fr (fun x => av.ownBlock = some x) w4 w5) (ho : OA w5 base S o l') (hv : o.ownBlock = av.ownBlock ∨ ∃ g, o.ownBlock = some g ∧ w4.heap.size ≤ g) (hbase : base ≤ w.heap.size) :
  VPost w base B { prM 0 with utf := Q } l' (.returned (.tuple #[.agg #[.int .i64 0, .int .u8 0, .slice none 0 0, .slice none 0 0, v1], o])) (wset w w5 (.int .i64 0) (.int .u8 0) (.slice none 0 0) (.slice none 0 0) v1) := by
 have hav : ∀ x, av.ownBlock = some x → B x := fun x e => by obtain ⟨S', -, -, -, -, -, h6⟩ := h; exact h6 x e
 have hlt := h.lt
 have hu : SL vB w5 (NewB w4 (w.heap.size + 1 + 1)) v1 Q := hbn.sl.keep (fun q hq => World.cell?_of_block (hF.block _ hq.2 (fun e => by have := (hlt _ (hav _ e)).2; have := hq.1; omega)))
 have hz5 := hF.size
 have hst : StL w5 base (fun x => B x ∨ NewB w4 (w.heap.size + 1 + 1) x ∨ o.ownBlock = some x) (.slice none 0 0) (.slice none 0 0) v1 o [] [] Q l' := by
  refine ⟨fun x => S x ∨ NewB w4 (w.heap.size + 1 + 1) x, ⟨OI.nil _ _, OB.nil _ _, hu.mono (fun x hx => .inr hx), ho.weak (fun x hx => .inl hx) (fun g e hx => ?_)⟩, fun x hx => hx.elim (fun h => .inl (hS x h)) (fun h => .inr (.inl h)), fun x hx => ?_, fun g e => by (cases e), fun g e => by (cases e), fun g e => .inr (.inr e)⟩
  ·rcases hx with hx | hx
   ·obtain ⟨xs, _, _, c⟩ := ho; exact c g e hx
   ·rcases hv with e2 | ⟨g2, e2, e3⟩
    ·rw [e2] at e; have := (hlt _ (hav _ e)).2; have := hx.1; omega
    ·rw [e2] at e; injection e with e; have := hx.2; omega
  ·rcases hx with hx | hx | hx
   ·exact ⟨(hlt x hx).1, by have := (hlt x hx).2; omega⟩
   ·exact ⟨by have := hx.1; omega, by have := hx.2; omega⟩
   ·exact ho.lt x hx
 refine vend_w (fun x hx => (hlt x hx).2) hst (fun x hx => ?_) ((Fr.of hb4 B).trans hF (fun x e => .inl (hav x e))) ⟨rfl, rfl, rfl, rfl, rfl⟩
 rcases hx with hx | hx | hx
 ·exact .inl hx
 ·exact .inr hx.1
 ·rcases hv with e2 | ⟨g2, e2, e3⟩
  ·rw [e2] at hx; exact .inl (hav x hx)
  ·rw [e2] at hx; injection hx with hx; exact .inr (by omega)
theorem gr_next {base : Nat} {S : Nat → Prop} {av o v3 : Value} {l : List Ac} {R : List Nat} {w4 wr w3 : World} {x : Obj} {k : Nat} {a : Ac} (hlt : k < R.length) (hs : printsL (R.take (k + 1)) = printsL (R.take k) ++ [a]) (hF : Fr (fun x => av.ownBlock = some x) w4 wr) (hv : o.ownBlock = av.ownBlock ∨ ∃ g, o.ownBlock = some g ∧ w4.heap.size ≤ g)
  (ho3 : OA w3 base (fun x => S x ∨ False) v3 (l ++ printsL (R.take k) ++ [a])) (hg3 : (wr.alloc x).grownBy w3 o.ownBlock) (hv3 : v3.ownBlock = o.ownBlock ∨ v3.ownBlock = some (wr.alloc x).heap.size) : GrRel base S av l R w4 v3 (.int .i64 ((k : Int) + 1)) w3 := by
 have hz := hF.size
 have hz2 : (wr.alloc x).heap.size = wr.heap.size + 1 := by simp
 refine ⟨k + 1, hlt, by go_num, ?_, (hF.alloc x).grown hg3 (fun g e => ?_), ?_⟩
 ·rw [hs, ← List.append_assoc]
  exact ho3.weak (fun _ h => h.elim id False.elim) (fun g e h => by obtain ⟨xs, _, _, c⟩ := ho3; exact c g e (.inl h))
 ·rcases hv with e2 | ⟨g2, e2, e3⟩
  ·exact .inl (e2.symm.trans e)
  ·rw [e2] at e; injection e with e; exact .inr (by omega)
 ·rcases hv3 with e4 | e4
  ·rcases hv with e2 | ⟨g2, e2, e3⟩
   ·exact .inl (e4.trans e2)
   ·exact .inr ⟨g2, e4.trans e2, e3⟩
  ·exact .inr ⟨_, e4, by omega⟩
theorem OR.lo {w4 w : World} {x y : Obj} {Ar : Option Addr} {n c : Nat} {l : List Int} (h : OR w4 ((w.alloc x).alloc y).heap.size (.slice Ar n c) l) : ∀ ad, Ar = some ad → w.heap.size + 1 + 1 ≤ ad.block := by
 intro ad e
 have := (World.ownsRow.lt h ad.block (by rw [e]; rfl)).1
 rw [(two_new w x y).2] at this
 exact this
theorem ground_any (vp vi vu av : Value) (p : Pr) (b : UInt8) (l : List Ac) (base : Nat) (B : Nat → Prop) (w : World) (h : StL w base B vp vi vu av p.params p.inter p.utf l) (hbase : base ≤ w.heap.size) (hl : l.length ≤ 1099511627000) (hul : p.utf.length ≤ 3) :
  Calls Tryz.prog 103 #[.agg #[.int .i64 (p.mode : Int), .int .u8 (p.priv : Int), vp, vi, vu], .int .u8 (b.toNat : Int), av] w (VPost w base B { prM 0 with utf := (stepL p.utf b).1 } (l ++ printsL (stepL p.utf b).2)) := by
 have H := Lib.hid h
 have HL : Hid (∀ x, B x → x < w.heap.size) := fun x hx => (h.lt x hx).2
 obtain ⟨S, a0, a1, a2, -, -, a3⟩ := h.acts
 have HA := Lib.hid a0
 have HSB := Lib.hid a1
 have HAV := Lib.hid a2
 have HU : Hid (BS w w.heap.size vu p.utf) := a3.bs (fun x hx => (h.lt x (a1 x hx)).2)
 obtain ⟨Ap, cp, Ai, ci, Au, cu, Aa, ca, rfl, rfl, rfl, rfl, -⟩ := h.form
 have hst := stepL_len p.utf b
 obtain ⟨⟨Q, R⟩, hst2⟩ : ∃ X, stepL p.utf b = X := ⟨_, rfl⟩
 rw [hst2] at hst ⊢
 have HST := Lib.hid hst2
 clear h a0 a1 a2 a3 hst2
 have HU2 : Hid (∀ x y : Obj, BS ((w.alloc x).alloc y) ((w.alloc x).alloc y).heap.size (.slice Au p.utf.length cu) p.utf) := fun x y => (HU.out.below (two_new w x y).1).more (two_new w x y).1.size
 have HB : Hid (∀ (x y : Obj) (w4 : World), Below ((w.alloc x).alloc y).heap.size ((w.alloc x).alloc y) w4 → Below w.heap.size w w4 ∧ w.heap.size + 1 + 1 ≤ w4.heap.size) := fun x y w4 hb => ⟨(two_new w x y).1.trans (hb.mono (two_new w x y).1.size), by have := hb.size; have := (two_new w x y).2; omega⟩
 have HBN : Hid (∀ (x y : Obj) (w4 : World), ∀ {v1 : Value}, BN w4 ((w.alloc x).alloc y).heap.size v1 Q → BN w4 (w.heap.size + 1 + 1) v1 Q) := fun x y w4 v1 hb => by rw [(two_new w x y).2] at hb; exact hb
 go_enter Tryz.func103, Tryz.ntmps103
 go_wp2_with (go_at_call 133; refine (ustepO_any _ p.utf b _ (HU2.out _ _) (by omega)).mono ?_; rintro e w4 ⟨v1, v2, rfl, h1, h2, hb4⟩; rw [HST.out] at h1 h2; have hb5 := HB.out _ _ _ hb4; obtain ⟨k0, k1⟩ := two_keptB (by rw [← (two_new w _ _).2]; exact hb4); have K1 := Lib.hid k1; have H1 := Lib.hid (HBN.out _ _ _ h1); have H2 := Lib.hid h2; have HB4 := Lib.hid hb5; obtain ⟨Aq, cq, rfl, q1, q2⟩ := h1.sl.form; obtain ⟨Ar, cr, rfl, r1, r2, -⟩ := h2.bs.at_; have HW2 := Lib.hid (OR.lo h2); rw [ints_len] at r1 H2 ⊢; clear h1 h2 hb4 hb5 k0 k1)
 have HF0 := Lib.hid (HA.out.below (fun x hx => HL.out x (HSB.out x hx)) HB4.out.1)
 go_loopw [2, 21] (fun o i wr => GrRel base S (.slice Aa l.length ca) l R w4 o i wr) (fun _ i _ => R.length - (intOf i).toNat)
 case atStart => exact ⟨0, Nat.zero_le _, rfl, by simpa [printsL] using HF0.out, Fr.refl _ _, .inl rfl⟩
 case round =>
  obtain ⟨k, hk, rfl, ho, hF, hv⟩ := hrel
  have hz := hF.size
  have hlt0 : ∀ x, (Value.slice Aa l.length ca).ownBlock = some x → x < w.heap.size := fun x e => HL.out x (HAV.out x e)
  have hzz := HB4.out.2
  by_cases hlt : k < R.length
  ·obtain ⟨ad, hA, hc, hab⟩ : ∃ ad, Ar = some ad ∧ w4.cell? (ad.add k) = some (vR (Int.ofNat R[k])) ∧ w.heap.size + 1 + 1 ≤ ad.block := by
    obtain ⟨A', c', hv', _, _, h3⟩ := H2.out.bs.at_
    obtain ⟨ad, hA, hc⟩ := h3 k (by rw [ints_len]; exact hlt)
    simp only [Value.slice.injEq] at hv'
    refine ⟨ad, hv'.1.trans hA, hc.trans (by simp [ints]), HW2.out ad (hv'.1.trans hA)⟩
   subst hA
   have hc2 : wr.cell? (ad.add k) = some (vR (Int.ofNat R[k])) := (World.cell?_of_block (hF.block _ (by
    have := World.block_lt_of_cell? w4 _ hc
    exact this) (fun e => by rw [block_add] at e; have := hlt0 _ e; omega))).trans hc
   unfold vR at hc2
   have hsucc := printsL_succ R k hlt
   have hpl : (printsL (R.take k)).length ≤ k := by simp [printsL]; omega
   generalize Int.ofNat R[k] = r at *
   have HS := Lib.hid hsucc
   have HO := Lib.hid ho
   have HFF := Lib.hid hF
   have HV := Lib.hid hv
   have HSlt : Hid (∀ x, S x → x < wr.heap.size) := fun x hx => by have := HL.out x (HSB.out x hx); omega
   clear hsucc ho hF hv hc hlt0
   go_wp2_with (at_builtin; refine wpl_appA _ rfl (.tmp 25) (.tmp 28) rfl base S _ (fun _ => False) _ _ _ [acP r] rfl rfl (HO.out.below HSlt.out ((Below.refl _ _).alloc (Nat.le_refl _) _)) (AS.print _ r _) (fun x hx => by have := HSlt.out x hx; simp; omega) (fun _ h => h.elim) (fun _ _ h => h) (by simp; omega) (by simp; omega) ?_; intro v3 w3 ho3 hg3 hb3 hv3; have HNX := Lib.hid (gr_next hlt HS.out HFF.out HV.out ho3 hg3 hv3); clear ho3 hg3 hb3 hv3)
   go_roundw
   case rel => exact HNX.out
   case measure => simp [intOf]; omega
  ·obtain rfl : k = R.length := by omega
   rw [List.take_length] at ho
   obtain ⟨e0, e1, e2, e3, e4, ef⟩ := five_cells ((hF.block _ (by omega) (fun e => by have := hlt0 _ e; omega)).trans K1.out)
   have HP := Lib.hid (gr_post (v1 := .slice Aq Q.length cq) H.out HSB.out HB4.out.1 HB4.out.2 H1.out hF ho hv hbase)
   obtain ⟨Ao, co, rfl, -, -⟩ := ho.as.form
   clear ho hF hv hlt0
   go_wp2
   exact bodyPost_ret (v := .tuple #[.agg #[.int .i64 0, .int .u8 0, .slice none 0 0, .slice none 0 0, .slice Aq Q.length cq], .slice Ao (l ++ printsL R).length co]) (by simp [results, Tryz.results103, go_sem, e0, e1, e2, e3, e4]) rfl HP.out
end Go.Proofs.YtlolgfgcgfjdjaaGreatDoor

namespace Go.Proofs.YtlolgfgcgfjdjaaGreatDoor
open Go.RowKit
set_option linter.unusedVariables false
set_option linter.unusedSimpArgs false
set_option maxHeartbeats 400000
set_option maxRecDepth 100000
theorem sequence_any (vp vi vu av : Value) (p : Pr) (b : UInt8) (l : List Ac) (base : Nat) (B : Nat → Prop) (w : World) (h : StL w base B vp vi vu av p.params p.inter p.utf l) (hbase : base ≤ w.heap.size) (hl : l.length ≤ 1099511627000) (hok : PrOk p) (hm0 : p.mode ≠ 0) (hm7 : p.mode ≠ 7) (hb0 : 32 ≤ b.toNat) (hb1 : b.toNat < 127) :
  Calls Tryz.prog 104 #[.agg #[.int .i64 (p.mode : Int), .int .u8 (p.priv : Int), vp, vi, vu], .int .u8 (b.toNat : Int), av] w (VPost w base B (vtM p b).1 (l ++ (vtM p b).2)) := by
 have hmo := hok.mode
 by_cases m1 : p.mode = 1
 ·exact seq_1 vp vi vu av p _ b l _ base B w h m1 fun W hW hz => esc_any vp vi vu av p b l base B W hW (by omega) hl m1
 by_cases m2 : p.mode = 2
 ·exact seq_2 vp vi vu av p _ b l _ base B w h m2 fun W hW hz => escInter_any vp vi vu av p b l base B W hW (by omega) hl hok m2
 by_cases m3 : p.mode = 3
 ·have e : vtM p b = (if 48 ≤ b.toNat then prM 0 else p, []) := by
   unfold vtM
   rw [if_neg m1, if_neg m2, if_pos m3]
   split <;> rfl
  rw [e, List.append_nil]
  by_cases h48 : 48 ≤ b.toNat
  ·have hB : kindN b ≠ 1 := kind_other (inter_no b (.inr (by omega)))
   rw [if_pos h48]
   exact seq_3 vp vi vu av p _ b true l base B w h m3 (by rw [bne, show ((kindN b : Int) == 1) = false from beq_eq_false_iff_ne.2 (by omega)]; rfl) fun W hW hz => ignore_any vp vi vu av p true l base B W hW
  ·have hB : kindN b = 1 := kind_inter (inter_yes b hb0 (by omega))
   rw [if_neg h48]
   exact seq_3 vp vi vu av p _ b false l base B w h m3 (by rw [bne, show ((kindN b : Int) == 1) = true from beq_iff_eq.2 (by omega)]; rfl) fun W hW hz => ignore_any vp vi vu av p false l base B W hW
 by_cases m4 : p.mode = 4
 ·have e : vtM p b = csiL p b := by
   unfold vtM
   rw [if_neg m1, if_neg m2, if_neg m3, if_neg (by omega)]
  rw [e]
  exact seq_4 vp vi vu av p _ b l _ base B w h m4 fun W hW hz => csi_any vp vi vu av p b l base B W hW (by omega) hl hok m4 hb0 hb1
 by_cases m5 : p.mode = 5
 ·have e : vtM p b = csiL p b := by
   unfold vtM
   rw [if_neg m1, if_neg m2, if_neg m3, if_neg (by omega)]
  rw [e]
  exact seq_5 vp vi vu av p _ b l _ base B w h m5 fun W hW hz => csiInter_any vp vi vu av p b l base B W hW (by omega) hl hok m5 hb0 hb1
 have m6 : p.mode = 6 := by omega
 have e : vtM p b = (if 64 ≤ b.toNat then prM 0 else p, []) := by
  unfold vtM
  rw [if_neg m1, if_neg m2, if_neg m3, if_pos m6]
  split <;> rfl
 rw [e, List.append_nil]
 by_cases h64 : 64 ≤ b.toNat
 ·have hB : kindN b = 3 := kind_last h64 hb1
  rw [if_pos h64]
  exact seq_6 vp vi vu av p _ b true l base B w h m6 (beq_iff_eq.2 (by omega)) fun W hW hz => ignore_any vp vi vu av p true l base B W hW
 ·have hB : kindN b ≠ 3 := by
   unfold kindN
   repeat' split
   all_goals omega
  rw [if_neg h64]
  exact seq_6 vp vi vu av p _ b false l base B w h m6 (beq_eq_false_iff_ne.2 (by omega)) fun W hW hz => ignore_any vp vi vu av p false l base B W hW
/-! ### a byte that breaks off a rune -/
theorem loB_ge (a : Nat) : 128 ≤ loB a := by
 unfold loB
 split
 ·omega
 ·split <;> omega
theorem whole_fffd (u : List UInt8) (b : UInt8) (h : wholeL (u ++ [b]) = some 65533) : formedB u b = true := by
 match u, h with
 | [], h =>
  simp only [List.nil_append, wholeL] at h
  split at h <;> simp at h
  omega
 | [a], h =>
  simp only [List.cons_append, List.nil_append, wholeL] at h
  split at h
  ·rename_i hc
   simp [contB] at hc
   simp at h
   omega
  ·simp at h
 | [a, c], h =>
  simp only [List.cons_append, List.nil_append, wholeL] at h
  split at h
  ·rename_i hc
   simp only [Bool.and_eq_true, secB_iff, decide_eq_true_eq, contB] at hc
   simp at h
   have := hiB_le a.toNat
   have h1 := loB_ge a.toNat
   rw [formed_two]
   simp
   omega
  ·simp at h
 | [a, c, d], h =>
  simp only [List.cons_append, List.nil_append, wholeL] at h
  split at h
  ·rename_i hc
   simp only [Bool.and_eq_true, secB_iff, decide_eq_true_eq, contB] at hc
   simp at h
   have h1 := loB_ge a.toNat
   by_cases h4 : a.toNat = 240
   ·have h5 : loB a.toNat = 144 := by rw [h4]; rfl
    omega
   ·omega
  ·simp at h
 | _ :: _ :: _ :: _ :: l, h =>
  simp [wholeL] at h
theorem first_acc (b : UInt8) (o : List Nat) : firstL b o = ((firstL b []).1, o ++ (firstL b []).2) := by
 unfold firstL
 repeat' split
 all_goals simp
theorem vt_pend (p : Pr) (b : UInt8) (hm : p.mode = 0) (hu : 0 < p.utf.length) (hb : beginsL p.utf = true) (h8 : 128 ≤ b.toNat) : vtL p b = ({ prM 0 with utf := (stepL p.utf b).1 }, printsL (stepL p.utf b).2) := by
 unfold vtL
 rw [if_pos ⟨hm, hu⟩]
 split
 ·rfl
 ·rename_i hg
  have hv : vtN { p with utf := [] } b = ({ prM 0 with utf := (stepL [] b).1 }, printsL (stepL [] b).2) := by
   unfold vtN
   rw [if_neg (by omega), if_neg (by omega), if_pos hm, if_neg (by omega), if_neg (by omega)]
  have h0 : stepL [] b = firstL b [] := by unfold stepL; rw [if_neg (by simp [beginsL])]
  have hs : stepL p.utf b = ((stepL [] b).1, 65533 :: (stepL [] b).2) := by
   rw [h0]
   unfold goesB at hg
   unfold stepL at hg ⊢
   rw [if_pos hb] at hg ⊢
   cases hw : wholeL (p.utf ++ [b]) with
   | some r =>
    rw [hw] at hg
    exfalso
    apply hg
    by_cases hr : r = 65533
    ·subst hr
     have := whole_fffd _ _ hw
     simp [h8, this]
    ·simp [h8, hr]
   | none =>
    rw [hw] at hg
    simp only at hg ⊢
    split
    ·rename_i hbb
     rw [if_pos hbb] at hg
     exact absurd hg (by simp [h8])
    ·rw [first_acc b [65533]]
     simp
  rw [hv, hs]
  rfl
/-! ### words for a step -/
section
variable {w W w4 : World} {base : Nat} {B B1 B2 : Nat → Prop} {vp vi vu av : Value} {ps : List Int} {is us : List UInt8} {l : List Ac} {r : Pr} {m pv : Int}
theorem hand_g (hlt : ∀ x, B x → x < w.heap.size) (hz : w.heap.size + 1 + 1 ≤ W.heap.size) (hB1 : ∀ x, B1 x → B x ∨ w.heap.size + 1 + 1 ≤ x) (hF1 : Fr B w W) (h : StL w4 base B2 vp vi vu av ps is us l) (hB2 : ∀ x, B2 x → B1 x ∨ W.heap.size ≤ x) (hF2 : Fr B1 W w4) (hr : r.params = ps ∧ r.inter = is ∧ r.utf = us ∧ (r.mode : Int) = m ∧ (r.priv : Int) = pv) :
  VPost w base B r l (.returned (.tuple #[.agg #[.int .i64 m, .int .u8 pv, vp, vi, vu], av])) (wset w w4 (.int .i64 m) (.int .u8 pv) vp vi vu) :=
 vend_w hlt h (fun x hx => (hB2 x hx).elim (hB1 x) (fun h => .inr (by omega))) (hF1.trans hF2 (fun x hx => (hB1 x hx).imp id (fun h => by omega))) hr
theorem kept_g (hlt : ∀ x, B x → x < w.heap.size) (hz : w.heap.size + 1 + 1 ≤ W.heap.size) (hB1 : ∀ x, B1 x → B x ∨ w.heap.size + 1 + 1 ≤ x) (hF2 : Fr B1 W w4) {y : Obj} (k1 : W.heap[w.heap.size + 1]? = some y) : w4.heap[w.heap.size + 1]? = some y :=
 (hF2.block _ (by omega) (fun hb => (hB1 _ hb).elim (fun h => by have := hlt _ h; omega) (fun h => by omega))).trans k1
end
theorem step_appO {ops : Array Oper} {o : Oper} {a : Act} {w : World} {K : Act → World → Prop} {Q : Exit → Act → World → Prop} {E : Prop} (hgd : o.guard = none) (s x : Operand)
  (ho : o.op = .call { callee := .builtin .append, args := #[s, x], argTypes := #[68, 68] })
  (base : Nat) (S R T : Nat → Prop) (v u : Value) (l m : List Ac) (hs : a.eval s = v) (hx : a.eval x = u) (hown : OA w base S v l) (hr : AS w R T u m) (hS : ∀ x, S x → x < w.heap.size) (hT : ∀ x, T x → x < w.heap.size) (hTg : ∀ g, v.ownBlock = some g → ¬ T g) (hlen : l.length + m.length ≤ 1099511627776) (hbase : base ≤ w.heap.size)
  (h : ∀ v' w', OA w' base (fun x => S x ∨ T x) v' (l ++ m) → w.grownBy w' v.ownBlock → Below base w w' → (v'.ownBlock = v.ownBlock ∨ v'.ownBlock = some w.heap.size) → K (a.put o.dst v') w') :
  if Region.wanted o (yielded ops a.tmps) = true then Oper.wp Tryz.prog o a w K Q else E := by
 have hw : Region.wanted o (yielded ops a.tmps) = true := by simp [Region.wanted, hgd]
 rw [if_pos hw]
 obtain ⟨v', w', hrun, h2, h3, h4, h5⟩ := run_appA w o.type hown hr hS hT hTg hlen hbase
 unfold Oper.wp execOp
 simp only [ho, resolve, invoke, builtin, Sem.run_bind, Sem.run_pure, Result.andThen_ok, List.map_toArray, List.map_cons, List.map_nil, hs, hx, hrun]
 exact h v' w' h2 h3 h4 h5
theorem stl_own {w : World} {base : Nat} {B : Nat → Prop} {vp vi vu av : Value} {ps : List Int} {is us : List UInt8} {l : List Ac} (h : StL w base B vp vi vu av ps is us l) : ∀ x, av.ownBlock = some x → B x := fun x e => by obtain ⟨S', -, -, -, -, -, h6⟩ := h; exact h6 x e
theorem act_ready {w W : World} {base g : Nat} {B : Nat → Prop} {vp vi vu av : Value} {ps : List Int} {is us : List UInt8} {l : List Ac} (h : StL W base B vp vi vu av ps is us l) (hg : W.heap.size = g) (hbase : base ≤ W.heap.size) (a : Ac) (ha : a.params = [] ∧ a.inter = []) (t : TypeId) (W2 : World) (hW2 : W.alloc (.cells #[.int .i64 (a.kind : Int), .int .i32 a.r, .int .u8 (a.b : Int), .int .u8 (a.priv : Int), .slice none 0 0, .slice none 0 0] t) = W2) :
  ∃ S, OA W2 base S av l ∧ AS W2 (fun x => x = g) (fun _ => False) (.slice (some ⟨g, 0, none⟩) 1 1) [a] ∧ (∀ x, S x → x < W2.heap.size) ∧ base ≤ W2.heap.size ∧ ∀ av' w3, OA w3 base (fun x => S x ∨ False) av' (l ++ [a]) → W2.grownBy w3 av.ownBlock → (av'.ownBlock = av.ownBlock ∨ av'.ownBlock = some W2.heap.size) → ∃ B', StL w3 base B' vp vi vu av' ps is us (l ++ [a]) ∧ (∀ x, B' x → B x ∨ g + 1 ≤ x) ∧ Fr B W w3 := by
 subst hW2
 subst hg
 have hb : Below W.heap.size W (W.alloc (.cells #[.int .i64 (a.kind : Int), .int .i32 a.r, .int .u8 (a.b : Int), .int .u8 (a.priv : Int), .slice none 0 0, .slice none 0 0] t)) := (Below.refl _ _).alloc (Nat.le_refl _) _
 have hz : (W.alloc (.cells #[.int .i64 (a.kind : Int), .int .i32 a.r, .int .u8 (a.b : Int), .int .u8 (a.priv : Int), .slice none 0 0, .slice none 0 0] t)).heap.size = W.heap.size + 1 := by simp
 have h2 := h.below hb
 obtain ⟨S, s1, s2, s3, s4, s5, s6⟩ := h2.acts
 refine ⟨S, s1, AS.one W _ a _ _ t (by rw [ha.1]; exact SL.nil _ _ _) (by rw [ha.2]; exact SL.nil _ _ _) (fun _ h => h.elim), fun x hx => (h2.lt x (s2 x hx)).2, by omega, fun av' w3 ho hg hv => ?_⟩
 obtain ⟨B', q1, q2⟩ := h2.act s2 s1 ho hg hv (by omega) s4 s5 s6
 exact ⟨B', q1, fun x hx => (q2 x hx).imp id (fun h => by omega), (Fr.of hb B).grown hg (fun k e => .inl (s3 k e))⟩
theorem act_readyD {w W : World} {base g : Nat} {B : Nat → Prop} {vp vi vu av : Value} {ps : List Int} {is us : List UInt8} {l : List Ac} (h : StL W base B vp vi vu av ps is us l) (hg : W.heap.size = g) (hbase : base ≤ W.heap.size) (a : Ac) (ha : a.params = [] ∧ a.inter = []) (t : TypeId) (W2 : World) (hW2 : (W.alloc (.cells #[.int .i64 (a.kind : Int), .int .i32 a.r, .int .u8 (a.b : Int), .int .u8 (a.priv : Int), .slice none 0 0, .slice none 0 0] t)).drew = W2) :
  ∃ S, OA W2 base S av l ∧ AS W2 (fun x => x = g) (fun _ => False) (.slice (some ⟨g, 0, none⟩) 1 1) [a] ∧ (∀ x, S x → x < W2.heap.size) ∧ base ≤ W2.heap.size ∧ ∀ av' w3, OA w3 base (fun x => S x ∨ False) av' (l ++ [a]) → W2.grownBy w3 av.ownBlock → (av'.ownBlock = av.ownBlock ∨ av'.ownBlock = some W2.heap.size) → ∃ B', StL w3 base B' vp vi vu av' ps is us (l ++ [a]) ∧ (∀ x, B' x → B x ∨ g + 1 ≤ x) ∧ Fr B W w3 := by
 subst hW2
 obtain ⟨S, s1, s2, s3, s4, s5⟩ := act_ready (w := w) h hg hbase a ha t _ rfl
 exact ⟨S, s1.below s3 (Below.refl _ _).drew, s2.keep (fun _ _ => rfl) (fun _ _ => rfl), s3, s4, fun av' w3 ho hg hv => s5 av' w3 ho ⟨hg.os, hg.tape, hg.output, hg.size, hg.block⟩ hv⟩
end Go.Proofs.YtlolgfgcgfjdjaaGreatDoor
