/- What is proved here: parts of the proofs of the laws of layer 10. -/
import Derived.Test.YthncoigjfhmldaaGreatS31
import Derived.Test.YthncoigjfhmldaaGreatS22
import Derived.Deep.RegionLaw
namespace Go.Proofs.YthncoigjfhmldaaGreat
open Go.RowKit
set_option linter.unusedVariables false
set_option linter.unusedSimpArgs false
set_option maxHeartbeats 2000000
set_option maxRecDepth 100000
theorem step_loadS {ops : Array Oper} {o : Oper} {a : Act} {w : World} {K : Act → World → Prop} {Q : Exit → Act → World → Prop} {E : Prop} (hgd : o.guard = none) (x : Operand) (ho : o.op = .load 30 x) {g : Nat} {xs : Array Value} (hx : a.eval x = .pointer (some ⟨g, 0, none⟩))
  (hg : w.heap[g]? = some (.cells xs 30)) (hn : xs.size = 24) (h : K (a.put o.dst (.agg xs)) w) : if Region.wanted o (yielded ops a.tmps) = true then Oper.wp Tryz.prog o a w K Q else E := by
 have hw : Region.wanted o (yielded ops a.tmps) = true := by simp [Region.wanted, hgd]
 rw [if_pos hw]
 unfold Oper.wp execOp
 simp only [ho, hx, Sem.run_bind, run_loadS hg hn, Result.andThen_ok, Sem.run_pure]
 exact h
theorem step_storeS {ops : Array Oper} {o : Oper} {a : Act} {w : World} {K : Act → World → Prop} {Q : Exit → Act → World → Prop} {E : Prop} (hgd : o.guard = none) (x y : Operand) (ho : o.op = .store 30 x y) {g : Nat} {old xs : Array Value} (hx : a.eval x = .pointer (some ⟨g, 0, none⟩)) (hy : a.eval y = .agg xs)
  (hg : w.heap[g]? = some (.cells old 30)) (ho2 : old.size = 24) (hn : xs.size = 24) (h1 : xs.all (·.oneCell') = true) (h : K (a.put o.dst undef) (w.setRow g xs)) : if Region.wanted o (yielded ops a.tmps) = true then Oper.wp Tryz.prog o a w K Q else E := by
 have hw : Region.wanted o (yielded ops a.tmps) = true := by simp [Region.wanted, hgd]
 rw [if_pos hw]
 unfold Oper.wp execOp
 simp only [ho, hx, hy, Sem.run_bind, run_storeS hg ho2 hn h1, Result.andThen_ok, Sem.run_pure]
 exact h
def seatS (r c : Nat) (l : List UInt8) : Sc := feedS (newS ((r % 6 + 1 : Nat) : Int) ((c % 9 + 1 : Nat) : Int)) (seatB l)
theorem seatS_in (r c : Nat) (l : List UInt8) : ScIn (seatS r c l) (r % 6 + 1) (c % 9 + 1) := feedS_in (seatB l) (newS_in (r % 6 + 1) (c % 9 + 1) (by omega) (by omega) (by omega) (by omega))
theorem seatS_w (r c : Nat) (l : List UInt8) : ScW (seatS r c l) (r % 6 + 1) (c % 9 + 1) := feedS_w (seatB l) (newS_in (r % 6 + 1) (c % 9 + 1) (by omega) (by omega) (by omega) (by omega)) (newS_w _ _ _ _)
def SeatScrF (s : Sc) (w : World) (e : Ending) (w' : World) : Prop := ∃ v, e = .returned v ∧ SCV w' (NewB w' w.heap.size) v s ∧ Below w.heap.size w w'
theorem seatEnd {w W w2 w6 w7 : World} {s : Sc} (p : Tmp) {zc zt zo zp zi zu : Value} {fn : Func} {a : Act} {z : Array Value} (hfn : fn.results = #[.cell p 30]) (ht : a.tmps.getD p undef = .pointer (some ⟨w.heap.size, 0, none⟩)) (hd : a.defers = [])
  (k7 : w7.heap[w.heap.size]? = some (.cells z 30)) (b6 : Below W.heap.size W w6) (b3 : Below w.heap.size w W) (z3 : W.heap.size = w2.heap.size + 1) (z2 : w.heap.size + 1 ≤ w2.heap.size) (b7 : Below w6.heap.size w6 w7) (hs : SSl w7 (Since (NewB w2 (w.heap.size + 1)) w6 w7) s zc zt zo zp zi zu) :
  bodyPost Tryz.prog fn (SeatScrF s w) .ret a (w7.setRow w.heap.size (vS s zc zt zo zp zi zu)) := by
 have s6 := b6.size
 have s7 := b7.size
 refine bodyPost_ret (v := .agg (vS s zc zt zo zp zi zu)) (resultS hfn ht (heap_setRow_same k7) rfl) hd ?_
 have hb : Below w.heap.size w w7 := (b3.trans (b6.mono (by omega))).trans (b7.mono (by omega))
 refine ⟨_, rfl, ⟨_, _, _, _, _, _, rfl, (hs.keep (fun q hq => World.cell?_of_block (heap_setRow_other ?_))).mono (fun x hx => ?_)⟩, below_setRow hb (Nat.le_refl _) _⟩
 ·rcases hq with h | h
  ·have := h.1; omega
  ·have h1 : w6.heap.size ≤ q.block := h.1; omega
 ·rcases hx with h | h
  ·have h1 := h.1
   have h2 := h.2
   exact ⟨by omega, by rw [size_setRow]; omega⟩
  ·have h1 : w6.heap.size ≤ x := h.1
   have h2 : x < w7.heap.size := h.2
   exact ⟨by omega, by rw [size_setRow]; exact h2⟩
theorem seatScreenF_any (r c : Nat) (hr : r < 256) (hc : c < 256) (v : Value) (l : List UInt8) (w : World) (hv : BS w w.heap.size v l) (hl : l.length ≤ 1048576) : Calls Tryz.prog 8 #[.int .u8 (r : Int), .int .u8 (c : Int), v] w (SeatScrF (seatS r c l) w) := by
 have HV := Lib.hid hv
 obtain ⟨A, cp, rfl, g1, g2, _⟩ := hv.at_
 unfold maxLen at g2
 clear hv
 obtain ⟨R, hR0⟩ : ∃ R : Nat, r % 6 = R := ⟨_, rfl⟩
 obtain ⟨C, hC0⟩ : ∃ C : Nat, c % 9 = C := ⟨_, rfl⟩
 have hR : (r : Int) % 6 = (R : Int) := by omega
 have hC : (c : Int) % 9 = (C : Int) := by omega
 unfold seatS
 rw [hR0, hC0]
 have HM := Lib.hid (seatB_len l)
 obtain ⟨m, hm⟩ : ∃ m, seatB l = m := ⟨_, rfl⟩
 have HMM := Lib.hid hm
 rw [hm] at HM
 rw [hm]
 clear hm hR0 hC0
 have hR6 : R < 6 := by omega
 have hC9 : C < 9 := by omega
 go_enter Tryz.func8, Tryz.ntmps8
 have hnew := fun W => Newr_yes (R + 1) (C + 1) W (by omega) (by omega) (by omega) (by omega)
 rw [show ((R + 1 : Nat) : Int) = (R : Int) + 1 by omega, show ((C + 1 : Nat) : Int) = (C : Int) + 1 by omega] at hnew
 have HNEW := Lib.hid hnew
 have HNI := Lib.hid (newS_in (R + 1) (C + 1) (by omega) (by omega) (by omega) (by omega))
 clear hnew
 go_wp2_with fail
 refine (HNEW.out _).mono ?_
 rintro e w2 ⟨v2, rfl, hv2, b2⟩
 obtain ⟨uc, ut, uo, up, ui, uu, rfl, hs2⟩ := hv2
 have z1 : (w.alloc (.cells zQ 30)).heap.size = w.heap.size + 1 := by simp
 have k1 : w2.heap[w.heap.size]? = some (.cells zQ 30) := by
  refine (b2.block _ (by rw [z1]; omega)).trans ?_
  show (w.heap.push _)[w.heap.size]? = _
  simp
 have z2 : w.heap.size + 1 ≤ w2.heap.size := by have := b2.size; rw [z1] at this; exact this
 have bel2 : Below w.heap.size w w2 := ((Below.refl _ _).alloc (Nat.le_refl _) _).trans (b2.mono (by rw [z1]; omega))
 rw [z1] at hs2
 clear b2 z1
 rename_i K hK
 refine hK _ _ ?_
 clear hK
 iterate 4 (refine wpList_plain rfl fun K hK => ?_; go_simp; refine hK _ _ ?_; clear hK K)
 have k2 : (w2.alloc (.cells zQ 30)).heap[w2.heap.size]? = some (.cells zQ 30) := by
  show (w2.heap.push _)[w2.heap.size]? = _
  simp
 refine wpl_storeS rfl (.tmp 7) (.tmp 19) rfl rfl rfl k2 rfl rfl hs2.one ?_
 obtain ⟨W, hW⟩ : ∃ W, W = (w2.alloc (.cells zQ 30)).setRow w2.heap.size (vS (newS (R + 1) (C + 1)) uc ut uo up ui uu) := ⟨_, rfl⟩
 rw [← hW]
 have kS : W.heap[w2.heap.size]? = some (.cells (vS (newS (R + 1) (C + 1)) uc ut uo up ui uu) 30) := by rw [hW]; exact heap_setRow_same k2
 have o3 : ∀ b, b < w2.heap.size → W.heap[b]? = w2.heap[b]? := fun b hb => by rw [hW, heap_setRow_other (by omega)]; exact Below.heap_alloc w2 _ b hb
 have z3 : W.heap.size = w2.heap.size + 1 := by rw [hW, size_setRow]; simp
 have kZ : W.heap[w.heap.size]? = some (.cells zQ 30) := (o3 _ (by omega)).trans k1
 have bel3 : Below w.heap.size w W := by rw [hW]; exact below_setRow (bel2.alloc (by omega) _) (by omega) _
 have hs3 : SSl W (NewB w2 (w.heap.size + 1)) (newS (R + 1) (C + 1)) uc ut uo up ui uu := hs2.keep (fun q hq => World.cell?_of_block (o3 _ hq.2))
 have hlt3 : ∀ x, NewB w2 (w.heap.size + 1) x → x < W.heap.size := fun x hx => by rw [z3]; have := hx.2; omega
 have KS := Lib.hid (show W.drew.heap[w2.heap.size]? = _ from kS)
 have KZ := Lib.hid (show W.drew.heap[w.heap.size]? = _ from kZ)
 have Z3 := Lib.hid (show W.drew.heap.size = w2.heap.size + 1 from z3)
 have B3 := Lib.hid bel3.drew
 have HS3 := Lib.hid (show SSl W.drew (NewB w2 (w.heap.size + 1)) (newS (R + 1) (C + 1)) uc ut uo up ui uu from hs3)
 clear kS o3 z3 kZ bel3 hs3 hW k2 k1 hs2 hlt3
 go_simp
 go_wp2_with fail
 have hby := seatBytesF_any (.slice A l.length cp) l W.drew ((HV.out.below B3.out).more B3.out.size) hl
 have HBY := Lib.hid hby
 clear hby
 have hfe : ∀ (W' : World) (bv : Value) (m : List UInt8), Below W.drew.heap.size W.drew W' → BS W' W'.heap.size bv m → m.length ≤ 1099511627776 → Calls Tryz.prog 16 #[.agg (vS (newS (R + 1) (C + 1)) uc ut uo up ui uu), bv] W' (ScPost (NewB w2 (w.heap.size + 1)) (feedS (newS (R + 1) (C + 1)) m) W') := by
  intro W' bv m hb hbs hm
  have hlt : ∀ x, NewB w2 (w.heap.size + 1) x → x < W.drew.heap.size := fun x hx => by rw [Z3.out]; have := hx.2; omega
  exact feedr_any _ bv (newS (R + 1) (C + 1)) m (R + 1) (C + 1) (NewB w2 (w.heap.size + 1)) W' (fun x hx => Nat.lt_of_lt_of_le (hlt x hx) hb.size) ⟨_, _, _, _, _, _, rfl, HS3.out.below hlt hb⟩ HNI.out hbs hm
 have HFE := Lib.hid hfe
 clear hfe
 refine wp_region_any (by kernel_rfl) ?_
 try (change wpAny _ _ _ _ _ _ _ (World.drew _))
 refine wpAny_ready (rs := [0, 1]) (by kernel_rfl) (by simp) ?_
 refine AllReady.cons rfl (fun K hK => ?_) (AllReady.cons rfl (fun K hK => ?_) AllReady.nil)
 ·refine step_loadS rfl (.tmp 7) rfl rfl KS.out rfl ?_
  refine hK _ _ ?_
  clear hK K
  refine wpAny_ready (rs := [1]) (by kernel_rfl) (by simp) ?_
  refine AllReady.cons rfl (fun K hK => ?_) AllReady.nil
  go_simp
  refine hK _ _ ?_
  clear hK K
  refine wpAny_ready (rs := [2]) (by kernel_rfl) (by simp) ?_
  refine AllReady.cons rfl (fun K hK => ?_) AllReady.nil
  go_simp
  refine HBY.out.mono ?_
  rintro e w6 ⟨bv, rfl, hbv, b6⟩
  have hml := HM.out
  rw [HMM.out] at hbv
  obtain ⟨Ab, cb, rfl, g5, g6, -⟩ := hbv.bs.at_
  have hF := HFE.out w6 (.slice Ab m.length cb) m b6 hbv.bs (by omega)
  have HF := Lib.hid hF
  have K6 := Lib.hid ((b6.block _ (by rw [Z3.out]; omega)).trans KS.out)
  have HB6 := Lib.hid b6
  have hz6 : w2.heap.size + 1 ≤ w6.heap.size := by have := b6.size; rw [Z3.out] at this; exact this
  clear hF
  refine hK _ _ ?_
  clear hK K
  refine wpAny_ready (rs := [3]) (by kernel_rfl) (by simp) ?_
  refine AllReady.cons rfl (fun K hK => ?_) AllReady.nil
  go_simp
  refine HF.out.mono ?_
  rintro e w7 ⟨v7, rfl, hv7, b7⟩
  obtain ⟨zc, zt, zo, zp, zi, zu, rfl, hs7⟩ := hv7
  have k7 : w7.heap[w.heap.size]? = _ := (b7.block _ (by omega)).trans ((HB6.out.block _ (by rw [Z3.out]; omega)).trans KZ.out)
  have z7 : w6.heap.size ≤ w7.heap.size := b7.size
  refine hK _ _ ?_
  clear hK K
  refine wpAny_ready (rs := [4]) (by kernel_rfl) (by simp) ?_
  refine AllReady.cons rfl (fun K hK => ?_) AllReady.nil
  refine step_storeS rfl (.tmp 6) (.tmp 24) rfl rfl rfl k7 rfl rfl hs7.one ?_
  refine hK _ _ ?_
  clear hK K
  refine wpAny_done (by kernel_rfl) ?_ _
  go_simp
  go_wp2_with fail
  refine seatEnd (w6 := w6) (w7 := w7) 6 Tryz.results8 ?_ ?_ k7 HB6.out B3.out Z3.out z2 b7 hs7
  all_goals rfl
 ·go_simp
  refine hK _ _ ?_
  clear hK K
  refine wpAny_ready (rs := [0, 2]) (by kernel_rfl) (by simp) ?_
  refine AllReady.cons rfl (fun K hK => ?_) (AllReady.cons rfl (fun K hK => ?_) AllReady.nil)
  ·refine step_loadS rfl (.tmp 7) rfl rfl KS.out rfl ?_
   refine hK _ _ ?_
   clear hK K
   refine wpAny_ready (rs := [2]) (by kernel_rfl) (by simp) ?_
   refine AllReady.cons rfl (fun K hK => ?_) AllReady.nil
   go_simp
   refine HBY.out.mono ?_
   rintro e w6 ⟨bv, rfl, hbv, b6⟩
   have hml := HM.out
   rw [HMM.out] at hbv
   obtain ⟨Ab, cb, rfl, g5, g6, -⟩ := hbv.bs.at_
   have hF := HFE.out w6 (.slice Ab m.length cb) m b6 hbv.bs (by omega)
   have HF := Lib.hid hF
   have K6 := Lib.hid ((b6.block _ (by rw [Z3.out]; omega)).trans KS.out)
   have HB6 := Lib.hid b6
   have hz6 : w2.heap.size + 1 ≤ w6.heap.size := by have := b6.size; rw [Z3.out] at this; exact this
   clear hF
   refine hK _ _ ?_
   clear hK K
   refine wpAny_ready (rs := [3]) (by kernel_rfl) (by simp) ?_
   refine AllReady.cons rfl (fun K hK => ?_) AllReady.nil
   go_simp
   refine HF.out.mono ?_
   rintro e w7 ⟨v7, rfl, hv7, b7⟩
   obtain ⟨zc, zt, zo, zp, zi, zu, rfl, hs7⟩ := hv7
   have k7 : w7.heap[w.heap.size]? = _ := (b7.block _ (by omega)).trans ((HB6.out.block _ (by rw [Z3.out]; omega)).trans KZ.out)
   have z7 : w6.heap.size ≤ w7.heap.size := b7.size
   refine hK _ _ ?_
   clear hK K
   refine wpAny_ready (rs := [4]) (by kernel_rfl) (by simp) ?_
   refine AllReady.cons rfl (fun K hK => ?_) AllReady.nil
   refine step_storeS rfl (.tmp 6) (.tmp 24) rfl rfl rfl k7 rfl rfl hs7.one ?_
   refine hK _ _ ?_
   clear hK K
   refine wpAny_done (by kernel_rfl) ?_ _
   go_simp
   go_wp2_with fail
   refine seatEnd (w6 := w6) (w7 := w7) 6 Tryz.results8 ?_ ?_ k7 HB6.out B3.out Z3.out z2 b7 hs7
   all_goals rfl
  ·go_simp
   refine HBY.out.mono ?_
   rintro e w6 ⟨bv, rfl, hbv, b6⟩
   have hml := HM.out
   rw [HMM.out] at hbv
   obtain ⟨Ab, cb, rfl, g5, g6, -⟩ := hbv.bs.at_
   have hF := HFE.out w6 (.slice Ab m.length cb) m b6 hbv.bs (by omega)
   have HF := Lib.hid hF
   have K6 := Lib.hid ((b6.block _ (by rw [Z3.out]; omega)).trans KS.out)
   have HB6 := Lib.hid b6
   have hz6 : w2.heap.size + 1 ≤ w6.heap.size := by have := b6.size; rw [Z3.out] at this; exact this
   clear hF
   refine hK _ _ ?_
   clear hK K
   refine wpAny_ready (rs := [0]) (by kernel_rfl) (by simp) ?_
   refine AllReady.cons rfl (fun K hK => ?_) AllReady.nil
   refine step_loadS rfl (.tmp 7) rfl rfl K6.out rfl ?_
   refine hK _ _ ?_
   clear hK K
   refine wpAny_ready (rs := [3]) (by kernel_rfl) (by simp) ?_
   refine AllReady.cons rfl (fun K hK => ?_) AllReady.nil
   go_simp
   refine HF.out.mono ?_
   rintro e w7 ⟨v7, rfl, hv7, b7⟩
   obtain ⟨zc, zt, zo, zp, zi, zu, rfl, hs7⟩ := hv7
   have k7 : w7.heap[w.heap.size]? = _ := (b7.block _ (by omega)).trans ((HB6.out.block _ (by rw [Z3.out]; omega)).trans KZ.out)
   have z7 : w6.heap.size ≤ w7.heap.size := b7.size
   refine hK _ _ ?_
   clear hK K
   refine wpAny_ready (rs := [4]) (by kernel_rfl) (by simp) ?_
   refine AllReady.cons rfl (fun K hK => ?_) AllReady.nil
   refine step_storeS rfl (.tmp 6) (.tmp 24) rfl rfl rfl k7 rfl rfl hs7.one ?_
   refine hK _ _ ?_
   clear hK K
   refine wpAny_done (by kernel_rfl) ?_ _
   go_simp
   go_wp2_with fail
   refine seatEnd (w6 := w6) (w7 := w7) 6 Tryz.results8 ?_ ?_ k7 HB6.out B3.out Z3.out z2 b7 hs7
   all_goals rfl
end Go.Proofs.YthncoigjfhmldaaGreat
