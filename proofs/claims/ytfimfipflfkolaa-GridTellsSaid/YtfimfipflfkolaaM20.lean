/- What is proved here: a contract of the statements' help that makes a screen of few numbers: some screen that may be; words for a screen that a statement of layer 8 has made of few numbers: where it lies, its cells, that no half is alone. -/
import Derived.Test.YtfimfipflfkolaaM19
import Derived.Deep.RegionLaw
import Derived.Test.YtfimfipflfkolaaM4
namespace Go.Proofs.Ytfimfipflfkolaa
open Go.RowKit
set_option linter.unusedVariables false
set_option linter.unusedSimpArgs false

theorem step_loadS {ops : Array Oper} {o : Oper} {a : Act} {w : World} {K : Act → World → Prop} {Q : Exit → Act → World → Prop} {E : Prop} (hgd : o.guard = none) (x : Operand) (ho : o.op = .load 32 x) {g : Nat} {xs : Array Value} (hx : a.eval x = .pointer (some ⟨g, 0, none⟩))
    (hg : w.heap[g]? = some (.cells xs 32)) (hn : xs.size = 24) (h : K (a.put o.dst (.agg xs)) w) : if Region.wanted o (yielded ops a.tmps) = true then Oper.wp Try.prog o a w K Q else E := by
  have hw : Region.wanted o (yielded ops a.tmps) = true := by simp [Region.wanted, hgd]
  rw [if_pos hw]
  unfold Oper.wp execOp
  simp only [ho, hx, Sem.run_bind, run_loadS hg hn, Result.andThen_ok, Sem.run_pure]
  exact h
theorem step_storeS {ops : Array Oper} {o : Oper} {a : Act} {w : World} {K : Act → World → Prop} {Q : Exit → Act → World → Prop} {E : Prop} (hgd : o.guard = none) (x y : Operand) (ho : o.op = .store 32 x y) {g : Nat} {old xs : Array Value} (hx : a.eval x = .pointer (some ⟨g, 0, none⟩)) (hy : a.eval y = .agg xs)
    (hg : w.heap[g]? = some (.cells old 32)) (ho2 : old.size = 24) (hn : xs.size = 24) (h1 : xs.all (·.oneCell') = true) (h : K (a.put o.dst undef) (w.setRow g xs)) : if Region.wanted o (yielded ops a.tmps) = true then Oper.wp Try.prog o a w K Q else E := by
  have hw : Region.wanted o (yielded ops a.tmps) = true := by simp [Region.wanted, hgd]
  rw [if_pos hw]
  unfold Oper.wp execOp
  simp only [ho, hx, hy, Sem.run_bind, run_storeS hg ho2 hn h1, Result.andThen_ok, Sem.run_pure]
  exact h
def SeatScr (w : World) (e : Ending) (w' : World) : Prop := ∃ v s r c, e = .returned v ∧ SCV w' (NewB w' w.heap.size) v s ∧ ScIn s r c ∧ r ≤ 6 ∧ c ≤ 9 ∧ Below w.heap.size w w'
/-- The same, and that no half of a rune is alone on it. -/
def SeatScrW (w : World) (e : Ending) (w' : World) : Prop := ∃ v s r c, e = .returned v ∧ SCV w' (NewB w' w.heap.size) v s ∧ (ScIn s r c ∧ ScW s r c) ∧ r ≤ 6 ∧ c ≤ 9 ∧ Below w.heap.size w w'
/-- The end: the screen that Feed has answered is the result. -/
theorem seatEnd {w W w2 w6 w7 : World} {s : Sc} {r c : Nat} (p : Tmp) {zc zt zo zp zi zu : Value} {fn : Func} {a : Act} {z : Array Value} (hfn : fn.results = #[.cell p 32]) (ht : a.tmps.getD p undef = .pointer (some ⟨w.heap.size, 0, none⟩)) (hd : a.defers = [])
    (k7 : w7.heap[w.heap.size]? = some (.cells z 32)) (b6 : Below W.heap.size W w6) (b3 : Below w.heap.size w W) (z3 : W.heap.size = w2.heap.size + 1) (z2 : w.heap.size + 1 ≤ w2.heap.size) (b7 : Below w6.heap.size w6 w7) (hs : SSl w7 (Since (NewB w2 (w.heap.size + 1)) w6 w7) s zc zt zo zp zi zu) (hi : ScIn s r c ∧ ScW s r c) (hr : r ≤ 6) (hc : c ≤ 9) :
    bodyPost Try.prog fn (SeatScrW w) .ret a (w7.setRow w.heap.size (vS s zc zt zo zp zi zu)) := by
  have s6 := b6.size
  have s7 := b7.size
  refine bodyPost_ret (v := .agg (vS s zc zt zo zp zi zu)) (resultS hfn ht (heap_setRow_same k7) rfl) hd ?_
  have hb : Below w.heap.size w w7 := (b3.trans (b6.mono (by omega))).trans (b7.mono (by omega))
  refine ⟨_, s, r, c, rfl, ⟨_, _, _, _, _, _, rfl, (hs.keep (fun q hq => World.cell?_of_block (heap_setRow_other ?_))).mono (fun x hx => ?_)⟩, hi, hr, hc, below_setRow hb (Nat.le_refl _) _⟩
  · rcases hq with h | h
    · have := h.1; omega
    · have h1 : w6.heap.size ≤ q.block := h.1; omega
  · rcases hx with h | h
    · have h1 := h.1
      have h2 := h.2
      exact ⟨by omega, by rw [size_setRow]; omega⟩
    · have h1 : w6.heap.size ≤ x := h.1
      have h2 : x < w7.heap.size := h.2
      exact ⟨by omega, by rw [size_setRow]; exact h2⟩
set_option maxHeartbeats 2000000 in
set_option maxRecDepth 100000 in
theorem seatScreenW_any (r c : Nat) (hr : r < 256) (hc : c < 256) (v : Value) (l : List UInt8) (w : World) (hv : BS w w.heap.size v l) (hl : l.length ≤ 1048576) : Calls Try.prog 8 #[.int .u8 (r : Int), .int .u8 (c : Int), v] w (SeatScrW w) := by
  have HV := Lib.hid hv
  obtain ⟨A, cp, rfl, g1, g2, _⟩ := hv.at_
  unfold maxLen at g2
  clear hv
  obtain ⟨R, hR⟩ : ∃ R : Nat, (r : Int) % 6 = (R : Int) := ⟨r % 6, by omega⟩
  obtain ⟨C, hC⟩ : ∃ C : Nat, (c : Int) % 9 = (C : Int) := ⟨c % 9, by omega⟩
  have hR6 : R < 6 := by omega
  have hC9 : C < 9 := by omega
  go_enter Try.func8, Try.ntmps8
  have hnew := fun W => Newr_yes (R + 1) (C + 1) W (by omega) (by omega) (by omega) (by omega)
  rw [show ((R + 1 : Nat) : Int) = (R : Int) + 1 by omega, show ((C + 1 : Nat) : Int) = (C : Int) + 1 by omega] at hnew
  have HNEW := Lib.hid hnew
  have HNI := Lib.hid (newS_in (R + 1) (C + 1) (by omega) (by omega) (by omega) (by omega))
  clear hnew
  go_wp2_with fail
  refine (HNEW.out _).mono ?_
  rintro e w2 ⟨v2, rfl, hv2, b2⟩
  obtain ⟨uc, ut, uo, up, ui, uu, rfl, hs2⟩ := hv2
  have z1 : (w.alloc (.cells #[.int .i64 0, .int .i64 0, .slice none 0 0, .int .i64 0, .int .i64 0, .bool false, .int .u16 0, .int .i64 0, .int .i64 0, .slice none 0 0, .int .i64 0, .int .i64 0, .int .u16 0, .bool false, .bool false, .bool false, .slice none 0 0, .int .i64 0, .int .i64 0, .int .i64 0, .int .u8 0, .slice none 0 0, .slice none 0 0, .slice none 0 0] 32)).heap.size = w.heap.size + 1 := by simp
  have k1 : w2.heap[w.heap.size]? = some (.cells #[.int .i64 0, .int .i64 0, .slice none 0 0, .int .i64 0, .int .i64 0, .bool false, .int .u16 0, .int .i64 0, .int .i64 0, .slice none 0 0, .int .i64 0, .int .i64 0, .int .u16 0, .bool false, .bool false, .bool false, .slice none 0 0, .int .i64 0, .int .i64 0, .int .i64 0, .int .u8 0, .slice none 0 0, .slice none 0 0, .slice none 0 0] 32) := by
    refine (b2.block _ (by rw [z1]; omega)).trans ?_
    show (w.heap.push _)[w.heap.size]? = _
    simp
  have z2 : w.heap.size + 1 ≤ w2.heap.size := by have := b2.size; rw [z1] at this; exact this
  have bel2 : Below w.heap.size w w2 := ((Below.refl _ _).alloc (Nat.le_refl _) _).trans (b2.mono (by rw [z1]; omega))
  rw [z1] at hs2
  clear b2 z1
  rename_i K hK
  refine hK _ _ ?_
  clear hK
  iterate 4 (refine wpList_plain rfl fun K hK => ?_; go_simp; refine hK _ _ ?_; clear hK K)
  have k2 : (w2.alloc (.cells #[.int .i64 0, .int .i64 0, .slice none 0 0, .int .i64 0, .int .i64 0, .bool false, .int .u16 0, .int .i64 0, .int .i64 0, .slice none 0 0, .int .i64 0, .int .i64 0, .int .u16 0, .bool false, .bool false, .bool false, .slice none 0 0, .int .i64 0, .int .i64 0, .int .i64 0, .int .u8 0, .slice none 0 0, .slice none 0 0, .slice none 0 0] 32)).heap[w2.heap.size]? = some (.cells #[.int .i64 0, .int .i64 0, .slice none 0 0, .int .i64 0, .int .i64 0, .bool false, .int .u16 0, .int .i64 0, .int .i64 0, .slice none 0 0, .int .i64 0, .int .i64 0, .int .u16 0, .bool false, .bool false, .bool false, .slice none 0 0, .int .i64 0, .int .i64 0, .int .i64 0, .int .u8 0, .slice none 0 0, .slice none 0 0, .slice none 0 0] 32) := by
    show (w2.heap.push _)[w2.heap.size]? = _
    simp
  refine wpl_storeS rfl (.tmp 7) (.tmp 19) rfl rfl rfl k2 rfl rfl hs2.one ?_
  obtain ⟨W, hW⟩ : ∃ W, W = (w2.alloc (.cells #[.int .i64 0, .int .i64 0, .slice none 0 0, .int .i64 0, .int .i64 0, .bool false, .int .u16 0, .int .i64 0, .int .i64 0, .slice none 0 0, .int .i64 0, .int .i64 0, .int .u16 0, .bool false, .bool false, .bool false, .slice none 0 0, .int .i64 0, .int .i64 0, .int .i64 0, .int .u8 0, .slice none 0 0, .slice none 0 0, .slice none 0 0] 32)).setRow w2.heap.size (vS (newS (R + 1) (C + 1)) uc ut uo up ui uu) := ⟨_, rfl⟩
  rw [← hW]
  have kS : W.heap[w2.heap.size]? = some (.cells (vS (newS (R + 1) (C + 1)) uc ut uo up ui uu) 32) := by rw [hW]; exact heap_setRow_same k2
  have o3 : ∀ b, b < w2.heap.size → W.heap[b]? = w2.heap[b]? := fun b hb => by rw [hW, heap_setRow_other (by omega)]; exact Below.heap_alloc w2 _ b hb
  have z3 : W.heap.size = w2.heap.size + 1 := by rw [hW, size_setRow]; simp
  have kZ : W.heap[w.heap.size]? = some (.cells #[.int .i64 0, .int .i64 0, .slice none 0 0, .int .i64 0, .int .i64 0, .bool false, .int .u16 0, .int .i64 0, .int .i64 0, .slice none 0 0, .int .i64 0, .int .i64 0, .int .u16 0, .bool false, .bool false, .bool false, .slice none 0 0, .int .i64 0, .int .i64 0, .int .i64 0, .int .u8 0, .slice none 0 0, .slice none 0 0, .slice none 0 0] 32) := (o3 _ (by omega)).trans k1
  have bel3 : Below w.heap.size w W := by rw [hW]; exact below_setRow (bel2.alloc (by omega) _) (by omega) _
  have hs3 : SSl W (NewB w2 (w.heap.size + 1)) (newS (R + 1) (C + 1)) uc ut uo up ui uu := hs2.keep (fun q hq => World.cell?_of_block (o3 _ hq.2))
  have hlt3 : ∀ x, NewB w2 (w.heap.size + 1) x → x < W.heap.size := fun x hx => by rw [z3]; have := hx.2; omega
  have KS := Lib.hid (show W.drew.heap[w2.heap.size]? = _ from kS)
  have KZ := Lib.hid (show W.drew.heap[w.heap.size]? = _ from kZ)
  have Z3 := Lib.hid (show W.drew.heap.size = w2.heap.size + 1 from z3)
  have B3 := Lib.hid bel3.drew
  have HS3 := Lib.hid (show SSl W.drew (NewB w2 (w.heap.size + 1)) (newS (R + 1) (C + 1)) uc ut uo up ui uu from hs3)
  clear kS o3 z3 kZ bel3 hs3 hW k2 k1 hs2 hlt3
  go_simp
  go_wp2_with fail
  have hby := seatBytes_any (.slice A l.length cp) l W.drew ((HV.out.below B3.out).more B3.out.size) hl
  have HBY := Lib.hid hby
  clear hby
  have hfe : ∀ (W' : World) (bv : Value) (m : List UInt8), Below W.drew.heap.size W.drew W' → BS W' W'.heap.size bv m → m.length ≤ 1099511627776 → Calls Try.prog 27 #[.agg (vS (newS (R + 1) (C + 1)) uc ut uo up ui uu), bv] W' (ScPost (NewB w2 (w.heap.size + 1)) (feedS (newS (R + 1) (C + 1)) m) W') := by
    intro W' bv m hb hbs hm
    have hlt : ∀ x, NewB w2 (w.heap.size + 1) x → x < W.drew.heap.size := fun x hx => by rw [Z3.out]; have := hx.2; omega
    exact feedr_any _ bv (newS (R + 1) (C + 1)) m (R + 1) (C + 1) (NewB w2 (w.heap.size + 1)) W' (fun x hx => Nat.lt_of_lt_of_le (hlt x hx) hb.size) ⟨_, _, _, _, _, _, rfl, HS3.out.below hlt hb⟩ HNI.out hbs hm
  have HFE := Lib.hid hfe
  clear hfe
  refine wp_region_any (by kernel_rfl) ?_
  try (change wpAny _ _ _ _ _ _ _ (World.drew _))
  refine wpAny_ready (rs := [0, 1]) (by kernel_rfl) (by simp) ?_
  refine AllReady.cons rfl (fun K hK => ?_) (AllReady.cons rfl (fun K hK => ?_) AllReady.nil)
  · refine step_loadS rfl (.tmp 7) rfl rfl KS.out rfl ?_
    refine hK _ _ ?_
    clear hK K
    refine wpAny_ready (rs := [1]) (by kernel_rfl) (by simp) ?_
    refine AllReady.cons rfl (fun K hK => ?_) AllReady.nil
    go_simp
    refine hK _ _ ?_
    clear hK K
    refine wpAny_ready (rs := [2]) (by kernel_rfl) (by simp) ?_
    refine AllReady.cons rfl (fun K hK => ?_) AllReady.nil
    go_simp
    refine HBY.out.mono ?_
    rintro e w6 ⟨bv, m, rfl, hbv, hml, b6⟩
    obtain ⟨Ab, cb, rfl, g5, g6, -⟩ := hbv.bs.at_
    have hF := HFE.out w6 (.slice Ab m.length cb) m b6 hbv.bs (by omega)
    have HF := Lib.hid hF
    have K6 := Lib.hid ((b6.block _ (by rw [Z3.out]; omega)).trans KS.out)
    have HB6 := Lib.hid b6
    have hz6 : w2.heap.size + 1 ≤ w6.heap.size := by have := b6.size; rw [Z3.out] at this; exact this
    clear hF
    refine hK _ _ ?_
    clear hK K
    refine wpAny_ready (rs := [3]) (by kernel_rfl) (by simp) ?_
    refine AllReady.cons rfl (fun K hK => ?_) AllReady.nil
    go_simp
    refine HF.out.mono ?_
    rintro e w7 ⟨v7, rfl, hv7, b7⟩
    obtain ⟨zc, zt, zo, zp, zi, zu, rfl, hs7⟩ := hv7
    have k7 : w7.heap[w.heap.size]? = _ := (b7.block _ (by omega)).trans ((HB6.out.block _ (by rw [Z3.out]; omega)).trans KZ.out)
    have z7 : w6.heap.size ≤ w7.heap.size := b7.size
    refine hK _ _ ?_
    clear hK K
    refine wpAny_ready (rs := [4]) (by kernel_rfl) (by simp) ?_
    refine AllReady.cons rfl (fun K hK => ?_) AllReady.nil
    refine step_storeS rfl (.tmp 6) (.tmp 24) rfl rfl rfl k7 rfl rfl hs7.one ?_
    refine hK _ _ ?_
    clear hK K
    refine wpAny_done (by kernel_rfl) ?_ _
    go_simp
    go_wp2_with fail
    refine seatEnd (w6 := w6) (w7 := w7) 6 Try.results8 ?_ ?_ k7 HB6.out B3.out Z3.out z2 b7 hs7 ⟨feedS_in m HNI.out, feedS_w m HNI.out (newS_w _ _ _ _)⟩ (by omega) (by omega)
    all_goals rfl
  · go_simp
    refine hK _ _ ?_
    clear hK K
    refine wpAny_ready (rs := [0, 2]) (by kernel_rfl) (by simp) ?_
    refine AllReady.cons rfl (fun K hK => ?_) (AllReady.cons rfl (fun K hK => ?_) AllReady.nil)
    · refine step_loadS rfl (.tmp 7) rfl rfl KS.out rfl ?_
      refine hK _ _ ?_
      clear hK K
      refine wpAny_ready (rs := [2]) (by kernel_rfl) (by simp) ?_
      refine AllReady.cons rfl (fun K hK => ?_) AllReady.nil
      go_simp
      refine HBY.out.mono ?_
      rintro e w6 ⟨bv, m, rfl, hbv, hml, b6⟩
      obtain ⟨Ab, cb, rfl, g5, g6, -⟩ := hbv.bs.at_
      have hF := HFE.out w6 (.slice Ab m.length cb) m b6 hbv.bs (by omega)
      have HF := Lib.hid hF
      have K6 := Lib.hid ((b6.block _ (by rw [Z3.out]; omega)).trans KS.out)
      have HB6 := Lib.hid b6
      have hz6 : w2.heap.size + 1 ≤ w6.heap.size := by have := b6.size; rw [Z3.out] at this; exact this
      clear hF
      refine hK _ _ ?_
      clear hK K
      refine wpAny_ready (rs := [3]) (by kernel_rfl) (by simp) ?_
      refine AllReady.cons rfl (fun K hK => ?_) AllReady.nil
      go_simp
      refine HF.out.mono ?_
      rintro e w7 ⟨v7, rfl, hv7, b7⟩
      obtain ⟨zc, zt, zo, zp, zi, zu, rfl, hs7⟩ := hv7
      have k7 : w7.heap[w.heap.size]? = _ := (b7.block _ (by omega)).trans ((HB6.out.block _ (by rw [Z3.out]; omega)).trans KZ.out)
      have z7 : w6.heap.size ≤ w7.heap.size := b7.size
      refine hK _ _ ?_
      clear hK K
      refine wpAny_ready (rs := [4]) (by kernel_rfl) (by simp) ?_
      refine AllReady.cons rfl (fun K hK => ?_) AllReady.nil
      refine step_storeS rfl (.tmp 6) (.tmp 24) rfl rfl rfl k7 rfl rfl hs7.one ?_
      refine hK _ _ ?_
      clear hK K
      refine wpAny_done (by kernel_rfl) ?_ _
      go_simp
      go_wp2_with fail
      refine seatEnd (w6 := w6) (w7 := w7) 6 Try.results8 ?_ ?_ k7 HB6.out B3.out Z3.out z2 b7 hs7 ⟨feedS_in m HNI.out, feedS_w m HNI.out (newS_w _ _ _ _)⟩ (by omega) (by omega)
      all_goals rfl
    · go_simp
      refine HBY.out.mono ?_
      rintro e w6 ⟨bv, m, rfl, hbv, hml, b6⟩
      obtain ⟨Ab, cb, rfl, g5, g6, -⟩ := hbv.bs.at_
      have hF := HFE.out w6 (.slice Ab m.length cb) m b6 hbv.bs (by omega)
      have HF := Lib.hid hF
      have K6 := Lib.hid ((b6.block _ (by rw [Z3.out]; omega)).trans KS.out)
      have HB6 := Lib.hid b6
      have hz6 : w2.heap.size + 1 ≤ w6.heap.size := by have := b6.size; rw [Z3.out] at this; exact this
      clear hF
      refine hK _ _ ?_
      clear hK K
      refine wpAny_ready (rs := [0]) (by kernel_rfl) (by simp) ?_
      refine AllReady.cons rfl (fun K hK => ?_) AllReady.nil
      refine step_loadS rfl (.tmp 7) rfl rfl K6.out rfl ?_
      refine hK _ _ ?_
      clear hK K
      refine wpAny_ready (rs := [3]) (by kernel_rfl) (by simp) ?_
      refine AllReady.cons rfl (fun K hK => ?_) AllReady.nil
      go_simp
      refine HF.out.mono ?_
      rintro e w7 ⟨v7, rfl, hv7, b7⟩
      obtain ⟨zc, zt, zo, zp, zi, zu, rfl, hs7⟩ := hv7
      have k7 : w7.heap[w.heap.size]? = _ := (b7.block _ (by omega)).trans ((HB6.out.block _ (by rw [Z3.out]; omega)).trans KZ.out)
      have z7 : w6.heap.size ≤ w7.heap.size := b7.size
      refine hK _ _ ?_
      clear hK K
      refine wpAny_ready (rs := [4]) (by kernel_rfl) (by simp) ?_
      refine AllReady.cons rfl (fun K hK => ?_) AllReady.nil
      refine step_storeS rfl (.tmp 6) (.tmp 24) rfl rfl rfl k7 rfl rfl hs7.one ?_
      refine hK _ _ ?_
      clear hK K
      refine wpAny_done (by kernel_rfl) ?_ _
      go_simp
      go_wp2_with fail
      refine seatEnd (w6 := w6) (w7 := w7) 6 Try.results8 ?_ ?_ k7 HB6.out B3.out Z3.out z2 b7 hs7 ⟨feedS_in m HNI.out, feedS_w m HNI.out (newS_w _ _ _ _)⟩ (by omega) (by omega)
      all_goals rfl
theorem seatScreen_any (r c : Nat) (hr : r < 256) (hc : c < 256) (v : Value) (l : List UInt8) (w : World) (hv : BS w w.heap.size v l) (hl : l.length ≤ 1048576) : Calls Try.prog 8 #[.int .u8 (r : Int), .int .u8 (c : Int), v] w (SeatScr w) := by
  refine (seatScreenW_any r c hr hc v l w hv hl).mono ?_
  rintro e w' ⟨v, s, r, c, h1, h2, ⟨h3, -⟩, h4, h5, h6⟩
  exact ⟨v, s, r, c, h1, h2, h3, h4, h5, h6⟩
end Go.Proofs.Ytfimfipflfkolaa

namespace Go.Proofs.Ytfimfipflfkolaa
open Go.RowKit
set_option linter.unusedVariables false
set_option linter.unusedSimpArgs false

/-- The zero of a screen. -/
@[reducible] def zG : Array Value := #[.int .i64 0, .int .i64 0, .slice none 0 0, .int .i64 0, .int .i64 0, .bool false, .int .u16 0, .int .i64 0, .int .i64 0, .slice none 0 0, .int .i64 0, .int .i64 0, .int .u16 0, .bool false, .bool false, .bool false, .slice none 0 0, .int .i64 0, .int .i64 0, .int .i64 0, .int .u8 0, .slice none 0 0, .slice none 0 0, .slice none 0 0]
theorem cellG {w : World} {g : Nat} {xs : Array Value} {t : TypeId} (h : w.heap[g]? = some (.cells xs t)) (i : Nat) {v : Value} (hv : xs[i]? = some v) : w.cell? ⟨g, i, none⟩ = some v := by
  rw [cell_of_row w g i _ t _ h]; exact hv
theorem ltG {w : World} {b : Nat} {o : Obj} (h : w.heap[b]? = some o) : b < w.heap.size := by
  rcases Nat.lt_or_ge b w.heap.size with c | c
  · exact c
  · rw [Array.getElem?_eq_none c] at h; cases h
theorem heap_oneG (w : World) (o : Obj) : (w.alloc o).heap[w.heap.size]? = some o := by
  show (w.heap.push o)[w.heap.size]? = _
  simp
/-- A screen that has been laid in a block of its own: its rows, columns, cells. -/
structure LaidG (w W : World) (sb : Nat) (vs : Array Value) (vc : Value) (l : List Cl) (r c : Nat) : Prop where
  blk : W.heap[sb]? = some (.cells vs 32)
  at0 : vs[0]? = some (.int .i64 (r : Int))
  at1 : vs[1]? = some (.int .i64 (c : Int))
  at2 : vs[2]? = some vc
  cs : CS W W.heap.size vc l
  g : GOk l.length r c
  whole : Whole l r c
  r6 : r ≤ 6
  c9 : c ≤ 9
  bel : Below w.heap.size w W
  lo : w.heap.size ≤ sb
theorem LaidG.below {w W W' : World} {sb : Nat} {vs : Array Value} {vc : Value} {l : List Cl} {r c : Nat} (h : LaidG w W sb vs vc l r c) (hb : Below W.heap.size W W') : LaidG w W' sb vs vc l r c :=
  ⟨(hb.block sb (ltG h.blk)).trans h.blk, h.at0, h.at1, h.at2, (h.cs.below hb).more hb.size, h.g, h.whole, h.r6, h.c9, h.bel.trans (hb.mono h.bel.size), h.lo⟩
theorem LaidG.cell {w W : World} {sb : Nat} {vs : Array Value} {vc : Value} {l : List Cl} {r c : Nat} (h : LaidG w W sb vs vc l r c) : W.cell? ⟨sb, 0, none⟩ = some (.int .i64 (r : Int)) ∧ W.cell? ⟨sb, 1, none⟩ = some (.int .i64 (c : Int)) ∧ W.cell? ⟨sb, 2, none⟩ = some vc :=
  ⟨cellG h.blk 0 h.at0, cellG h.blk 1 h.at1, cellG h.blk 2 h.at2⟩
theorem LaidG.len {w W : World} {sb : Nat} {vs : Array Value} {vc : Value} {l : List Cl} {r c : Nat} (h : LaidG w W sb vs vc l r c) : 1 ≤ l.length ∧ l.length ≤ 54 := by
  have hn := h.g.n
  have h1 : r * c ≤ 6 * 9 := Nat.mul_le_mul h.r6 h.c9
  have h2 : 0 < r * c := Nat.mul_pos h.g.r1 h.g.c1
  omega
theorem laidG {w w2 : World} {s : Sc} {r c : Nat} {vc vt vo vp vi vu : Value} (hb : Below w.heap.size w w2) (hs : SSl w2 (NewB w2 w.heap.size) s vc vt vo vp vi vu) (hi : ScIn s r c) (hw : ScW s r c) (hr : r ≤ 6) (hc : c ≤ 9) (Z : Array Value) (hZ : Z.size = 24) :
    LaidG w ((w2.alloc (.cells Z 32)).setRow w2.heap.size (vS s vc vt vo vp vi vu)) w2.heap.size (vS s vc vt vo vp vi vu) vc s.cells r c := by
  have k2 : (w2.alloc (.cells Z 32)).heap[w2.heap.size]? = some (.cells Z 32) := heap_oneG w2 _
  have hz : ((w2.alloc (.cells Z 32)).setRow w2.heap.size (vS s vc vt vo vp vi vu)).heap.size = w2.heap.size + 1 := by rw [size_setRow]; simp
  have o3 : ∀ b, b < w2.heap.size → ((w2.alloc (.cells Z 32)).setRow w2.heap.size (vS s vc vt vo vp vi vu)).heap[b]? = w2.heap[b]? := fun b hb => by rw [heap_setRow_other (by omega)]; exact Below.heap_alloc w2 _ b hb
  refine ⟨heap_setRow_same k2, ?_, ?_, rfl, ?_, hi.g, hw.cells, hr, hc, below_setRow (hb.alloc hb.size _) hb.size _, hb.size⟩
  · show some (Value.int .i64 s.rows) = _
    rw [hi.rows]
  · show some (Value.int .i64 s.cols) = _
    rw [hi.cols]
  · rw [hz]
    exact (hs.1.keep (fun q hq => World.cell?_of_block (o3 _ hq.2))).cs (fun x hx => by have := hx.2; omega)
end Go.Proofs.Ytfimfipflfkolaa
