/- What is proved here: a contract of the function that makes the checksum's table: 256 rows, each eight halvings of its place, handed back by value; new memory alone is written. -/
import Derived.Test.YtaiclombimdkmaaCrcRow
import Derived.Deep.WholeRow
import Derived.Deep.LoopGhost
import Derived.Laws.ResultCell
namespace Go.Proofs.Ytaiclombimdkmaa
open Go.RowKit

/-- The table, as far as it is made. -/
def tabUp (k : Nat) : Array Value := ((List.range 256).map fun i => Value.int .u32 (if i < k then (half8 i : Nat) else 0 : Int)).toArray
def tab : Array Value := tabUp 256
theorem tabUp_size (k : Nat) : (tabUp k).size = 256 := by simp [tabUp]
theorem tabUp_zero : tabUp 0 = Array.replicate 256 (.int .u32 0) := by
  apply Array.ext_getElem?
  intro i
  by_cases h : i < 256
  · simp [tabUp, h]
  · simp [tabUp, h]
theorem tabUp_get (k i : Nat) (h : i < 256) : (tabUp k)[i]? = some (.int .u32 (if i < k then (half8 i : Nat) else 0 : Int)) := by
  simp [tabUp, h]
theorem tabUp_set (k : Nat) (h : k < 256) : (tabUp k).setIfInBounds k (.int .u32 (half8 k : Nat)) = tabUp (k + 1) := by
  apply Array.ext_getElem?
  intro i
  by_cases hi : i < 256
  · rw [tabUp_get _ _ hi]
    by_cases e : k = i
    · subst e
      rw [Array.getElem?_setIfInBounds_self_of_lt (by rw [tabUp_size]; exact h), if_pos (by omega)]
    · rw [Array.getElem?_setIfInBounds_ne e, tabUp_get _ _ hi]
      by_cases hk : i < k
      · rw [if_pos hk, if_pos (by omega)]
      · rw [if_neg hk, if_neg (by omega)]
  · rw [Array.getElem?_eq_none (by rw [Array.size_setIfInBounds, tabUp_size]; omega), Array.getElem?_eq_none (by rw [tabUp_size]; omega)]
theorem tab_get (i : Nat) (h : i < 256) : tab[i]? = some (.int .u32 (half8 i : Nat)) := by
  unfold tab
  rw [tabUp_get _ _ h, if_pos h]
theorem tab_one (k : Nat) : (tabUp k).all (·.oneCell') = true := by
  rw [Array.all_eq_true]
  intro i hi
  have h2 := hi
  rw [tabUp_size] at h2
  have := tabUp_get k i h2
  rw [Array.getElem?_eq_getElem hi] at this
  injection this with this
  rw [this]
  rfl

/-- A load, a store whose run is known, for the walk. -/
theorem wpl_load_run {w w' : World} {ops : Array Oper} {rest : List Oper} {o : Oper} {a : Act} {Q : Exit → Act → World → Prop} (hgd : o.guard = none) (ty : TypeId) (x : Operand) (ho : o.op = .load ty x) {p v : Value} (hx : a.eval x = p)
    (hrun : (Instr.loadAt ty p).run Try.prog w = .ok v w') (h : wpList Try.prog ops Q rest (a.put o.dst v) w') : wpList Try.prog ops Q (o :: rest) a w := by
  refine wpList_plain hgd fun K hK => ?_
  unfold Oper.wp execOp
  simp only [ho, hx, Sem.run_bind, hrun, Result.andThen_ok, Sem.run_pure]
  exact hK _ _ h
theorem wpl_store_run {w w' : World} {ops : Array Oper} {rest : List Oper} {o : Oper} {a : Act} {Q : Exit → Act → World → Prop} (hgd : o.guard = none) (ty : TypeId) (x y : Operand) (ho : o.op = .store ty x y) {p v : Value} (hx : a.eval x = p) (hy : a.eval y = v)
    (hrun : (Instr.storeAt ty p v).run Try.prog w = .ok () w') (h : wpList Try.prog ops Q rest (a.put o.dst undef) w') : wpList Try.prog ops Q (o :: rest) a w := by
  refine wpList_plain hgd fun K hK => ?_
  unfold Oper.wp execOp
  simp only [ho, hx, hy, Sem.run_bind, hrun, Result.andThen_ok, Sem.run_pure]
  exact hK _ _ h
theorem results_cell {fn : Func} {p : Tmp} {ty : TypeId} (h : fn.results = #[.cell p ty]) (tmps : Array Value) (P : Program) (w : World) :
    (results fn tmps).run P w = ((asAddr (tmps.getD p undef)).run P w).andThen fun a w₁ => (loadVar ty a).run P w₁ := by
  simp only [results, h]
  simp [Sem.run_bind, Result.andThen]
theorem alloc2_get (w : World) (o o' : Obj) : ((w.alloc o).alloc o').heap[w.heap.size]? = some o := by
  show ((w.heap.push o).push o')[w.heap.size]? = some o
  simp [Array.getElem?_push]
theorem setRow_below (w : World) (c c' : Array Value) (t : TypeId) (o : Obj) : ((w.alloc (.cells c t)).alloc o).setRow w.heap.size c' = (w.alloc (.cells c' t)).alloc o := by
  simp only [World.setRow, World.alloc]
  congr 1
  apply Array.ext_getElem?
  intro i
  rw [Array.getElem?_modify]
  by_cases h : w.heap.size = i
  · subst h
    simp [Array.getElem?_push]
  · have h' : ¬ i = w.heap.size := fun e => h e.symm
    simp [h, h', Array.getElem?_push]

theorem tabInfo : (Try.prog.info? 25).map (fun i => (i.zero, i.size)) = some (some (.agg (Array.replicate 256 (.int .u32 0))), 256) := by kernel_rfl

set_option maxHeartbeats 4000000 in
set_option maxRecDepth 100000 in
theorem table_any (w : World) : Calls Try.prog 8 #[] w fun e w' => e = .returned (.agg tab) ∧ w' = (w.alloc (.cells tab 25)).alloc (.cells tab 25) := by
  obtain ⟨hv, hi⟩ := zero_of_info tabInfo
  rw [← tabUp_zero] at hv
  have HI := Lib.hid hi
  clear hi
  go_enter Try.func8, Try.ntmps8
  go_wp2
  go_loopg [3] 256 (fun g s3 wx => ∃ i : Nat, i + g = 256 ∧ s3 = .int .i64 i ∧ wx = (w.alloc (.cells (tabUp 0) 25)).alloc (.cells (tabUp i) 25))
  case atStart => exact ⟨0, by omega, rfl, rfl⟩
  case round =>
    obtain ⟨i, hig, rfl, rfl⟩ := hrel
    cases gk with
    | zero =>
      obtain rfl : i = 256 := by omega
      have hld : (Instr.loadAt 25 (.pointer (some ⟨w.heap.size + 1, 0, none⟩))).run Try.prog ((w.alloc (.cells (tabUp 0) 25)).alloc (.cells (tabUp 256) 25)) = .ok (.agg tab) ((w.alloc (.cells (tabUp 0) 25)).alloc (.cells (tabUp 256) 25)) := by
        have := run_loadAt_new (P := Try.prog) (w.alloc (.cells (tabUp 0) 25)) 25 (tabUp 256) 256 23 Try.underlying25 (by rw [tabUp_size]; exact HI.out)
        rw [show (w.alloc (.cells (tabUp 0) 25)).heap.size = w.heap.size + 1 from by simp] at this
        exact this
      have hst : (Instr.storeAt 25 (.pointer (some ⟨w.heap.size, 0, none⟩)) (.agg tab)).run Try.prog ((w.alloc (.cells (tabUp 0) 25)).alloc (.cells (tabUp 256) 25)) = .ok () ((w.alloc (.cells tab 25)).alloc (.cells (tabUp 256) 25)) := by
        have := run_storeVar_row (P := Try.prog) ((w.alloc (.cells (tabUp 0) 25)).alloc (.cells (tabUp 256) 25)) w.heap.size 25 25 (tabUp 0) tab (alloc2_get w _ _) (by unfold tab; rw [tabUp_size]; exact HI.out) (by unfold tab; rw [tabUp_size, tabUp_size]) (tab_one 256)
        rw [setRow_below] at this
        simp only [Instr.storeAt, Instr.sureAddr, Sem.run_bind, Sem.run_pure, Result.andThen]
        exact this
      go_wp2_with (first
        | (refine wpl_load_run (o := ⟨some 12, _, _, _, _, _⟩) rfl 25 (.tmp 1) rfl rfl hld ?_)
        | (refine wpl_store_run (o := ⟨none, _, _, _, _, _⟩) rfl 25 (.tmp 0) (.tmp 12) rfl rfl rfl hst ?_))
      refine bodyPost_ret (v := .agg tab) ?_ rfl ⟨rfl, rfl⟩
      rw [results_cell rfl]
      have h2 := run_loadVar_row (P := Try.prog) ((w.alloc (.cells tab 25)).alloc (.cells (tabUp 256) 25)) w.heap.size 25 25 tab (0, 0) _ (alloc2_get w _ _) Try.underlying25 rfl (by unfold tab; rw [tabUp_size]; exact HI.out)
      simp [asAddr, Result.andThen, h2]
    | succ g =>
      have hlt : (i : Int) < 256 := by omega
      have hc := tabUp_get i i (by omega)
      rw [if_neg (by omega)] at hc
      go_wp2_with (go_at_call 16; refine (row_any i (by omega) _).mono ?_; rintro e w' ⟨rfl, rfl⟩)
      go_roundg g
      case measure => omega
      case rel => exact ⟨i + 1, by omega, by go_num, by rw [tabUp_set i (by omega)]⟩
end Go.Proofs.Ytaiclombimdkmaa
