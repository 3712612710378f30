/- What is proved here: the law CrcTells, called with any slice of bytes, any sum and any byte, returns true and leaves alone whatever memory was there. -/
import Derived.Test.YtaiclombimdkmaaCrcKnown
import Derived.Deep.RegionHeld3
import Derived.Deep.RegionWith
namespace Go.Proofs.Ytaiclombimdkmaa
open Go.RowKit
set_option linter.unusedVariables false

set_option maxHeartbeats 4000000 in
set_option maxRecDepth 100000 in
theorem crcTells_walk (a0 : Option Addr) (len0 cap0 : Nat) (l : List UInt8) (a1 a2 : Int) (w : World) (h0 : BS w w.heap.size (.slice a0 len0 cap0) l) (w1 : (Lit.int .u32 a1).wf = true) (w2 : (Lit.int .u8 a2).wf = true) :
    Calls Try.prog 3 #[.slice a0 len0 cap0, .int .u32 a1, .int .u8 a2] w fun e w' => e = .returned (.bool true) ∧ Below w.heap.size w w' := by
  obtain ⟨c0, c1⟩ := bounds_u32 w1
  obtain ⟨k0, k1⟩ := bounds_u8 w2
  clear w1 w2
  obtain ⟨c, rfl⟩ : ∃ c : Nat, a1 = (c : Int) := ⟨a1.toNat, by omega⟩
  obtain ⟨k, rfl⟩ : ∃ k : Nat, a2 = (k : Int) := ⟨a2.toNat, by omega⟩
  obtain rfl := h0.lenC
  have hc : c < 4294967296 := by omega
  have hk : k < 256 := by omega
  by_cases hlong : 300 < l.length
  · have d1 : decide (300 < (l.length : Int)) = true := by simp; omega
    go_enter Try.func3, Try.ntmps3
    go_wp2_with fail
    refine (knownC_any _).mono ?_
    rintro e w1 ⟨rfl, hb1⟩
    go_wp2
    go_ret
    exact ⟨rfl, hb1⟩
  have d1 : decide (300 < (l.length : Int)) = false := by simp; omega
  have hz := zero_run
  go_enter Try.func3, Try.ntmps3
  go_wp2_with fail
  refine (knownC_any _).mono ?_
  rintro e w1 ⟨rfl, hb1⟩
  have hst := w3_store w1
  go_wp2_with (first
    | (go_at_call 8; refine (table_any _).mono ?_; rintro e w' ⟨rfl, rfl⟩)
    | (refine wpl_store_run (o := ⟨none, _, _, _, _, _⟩) rfl 25 (.tmp 7) (.tmp 13) rfl rfl rfl hst ?_))
  have hcell := w3_cell w1 k hk
  have hb3 := hb1.trans ((w3_below w1).mono hb1.size)
  have hbs := h0.below hb3
  have hsz := w3_size w1
  have hs1 := hb1.size
  have hB : w1.heap.size + 2 < (w3 w1).heap.size := by omega
  have hs3 := hb3.size
  clear hst hz d1 hb1 hsz
  generalize w3 w1 = W at *
  rw [show w1.heap.size + 1 + 1 = w1.heap.size + 2 from rfl]
  generalize w1.heap.size + 2 = T at *
  clear hs1 h0
  have hl : l.length ≤ 300 := by omega
  clear hlong
  have hcd : W.drew.cell? ⟨T, k, none⟩ = some (.int .u32 (half8 k : Nat)) := hcell
  have hbd : BS W.drew w.heap.size (.slice a0 l.length cap0) l := hbs
  have hBd : T < W.drew.heap.size := hB
  have hsd : w.heap.size ≤ W.drew.heap.size := hs3
  have h3d : Below w.heap.size w W.drew := hb3.drew
  have hki : (k : Int) < 256 := by omega
  have hki0 : (0 : Int) ≤ (k : Int) := by omega
  have ekk : IntKind.i64.wrap (k : Int) = (k : Int) := by rw [IntKind.wrap_i64]; omega
  clear hb3 hbs hB hs3
  go_region_with
    (first
     | (go_at_call 9; refine (sum_any _ l _ _ hbd hsd (by omega)).mono ?_; rintro e w4 ⟨rfl, hb4⟩; have hc4 := (hb4.cell (p := ⟨T, k, none⟩) hBd).trans hcd)
     | (go_at_call 10; refine (sumr_any _ l _ _ (hbd.below (hb4.mono hsd)) (by omega)).mono ?_; rintro e w5 ⟨rfl, rfl⟩)
     | (go_at_call 11; refine (more_any c hc _ l _ _ (hbd.below (hb4.mono hsd)) (Nat.le_trans hsd hb4.size) (by omega)).mono ?_; rintro e w5 ⟨rfl, hb5⟩; have hc5 := (hb5.cell (p := ⟨T, k, none⟩) (Nat.lt_of_lt_of_le hBd hb4.size)).trans hc4; have hbd5 := hb4.trans (hb5.mono hb4.size))
     | (go_at_call 12; refine (morer_any c hc _ l _ _ (hbd.below (hbd5.mono hsd)) (by omega)).mono ?_; rintro e w6 ⟨rfl, rfl⟩)
     | (go_at_call 13; refine (rowr_any k hk _).mono ?_; rintro e w6 ⟨rfl, rfl⟩)
     | (go_at_call 14; refine (four_any c hc _).mono ?_; rintro e w6 ⟨v6, rfl, hv6, hb6⟩; have hs6 := run_str hv6; have hbd6 := hbd5.trans (hb6.mono hbd5.size); have hc6 := (hb6.cell (p := ⟨T, k, none⟩) (Nat.lt_of_lt_of_le hBd hbd5.size)).trans hc5)
     | (go_at_call 15; refine (fourr_any c hc _).mono ?_; rintro e w7 ⟨v7, rfl, hv7, hb7⟩; have hs7 := run_str hv7; have hs76 := run_str (hv6.below hb7); have hbd7 := hbd6.trans (hb7.mono hbd6.size); have hc7 := (hb7.cell (p := ⟨T, k, none⟩) (Nat.lt_of_lt_of_le hBd hbd6.size)).trans hc6))
  all_goals
    go_wp2
    go_ret
    exact ⟨rfl, h3d.trans (hbd7.mono hsd)⟩
end Go.Proofs.Ytaiclombimdkmaa
