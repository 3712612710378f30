/- What is proved here: the law LebTells, called with any number, any byte, any slice of bytes and any int, returns true and leaves alone whatever memory was there. -/
import Derived.Test.YtgnonicglkoikaaLebTells7
import Derived.Test.YtgnonicglkoikaaLebTells10
import Derived.Test.YtgnonicglkoikaaLebKnown
import Derived.Test.YtgnonicglkoikaaLebEdge
import Derived.Deep.DeepCutAuto
namespace Go.Proofs.Ytgnonicglkoikaa
open Go.RowKit
set_option linter.unusedVariables false

def longL (k : Int) : List UInt8 := [128, 128, 128, 128, 128, 128, 128, 128, 128, UInt8.ofNat (k % 4).toNat]
theorem longL_cells (k : Int) (h0 : 0 ≤ k % 4) (h1 : k % 4 < 256) : #[.int .u8 128, .int .u8 128, .int .u8 128, .int .u8 128, .int .u8 128, .int .u8 128, .int .u8 128, .int .u8 128, .int .u8 128, .int .u8 (k % 4)] = (vBs (longL k)).toArray := by
  have e := vB_of (k % 4) h0 h1
  simp only [longL, vBs, List.map_cons, List.map_nil, e]
  rfl
theorem cell_lt {w : World} {p : Addr} {v : Value} (h : w.cell? p = some v) : p.block < w.heap.size := by
  rcases Nat.lt_or_ge p.block w.heap.size with hh | hh
  · exact hh
  · simp [World.cell?, Array.getElem?_eq_none hh] at h
def LRel (w0 : World) (s : Value) (wr : World) : Prop := ∃ i : Nat, i ≤ 6 ∧ s = .int .i64 (i : Int) ∧ Below w0.heap.size w0 wr

set_option maxRecDepth 100000 in
set_option maxHeartbeats 4000000 in
theorem lebTells_walk (n k : Int) (A2 : Option Addr) (l2 c2 : Nat) (raw : List UInt8) (most : Int) (w : World) (wn : (Lit.int .u64 n).wf = true) (wk : (Lit.int .u8 k).wf = true)
    (h2 : BS w w.heap.size (.slice A2 l2 c2) raw) (wm : (Lit.int .i64 most).wf = true) :
    Calls Try.prog 3 #[.int .u64 n, .int .u8 k, .slice A2 l2 c2, .int .i64 most] w fun e w' => e = .returned (.bool true) ∧ Below w.heap.size w w' := by
  obtain ⟨n0, n1⟩ := bounds_u64 wn
  obtain ⟨k0, k1⟩ := bounds_u8 wk
  obtain ⟨m0, m1⟩ := bounds_i64 wm
  clear wn wk wm
  obtain ⟨rfl, g2⟩ := h2.len
  by_cases hlong : 40 < raw.length
  · go_enter Try.func3, Try.ntmps3
    go_wp2_with fail
    refine (known_any _).mono ?_
    rintro e w1 ⟨rfl, hb1⟩
    have d1 : decide (40 < (raw.length : Int)) = true := by simp; omega
    go_wp2
    go_ret
    exact ⟨rfl, hb1⟩
  have d1 : decide (40 < (raw.length : Int)) = false := by simp; omega
  go_enter Try.func3, Try.ntmps3
  go_wp2_with fail
  refine (known_any _).mono ?_
  rintro e w1 ⟨rfl, hb1⟩
  go_wp2_with fail
  refine (edge_any n k n0 (by omega) k0 (by omega) _).mono ?_
  rintro e w2 ⟨x, x0, x1, rfl, hb⟩
  have hb2 := hb1.trans (hb.mono hb1.size)
  clear hb hb1 n0 n1
  go_wp2_with fail
  refine (putr_any x x0 x1 _).mono ?_
  rintro e w3 ⟨vb, rfl, hvb, hb⟩
  have hb3 := hb2.trans (hb.mono hb2.size)
  obtain ⟨bl1, bl2⟩ := lebP_length x.toNat
  have hvbs := hvb.bs
  clear hb hb2
  obtain ⟨VB, cb, rfl, _⟩ := hvbs
  have hvbs := hvb.bs
  go_upto_region 7 with fail
  refine tells7 x x0 x1 VB cb w3 hvbs _ _ _ _ _ _ _ _ _ _ _ _ _ _ _ _ _ _ _ _ _ _ _ _ _ _ _ _ _ _ _ _ _ _ _ _ _ _ _ _ _ _ _ _ _ _ _ _ _ _ _ _ _ _ _ _ _ _ _ _ _ _ _ _ _ _ _ _ _ _ _ _ _ _ _ _ _ _ _ _ _ _ _ _ _ _ _ _ _ _ _ _ _ _ _ _ _ _ _ _ _ _ _ _ _ _ _ _ _ _ _ _ _ _ _ _ _ _ _ _ _ _ _ _ _ _ _ _ _ _ _ _ _ _ _ _ _ _ _ _ _ _ _ _ _ _ _ _ _ _ _ _ _ _ _ _ _ _ _ _ _ _ _ _ _ _ _ _ _ _ _ _ _ _ _ _ _ _ _ _ _ _ _ _ _ _ _ _ _ _ _ _ _ _ _ _ _ _ _ _ _ _ _ _ _ _ ?_
  intro s42 s43 s44 s45 s46 s47 s48 s49 s50 s51 s52 s53 s54 s55 s56 s57 s58 s59 s60 s61 s62 s63 s64 s65 s66 s67 s68 s69 s70 s71 s72 s73 s74 s75 s76 s77 s78 wc hbc
  have hb4 := hb3.trans (hbc.mono hb3.size)
  have hz4 := hb4.size
  have hbb := hvbs.below hbc
  have k4a : 0 ≤ k % 4 := by omega
  have k4b : k % 4 < 256 := by omega
  have hlg := BS.lit wc (longL k) 10 #[.int .u8 128, .int .u8 128, .int .u8 128, .int .u8 128, .int .u8 128, .int .u8 128, .int .u8 128, .int .u8 128, .int .u8 128, .int .u8 (k % 4)] 5 rfl (longL_cells k k4a k4b) (by simp [longL])
  have hraw := (h2.below hb4).alloc hz4 (.cells #[.int .u8 128, .int .u8 128, .int .u8 128, .int .u8 128, .int .u8 128, .int .u8 128, .int .u8 128, .int .u8 128, .int .u8 128, .int .u8 (k % 4)] 5)
  have hbb2 := (hbb.alloc hbc.size (.cells #[.int .u8 128, .int .u8 128, .int .u8 128, .int .u8 128, .int .u8 128, .int .u8 128, .int .u8 128, .int .u8 128, .int .u8 128, .int .u8 (k % 4)] 5))
  have hb5 := hb4.alloc hz4 (.cells #[.int .u8 128, .int .u8 128, .int .u8 128, .int .u8 128, .int .u8 128, .int .u8 128, .int .u8 128, .int .u8 128, .int .u8 128, .int .u8 (k % 4)] 5)
  have hgb : (lebP x.toNat).length ≤ cb := hvbs.len.2
  have hz5 := hbc.size
  go_upto_region 10 with fail
  generalize hW0 : wc.alloc (.cells #[.int .u8 128, .int .u8 128, .int .u8 128, .int .u8 128, .int .u8 128, .int .u8 128, .int .u8 128, .int .u8 128, .int .u8 128, .int .u8 (k % 4)] 5) = W0 at *
  have hsz : W0.heap.size = wc.heap.size + 1 := by rw [← hW0]; simp
  have hraw0 : BS W0 W0.heap.size (.slice A2 raw.length c2) raw := hraw.more (by omega)
  have hbb0 := hbb2.more (B' := W0.heap.size) (by omega)
  have hlg0 := hlg.more (B' := W0.heap.size) (by omega)
  generalize (⟨wc.heap.size, 0, none⟩ : Addr) = gl at *
  clear hW0 hsz hlg hraw hbb2 hbb hz5 hz4 hbc hb4
  clear hvb hvbs h2 hb3
  have nraw : raw.length ≤ 40 := by omega
  have nbl : (lebP x.toNat).length ≤ 10 := by omega
  refine tells10 k k0 k1 A2 _ c2 raw VB _ cb (lebP x.toNat) gl _ W0 hraw0 hbb0 hlg0 nraw nbl hgb _ _ _ _ _ _ _ _ _ _ _ _ _ _ _ _ _ _ _ _ _ _ _ _ _ _ _ _ _ _ _ _ _ _ _ _ _ _ _ _ _ _ _ _ _ _ _ _ _ _ _ _ _ _ _ _ _ _ _ _ _ _ _ _ _ _ _ _ _ _ _ _ _ _ _ _ _ _ _ _ _ _ _ _ _ _ _ _ _ _ _ _ _ _ _ _ _ _ _ _ _ _ _ _ _ _ _ _ _ _ _ _ _ _ _ _ _ _ _ _ _ _ _ _ _ _ _ _ _ _ _ _ _ _ _ _ _ _ _ _ _ _ _ _ _ _ _ _ _ _ _ _ _ _ _ _ _ _ _ _ _ _ _ _ _ _ _ _ _ _ _ _ _ _ _ _ _ _ _ _ _ _ _ _ _ _ _ _ _ _ _ _ _ _ _ _ _ _ _ _ _ _ _ _ ?_
  intro p83 p84 p85 p86 p87 p88 p89 p90 p91 p92 p93 p94 p95 p96 p97 p98 p99 p100 p101 p102 p103 p104 p105 p106 p107 p108 wd hcut
  obtain ⟨g, rfl, rfl, rfl, hbx, hcells⟩ := hcut
  have hb6 := hb5.trans (hbx.mono hb5.size)
  have HC := Lib.hid hcells
  clear hcells hbb0 hlg0
  go_wp2_with fail
  go_loopw [108] (fun s wr => LRel wd s wr) (fun s _ => 6 - (intOf s).toNat)
  case atStart => exact ⟨0, by omega, rfl, Below.refl _ _⟩
  case round =>
    obtain ⟨i, hi, rfl, hbr⟩ := hrel
    by_cases hlt : i < 6
    · obtain ⟨v, l, hc, hbs, hll⟩ := HC.out i hlt
      have hcr : wr.cell? ⟨g, i, none⟩ = some v := by rw [hbr.cell (cell_lt hc)]; exact hc
      have hbs1 := (hbs.below hbr).more hbr.size
      obtain ⟨V, vc, rfl, _, _, _⟩ := hbs1
      have hbs1 := (hbs.below hbr).more hbr.size
      clear hc hbs
      go_wp2_with fail
      refine (read_any _ l _ _ hbs1 (by omega)).mono ?_
      rintro e wx ⟨rfl, rfl⟩
      unfold tup
      go_wp2_with fail
      refine (readr_any _ l _ _ hbs1 (by omega)).mono ?_
      rintro e wx ⟨rfl, rfl⟩
      unfold tup
      go_wp2_with fail
      refine (readbytes_any _ l most _ hbs1 (by omega) m0 (by omega)).mono ?_
      rintro e w6 ⟨u1, rfl, hu1, hbu⟩
      have hbs2 := (hbs1.below hbu).more hbu.size
      have hbr2 := hbr.trans (hbu.mono hbr.size)
      clear hbu hbr hbs1
      go_wp2_with fail
      refine (readbytesr_any _ l most _ hbs2 (by omega) m0 (by omega)).mono ?_
      rintro e w7 ⟨u2, rfl, hu2, hbu⟩
      have hbs3 := (hbs2.below hbu).more hbu.size
      have hbr3 := hbr2.trans (hbu.mono hbr2.size)
      have s1 := run_str (hu1.below hbu)
      have s2 := run_str hu2
      clear hbu hbr2 hbs2 hu1 hu2
      go_wp2_with fail
      refine (readbytes_any _ l k _ hbs3 (by omega) (by omega) (by omega)).mono ?_
      rintro e w8 ⟨u3, rfl, hu3, hbu⟩
      have hbs4 := (hbs3.below hbu).more hbu.size
      have hbr4 := hbr3.trans (hbu.mono hbr3.size)
      clear hbu hbr3 hbs3 s1 s2
      go_wp2_with fail
      refine (readbytesr_any _ l k _ hbs4 (by omega) (by omega) (by omega)).mono ?_
      rintro e w9 ⟨u4, rfl, hu4, hbu⟩
      have hbr5 := hbr4.trans (hbu.mono hbr4.size)
      have s1 := run_str (hu3.below hbu)
      have s2 := run_str hu4
      clear hbu hbr4 hbs4 hu3 hu4
      go_wp2
      go_roundw
      case rel => exact ⟨i + 1, by omega, by go_num, hbr5⟩
      case measure => simp [intOf]; omega
    · have hb7 := hb6.trans (hbr.mono hb6.size)
      have hr7 : BS wr wr.heap.size (.slice A2 raw.length c2) raw := (hraw0.below (hbx.trans (hbr.mono hbx.size))).more (Nat.le_trans hbx.size hbr.size)
      have hr8 : BS wr.drew wr.drew.heap.size (.slice A2 raw.length c2) raw := hr7
      have hb8 : Below w.heap.size w wr.drew := hb7.drew
      have hz8 := hb8.size
      clear hraw0 hr7 hb7 hbr HC hbx hb6
      go_wp2_with fail
      go_region_with (first
        | (go_at_call 20; refine (putbytes_any _ raw _ ?_ ?_).mono ?_; exact hr8; omega; rintro e wA ⟨vA, rfl, hvA, hbA⟩; have hsA := run_str hvA.bs)
        | (go_at_call 21; refine (putbytesr_any _ raw _ ?_ ?_).mono ?_; exact (hr8.below hbA).more hbA.size; omega; rintro e wB ⟨vB', rfl, hvB, hbB⟩; have hsB1 := run_str (hvA.below hbB).bs; have hsB2 := run_str hvB.bs))
      all_goals
        go_wp2
        go_ret
        exact ⟨rfl, (hb8.trans (hbA.mono hz8)).trans (hbB.mono (Nat.le_trans hz8 hbA.size))⟩
end Go.Proofs.Ytgnonicglkoikaa
