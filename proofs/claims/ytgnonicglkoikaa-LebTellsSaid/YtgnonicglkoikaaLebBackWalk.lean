/- What is proved here: the law LebBack, called with any number, any byte and any two slices of bytes, returns true and leaves alone whatever memory was there. -/
import Derived.Test.YtgnonicglkoikaaLebKnown
import Derived.Test.YtgnonicglkoikaaLebEdge
namespace Go.Proofs.Ytgnonicglkoikaa
open Go.RowKit
set_option linter.unusedVariables false

theorem BS.len {w : World} {B n c : Nat} {A : Option Addr} {l : List UInt8} (h : BS w B (.slice A n c) l) : n = l.length ∧ l.length ≤ c := by
  obtain ⟨A', c', hv, h1, _⟩ := h
  simp only [Value.slice.injEq] at hv
  obtain ⟨_, rfl, rfl⟩ := hv
  exact ⟨rfl, h1⟩

set_option maxHeartbeats 800000 in
theorem lebBack_walk (n k : Int) (A2 : Option Addr) (l2 c2 : Nat) (b : List UInt8) (A3 : Option Addr) (l3 c3 : Nat) (m : List UInt8) (w : World) (wn : (Lit.int .u64 n).wf = true) (wk : (Lit.int .u8 k).wf = true)
    (h2 : BS w w.heap.size (.slice A2 l2 c2) b) (h3 : BS w w.heap.size (.slice A3 l3 c3) m) :
    Calls Try.prog 4 #[.int .u64 n, .int .u8 k, .slice A2 l2 c2, .slice A3 l3 c3] w fun e w' => e = .returned (.bool true) ∧ Below w.heap.size w w' := by
  obtain ⟨n0, n1⟩ := bounds_u64 wn
  obtain ⟨k0, k1⟩ := bounds_u8 wk
  clear wn wk
  obtain ⟨rfl, g2⟩ := h2.len
  obtain ⟨rfl, g3⟩ := h3.len
  by_cases hlong : 60 < b.length
  · go_enter Try.func4, Try.ntmps4
    go_wp2_with fail
    refine (known_any _).mono ?_
    rintro e w1 ⟨rfl, hb1⟩
    have d1 : decide (60 < (b.length : Int)) = true := by simp; omega
    go_wp2
    go_ret
    exact ⟨rfl, hb1⟩
  have d1 : decide (60 < (b.length : Int)) = false := by simp; omega
  by_cases hlong2 : 20 < m.length
  · go_enter Try.func4, Try.ntmps4
    go_wp2_with fail
    refine (known_any _).mono ?_
    rintro e w1 ⟨rfl, hb1⟩
    have d2 : decide (20 < (m.length : Int)) = true := by simp; omega
    go_wp2
    go_ret
    exact ⟨rfl, hb1⟩
  have d2 : decide (20 < (m.length : Int)) = false := by simp; omega
  go_enter Try.func4, Try.ntmps4
  go_wp2_with fail
  refine (known_any _).mono ?_
  rintro e w1 ⟨rfl, hb1⟩
  go_wp2_with fail
  refine (edge_any n k n0 (by omega) k0 (by omega) _).mono ?_
  rintro e w2 ⟨x, x0, x1, rfl, hb⟩
  have hb2 := hb1.trans (hb.mono hb1.size)
  clear hb hb1 n0 n1 k0 k1
  go_wp2_with fail
  refine (put_any x x0 x1 _).mono ?_
  rintro e w3 ⟨v3, rfl, hv3, hb⟩
  have hb3 := hb2.trans (hb.mono hb2.size)
  have z2 := hb2.size
  have z3 := hb.size
  obtain ⟨m1, m2⟩ := lebP_length x.toNat
  clear hb
  go_wp2_with (at_builtin; refine wpl_app _ rfl (.tmp 34) (.tmp 35) rfl w2.heap.size _ _ _ _ _ rfl rfl hv3 (h3.below hb3) (by omega) z3 ?_; intro v4 w4 hv4 _ hb _)
  have hb4 : Below w.heap.size w w4 := hb3.trans (hb.mono z2)
  have hrd := readL_lebP x.toNat m (by omega)
  clear hb hb2 hb3 hv3 z2 z3
  refine (read_at hv4.bs (by simp; omega) x0 hrd).mono ?_
  rintro e w5 ⟨rfl, rfl⟩
  clear hrd hv4
  generalize hq : (lebP x.toNat).length = q at *
  have HQ := Lib.hid hq
  clear hq
  go_wp2_with fail
  refine (putbytes_any _ b _ ((h2.below hb4).more hb4.size) (by omega)).mono ?_
  rintro e w5 ⟨v5, rfl, hv5, hb⟩
  have hb5 := hb4.trans (hb.mono hb4.size)
  have z4 := hb4.size
  have z5 := hb.size
  have hpl : (putB b).length ≤ 70 := by
    have := (lebP_length b.length).2
    unfold putB
    rw [List.length_append]
    omega
  clear hb
  go_wp2_with (at_builtin; refine wpl_app _ rfl (.tmp 43) (.tmp 44) rfl w4.heap.size _ _ _ _ _ rfl rfl hv5 (h3.below hb5) (by omega) z5 ?_; intro v6 w6 hv6 _ hb _)
  have hb6 : Below w.heap.size w w6 := hb5.trans (hb.mono z4)
  clear hb hb4 hb5 hv5 z4 z5
  refine (readbytes_any _ (putB b ++ m) _ _ hv6.bs (by simp; omega) (by omega) (by omega)).mono ?_
  rintro e w7 ⟨u, rfl, hu, hb⟩
  have hb7 := hb6.trans (hb.mono hb6.size)
  rw [readB_putB b m _ (by omega) (by omega)] at hu ⊢
  clear hb hb6 hv6
  go_wp2_with fail
  refine (putbytes_any _ b _ ((h2.below hb7).more hb7.size) (by omega)).mono ?_
  rintro e w8 ⟨v8, rfl, hv8, hb⟩
  have hb8 := hb7.trans (hb.mono hb7.size)
  have hu8 := (hu.below hb).more hb.size
  clear hb hb7 hu
  go_wp2_with fail
  refine (readbytes_any _ (putB b) _ _ hv8.bs (by omega) (by omega) (by omega)).mono ?_
  rintro e w9 ⟨u9, rfl, _, hb⟩
  have hb9 := hb8.trans (hb.mono hb8.size)
  have hu9 := (hu8.below hb).more hb.size
  have her : 0 < b.length → (readB (putB b) ((b.length : Int) - 1)).2.2 = 25 := fun h => by rw [readB_putB_long b _ (by omega) (by omega) h]
  generalize (readB (putB b) ((b.length : Int) - 1)).2.1 = s1
  generalize (readB (putB b) ((b.length : Int) - 1)).2.2 = s2 at *
  have HER := Lib.hid her
  clear hb hb8 hu8 hv8 her
  go_wp2_with fail
  refine (put_any x x0 x1 _).mono ?_
  rintro e w10 ⟨v10, rfl, hv10, hb⟩
  have hb10 := hb9.trans (hb.mono hb9.size)
  have hu10 := (hu9.below hb).more hb.size
  have hs1 := run_str hu10
  have hs2 := run_str (h2.below hb10)
  obtain ⟨V, vc, rfl, _⟩ := hv10.bs
  rw [HQ.out]
  clear hb hb9 hu9 hv10 hu10
  go_wp2_with fail
  refine (putbytes_any _ b _ ((h2.below hb10).more hb10.size) (by omega)).mono ?_
  rintro e w11 ⟨v11, rfl, hv11, hb⟩
  have hb11 := hb10.trans (hb.mono hb10.size)
  obtain ⟨V1, vc1, rfl, _⟩ := hv11.bs
  generalize (putB b).length = pl at *
  clear hb hb10 hs1 hs2 hv11
  by_cases h0 : 0 < b.length
  · have hs := HER.out h0
    subst hs
    go_wp2
    go_ret
    exact ⟨rfl, hb11⟩
  · have e0 : ((b.length : Int) == 0) = true := beq_iff_eq.2 (by omega)
    go_wp2
    all_goals (go_ret; exact ⟨rfl, hb11⟩)
end Go.Proofs.Ytgnonicglkoikaa
