/- What is proved here: contracts of the checksum's functions, of the program and of the document: the fold of the bytes, turned at both ends; four bytes, the lowest first. New memory alone is written. -/
import Derived.Test.YtaiclombimdkmaaCrcTable
namespace Go.Proofs.Ytaiclombimdkmaa
open Go.RowKit
set_option linter.unusedVariables false

theorem BS.lenC {w : World} {B n c : Nat} {A : Option Addr} {l : List UInt8} (h : BS w B (.slice A n c) l) : n = l.length := by
  obtain ⟨A', c', hv, _⟩ := h
  simp only [Value.slice.injEq] at hv
  exact hv.2.1
theorem BS.capC {w : World} {B n c : Nat} {A : Option Addr} {l : List UInt8} (h : BS w B (.slice A n c) l) : l.length ≤ c ∧ c ≤ maxLen := by
  obtain ⟨A', c', hv, h1, h2, _⟩ := h
  simp only [Value.slice.injEq] at hv
  obtain ⟨_, _, rfl⟩ := hv
  exact ⟨h1, h2⟩
def natB (l : List UInt8) : List Nat := l.map (·.toNat)
/-- All bits turned. -/
def flip (c : Nat) : Nat := 4294967295 - c
/-- The checksum of bytes behind those that c is of. -/
def moreC (c : Nat) (l : List UInt8) : Nat := flip (foldC (flip c) (natB l))
theorem flip_lt (c : Nat) : flip c < 4294967296 := by unfold flip; omega
theorem natB_lt (l : List UInt8) : ∀ b ∈ natB l, b < 256 := by
  intro b hb
  unfold natB at hb
  rw [List.mem_map] at hb
  obtain ⟨x, _, rfl⟩ := hb
  exact x.toNat_lt
/-- The state behind the first k bytes. -/
def stC (c : Nat) (l : List UInt8) (k : Nat) : Nat := foldC (flip c) (natB (l.take k))
theorem stC_lt (c : Nat) (l : List UInt8) (k : Nat) : stC c l k < 4294967296 := foldC_lt _ _ (flip_lt c) (natB_lt _)
theorem stC_succ (c : Nat) (l : List UInt8) (k : Nat) (h : k < l.length) : stC c l (k + 1) = half8 ((stC c l k % 256) ^^^ (l[k]).toNat) ^^^ stC c l k / 256 := by
  have e : half8 ((stC c l k % 256) ^^^ (l[k]).toNat) ^^^ stC c l k / 256 = stepT (stC c l k) (l[k]).toNat := rfl
  rw [e, stepT_eq]
  unfold stC
  rw [List.take_succ_eq_append_getElem h]
  unfold natB
  rw [List.map_append, foldC_append]
  rfl
theorem stC_all (c : Nat) (l : List UInt8) : moreC c l = flip (stC c l l.length) := by unfold moreC stC; rw [List.take_length]

theorem flip_flip (c : Nat) (h : c < 4294967296) : flip (flip c) = c := by unfold flip; omega
theorem moreC_lt (c : Nat) (l : List UInt8) : moreC c l < 4294967296 := flip_lt _
theorem moreC_parts (c : Nat) (a b : List UInt8) : moreC (moreC c a) b = moreC c (a ++ b) := by
  unfold moreC
  rw [flip_flip _ (foldC_lt _ _ (flip_lt c) (natB_lt a)), ← foldC_append]
  unfold natB
  rw [List.map_append]
theorem moreC_nil (c : Nat) (l : List UInt8) : moreC (moreC c l) [] = moreC c l := by rw [moreC_parts, List.append_nil]
theorem flip_xor (c : Nat) (h : c < 4294967296) : 4294967295 ^^^ c = flip c := by
  unfold flip
  apply Nat.eq_of_testBit_eq
  intro i
  have e := Nat.testBit_two_pow_sub_succ (n := 32) (x := c) (by omega) i
  rw [show 2 ^ 32 - (c + 1) = 4294967295 - c from by omega] at e
  rw [e, Nat.testBit_xor, show (4294967295 : Nat) = 2 ^ 32 - 1 from rfl, Nat.testBit_two_pow_sub_one]
  by_cases hi : i < 32
  · simp [hi]
  · have : c.testBit i = false := Nat.testBit_lt_two_pow (Nat.lt_of_lt_of_le h (by
      have := Nat.pow_le_pow_right (n := 2) (by omega) (show 32 ≤ i by omega)
      omega))
    simp [hi, this]
theorem flip_bits (c : Nat) (h : c < 4294967296) : bits .xor .u32 IntKind.u32.max (c : Int) = ((flip c : Nat) : Int) := by
  have := u32_xor_nat 4294967295 c (by omega) h
  rw [flip_xor c h] at this
  exact this
theorem xor8 (a : Nat) (b : UInt8) : bits .xor .u8 ((a : Int) % 256) (b.toNat : Int) = ((a % 256 ^^^ b.toNat : Nat) : Int) := by
  have := u8_xor_nat (a % 256) b.toNat (by omega) b.toNat_lt
  exact this
theorem xor32 (a b : Nat) (ha : a < 4294967296) (hb : b < 4294967296) : bits .xor .u32 (a : Int) ((b : Int) / 256) = ((a ^^^ b / 256 : Nat) : Int) := by
  have := u32_xor_nat a (b / 256) ha (by omega)
  exact this
theorem low_lt (a : Nat) (b : UInt8) : a % 256 ^^^ b.toNat < 256 := Nat.xor_lt_two_pow (n := 8) (by omega) b.toNat_lt

set_option maxHeartbeats 1000000 in
theorem morer_any (c : Nat) (h : c < 4294967296) (v : Value) (l : List UInt8) (B : Nat) (w : World) (hv : BS w B v l) (hl : l.length ≤ 1099511627776) :
    Calls Try.prog 12 #[.int .u32 c, v] w fun e w' => e = .returned (.int .u32 (moreC c l : Nat)) ∧ w = w' := by
  obtain ⟨A, cp, rfl, h1, h2, h3⟩ := hv.at_
  have e0 := flip_bits c h
  go_enter Try.func12, Try.ntmps12
  go_wp2
  clear e0
  go_loop [0, 5] (fun t i => ∃ k : Nat, k ≤ l.length ∧ i = .int .i64 k ∧ t = .int .u32 (stC c l k : Nat)) (fun _ i => l.length - (intOf i).toNat)
  case atStart => exact ⟨0, Nat.zero_le _, rfl, rfl⟩
  case round =>
    obtain ⟨k, hk, rfl, rfl⟩ := hrel
    have hs := stC_lt c l k
    by_cases hlt : k < l.length
    · obtain ⟨ad, rfl, hc⟩ := h3 k hlt
      have hn := stC_succ c l k hlt
      have e1 := xor8 (stC c l k) l[k]
      have b1 := low_lt (stC c l k) l[k]
      unfold vB at hc
      obtain ⟨s, hss⟩ : ∃ s, stC c l k = s := ⟨_, rfl⟩
      obtain ⟨x, hx⟩ : ∃ x, l[k].toNat = x := ⟨_, rfl⟩
      rw [hss] at hs hn e1 b1
      rw [hss]
      rw [hx] at hn e1 b1 hc
      obtain ⟨z, hz⟩ : ∃ z, s % 256 ^^^ x = z := ⟨_, rfl⟩
      rw [hz] at e1 b1 hn
      have hh := half8_lt z (by omega)
      have e2 := xor32 (half8 z) s hh hs
      have hx1 : x < 256 := by rw [← hx]; exact l[k].toNat_lt
      have HN := Lib.hid hn
      have HZ := Lib.hid hz
      clear hn hss hx hz h3
      go_wp2_with (go_at_call 13; refine (rowr_any z b1 _).mono ?_; rintro e w' ⟨rfl, rfl⟩)
      go_round
      case rel => exact ⟨k + 1, by omega, by go_num, by rw [HN.out]⟩
      case measure => simp [intOf]; omega
    · obtain rfl : k = l.length := by omega
      have e0 := flip_bits _ hs
      go_wp2
      go_ret
      exact ⟨retI (by rw [stC_all]), rfl⟩

/-- The world behind a call of Table and a variable that holds it. -/
def w3 (w : World) : World := ((w.alloc (.cells tab 25)).alloc (.cells tab 25)).alloc (.cells tab 25)
theorem w3_below (w : World) : Below w.heap.size w (w3 w) := (((Below.refl _ _).alloc (Nat.le_refl _) _).alloc (by simp) _).alloc (by simp; omega) _
theorem w3_size (w : World) : (w3 w).heap.size = w.heap.size + 3 := by simp [w3]
theorem w3_cell (w : World) (z : Nat) (h : z < 256) : (w3 w).cell? ⟨w.heap.size + 2, z, none⟩ = some (.int .u32 (half8 z : Nat)) := by
  unfold w3
  rw [World.cell?_alloc_at _ _ _ _ (by simp), tab_get z h]
theorem w3_store (w : World) : (Instr.storeAt 25 (.pointer (some ⟨w.heap.size + 2, 0, none⟩)) (.agg tab)).run Try.prog (((w.alloc (.cells tab 25)).alloc (.cells tab 25)).alloc (.cells (tabUp 0) 25)) = .ok () (w3 w) := by
  have := run_storeAt_new (P := Try.prog) ((w.alloc (.cells tab 25)).alloc (.cells tab 25)) 25 (tabUp 0) tab (by unfold tab; rw [tabUp_size]; exact (zero_of_info tabInfo).2) (by unfold tab; rw [tabUp_size, tabUp_size]) (tab_one 256)
  rw [show ((w.alloc (.cells tab 25)).alloc (.cells tab 25)).heap.size = w.heap.size + 2 from by simp] at this
  exact this
theorem zero_run : ∀ w, (zeroValue 25).run Try.prog w = .ok (.agg (tabUp 0)) w := by
  rw [tabUp_zero]
  exact (zero_of_info tabInfo).1

def MorePost (c : Nat) (l : List UInt8) (w : World) (e : Ending) (w' : World) : Prop := e = .returned (.int .u32 (moreC c l : Nat)) ∧ Below w.heap.size w w'

set_option maxHeartbeats 1000000 in
set_option maxRecDepth 100000 in
theorem more_any (c : Nat) (h : c < 4294967296) (v : Value) (l : List UInt8) (B : Nat) (w : World) (hv : BS w B v l) (hB : B ≤ w.heap.size) (hl : l.length ≤ 1099511627776) :
    Calls Try.prog 11 #[.int .u32 c, v] w (MorePost c l w) := by
  have hv3 : BS (w3 w) w.heap.size v l := (hv.more hB).below (w3_below w)
  obtain ⟨A, cp, rfl, h1, h2, h3⟩ := hv3.at_
  have e0 := flip_bits c h
  have hst := w3_store w
  have hz := zero_run
  go_enter Try.func11, Try.ntmps11
  go_wp2_with (first
    | (go_at_call 8; refine (table_any _).mono ?_; rintro e w' ⟨rfl, rfl⟩)
    | (refine wpl_store_run (o := ⟨none, _, _, _, _, _⟩) rfl 25 (.tmp 5) (.tmp 8) rfl rfl rfl hst ?_))
  clear e0 hst hz
  have hcT := w3_cell w
  have hbel := w3_below w
  generalize w3 w = W at *
  go_loop [0, 13] (fun t i => ∃ k : Nat, k ≤ l.length ∧ i = .int .i64 k ∧ t = .int .u32 (stC c l k : Nat)) (fun _ i => l.length - (intOf i).toNat)
  case atStart => exact ⟨0, Nat.zero_le _, rfl, rfl⟩
  case round =>
    obtain ⟨k, hk, rfl, rfl⟩ := hrel
    have hs := stC_lt c l k
    by_cases hlt : k < l.length
    · obtain ⟨ad, rfl, hc⟩ := h3 k hlt
      have hn := stC_succ c l k hlt
      have e1 := xor8 (stC c l k) l[k]
      have b1 := low_lt (stC c l k) l[k]
      unfold vB at hc
      obtain ⟨s, hss⟩ : ∃ s, stC c l k = s := ⟨_, rfl⟩
      obtain ⟨x, hx⟩ : ∃ x, l[k].toNat = x := ⟨_, rfl⟩
      rw [hss] at hs hn e1 b1
      rw [hss]
      rw [hx] at hn e1 b1 hc
      obtain ⟨z, hz⟩ : ∃ z, s % 256 ^^^ x = z := ⟨_, rfl⟩
      rw [hz] at e1 b1 hn
      have hh := half8_lt z (by omega)
      have e2 := xor32 (half8 z) s hh hs
      have hx1 : x < 256 := by rw [← hx]; exact l[k].toNat_lt
      have ht := hcT z b1
      have b2 : (z : Int) < 256 := by omega
      have HN := Lib.hid hn
      have HZ := Lib.hid hz
      clear hn hss hx hz h3 hcT
      go_wp2
      go_round
      case rel => exact ⟨k + 1, by omega, by go_num, by rw [HN.out]⟩
      case measure => simp [intOf]; omega
    · obtain rfl : k = l.length := by omega
      have e0 := flip_bits _ hs
      clear hcT h3
      go_wp2
      go_ret
      exact ⟨retI (by rw [stC_all]), hbel⟩

theorem sum_any (v : Value) (l : List UInt8) (B : Nat) (w : World) (hv : BS w B v l) (hB : B ≤ w.heap.size) (hl : l.length ≤ 1099511627776) :
    Calls Try.prog 9 #[v] w (MorePost 0 l w) := by
  have hm := more_any 0 (by omega) v l B w hv hB hl
  go_enter Try.func9, Try.ntmps9
  go_wp2_with (go_at_call 11; refine hm.mono ?_; rintro e w' ⟨rfl, hb⟩)
  go_ret
  exact ⟨rfl, hb⟩
theorem sumr_any (v : Value) (l : List UInt8) (B : Nat) (w : World) (hv : BS w B v l) (hl : l.length ≤ 1099511627776) :
    Calls Try.prog 10 #[v] w fun e w' => e = .returned (.int .u32 (moreC 0 l : Nat)) ∧ w = w' := by
  have hm := morer_any 0 (by omega) v l B w hv hl
  go_enter Try.func10, Try.ntmps10
  go_wp2_with (go_at_call 12; refine hm.mono ?_; rintro e w' ⟨rfl, rfl⟩)
  go_ret
  exact ⟨rfl, rfl⟩

/-- The same in a world behind W, of bytes that lay in W. -/
theorem sum_in {W w' : World} (hb : Below W.heap.size W w') {v : Value} {l : List UInt8} {r : Nat} (hv : BS W W.heap.size v l) (hl : l.length ≤ 1099511627776) (hr : moreC 0 l = r) :
    Calls Try.prog 9 #[v] w' fun e w'' => e = .returned (.int .u32 (r : Int)) ∧ Below W.heap.size W w'' :=
  (sum_any v l _ w' (hv.below hb) hb.size hl).mono fun _ _ ⟨he, h⟩ => ⟨by rw [← hr]; exact he, hb.trans (h.mono hb.size)⟩
theorem more_in {W w' : World} (hb : Below W.heap.size W w') {c r : Nat} (hc : c < 4294967296) {v : Value} {l : List UInt8} (hv : BS W W.heap.size v l) (hl : l.length ≤ 1099511627776) (hr : moreC c l = r) :
    Calls Try.prog 11 #[.int .u32 c, v] w' fun e w'' => e = .returned (.int .u32 (r : Int)) ∧ Below W.heap.size W w'' :=
  (more_any c hc v l _ w' (hv.below hb) hb.size hl).mono fun _ _ ⟨he, h⟩ => ⟨by rw [← hr]; exact he, hb.trans (h.mono hb.size)⟩

/-- Four bytes, the lowest first. -/
def fourB (c : Nat) : List UInt8 := [UInt8.ofNat (c % 256), UInt8.ofNat (c / 256 % 256), UInt8.ofNat (c / 65536 % 256), UInt8.ofNat (c / 16777216)]
def FourPost (c : Nat) (w : World) (e : Ending) (w' : World) : Prop := ∃ v, e = .returned v ∧ BS w' w'.heap.size v (fourB c) ∧ Below w.heap.size w w'
theorem four_post (c : Nat) (h : c < 4294967296) (w : World) (t : TypeId) (cs : Array Value) (hcs : cs = #[.int .u8 ((c : Int) % 256), .int .u8 ((c : Int) / 256 % 256), .int .u8 ((c : Int) / 65536 % 256), .int .u8 ((c : Int) / 16777216)]) :
    FourPost c w (.returned (.slice (some ⟨w.heap.size, 0, none⟩) 4 4)) (w.alloc (.cells cs t)) := by
  refine ⟨_, rfl, ?_, (Below.refl _ _).alloc (Nat.le_refl _) _⟩
  refine (BS.lit w (fourB c) 4 cs t rfl ?_ (by simp [fourB])).more (by simp)
  subst hcs
  have e : ∀ n : Nat, n < 256 → vB (UInt8.ofNat n) = .int .u8 (n : Int) := by
    intro n hn
    unfold vB
    rw [ofNat_toNat _ hn]
  simp only [vBs, fourB, List.map_cons, List.map_nil]
  rw [e _ (by omega), e _ (by omega), e _ (by omega), e _ (by omega)]
  rfl
theorem four_any (c : Nat) (h : c < 4294967296) (w : World) : Calls Try.prog 14 #[.int .u32 c] w (FourPost c w) := by
  go_enter Try.func14, Try.ntmps14
  go_wp2
  go_ret
  exact four_post c h w _ _ rfl
theorem fourr_any (c : Nat) (h : c < 4294967296) (w : World) : Calls Try.prog 15 #[.int .u32 c] w (FourPost c w) := by
  go_enter Try.func15, Try.ntmps15
  go_wp2
  go_ret
  exact four_post c h w _ _ rfl
end Go.Proofs.Ytaiclombimdkmaa
