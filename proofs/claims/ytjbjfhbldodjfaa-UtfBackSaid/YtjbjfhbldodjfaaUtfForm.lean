/- What is proved here: a contract of the document's function that puts a rune: its form, in new memory. -/
import Derived.Test.YtjbjfhbldodjfaaUtfAll
namespace Go.Proofs.Ytjbjfhbldodjfaa
open Go.RowKit
set_option linter.unusedVariables false

/-- A rune's form, in new memory. -/
def FormPost (r : Int) (w : World) (e : Ending) (w' : World) : Prop := ∃ v, e = .returned v ∧ BN w' w.heap.size v (formL r) ∧ Below w.heap.size w w'
theorem vB_nat (n : Nat) (h : n < 256) : vB (UInt8.ofNat n) = .int .u8 (n : Int) := by unfold vB; rw [ofNat_toNat _ h]
theorem form_post (r : Int) (w : World) (t : TypeId) (cs : Array Value) (k : Nat) (hk : k = (formL r).length) (hcs : cs = (vBs (formL r)).toArray) :
    FormPost r w (.returned (.slice (some ⟨w.heap.size, 0, none⟩) k k)) (w.alloc (.cells cs t)) := by
  have hl := formN_len (asR r)
  refine ⟨_, rfl, ⟨(BS.lit w (formL r) k cs t hk hcs (by unfold formL; omega)).more (by simp), fun ad n c h _ => ?_⟩, (Below.refl _ _).alloc (Nat.le_refl _) _⟩
  simp only [Value.slice.injEq, Option.some.injEq] at h
  rw [← h.1]
  exact Nat.le_refl _
theorem cells1 (n : Nat) (h : n < 128) (c : Int) (hc : c = n) : #[Value.int .u8 c] = (vBs (formN n)).toArray := by
  subst hc
  unfold formN
  rw [if_pos h]
  simp only [vBs, List.map_cons, List.map_nil]
  rw [vB_nat _ (by omega)]
theorem cells2 (n : Nat) (h : 128 ≤ n) (h2 : n < 2048) (c d : Int) (hc : c = 192 + (n : Int) / 64) (hd : d = 128 + (n : Int) % 64) : #[Value.int .u8 c, .int .u8 d] = (vBs (formN n)).toArray := by
  subst hc hd
  unfold formN
  rw [if_neg (by omega), if_pos h2]
  simp only [vBs, List.map_cons, List.map_nil]
  rw [vB_nat _ (by omega), vB_nat _ (by omega)]
  rfl
theorem cells3 (n : Nat) (h : 2048 ≤ n) (h2 : n < 65536) (b c d : Int) (hb : b = 224 + (n : Int) / 4096) (hc : c = 128 + (n : Int) / 64 % 64) (hd : d = 128 + (n : Int) % 64) : #[Value.int .u8 b, .int .u8 c, .int .u8 d] = (vBs (formN n)).toArray := by
  subst hb hc hd
  unfold formN
  rw [if_neg (by omega), if_neg (by omega), if_pos h2]
  simp only [vBs, List.map_cons, List.map_nil]
  rw [vB_nat _ (by omega), vB_nat _ (by omega), vB_nat _ (by omega)]
  rfl
theorem cells4 (n : Nat) (h : 65536 ≤ n) (h2 : n < 1114112) (a b c d : Int) (ha : a = 240 + (n : Int) / 262144) (hb : b = 128 + (n : Int) / 4096 % 64) (hc : c = 128 + (n : Int) / 64 % 64) (hd : d = 128 + (n : Int) % 64) : #[Value.int .u8 a, .int .u8 b, .int .u8 c, .int .u8 d] = (vBs (formN n)).toArray := by
  subst ha hb hc hd
  unfold formN
  rw [if_neg (by omega), if_neg (by omega), if_neg (by omega)]
  simp only [vBs, List.map_cons, List.map_nil]
  rw [vB_nat _ (by omega), vB_nat _ (by omega), vB_nat _ (by omega), vB_nat _ (by omega)]
  rfl
theorem formL_len2 (n : Nat) (h : 128 ≤ n) (h2 : n < 2048) : (formN n).length = 2 := by unfold formN; rw [if_neg (by omega), if_pos h2]; rfl
theorem formL_len3 (n : Nat) (h : 2048 ≤ n) (h2 : n < 65536) : (formN n).length = 3 := by unfold formN; rw [if_neg (by omega), if_neg (by omega), if_pos h2]; rfl
theorem formL_len4 (n : Nat) (h : 65536 ≤ n) : (formN n).length = 4 := by unfold formN; rw [if_neg (by omega), if_neg (by omega), if_neg (by omega)]; rfl
theorem formL_len1 (n : Nat) (h : n < 128) : (formN n).length = 1 := by unfold formN; rw [if_pos h]; rfl
theorem o128 (y : Int) (h0 : 0 ≤ y) (h1 : y < 64) : bits .or .i32 128 y = 128 + y := bits_join .i32 31 (by decide) wraps_i32 6 128 y (by decide) (by decide) (by decide) h0 h1 (by omega)
theorem o192 (y : Int) (h0 : 0 ≤ y) (h1 : y < 32) : bits .or .i32 192 y = 192 + y := bits_join .i32 31 (by decide) wraps_i32 5 192 y (by decide) (by decide) (by decide) h0 h1 (by omega)
theorem o224 (y : Int) (h0 : 0 ≤ y) (h1 : y < 16) : bits .or .i32 224 y = 224 + y := bits_join .i32 31 (by decide) wraps_i32 4 224 y (by decide) (by decide) (by decide) h0 h1 (by omega)
theorem o240 (y : Int) (h0 : 0 ≤ y) (h1 : y < 8) : bits .or .i32 240 y = 240 + y := bits_join .i32 31 (by decide) wraps_i32 3 240 y (by decide) (by decide) (by decide) h0 h1 (by omega)
theorem a63 (y : Int) (h0 : 0 ≤ y) (h1 : y < 2147483648) : bits .and .i32 y 63 = y % 64 := bits_mask .i32 31 (by decide) wraps_i32 6 (by decide) y h0 h1
theorem asR_may (r : Int) (h : mayR r = true) : asR r = r.toNat := by unfold asR; rw [if_pos h]
theorem asR_not (r : Int) (h : mayR r = false) : asR r = 65533 := by unfold asR; rw [if_neg (by rw [h]; decide)]

set_option maxHeartbeats 1000000 in
set_option maxRecDepth 100000 in
theorem formr_any (r : Int) (h0 : -2147483648 ≤ r) (h1 : r ≤ 2147483647) (w : World) : Calls Try.prog 17 #[.int .i32 r] w (FormPost r w) := by
  have hm := mayr_any r h0 h1 w
  cases hmay : mayR r
  · have ha := asR_not r hmay
    have HA := Lib.hid ha
    rw [hmay] at hm
    clear hmay ha
    have e1 : bits .or .i32 224 15 = 239 := o224 15 (by omega) (by omega)
    have e2 : bits .and .i32 65533 63 = 61 := a63 65533 (by omega) (by omega)
    have e3 : bits .or .i32 128 61 = 189 := o128 61 (by omega) (by omega)
    have e4 : bits .and .i32 1023 63 = 63 := a63 1023 (by omega) (by omega)
    have e5 : bits .or .i32 128 63 = 191 := o128 63 (by omega) (by omega)
    go_enter Try.func17, Try.ntmps17
    go_wp2_with (go_at_call 19; refine hm.mono ?_; rintro e w' ⟨rfl, rfl⟩)
    go_ret
    exact form_post r w _ _ _ (by unfold formL; rw [HA.out]; rfl) (by unfold formL; rw [HA.out]; exact cells3 65533 (by omega) (by omega) _ _ _ (by decide) (by decide) (by decide))
  · have ha := asR_may r hmay
    have hok := asR_ok r
    have hnn : 0 ≤ r := by simp [mayR] at hmay; omega
    obtain ⟨n, rfl⟩ : ∃ n : Nat, r = (n : Int) := ⟨r.toNat, by omega⟩
    rw [show ((n : Int)).toNat = n from by omega] at ha
    rw [ha] at hok
    have HA := Lib.hid ha
    rw [hmay] at hm
    clear hmay ha
    have hn := hok.1
    clear hok h0 h1
    by_cases c1 : n < 128
    · go_enter Try.func17, Try.ntmps17
      go_wp2_with (go_at_call 19; refine hm.mono ?_; rintro e w' ⟨rfl, rfl⟩)
      go_ret
      exact form_post _ w _ _ _ (by unfold formL; rw [HA.out, formL_len1 n c1]) (by unfold formL; rw [HA.out]; exact cells1 n c1 _ (by omega))
    have d1 : decide ((n : Int) < 128) = false := by simp; omega
    have e1 := a63 (n : Int) (by omega) (by omega)
    have e2 := o128 ((n : Int) % 64) (by omega) (by omega)
    by_cases c2 : n < 2048
    · have d2 : (n : Int) < 2048 := by omega
      have e3 := o192 ((n : Int) / 64) (by omega) (by omega)
      go_enter Try.func17, Try.ntmps17
      go_wp2_with (go_at_call 19; refine hm.mono ?_; rintro e w' ⟨rfl, rfl⟩)
      go_ret
      exact form_post _ w _ _ _ (by unfold formL; rw [HA.out, formL_len2 n (by omega) c2]) (by unfold formL; rw [HA.out]; exact cells2 n (by omega) c2 _ _ (by omega) (by omega))
    have d2 : decide ((n : Int) < 2048) = false := by simp; omega
    have e4 := a63 ((n : Int) / 64) (by omega) (by omega)
    have e5 := o128 ((n : Int) / 64 % 64) (by omega) (by omega)
    by_cases c3 : n < 65536
    · have d3 : (n : Int) < 65536 := by omega
      have e3 := o224 ((n : Int) / 4096) (by omega) (by omega)
      go_enter Try.func17, Try.ntmps17
      go_wp2_with (go_at_call 19; refine hm.mono ?_; rintro e w' ⟨rfl, rfl⟩)
      go_ret
      exact form_post _ w _ _ _ (by unfold formL; rw [HA.out, formL_len3 n (by omega) c3]) (by unfold formL; rw [HA.out]; exact cells3 n (by omega) c3 _ _ _ (by omega) (by omega) (by omega))
    have d3 : decide ((n : Int) < 65536) = false := by simp; omega
    have e3 := o240 ((n : Int) / 262144) (by omega) (by omega)
    have e6 := a63 ((n : Int) / 4096) (by omega) (by omega)
    have e7 := o128 ((n : Int) / 4096 % 64) (by omega) (by omega)
    go_enter Try.func17, Try.ntmps17
    go_wp2_with (go_at_call 19; refine hm.mono ?_; rintro e w' ⟨rfl, rfl⟩)
    go_ret
    exact form_post _ w _ _ _ (by unfold formL; rw [HA.out, formL_len4 n (by omega)]) (by unfold formL; rw [HA.out]; exact cells4 n (by omega) hn _ _ _ _ (by omega) (by omega) (by omega) (by omega))
end Go.Proofs.Ytjbjfhbldodjfaa
