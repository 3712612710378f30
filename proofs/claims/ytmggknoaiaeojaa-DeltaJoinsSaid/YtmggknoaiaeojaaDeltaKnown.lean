/- What is proved here: a contract of the laws' helper 'known' of layer 5: it answers true. -/
import Derived.Test.YtmggknoaiaeojaaDeltaProg3
namespace Go.Proofs.Ytmggknoaiaeojaa
open Go.RowKit
set_option linter.unusedVariables false

def helloL : List UInt8 := [104, 101, 108, 108, 111]
theorem kd1 : makeL helloL helloL = [11, 0] := by decide +kernel
theorem kd2 : applyL helloL [11, 0] 5 = (helloL, 0) := by decide +kernel
theorem kd3 : applyL helloL [11, 0] 4 = ([], 25) := by decide +kernel

/-- The world behind a constant's bytes. -/
def hiW (w : World) : World := w.alloc (.cells #[.int .u8 104, .int .u8 101, .int .u8 108, .int .u8 108, .int .u8 111] 5 (5, 6))
theorem hiW_size (w : World) : (hiW w).heap.size = w.heap.size + 1 := by simp [hiW]
theorem hiW_bs (w : World) : BS (hiW w) (hiW w).heap.size (.slice (some ⟨w.heap.size, 0, none⟩) 5 5) helloL := by
  have h := BS.litM w helloL 5 #[.int .u8 104, .int .u8 101, .int .u8 108, .int .u8 108, .int .u8 111] 5 (5, 6) rfl (by simp [helloL, vBs, vB]) (by simp [helloL])
  exact h.more (by simp [hiW])
theorem hiW_below (w : World) : Below w.heap.size w (hiW w) := (Below.refl _ _).alloc (Nat.le_refl _) _
theorem knownD1 (w : World) : Calls Try.prog 9 #[.slice (some ⟨w.heap.size, 0, none⟩) 5 5, .slice (some ⟨w.heap.size + 1, 0, none⟩) 5 5] (hiW (hiW w)) fun e w' => ∃ v, e = .returned v ∧ BS w' w'.heap.size v [11, 0] ∧ Below w.heap.size w w' := by
  have h1 : BS (hiW (hiW w)) (hiW (hiW w)).heap.size (.slice (some ⟨w.heap.size, 0, none⟩) 5 5) helloL := ((hiW_bs w).below (hiW_below _)).more (hiW_below _).size
  have h2 := hiW_bs (hiW w)
  rw [show (hiW w).heap.size = w.heap.size + 1 from hiW_size w] at h2
  refine (make_any _ _ helloL helloL _ h1 h2 (by simp [helloL]) (by simp [helloL])).mono ?_
  rintro e w' ⟨v, rfl, hv, hb⟩
  rw [kd1] at hv
  exact ⟨v, rfl, hv.bs, ((hiW_below w).trans ((hiW_below _).mono (hiW_below w).size)).trans (hb.mono (by rw [hiW_size, hiW_size]; omega))⟩
theorem knownD2 (w : World) (v : Value) (most : Int) (r : List UInt8) (e : Nat) (hv : BS w w.heap.size v [11, 0]) (hr : applyL helloL [11, 0] most = (r, e)) (h0 : 0 ≤ most) (h1 : most ≤ 5) :
    Calls Try.prog 11 #[.slice (some ⟨w.heap.size, 0, none⟩) 5 5, v, .int .i64 most] (hiW w) fun en w' => ∃ u, en = .returned (.tuple #[u, .int .i64 (e : Int)]) ∧ BS w' w'.heap.size u r ∧ Below w.heap.size w w' := by
  have h2 : BS (hiW w) (hiW w).heap.size v [11, 0] := (hv.below (hiW_below w)).more (hiW_below w).size
  refine (apply_any _ _ helloL [11, 0] most _ (hiW_bs w) h2 (by simp [helloL]) (by simp) (by omega) (by omega)).mono ?_
  rintro en w' ⟨u, rfl, hu, hb⟩
  rw [hr] at hu ⊢
  exact ⟨u, rfl, hu, (hiW_below w).trans (hb.mono (hiW_below w).size)⟩

theorem BS.form {w : World} {B : Nat} {v : Value} {l : List UInt8} (h : BS w B v l) : ∃ A c, v = .slice A l.length c := by
  obtain ⟨A, c, hv, _⟩ := h
  exact ⟨A, c, hv⟩

set_option maxHeartbeats 2000000 in
set_option maxRecDepth 100000 in
theorem knownD_any (w : World) : Calls Try.prog 7 #[] w fun e w' => e = .returned (.bool true) ∧ Below w.heap.size w w' := by
  have hk (w : World) := Lib.run_convert_bytes_const (P := Try.prog) w 22 5 #[.int .u8 104, .int .u8 101, .int .u8 108, .int .u8 108, .int .u8 111] 5 5 Try.underlying22 Try.underlying5
  have hk1 := hk w
  have hk2 := hk (hiW w)
  rw [hiW_size] at hk2
  have hk2' : (convert 22 22 (.slice (some ⟨w.heap.size + 1, 0, none⟩) 5 5)).run Try.prog ((w.alloc (.cells #[.int .u8 104, .int .u8 101, .int .u8 108, .int .u8 108, .int .u8 111] 5 (5, 6))).alloc (.cells #[.int .u8 104, .int .u8 101, .int .u8 108, .int .u8 108, .int .u8 111] 5)) = .ok (.slice (some ⟨w.heap.size + 1, 0, none⟩) 5 5) (hiW (hiW w)) := hk2
  clear hk2
  have HK := Lib.hid hk
  clear hk
  go_enter Try.func7, Try.ntmps7
  go_wp2_with fail
  refine (knownD1 w).mono ?_
  rintro e w1 ⟨d, rfl, hd, hb1⟩
  clear hk1 hk2'
  have hk := HK.out w1
  go_wp2_with fail
  refine (knownD2 w1 _ 5 _ _ hd kd2 (by omega) (by omega)).mono ?_
  rintro e w2 ⟨b, rfl, hbb, hb⟩
  have hd2 := (hd.below hb).more hb.size
  have hb2 := hb1.trans (hb.mono hb1.size)
  clear hk hb hb1 hd
  have hk := HK.out w2
  go_wp2_with fail
  refine (knownD2 w2 _ 4 _ _ hd2 kd3 (by omega) (by omega)).mono ?_
  rintro e w3 ⟨b3, rfl, _, hb⟩
  have hd3 := (hd2.below hb).more hb.size
  have hbb3 := (hbb.below hb).more hb.size
  have hb3 := hb2.trans (hb.mono hb2.size)
  clear hk hb hb2 hd2 hbb
  have hs1 : (convert 22 9 d).run Try.prog w3 = .ok (.string ⟨#[11, 0]⟩) w3 := run_str hd3
  have hs2 : (convert 22 9 b).run Try.prog w3 = .ok (.string ⟨#[104, 101, 108, 108, 111]⟩) w3 := run_str hbb3
  clear hd3 hbb3
  go_wp2_with fail
  refine (make_any _ _ [] [] w3 (BS.nil _ _) (BS.nil _ _) (by simp) (by simp)).mono ?_
  rintro e w4 ⟨v, rfl, hv, hb⟩
  rw [makeL_nil] at hv
  obtain ⟨A, c, rfl⟩ := hv.bs.form
  have hb4 := hb3.trans (hb.mono hb3.size)
  clear hs1 hs2 hv
  go_wp2
  go_ret
  exact ⟨rfl, hb4⟩
end Go.Proofs.Ytmggknoaiaeojaa
