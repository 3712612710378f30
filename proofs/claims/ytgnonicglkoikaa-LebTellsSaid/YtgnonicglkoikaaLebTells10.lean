/- What is proved here: the statement of the law LebTells that makes six slices, whatever order it draws: each reads as a list of at most sixty bytes, with at most new memory. -/
import Derived.Test.YtgnonicglkoikaaLebPairs
import Derived.Test.YtgnonicglkoikaaLebBackWalk
import Derived.Deep.RegionHeld3
namespace Go.Proofs.Ytgnonicglkoikaa
open Go.RowKit
set_option linter.unusedVariables false

/-- A region of a function's body, by its number. -/
def findRegionB (n : Nat) : Code → Option Code
  | .region id ops b => if id = n then some (.region id ops b) else none
  | .seq a b => match findRegionB n a with
    | some c => some c
    | none => findRegionB n b
  | .cond _ a b => match findRegionB n a with
    | some c => some c
    | none => findRegionB n b
  | .block _ c => findRegionB n c
  | .scope c => findRegionB n c
  | .loop c => findRegionB n c
  | _ => none
noncomputable def tellsReg10 : Code := (Try.f3.body.bind (findRegionB 10)).getD .skip

/-- What stands behind the making of the six slices. -/
def R10 (w0 : World) (s106 s107 s108 : Value) (wx : World) : Prop :=
  ∃ g : Nat, s106 = .slice (some ⟨g, 0, none⟩) 6 6 ∧ s107 = .int .i64 6 ∧ s108 = .int .i64 0 ∧ Below w0.heap.size w0 wx ∧
    ∀ i, i < 6 → ∃ v l, wx.cell? ⟨g, i, none⟩ = some v ∧ BS wx wx.heap.size v l ∧ l.length ≤ 60

theorem r10_of {w0 w : World} {v u z s0 s1 s2 s4 : Value} {lv lu lz l0 l1 l2 l4 : List UInt8} (hG : Three w0.heap.size w0 w v u z lv lu lz)
    (h0 : BS w0 w0.heap.size s0 l0) (h1 : BS w0 w0.heap.size s1 l1) (h2 : BS w0 w0.heap.size s2 l2) (h4 : BS w0 w0.heap.size s4 l4)
    (n0 : l0.length ≤ 60) (n1 : l1.length ≤ 60) (n2 : l2.length ≤ 60) (n4 : l4.length ≤ 60) (nv : lv.length ≤ 60) (nu : lu.length ≤ 60) (t : TypeId) :
    R10 w0 (.slice (some ⟨w.heap.size, 0, none⟩) 6 6) (.int .i64 6) (.int .i64 0) (w.alloc (.cells #[s0, s1, s2, v, s4, u] t)) := by
  have hz := hG.size
  have old : ∀ {s : Value} {l : List UInt8}, BS w0 w0.heap.size s l → BS (w.alloc (.cells #[s0, s1, s2, v, s4, u] t)) (w.alloc (.cells #[s0, s1, s2, v, s4, u] t)).heap.size s l :=
    fun h => ((h.below hG.bel).alloc hz _).more (by simp; omega)
  have new : ∀ {s : Value} {l : List UInt8}, OB w w0.heap.size s l → BS (w.alloc (.cells #[s0, s1, s2, v, s4, u] t)) (w.alloc (.cells #[s0, s1, s2, v, s4, u] t)).heap.size s l :=
    fun h => (h.bs.alloc (Nat.le_refl _) _).more (by simp)
  have cell : ∀ i, (w.alloc (.cells #[s0, s1, s2, v, s4, u] t)).cell? ⟨w.heap.size, i, none⟩ = #[s0, s1, s2, v, s4, u][i]? := fun i => by simp [World.cell?_alloc_new]
  refine ⟨w.heap.size, rfl, rfl, rfl, hG.bel.alloc hz _, fun i hi => ?_⟩
  match i, hi with
  | 0, _ => exact ⟨s0, l0, cell 0, old h0, n0⟩
  | 1, _ => exact ⟨s1, l1, cell 1, old h1, n1⟩
  | 2, _ => exact ⟨s2, l2, cell 2, old h2, n2⟩
  | 3, _ => exact ⟨v, lv, cell 3, new hG.ov, nv⟩
  | 4, _ => exact ⟨s4, l4, cell 4, old h4, n4⟩
  | 5, _ => exact ⟨u, lu, cell 5, new hG.ou, nu⟩

set_option maxRecDepth 1000000 in
set_option maxHeartbeats 20000000 in
theorem tells10 (k : Int) (k0 : 0 ≤ k) (k1 : k ≤ 255) (A2 : Option Addr) (R c2 : Nat) (raw : List UInt8) (VB : Option Addr) (L cb : Nat) (bl : List UInt8) (gl : Addr) (lg : List UInt8) (W0 : World)
    (hraw0 : BS W0 W0.heap.size (.slice A2 R c2) raw) (hbb0 : BS W0 W0.heap.size (.slice VB L cb) bl) (hlg0 : BS W0 W0.heap.size (.slice (some gl) 10 10) lg)
    (nraw : raw.length ≤ 40) (nbl : bl.length ≤ 10) (hLc : L ≤ cb) (Q : Exit → Act → World → Prop) (u0 u3 u4 u5 u6 u7 u8 u9 u12 u13 u14 u15 u16 u17 u18 u19 u20 u21 u22 u23 u24 u25 u26 u27 u28 u29 u30 u31 u32 u33 u34 u35 u36 u37 u38 u39 u40 u41 u42 u43 u44 u45 u46 u47 u48 u49 u50 u51 u52 u53 u54 u55 u56 u57 u58 u59 u60 u61 u62 u63 u64 u65 u66 u67 u68 u69 u70 u71 u72 u73 u74 u75 u76 u77 u78 u79 u80 u81 u82 u83 u84 u85 u86 u87 u88 u89 u90 u91 u92 u93 u94 u95 u96 u97 u98 u99 u100 u101 u102 u103 u104 u105 u106 u107 u108 u109 u110 u111 u112 u113 u114 u115 u116 u117 u118 u119 u120 u121 u122 u123 u124 u125 u126 u127 u128 u129 u130 u131 u132 u133 u134 u135 u136 u137 u138 u139 u140 u141 u142 u143 u144 u145 u146 u147 u148 u149 u150 u151 u152 u153 u154 u155 u156 u157 u158 u159 u160 u161 u162 u163 u164 u165 u166 u167 u168 u169 u170 u171 u172 u173 u174 u175 u176 u177 u178 u179 u180 u181 u182 u183 u184 u185 u186 u187 u188 u189 u190 u191 u192 u193 u194 u195 u196 u197 u198 u199 u200 u201 u202 u203 u204 u205 u206 : Value)
    (hQ : ∀ (s83 s84 s85 s86 s87 s88 s89 s90 s91 s92 s93 s94 s95 s96 s97 s98 s99 s100 s101 s102 s103 s104 s105 s106 s107 s108 : Value) (wx : World), R10 W0 s106 s107 s108 wx → Q .normal ⟨#[u0, .int .u8 k, .slice A2 R c2, u3, u4, u5, u6, u7, u8, u9, .slice VB L cb, .slice (some gl) 10 10, u12, u13, u14, u15, u16, u17, u18, u19, u20, u21, u22, u23, u24, u25, u26, u27, u28, u29, u30, u31, u32, u33, u34, u35, u36, u37, u38, u39, u40, u41, u42, u43, u44, u45, u46, u47, u48, u49, u50, u51, u52, u53, u54, u55, u56, u57, u58, u59, u60, u61, u62, u63, u64, u65, u66, u67, u68, u69, u70, u71, u72, u73, u74, u75, u76, u77, u78, u79, u80, u81, u82, s83, s84, s85, s86, s87, s88, s89, s90, s91, s92, s93, s94, s95, s96, s97, s98, s99, s100, s101, s102, s103, s104, s105, s106, s107, s108, u109, u110, u111, u112, u113, u114, u115, u116, u117, u118, u119, u120, u121, u122, u123, u124, u125, u126, u127, u128, u129, u130, u131, u132, u133, u134, u135, u136, u137, u138, u139, u140, u141, u142, u143, u144, u145, u146, u147, u148, u149, u150, u151, u152, u153, u154, u155, u156, u157, u158, u159, u160, u161, u162, u163, u164, u165, u166, u167, u168, u169, u170, u171, u172, u173, u174, u175, u176, u177, u178, u179, u180, u181, u182, u183, u184, u185, u186, u187, u188, u189, u190, u191, u192, u193, u194, u195, u196, u197, u198, u199, u200, u201, u202, u203, u204, u205, u206], []⟩ wx) :
    Code.wp Try.prog tellsReg10 Q ⟨#[u0, .int .u8 k, .slice A2 R c2, u3, u4, u5, u6, u7, u8, u9, .slice VB L cb, .slice (some gl) 10 10, u12, u13, u14, u15, u16, u17, u18, u19, u20, u21, u22, u23, u24, u25, u26, u27, u28, u29, u30, u31, u32, u33, u34, u35, u36, u37, u38, u39, u40, u41, u42, u43, u44, u45, u46, u47, u48, u49, u50, u51, u52, u53, u54, u55, u56, u57, u58, u59, u60, u61, u62, u63, u64, u65, u66, u67, u68, u69, u70, u71, u72, u73, u74, u75, u76, u77, u78, u79, u80, u81, u82, u83, u84, u85, u86, u87, u88, u89, u90, u91, u92, u93, u94, u95, u96, u97, u98, u99, u100, u101, u102, u103, u104, u105, u106, u107, u108, u109, u110, u111, u112, u113, u114, u115, u116, u117, u118, u119, u120, u121, u122, u123, u124, u125, u126, u127, u128, u129, u130, u131, u132, u133, u134, u135, u136, u137, u138, u139, u140, u141, u142, u143, u144, u145, u146, u147, u148, u149, u150, u151, u152, u153, u154, u155, u156, u157, u158, u159, u160, u161, u162, u163, u164, u165, u166, u167, u168, u169, u170, u171, u172, u173, u174, u175, u176, u177, u178, u179, u180, u181, u182, u183, u184, u185, u186, u187, u188, u189, u190, u191, u192, u193, u194, u195, u196, u197, u198, u199, u200, u201, u202, u203, u204, u205, u206], []⟩ W0 := by
  refine Code.wp_mono NoPanic.imp ?_
  conv => arg 2; whnf
  have hLl : L = bl.length := hbb0.len.1
  have hll : (10 : Nat) = lg.length := hlg0.len.1
  have nlg : lg.length ≤ 10 := by omega
  have hL10 : L ≤ 10 := by omega
  obtain ⟨j, hj⟩ : ∃ j : Nat, k.tmod ((L : Int) + 1) = (j : Int) := ⟨(k.tmod ((L : Int) + 1)).toNat, (Int.toNat_of_nonneg (Int.tmod_nonneg _ k0)).symm⟩
  have hjL : j ≤ L := by have := Int.tmod_lt_of_pos k (show (0 : Int) < (L : Int) + 1 by omega); omega
  obtain ⟨i9, hi9⟩ : ∃ j : Nat, k.tmod 9 = (j : Int) := ⟨(k.tmod 9).toNat, (Int.toNat_of_nonneg (Int.tmod_nonneg _ k0)).symm⟩
  have hi9L : i9 < 9 := by have := Int.tmod_lt_of_pos k (show (0 : Int) < 9 by omega); omega
  have e1 : IntKind.i64.wrap ((L : Int) + 1) = (L : Int) + 1 := by rw [IntKind.wrap_i64]; omega
  have e2 : IntKind.i64.wrap k = k := by rw [IntKind.wrap_i64]; omega
  have e3 : ¬ ((L : Int) + 1 = 0) := by omega
  have q1 : (0 : Int) ≤ (j : Int) := by omega
  have q2 : (j : Int) ≤ (cb : Int) := by omega
  have q3 : (0 : Int) ≤ (i9 : Int) := by omega
  have q4 : (i9 : Int) ≤ 10 := by omega
  have hcut := hbb0.cutH j j (by omega) rfl
  have hlcut := hlg0.cutH i9 i9 (by omega) rfl
  have ncut : (bl.take j).length ≤ 10 := by simp; omega
  have nlcut : (lg.take i9).length ≤ 10 := by simp; omega
  have HLL := Lib.hid hLl
  have HLG := Lib.hid hll
  clear hLl hll
  generalize bl.take j = cutl at *
  generalize lg.take i9 = lgl at *
  have t0 : Three W0.heap.size W0 W0.drew (.slice none 0 0) (.slice none 0 0) (.slice none 0 0) [] [] [] := Three.start (Below.refl _ _).drew (Nat.le_refl _)
  have t1 : Three W0.heap.size W0 (W0.alloc (.cells #[.int .u8 0] 5)).drew (.slice none 0 0) (.slice none 0 0) (.slice (some ⟨W0.heap.size, 0, none⟩) 1 1) [] [] [0] := t0.lay 0 (by omega) (by omega)
  have HQ := Lib.hid hQ
  clear hQ
  go_region_law (first
    | (refine step_V (v := .slice none 0 0) (src := .slice VB L cb) rfl (.const (.slice none 0 0)) (.tmp 93) rfl (by first | assumption | exact Three.lay (by assumption) 0 (by decide) (by decide)) ?_ ?_ hbb0 ?_ ?_; go_simp; go_simp; (simp; omega); intro v' w' hG'; obtain ⟨VA, VC, rfl, _, _, _⟩ := hG'.ov.bs)
    | (refine step_V (src := .slice A2 R c2) rfl (.tmp 94) (.tmp 95) rfl (by first | assumption | exact Three.lay (by assumption) 0 (by decide) (by decide)) ?_ ?_ hraw0 ?_ ?_; go_simp; go_simp; (simp; omega); intro v' w' hG'; obtain ⟨VA, VC, rfl, _, _, _⟩ := hG'.ov.bs)
    | (refine step_U (u := .slice none 0 0) (src := .slice (some gl) i9 10) rfl (.const (.slice none 0 0)) (.tmp 102) rfl (by first | assumption | exact Three.lay (by assumption) 0 (by decide) (by decide)) ?_ ?_ hlcut ?_ ?_; go_simp; go_simp; (simp; omega); intro v' w' hG'; obtain ⟨UA, UC, rfl, _, _, _⟩ := hG'.ou.bs)
    | (refine step_UZ rfl (.tmp 103) (.tmp 104) rfl (by first | assumption | exact Three.lay (by assumption) 0 (by decide) (by decide)) ?_ ?_ ?_ ?_; go_simp; go_simp; (simp; omega); intro v' w' hG'; obtain ⟨UA, UC, rfl, _, _, _⟩ := hG'.ou.bs))
  all_goals
    refine NoPanic.normal ?_
    have hr := r10_of hG' hraw0 hbb0 hcut hlg0 (by omega) (by omega) (by omega) (by omega) (by simp; omega) (by simp; omega) 23
    simp only [List.nil_append, List.length_append, List.length_singleton] at hr
    exact HQ.out _ _ _ _ _ _ _ _ _ _ _ _ _ _ _ _ _ _ _ _ _ _ _ _ _ _ _ hr
end Go.Proofs.Ytgnonicglkoikaa
