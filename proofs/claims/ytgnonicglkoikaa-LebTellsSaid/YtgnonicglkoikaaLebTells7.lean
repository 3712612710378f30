/- What is proved here: the test of the law LebTells on Put, Zig and Zag, whatever order it draws: it comes out false, with at most new memory. -/
import Derived.Test.YtgnonicglkoikaaLebZig
import Derived.Deep.RegionWith
import Derived.Deep.RegionHeld3
namespace Go.Proofs.Ytgnonicglkoikaa
open Go.RowKit
set_option linter.unusedVariables false

/-- A region of a function's body, by its number. -/
def findRegion (n : Nat) : Code → Option Code
  | .region id ops b => if id = n then some (.region id ops b) else none
  | .seq a b => match findRegion n a with
    | some c => some c
    | none => findRegion n b
  | .cond _ a b => match findRegion n a with
    | some c => some c
    | none => findRegion n b
  | .block _ c => findRegion n c
  | .scope c => findRegion n c
  | .loop c => findRegion n c
  | _ => none
noncomputable def tellsReg7 : Code := (Try.f3.body.bind (findRegion 7)).getD .skip

theorem wrap_i64_bd (x : Int) : -9223372036854775808 ≤ IntKind.i64.wrap x ∧ IntKind.i64.wrap x < 9223372036854775808 := by rw [IntKind.wrap_i64]; omega

set_option maxRecDepth 1000000 in
set_option maxHeartbeats 20000000 in
theorem tells7 (x : Int) (x0 : 0 ≤ x) (x1 : x < 18446744073709551616) (VB : Option Addr) (cb : Nat) (w : World) (hvb : BS w w.heap.size (.slice VB (lebP x.toNat).length cb) (lebP x.toNat)) (Q : Exit → Act → World → Prop)
    (u0 u1 u2 u3 u4 u5 u6 u7 u8 u11 u12 u13 u14 u15 u16 u17 u18 u19 u20 u21 u22 u23 u24 u25 u26 u27 u28 u29 u30 u31 u32 u33 u34 u35 u36 u37 u38 u39 u40 u41 u42 u43 u44 u45 u46 u47 u48 u49 u50 u51 u52 u53 u54 u55 u56 u57 u58 u59 u60 u61 u62 u63 u64 u65 u66 u67 u68 u69 u70 u71 u72 u73 u74 u75 u76 u77 u78 u79 u80 u81 u82 u83 u84 u85 u86 u87 u88 u89 u90 u91 u92 u93 u94 u95 u96 u97 u98 u99 u100 u101 u102 u103 u104 u105 u106 u107 u108 u109 u110 u111 u112 u113 u114 u115 u116 u117 u118 u119 u120 u121 u122 u123 u124 u125 u126 u127 u128 u129 u130 u131 u132 u133 u134 u135 u136 u137 u138 u139 u140 u141 u142 u143 u144 u145 u146 u147 u148 u149 u150 u151 u152 u153 u154 u155 u156 u157 u158 u159 u160 u161 u162 u163 u164 u165 u166 u167 u168 u169 u170 u171 u172 u173 u174 u175 u176 u177 u178 u179 u180 u181 u182 u183 u184 u185 u186 u187 u188 u189 u190 u191 u192 u193 u194 u195 u196 u197 u198 u199 u200 u201 u202 u203 u204 u205 u206 : Value)
    (hQ : ∀ (s42 s43 s44 s45 s46 s47 s48 s49 s50 s51 s52 s53 s54 s55 s56 s57 s58 s59 s60 s61 s62 s63 s64 s65 s66 s67 s68 s69 s70 s71 s72 s73 s74 s75 s76 s77 s78 : Value) (wx : World), Below w.heap.size w wx → Q .normal ⟨#[u0, u1, u2, u3, u4, u5, u6, u7, u8, .int .u64 x, .slice VB (lebP x.toNat).length cb, u11, u12, u13, u14, u15, u16, u17, u18, u19, u20, u21, u22, u23, u24, u25, u26, u27, u28, u29, u30, u31, u32, u33, u34, u35, u36, u37, u38, u39, u40, u41, s42, s43, s44, s45, s46, s47, s48, s49, s50, s51, s52, s53, s54, s55, s56, s57, s58, s59, s60, s61, s62, s63, s64, s65, s66, s67, s68, s69, s70, s71, s72, s73, s74, s75, s76, s77, s78, .bool false, u80, u81, u82, u83, u84, u85, u86, u87, u88, u89, u90, u91, u92, u93, u94, u95, u96, u97, u98, u99, u100, u101, u102, u103, u104, u105, u106, u107, u108, u109, u110, u111, u112, u113, u114, u115, u116, u117, u118, u119, u120, u121, u122, u123, u124, u125, u126, u127, u128, u129, u130, u131, u132, u133, u134, u135, u136, u137, u138, u139, u140, u141, u142, u143, u144, u145, u146, u147, u148, u149, u150, u151, u152, u153, u154, u155, u156, u157, u158, u159, u160, u161, u162, u163, u164, u165, u166, u167, u168, u169, u170, u171, u172, u173, u174, u175, u176, u177, u178, u179, u180, u181, u182, u183, u184, u185, u186, u187, u188, u189, u190, u191, u192, u193, u194, u195, u196, u197, u198, u199, u200, u201, u202, u203, u204, u205, u206], []⟩ wx) :
    Code.wp Try.prog tellsReg7 Q ⟨#[u0, u1, u2, u3, u4, u5, u6, u7, u8, .int .u64 x, .slice VB (lebP x.toNat).length cb, u11, u12, u13, u14, u15, u16, u17, u18, u19, u20, u21, u22, u23, u24, u25, u26, u27, u28, u29, u30, u31, u32, u33, u34, u35, u36, u37, u38, u39, u40, u41, u42, u43, u44, u45, u46, u47, u48, u49, u50, u51, u52, u53, u54, u55, u56, u57, u58, u59, u60, u61, u62, u63, u64, u65, u66, u67, u68, u69, u70, u71, u72, u73, u74, u75, u76, u77, u78, u79, u80, u81, u82, u83, u84, u85, u86, u87, u88, u89, u90, u91, u92, u93, u94, u95, u96, u97, u98, u99, u100, u101, u102, u103, u104, u105, u106, u107, u108, u109, u110, u111, u112, u113, u114, u115, u116, u117, u118, u119, u120, u121, u122, u123, u124, u125, u126, u127, u128, u129, u130, u131, u132, u133, u134, u135, u136, u137, u138, u139, u140, u141, u142, u143, u144, u145, u146, u147, u148, u149, u150, u151, u152, u153, u154, u155, u156, u157, u158, u159, u160, u161, u162, u163, u164, u165, u166, u167, u168, u169, u170, u171, u172, u173, u174, u175, u176, u177, u178, u179, u180, u181, u182, u183, u184, u185, u186, u187, u188, u189, u190, u191, u192, u193, u194, u195, u196, u197, u198, u199, u200, u201, u202, u203, u204, u205, u206], []⟩ w := by
  refine Code.wp_mono NoPanic.imp ?_
  conv => arg 2; whnf
  have hsb0 : (convert 23 9 (.slice VB (lebP x.toNat).length cb)).run Try.prog w.drew = .ok (.string (strB (lebP x.toNat))) w.drew := run_str (w := w.drew) hvb
  have hsd : BS w.drew w.drew.heap.size (.slice VB (lebP x.toNat).length cb) (lebP x.toNat) := hvb
  have HSD := Lib.hid hsd
  have hzz := zag_zig (IntKind.i64.wrap x)
  have hzg := zig_zag x x0
  obtain ⟨y0, y1⟩ := wrap_i64_bd x
  obtain ⟨zb0, zb1⟩ := zigV_bd (IntKind.i64.wrap x) y0 y1
  obtain ⟨gb0, gb1⟩ := zagV_bd x x0 x1
  have HQ := Lib.hid hQ
  clear hsd hvb hQ
  go_region_with (first
    | (go_at_call 11; refine (put_any _ ?_ ?_ _).mono ?_; exact x0; exact x1; rintro e w4 ⟨v4, rfl, hv4, hb4⟩; have hs4 := run_str hv4.bs; have hsb4 := run_str (HSD.out.below hb4))
    | (go_at_call 12; refine (zag_any _ ?_ ?_ _).mono ?_; (first | exact x0 | exact zb0); (first | exact x1 | exact zb1); rintro e w4 ⟨rfl, rfl⟩)
    | (go_at_call 13; refine (zagr_any _ ?_ ?_ _).mono ?_; exact x0; exact x1; rintro e w4 ⟨rfl, rfl⟩)
    | (go_at_call 14; refine (zig_any _ ?_ ?_ _).mono ?_; (first | exact y0 | exact gb0); (first | exact y1 | exact gb1); rintro e w4 ⟨rfl, rfl⟩)
    | (go_at_call 15; refine (zigr_any _ ?_ ?_ _).mono ?_; exact y0; exact y1; rintro e w4 ⟨rfl, rfl⟩))
  all_goals (refine NoPanic.normal ?_; exact HQ.out _ _ _ _ _ _ _ _ _ _ _ _ _ _ _ _ _ _ _ _ _ _ _ _ _ _ _ _ _ _ _ _ _ _ _ _ _ _ ⟨hb4.os, hb4.tape, hb4.output, hb4.size, hb4.block⟩)
end Go.Proofs.Ytgnonicglkoikaa
