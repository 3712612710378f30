/- What is proved here: contracts of the helps of layer 3's laws: runes held against one another, runes and bytes of few numbers; append of a string's bytes. -/
import Derived.Test.YtjbjfhbldodjfaaUtfForm
import Derived.Lib.AppendStr
import Derived.Deep.Onto
import Derived.Deep.QuietTactic
import Derived.BigQuiet
namespace Go.Proofs.Ytjbjfhbldodjfaa
open Go.RowKit
set_option linter.unusedVariables false

/-- append of a string's bytes onto a row of bytes of the call's own, for the walk. -/
theorem wpl_appS (w : World) {ops : Array Oper} {rest : List Oper} {o : Oper} {a : Act} {Q : Exit → Act → World → Prop} (hgd : o.guard = none) (s x : Operand)
    (ho : o.op = .call { callee := .builtin .append, args := #[s, x], argTypes := #[22, 9] })
    (base : Nat) (v : Value) (l : List UInt8) (m : ByteArray) (hs : a.eval s = v) (hx : a.eval x = .string m) (hown : OB w base v l) (hlen : l.length + m.size ≤ 1099511627776) (hbase : base ≤ w.heap.size)
    (h : ∀ v' w', OB w' base v' (l ++ m.data.toList) → w.grownBy w' v.ownBlock → Below base w w' → wpList Try.prog ops Q rest (a.put o.dst v') w') :
    wpList Try.prog ops Q (o :: rest) a w := by
  obtain ⟨i0, hi0, hz0, hz1, hz2⟩ := info_parts byteInfo
  have hlt := World.ownsRow.lt hown
  refine Lib.wpList_append_own_string w hgd s x 22 9 ho base 5 i0 Try.underlying22 Try.underlying9 hi0 hz0 hz1 hz2 v l.length (vBs l) hs hown m hx (by simp only [maxLen]; omega) (by omega) hbase ?_
  intro v' w' h1 h2 _
  refine h v' w' ?_ h2 ((Below.refl _ _).grown h2 hbase (fun k hk => (hlt k hk).1))
  unfold OB
  have e1 : (l ++ m.data.toList).length = l.length + m.size := by simp
  have e2 : vBs (l ++ m.data.toList) = vBs l ++ Lib.strCells m := by simp [vBs, vB, Lib.strCells]
  rw [e1, e2]
  exact h1

theorem RS.cellC {w : World} {B n c : Nat} {A : Option Addr} {l : List Int} (h : RS w B (.slice A n c) l) (k : Nat) (hk : k < l.length) : ∃ ad, A = some ad ∧ w.cell? (ad.add k) = some (vR l[k]) := by
  obtain ⟨A', c', hv, _, _, h3⟩ := h.at_
  simp only [Value.slice.injEq] at hv
  obtain ⟨rfl, _, _⟩ := hv
  exact h3 k hk
theorem RS.lenC {w : World} {B n c : Nat} {A : Option Addr} {l : List Int} (h : RS w B (.slice A n c) l) : n = l.length := by
  obtain ⟨A', c', hv, _⟩ := h
  simp only [Value.slice.injEq] at hv
  exact hv.2.1

def HelpRel (w0 : World) (n : Nat) (t : Value) (wr : World) : Prop := ∃ k : Nat, k ≤ n ∧ t = .int .i64 (k : Int) ∧ Below w0.heap.size w0 wr
theorem below_drewN {B : Nat} {w w' : World} (h : Below B w w') (n : Nat) : Below B w (w'.drewN n) := ⟨h.os, h.tape, h.output, h.size, h.block⟩

set_option maxHeartbeats 1000000 in
/-- Two slices that read as the same runes are alike. -/
theorem helpRunes_eq (v1 v2 : Value) (l : List Int) (w : World) (h1 : RS w w.heap.size v1 l) (h2 : RS w w.heap.size v2 l) (hl : l.length ≤ 1099511627776) :
    Calls Try.prog 11 #[v1, v2] w fun e w' => e = .returned (.bool true) ∧ Below w.heap.size w w' := by
  obtain ⟨A1, c1, rfl, _⟩ := h1.at_
  obtain ⟨A2, c2, rfl, _⟩ := h2.at_
  have e1 : ((l.length : Int) != (l.length : Int)) = false := by simp
  go_enter Try.func11, Try.ntmps11
  go_wp2
  go_loopw [5] (fun t wr => HelpRel w l.length t wr) (fun t _ => l.length - (intOf t).toNat)
  case atStart => exact ⟨0, Nat.zero_le _, rfl, Below.refl _ _⟩
  case round =>
    obtain ⟨k, hk, rfl, hbel⟩ := hrel
    by_cases hlt : k < l.length
    · obtain ⟨ad1, rfl, ca⟩ := (h1.below hbel).cellC k hlt
      obtain ⟨ad2, rfl, cb⟩ := (h2.below hbel).cellC k hlt
      unfold vR at ca cb
      generalize l[k] = x at *
      have H1 := Lib.hid h1
      have H2 := Lib.hid h2
      clear h1 h2
      have b1 : (0 : Int) ≤ (k : Int) := by omega
      have b2 : (k : Int) < (l.length : Int) := by omega
      go_wp2_with fail
      go_quiet (fail)
      go_wp2
      exact ⟨⟨k + 1, hlt, by go_num, below_drewN hbel _⟩, by simp [intOf]; omega⟩
    · clear h1 h2
      go_wp2
      go_ret
      exact ⟨rfl, hbel⟩

/-- The runes of few numbers. -/
def seatRs : List Int := [97, 98, 32, 90, 48, 45, 233, 28450, 23383, 769, 8203, 1, 27, 127, 46, 99, 128512, 95, 65533, 100]
def seatR (k : UInt8) : Int := seatRs.getD (k.toNat % 20) 0
theorem seatR_bd (k : UInt8) : 0 ≤ seatR k ∧ seatR k ≤ 128512 := by
  unfold seatR
  have h : k.toNat % 20 < 20 := Nat.mod_lt _ (by omega)
  generalize k.toNat % 20 = j at h
  revert j
  decide
theorem seatRs_cell (j : Nat) (h : j < 20) : ([.int .i32 97, .int .i32 98, .int .i32 32, .int .i32 90, .int .i32 48, .int .i32 45, .int .i32 233, .int .i32 28450, .int .i32 23383, .int .i32 769, .int .i32 8203, .int .i32 1, .int .i32 27, .int .i32 127, .int .i32 46, .int .i32 99, .int .i32 128512, .int .i32 95, .int .i32 65533, .int .i32 100] : List Value)[j]? = some (.int .i32 (seatRs.getD j 0)) := by
  have e : ([.int .i32 97, .int .i32 98, .int .i32 32, .int .i32 90, .int .i32 48, .int .i32 45, .int .i32 233, .int .i32 28450, .int .i32 23383, .int .i32 769, .int .i32 8203, .int .i32 1, .int .i32 27, .int .i32 127, .int .i32 46, .int .i32 99, .int .i32 128512, .int .i32 95, .int .i32 65533, .int .i32 100] : List Value) = seatRs.map (fun r => Value.int .i32 r) := rfl
  rw [e, List.getElem?_map, List.getElem?_eq_getElem (show j < seatRs.length from h)]
  simp [List.getD, List.getElem?_eq_getElem (show j < seatRs.length from h)]
set_option maxHeartbeats 400000 in
theorem seatRune_any (k : UInt8) (w : World) : Calls Try.prog 26 #[.int .u8 (k.toNat : Int)] w fun e w' => e = .returned (.int .i32 (seatR k)) ∧ Below w.heap.size w w' := by
  obtain ⟨j, hj⟩ : ∃ j, k.toNat % 20 = j := ⟨_, rfl⟩
  have hj20 : j < 20 := by omega
  have hs : seatR k = seatRs.getD j 0 := by unfold seatR; rw [hj]
  rw [hs]
  have e1 : ((k.toNat : Int) % 20) = (j : Int) := by omega
  have hk := k.toNat_lt
  have hc := seatRs_cell j hj20
  generalize seatRs.getD j 0 = r at *
  have hj1 : (j : Int) < 20 := by omega
  clear hs hj
  go_enter Try.func26, Try.ntmps26
  go_wp2
  go_ret
  exact ⟨congrArg Ending.returned (List.getElem?_eq_some_iff.1 hc).2, (Below.refl _ _).alloc (Nat.le_refl _) _⟩

def SeatRel (l : List UInt8) (w0 : World) (o i : Value) (wr : World) : Prop :=
  ∃ k : Nat, k ≤ l.length ∧ i = .int .i64 (k : Int) ∧ OR wr w0.heap.size o ((l.take k).map seatR) ∧ Below w0.heap.size w0 wr
theorem take_map_succ (l : List UInt8) (k : Nat) (h : k < l.length) : (l.take (k + 1)).map seatR = (l.take k).map seatR ++ [seatR l[k]] := by
  rw [List.take_succ_eq_append_getElem h, List.map_append]
  rfl
def RunesPost (l : List UInt8) (w : World) (e : Ending) (w' : World) : Prop := ∃ v, e = .returned v ∧ OR w' w.heap.size v (l.map seatR) ∧ Below w.heap.size w w'
set_option maxHeartbeats 1000000 in
/-- Runes of few numbers, in a row of the call's own. -/
theorem seatRunes_any (v : Value) (l : List UInt8) (w : World) (hv : BS w w.heap.size v l) (hl : l.length ≤ 1048576) : Calls Try.prog 18 #[v] w (RunesPost l w) := by
  obtain ⟨A, cp, rfl, g1, g2, _⟩ := hv.at_
  unfold maxLen at g2
  go_enter Try.func18, Try.ntmps18
  go_wp2
  go_loopw [3, 4] (fun o i wr => SeatRel l w o i wr) (fun _ i _ => l.length - (intOf i).toNat)
  case atStart => exact ⟨0, Nat.zero_le _, rfl, OR.nil _ _, Below.refl _ _⟩
  case round =>
    obtain ⟨k, hk, rfl, ho, hbel⟩ := hrel
    by_cases hlt : k < l.length
    · have hz := hbel.size
      obtain ⟨ad, rfl, hc⟩ := (hv.below hbel).cellC k hlt
      have hsucc := take_map_succ l k hlt
      have hml : ((l.take k).map seatR).length ≤ l.length := by simp; omega
      unfold vB at hc
      generalize l[k] = b at *
      have HN := Lib.hid hsucc
      have HO := Lib.hid ho
      clear hsucc hv ho
      go_wp2_with (first
        | (go_at_call 26; refine (seatRune_any b _).mono ?_; rintro e w1 ⟨rfl, hb1⟩; have hz1 := hb1.size; have ho1 := HO.out.below hb1)
        | (at_builtin; refine wpl_appR _ rfl (.tmp 11) (.tmp 17) rfl w.heap.size _ _ _ _ [seatR b] rfl rfl (ho1.alloc _) (RS.one w1 _ _) (by simp at hml ⊢; omega) (by simp; omega) ?_; intro v3 w3 ho3 hg3 hbel3 _))
      go_roundw
      case rel => exact ⟨k + 1, hlt, by go_num, by rw [HN.out]; exact ho3, ((hbel.trans (hb1.mono hz)).alloc (by omega) _).trans hbel3⟩
      case measure => simp [intOf]; omega
    · obtain rfl : k = l.length := by omega
      rw [List.take_length] at ho
      clear hv
      go_wp2
      go_ret
      exact ⟨_, rfl, ho, hbel⟩

/-- The pieces of which 'some' makes its bytes. -/
def Some3 (l : List UInt8) (w : World) (e : Ending) (w' : World) : Prop := ∃ v m, e = .returned v ∧ OB w' w.heap.size v m ∧ m.length ≤ 4 * l.length ∧ Below w.heap.size w w'
def Some3Rel (l : List UInt8) (B : Nat) (w1 : World) (o i : Value) (wr : World) : Prop :=
  ∃ (k : Nat) (m : List UInt8), k ≤ l.length ∧ i = .int .i64 (k : Int) ∧ m.length ≤ 4 * k ∧ OB wr (B + 1) o m ∧ Below (B + 1) w1 wr
set_option maxHeartbeats 1000000 in
theorem some3_any (v : Value) (l : List UInt8) (w : World) (hv : BS w w.heap.size v l) (hl : l.length ≤ 1048576) : Calls Try.prog 8 #[v] w (Some3 l w) := by
  obtain ⟨A, cp, rfl, g1, g2, _⟩ := hv.at_
  unfold maxLen at g2
  go_enter Try.func8, Try.ntmps8
  go_wp2
  generalize hO : Obj.cells _ 9 _ = O
  have hC : ∀ j, j < 17 → ∃ s : ByteArray, s.size ≤ 4 ∧ (w.alloc O).cell? ⟨w.heap.size, j, none⟩ = some (.string s) := by
    subst hO
    intro j hj
    rw [World.cell?_alloc_new]
    match j, hj with
    | 0, _ => exact ⟨_, (by decide), rfl⟩
    | 1, _ => exact ⟨_, (by decide), rfl⟩
    | 2, _ => exact ⟨_, (by decide), rfl⟩
    | 3, _ => exact ⟨_, (by decide), rfl⟩
    | 4, _ => exact ⟨_, (by decide), rfl⟩
    | 5, _ => exact ⟨_, (by decide), rfl⟩
    | 6, _ => exact ⟨_, (by decide), rfl⟩
    | 7, _ => exact ⟨_, (by decide), rfl⟩
    | 8, _ => exact ⟨_, (by decide), rfl⟩
    | 9, _ => exact ⟨_, (by decide), rfl⟩
    | 10, _ => exact ⟨_, (by decide), rfl⟩
    | 11, _ => exact ⟨_, (by decide), rfl⟩
    | 12, _ => exact ⟨_, (by decide), rfl⟩
    | 13, _ => exact ⟨_, (by decide), rfl⟩
    | 14, _ => exact ⟨_, (by decide), rfl⟩
    | 15, _ => exact ⟨_, (by decide), rfl⟩
    | 16, _ => exact ⟨_, (by decide), rfl⟩
    | n + 17, h => omega
  clear hO
  have hB1 : Below w.heap.size w (w.alloc O) := (Below.refl _ _).alloc (Nat.le_refl _) _
  have hs1 : (w.alloc O).heap.size = w.heap.size + 1 := by simp
  have hv1 := hv.below hB1
  generalize w.alloc O = W1 at *
  go_loopw [4, 5] (fun o i wr => Some3Rel l w.heap.size W1 o i wr) (fun _ i _ => l.length - (intOf i).toNat)
  case atStart => exact ⟨0, [], Nat.zero_le _, rfl, by simp, OB.nil _ _, Below.refl _ _⟩
  case round =>
    obtain ⟨k, m, hk, rfl, hm, ho, hbel⟩ := hrel
    by_cases hlt : k < l.length
    · have hz := hbel.size
      obtain ⟨ad, rfl, hc⟩ := (hv1.below (hbel.mono (Nat.le_succ _))).cellC k hlt
      have hbl := (l[k]).toNat_lt
      unfold vB at hc
      generalize l[k].toNat = b at *
      obtain ⟨j, hj⟩ : ∃ j, b % 17 = j := ⟨_, rfl⟩
      have hj17 : j < 17 := by omega
      obtain ⟨s, hsz, hcs⟩ := hC j hj17
      have hcs2 : wr.cell? ⟨w.heap.size, j, none⟩ = some (.string s) := (hbel.cell (p := ⟨w.heap.size, j, none⟩) (Nat.lt_succ_self _)).trans hcs
      have e1 : (b : Int) % 17 = (j : Int) := by omega
      have HO := Lib.hid ho
      have hj1 : (j : Int) < 17 := by omega
      clear hv ho hC hv1 hcs hj
      go_wp2_with (first
        | (at_builtin; refine wpl_appS _ rfl (.tmp 13) (.tmp 24) rfl (w.heap.size + 1) _ _ s rfl rfl HO.out (by omega) (by omega) ?_; intro v3 w3 ho3 hg3 hbel3))
      go_roundw
      case rel => exact ⟨k + 1, m ++ s.data.toList, hlt, by go_num, by simp; omega, ho3, hbel.trans hbel3⟩
      case measure => simp [intOf]; omega
    · obtain rfl : k = l.length := by omega
      clear hv hC hv1
      go_wp2
      go_ret
      exact ⟨_, m, rfl, World.ownsRow.mono ho (Nat.le_succ _), hm, hB1.trans (hbel.mono (Nat.le_succ _))⟩
end Go.Proofs.Ytjbjfhbldodjfaa
