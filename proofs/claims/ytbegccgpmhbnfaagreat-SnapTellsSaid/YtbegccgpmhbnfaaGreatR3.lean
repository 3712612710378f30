/- What is proved here: parts of the proof of SnapTells. -/
import Derived.Test.YtbegccgpmhbnfaaGreatR2
import Derived.Laws.StructEq
namespace Go.Proofs.YtbegccgpmhbnfaaGreat
open Go.RowKit
set_option linter.unusedVariables false
set_option linter.unusedSimpArgs false
set_option maxHeartbeats 1000000
def CK.flat : CK → Bool
 | .lst _ => false
 | _ => true
def keepC (T : Tab) : CK × Bool → Bool
 | (.lst el, true) => match T.cks el with
  | some cks => cks.all CK.flat
  | none => false
 | (k, false) => k.flat
 | _ => false
def keepS (T : Tab) (l : List (Bool × List (CK × Bool))) : Bool := l.all fun p => p.2.all (keepC T)
def argsE (T : Tab) : (Nat → Blk) → List (Bool × List CK) → List SV → Option (List E × List E × List (Nat × Blk))
 | _, [], [] => some ([], [], [])
 | h, (x, ks) :: ps, s :: ss => do
  let cs ← match x, s with
   | true, .agg cs => some cs
   | false, .one c => if ks.length = 1 then some [c] else none
   | _, _ => none
  let (ns, es, us) ← immL T h ks cs
  let (ns', es', us') ← argsE T (upl h us) ps ss
  some (ns ++ ns', es ++ es', us ++ us')
 | _, _, _ => none
def resN (l : List (Bool × List (CK × Bool))) : Nat := (l.map fun p => p.2.length).sum
def symCall (T : Tab) (h : Nat → Blk) (nb ne : Nat) (f : FuncId) (sg : Sig) (args : List SV) : Option Out := do
 let (ns, es, us) ← argsE T h sg.params args
 some { needs := ns, call := some (f, es, resN sg.results), val := resV nb ne sg.results, upd := (if keepS T sg.results then [] else us) ++ resLU nb ne sg.results }
section
variable {P : Program} {T : Tab} {m m' : Mem} {w0 : W0} {S0 : Nat → Prop} {w : World}
theorem Rd.flat {S S' : Nat → Prop} {w' : World} {k : CK} {d : DV} {v : Value} (h : Rd T w S k d v) (hk : k.flat = true) : Rd T w' S' k d v := by
 cases h with
 | int h => exact .int h
 | bool => exact .bool
 | str h => exact .str h
 | lst => cases hk
theorem args_ok : ∀ (ps : List (Bool × List CK)) (ss : List SV) (vs : List Value) {m : Mem} {ns es us}, MOk T w0 S0 m → argsE T m.h ps ss = some (ns, es, us) → vs.length = ss.length → (∀ (j : Nat) s v, ss[j]? = some s → vs[j]? = some v → SVr T m s v) → needsOk m.env ns →
  ∃ m', Froze T w0 S0 m us m' ∧ ArgsR T m'.w m'.S ps (es.map (·.den m.env)) vs
 | [], [], vs, m, ns, es, us, hm, h, hl, hr, hn => by
  cases h
  cases vs with
  | nil => exact ⟨m, Froze.refl hm, rfl, rfl⟩
  | cons _ _ => cases hl
 | [], _ :: _, _, _, _, _, _, _, h, _, _, _ => by simp [argsE] at h
 | _ :: _, [], _, _, _, _, _, _, h, _, _, _ => by simp [argsE] at h
 | (x, ks) :: ps, s :: ss, [], _, _, _, _, _, _, hl, _, _ => by cases hl
 | (x, ks) :: ps, s :: ss, v :: vs, m, ns, es, us, hm, h, hl, hr, hn => by
  unfold argsE at h
  have hs := hr 0 s v rfl rfl
  have key : ∀ (cs : List CV) (vv : List Value), CsR T m cs vv → (immL T m.h ks cs).bind (fun a => (argsE T (upl m.h a.2.2) ps ss).bind fun b => some (a.1 ++ b.1, a.2.1 ++ b.2.1, a.2.2 ++ b.2.2)) = some (ns, es, us) →
    (∀ {m1 : Mem} {es1 : List E}, es1.length = ks.length → vv.length = ks.length → (∀ (j : Nat) k e, ks[j]? = some k → es1[j]? = some e → ∃ u, vv[j]? = some u ∧ Rd T m1.w m1.S k (e.den m.env) u) → ArgR T m1.w m1.S (x, ks) (es1.map (·.den m.env)) v) →
    ∃ m', Froze T w0 S0 m us m' ∧ ArgsR T m'.w m'.S ((x, ks) :: ps) (es.map (·.den m.env)) (v :: vs) := fun cs vv hc h hA => by
   cases h1 : immL T m.h ks cs with
   | none => rw [h1] at h; cases h
   | some a =>
   obtain ⟨n1, e1, u1⟩ := a
   rw [h1] at h
   simp only [Option.bind_some] at h
   cases h2 : argsE T (upl m.h u1) ps ss with
   | none => rw [h2] at h; cases h
   | some b =>
   obtain ⟨n2, e2, u2⟩ := b
   rw [h2] at h
   simp only [Option.bind_some, Option.some.injEq, Prod.mk.injEq] at h
   obtain ⟨rfl, rfl, rfl⟩ := h
   obtain ⟨m1, f1, l1, l2, r1⟩ := immL_ok _ _ _ hm hc h1 hn.left
   obtain ⟨m2, f2, r2⟩ := args_ok ps ss vs (m := m1) f1.ok (by rw [f1.h]; exact h2) (by simpa using hl) (fun j s v hs hv => f1.keep.sv (hr (j + 1) s v hs hv)) (by rw [f1.env]; exact hn.right)
   rw [f1.env] at r2
   have hel : e1.length = ks.length := by omega
   refine ⟨m2, f1.trans f2, v, vs, rfl, ?_, ?_⟩
   ·rw [List.map_append, List.take_left' (by simp [hel])]
    exact hA hel (by have := hc.1; omega) (fun j k e hk he => by
      obtain ⟨u, hu, hrd⟩ := r1 j k e hk he
      exact ⟨u, hu, f2.rd hrd⟩)
   ·rw [List.map_append, List.drop_left' (by simp [hel])]
    exact r2
  simp only [Option.bind_eq_bind] at h
  split at h
  ·rename_i cs
   obtain ⟨a, rfl, hc⟩ := hs
   simp only [Option.bind_some] at h
   refine key cs a.toList hc h (fun {m1 es1} h1 h2 h3 => ⟨by simp [h1], .inl ⟨rfl, a, rfl, by simpa using h2, fun j k d hk hd => ?_⟩⟩)
   rw [List.getElem?_map] at hd
   cases he : es1[j]? with
   | none => rw [he] at hd; cases hd
   | some e =>
    rw [he] at hd; cases hd
    obtain ⟨u, hu, hrd⟩ := h3 j k e hk he
    exact ⟨u, by rw [← Array.getElem?_toList]; exact hu, hrd⟩
  ·rename_i c
   split at h
   case isFalse => cases h
   rename_i hk1
   simp only [Option.bind_some] at h
   cases ks with
   | nil => cases hk1
   | cons k ks' =>
   cases ks' with
   | cons _ _ => simp at hk1
   | nil =>
   -- one cell: is it one?
   cases h1 : immL T m.h [k] [c] with
   | none => rw [h1] at h; cases h
   | some a =>
   have hsure : v.oneCell' = true := by
    unfold immL at h1
    cases h3 : immE T m.h k c with
    | none => rw [h3] at h1; cases h1
    | some y =>
     obtain ⟨yn, ye, yu⟩ := y
     have hcv : CVr T m c v := hs
     unfold immE at h3
     split at h3
     ·exact Rd.one hcv
     ·rw [show v = _ from hcv]; rfl
     ·split at h3
      ·rename_i hb
       rcases hcv with hd | ⟨_, _, _, _, _, _, hsl⟩
       ·rw [hb] at hd; cases hd
       ·exact hsl.one
      ·cases h3
     ·split at h3
      ·rename_i hb
       rcases hcv with hd | ⟨_, _, _, _, _, _, _, _, hsl, _⟩
       ·rw [hb] at hd; cases hd
       ·exact hsl.one
      ·cases h3
     ·cases h3
   refine key [c] [v] ⟨rfl, fun j c' hj => by
     cases j with
     | zero => cases hj; exact ⟨v, rfl, hsure, hs⟩
     | succ j => cases hj⟩ h (fun {m1 es1} g1 g2 g3 => ?_)
   cases es1 with
   | nil => cases g1
   | cons e es2 =>
    cases es2 with
    | cons _ _ => simp at g1
    | nil =>
     obtain ⟨u, hu, hrd⟩ := g3 0 k e rfl rfl
     cases hu
     exact ⟨rfl, .inr ⟨rfl, k, _, rfl, rfl, hrd⟩⟩
  ·cases h
theorem Apart.take {qs : List (Option Nat)} (h : Apart qs) (n : Nat) : Apart (qs.take n) := fun i j q hi hj => by
 rw [List.getElem?_take] at hi hj
 split at hi <;> split at hj <;> first | exact h i j q hi hj | cases hi | cases hj
theorem Apart.drop {qs : List (Option Nat)} (h : Apart qs) (n : Nat) : Apart (qs.drop n) := fun i j q hi hj => by
 rw [List.getElem?_drop] at hi hj
 have := h _ _ q hi hj
 omega
theorem res_take : ∀ (ps : List (Bool × List (CK × Bool))) (ds : List DV) (qs : List (Option Nat)) (vs : List Value) {m : Mem} {lo nb ne top : Nat}, Took T w0 S0 m lo nb top qs → nb + freshL ps ≤ top → ResL T m.w m.S lo ps ds qs vs → (∀ (j : Nat) d, ds[j]? = some d → m.env.getD (ne + j) (.I 0) = d) →
  ∃ m', m'.env = m.env ∧ m'.w = m.w ∧ m'.h = upl m.h (resLU nb ne ps) ∧ Keep T m m' ∧ MOk T w0 S0 m' ∧ vs.length = ps.length ∧ (resL nb ne ps).length = ps.length ∧ ∀ (j : Nat) p v, (resL nb ne ps)[j]? = some p → vs[j]? = some v → PvR T m' p v
 | [], ds, qs, vs, m, lo, nb, ne, top, ht, hz, hr, he => by
  obtain ⟨rfl, rfl, rfl⟩ := hr
  exact ⟨m, rfl, rfl, rfl, Keep.refl, ht.ok, rfl, rfl, fun j p v hj => by cases hj⟩
 | p :: ps, ds, qs, vs, m, lo, nb, ne, top, ht, hz, hr, he => by
  obtain ⟨v, vs', rfl, h1, h2⟩ := hr
  obtain ⟨l1, l2, h3⟩ := h1
  have hz' : nb + freshN p.2 + freshL ps ≤ top := by have : freshL (p :: ps) = freshN p.2 + freshL ps := rfl; omega
  have ht1 : Took T w0 S0 m lo nb top (qs.take p.2.length) := ⟨ht.ok, ht.lo, ht.free, ht.apart.take _, fun b x l hx => ht.out b x l (List.mem_of_mem_take hx)⟩
  have he1 : ∀ (j : Nat) d, (ds.take p.2.length)[j]? = some d → m.env.getD (ne + j) (.I 0) = d := fun j d hj => by
   rw [List.getElem?_take] at hj
   split at hj
   ·exact he j d hj
   ·cases hj
  -- the cells of this one
  have key : ∀ (cv : List Value), cv.length = p.2.length → (∀ (j : Nat) k d q v, p.2[j]? = some k → (ds.take p.2.length)[j]? = some d → (qs.take p.2.length)[j]? = some q → cv[j]? = some v → ResC T m.w m.S lo k d v q) → (∀ {m1 : Mem}, CsR T m1 (resC nb ne p.2) cv → PvR T m1 (p.1, resC nb ne p.2) v) →
    ∃ m', m'.env = m.env ∧ m'.w = m.w ∧ m'.h = upl m.h (resLU nb ne (p :: ps)) ∧ Keep T m m' ∧ MOk T w0 S0 m' ∧ (v :: vs').length = (p :: ps).length ∧ (resL nb ne (p :: ps)).length = (p :: ps).length ∧ ∀ (j : Nat) p' v', (resL nb ne (p :: ps))[j]? = some p' → (v :: vs')[j]? = some v' → PvR T m' p' v' := fun cv hcl hcr hP => by
   obtain ⟨m1, g1, g2, g3, g4, g5, g6, g7, g8, g9⟩ := cells_take (ne := ne) p.2 (ds.take p.2.length) (qs.take p.2.length) cv ht1 (by omega) l1 l2 hcl he1 hcr
   have ht2 : Took T w0 S0 m1 lo (nb + freshN p.2) top (qs.drop p.2.length) := ⟨g6, ht.lo, g7, ht.apart.drop _, fun b x l hx a => by
     rcases g8 b x l a with ⟨h, h'⟩ | h
     · exact ht.out b x h (List.mem_of_mem_drop hx) h'
     · obtain ⟨i, hi⟩ := List.mem_iff_getElem?.1 h
       obtain ⟨j, hj⟩ := List.mem_iff_getElem?.1 hx
       rw [List.getElem?_take] at hi
       rw [List.getElem?_drop] at hj
       split at hi
       · have := ht.apart _ _ x hi hj; omega
       · cases hi⟩
   obtain ⟨m2, k1, k2, k3, k4, k5, k6, k7, k8⟩ := res_take ps (ds.drop p.2.length) (qs.drop p.2.length) vs' (m := m1) (lo := lo) (nb := nb + freshN p.2) (ne := ne + p.2.length) ht2 hz' (by rw [g2, g3]; exact h2) (fun j d hj => by
     rw [List.getElem?_drop] at hj
     rw [g1, ← he _ d hj]; congr 1; omega)
   refine ⟨m2, k1.trans g1, k2.trans g2, by show m2.h = upl m.h (resU nb ne p.2 ++ resLU (nb + freshN p.2) (ne + p.2.length) ps); rw [upl_append, k3, g4], g5.trans k4, k5, by simp [k6], by show (_ :: resL (nb + freshN p.2) (ne + p.2.length) ps).length = _; simp [k7], fun j p' v' hj hv => ?_⟩
   unfold resL at hj
   cases j with
   | zero => cases hj; cases hv; exact k4.pv (hP g9)
   | succ j => exact k8 j p' v' hj hv
  rcases h3 with ⟨h4, a, rfl, h5, h6⟩ | ⟨h4, k, d, q, h5, h6, h7, h8⟩
  ·refine key a.toList (by simpa using h5) (fun j k d q v hk hd hq hv => ?_) (fun {m1} hc => .inl ⟨h4, a, rfl, hc⟩)
   obtain ⟨u, hu, hr⟩ := h6 j k d q hk hd hq
   rw [Array.getElem?_toList, hu] at hv
   cases hv
   exact hr
  ·refine key [v] (by rw [h5]; rfl) (fun j k' d' q' v' hk hd hq hv => ?_) (fun {m1} hc => ?_)
   ·rw [h5] at hk; rw [h6] at hd; rw [h7] at hq
    cases j with
    | zero => cases hk; cases hd; cases hq; cases hv; exact h8
    | succ j => cases hk
   ·refine .inr ⟨h4, ?_⟩
    rw [h5] at hc ⊢
    have hone : ∀ (k : CK × Bool), ∃ c, resC nb ne [k] = [c] := fun k => by
     obtain ⟨k1, k2⟩ := k
     cases k1 <;> cases k2 <;> exact ⟨_, rfl⟩
    obtain ⟨c, hc'⟩ := hone k
    rw [hc'] at hc ⊢
    obtain ⟨u, hu, _, hcu⟩ := hc.2 0 c rfl
    cases hu
    exact ⟨c, rfl, hcu⟩
theorem ResC.flat {S S' : Nat → Prop} {lo : Nat} {k : CK × Bool} {d : DV} {v : Value} {q : Option Nat} (h : ResC T w S lo k d v q) (hk : keepC T k = true) (hlo : ∀ q, S' q → q < lo) : ResC T w S' lo k d v q := by
 obtain ⟨k1, k2⟩ := k
 rcases h with ⟨h1, h2, h3⟩ | ⟨h1, el, rows, h2, h3, cks, h4, h5, h6, h7⟩
 ·simp only at h1; subst h1
  exact .inl ⟨rfl, h2, h3.flat (by unfold keepC at hk; cases k1 <;> exact hk)⟩
 ·simp only at h1 h2; subst h1; subst h2
  have hall : ∀ (j : Nat) k, cks[j]? = some k → k.flat = true := fun j k hj => by
   simp only [keepC, h4] at hk
   exact List.all_eq_true.1 hk k (List.mem_of_getElem? hj)
  refine .inr ⟨rfl, el, rows, rfl, h3, cks, h4, h5, h6, ?_⟩
  rcases h7 with h7 | ⟨b, base, c, t, cap, ad, g1, g2, g3, g4, g5, g6, g7, g8, g9⟩
  ·exact .inl h7
  ·refine .inr ⟨b, base, c, t, cap, ad, g1, g2, g3, g4, g5, fun hs => by have := hlo _ hs; omega, g7, g8, fun i j r d k hi hj hk' => ?_⟩
   obtain ⟨u, hu, hr⟩ := g9 i j r d k hi hj hk'
   exact ⟨u, hu, hr.flat (hall j k hk')⟩
theorem ResC.more {S S' : Nat → Prop} {lo : Nat} {k : CK × Bool} {d : DV} {v : Value} {q : Option Nat} (h : ResC T w S lo k d v q) (hS : ∀ q, S q → S' q) (hlo : ∀ q, S' q → S q ∨ q < lo) : ResC T w S' lo k d v q := by
 rcases h with ⟨h1, h2, h3⟩ | ⟨h1, el, rows, h2, h3, cks, h4, h5, h6, h7⟩
 ·exact .inl ⟨h1, h2, h3.keep (fun _ _ => rfl) hS⟩
 ·refine .inr ⟨h1, el, rows, h2, h3, cks, h4, h5, h6, ?_⟩
  rcases h7 with h7 | ⟨b, base, c, t, cap, ad, g1, g2, g3, g4, g5, g6, g7, g8, g9⟩
  ·exact .inl h7
  ·refine .inr ⟨b, base, c, t, cap, ad, g1, g2, g3, g4, g5, fun hs => ?_, g7, g8, fun i j r d k hi hj hk' => ?_⟩
   ·rcases hlo _ hs with h | h
    ·exact g6 h
    ·omega
   ·obtain ⟨u, hu, hr⟩ := g9 i j r d k hi hj hk'
    exact ⟨u, hu, hr.keep (fun _ _ => rfl) hS⟩
theorem ResP.imp {S S' : Nat → Prop} {lo : Nat} {p : Bool × List (CK × Bool)} {ds : List DV} {qs : List (Option Nat)} {v : Value} (h : ResP T w S lo p ds qs v) (hi : ∀ k ∈ p.2, ∀ d v q, ResC T w S lo k d v q → ResC T w S' lo k d v q) : ResP T w S' lo p ds qs v := by
 obtain ⟨l1, l2, h⟩ := h
 refine ⟨l1, l2, ?_⟩
 rcases h with ⟨h1, a, h2, h3, h4⟩ | ⟨h1, k, d, q, h2, h3, h4, h5⟩
 ·refine .inl ⟨h1, a, h2, h3, fun j k d q hk hd hq => ?_⟩
  obtain ⟨u, hu, hr⟩ := h4 j k d q hk hd hq
  exact ⟨u, hu, hi k (List.mem_of_getElem? hk) d u q hr⟩
 ·exact .inr ⟨h1, k, d, q, h2, h3, h4, hi k (by rw [h2]; exact List.mem_singleton.2 rfl) d v q h5⟩
theorem ResL.imp {S S' : Nat → Prop} {lo : Nat} : ∀ {ps : List (Bool × List (CK × Bool))} {ds : List DV} {qs : List (Option Nat)} {vs : List Value}, ResL T w S lo ps ds qs vs → (∀ p ∈ ps, ∀ k ∈ p.2, ∀ d v q, ResC T w S lo k d v q → ResC T w S' lo k d v q) → ResL T w S' lo ps ds qs vs
 | [], _, _, _, h, _ => h
 | p :: ps, ds, qs, vs, h, hi => by
  obtain ⟨v, vs', h1, h2, h3⟩ := h
  exact ⟨v, vs', h1, h2.imp (hi p (List.mem_cons_self ..)), h3.imp (fun p' hp => hi p' (List.mem_cons_of_mem _ hp))⟩
theorem fresh_ge {S : Nat → Prop} {lo : Nat} : ∀ {ps : List (Bool × List (CK × Bool))} {ds : List DV} {qs : List (Option Nat)} {vs : List Value}, ResL T w S lo ps ds qs vs → ∀ x, some x ∈ qs → lo ≤ x
 | [], ds, qs, vs, h, x, hx => by rw [h.2.1] at hx; cases hx
 | p :: ps, ds, qs, vs, h, x, hx => by
  obtain ⟨v, vs', h1, h2, h3⟩ := h
  have hC : ∀ k d v, ResC T w S lo k d v (some x) → lo ≤ x := fun k d v hc => by
   rcases hc with ⟨_, h, _⟩ | ⟨_, _, _, _, _, _, _, _, _, h⟩
   ·cases h
   ·rcases h with ⟨h, _⟩ | ⟨b, _, _, _, _, _, g1, _, _, _, g5, _⟩
    ·cases h
    ·cases g1; exact g5
  rw [← List.take_append_drop p.2.length qs] at hx
  rcases List.mem_append.1 hx with hx | hx
  ·obtain ⟨l1, l2, h2⟩ := h2
   obtain ⟨j, hj⟩ := List.mem_iff_getElem?.1 hx
   have hjl := (List.getElem?_eq_some_iff.1 hj).1
   rcases h2 with ⟨_, a, _, _, h4⟩ | ⟨_, k, d, q, g1, g2, g3, g4⟩
   ·obtain ⟨u, _, hr⟩ := h4 j p.2[j] (ds.take p.2.length)[j] (some x) (List.getElem?_eq_getElem (by omega)) (List.getElem?_eq_getElem (by omega)) hj
    exact hC _ _ _ hr
   ·rw [g3] at hj
    cases j with
    | zero => cases hj; exact hC _ _ _ g4
    | succ j => cases hj
  ·exact fresh_ge h3 x hx
theorem resV_ok {ps : List (Bool × List (CK × Bool))} {vs : List Value} {nb ne : Nat} (hl : vs.length = ps.length) (hl2 : (resL nb ne ps).length = ps.length) (h : ∀ (j : Nat) p v, (resL nb ne ps)[j]? = some p → vs[j]? = some v → PvR T m p v) : SVr T m (resV nb ne ps) (packV vs) := by
 unfold resV packV
 cases hr : resL nb ne ps with
 | nil =>
  have h0 : vs = [] := List.eq_nil_of_length_eq_zero (by rw [hr] at hl2; simp at hl2; omega)
  subst h0
  exact ⟨#[], rfl, rfl, fun j p hj => by cases hj⟩
 | cons p l =>
  rw [hr] at hl2 h
  cases vs with
  | nil => simp at hl hl2; omega
  | cons v vs' =>
   cases l with
   | nil =>
    cases vs' with
    | cons _ _ => simp at hl hl2; omega
    | nil =>
     have := h 0 p v rfl rfl
     simp only
     split
     ·rename_i hp
      rcases this with ⟨_, a, h1, h2⟩ | ⟨h1, _⟩
      ·exact ⟨a, h1, h2⟩
      ·rw [hp] at h1; cases h1
     ·rename_i hp
      rcases this with ⟨h1, _⟩ | ⟨_, c, h1, h2⟩
      ·exact absurd h1 hp
      ·rw [h1]; exact h2
   | cons p2 l2 =>
    cases vs' with
    | nil => simp at hl hl2; omega
    | cons v2 vs2 =>
     refine ⟨(v :: v2 :: vs2).toArray, rfl, by simp at hl hl2 ⊢; omega, fun j p' hj => ?_⟩
     have hjl : j < (v :: v2 :: vs2).length := by
      have := (List.getElem?_eq_some_iff.1 hj).1
      simp at this hl hl2 ⊢; omega
     exact ⟨(v :: v2 :: vs2)[j], by rw [List.getElem?_toArray]; exact List.getElem?_eq_getElem hjl, h j p' _ hj (List.getElem?_eq_getElem hjl)⟩
theorem call_ok (hm : MOk T w0 S0 m) {g f : FuncId} {sg : Sig} {ss : List SV} {vs : List Value} {nb ne : Nat} {out : Out} {rs : List DV} (h : symCall T m.h nb ne g sg ss = some out) (hl : vs.length = ss.length) (hr : ∀ (j : Nat) s v, ss[j]? = some s → vs[j]? = some v → SVr T m s v) (hn : needsOk m.env out.needs)
  (hsp : ∀ es, out.call = some (g, es, resN sg.results) → Sp0 P T sg f (es.map (·.den m.env)) rs) (hrs : ∀ (j : Nat) d, rs[j]? = some d → m.env.getD (ne + j) (.I 0) = d) (hfree : ∀ b, nb ≤ b → b < nb + freshL sg.results → m.h b = .no) (hfr : ∀ us, out.upd = us ++ resLU nb ne sg.results → ∀ b, nb ≤ b → b < nb + freshL sg.results → upl m.h us b = .no) :
  Calls P f vs.toArray m.w fun e w' => ∃ v m', e = .returned v ∧ m'.w = w' ∧ Went T w0 S0 m out.upd m' ∧ SVr T m' out.val v := by
 unfold symCall at h
 cases ha : argsE T m.h sg.params ss with
 | none => rw [ha] at h; cases h
 | some a =>
 obtain ⟨ns, es, us⟩ := a
 rw [ha] at h
 simp only [Option.bind_eq_bind, Option.bind_some, Option.some.injEq] at h
 subst h
 obtain ⟨m1, f1, hargs⟩ := args_ok sg.params ss vs hm ha hl hr hn
 have hcall := hsp es rfl m1.w m1.S vs f1.ok.sz hargs
 rw [f1.w] at hcall
 refine hcall.mono ?_
 rintro e w' ⟨rv, qs, S', rfl, hb, hS', hap, hres⟩
 by_cases hk : keepS T sg.results = true
 ·obtain ⟨k1, k2⟩ := mok_grow hm hb
  have hres2 := hres.imp (S' := m.S) (fun p hp k hkk d v q hc => hc.flat (List.all_eq_true.1 (List.all_eq_true.1 hk p hp) k hkk) (fun q hq => hm.sz q hq))
  have ht : Took T w0 S0 { m with w := w' } m.w.heap.size nb (nb + freshL sg.results) qs := ⟨k2, hm.low.size, hfree, hap, fun b x l hx a => by
    have := (hm.blk b).lt l a
    have := fresh_ge hres2 x hx
    omega⟩
  obtain ⟨m2, g1, g2, g3, g4, g5, g6, g7, g8⟩ := res_take (ne := ne) sg.results rs qs rv ht (Nat.le_refl _) hres2 hrs
  refine ⟨_, m2, rfl, g2, ⟨g1, ?_, k1.trans g4, g5⟩, resV_ok g6 g7 g8⟩
  rw [g3]; simp only [hk, if_true, List.nil_append]
 ·have hS1 : ∀ q, m1.S q → q < m.w.heap.size := fun q hq => by have := f1.ok.sz q hq; rw [f1.w] at this; exact this
  obtain ⟨k1, k2⟩ := mok_more (S' := fun q => m1.S q ∨ S' q) f1.ok (by rw [f1.w]; exact hb) (fun q hq => .inl hq) (fun q hq => by
    rw [f1.w]
    rcases hq with hq | hq
    · exact ⟨.inl hq, Nat.lt_of_lt_of_le (hS1 q hq) hb.size⟩
    · exact hS' q hq)
  have hres2 := hres.imp (S' := fun q => m1.S q ∨ S' q) (fun p hp k hkk d v q hc => hc.more (fun q hq => .inr hq) (fun q hq => by
    rcases hq with hq | hq
    · exact .inr (hS1 q hq)
    · exact .inl hq))
  have ht : Took T w0 S0 { m1 with w := w', S := fun q => m1.S q ∨ S' q } m.w.heap.size nb (nb + freshL sg.results) qs := ⟨k2, hm.low.size, fun b hb' hb2 => by
    have := hfr us (by simp only [hk, if_false]; rfl) b hb' hb2
    simp only [f1.h]; exact this, hap, fun b x l hx a => by
    have h1 := (f1.ok.blk b).lt l a
    rw [f1.w] at h1
    have := fresh_ge hres2 x hx
    omega⟩
  obtain ⟨m2, g1, g2, g3, g4, g5, g6, g7, g8⟩ := res_take (ne := ne) sg.results rs qs rv ht (Nat.le_refl _) hres2 (by simp only [f1.env]; exact hrs)
  refine ⟨_, m2, rfl, g2, ⟨g1.trans f1.env, ?_, (f1.keep.trans k1).trans g4, g5⟩, resV_ok g6 g7 g8⟩
  rw [g3]; simp only [hk, f1.h, upl_append]; rfl
end
def okE (n : Nat) (es : List E) (p e : E) : Bool := match p with
 | .V k => if n ≤ k then es[k - n]? == some e else decide (p = e)
 | _ => decide (p = e) && p.bd n
abbrev Ren := List (Nat × Option Nat)
def Blk.arrd : Blk → Bool
 | .arr _ _ _ => true
 | _ => false
def Blk.boxd : Blk → Bool
 | .box _ => true
 | _ => false
def okC (T : Tab) (n : Nat) (es : List E) (β : Ren) (h h' : Nat → Blk) : CV → CV → Bool
 | .any, _ => true
 | .c k p, .c k' e => decide (k = k') && okE n es p e
 | .c (.lst el) p, .nl => (T.cks el).isSome && okE n es p .N
 | .c (.lst el) p, .own b' el' => decide (el = el') && (match h' b' with | .arr el2 e true => decide (el = el2) && okE n es p e | _ => false)
 | .nl, .nl => true
 | .own b el, .own b' el' => decide (el = el') && (β.lookup b == some (some b') && ((h b).arrd && (h' b').arrd))
 | .own b el, .nl => β.lookup b == some none && (match h b with | .arr el' _ _ => decide (el = el') | _ => false)
 | .sub b el o l, .sub b' el' o' l' => decide (el = el') && (β.lookup b == some (some b') && (((h b).arrd && (h' b').arrd) && (okE n es o o' && okE n es l l')))
 | .rp b off, .rp b' off' => decide (off = off') && (β.lookup b == some (some b') && ((h b).boxd && (h' b').boxd))
 | .fn f, .fn g => decide (f = g)
 | _, _ => false
def okL (T : Tab) (n : Nat) (es : List E) (β : Ren) (h h' : Nat → Blk) : List CV → List CV → Bool
 | [], [] => true
 | p :: ps, c :: cs => okC T n es β h h' p c && okL T n es β h h' ps cs
 | _, _ => false
def okS (T : Tab) (n : Nat) (es : List E) (β : Ren) (h h' : Nat → Blk) : SV → SV → Bool
 | .one .any, _ => true
 | .one p, .one c => okC T n es β h h' p c
 | .agg l, .agg l' => okL T n es β h h' l l'
 | p, q => decide (p = q) && (match p with | .tup [] => true | _ => false)
def okB (T : Tab) (n : Nat) (es : List E) (β : Ren) (h h' : Nat → Blk) (b : Nat) : Blk → Bool
 | .no => true
 | .dead => true
 | .box l => match β.lookup b with
  | some (some b') => match h' b' with
   | .box l' => okL T n es β h h' l l'
   | _ => false
  | _ => false
 | .arr el p fz => match β.lookup b with
  | some (some b') => match h' b' with
   | .arr el' e fz' => decide (el = el') && (okE n es p e && decide (fz = fz'))
   | _ => false
  | some none => (T.cks el).isSome && okE n es p .N
  | none => false
def Ren.inj (β : Ren) : Bool := decide ((β.filterMap fun p => p.2).Nodup) && decide ((β.map (·.1)).Nodup)
section
variable {P : Program} {T : Tab} {w0 : W0} {S0 : Nat → Prop}
theorem lookup_mem {α : Type} {l : List (Nat × α)} {b : Nat} {v : α} (h : l.lookup b = some v) : (b, v) ∈ l := by
 induction l with
 | nil => cases h
 | cons p l ih =>
  obtain ⟨k, y⟩ := p
  rw [List.lookup_cons] at h
  split at h
  ·rename_i hk
   cases h
   rw [eq_of_beq hk]
   exact List.mem_cons_self ..
  ·exact List.mem_cons_of_mem _ (ih h)
theorem okE_den {env x : List DV} {es : List E} {n : Nat} {p e : E} (hn : env.length = n) (h : okE n es p e = true) : p.den (env ++ es.map (·.den (env ++ x))) = e.den (env ++ x) := by
 have closed : p = e → p.bd n = true → p.den (env ++ es.map (·.den (env ++ x))) = e.den (env ++ x) := fun h1 h2 => by
  subst h1
  rw [E.den_ext env _ p (by rw [hn]; exact h2), E.den_ext env x p (by rw [hn]; exact h2)]
 unfold okE at h
 split at h
 ·rename_i k
  split at h
  ·rename_i hk
   simp only [beq_iff_eq] at h
   simp only [E.den]
   rw [List.getD_eq_getElem?_getD, List.getElem?_append_right (by omega), hn, List.getElem?_map, h]
   rfl
  ·rename_i hk
   exact closed (of_decide_eq_true h) (by simp [E.bd]; omega)
 ·simp only [Bool.and_eq_true, decide_eq_true_eq] at h
  exact closed h.1 h.2
def renM (m : Mem) (env : List DV) (β : Ren) (h : Nat → Blk) : Mem :=
 { m with env := env, ρ := fun b => match β.lookup b with | some (some b') => m.ρ b' | _ => none, h := h }
variable {m : Mem} {env x e' : List DV} {es : List E} {n b b' q : Nat} {β : Ren} {ha hc : Nat → Blk}
theorem okC_cv (hn : env.length = n) (he : m.env = env ++ x) (hm : ∀ b, BlkR T m b (m.h b)) (hh : m.h = hc) {p c : CV} {v : Value} (h : okC T n es β ha hc p c = true) (hb : ∀ b, okB T n es β ha hc b (ha b) = true) (hv : CVr T m c v) :
  CVr T (renM m (env ++ es.map (·.den (env ++ x))) β ha) p v := by
 have hE : ∀ {p e : E}, okE n es p e = true → p.den (env ++ es.map (·.den (env ++ x))) = e.den m.env := fun h => by rw [he]; exact okE_den hn h
 have slr : ∀ {b b' el o l cap v}, β.lookup b = some (some b') → SlR T m b' el o l cap v → SlR T (renM m (env ++ es.map (·.den (env ++ x))) β ha) b el o l cap v := fun hb h => by
  unfold SlR renM at *
  simp only [hb]
  exact h
 have arr_of : ∀ {b b' : Nat}, (ha b).arrd = true → (hc b').arrd = true → β.lookup b = some (some b') → ∃ el p e fz, ha b = .arr el p fz ∧ hc b' = .arr el e fz ∧ okE n es p e = true := fun {b b'} h1 h2 h3 => by
  have hbb := hb b
  cases hx : ha b with
  | arr el p fz =>
   cases hy : hc b' with
   | arr el' e fz' =>
    rw [hx] at hbb
    simp only [okB, h3, hy, Bool.and_eq_true, decide_eq_true_eq] at hbb
    obtain ⟨rfl, hb2, rfl⟩ := hbb
    exact ⟨_, _, _, _, rfl, rfl, hb2⟩
   | _ => rw [hy] at h2; cases h2
  | _ => rw [hx] at h1; cases h1
 unfold okC at h
 split at h
 ·trivial
 ·simp only [Bool.and_eq_true, decide_eq_true_eq] at h
  obtain ⟨rfl, h⟩ := h
  show Rd T m.w m.S _ (E.den (env ++ es.map (·.den (env ++ x))) _) _
  rw [hE h]
  exact hv
 ·rename_i el p
  simp only [Bool.and_eq_true] at h
  obtain ⟨h1, h2⟩ := h
  obtain ⟨cks, hk⟩ := Option.isSome_iff_exists.1 h1
  rw [show v = _ from hv]
  show Rd T m.w m.S _ (E.den (env ++ es.map (·.den (env ++ x))) _) _
  rw [hE h2]
  exact Rd.lst (q := 0) (o := 0) (fun _ _ => .bool true) hk (by simp) (by simp) (fun h => absurd rfl h) (by simp) (fun i j hi => by simp at hi) (fun i j r d k hi => by simp at hi)
 ·rename_i el p b' el'
  simp only [Bool.and_eq_true, decide_eq_true_eq] at h
  obtain ⟨rfl, h2⟩ := h
  split at h2
  case h_2 => cases h2
  rename_i el2 e hy
  simp only [Bool.and_eq_true, decide_eq_true_eq] at h2
  obtain ⟨rfl, h3⟩ := h2
  show Rd T m.w m.S _ (E.den (env ++ es.map (·.den (env ++ x))) _) _
  rw [hE h3]
  rcases hv with hv | ⟨e2, fz2, rows, cap, g1, g2, g3⟩
  ·rw [hh, hy] at hv; cases hv
  have g1' := g1
  rw [hh, hy] at g1'
  cases g1'
  have := froze_rd hm g1 g2 (Nat.le_of_eq (Nat.zero_add _)) g3
  simp only [List.drop_zero, List.take_length] at this
  rw [g2]
  exact this
 ·exact hv
 ·rename_i b el b' el'
  simp only [Bool.and_eq_true, decide_eq_true_eq, beq_iff_eq] at h
  obtain ⟨rfl, h2, h3, h4⟩ := h
  obtain ⟨el2, p, e2, fz2, k1, k2, k3⟩ := arr_of h3 h4 h2
  rcases hv with hv | ⟨e, fz, rows, cap, g1, g2, g3⟩
  ·rw [hh, k2] at hv; cases hv
  rw [hh, k2] at g1
  cases g1
  exact .inr ⟨p, _, rows, cap, k1, (hE k3).trans g2, slr h2 g3⟩
 ·rename_i b el
  simp only [Bool.and_eq_true, beq_iff_eq] at h
  obtain ⟨h1, h2⟩ := h
  have hbb := hb b
  cases hx : ha b with
  | arr el2 p fz =>
   rw [hx] at hbb h2
   simp only [decide_eq_true_eq] at h2
   subst h2
   simp only [okB, h1, Bool.and_eq_true] at hbb
   refine .inr ⟨p, fz, [], 0, hx, (hE hbb.2).trans rfl, ?_⟩
   unfold SlR renM
   simp only [h1]
   exact ⟨trivial, rfl, hv⟩
  | _ => rw [hx] at h2; cases h2
 ·rename_i b el o l b' el' o' l'
  simp only [Bool.and_eq_true, decide_eq_true_eq, beq_iff_eq] at h
  obtain ⟨rfl, h2, ⟨h3, h4⟩, h5, h6⟩ := h
  obtain ⟨el2, p, e2, fz2, k1, k2, k3⟩ := arr_of h3 h4 h2
  rcases hv with hv | ⟨e, fz, cap, oo, ll, g1, g2, g3, g4, g5⟩
  ·rw [hh, k2] at hv; cases hv
  rw [hh, k2] at g1
  cases g1
  exact .inr ⟨p, _, cap, oo, ll, k1, (hE h5).trans g2, (hE h6).trans g3, slr h2 g4, g5⟩
 ·rename_i b off b' off'
  simp only [Bool.and_eq_true, decide_eq_true_eq, beq_iff_eq] at h
  obtain ⟨rfl, h2, h3, h4⟩ := h
  cases hx : ha b with
  | box l =>
   cases hy : hc b' with
   | box l' =>
    rcases hv with hv | ⟨l2, q, cs, g1, g2, g3⟩
    ·rw [hh, hy] at hv; cases hv
    exact .inr ⟨l, q, cs, hx, by unfold renM; simp only [h2]; exact g2, g3⟩
   | _ => rw [hy] at h4; cases h4
  | _ => rw [hx] at h3; cases h3
 ·simp only [decide_eq_true_eq] at h
  subst h; exact hv
 ·cases h
theorem okL_cs (hn : env.length = n) (he : m.env = env ++ x) (hm : ∀ b, BlkR T m b (m.h b)) (hh : m.h = hc) (hb : ∀ b, okB T n es β ha hc b (ha b) = true) : ∀ {ps cs : List CV} {vs : List Value}, okL T n es β ha hc ps cs = true → CsR T m cs vs → CsR T (renM m (env ++ es.map (·.den (env ++ x))) β ha) ps vs
 | [], [], vs, h, hv => ⟨hv.1, fun j c hj => by cases hj⟩
 | [], _ :: _, _, h, _ => by cases h
 | _ :: _, [], _, h, _ => by cases h
 | p :: ps, c :: cs, [], h, hv => by have := hv.1; cases this
 | p :: ps, c :: cs, v :: vs, h, hv => by
  simp only [okL, Bool.and_eq_true] at h
  obtain ⟨u, h1, h2, h3⟩ := hv.2 0 c rfl
  cases h1
  have ih := okL_cs hn he hm hh hb (ps := ps) (cs := cs) (vs := vs) h.2 ⟨by have := hv.1; simpa using this, fun j c' hj => hv.2 (j + 1) c' hj⟩
  refine ⟨by simp [ih.1], fun j c' hj => ?_⟩
  cases j with
  | zero => cases hj; exact ⟨v, rfl, h2, okC_cv hn he hm hh h.1 hb h3⟩
  | succ j => exact ih.2 j c' hj
theorem okS_sv (hn : env.length = n) (he : m.env = env ++ x) (hm : ∀ b, BlkR T m b (m.h b)) (hh : m.h = hc) (hb : ∀ b, okB T n es β ha hc b (ha b) = true) {p s : SV} {v : Value} (h : okS T n es β ha hc p s = true) (hv : SVr T m s v) : SVr T (renM m (env ++ es.map (·.den (env ++ x))) β ha) p v := by
 unfold okS at h
 split at h
 ·trivial
 ·exact okC_cv hn he hm hh h hb hv
 ·obtain ⟨a, h1, h2⟩ := hv
  exact ⟨a, h1, okL_cs hn he hm hh hb h h2⟩
 ·simp only [Bool.and_eq_true, decide_eq_true_eq] at h
  obtain ⟨rfl, h⟩ := h
  split at h
  ·obtain ⟨a, h1, h2, _⟩ := hv
   exact ⟨a, h1, h2, fun j p hj => by cases hj⟩
  ·cases h
theorem nodup_at : ∀ {β : Ren} {b c : Nat} {d : Nat}, (β.filterMap fun p => p.2).Nodup → (b, some d) ∈ β → (c, some d) ∈ β → (β.map (·.1)).Nodup → b = c
 | [], _, _, _, _, h, _, _ => by cases h
 | (k, v) :: β, b, c, d, hn, hb, hc, hk => by
  have hk2 := (List.nodup_cons.1 hk).2
  cases v with
  | none =>
   simp only [List.filterMap_cons] at hn
   rcases List.mem_cons.1 hb with hb | hb
   ·cases hb
   ·rcases List.mem_cons.1 hc with hc | hc
    ·cases hc
    ·exact nodup_at hn hb hc hk2
  | some y =>
   simp only [List.filterMap_cons] at hn
   obtain ⟨hn1, hn2⟩ := List.nodup_cons.1 hn
   have hmem : ∀ {z : Nat}, (z, some y) ∈ β → False := fun hz => hn1 (List.mem_filterMap.2 ⟨_, hz, rfl⟩)
   rcases List.mem_cons.1 hb with hb1 | hb1 <;> rcases List.mem_cons.1 hc with hc1 | hc1
   ·cases hb1; cases hc1; rfl
   ·cases hb1; exact (hmem hc1).elim
   ·cases hc1; exact (hmem hb1).elim
   ·exact nodup_at hn2 hb1 hc1 hk2
theorem ren_at (h : (renM m e' β ha).at_ b = some q) : ∃ b', β.lookup b = some (some b') ∧ m.at_ b' = some q := by
 simp only [Mem.at_, renM] at h
 split at h
 ·rename_i b' hl; exact ⟨b', hl, h⟩
 ·cases h
theorem ren_live (hbb : okB T n es β ha hc b (ha b) = true) (h1 : β.lookup b = some (some b')) (h2 : (ha b).live = true) : (hc b').live = true ∧ (hc b').frz = (ha b).frz := by
 cases hx : ha b with
 | no => rw [hx] at h2; cases h2
 | dead => rw [hx] at h2; cases h2
 | box l =>
  rw [hx] at hbb
  simp only [okB, h1] at hbb
  split at hbb
  ·rename_i hy; rw [hy]; exact ⟨rfl, rfl⟩
  ·cases hbb
 | arr el p fz =>
  rw [hx] at hbb
  simp only [okB, h1] at hbb
  split at hbb
  ·rename_i hy
   simp only [Bool.and_eq_true, decide_eq_true_eq] at hbb
   rw [hy, hbb.2.2]; exact ⟨rfl, rfl⟩
  ·cases hbb
theorem ren_min (hn : env.length = n) (he : m.env = env ++ x) (hm : MIn T m) (hh : m.h = hc) (hi : β.inj = true) (hb : ∀ b, okB T n es β ha hc b (ha b) = true) : MIn T (renM m (env ++ es.map (·.den (env ++ x))) β ha) := by
 unfold Ren.inj at hi
 simp only [Bool.and_eq_true, decide_eq_true_eq] at hi
 refine ⟨fun b => ?_, fun b b' q l l' a a' => ?_, fun b q l a => ?_, hm.sz⟩
 ·have hbb := hb b
  show BlkR T _ b (ha b)
  cases hx : ha b with
  | no => trivial
  | dead => trivial
  | box l =>
   rw [hx] at hbb
   simp only [okB] at hbb
   split at hbb
   ·rename_i b' hl
    split at hbb
    ·rename_i l' hy
     obtain ⟨q, c, t, g1, g2, g3⟩ : BlkR T m b' (.box l') := by rw [← hy, ← hh]; exact hm.blk b'
     have hc := okL_cs hn he hm.blk hh hb hbb g3
     have hlen : l.length = l'.length := by have := hc.1; have := g3.1; omega
     exact ⟨q, c, t, by unfold renM; simp only [hl]; rw [g1, hlen], g2, hc⟩
    ·cases hbb
   ·cases hbb
  | arr el p fz =>
   rw [hx] at hbb
   simp only [okB] at hbb
   split at hbb
   ·rename_i b' hl
    split at hbb
    ·rename_i el' e fz' hy
     simp only [Bool.and_eq_true, decide_eq_true_eq] at hbb
     obtain ⟨rfl, h2, rfl⟩ := hbb
     obtain ⟨rows, cks, g1, g2, g3, g4, g5⟩ : BlkR T m b' (.arr el e fz) := by rw [← hy, ← hh]; exact hm.blk b'
     refine ⟨rows, cks, ?_, g2, g3, g4, ?_⟩
     ·have := okE_den (x := x) hn h2
      rw [← he, g1] at this
      show p.den (env ++ es.map (·.den (env ++ x))) = _
      rw [← he]; exact this
     ·rcases g5 with ⟨g5, g6⟩ | ⟨q, base, c, t, g5, g6⟩
      ·exact .inl ⟨by unfold renM; simp only [hl]; exact g5, g6⟩
      ·exact .inr ⟨q, base, c, t, by unfold renM; simp only [hl]; exact g5, g6⟩
    ·cases hbb
   ·rename_i hl
    simp only [Bool.and_eq_true] at hbb
    obtain ⟨cks, hk⟩ := Option.isSome_iff_exists.1 hbb.1
    refine ⟨[], cks, ?_, hk, by simp, by simp, .inl ⟨by unfold renM; simp only [hl], rfl⟩⟩
    exact okE_den (x := x) hn hbb.2
   ·cases hbb
 ·obtain ⟨c, h1, h2⟩ := ren_at a
  obtain ⟨c', h3, h4⟩ := ren_at a'
  have l1 := (ren_live (hb b) h1 l).1
  have l2 := (ren_live (hb b') h3 l').1
  have := hm.inj c c' q (by rw [hh]; exact l1) (by rw [hh]; exact l2) h2 h4
  subst this
  exact nodup_at hi.1 (lookup_mem h1) (lookup_mem h3) hi.2
 ·obtain ⟨c, h1, h2⟩ := ren_at a
  obtain ⟨l1, l2⟩ := ren_live (hb b) h1 l
  exact fun hf => hm.new c q (by rw [hh]; exact l1) h2 (by rw [hh, l2]; exact hf)
end
def blkOf (l : List (Nat × Blk)) (b : Nat) : Blk := (l.lookup b).getD .no
def ValsR (T : Tab) (m : Mem) (ss : List SV) (vs : List Value) : Prop := vs.length = ss.length ∧ ∀ (j : Nat) s v, ss[j]? = some s → vs[j]? = some v → SVr T m s v
structure Back (T : Tab) (pt : Pat) (m m' : Mem) (rs : List DV) : Prop where
 env : m'.env = rs
 h : m'.h = blkOf pt.h1
 ok : MIn T m'
 low : Low ⟨m.w, XOf m, fun _ => none⟩ m'.w
 kept : ∀ b, b < pt.kb → m'.ρ b = m.ρ b
 len : ∀ b, b < pt.kb → (∃ l l', blkOf pt.h0 b = .box l ∧ blkOf pt.h1 b = .box l') ∨
  ∃ el e e' rows rows', blkOf pt.h0 b = .arr el e false ∧ blkOf pt.h1 b = .arr el e' false ∧ e.den m.env = .L rows ∧ e'.den rs = .L rows' ∧ rows'.length = rows.length
 new : ∀ b q, (m'.h b).live = true → m'.at_ b = some q → m.w.heap.size ≤ q ∨ XOf m q
 s0 : ∀ q, m.S q → m'.S q
 s1 : ∀ q, m'.S q → m.S q ∨ m.w.heap.size ≤ q ∨ XOf m q
def SpP (P : Program) (T : Tab) (pt : Pat) (f : FuncId) (das rs : List DV) : Prop :=
 ∀ (m : Mem) (vals : List Value), m.env = das → m.h = blkOf pt.h0 → MIn T m → ValsR T m pt.t0 vals →
  Calls P f vals.toArray m.w fun e w' => ∃ vs m', e = .returned (packV vs) ∧ m'.w = w' ∧ ValsR T m' pt.t1 vs ∧ Back T pt m m' rs
def keyF (g : Nat) : Nat := g % 1000000
def Sp (P : Program) (T : Tab) (sg : Sig) (g : FuncId) (das rs : List DV) : Prop := match sg.pat with
 | none => Sp0 P T sg (keyF g) das rs
 | some pt => rs.length = pt.n1 ∧ SpP P T pt (keyF g) das rs
def kvar (f i : Nat) : Nat := i * 1000000 + f
def shC : CV → CV → Bool
 | .own _ _, .own _ _ => true
 | .own _ _, .nl => true
 | .own _ _, _ => false
 | .sub _ _ _ _, .sub _ _ _ _ => true
 | .sub _ _ _ _, _ => false
 | .fn f, .fn g => decide (f = g)
 | .fn _, _ => false
 | _, _ => true
def shS : SV → SV → Bool
 | .one p, .one c => shC p c
 | .agg l, .agg l' => (l.zip l').all fun x => shC x.1 x.2
 | _, _ => true
def fitK (sig : FuncId → Option Sig) (g : Nat) (args : List SV) : Bool := match sig g with
 | none => false
 | some sg => match sg.pat with
  | none => true
  | some pt => (pt.t0.zip args).all fun x => shS x.1 x.2
def pickK (sig : FuncId → Option Sig) (f : Nat) (args : List SV) : Nat :=
 if fitK sig f args then f else if fitK sig (kvar f 1) args then kvar f 1 else if fitK sig (kvar f 2) args then kvar f 2 else f
def adjC (T : Tab) (h : Nat → Blk) : CV → CV → Option (List E × CV × List (Nat × Blk))
 | .c k _, c => (immE T h k c).map fun r => (r.1, .c k r.2.1, r.2.2)
 | _, c => some ([], c, [])
def adjL (T : Tab) : (Nat → Blk) → List CV → List CV → Option (List E × List CV × List (Nat × Blk))
 | _, [], [] => some ([], [], [])
 | h, p :: ps, c :: cs => do
  let (n, c', u) ← adjC T h p c
  let (ns, cs', us) ← adjL T (upl h u) ps cs
  some (n ++ ns, c' :: cs', u ++ us)
 | _, _, _ => none
def adjS (T : Tab) (h : Nat → Blk) : SV → SV → Option (List E × SV × List (Nat × Blk))
 | .one p, .one c => (adjC T h p c).map fun r => (r.1, .one r.2.1, r.2.2)
 | .agg l, .agg l' => (adjL T h l l').map fun r => (r.1, .agg r.2.1, r.2.2)
 | _, _ => none
def adjSs (T : Tab) : (Nat → Blk) → List SV → List SV → Option (List E × List SV × List (Nat × Blk))
 | _, [], [] => some ([], [], [])
 | h, p :: ps, c :: cs => do
  let (n, c', u) ← adjS T h p c
  let (ns, cs', us) ← adjSs T (upl h u) ps cs
  some (n ++ ns, c' :: cs', u ++ us)
 | _, _, _ => none
structure Gu where
 es : List (Nat × E) := []
 β : Ren := []
 us : List (Nat × Blk) := []
def Gu.e (u : Gu) (p e : E) : Gu := match p with
 | .V k => if (u.es.lookup k).isSome then u else { u with es := (k, e) :: u.es }
 | _ => u
def Gu.b (u : Gu) (b : Nat) (b' : Option Nat) : Gu := { u with β := (b, b') :: u.β }
def guC (h0 h : Nat → Blk) : Nat → Gu → CV → CV → Option Gu
 | 0, _, _, _ => none
 | f + 1, u, p, c => match p, c with
  | .c _ p, .c _ e => some (u.e p e)
  | .c _ p, .nl => some (u.e p .N)
  | .c _ p, .own b _ => match h b with
   | .arr el e fz => some { u.e p e with us := (if fz then [] else [(b, .arr el e true)]) ++ u.us }
   | _ => none
  | .own b _, .nl => match h0 b with
   | .arr _ p _ => some ((u.b b none).e p .N)
   | _ => none
  | .own b _, .own b' _ => match h0 b with
   | .arr _ p _ => match h b' with
    | .arr _ e _ => some ((if u.β.lookup b = some (some b') then u else u.b b (some b')).e p e)
    | _ => none
   | _ => none
  | .sub b _ o l, .sub b' _ o' l' => match h0 b with
   | .arr _ p _ => match h b' with
    | .arr _ e _ => some ((((if (u.β.lookup b).isSome then u else u.b b (some b')).e p e).e o o').e l l')
    | _ => none
   | _ => none
  | .rp b _, .rp b' _ => if (u.β.lookup b).isSome then some u else match h0 b with
   | .box l => match h b' with
    | .box l' => (l.zip l').foldlM (fun u x => guC h0 h f u x.1 x.2) (u.b b (some b'))
    | _ => none
   | _ => none
  | .fn _, .fn _ => some u
  | _, _ => none
def cellPs : List SV → List SV → List (CV × CV)
 | .one p :: ps, .one c :: cs => (p, c) :: cellPs ps cs
 | .agg l :: ps, .agg l' :: cs => l.zip l' ++ cellPs ps cs
 | _ :: ps, _ :: cs => cellPs ps cs
 | _, _ => []
def frzChk : (Nat → Blk) → List (Nat × Blk) → Bool
 | _, [] => true
 | h, (b, .arr el e true) :: r => (match h b with | .arr el' e' _ => decide (el = el') && decide (e = e') | _ => false) && frzChk (upf h b (.arr el e true)) r
 | _, _ => false
def okSs (T : Tab) (es : List E) (β : Ren) (h h' : Nat → Blk) : List SV → List SV → Bool
 | [], [] => true
 | p :: ps, s :: ss => okS T 0 es β h h' p s && okSs T es β h h' ps ss
 | _, _ => false
def packE (T : Tab) (h : Nat → Blk) (roots : List (CV × CV)) (t0 : List SV) (h0 : List (Nat × Blk)) (n0 : Nat) (ss : List SV) : Option (List E × List E × Ren × List (Nat × Blk)) := do
 let (ns, ss', us1) ← adjSs T h t0 ss
 let u ← (roots ++ cellPs t0 ss').foldlM (fun u x => guC (blkOf h0) (upl h us1) 5 u x.1 x.2) {}
 let es ← (List.range n0).mapM fun i => u.es.lookup i
 if frzChk (upl h us1) u.us && (u.β.inj && (okSs T es u.β (blkOf h0) (upl (upl h us1) u.us) t0 ss' && h0.all (fun p => okB T 0 es u.β (blkOf h0) (upl (upl h us1) u.us) p.1 (blkOf h0 p.1)))) then
  some (ns, es, u.β, us1 ++ u.us) else none
section
variable {P : Program} {T : Tab} {m m' : Mem} {w0 : W0} {S0 : Nat → Prop} {w : World}
theorem adjC_ok (hm : MOk T w0 S0 m) {p c c' : CV} {v : Value} {ns us} (h : adjC T m.h p c = some (ns, c', us)) (hc : CVr T m c v) (hn : needsOk m.env ns) : ∃ m', Froze T w0 S0 m us m' ∧ CVr T m' c' v := by
 unfold adjC at h
 split at h
 ·rename_i k e
  cases hi : immE T m.h k c with
  | none => rw [hi] at h; cases h
  | some r =>
   obtain ⟨n, e', u⟩ := r
   rw [hi] at h
   cases h
   obtain ⟨m', f, hr⟩ := imm_ok hm hc hi hn
   exact ⟨m', f, by rw [cvr_c, f.env]; exact hr⟩
 ·cases h
  exact ⟨m, Froze.refl hm, hc⟩
theorem adjL_ok : ∀ (ps cs : List CV) (vs : List Value) {m : Mem} {ns cs' us}, MOk T w0 S0 m → adjL T m.h ps cs = some (ns, cs', us) → CsR T m cs vs → needsOk m.env ns → ∃ m', Froze T w0 S0 m us m' ∧ CsR T m' cs' vs
 | [], [], vs, m, ns, cs', us, hm, h, hc, hn => by
  cases h
  exact ⟨m, Froze.refl hm, hc⟩
 | [], _ :: _, _, _, _, _, _, _, h, _, _ => by simp [adjL] at h
 | _ :: _, [], _, _, _, _, _, _, h, _, _ => by simp [adjL] at h
 | p :: ps, c :: cs, [], _, _, _, _, _, _, hc, _ => by have := hc.1; cases this
 | p :: ps, c :: cs, v :: vs, m, ns, cs', us, hm, h, hc, hn => by
  unfold adjL at h
  obtain ⟨⟨n1, c1, u1⟩, h1, h2⟩ := Option.bind_eq_some_iff.1 h
  obtain ⟨⟨n2, c2, u2⟩, h3, h4⟩ := Option.bind_eq_some_iff.1 h2
  cases h4
  obtain ⟨x, hx, hone, hcv⟩ := hc.2 0 c rfl
  cases hx
  obtain ⟨m1, f1, r1⟩ := adjC_ok hm h1 hcv hn.left
  have hc' : CsR T m cs vs := ⟨by have := hc.1; simpa using this, fun j c' hj => hc.2 (j + 1) c' hj⟩
  obtain ⟨m2, f2, r2⟩ := adjL_ok ps cs vs f1.ok (by rw [f1.h]; exact h3) (f1.keep.cs hc') (by rw [f1.env]; exact hn.right)
  refine ⟨m2, f1.trans f2, by simp [r2.1], fun j c' hj => ?_⟩
  cases j with
  | zero => cases hj; exact ⟨v, rfl, hone, f2.keep _ _ r1⟩
  | succ j => exact r2.2 j c' hj
theorem adjS_ok (hm : MOk T w0 S0 m) {p s s' : SV} {v : Value} {ns us} (h : adjS T m.h p s = some (ns, s', us)) (hs : SVr T m s v) (hn : needsOk m.env ns) : ∃ m', Froze T w0 S0 m us m' ∧ SVr T m' s' v := by
 unfold adjS at h
 split at h
 ·rename_i p c
  cases hi : adjC T m.h p c with
  | none => rw [hi] at h; cases h
  | some r =>
   obtain ⟨n, e', u⟩ := r
   rw [hi] at h
   cases h
   exact adjC_ok hm hi hs hn
 ·rename_i l l'
  cases hi : adjL T m.h l l' with
  | none => rw [hi] at h; cases h
  | some r =>
   obtain ⟨n, e', u⟩ := r
   rw [hi] at h
   cases h
   obtain ⟨a, rfl, hc⟩ := hs
   obtain ⟨m', f, r⟩ := adjL_ok _ _ _ hm hi hc hn
   exact ⟨m', f, a, rfl, r⟩
 ·cases h
theorem adjSs_ok : ∀ (ps ss : List SV) (vs : List Value) {m : Mem} {ns ss' us}, MOk T w0 S0 m → adjSs T m.h ps ss = some (ns, ss', us) → ValsR T m ss vs → needsOk m.env ns → ∃ m', Froze T w0 S0 m us m' ∧ ValsR T m' ss' vs
 | [], [], vs, m, ns, ss', us, hm, h, hc, hn => by
  cases h
  exact ⟨m, Froze.refl hm, hc⟩
 | [], _ :: _, _, _, _, _, _, _, h, _, _ => by simp [adjSs] at h
 | _ :: _, [], _, _, _, _, _, _, h, _, _ => by simp [adjSs] at h
 | p :: ps, s :: ss, [], _, _, _, _, _, _, hc, _ => by have := hc.1; cases this
 | p :: ps, s :: ss, v :: vs, m, ns, ss', us, hm, h, hc, hn => by
  unfold adjSs at h
  obtain ⟨⟨n1, c1, u1⟩, h1, h2⟩ := Option.bind_eq_some_iff.1 h
  obtain ⟨⟨n2, c2, u2⟩, h3, h4⟩ := Option.bind_eq_some_iff.1 h2
  cases h4
  obtain ⟨m1, f1, r1⟩ := adjS_ok hm h1 (hc.2 0 s v rfl rfl) hn.left
  have hc' : ValsR T m1 ss vs := ⟨by have := hc.1; simpa using this, fun j c' v' hj hv => f1.keep.sv (hc.2 (j + 1) c' v' hj hv)⟩
  obtain ⟨m2, f2, r2⟩ := adjSs_ok ps ss vs f1.ok (by rw [f1.h]; exact h3) hc' (by rw [f1.env]; exact hn.right)
  refine ⟨m2, f1.trans f2, by simp [r2.1], fun j c' v' hj hv => ?_⟩
  cases j with
  | zero => cases hj; cases hv; exact f2.keep.sv r1
  | succ j => exact r2.2 j c' v' hj hv
theorem frz_ok : ∀ (us : List (Nat × Blk)) {m : Mem}, MOk T w0 S0 m → frzChk m.h us = true → ∃ m', Froze T w0 S0 m us m'
 | [], m, hm, h => ⟨m, Froze.refl hm⟩
 | (b, x) :: r, m, hm, h => by
  unfold frzChk at h
  split at h
  case h_1 e => cases e
  case h_3 => cases h
  rename_i el e r' heq
  cases heq
  simp only [Bool.and_eq_true] at h
  obtain ⟨h1, h2⟩ := h
  split at h1
  case h_2 => cases h1
  rename_i el' e' fz hb
  simp only [Bool.and_eq_true, decide_eq_true_eq] at h1
  obtain ⟨rfl, rfl⟩ := h1
  obtain ⟨S, hS, hS', hK, hM⟩ := mok_freeze hm hb
  have f1 : Froze T w0 S0 m [(b, .arr el e true)] { m with S := S, h := upf m.h b (.arr el e true) } := ⟨rfl, rfl, rfl, rfl, hS, hK, hM⟩
  obtain ⟨m2, f2⟩ := frz_ok r f1.ok h2
  exact ⟨m2, f1.trans f2⟩
theorem okSs_ok {env x : List DV} {es : List E} {β : Ren} {ha hc : Nat → Blk} (he : m.env = x) (hm : ∀ b, BlkR T m b (m.h b)) (hh : m.h = hc) (hb : ∀ b, okB T 0 es β ha hc b (ha b) = true) : ∀ {ps ss : List SV} {vs : List Value}, okSs T es β ha hc ps ss = true → ValsR T m ss vs → ValsR T (renM m (es.map (·.den x)) β ha) ps vs
 | [], [], vs, h, hv => ⟨hv.1, fun j s v hs => by cases hs⟩
 | [], _ :: _, _, h, _ => by cases h
 | _ :: _, [], _, h, _ => by cases h
 | p :: ps, s :: ss, [], _, hv => by have := hv.1; cases this
 | p :: ps, s :: ss, v :: vs, h, hv => by
  simp only [okSs, Bool.and_eq_true] at h
  have ih := okSs_ok he hm hh hb (env := env) (ps := ps) (ss := ss) (vs := vs) h.2 ⟨by have := hv.1; simpa using this, fun j s' v' hj hv' => hv.2 (j + 1) s' v' hj hv'⟩
  refine ⟨by simp [ih.1], fun j s' v' hj hv' => ?_⟩
  cases j with
  | zero => cases hj; cases hv'; exact okS_sv (env := []) (x := x) rfl he hm hh hb h.1 (hv.2 0 s v rfl rfl)
  | succ j => exact ih.2 j s' v' hj hv'
theorem mapM_len {α β : Type} {f : α → Option β} : ∀ {l : List α} {r : List β}, l.mapM f = some r → r.length = l.length
 | [], r, h => by simp at h; subst h; rfl
 | a :: l, r, h => by
  rw [List.mapM_cons] at h
  obtain ⟨b, h1, h2⟩ := Option.bind_eq_some_iff.1 h
  obtain ⟨bs, h3, h4⟩ := Option.bind_eq_some_iff.1 h2
  cases h4
  simp [mapM_len h3]
theorem pack_ok (hm : MOk T w0 S0 m) {roots} {t0 : List SV} {h0 : List (Nat × Blk)} {n0 : Nat} {ss : List SV} {vs : List Value} {ns es β us} (h : packE T m.h roots t0 h0 n0 ss = some (ns, es, β, us)) (hr : ValsR T m ss vs) (hn : needsOk m.env ns) :
  ∃ m1, Froze T w0 S0 m us m1 ∧ MIn T (renM m1 (es.map (·.den m.env)) β (blkOf h0)) ∧ ValsR T (renM m1 (es.map (·.den m.env)) β (blkOf h0)) t0 vs ∧ β.inj = true ∧ (∀ b, okB T 0 es β (blkOf h0) m1.h b (blkOf h0 b) = true) ∧ es.length = n0 := by
 unfold packE at h
 obtain ⟨⟨n1, s1, u1⟩, h1, h2⟩ := Option.bind_eq_some_iff.1 h
 obtain ⟨u, h3, h4⟩ := Option.bind_eq_some_iff.1 h2
 obtain ⟨es', h5, h6⟩ := Option.bind_eq_some_iff.1 h4
 split at h6
 case isFalse => cases h6
 rename_i hc
 cases h6
 simp only [Bool.and_eq_true] at hc
 obtain ⟨c1, c2, c3, c4⟩ := hc
 obtain ⟨m1, f1, r1⟩ := adjSs_ok _ _ _ hm h1 hr hn
 obtain ⟨m2, f2⟩ := frz_ok u.us f1.ok (by rw [f1.h]; exact c1)
 have hb : ∀ b, okB T 0 es u.β (blkOf h0) m2.h b (blkOf h0 b) = true := fun b => by
  rw [f2.h, f1.h]
  cases hl : h0.lookup b with
  | none => unfold blkOf; rw [hl]; rfl
  | some y => exact List.all_eq_true.1 c4 (b, y) (lookup_mem hl)
 have henv : m2.env = m.env := f2.env.trans f1.env
 have r2 : ValsR T m2 s1 vs := ⟨r1.1, fun j s v hs hv => f2.keep.sv (r1.2 j s v hs hv)⟩
 refine ⟨m2, f1.trans f2, ren_min (env := []) (x := m.env) rfl henv f2.ok.min rfl c2 hb, okSs_ok (env := []) henv f2.ok.blk rfl hb (by rw [f2.h, f1.h]; exact c3) r2, c2, hb, ?_⟩
 exact (mapM_len h5).trans (by simp)
end
def nextB (nb : Nat) (l : List (Nat × Blk)) : Nat := l.foldl (fun n p => max n (p.1 + 1)) nb
theorem nextB_ge : ∀ (l : List (Nat × Blk)) (nb : Nat), nb ≤ nextB nb l ∧ ∀ p ∈ l, p.1 < nextB nb l
 | [], nb => ⟨Nat.le_refl _, fun p hp => by cases hp⟩
 | x :: l, nb => by
  have h := nextB_ge l (max nb (x.1 + 1))
  refine ⟨Nat.le_trans (Nat.le_max_left ..) h.1, fun p hp => ?_⟩
  rcases List.mem_cons.1 hp with rfl | hp
  ·exact Nat.lt_of_lt_of_le (Nat.lt_of_lt_of_le (Nat.lt_succ_self _) (Nat.le_max_right nb _)) h.1
  ·exact h.2 p hp
def jOf (β : Ren) (kb nb j : Nat) : Nat := if j < kb then (match β.lookup j with | some (some b) => b | _ => 0) else nb + (j - kb)
def renC (J : Nat → Nat) (ne n1 : Nat) : CV → Option CV
 | .c k (.V j) => if j < n1 then some (.c k (.V (ne + j))) else none
 | .own b el => some (.own (J b) el)
 | .sub b el (.V i) (.V j) => if i < n1 ∧ j < n1 then some (.sub (J b) el (.V (ne + i)) (.V (ne + j))) else none
 | .rp b o => some (.rp (J b) o)
 | _ => none
def renL (J : Nat → Nat) (ne n1 : Nat) : List CV → Option (List CV)
 | [] => some []
 | c :: cs => do
  let c' ← renC J ne n1 c
  let cs' ← renL J ne n1 cs
  some (c' :: cs')
def renB (J : Nat → Nat) (ne n1 : Nat) : Blk → Option Blk
 | .box l => (renL J ne n1 l).map .box
 | .arr el (.V j) false => if j < n1 then some (.arr el (.V (ne + j)) false) else none
 | _ => none
def renS (J : Nat → Nat) (ne n1 : Nat) : SV → Option SV
 | .one c => (renC J ne n1 c).map .one
 | .agg l => (renL J ne n1 l).map .agg
 | _ => none
def renSs (J : Nat → Nat) (ne n1 : Nat) : List SV → Option (List SV)
 | [] => some []
 | c :: cs => do
  let c' ← renS J ne n1 c
  let cs' ← renSs J ne n1 cs
  some (c' :: cs')
def renH (J : Nat → Nat) (ne n1 : Nat) : List (Nat × Blk) → Option (List (Nat × Blk))
 | [] => some []
 | (b, x) :: r => do
  let x' ← renB J ne n1 x
  let r' ← renH J ne n1 r
  some ((J b, x') :: r')
def packS (l : List SV) : SV := match l with
 | [s] => s
 | l => .tup (l.map fun s => match s with
   | .agg l => (true, l)
   | .one c => (false, [c])
   | .tup _ => (false, [.any]))
def goneL (kb : Nat) (β : Ren) : List (Nat × Blk) := β.filterMap fun p => if p.1 < kb then none else p.2.map fun b => (b, Blk.dead)
def symCallP (T : Tab) (h : Nat → Blk) (nb ne : Nat) (f : FuncId) (pt : Pat) (ss : List SV) : Option Out := do
 let (ns, es, β, us) ← packE T h [] pt.t0 pt.h0 pt.n0 ss
 let t1 ← renSs (jOf β pt.kb nb) ne pt.n1 pt.t1
 let h1 ← renH (jOf β pt.kb nb) ne pt.n1 pt.h1
 if decide (h1.map (·.1)).Nodup && ((List.range pt.kb).all fun j => (match β.lookup j with | some (some b) => decide (b < nb) | _ => false) && (pt.h1.lookup j).isSome) && us.all (fun u => decide (u.1 < nb)) && β.all (fun p => match p.2 with | some b => decide (b < nb) | none => true) && pt.h0.all (fun p => !p.2.frz) then
  some { needs := ns, call := some (f, es, pt.n1), val := packS t1, upd := us ++ (goneL pt.kb β ++ h1) } else none
section
variable {P : Program} {T : Tab} {m m' : Mem} {w0 : W0} {S0 : Nat → Prop} {w : World}
theorem upl_not : ∀ (us : List (Nat × Blk)) {h : Nat → Blk} {b : Nat}, b ∉ us.map (·.1) → upl h us b = h b
 | [], _, _, _ => rfl
 | (b', x) :: us, h, b, hb => by
  rw [upl, upl_not us (fun e => hb (List.mem_cons_of_mem _ e))]
  exact upf_ne _ _ (fun e => hb (by rw [e]; exact List.mem_cons_self ..))
theorem upl_mem : ∀ (us : List (Nat × Blk)) {h : Nat → Blk} {b : Nat} {x : Blk}, (us.map (·.1)).Nodup → (b, x) ∈ us → upl h us b = x
 | [], _, _, _, _, h => by cases h
 | (b', x') :: us, h, b, x, hn, hb => by
  rw [List.map_cons, List.nodup_cons] at hn
  rcases List.mem_cons.1 hb with hb | hb
  ·cases hb
   rw [upl, upl_not us hn.1]
   exact upf_same _ _ _
  ·rw [upl]; exact upl_mem us hn.2 hb
theorem upl_dead : ∀ (us : List (Nat × Blk)) {h : Nat → Blk} {b : Nat}, (∀ p ∈ us, p.2 = .dead) → b ∈ us.map (·.1) → upl h us b = .dead
 | [], _, _, _, h => by cases h
 | (b', x) :: us, h, b, hd, hb => by
  rw [upl]
  by_cases e : b ∈ us.map (·.1)
  ·exact upl_dead us (fun p hp => hd p (List.mem_cons_of_mem _ hp)) e
  ·rw [upl_not us e]
   rw [List.map_cons] at hb
   rcases List.mem_cons.1 hb with hb | hb
   ·subst hb
    have := hd (b, x) (List.mem_cons_self ..)
    simp only at this
    subst this
    exact upf_same _ _ _
   ·exact absurd hb e
theorem renH_mem {J : Nat → Nat} {ne n1 : Nat} : ∀ {l l' : List (Nat × Blk)}, renH J ne n1 l = some l' → (∀ j x, l.lookup j = some x → ∃ x', renB J ne n1 x = some x' ∧ (J j, x') ∈ l') ∧ ∀ b x', (b, x') ∈ l' → ∃ j x, (j, x) ∈ l ∧ J j = b ∧ renB J ne n1 x = some x'
 | [], l', h => by cases h; exact ⟨fun j x h => (by cases h), fun b x h => (by cases h)⟩
 | (b, x) :: r, l', h => by
  unfold renH at h
  obtain ⟨x', h1, h2⟩ := Option.bind_eq_some_iff.1 h
  obtain ⟨r', h3, h4⟩ := Option.bind_eq_some_iff.1 h2
  cases h4
  obtain ⟨k1, k2⟩ := renH_mem h3
  refine ⟨fun j y hj => ?_, fun c y hc => ?_⟩
  ·rw [List.lookup_cons] at hj
   split at hj
   ·rename_i he
    cases hj
    rw [eq_of_beq he]
    exact ⟨x', h1, List.mem_cons_self ..⟩
   ·obtain ⟨y', g1, g2⟩ := k1 j y hj
    exact ⟨y', g1, List.mem_cons_of_mem _ g2⟩
  ·rcases List.mem_cons.1 hc with hc | hc
   ·cases hc; exact ⟨b, x, List.mem_cons_self .., rfl, h1⟩
   ·obtain ⟨j, y', g1, g2, g3⟩ := k2 c y hc
    exact ⟨j, y', List.mem_cons_of_mem _ g1, g2, g3⟩
structure Shift (T : Tab) (J : Nat → Nat) (ne n1 : Nat) (m' mn : Mem) : Prop where
 w : mn.w = m'.w
 S : mn.S = m'.S
 len : m'.env.length = n1
 env : ∀ (j : Nat) d, m'.env[j]? = some d → mn.env.getD (ne + j) (.I 0) = d
 h : ∀ j, m'.h j ≠ .no → ∃ x, renB J ne n1 (m'.h j) = some x ∧ mn.h (J j) = x
 ρ : ∀ j, m'.h j ≠ .no → mn.ρ (J j) = m'.ρ j
section
variable {J : Nat → Nat} {ne n1 : Nat} {mn : Mem}
theorem Shift.e (s : Shift T J ne n1 m' mn) {j : Nat} (hj : j < n1) : (E.V (ne + j)).den mn.env = (E.V j).den m'.env := by
 have hl : j < m'.env.length := by rw [s.len]; exact hj
 simp only [E.den]
 rw [s.env j _ (List.getElem?_eq_getElem hl), List.getD_eq_getElem?_getD, List.getElem?_eq_getElem hl]
 rfl
theorem Shift.cv (s : Shift T J ne n1 m' mn) {c c' : CV} {v : Value} (h : renC J ne n1 c = some c') (hc : CVr T m' c v) : CVr T mn c' v := by
 unfold renC at h
 split at h
 ·split at h
  case isFalse => cases h
  rename_i hj
  cases h
  rw [cvr_c] at hc ⊢
  rw [s.e hj, s.w, s.S]; exact hc
 ·rename_i b el
  cases h
  rcases hc with hc | ⟨e, fz, rows, cap, h1, h2, h3⟩
  ·obtain ⟨x, g1, g2⟩ := s.h b (by rw [hc]; simp)
   rw [hc] at g1; cases g1
  ·obtain ⟨x, g1, g2⟩ := s.h b (by rw [h1]; simp)
   have g3 := s.ρ b (by rw [h1]; simp)
   rw [h1] at g1
   unfold renB at g1
   split at g1
   ·rename_i heq; cases heq
   ·rename_i el2 j heq
    cases heq
    split at g1
    case isFalse => cases g1
    rename_i hj
    cases g1
    refine .inr ⟨_, _, rows, cap, g2, (s.e hj).trans h2, ?_⟩
    unfold SlR at *
    rw [g3]; exact h3
   ·cases g1
 ·rename_i b el i j
  split at h
  case isFalse => cases h
  rename_i hij
  cases h
  rcases hc with hc | ⟨e, fz, cap, o, l, h1, h2, h2', h3, h4⟩
  ·obtain ⟨x, g1, g2⟩ := s.h b (by rw [hc]; simp)
   rw [hc] at g1; cases g1
  ·obtain ⟨x, g1, g2⟩ := s.h b (by rw [h1]; simp)
   have g3 := s.ρ b (by rw [h1]; simp)
   rw [h1] at g1
   unfold renB at g1
   split at g1
   ·rename_i heq; cases heq
   ·rename_i el2 j2 heq
    cases heq
    split at g1
    case isFalse => cases g1
    rename_i hj
    cases g1
    refine .inr ⟨_, _, cap, o, l, g2, (s.e hij.1).trans h2, (s.e hij.2).trans h2', ?_, h4⟩
    unfold SlR at *
    rw [g3]; exact h3
   ·cases g1
 ·rename_i b o
  cases h
  rcases hc with hc | ⟨l, q, cs, h1, h2, h3⟩
  ·obtain ⟨x, g1, g2⟩ := s.h b (by rw [hc]; simp)
   rw [hc] at g1; cases g1
  ·obtain ⟨x, g1, g2⟩ := s.h b (by rw [h1]; simp)
   have g3 := s.ρ b (by rw [h1]; simp)
   rw [h1] at g1
   simp only [renB] at g1
   cases hl : renL J ne n1 l with
   | none => rw [hl] at g1; cases g1
   | some l' =>
    rw [hl] at g1
    cases g1
    exact .inr ⟨l', q, cs, g2, g3.trans h2, h3⟩
 ·cases h
theorem Shift.cs (s : Shift T J ne n1 m' mn) : ∀ {l l' : List CV} {vs : List Value}, renL J ne n1 l = some l' → CsR T m' l vs → CsR T mn l' vs
 | [], l', vs, h, hc => by cases h; exact ⟨hc.1, fun j c hj => by cases hj⟩
 | c :: l, l', [], h, hc => by have := hc.1; cases this
 | c :: l, l', v :: vs, h, hc => by
  unfold renL at h
  obtain ⟨c', h1, h2⟩ := Option.bind_eq_some_iff.1 h
  obtain ⟨r', h3, h4⟩ := Option.bind_eq_some_iff.1 h2
  cases h4
  obtain ⟨u, g1, g2, g3⟩ := hc.2 0 c rfl
  cases g1
  have ih := s.cs h3 (vs := vs) ⟨by have := hc.1; simpa using this, fun j c' hj => hc.2 (j + 1) c' hj⟩
  refine ⟨by simp [ih.1], fun j x hj => ?_⟩
  cases j with
  | zero => cases hj; exact ⟨v, rfl, g2, s.cv h1 g3⟩
  | succ j => exact ih.2 j x hj
theorem Shift.sv (s : Shift T J ne n1 m' mn) {x x' : SV} {v : Value} (h : renS J ne n1 x = some x') (hc : SVr T m' x v) : SVr T mn x' v := by
 unfold renS at h
 split at h
 ·rename_i c
  cases hl : renC J ne n1 c with
  | none => rw [hl] at h; cases h
  | some c' => rw [hl] at h; cases h; exact s.cv hl hc
 ·rename_i l
  cases hl : renL J ne n1 l with
  | none => rw [hl] at h; cases h
  | some c' =>
   rw [hl] at h; cases h
   obtain ⟨a, h1, h2⟩ := hc
   exact ⟨a, h1, s.cs hl h2⟩
 ·cases h
theorem Shift.svs (s : Shift T J ne n1 m' mn) : ∀ {l l' : List SV} {vs : List Value}, renSs J ne n1 l = some l' → ValsR T m' l vs → ValsR T mn l' vs
 | [], l', vs, h, hc => by cases h; exact ⟨hc.1, fun j c v hj => by cases hj⟩
 | c :: l, l', [], h, hc => by have := hc.1; cases this
 | c :: l, l', v :: vs, h, hc => by
  unfold renSs at h
  obtain ⟨c', h1, h2⟩ := Option.bind_eq_some_iff.1 h
  obtain ⟨r', h3, h4⟩ := Option.bind_eq_some_iff.1 h2
  cases h4
  have ih := s.svs h3 (vs := vs) ⟨by have := hc.1; simpa using this, fun j c' v' hj hv => hc.2 (j + 1) c' v' hj hv⟩
  refine ⟨by simp [ih.1], fun j x v' hj hv => ?_⟩
  cases j with
  | zero => cases hj; cases hv; exact s.sv h1 (hc.2 0 c v rfl rfl)
  | succ j => exact ih.2 j x v' hj hv
theorem Shift.blk (s : Shift T J ne n1 m' mn) {b : Nat} {x : Blk} (h : renB J ne n1 (m'.h b) = some x) (hb : BlkR T m' b (m'.h b)) : BlkR T mn (J b) x := by
 have hρ : m'.h b ≠ .no := fun e => by rw [e] at h; cases h
 have g3 := s.ρ b hρ
 generalize m'.h b = y at *
 unfold renB at h
 split at h
 ·rename_i l
  cases hl : renL J ne n1 l with
  | none => rw [hl] at h; cases h
  | some l' =>
   rw [hl] at h; cases h
   obtain ⟨q, c, t, h1, h2, h3⟩ := hb
   have hc := s.cs hl h3
   have : l'.length = l.length := by have := hc.1; have := h3.1; omega
   exact ⟨q, c, t, by rw [g3, h1, this], by rw [s.w]; exact h2, hc⟩
 ·rename_i el j
  split at h
  case isFalse => cases h
  rename_i hj
  cases h
  obtain ⟨rows, cks, h1, h2, h3, h4, h5⟩ := hb
  refine ⟨rows, cks, (s.e hj).trans h1, h2, h3, h4, ?_⟩
  rw [g3, s.w, s.S]; exact h5
 ·cases h
theorem renB_live {x x' : Blk} (h : renB J ne n1 x = some x') : x'.live = x.live ∧ x'.frz = x.frz ∧ x'.live = true := by
 unfold renB at h
 split at h
 ·rename_i l
  cases hl : renL J ne n1 l with
  | none => rw [hl] at h; cases h
  | some l' => rw [hl] at h; cases h; exact ⟨rfl, rfl, rfl⟩
 ·split at h
  ·cases h; exact ⟨rfl, rfl, rfl⟩
  ·cases h
 ·cases h
end
theorem packS_ok {ss : List SV} {vs : List Value} (h : ValsR T m ss vs) (hs : ∀ s ∈ ss, ∀ l, s ≠ .tup l) : SVr T m (packS ss) (packV vs) := by
 obtain ⟨hl, h⟩ := h
 unfold packS packV
 cases ss with
 | nil =>
  cases vs with
  | cons _ _ => cases hl
  | nil => exact ⟨#[], rfl, rfl, fun j p hj => by cases hj⟩
 | cons s r =>
  cases vs with
  | nil => cases hl
  | cons v vs =>
  cases r with
  | nil =>
   cases vs with
   | cons _ _ => simp at hl
   | nil => exact h 0 s v rfl rfl
  | cons s2 r =>
   cases vs with
   | nil => simp at hl
   | cons v2 vs =>
    refine ⟨(v :: v2 :: vs).toArray, rfl, by simp at hl ⊢; omega, fun j p hj => ?_⟩
    rw [List.getElem?_map] at hj
    cases hjs : (s :: s2 :: r)[j]? with
    | none => rw [hjs] at hj; cases hj
    | some x =>
     rw [hjs] at hj
     have hjl : j < (v :: v2 :: vs).length := by
      have := (List.getElem?_eq_some_iff.1 hjs).1
      simp at this hl ⊢; omega
     refine ⟨(v :: v2 :: vs)[j], by rw [List.getElem?_toArray]; exact List.getElem?_eq_getElem hjl, ?_⟩
     have hx := h j x _ hjs (List.getElem?_eq_getElem hjl)
     have hnt := hs x (List.mem_of_getElem? hjs)
     cases x with
     | one c => cases hj; exact .inr ⟨rfl, c, rfl, hx⟩
     | agg l => cases hj; obtain ⟨a, h1, h2⟩ := hx; exact .inl ⟨rfl, a, h1, h2⟩
     | tup l => exact absurd rfl (hnt l)
end
section
variable {P : Program} {T : Tab} {m m1 m' : Mem} {w0 : W0} {S0 : Nat → Prop} {w : World}
theorem renH_inj {J : Nat → Nat} {ne n1 : Nat} : ∀ {l l' : List (Nat × Blk)}, renH J ne n1 l = some l' → (l'.map (·.1)).Nodup → ∀ i j, (l.lookup i).isSome = true → (l.lookup j).isSome = true → J i = J j → i = j
 | [], l', h, hn, i, j, hi, hj, e => by cases hi
 | (b, x) :: r, l', h, hn, i, j, hi, hj, e => by
  unfold renH at h
  obtain ⟨x', h1, h2⟩ := Option.bind_eq_some_iff.1 h
  obtain ⟨r', h3, h4⟩ := Option.bind_eq_some_iff.1 h2
  cases h4
  rw [List.map_cons, List.nodup_cons] at hn
  have key : ∀ k, (r.lookup k).isSome = true → J k ≠ J b := fun k hk e => by
   obtain ⟨y, hy⟩ := Option.isSome_iff_exists.1 hk
   obtain ⟨y', _, hy'⟩ := (renH_mem h3).1 k y hy
   exact hn.1 (List.mem_map.2 ⟨_, hy', e⟩)
  rw [List.lookup_cons] at hi hj
  by_cases ei : i = b
  ·by_cases ej : j = b
   ·rw [ei, ej]
   ·rw [show (j == b) = false by simpa using ej] at hj
    exact absurd (by rw [← e, ei]) (key j hj)
  ·rw [show (i == b) = false by simpa using ei] at hi
   by_cases ej : j = b
   ·exact absurd (by rw [e, ej]) (key i hi)
   ·rw [show (j == b) = false by simpa using ej] at hj
    exact renH_inj h3 hn.2 i j hi hj e
open Classical in
noncomputable def mergeM (m1 m' : Mem) (J : Nat → Nat) (h : Nat → Blk) : Mem :=
 { env := m1.env, w := m'.w, S := m'.S, h := h, ρ := fun b => if hj : ∃ j, m'.h j ≠ .no ∧ J j = b then m'.ρ hj.choose else m1.ρ b }
open Classical in
theorem merge_ρ1 {J : Nat → Nat} {h : Nat → Blk} (hinj : ∀ i j, m'.h i ≠ .no → m'.h j ≠ .no → J i = J j → i = j) (j : Nat) (hj : m'.h j ≠ .no) : (mergeM m1 m' J h).ρ (J j) = m'.ρ j := by
 have hex : ∃ k, m'.h k ≠ .no ∧ J k = J j := ⟨j, hj, rfl⟩
 show (if hj : ∃ k, m'.h k ≠ .no ∧ J k = J j then m'.ρ hj.choose else m1.ρ (J j)) = _
 rw [dif_pos hex]
 obtain ⟨k1, k2⟩ := hex.choose_spec
 rw [hinj _ _ k1 hj k2]
open Classical in
theorem merge_ρ2 {J : Nat → Nat} {h : Nat → Blk} (b : Nat) (hn : ¬ ∃ j, m'.h j ≠ .no ∧ J j = b) : (mergeM m1 m' J h).ρ b = m1.ρ b := by
 show (if hj : ∃ k, m'.h k ≠ .no ∧ J k = b then m'.ρ hj.choose else m1.ρ b) = _
 rw [dif_neg hn]
theorem back_ok (hm1 : MOk T w0 S0 m1) {es : List E} {β : Ren} {pt : Pat} {rs : List DV} {nb ne top : Nat} {h1 : List (Nat × Blk)} (hi : β.inj = true) (hb : ∀ b, okB T 0 es β (blkOf pt.h0) m1.h b (blkOf pt.h0 b) = true)
  (bk : Back T pt (renM m1 (es.map (·.den m1.env)) β (blkOf pt.h0)) m' rs) (hrl : rs.length = pt.n1) (hrs : ∀ (j : Nat) d, rs[j]? = some d → m1.env.getD (ne + j) (.I 0) = d)
  (hh1 : renH (jOf β pt.kb nb) ne pt.n1 pt.h1 = some h1) (c1 : (h1.map (·.1)).Nodup) (c2 : ∀ j, j < pt.kb → ∃ b, β.lookup j = some (some b) ∧ b < nb ∧ (pt.h1.lookup j).isSome = true) (c5 : ∀ p ∈ pt.h0, p.2.frz = false)
  (hfree : ∀ b, nb ≤ b → b < top → m1.h b = .no) (htop : ∀ p ∈ h1, p.1 < top) :
  ∃ mn, mn.env = m1.env ∧ mn.w = m'.w ∧ mn.h = upl m1.h (goneL pt.kb β ++ h1) ∧ Keep T m1 mn ∧ MOk T w0 S0 mn ∧ Shift T (jOf β pt.kb nb) ne pt.n1 m' mn := by
 have hin := hi
 unfold Ren.inj at hin
 simp only [Bool.and_eq_true, decide_eq_true_eq] at hin
 generalize hJ : jOf β pt.kb nb = J at *
 have hDlk : ∀ j, m'.h j ≠ .no → ∃ x, pt.h1.lookup j = some x ∧ m'.h j = x := fun j hj => by
  rw [bk.h] at hj ⊢
  unfold blkOf at hj ⊢
  cases hl : pt.h1.lookup j with
  | none => rw [hl] at hj; exact absurd rfl hj
  | some x => exact ⟨x, rfl, rfl⟩
 have hlkD : ∀ j x, pt.h1.lookup j = some x → m'.h j = x ∧ x ≠ .no := fun j x hl => by
  obtain ⟨x', g1, _⟩ := (renH_mem hh1).1 j x hl
  refine ⟨by rw [bk.h]; unfold blkOf; rw [hl]; rfl, fun e => by rw [e] at g1; cases g1⟩
 have hinj : ∀ i j, m'.h i ≠ .no → m'.h j ≠ .no → J i = J j → i = j := fun i j hi hj e => by
  obtain ⟨x, hx, _⟩ := hDlk i hi
  obtain ⟨y, hy, _⟩ := hDlk j hj
  exact renH_inj hh1 c1 i j (by rw [hx]; rfl) (by rw [hy]; rfl) e
 -- the blocks behind
 have HA : ∀ j, m'.h j ≠ .no → ∃ x, renB J ne pt.n1 (m'.h j) = some x ∧ upl m1.h (goneL pt.kb β ++ h1) (J j) = x := fun j hj => by
  obtain ⟨x, hx, hx2⟩ := hDlk j hj
  obtain ⟨x', g1, g2⟩ := (renH_mem hh1).1 j x hx
  exact ⟨x', by rw [hx2]; exact g1, by rw [upl_append]; exact upl_mem h1 c1 g2⟩
 have HB : ∀ b, (¬ ∃ j, m'.h j ≠ .no ∧ J j = b) → b ∈ (goneL pt.kb β).map (·.1) → upl m1.h (goneL pt.kb β ++ h1) b = .dead := fun b hn hg => by
  rw [upl_append, upl_not h1 (fun hk => ?_)]
  ·exact upl_dead _ (fun p hp => by
     unfold goneL at hp
     obtain ⟨q, _, hq⟩ := List.mem_filterMap.1 hp
     split at hq
     · cases hq
     · cases hq2 : q.2 with
       | none => rw [hq2] at hq; cases hq
       | some b => rw [hq2] at hq; cases hq; rfl) hg
  ·obtain ⟨⟨b', x'⟩, hk1, rfl⟩ := List.mem_map.1 hk
   obtain ⟨j, x, g1, g2, g3⟩ := (renH_mem hh1).2 _ _ hk1
   cases hl : pt.h1.lookup j with
   | none =>
    have := List.lookup_eq_none_iff.1 hl _ g1
    simp at this
   | some y => exact hn ⟨j, by obtain ⟨e1, e2⟩ := hlkD j y hl; rw [e1]; exact e2, g2⟩
 have HC : ∀ b, (¬ ∃ j, m'.h j ≠ .no ∧ J j = b) → b ∉ (goneL pt.kb β).map (·.1) → upl m1.h (goneL pt.kb β ++ h1) b = m1.h b := fun b hn hg => by
  rw [upl_append, upl_not h1 (fun hk => ?_), upl_not _ hg]
  obtain ⟨⟨b', x'⟩, hk1, rfl⟩ := List.mem_map.1 hk
  obtain ⟨j, x, g1, g2, g3⟩ := (renH_mem hh1).2 _ _ hk1
  cases hl : pt.h1.lookup j with
  | none =>
   have := List.lookup_eq_none_iff.1 hl _ g1
   simp at this
  | some y => exact hn ⟨j, by obtain ⟨e1, e2⟩ := hlkD j y hl; rw [e1]; exact e2, g2⟩
 -- what numbers are
 have hJk : ∀ j, j < pt.kb → ∃ b, β.lookup j = some (some b) ∧ J j = b := fun j hj => by
  obtain ⟨b, h2, _⟩ := c2 j hj
  exact ⟨b, h2, by rw [← hJ]; unfold jOf; rw [if_pos hj, h2]⟩
 have hJn : ∀ j, pt.kb ≤ j → m'.h j ≠ .no → m1.h (J j) = .no := fun j hj hD => by
  have e : J j = nb + (j - pt.kb) := by rw [← hJ]; unfold jOf; rw [if_neg (by omega)]
  obtain ⟨x, hx, _⟩ := hDlk j hD
  obtain ⟨x', _, g2⟩ := (renH_mem hh1).1 j x hx
  have := htop _ g2
  exact hfree _ (by omega) this
 -- what is handed over
 have hX : ∀ q, XOf (renM m1 (es.map (·.den m1.env)) β (blkOf pt.h0)) q → ∃ j b, β.lookup j = some (some b) ∧ m1.at_ b = some q ∧ (m1.h b).live = true ∧ (m1.h b).frz = false := fun q hq => by
  obtain ⟨j, l, a⟩ := hq
  obtain ⟨b, g1, g2⟩ := ren_at a
  obtain ⟨g3, g4⟩ := ren_live (hb j) g1 l
  refine ⟨j, b, g1, g2, g3, ?_⟩
  rw [g4]
  unfold blkOf
  cases hl : pt.h0.lookup j with
  | none => rfl
  | some y => exact c5 _ (lookup_mem hl)
 have hXS : ∀ q, XOf (renM m1 (es.map (·.den m1.env)) β (blkOf pt.h0)) q → ¬ m1.S q := fun q hq => by
  obtain ⟨j, b, g1, g2, g3, g4⟩ := hX q hq
  exact (hm1.new b q g3 g2).2 g4
 have hXhas : ∀ q, XOf (renM m1 (es.map (·.den m1.env)) β (blkOf pt.h0)) q → w0.has q := fun q hq => by
  obtain ⟨j, b, g1, g2, g3, g4⟩ := hX q hq
  exact (hm1.new b q g3 g2).1
 have hXC : ∀ b q, (¬ ∃ j, m'.h j ≠ .no ∧ J j = b) → b ∉ (goneL pt.kb β).map (·.1) → (m1.h b).live = true → m1.at_ b = some q → ¬ XOf (renM m1 (es.map (·.den m1.env)) β (blkOf pt.h0)) q := fun b q hn hg l a hq => by
  obtain ⟨j, b', g1, g2, g3, g4⟩ := hX q hq
  have := hm1.inj b b' q l g3 a g2
  subst this
  by_cases hj : j < pt.kb
  ·obtain ⟨b2, k1, k2⟩ := hJk j hj
   rw [g1] at k1; cases k1
   obtain ⟨b3, _, _, k3⟩ := c2 j hj
   obtain ⟨y, hy⟩ := Option.isSome_iff_exists.1 k3
   obtain ⟨e1, e2⟩ := hlkD j y hy
   exact hn ⟨j, by rw [e1]; exact e2, k2⟩
  ·refine hg (List.mem_map.2 ⟨(b, .dead), List.mem_filterMap.2 ⟨(j, some b), lookup_mem g1, ?_⟩, rfl⟩)
   simp [hj]
 have hw : ∀ q, q < m1.w.heap.size → ¬ XOf (renM m1 (es.map (·.den m1.env)) β (blkOf pt.h0)) q → m'.w.heap[q]? = m1.w.heap[q]? := fun q hq hx => bk.low.block q hq hx
 generalize hMN : mergeM m1 m' J (upl m1.h (goneL pt.kb β ++ h1)) = mn
 have e_env : mn.env = m1.env := by rw [← hMN]; rfl
 have e_w : mn.w = m'.w := by rw [← hMN]; rfl
 have e_S : mn.S = m'.S := by rw [← hMN]; rfl
 have e_h : mn.h = upl m1.h (goneL pt.kb β ++ h1) := by rw [← hMN]; rfl
 have e_ρ1 : ∀ j, m'.h j ≠ .no → mn.ρ (J j) = m'.ρ j := fun j hj => by
  rw [← hMN]; exact merge_ρ1 hinj j hj
 have e_ρ2 : ∀ b, (¬ ∃ j, m'.h j ≠ .no ∧ J j = b) → mn.ρ b = m1.ρ b := fun b hn => by
  rw [← hMN]; exact merge_ρ2 b hn
 have sh : Shift T J ne pt.n1 m' mn := ⟨e_w, e_S, by rw [bk.env]; exact hrl, fun j d hj => by rw [e_env]; exact hrs j d (by rw [← bk.env]; exact hj), fun j hj => by rw [e_h]; exact HA j hj, e_ρ1⟩
 have hρk : ∀ j b, j < pt.kb → β.lookup j = some (some b) → m'.h j ≠ .no → J j = b → mn.ρ b = m1.ρ b := fun j b hj hl hD e => by
  rw [← e, e_ρ1 j hD, bk.kept j hj]
  show (match β.lookup j with | some (some b') => m1.ρ b' | _ => none) = _
  rw [hl, e]
 have hK : Keep T m1 mn := keep_gen e_env (fun q hq => by rw [e_w]; exact hw q (hm1.sz q hq) (fun hx => hXS q hx hq)) (fun q hq => by rw [e_S]; exact bk.s0 q hq) fun b hbn => by
  by_cases hA : ∃ j, m'.h j ≠ .no ∧ J j = b
  ·obtain ⟨j, hD, rfl⟩ := hA
   by_cases hj : j < pt.kb
   ·obtain ⟨b, k1, k2⟩ := hJk j hj
    refine .inr ⟨?_, ?_⟩
    ·rw [k2]; exact hρk j b hj k1 hD k2
    ·obtain ⟨x, g1, g2⟩ := HA j hD
     rw [e_h, g2]
     have hbj := hb j
     rcases bk.len j hj with ⟨l, l', q1, q2⟩ | ⟨el, e, e', rows, rows', q1, q2, q3, q4, q5⟩
     ·rw [q1] at hbj
      simp only [okB, k1] at hbj
      split at hbj
      ·rename_i l2 hy
       have hy' : m1.h (J j) = .box l2 := by rw [k2]; exact hy
       have : m'.h j = .box l' := by rw [bk.h]; exact q2
       rw [this] at g1
       simp only [renB] at g1
       cases hl : renL J ne pt.n1 l' with
       | none => rw [hl] at g1; cases g1
       | some l3 => rw [hl] at g1; cases g1; exact .inr (.inl ⟨l2, l3, hy', rfl⟩)
      ·cases hbj
     ·rw [q1] at hbj
      simp only [okB, k1] at hbj
      split at hbj
      ·rename_i el2 e2 fz2 hy
       simp only [Bool.and_eq_true, decide_eq_true_eq] at hbj
       obtain ⟨rfl, hE, rfl⟩ := hbj
       have hy' : m1.h (J j) = .arr el e2 false := by rw [k2]; exact hy
       have h5 := okE_den (env := []) (x := m1.env) rfl hE
       have : m'.h j = .arr el e' false := by rw [bk.h]; exact q2
       rw [this] at g1
       simp only [renB] at g1
       cases e' with
       | V k =>
        simp only [renB] at g1
        split at g1
        case isFalse => cases g1
        rename_i hk
        cases g1
        refine .inr (.inr ⟨el, e2, _, false, false, rows, rows', hy', rfl, ?_, ?_, q5⟩)
        ·exact h5.symm.trans q3
        ·rw [← e_env]
         refine (sh.e hk).trans ?_
         rw [bk.env]; exact q4
       | _ => simp [renB] at g1
      ·cases hbj
   ·exact absurd (hJn j (by omega) hD) hbn
  ·by_cases hg : b ∈ (goneL pt.kb β).map (·.1)
   ·exact .inl (by rw [e_h]; exact HB b hA hg)
   ·exact .inr ⟨e_ρ2 b hA, by rw [e_h, HC b hA hg]; exact .inl rfl⟩
 have atA : ∀ j, m'.h j ≠ .no → mn.at_ (J j) = m'.at_ j := fun j hj => by unfold Mem.at_; rw [e_ρ1 j hj]
 have atC : ∀ b, (¬ ∃ j, m'.h j ≠ .no ∧ J j = b) → mn.at_ b = m1.at_ b := fun b hn => by unfold Mem.at_; rw [e_ρ2 b hn]
 -- a block of which something is known behind the call
 have split_ : ∀ b q, (mn.h b).live = true → mn.at_ b = some q → (∃ j, m'.h j ≠ .no ∧ J j = b ∧ (m'.h j).live = true ∧ (m'.h j).frz = (mn.h b).frz ∧ m'.at_ j = some q) ∨
   ((¬ ∃ j, m'.h j ≠ .no ∧ J j = b) ∧ b ∉ (goneL pt.kb β).map (·.1) ∧ mn.h b = m1.h b ∧ m1.at_ b = some q) := fun b q l a => by
  by_cases hA : ∃ j, m'.h j ≠ .no ∧ J j = b
  ·obtain ⟨j, hD, rfl⟩ := hA
   obtain ⟨x, g1, g2⟩ := HA j hD
   obtain ⟨r1, r2, r3⟩ := renB_live g1
   exact .inl ⟨j, hD, rfl, by rw [← r1]; exact r3, by rw [e_h, g2, r2], by rw [← atA j hD]; exact a⟩
  ·by_cases hg : b ∈ (goneL pt.kb β).map (·.1)
   ·rw [e_h, HB b hA hg] at l; cases l
   ·exact .inr ⟨hA, hg, by rw [e_h]; exact HC b hA hg, by rw [← atC b hA]; exact a⟩
 refine ⟨mn, e_env, e_w, e_h, hK, ⟨fun b => ?_, fun b b' q l l' a a' => ?_, fun b q l a => ?_, fun q hq => ?_, ?_, fun q hq => ?_, fun q hq => ?_, hm1.s2, fun b p hp => ?_⟩, sh⟩
 ·by_cases hA : ∃ j, m'.h j ≠ .no ∧ J j = b
  ·obtain ⟨j, hD, rfl⟩ := hA
   obtain ⟨x, g1, g2⟩ := HA j hD
   rw [e_h, g2]
   exact sh.blk g1 (bk.ok.blk j)
  ·by_cases hg : b ∈ (goneL pt.kb β).map (·.1)
   ·rw [e_h, HB b hA hg]; trivial
   ·rw [e_h, HC b hA hg]
    exact BlkR.keep hK e_env (e_ρ2 b hA) (fun l q hq => by rw [e_w]; exact hw q ((hm1.blk b).lt l hq) (hXC b q hA hg l hq)) (fun q hq => by rw [e_w]; exact hw q (hm1.sz q hq) (fun hx => hXS q hx hq)) (fun q hq => by rw [e_S]; exact bk.s0 q hq) (hm1.blk b)
 ·have mixed : ∀ j c, m'.h j ≠ .no → (m'.h j).live = true → m'.at_ j = some q → (¬ ∃ j, m'.h j ≠ .no ∧ J j = c) → c ∉ (goneL pt.kb β).map (·.1) → (m1.h c).live = true → m1.at_ c = some q → False := fun j c hD hl ha hn hg hl' ha' => by
   rcases bk.new j q hl ha with h | h
   ·have := (hm1.blk c).lt hl' ha'
    have h : m1.w.heap.size ≤ q := h
    omega
   ·exact hXC c q hn hg hl' ha' h
  rcases split_ b q l a with ⟨j, d1, rfl, d2, d3, d4⟩ | ⟨d1, d2, d3, d4⟩ <;> rcases split_ b' q l' a' with ⟨j', d1', rfl, d2', d3', d4'⟩ | ⟨d1', d2', d3', d4'⟩
  ·rw [bk.ok.inj j j' q d2 d2' d4 d4']
  ·exact (mixed j b' d1 d2 d4 d1' d2' (by rw [← d3']; exact l') d4').elim
  ·exact (mixed j' b d1' d2' d4' d1 d2 (by rw [← d3]; exact l) d4).elim
  ·exact hm1.inj b b' q (by rw [← d3]; exact l) (by rw [← d3']; exact l') d4 d4'
 ·rcases split_ b q l a with ⟨j, d1, rfl, d2, d3, d4⟩ | ⟨d1, d2, d3, d4⟩
  ·refine ⟨?_, fun hf => ?_⟩
   ·rcases bk.new j q d2 d4 with h | h
    ·exact .inl (Nat.le_trans hm1.low.size h)
    ·exact hXhas q h
   ·rw [e_S]; exact bk.ok.new j q d2 d4 (by rw [d3]; exact hf)
  ·have hl1 : (m1.h b).live = true := by rw [← d3]; exact l
   refine ⟨(hm1.new b q hl1 d4).1, fun hf hs => ?_⟩
   rw [e_S] at hs
   rcases bk.s1 q hs with h | h | h
   ·exact (hm1.new b q hl1 d4).2 (by rw [← d3]; exact hf) h
   ·have := (hm1.blk b).lt hl1 d4
    have h : m1.w.heap.size ≤ q := h
    omega
   ·exact hXC b q d1 d2 hl1 d4 h
 ·rw [e_w]; rw [e_S] at hq; exact bk.ok.sz q hq
 ·rw [e_w]
  refine ⟨bk.low.os.trans hm1.low.os, bk.low.tape.trans hm1.low.tape, bk.low.output.trans hm1.low.output, Nat.le_trans hm1.low.size bk.low.size, fun k hk hx => ?_⟩
  refine (bk.low.block k (Nat.lt_of_lt_of_le hk hm1.low.size) fun h => ?_).trans (hm1.low.block k hk hx)
  rcases hXhas k h with h | h
  ·omega
  ·exact hx h
 ·rw [e_S]; exact bk.s0 q (hm1.s0 q hq)
 ·rw [e_S] at hq
  rcases bk.s1 q hq with h | h | h
  ·exact hm1.s1 q h
  ·exact .inr (.inl (Nat.le_trans hm1.low.size h))
  ·exact .inr (hXhas q h)
 ·obtain ⟨n1, n2⟩ := hm1.kept b p hp
  by_cases hA : ∃ j, m'.h j ≠ .no ∧ J j = b
  ·obtain ⟨j, hD, rfl⟩ := hA
   by_cases hj : j < pt.kb
   ·obtain ⟨b, k1, k2⟩ := hJk j hj
    have hlv : (m1.h b).live = true := by
     rcases bk.len j hj with ⟨l, l', q1, q2⟩ | ⟨el, e, e', rows, rows', q1, q2, _⟩
     ·exact (ren_live (hb j) k1 (by rw [q1]; rfl)).1
     ·exact (ren_live (hb j) k1 (by rw [q1]; rfl)).1
    obtain ⟨x, g1, g2⟩ := HA j hD
    refine ⟨by rw [e_h, g2]; exact fun e => by (have := (renB_live g1).2.2; rw [e] at this; cases this), fun _ => ?_⟩
    rw [k2, hρk j b hj k1 hD k2, ← k2]
    exact n2 (by rw [k2]; exact hlv)
   ·exact absurd (hJn j (by omega) hD) n1
  ·by_cases hg : b ∈ (goneL pt.kb β).map (·.1)
   ·rw [e_h, HB b hA hg]; exact ⟨by simp, fun l => (by cases l)⟩
   ·rw [e_h, HC b hA hg, e_ρ2 b hA]; exact ⟨n1, n2⟩
theorem renS_nt {J : Nat → Nat} {ne n1 : Nat} : ∀ {l l' : List SV}, renSs J ne n1 l = some l' → ∀ s ∈ l', ∀ x, s ≠ .tup x
 | [], l', h, s, hs, x => by cases h; cases hs
 | c :: l, l', h, s, hs, x => by
  unfold renSs at h
  obtain ⟨c', h1, h2⟩ := Option.bind_eq_some_iff.1 h
  obtain ⟨r', h3, h4⟩ := Option.bind_eq_some_iff.1 h2
  cases h4
  rcases List.mem_cons.1 hs with hs | hs
  ·subst hs
   unfold renS at h1
   split at h1
   ·obtain ⟨y, _, hy⟩ := Option.map_eq_some_iff.1 h1; rw [← hy]; simp
   ·obtain ⟨y, _, hy⟩ := Option.map_eq_some_iff.1 h1; rw [← hy]; simp
   ·cases h1
  ·exact renS_nt h3 s hs x
theorem callP_ok (hm : MOk T w0 S0 m) {g f : FuncId} {pt : Pat} {ss : List SV} {vs : List Value} {nb ne : Nat} {out : Out} {rs : List DV} (h : symCallP T m.h nb ne g pt ss = some out) (hr : ValsR T m ss vs) (hn : needsOk m.env out.needs)
  (hsp : ∀ es, out.call = some (g, es, pt.n1) → rs.length = pt.n1 ∧ SpP P T pt f (es.map (·.den m.env)) rs) (hrs : ∀ (j : Nat) d, rs[j]? = some d → m.env.getD (ne + j) (.I 0) = d) (hfree : ∀ b, nb ≤ b → b < nextB nb out.upd → m.h b = .no) :
  Calls P f vs.toArray m.w fun e w' => ∃ v m', e = .returned v ∧ m'.w = w' ∧ Went T w0 S0 m out.upd m' ∧ SVr T m' out.val v := by
 unfold symCallP at h
 obtain ⟨⟨ns, es, β, us⟩, h1, h2⟩ := Option.bind_eq_some_iff.1 h
 obtain ⟨t1, h3, h4⟩ := Option.bind_eq_some_iff.1 h2
 obtain ⟨hh, h5, h6⟩ := Option.bind_eq_some_iff.1 h4
 split at h6
 case isFalse => cases h6
 rename_i hc
 cases h6
 simp only [Bool.and_eq_true, decide_eq_true_eq] at hc
 obtain ⟨⟨⟨⟨c1, c2⟩, c3⟩, c4⟩, c5⟩ := hc
 obtain ⟨m1, f1, g1, g2, g3, g4, g5⟩ := pack_ok hm h1 hr hn
 obtain ⟨l1, sp⟩ := hsp es rfl
 have hcall := sp (renM m1 (es.map (·.den m.env)) β (blkOf pt.h0)) vs rfl rfl g1 g2
 rw [show (renM m1 (es.map (·.den m.env)) β (blkOf pt.h0)).w = m.w from f1.w] at hcall
 refine hcall.mono ?_
 rintro e w' ⟨rv, m', rfl, rfl, hv, bk⟩
 have hnb := nextB_ge (us ++ (goneL pt.kb β ++ hh)) nb
 rw [← f1.env] at bk
 obtain ⟨mn, k1, k2, k3, k4, k5, k6⟩ := back_ok (top := nextB nb (us ++ (goneL pt.kb β ++ hh))) f1.ok g3 g4 bk l1 (by rw [f1.env]; exact hrs) h5 c1 (fun j hj => by
   have := List.all_eq_true.1 c2 j (List.mem_range.2 hj)
   simp only [Bool.and_eq_true] at this
   obtain ⟨a1, a2⟩ := this
   split at a1
   · rename_i b hb
     exact ⟨b, hb, of_decide_eq_true a1, a2⟩
   · cases a1) (fun p hp => by have := List.all_eq_true.1 c5 p hp; simpa using this) (fun b hb hb2 => by
   rw [f1.h, upl_not us (fun e => by
     obtain ⟨p, hp, rfl⟩ := List.mem_map.1 e
     have := List.all_eq_true.1 c3 p hp
     simp at this; omega)]
   exact hfree b hb hb2) (fun p hp => hnb.2 p (List.mem_append.2 (.inr (List.mem_append.2 (.inr hp)))))
 refine ⟨_, mn, rfl, k2, ⟨k1.trans f1.env, by rw [k3, f1.h, ← upl_append], f1.keep.trans k4, k5⟩, packS_ok (k6.svs h3 hv) (renS_nt h3)⟩
end
def foldO : O → E → E → E
 | .lt, .I a, .I b => .B (decide (a < b))
 | .le, .I a, .I b => .B (decide (a ≤ b))
 | .eq, .I a, .I b => .B (decide (a = b))
 | .add, .I a, .I b => .I (a + b)
 | .sub, .I a, .I b => .I (a - b)
 | o, a, b => .O o a b
theorem foldO_den (env : List DV) (o : O) (a b : E) : (foldO o a b).den env = (E.O o a b).den env := by
 unfold foldO
 split <;> first | rfl | (simp only [E.den, O.den, DV.int]; first | rfl | congr)
def notE : E → E
 | .B x => .B (!x)
 | e => .U .not e
theorem notE_den (env : List DV) (e : E) : (notE e).den env = (E.U .not e).den env := by
 unfold notE
 split <;> first | rfl | (simp only [E.den, U.den, DV.bool]; first | rfl | congr)
def fold1 : E → E
 | .O o a b => foldO o a b
 | .U .not (.O o a b) => notE (foldO o a b)
 | e => e
theorem fold1_den (env : List DV) (e : E) : (fold1 e).den env = e.den env := by
 unfold fold1
 split
 ·exact foldO_den ..
 ·rw [notE_den]; simp only [E.den, foldO_den]
 ·rfl
def foldC : CV → CV
 | .c k e => .c k (fold1 e)
 | c => c
section
variable {P : Program} {T : Tab} {m : Mem} {w : World}
theorem foldC_ok {c : CV} {v : Value} (h : CVr T m c v) : CVr T m (foldC c) v := by
 unfold foldC
 split
 ·rw [cvr_c] at h ⊢; rw [fold1_den]; exact h
 ·exact h
def eqC (T : Tab) (t : TypeId) (a b : CV) : Option E := match a, b with
 | .c (.int k) x, .c (.int k') y => match T.und t with
  | some (.int _) => if k = k' then some (.O .eq x y) else none
  | _ => none
 | .c .bool x, .c .bool y => match T.und t with
  | some .bool => some (.O .beq x y)
  | _ => none
 | .c .str x, .c .str y => match T.und t with
  | some .string => some (.O .seq x y)
  | _ => none
 | _, _ => none
theorem eqC_ok (hT : T.Ok P) {t : TypeId} {a b : CV} {e : E} {v u : Value} (n : Nat) (h : eqC T t a b = some e) (hx : CVr T m a v) (hy : CVr T m b u) : ∃ b, e.den m.env = .B b ∧ (Op.equalIn (n + 1) t v u).run P w = .ok b w := by
 unfold eqC at h
 split at h
 ·rename_i k x k' y
  split at h
  case h_2 => cases h
  rename_i k'' hu
  split at h
  case isFalse => cases h
  rename_i hk
  subst hk
  cases h
  obtain ⟨n1, e1, rfl, r1⟩ := Rd.int_inv hx
  obtain ⟨n2, e2, rfl, r2⟩ := Rd.int_inv hy
  refine ⟨decide (n1 = n2), by simp only [E.den, O.den, e1, e2, DV.int], ?_⟩
  rw [run_equalIn_int w n t k k'' n1 n2 (hT.und hu)]; congr 1
 ·split at h
  case h_2 => cases h
  rename_i hu
  cases h
  obtain ⟨n1, e1, rfl⟩ := Rd.bool_inv hx
  obtain ⟨n2, e2, rfl⟩ := Rd.bool_inv hy
  exact ⟨n1 == n2, by simp only [E.den, O.den, e1, e2, DV.bool], run_equalIn_bool' w n t n1 n2 (hT.und hu)⟩
 ·split at h
  case h_2 => cases h
  rename_i hu
  cases h
  obtain ⟨n1, e1, rfl, r1⟩ := Rd.str_inv hx
  obtain ⟨n2, e2, rfl, r2⟩ := Rd.str_inv hy
  have q1 : n1.toList = n1.data.toList := ByteArray.toList_eq n1
  have q2 : n2.toList = n2.data.toList := ByteArray.toList_eq n2
  refine ⟨n1.data.toList == n2.data.toList, by simp only [E.den, O.den, e1, e2, DV.str], ?_⟩
  rw [run_equalIn_string w n t n1 n2 (hT.und hu), q1, q2]
 ·cases h
def eqE (T : Tab) : Nat → TypeId → SV → SV → Option E
 | 0, _, _, _ => none
 | d + 1, t, .agg xs, .agg ys => match T.flat t, T.und t with
  | true, some (.struct fs) => fs.toList.foldr (fun (f : Field) (r : Option E) => do
      let r ← r
      if f.name = "_" then none else do
      let a ← pickT T f.type (xs.drop f.offset)
      let b ← pickT T f.type (ys.drop f.offset)
      let e ← eqE T d f.type a b
      some (.O .and e r)) (some (.B true))
  | _, _ => none
 | _ + 1, t, .one a, .one b => eqC T t a b
 | _ + 1, _, _, _ => none
theorem eqE_ok (hT : T.Ok P) : ∀ (d : Nat) (t : TypeId) (x y : SV) (e : E) (v u : Value) (n : Nat), d ≤ n → eqE T d t x y = some e → SVr T m x v → SVr T m y u → ∃ b, e.den m.env = .B b ∧ (Op.equalIn n t v u).run P w = .ok b w := by
 intro d
 induction d with
 | zero => intro t x y e v u n hd h hx hy; unfold eqE at h; cases h
 | succ d ihd =>
  intro t x y e v u n hd h hx hy
  obtain ⟨n, rfl⟩ : ∃ k, n = k + 1 := ⟨n - 1, by omega⟩
  cases x with
  | one a =>
   cases y with
   | one b => exact eqC_ok hT n (by unfold eqE at h; exact h) hx hy
   | agg ys => unfold eqE at h; cases h
   | tup ys => unfold eqE at h; cases h
  | tup xs => unfold eqE at h; cases h
  | agg xs =>
   cases y with
   | one b => unfold eqE at h; cases h
   | tup ys => unfold eqE at h; cases h
   | agg ys =>
    unfold eqE at h
    obtain ⟨a, rfl, ha⟩ := hx
    obtain ⟨b, rfl, hb⟩ := hy
    split at h
    case h_2 => cases h
    rename_i fs hf hu
    have hq := hT.und hu
    have hq' : P.fieldsOf t = fs := by unfold Program.fieldsOf; rw [hq]
    rw [run_equalIn_agg w n t a b (by rw [hq', hq]) (hT.plain t hf).1, hq']
    revert h
    generalize fs.toList = l
    intro h
    clear hu hq hq' hf
    induction l generalizing e with
    | nil => cases h; exact ⟨true, rfl, by simp [Op.eqFields]⟩
    | cons f l ih =>
     rw [List.foldr_cons] at h
     obtain ⟨r, hr, h⟩ := Option.bind_eq_some_iff.1 h
     split at h
     case isTrue => cases h
     rename_i hn
     obtain ⟨p, hp, h⟩ := Option.bind_eq_some_iff.1 h
     obtain ⟨q, hq, h⟩ := Option.bind_eq_some_iff.1 h
     obtain ⟨e', he, h⟩ := Option.bind_eq_some_iff.1 h
     cases h
     obtain ⟨b2, h2, h3⟩ := ih r hr
     obtain ⟨v1, g1, g2⟩ := part_ok (w := w) hT hp ha
     obtain ⟨v2, g3, g4⟩ := part_ok (w := w) hT hq hb
     obtain ⟨b1, h4, h5⟩ := ihd f.type p q e' v1 v2 n (by omega) he g2 g4
     refine ⟨b1 && b2, by simp only [E.den, O.den, h4, h2, DV.bool], ?_⟩
     rw [Op.eqFields, if_pos hn]
     simp only [Sem.run_bind, g1, g3, h5, Result.andThen_ok]
     cases b1
     ·simp
     ·simp [h3]
def symEqA (T : Tab) (op : BinOp) (t : TypeId) (x y : SV) : Option E := match op with
 | .eql => if T.flat t then eqE T 8 t x y else none
 | .neq => if T.flat t then (eqE T 8 t x y).map fun e => .U .not e else none
 | _ => none
theorem eqA_run (hT : T.Ok P) {op : BinOp} {t : TypeId} {xs ys : List CV} {e : E} {v u : Value} {x y : Operand} (h : symEqA T op t (.agg xs) (.agg ys) = some e) (h1 : SVr T m (.agg xs) v) (h2 : SVr T m (.agg ys) u) :
  ∃ z, (do eqGuard op t x y v u; binOp op t v u : Sem Value).run P w = .ok z w ∧ CVr T m (.c .bool e) z := by
 obtain ⟨a, rfl, ha⟩ := h1
 obtain ⟨b, rfl, hb⟩ := h2
 unfold symEqA at h
 split at h
 ·split at h
  case isFalse => cases h
  rename_i hf
  obtain ⟨r, h4, h5⟩ := eqE_ok (w := w) hT 8 t _ _ e _ _ 10000 (by omega) h ⟨a, rfl, ha⟩ ⟨b, rfl, hb⟩
  refine ⟨.bool r, ?_, ?_⟩
  ·rw [Sem.run_bind, run_eqGuard_agg w .eql t x y a b (hT.plain t hf).2, Result.andThen_ok, run_eql_struct, h5]; rfl
  ·rw [cvr_c, h4]; exact .bool
 ·split at h
  case isFalse => cases h
  rename_i hf
  obtain ⟨e', he, h⟩ := Option.map_eq_some_iff.1 h
  subst h
  obtain ⟨r, h4, h5⟩ := eqE_ok (w := w) hT 8 t _ _ e' _ _ 10000 (by omega) he ⟨a, rfl, ha⟩ ⟨b, rfl, hb⟩
  refine ⟨.bool (!r), ?_, ?_⟩
  ·rw [Sem.run_bind, run_eqGuard_agg w .neq t x y a b (hT.plain t hf).2, Result.andThen_ok, run_neq_struct, h5]; rfl
  ·rw [cvr_c]; simp only [E.den, U.den, h4, DV.bool]; exact .bool
 ·cases h
end
end Go.Proofs.YtbegccgpmhbnfaaGreat
