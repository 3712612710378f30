/- What is proved here: parts of the proof of SnapTells. -/
import Derived.Test.YtbegccgpmhbnfaaGreatR4
namespace Go.Proofs.YtbegccgpmhbnfaaGreat
open Go.RowKit
set_option linter.unusedVariables false
set_option linter.unusedSimpArgs false
set_option maxHeartbeats 1000000
def retC (T : Tab) (h : Nat → Blk) : CK × Bool → CV → Option (List E × E × List (Nat × Blk) × List Nat)
 | (k, false), c => (immE T h k c).map fun r => (r.1, r.2.1, r.2.2, [])
 | (.lst el, true), .nl => if (T.cks el).isSome then some ([], .N, [], []) else none
 | (.lst el, true), .own b el' => match h b with
  | .arr el'' e false => if el = el' ∧ el = el'' then some ([], e, [], [b]) else none
  | _ => none
 | _, _ => none
def retL (T : Tab) : (Nat → Blk) → List (CK × Bool) → List CV → Option (List E × List E × List (Nat × Blk) × List Nat)
 | _, [], [] => some ([], [], [], [])
 | h, k :: ks, c :: cs => do
  let (n, e, u, f) ← retC T h k c
  let (ns, es, us, fs) ← retL T (upl h u) ks cs
  some (n ++ ns, e :: es, u ++ us, f ++ fs)
 | _, _, _ => none
def retP (T : Tab) : (Nat → Blk) → List (Bool × List (CK × Bool)) → List SV → Option (List E × List E × List (Nat × Blk) × List Nat)
 | _, [], [] => some ([], [], [], [])
 | h, p :: ps, s :: ss => do
  let cs ← match p.1, s with
   | true, .agg cs => some cs
   | false, .one c => if p.2.length = 1 then some [c] else none
   | _, _ => none
  let (n, e, u, f) ← retL T h p.2 cs
  let (ns, es, us, fs) ← retP T (upl h u) ps ss
  some (n ++ ns, e ++ es, u ++ us, f ++ fs)
 | _, _, _ => none
def resS (T : Tab) (st : St) : List ResultVar → Option (List E × List SV)
 | [] => some ([], [])
 | .tmp t :: r => do
  let (ns, ss) ← resS T st r
  some (ns, st.get t :: ss)
 | .cell a ty :: r => do
  let (n, s) ← symLoad T st.blk ty (st.get a)
  let (ns, ss) ← resS T st r
  some (n ++ ns, s :: ss)
def retT (T : Tab) (sg : Sig) (fn : Func) (st : St) : Option Tree := do
 let (ns, ss) ← resS T st fn.results.toList
 let (ns', es, us, fs) ← retP T st.blk sg.results ss
 if decide fs.Nodup && fs.all (fun b => !(upl st.blk us b).frz) && us.all (fun u => u.2.frz) then some (wrapN (ns ++ ns') (.ret es)) else none
def parS : Nat → Nat → List (Bool × List CK) → List (Nat × SV)
 | _, _, [] => []
 | i, n, (x, ks) :: ps =>
  (i, (if x then .agg (ks.zipIdx.map fun (k, j) => .c k (.V (n + j))) else match ks with
    | [k] => .one (.c k (.V n))
    | _ => .one .any)) :: parS (i + 1) (n + ks.length) ps
def parN (ps : List (Bool × List CK)) : Nat := (ps.map fun p => p.2.length).sum
def fnTree (H : Help) (sg : Sig) (fn : Func) : Option Tree := do
 let c ← fn.body
 if sg.params.length ≤ fn.ntmps then
  exec H c { t := parS 0 0 sg.params, h := [], nb := 0, ne := parN sg.params, lv := 0, nt := fn.ntmps } fun x s => match x with
   | .exit _ => none
   | _ => retT H.T sg fn s
 else none
section
variable {P : Program} {H : Help} {T : Tab} {w0 : W0} {S0 : Nat → Prop} {m m' : Mem}
def RetC (T : Tab) (m : Mem) (k : CK × Bool) (d : DV) (v : Value) (fs : List Nat) : Prop :=
 (k.2 = false ∧ fs = [] ∧ Rd T m.w m.S k.1 d v) ∨ (k.2 = true ∧ ∃ el, k.1 = .lst el ∧ ((fs = [] ∧ (T.cks el).isSome = true ∧ d = .L [] ∧ v = .slice none 0 0) ∨ ∃ b, fs = [b] ∧ CVr T m (.own b el) v ∧ ∃ e fz, m.h b = .arr el e fz ∧ e.den m.env = d))
theorem RetC.keep {us : List (Nat × Blk)} {k : CK × Bool} {d : DV} {v : Value} {fs : List Nat} (h : RetC T m k d v fs) (hf : Froze T w0 S0 m us m') (hk : ∀ b el e fz, m.h b = .arr el e fz → ∃ fz', m'.h b = .arr el e fz') : RetC T m' k d v fs := by
 rcases h with ⟨h1, h2, h3⟩ | ⟨h1, el, h2, h3⟩
 ·exact .inl ⟨h1, h2, hf.rd h3⟩
 ·refine .inr ⟨h1, el, h2, ?_⟩
  rcases h3 with h3 | ⟨b, h3, h4, e, fz, h5, h6⟩
  ·exact .inl h3
  ·obtain ⟨fz', h7⟩ := hk b el e fz h5
   exact .inr ⟨b, h3, hf.keep _ _ h4, e, fz', h7, by rw [hf.env]; exact h6⟩
theorem immE_blk {h : Nat → Blk} {k : CK} {c : CV} {ns e us} (hi : immE T h k c = some (ns, e, us)) : ∀ b el e fz, h b = .arr el e fz → ∃ fz', upl h us b = .arr el e fz' := by
 have one : ∀ {b0 el0 e0 fz0}, h b0 = .arr el0 e0 fz0 → ∀ b el e fz, h b = .arr el e fz → ∃ fz', upl h [(b0, .arr el0 e0 true)] b = .arr el e fz' := fun {b0 el0 e0 fz0} h0 b el e fz hb => by
  show ∃ fz', upf h b0 (.arr el0 e0 true) b = _
  by_cases hbb : b = b0
  ·subst hbb
   rw [h0] at hb; cases hb
   exact ⟨true, upf_same _ _ _⟩
  ·exact ⟨fz, (upf_ne _ _ hbb).trans hb⟩
 unfold immE at hi
 intro b el e fz hb
 split at hi
 ·split at hi <;> cases hi; exact ⟨fz, hb⟩
 ·split at hi <;> cases hi; exact ⟨fz, hb⟩
 ·split at hi
  ·rename_i hx
   split at hi <;> cases hi
   rename_i he
   obtain ⟨rfl, rfl⟩ := he
   exact one hx b el e fz hb
  ·cases hi
 ·split at hi
  ·rename_i hx
   split at hi <;> cases hi
   rename_i he
   obtain ⟨rfl, rfl⟩ := he
   exact one hx b el e fz hb
  ·cases hi
 ·cases hi
theorem retC_ok (hm : MOk T w0 S0 m) {k : CK × Bool} {c : CV} {v : Value} {ns e us fs} (h : retC T m.h k c = some (ns, e, us, fs)) (hc : CVr T m c v) (hn : needsOk m.env ns) :
  ∃ m', Froze T w0 S0 m us m' ∧ RetC T m' k (e.den m.env) v fs ∧ (∀ b el e fz, m.h b = .arr el e fz → ∃ fz', m'.h b = .arr el e fz') ∧ v.oneCell' = true := by
 unfold retC at h
 split at h
 ·rename_i k
  cases hi : immE T m.h k c with
  | none => rw [hi] at h; cases h
  | some y =>
   obtain ⟨n, e', u⟩ := y
   rw [hi] at h
   cases h
   obtain ⟨m', f, hr⟩ := imm_ok hm hc hi hn
   exact ⟨m', f, .inl ⟨rfl, rfl, hr⟩, fun b el e fz hb => by rw [f.h]; exact immE_blk hi b el e fz hb, hr.one⟩
 ·rename_i el
  split at h
  ·rename_i hk
   cases h
   rw [show v = _ from hc]
   exact ⟨m, Froze.refl hm, .inr ⟨rfl, el, rfl, .inl ⟨rfl, hk, rfl, rfl⟩⟩, fun b el e fz hb => ⟨fz, hb⟩, rfl⟩
  ·cases h
 ·rename_i el b el'
  split at h
  case h_2 => cases h
  rename_i el'' e' hb
  split at h
  case isFalse => cases h
  rename_i he
  obtain ⟨rfl, rfl⟩ := he
  cases h
  refine ⟨m, Froze.refl hm, .inr ⟨rfl, el, rfl, .inr ⟨b, rfl, hc, e, false, hb, rfl⟩⟩, fun b el e fz hb => ⟨fz, hb⟩, ?_⟩
  rcases hc with hc | ⟨_, _, _, _, _, _, hs⟩
  ·rw [hb] at hc; cases hc
  ·exact hs.one
 ·cases h
theorem retL_ok : ∀ (ks : List (CK × Bool)) (cs : List CV) (vs : List Value) {m : Mem} {ns es us fs}, MOk T w0 S0 m → CsR T m cs vs → retL T m.h ks cs = some (ns, es, us, fs) → needsOk m.env ns →
  ∃ m', Froze T w0 S0 m us m' ∧ es.length = ks.length ∧ vs.length = ks.length ∧ (∀ b el e fz, m.h b = .arr el e fz → ∃ fz', m'.h b = .arr el e fz') ∧
   ∃ qs : List (List Nat), qs.length = ks.length ∧ qs.flatten = fs ∧ ∀ (j : Nat) k e v q, ks[j]? = some k → es[j]? = some e → vs[j]? = some v → qs[j]? = some q → RetC T m' k (e.den m.env) v q
 | [], [], vs, m, ns, es, us, fs, hm, hr, h, hn => by
  cases h
  exact ⟨m, Froze.refl hm, rfl, hr.1, fun b el e fz hb => ⟨fz, hb⟩, [], rfl, rfl, fun j k e v q hk => by cases hk⟩
 | [], _ :: _, _, _, _, _, _, _, _, _, h, _ => by cases h
 | _ :: _, [], _, _, _, _, _, _, _, _, h, _ => by cases h
 | k :: ks, c :: cs, [], _, _, _, _, _, _, hr, _, _ => by have := hr.1; cases this
 | k :: ks, c :: cs, v :: vs, m, ns, es, us, fs, hm, hr, h, hn => by
  unfold retL at h
  obtain ⟨⟨n, e, u, f⟩, h1, h2⟩ := Option.bind_eq_some_iff.1 h
  obtain ⟨⟨ns', es', us', fs'⟩, h3, h4⟩ := Option.bind_eq_some_iff.1 h2
  cases h4
  obtain ⟨v', hv', _, hc⟩ := hr.2 0 c rfl
  cases hv'
  obtain ⟨m1, f1, r1, b1, _⟩ := retC_ok hm h1 hc hn.left
  have hr' : CsR T m cs vs := ⟨by have := hr.1; simpa using this, fun j c' hj => hr.2 (j + 1) c' hj⟩
  obtain ⟨m2, f2, l1, l2, b2, qs, q1, q2, q3⟩ := retL_ok ks cs vs f1.ok (f1.keep.cs hr') (by rw [f1.h]; exact h3) (by rw [f1.env]; exact hn.right)
  refine ⟨m2, f1.trans f2, by simp [l1], by simp [l2], fun b el e fz hb => ?_, f :: qs, by simp [q1], by simp [q2], fun j k' e' v' q hk he hv hq => ?_⟩
  ·obtain ⟨fz1, h5⟩ := b1 b el e fz hb
   exact b2 b el e fz1 h5
  ·cases j with
   | zero =>
    cases hk; cases he; cases hv; cases hq
    have := r1.keep f2 b2
    exact this
   | succ j =>
    have := q3 j k' e' v' q hk he hv hq
    rw [f1.env] at this
    exact this
def RetP1 (T : Tab) (m : Mem) (p : Bool × List (CK × Bool)) (ds : List DV) (F : List (List Nat)) (v : Value) : Prop :=
 ds.length = p.2.length ∧ F.length = p.2.length ∧ ((p.1 = true ∧ ∃ a : Array Value, v = .agg a ∧ a.size = p.2.length ∧ ∀ (j : Nat) k d f, p.2[j]? = some k → ds[j]? = some d → F[j]? = some f → ∃ u, a[j]? = some u ∧ RetC T m k d u f) ∨
   (p.1 = false ∧ ∃ k d f, p.2 = [k] ∧ ds = [d] ∧ F = [f] ∧ RetC T m k d v f))
def RetPs (T : Tab) (m : Mem) : List (Bool × List (CK × Bool)) → List DV → List (List Nat) → List Value → Prop
 | [], ds, F, vs => ds = [] ∧ F = [] ∧ vs = []
 | p :: ps, ds, F, vs => ∃ v vs', vs = v :: vs' ∧ RetP1 T m p (ds.take p.2.length) (F.take p.2.length) v ∧ RetPs T m ps (ds.drop p.2.length) (F.drop p.2.length) vs'
theorem RetP1.imp {p : Bool × List (CK × Bool)} {ds : List DV} {F : List (List Nat)} {v : Value} (h : RetP1 T m p ds F v) (hi : ∀ k d v f, RetC T m k d v f → RetC T m' k d v f) : RetP1 T m' p ds F v := by
 obtain ⟨l1, l2, h⟩ := h
 refine ⟨l1, l2, ?_⟩
 rcases h with ⟨h1, a, h2, h3, h4⟩ | ⟨h1, k, d, f, h2, h3, h4, h5⟩
 ·exact .inl ⟨h1, a, h2, h3, fun j k d f hk hd hf => let ⟨u, hu, hr⟩ := h4 j k d f hk hd hf; ⟨u, hu, hi _ _ _ _ hr⟩⟩
 ·exact .inr ⟨h1, k, d, f, h2, h3, h4, hi _ _ _ _ h5⟩
theorem retP_ok : ∀ (ps : List (Bool × List (CK × Bool))) (ss : List SV) (vs : List Value) {m : Mem} {ns es us fs}, MOk T w0 S0 m → retP T m.h ps ss = some (ns, es, us, fs) → vs.length = ss.length → (∀ (j : Nat) s v, ss[j]? = some s → vs[j]? = some v → SVr T m s v) → needsOk m.env ns →
  ∃ m', Froze T w0 S0 m us m' ∧ (∀ b el e fz, m.h b = .arr el e fz → ∃ fz', m'.h b = .arr el e fz') ∧ ∃ F : List (List Nat), F.flatten = fs ∧ RetPs T m' ps (es.map (·.den m.env)) F vs
 | [], [], vs, m, ns, es, us, fs, hm, h, hl, hr, hn => by
  cases h
  cases vs with
  | nil => exact ⟨m, Froze.refl hm, fun b el e fz hb => ⟨fz, hb⟩, [], rfl, rfl, rfl, rfl⟩
  | cons _ _ => cases hl
 | [], _ :: _, _, _, _, _, _, _, _, h, _, _, _ => by simp [retP] at h
 | _ :: _, [], _, _, _, _, _, _, _, h, _, _, _ => by simp [retP] at h
 | p :: ps, s :: ss, [], _, _, _, _, _, _, _, hl, _, _ => by cases hl
 | p :: ps, s :: ss, v :: vs, m, ns, es, us, fs, hm, h, hl, hr, hn => by
  unfold retP at h
  have hs := hr 0 s v rfl rfl
  have key : ∀ (cs : List CV) (vv : List Value), CsR T m cs vv → (retL T m.h p.2 cs).bind (fun a => (retP T (upl m.h a.2.2.1) ps ss).bind fun b => some (a.1 ++ b.1, a.2.1 ++ b.2.1, a.2.2.1 ++ b.2.2.1, a.2.2.2 ++ b.2.2.2)) = some (ns, es, us, fs) →
    (∀ {m1 : Mem} {ds : List DV} {F : List (List Nat)}, ds.length = p.2.length → F.length = p.2.length → vv.length = p.2.length → (∀ (j : Nat) k d v f, p.2[j]? = some k → ds[j]? = some d → vv[j]? = some v → F[j]? = some f → RetC T m1 k d v f) → RetP1 T m1 p ds F v) →
    ∃ m', Froze T w0 S0 m us m' ∧ (∀ b el e fz, m.h b = .arr el e fz → ∃ fz', m'.h b = .arr el e fz') ∧ ∃ F : List (List Nat), F.flatten = fs ∧ RetPs T m' (p :: ps) (es.map (·.den m.env)) F (v :: vs) := fun cs vv hc h hA => by
   obtain ⟨⟨n1, e1, u1, f1⟩, h1, h2⟩ := Option.bind_eq_some_iff.1 h
   obtain ⟨⟨n2, e2, u2, f2⟩, h3, h4⟩ := Option.bind_eq_some_iff.1 h2
   cases h4
   obtain ⟨m1, g1, l1, l2, b1, qs, q1, q2, q3⟩ := retL_ok _ _ _ hm hc h1 hn.left
   obtain ⟨m2, g2, b2, F, F1, F2⟩ := retP_ok ps ss vs (m := m1) g1.ok (by rw [g1.h]; exact h3) (by simpa using hl) (fun j s v hs hv => g1.keep.sv (hr (j + 1) s v hs hv)) (by rw [g1.env]; exact hn.right)
   rw [g1.env] at F2
   refine ⟨m2, g1.trans g2, fun b el e fz hb => ?_, qs ++ F, by simp [q2, F1], v, vs, rfl, ?_, ?_⟩
   ·obtain ⟨fz1, h5⟩ := b1 b el e fz hb
    exact b2 b el e fz1 h5
   ·rw [List.map_append, List.take_left' (by simp [l1]), List.take_left' q1]
    refine (hA (m1 := m1) (by simp [l1]) q1 l2 (fun j k d v f hk hd hv hf => ?_)).imp (fun k d v f hrc => hrc.keep g2 b2)
    rw [List.getElem?_map] at hd
    cases he : e1[j]? with
    | none => rw [he] at hd; cases hd
    | some e => rw [he] at hd; cases hd; exact q3 j k e v f hk he hv hf
   ·rw [List.map_append, List.drop_left' (by simp [l1]), List.drop_left' q1]
    exact F2
  simp only [Option.bind_eq_bind] at h
  split at h
  ·rename_i cs hp1
   obtain ⟨a, rfl, hc⟩ := hs
   simp only [Option.bind_some] at h
   exact key cs a.toList hc h (fun {m1 ds F} h1 h2 h3 h4 => ⟨h1, h2, .inl ⟨hp1, a, rfl, by simpa using h3, fun j k d f hk hd hf => by
     have hjl := (List.getElem?_eq_some_iff.1 hk).1
     have hz : a.size = p.2.length := by simpa using h3
     exact ⟨a[j], Array.getElem?_eq_getElem (by omega), h4 j k d _ f hk hd (by rw [Array.getElem?_toList]; exact Array.getElem?_eq_getElem (by omega)) hf⟩⟩⟩)
  ·rename_i c hp1
   split at h
   case isFalse => cases h
   rename_i hk1
   simp only [Option.bind_some] at h
   obtain ⟨px, pk⟩ := p
   cases pk with
   | nil => cases hk1
   | cons k ks' =>
   cases ks' with
   | cons _ _ => simp at hk1
   | nil =>
   have hone : v.oneCell' = true := by
    obtain ⟨⟨n1, e1, u1, f1⟩, h1, h7⟩ := Option.bind_eq_some_iff.1 h
    obtain ⟨⟨n2, e2, u2, f2⟩, h8, h9⟩ := Option.bind_eq_some_iff.1 h7
    cases h9
    unfold retL at h1
    obtain ⟨⟨n3, e3, u3, f3⟩, h3, h4⟩ := Option.bind_eq_some_iff.1 h1
    obtain ⟨⟨n4, e4, u4, f4⟩, h5, h6⟩ := Option.bind_eq_some_iff.1 h4
    cases h6
    exact (retC_ok hm h3 hs hn.left.left).choose_spec.2.2.2
   refine key [c] [v] ⟨rfl, fun j c' hj => by
     cases j with
     | zero => cases hj; exact ⟨v, rfl, hone, hs⟩
     | succ j => cases hj⟩ h (fun {m1 ds F} g1 g2 g3 g4 => ?_)
   cases ds with
   | nil => cases g1
   | cons d ds2 =>
   cases ds2 with
   | cons _ _ => simp at g1
   | nil =>
   cases F with
   | nil => cases g2
   | cons f F2 =>
   cases F2 with
   | cons _ _ => simp at g2
   | nil => exact ⟨rfl, rfl, .inr ⟨hp1, k, d, f, rfl, rfl, rfl, g4 0 k d v f rfl rfl rfl rfl⟩⟩
  ·cases h
def qOf (m : Mem) : List Nat → Option Nat
 | [b] => m.at_ b
 | _ => none
theorem retC_res (hX : ∀ q, ¬ w0.X q) (hm : MOk T w0 S0 m) {k : CK × Bool} {d : DV} {v : Value} {f : List Nat} (h : RetC T m k d v f) (hf : ∀ b ∈ f, (m.h b).frz = false) : ResC T m.w m.S w0.heap.size k d v (qOf m f) := by
 rcases h with ⟨h1, rfl, h3⟩ | ⟨h1, el, h2, h3⟩
 ·exact .inl ⟨h1, rfl, h3⟩
 ·rcases h3 with ⟨rfl, h4, rfl, rfl⟩ | ⟨b, rfl, h4, e, fz, h5, h6⟩
  ·obtain ⟨cks, hk⟩ := Option.isSome_iff_exists.1 h4
   exact .inr ⟨h1, el, [], h2, rfl, cks, hk, by simp, by simp, .inl ⟨rfl, rfl, rfl⟩⟩
  ·have hfz := hf b (List.mem_singleton.2 rfl)
   rw [h5] at hfz
   obtain rfl : fz = false := hfz
   obtain ⟨rows, cks, k1, k2, k3, k4, k5⟩ := h5 ▸ hm.blk b
   rcases h4 with h4 | ⟨e', fz', rows', cap, g1, g2, g3⟩
   ·rw [h5] at h4; cases h4
   rw [h5] at g1; cases g1
   rw [k1] at g2; cases g2
   rw [k1] at h6
   refine .inr ⟨h1, el, rows, h2, h6.symm, cks, k2, k3, k4, ?_⟩
   unfold SlR at g3
   rcases k5 with ⟨k5, rfl⟩ | ⟨q, base, c, t, k5, k6, k7, k8, _⟩
   ·rw [k5] at g3
    exact .inl ⟨by simp [qOf, Mem.at_, k5], rfl, g3.2.2⟩
   ·rw [k5] at g3
    obtain ⟨sz, ad, s1, s2, s3, s4, s5⟩ := g3
    obtain rfl := size_cks s1 k2
    have hat : m.at_ b = some q := by simp [Mem.at_, k5]
    obtain ⟨n1, n2⟩ := hm.new b q (by rw [h5]; rfl) hat
    have n1 : w0.heap.size ≤ q := n1.resolve_right (hX q)
    exact .inr ⟨q, base, c, t, cap, ad, hat, s2, fun hc => by rw [s3 hc]; simp, s4, n1, n2 (by rw [h5]; rfl), k6, by simpa using s5, k8⟩
theorem retP1_res (hX : ∀ q, ¬ w0.X q) (hm : MOk T w0 S0 m) {p : Bool × List (CK × Bool)} {ds : List DV} {F : List (List Nat)} {v : Value} (h : RetP1 T m p ds F v) (hf : ∀ f ∈ F, ∀ b ∈ f, (m.h b).frz = false) : ResP T m.w m.S w0.heap.size p ds (F.map (qOf m)) v := by
 obtain ⟨l1, l2, h⟩ := h
 refine ⟨l1, by simp [l2], ?_⟩
 rcases h with ⟨h1, a, h2, h3, h4⟩ | ⟨h1, k, d, f, h2, h3, rfl, h5⟩
 ·refine .inl ⟨h1, a, h2, h3, fun j k d q hk hd hq => ?_⟩
  rw [List.getElem?_map] at hq
  cases hF : F[j]? with
  | none => rw [hF] at hq; cases hq
  | some f =>
   rw [hF] at hq; cases hq
   obtain ⟨u, hu, hr⟩ := h4 j k d f hk hd hF
   exact ⟨u, hu, retC_res hX hm hr (hf f (List.mem_of_getElem? hF))⟩
 ·exact .inr ⟨h1, k, d, qOf m f, h2, h3, rfl, retC_res hX hm h5 (hf f (List.mem_singleton.2 rfl))⟩
theorem retPs_res (hX : ∀ q, ¬ w0.X q) (hm : MOk T w0 S0 m) : ∀ {ps : List (Bool × List (CK × Bool))} {ds : List DV} {F : List (List Nat)} {vs : List Value}, RetPs T m ps ds F vs → (∀ f ∈ F, ∀ b ∈ f, (m.h b).frz = false) → ResL T m.w m.S w0.heap.size ps ds (F.map (qOf m)) vs
 | [], ds, F, vs, h, _ => ⟨h.1, by rw [h.2.1]; rfl, h.2.2⟩
 | p :: ps, ds, F, vs, h, hf => by
  obtain ⟨v, vs', h1, h2, h3⟩ := h
  refine ⟨v, vs', h1, ?_, ?_⟩
  ·rw [← List.map_take]
   exact retP1_res hX hm h2 (fun f hfm => hf f (List.mem_of_mem_take hfm))
  ·rw [← List.map_drop]
   exact retPs_res hX hm h3 (fun f hfm => hf f (List.mem_of_mem_drop hfm))
theorem flat_at : ∀ {F : List (List Nat)} {i j b : Nat} {f g : List Nat}, F.flatten.Nodup → F[i]? = some f → F[j]? = some g → b ∈ f → b ∈ g → i = j
 | [], _, _, _, _, _, _, h, _, _, _ => by cases h
 | x :: F, i, j, b, f, g, hn, hi, hj, hf, hg => by
  rw [List.flatten_cons, List.nodup_append] at hn
  obtain ⟨n1, n2, n3⟩ := hn
  cases i with
  | zero =>
   cases j with
   | zero => rfl
   | succ j =>
    simp at hi hj
    subst hi
    exact absurd rfl (n3 b hf b (List.mem_flatten.2 ⟨g, List.mem_of_getElem? hj, hg⟩))
  | succ i =>
   cases j with
   | zero =>
    simp at hi hj
    subst hj
    exact absurd rfl (n3 b hg b (List.mem_flatten.2 ⟨f, List.mem_of_getElem? hi, hf⟩))
   | succ j =>
    have := flat_at n2 (by simpa using hi) (by simpa using hj) hf hg
    omega
end
section
variable {P : Program} {H : Help} {T : Tab} {w0 : W0} {S0 : Nat → Prop} {m m' : Mem}
def rvS (tmps : Array Value) : ResultVar → Sem Value
 | .tmp t => pure (tmps.getD t undef)
 | .cell a t => do loadVar t (← asAddr (tmps.getD a undef))
theorem loadAt_as {t : TypeId} {v u : Value} {w w' : World} (h : (Instr.loadAt t v).run P w = .ok u w') : (do loadVar t (← asAddr v) : Sem Value).run P w = .ok u w' := by
 unfold Instr.loadAt at h
 cases v with
 | pointer a =>
  cases a with
  | none => simp [Instr.sureAddr] at h
  | some a => simpa [Instr.sureAddr, asAddr] using h
 | _ => simp [Instr.sureAddr] at h
theorem resS_ok (hT : T.Ok P) {st : St} {env : List DV} {a : Act} (hr : StR T w0 S0 st env a m) : ∀ {l : List ResultVar} {ns ss}, resS T st l = some (ns, ss) → needsOk env ns →
  ∃ vs, (l.mapM (rvS a.tmps)).run P m.w = .ok vs m.w ∧ vs.length = ss.length ∧ vs.length = l.length ∧ ∀ (j : Nat) s v, ss[j]? = some s → vs[j]? = some v → SVr T m s v
 | [], ns, ss, h, hn => by cases h; exact ⟨[], by simp, rfl, rfl, fun j s v hs => by cases hs⟩
 | .tmp t :: l, ns, ss, h, hn => by
  unfold resS at h
  obtain ⟨⟨n1, s1⟩, h1, h2⟩ := Option.bind_eq_some_iff.1 h
  cases h2
  obtain ⟨vs, g1, g2, g3, g4⟩ := resS_ok hT hr h1 hn
  refine ⟨a.tmps.getD t undef :: vs, by simp [List.mapM_cons, rvS, g1], by simp [g2], by simp [g3], fun j s v hs hv => ?_⟩
  cases j with
  | zero => cases hs; cases hv; exact hr.sl t
  | succ j => exact g4 j s v hs hv
 | .cell b ty :: l, ns, ss, h, hn => by
  unfold resS at h
  obtain ⟨⟨n0, s0⟩, h0, h1⟩ := Option.bind_eq_some_iff.1 h
  obtain ⟨⟨n1, s1⟩, h2, h3⟩ := Option.bind_eq_some_iff.1 h1
  cases h3
  obtain ⟨vs, g1, g2, g3, g4⟩ := resS_ok hT hr h2 hn.right
  obtain ⟨u, k1, k2⟩ := load_ok (P := P) hT hr.ok (by rw [hr.h]; exact h0) (hr.sl b) (by rw [hr.env]; exact hn.left)
  have k3 := loadAt_as k1
  refine ⟨u :: vs, ?_, by simp [g2], by simp [g3], fun j s v hs hv => ?_⟩
  ·rw [List.mapM_cons]
   rw [Sem.run_bind, show rvS a.tmps (.cell b ty) = (do loadVar ty (← asAddr (a.tmps.getD b undef)) : Sem Value) from rfl, k3]
   simp [g1]
  ·cases j with
   | zero => cases hs; cases hv; exact k2
   | succ j => exact g4 j s v hs hv
theorem results_run {fn : Func} {tmps : Array Value} {vs : List Value} {w : World} (h : (fn.results.toList.mapM (rvS tmps)).run P w = .ok vs w) : (results fn tmps).run P w = .ok (packV vs) w := by
 have key : ∀ g : ResultVar → Sem Value, (∀ x, g x = rvS tmps x) → (fn.results.mapM g).run P w = .ok vs.toArray w := fun g hg => by
  have : g = rvS tmps := funext hg
  subst this
  rw [Array.mapM_eq_mapM_toList]
  simp [h]
 unfold results
 rw [Sem.run_bind, key _ (fun x => by cases x <;> rfl)]
 simp only [Result.andThen_ok, Sem.run_pure]
 congr 1
 unfold packV
 match vs with
 | [] => rfl
 | [v] => rfl
 | v :: v2 :: r => simp
theorem retPs_mem : ∀ {ps : List (Bool × List (CK × Bool))} {ds : List DV} {F : List (List Nat)} {vs : List Value} {f : List Nat}, RetPs T m ps ds F vs → f ∈ F → ∃ k d v, RetC T m k d v f
 | [], ds, F, vs, f, h, hf => by rw [h.2.1] at hf; cases hf
 | p :: ps, ds, F, vs, f, h, hf => by
  obtain ⟨v, vs', h1, h2, h3⟩ := h
  rw [← List.take_append_drop p.2.length F] at hf
  rcases List.mem_append.1 hf with hf | hf
  ·obtain ⟨l1, l2, h2⟩ := h2
   obtain ⟨j, hj⟩ := List.mem_iff_getElem?.1 hf
   have hjl := (List.getElem?_eq_some_iff.1 hj).1
   rcases h2 with ⟨_, a, _, _, h4⟩ | ⟨_, k, d, g, g1, g2, g3, g4⟩
   ·obtain ⟨u, _, hr⟩ := h4 j p.2[j] (ds.take p.2.length)[j] f (List.getElem?_eq_getElem (by omega)) (List.getElem?_eq_getElem (by omega)) hj
    exact ⟨_, _, _, hr⟩
   ·rw [g3] at hj
    cases j with
    | zero => cases hj; exact ⟨_, _, _, g4⟩
    | succ j => cases hj
  ·exact retPs_mem h3 hf
theorem parS_ok {w : World} {S : Nat → Prop} {das : List DV} : ∀ {ps : List (Bool × List CK)} {i n : Nat} {vals : List Value}, ArgsR T w S ps (das.drop n) vals → ∀ (j : Nat) s, (parS i n ps).lookup j = some s → i ≤ j ∧ ∃ v, vals[j - i]? = some v ∧ SVr T { env := das, w := w, S := S, ρ := fun _ => none, h := fun _ => .no } s v
 | [], i, n, vals, h, j, s, hj => by cases hj
 | (x, ks) :: ps, i, n, vals, h, j, s, hj => by
  obtain ⟨v, vs, rfl, h1, h2⟩ := h
  unfold parS at hj
  rw [List.lookup_cons] at hj
  split at hj
  ·rename_i hk
   have hji : j = i := eq_of_beq hk
   subst hji
   refine ⟨Nat.le_refl _, v, by simp, ?_⟩
   simp only [Option.some.injEq] at hj
   subst hj
   obtain ⟨l1, h1⟩ := h1
   simp only at l1
   have hget : ∀ (j : Nat), j < ks.length → ((das.drop n).take ks.length)[j]? = some (das.getD (n + j) (.I 0)) := fun j hj => by
    rw [List.getElem?_take, if_pos hj, List.getElem?_drop, List.getD_eq_getElem?_getD]
    have : j < (das.drop n).length := by
     have := l1; simp at this ⊢; omega
    rw [List.getElem?_eq_getElem (by simp at this; omega)]
    rfl
   rcases h1 with ⟨hx, a, rfl, ha, hh⟩ | ⟨hx, k, d, hk1, hd1, hrd⟩
   ·simp only at hx; subst hx
    simp only [if_true]
    refine ⟨a, rfl, by simp [ha], fun q c hq => ?_⟩
    rw [List.getElem?_map, List.getElem?_zipIdx] at hq
    cases hkq : ks[q]? with
    | none => rw [hkq] at hq; cases hq
    | some k =>
     rw [hkq] at hq
     simp at hq
     subst hq
     obtain ⟨u, hu, hr⟩ := hh q k _ hkq (hget q (List.getElem?_eq_some_iff.1 hkq).1)
     exact ⟨u, by rw [Array.getElem?_toList]; exact hu, hr.one, hr⟩
   ·simp only at hx; subst hx
    simp only at hk1
    subst hk1
    have := hget 0 (by simp)
    rw [hd1] at this
    simp at this
    subst this
    simp only [Bool.false_eq_true, if_false]
    exact hrd
  ·obtain ⟨g1, v', g2, g3⟩ := parS_ok (i := i + 1) (n := n + ks.length) (by rw [← List.drop_drop]; exact h2) j s hj
   refine ⟨by omega, v', ?_, g3⟩
   rw [show j - i = (j - (i + 1)) + 1 by omega, List.getElem?_cons_succ]
   exact g2
theorem parS_bd : ∀ {ps : List (Bool × List CK)} {i n : Nat}, ∀ p ∈ parS i n ps, p.2.bd (n + parN ps) = true
 | [], i, n, p, hp => by cases hp
 | (x, ks) :: ps, i, n, p, hp => by
  have hN : parN ((x, ks) :: ps) = ks.length + parN ps := by simp [parN]
  rw [hN]
  unfold parS at hp
  rcases List.mem_cons.1 hp with rfl | hp
  ·dsimp only
   split
   ·refine List.all_eq_true.2 fun c hc => ?_
    obtain ⟨⟨k, j⟩, hk, rfl⟩ := List.mem_map.1 hc
    have := (List.mem_zipIdx hk).2.1
    simp [CV.bd, E.bd] at this ⊢; omega
   ·split
    ·simp [SV.bd, CV.bd, E.bd]; omega
    ·rfl
  ·have := parS_bd (ps := ps) p hp
   rw [show n + (ks.length + parN ps) = n + ks.length + parN ps by omega]
   exact this
theorem fn_sound (hT : H.T.Ok P) (hgo : ∀ f sg, H.sig f = some sg → isGo P (keyF f) = true) (hdr : DrawsOk P H) {f : FuncId} {fn : Func} {sg : Sig} {tree : Tree} (hf : P.funcs[f]? = some fn) (ht : fnTree H sg fn = some tree) {das rs : List DV} (hl : das.length = parN sg.params)
  (hd : tree.den (SpF P H.T H.sig) (fun es => es = rs) das []) : Sp0 P H.T sg f das rs := by
 intro w S vals hS hargs
 unfold fnTree at ht
 obtain ⟨c, hb, h1⟩ := Option.bind_eq_some_iff.1 ht
 split at h1
 case isFalse => cases h1
 rename_i hpar
 refine calls_of_wp hf hb ?_
 have hvl : vals.length = sg.params.length := by
  clear ht h1 hd
  have : ∀ {ps : List (Bool × List CK)} {ds : List DV} {vs : List Value}, ArgsR H.T w S ps ds vs → vs.length = ps.length := fun {ps} => by
   induction ps with
   | nil => intro ds vs h; rw [h.2]; rfl
   | cons p ps ih => intro ds vs h; obtain ⟨v, vs', rfl, _, h2⟩ := h; simp [ih h2]
  exact this hargs
 have hm : MOk H.T ⟨w, fun _ => False, fun _ => none⟩ S { env := das, w := w, S := S, ρ := fun _ => none, h := fun _ => .no } := ⟨fun b => trivial, fun b b' q l => (by cases l), fun b q l => (by cases l), hS, Low.refl, fun q h => h, fun q h => .inl h, hS, fun b p h => (by cases h)⟩
 have hst : StR H.T ⟨w, fun _ => False, fun _ => none⟩ S { t := parS 0 0 sg.params, h := [], nb := 0, ne := parN sg.params, lv := 0, nt := fn.ntmps } das { tmps := vals.toArray ++ Array.replicate (fn.ntmps - vals.toArray.size) undef, defers := [] } { env := das, w := w, S := S, ρ := fun _ => none, h := fun _ => .no } := by
  refine ⟨rfl, hm, rfl, fun i => ?_, rfl, by simp; omega, (fun p hp => by cases hp), fun p hp => ?_, (fun p hp => by cases hp)⟩
  ·unfold St.get
   cases hlk : (parS 0 0 sg.params).lookup i with
   | none => trivial
   | some s =>
    obtain ⟨_, v, h2, h3⟩ := parS_ok (das := das) (by simpa using hargs) i s hlk
    simp only [Nat.sub_zero] at h2
    have hil := (List.getElem?_eq_some_iff.1 h2).1
    rw [Array.getD_eq_getD_getElem?, Array.getElem?_append_left (by simpa using hil), List.getElem?_toArray, h2]
    exact h3
  ·have := parS_bd p hp
   simpa using this
 refine wp_mono (exec_sound (w0 := ⟨w, fun _ => False, fun _ => none⟩) (S0 := S) (post := fun es => es = rs) hT hgo hdr (fun b p h => by cases h) c _ _ tree das [] _ _ h1 hl rfl hst hd) fun x a' w' hp => ?_
 obtain ⟨ax, st', tr, ex, ecx, m', h2, h3, h4, h5, h6, h7, rfl⟩ := hp
 have fin : retT H.T sg fn st' = some tr → a'.defers = [] ∧ ∃ v, (results fn a'.tmps).run P m'.w = .ok v m'.w ∧ ∃ vs qs S', Ending.returned v = .returned (packV vs) ∧ Below w.heap.size w m'.w ∧ (∀ q, S' q → (S q ∨ w.heap.size ≤ q) ∧ q < m'.w.heap.size) ∧ Apart qs ∧ ResL H.T m'.w S' w.heap.size sg.results rs qs vs := fun h3 => by
  unfold retT at h3
  obtain ⟨⟨ns, ss⟩, g1, g2⟩ := Option.bind_eq_some_iff.1 h3
  obtain ⟨⟨ns', es, us, fs⟩, g3, g4⟩ := Option.bind_eq_some_iff.1 g2
  dsimp only at g4
  split at g4
  case isFalse => cases g4
  rename_i hc
  cases g4
  simp only [Bool.and_eq_true, decide_eq_true_eq, List.all_eq_true] at hc
  obtain ⟨⟨c1, c2⟩, c3⟩ := hc
  obtain ⟨d1, d2⟩ := wrapN_den h4
  obtain ⟨vs, k1, k2, k3, k4⟩ := resS_ok (P := P) hT h7 g1 d1.left
  obtain ⟨m2, f1, b1, F, F1, F2⟩ := retP_ok (w0 := ⟨w, fun _ => False, fun _ => none⟩) (S0 := S) sg.results ss vs h7.ok (by rw [h7.h]; exact g3) k2 k4 (by rw [h7.env]; exact d1.right)
  have hfz : ∀ f ∈ F, ∀ b ∈ f, (m2.h b).frz = false := fun f hf' b hb' => by
   have := c2 b (by rw [← F1]; exact List.mem_flatten.2 ⟨f, hf', hb'⟩)
   rw [f1.h, h7.h]
   simpa using this
  have hres := retPs_res (fun _ h => h) f1.ok F2 hfz
  have hrs : es.map (·.den m'.env) = rs := by rw [h7.env]; exact d2
  rw [hrs, f1.w] at hres
  refine ⟨h7.df, packV vs, results_run k1, vs, F.map (qOf m2), m2.S, rfl, h7.ok.low.whole (fun _ h => h), fun q hq => ⟨(f1.ok.s1 q hq).imp id (fun h => h.resolve_right (fun x => x)), by have := f1.ok.sz q hq; rw [f1.w] at this; exact this⟩, fun i j q hi hj => ?_, hres⟩
  have inv : ∀ i, (F.map (qOf m2))[i]? = some (some q) → ∃ b, F[i]? = some [b] ∧ m2.at_ b = some q := fun i hi => by
   rw [List.getElem?_map] at hi
   cases hF : F[i]? with
   | none => rw [hF] at hi; cases hi
   | some f =>
    rw [hF] at hi
    simp only [Option.map_some, Option.some.injEq] at hi
    match f, hF, hi with
    | [b], hF, hi => exact ⟨b, hF, hi⟩
    | [], _, hi => cases hi
    | _ :: _ :: _, _, hi => cases hi
  obtain ⟨bi, hi1, hi2⟩ := inv i hi
  obtain ⟨bj, hj1, hj2⟩ := inv j hj
  have live : ∀ (i : Nat) b, F[i]? = some [b] → (m2.h b).live = true := fun i b hib => by
   obtain ⟨k, d, v, h⟩ := retPs_mem F2 (List.mem_of_getElem? hib)
   rcases h with ⟨_, h, _⟩ | ⟨_, el, _, h⟩
   ·cases h
   ·rcases h with ⟨h, _⟩ | ⟨b', hb', _, e, fz, h5, _⟩
    ·cases h
    ·cases hb'; rw [h5]; rfl
  have := f1.ok.inj bi bj q (live i bi hi1) (live j bj hj1) hi2 hj2
  subst this
  exact flat_at (by rw [F1]; exact c1) hi1 hj1 (List.mem_singleton.2 rfl) (List.mem_singleton.2 rfl)
 cases ax with
 | normal => cases h2; exact fin h3
 | ret => cases h2; exact fin h3
 | exit i => cases h3
end
def rootsP (pt : Pat) : List (CV × CV) := (List.range pt.kb).filterMap fun j => match blkOf pt.h1 j with
 | .box _ => some (.rp j 0, .rp j 0)
 | .arr el _ _ => some (.own j el, .own j el)
 | _ => none
def lenE (pt : Pat) (es : List E) (j : Nat) : Option (List E) := match blkOf pt.h0 j, blkOf pt.h1 j with
 | .box _, .box _ => some []
 | .arr el e false, .arr el' (.V k) false => if el = el' then (es[k]?).map fun x => [.O .eq (.U .len e) (.U .len x)] else none
 | _, _ => none
def lensE (pt : Pat) (es : List E) : List Nat → Option (List E)
 | [] => some []
 | j :: r => do
  let a ← lenE pt es j
  let b ← lensE pt es r
  some (a ++ b)
def retTP (T : Tab) (pt : Pat) (fn : Func) (st : St) : Option Tree := do
 let (ns, ss) ← resS T st fn.results.toList
 let (ns', es, β, us) ← packE T st.blk (rootsP pt) pt.t1 pt.h1 pt.n1 ss
 let l ← lensE pt es (List.range pt.kb)
 if (List.range pt.kb).all fun j => β.lookup j == some (some j) then some (wrapN ((ns ++ ns') ++ l) (.ret es)) else none
def okPat (H : Help) (pt : Pat) (fn : Func) : Bool :=
 decide (pt.t0.length ≤ fn.ntmps) && (decide (H.kb = pt.kb) && (pt.t0.all (·.bd pt.n0) && (pt.h0.all (fun p => p.2.bd pt.n0) && (List.range pt.kb).all fun j => blkOf pt.h0 j != .no)))
def fnTreeP (H : Help) (pt : Pat) (fn : Func) : Option Tree := do
 let c ← fn.body
 if okPat H pt fn then
  exec H c { t := pt.t0.zipIdx.map fun p => (p.2, p.1), h := pt.h0, nb := nextB 0 pt.h0, ne := pt.n0, lv := 0, nt := fn.ntmps } fun x s => match x with
   | .exit _ => none
   | _ => retTP H.T pt fn s
 else none
section
variable {P : Program} {H : Help} {T : Tab} {w0 : W0} {S0 : Nat → Prop} {m m' : Mem}
theorem lensE_mem {pt : Pat} {es : List E} : ∀ {js : List Nat} {l : List E}, lensE pt es js = some l → ∀ j ∈ js, ∃ a, lenE pt es j = some a ∧ ∀ e ∈ a, e ∈ l
 | [], l, h, j, hj => by cases hj
 | i :: js, l, h, j, hj => by
  unfold lensE at h
  obtain ⟨a, h1, h2⟩ := Option.bind_eq_some_iff.1 h
  obtain ⟨b, h3, h4⟩ := Option.bind_eq_some_iff.1 h2
  cases h4
  rcases List.mem_cons.1 hj with rfl | hj
  ·exact ⟨a, h1, fun e he => List.mem_append.2 (.inl he)⟩
  ·obtain ⟨a', g1, g2⟩ := lensE_mem h3 j hj
   exact ⟨a', g1, fun e he => List.mem_append.2 (.inr (g2 e he))⟩
theorem zip_look : ∀ (l : List SV) (n i : Nat), ((l.zipIdx n).map fun p => (p.2, p.1)).lookup i = if n ≤ i then l[i - n]? else none
 | [], n, i => by simp
 | s :: l, n, i => by
  rw [List.zipIdx_cons, List.map_cons, List.lookup_cons]
  by_cases h : i = n
  ·subst h; simp
  ·rw [show (i == n) = false by simpa using h]
   simp only
   rw [zip_look l (n + 1) i]
   by_cases h2 : n ≤ i
   ·rw [if_pos h2, if_pos (by omega), show i - n = (i - (n + 1)) + 1 by omega, List.getElem?_cons_succ]
   ·rw [if_neg h2, if_neg (by omega)]
theorem fn_soundP (hT : H.T.Ok P) (hgo : ∀ f sg, H.sig f = some sg → isGo P (keyF f) = true) (hdr : DrawsOk P H) {f : FuncId} {fn : Func} {pt : Pat} {tree : Tree} (hf : P.funcs[f]? = some fn) (ht : fnTreeP H pt fn = some tree) {das rs : List DV} (hl : das.length = pt.n0)
  (hd : tree.den (SpF P H.T H.sig) (fun es => es = rs) das []) : SpP P H.T pt f das rs := by
 intro m vals hde hh hin hv
 unfold fnTreeP at ht
 obtain ⟨c, hb, h1⟩ := Option.bind_eq_some_iff.1 ht
 split at h1
 case isFalse => cases h1
 rename_i hok
 unfold okPat at hok
 simp only [Bool.and_eq_true, decide_eq_true_eq, List.all_eq_true] at hok
 obtain ⟨o1, o2, o3, o4, o5⟩ := hok
 refine calls_of_wp hf hb ?_
 have hvl := hv.1
 have hm : MOk H.T ⟨m.w, XOf m, fun b => if b < pt.kb then some (m.ρ b) else none⟩ m.S m := ⟨hin.blk, hin.inj, fun b q l a => ⟨.inr ⟨b, l, a⟩, hin.new b q l a⟩, hin.sz, Low.refl, fun q h => h, fun q h => .inl h, hin.sz, fun b p h => by
   dsimp only at h
   split at h
   · rename_i hbk
     cases h
     have := o5 b (List.mem_range.2 hbk)
     exact ⟨by rw [hh]; simpa using this, fun _ => rfl⟩
   · cases h⟩
 have hst : StR H.T ⟨m.w, XOf m, fun b => if b < pt.kb then some (m.ρ b) else none⟩ m.S { t := pt.t0.zipIdx.map fun p => (p.2, p.1), h := pt.h0, nb := nextB 0 pt.h0, ne := pt.n0, lv := 0, nt := fn.ntmps } das { tmps := vals.toArray ++ Array.replicate (fn.ntmps - vals.toArray.size) undef, defers := [] } m := by
  refine ⟨hde, hm, hh, fun i => ?_, rfl, by simp; omega, fun p hp => (nextB_ge pt.h0 0).2 p hp, fun p hp => ?_, fun p hp => o4 p hp⟩
  ·unfold St.get
   rw [zip_look]
   simp only [Nat.zero_le, if_true, Nat.sub_zero]
   cases hs : pt.t0[i]? with
   | none => trivial
   | some s =>
    have hil := (List.getElem?_eq_some_iff.1 hs).1
    have hvi : vals[i]? = some vals[i] := List.getElem?_eq_getElem (by omega)
    have := hv.2 i s vals[i] hs hvi
    rw [Array.getD_eq_getD_getElem?, Array.getElem?_append_left (by simp; omega), List.getElem?_toArray, hvi]
    exact this
  ·obtain ⟨⟨s, j⟩, hs, rfl⟩ := List.mem_map.1 hp
   exact o3 s (List.fst_mem_of_mem_zipIdx hs)
 refine wp_mono (exec_sound (w0 := ⟨m.w, XOf m, fun b => if b < pt.kb then some (m.ρ b) else none⟩) (S0 := m.S) (post := fun es => es = rs) hT hgo hdr (fun b p h => by
   dsimp only at h
   split at h
   · rw [o2]; assumption
   · cases h) c _ _ tree das [] _ _ h1 hl rfl hst hd) fun x a' w' hp => ?_
 obtain ⟨ax, st', tr, ex, ecx, m', h2, h3, h4, h5, h6, h7, rfl⟩ := hp
 have fin : retTP H.T pt fn st' = some tr → a'.defers = [] ∧ ∃ v, (results fn a'.tmps).run P m'.w = .ok v m'.w ∧ ∃ vs m2, Ending.returned v = .returned (packV vs) ∧ m2.w = m'.w ∧ ValsR H.T m2 pt.t1 vs ∧ Back H.T pt m m2 rs := fun h3 => by
  unfold retTP at h3
  obtain ⟨⟨ns, ss⟩, g1, g2⟩ := Option.bind_eq_some_iff.1 h3
  obtain ⟨⟨ns', es, β, us⟩, g3, g4⟩ := Option.bind_eq_some_iff.1 g2
  obtain ⟨ls, g5, g6⟩ := Option.bind_eq_some_iff.1 g4
  split at g6
  case isFalse => cases g6
  rename_i hc
  cases g6
  obtain ⟨d1, d2⟩ := wrapN_den h4
  obtain ⟨vs, k1, k2, k3, k4⟩ := resS_ok (P := P) hT h7 g1 d1.left.left
  obtain ⟨m1, f1, p1, p2, p3, p4, p5⟩ := pack_ok h7.ok (by rw [h7.h]; exact g3) ⟨k2, k4⟩ (by rw [h7.env]; exact d1.left.right)
  have hrs : es.map (·.den m'.env) = rs := by rw [h7.env]; exact d2
  rw [hrs] at p1 p2
  have hβ : ∀ j, j < pt.kb → β.lookup j = some (some j) := fun j hj => by
   have := List.all_eq_true.1 hc j (List.mem_range.2 hj)
   simpa using this
  have hlen : ∀ j, j < pt.kb → (∃ l l', blkOf pt.h0 j = .box l ∧ blkOf pt.h1 j = .box l') ∨ ∃ el e e' rows rows', blkOf pt.h0 j = .arr el e false ∧ blkOf pt.h1 j = .arr el e' false ∧ e.den m.env = .L rows ∧ e'.den rs = .L rows' ∧ rows'.length = rows.length := fun j hj => by
   obtain ⟨a, q1, q2⟩ := lensE_mem g5 j (List.mem_range.2 hj)
   unfold lenE at q1
   split at q1
   ·rename_i b0 b1; exact .inl ⟨_, _, b0, b1⟩
   ·rename_i el e el' k b0 b1
    split at q1
    case isFalse => cases q1
    rename_i he
    subst he
    cases hk : es[k]? with
    | none => rw [hk] at q1; cases q1
    | some x =>
    rw [hk] at q1
    cases q1
    have hn := d1.right _ (q2 _ (List.mem_singleton.2 rfl))
    obtain ⟨rows, cks, r1, _⟩ : BlkR H.T m j (.arr el e false) := by rw [← b0, ← hh]; exact hin.blk j
    obtain ⟨rows', cks', r1', _⟩ : BlkR H.T (renM m1 rs β (blkOf pt.h1)) j (.arr el (.V k) false) := by rw [← b1]; exact p1.blk j
    have hbd : e.bd das.length = true := by
     rw [hl]
     cases hlk : pt.h0.lookup j with
     | none => unfold blkOf at b0; rw [hlk] at b0; cases b0
     | some y =>
      unfold blkOf at b0; rw [hlk] at b0
      have := o4 _ (lookup_mem hlk)
      simp only [Option.getD_some] at b0
      rw [b0] at this
      exact this
    have hx : (E.V k).den rs = x.den m'.env := by
     simp only [E.den]
     rw [← hrs, List.getD_eq_getElem?_getD, List.getElem?_map, hk]
     rfl
    refine .inr ⟨el, e, .V k, rows, rows', b0, b1, r1, r1', ?_⟩
    have r1'' : (E.V k).den rs = .L rows' := r1'
    rw [hx, h7.env] at r1''
    rw [hde] at r1
    simp only [E.den, O.den, U.den, E.den_ext das ex e hbd, r1, r1'', DV.rows, DV.int, DV.bool, decide_eq_true_eq] at hn
    omega
   ·cases q1
  have hlive : ∀ j, j < pt.kb → (blkOf pt.h1 j).live = true := fun j hj => by
   rcases hlen j hj with ⟨l, l', q1, q2⟩ | ⟨el, e, e', rows, rows', q1, q2, _⟩
   ·rw [q2]; rfl
   ·rw [q2]; rfl
  have hhas : ∀ b q, (m1.h b).live = true → m1.at_ b = some q → m.w.heap.size ≤ q ∨ XOf m q := fun b q l a => (f1.ok.new b q l a).1
  refine ⟨h7.df, packV vs, results_run k1, vs, renM m1 rs β (blkOf pt.h1), rfl, f1.w, p2, ⟨rfl, rfl, p1, ?_, fun j hj => ?_, hlen, fun b q l a => ?_, f1.ok.s0, f1.ok.s1⟩⟩
  ·have := f1.ok.low
   exact ⟨this.os, this.tape, this.output, this.size, this.block⟩
  ·show (match β.lookup j with | some (some b') => m1.ρ b' | _ => none) = _
   rw [hβ j hj]
   have hlv := (ren_live (p4 j) (hβ j hj) (hlive j hj)).1
   exact (f1.ok.kept j (m.ρ j) (by simp [hj])).2 hlv
  ·obtain ⟨b', r1, r2⟩ := ren_at a
   exact hhas b' q (ren_live (p4 b) r1 l).1 r2
 cases ax with
 | normal => cases h2; exact fin h3
 | ret => cases h2; exact fin h3
 | exit i => cases h3
end
def vs : Nat → Nat → List E
 | _, 0 => []
 | a, n + 1 => .V a :: vs (a + 1) n
def lit (l : List Int) : E := l.foldl (fun a n => .O .app a (.U .one (.O .cns .R (.I n)))) .N
theorem lit_aux (env : List DV) : ∀ (l : List Int) (a : E) (rows : List (List DV)), a.den env = .L rows → (l.foldl (fun a n => E.O .app a (.U .one (.O .cns .R (.I n)))) a).den env = .L (rows ++ l.map fun n => [.I n])
 | [], a, rows, h => by simpa using h
 | n :: l, a, rows, h => by
  rw [List.foldl_cons, lit_aux env l _ (rows ++ [[.I n]]) (by simp [E.den, O.den, U.den, h, DV.rows, DV.row])]
  simp
theorem lit_den (env : List DV) (l : List Int) : (lit l).den env = .L (l.map fun n => [.I n]) := by
 unfold lit
 rw [lit_aux env l .N [] rfl]
 simp
abbrev Kn := List (E × Bool)
def clash : E → E → Bool
 | .O .eq x (.I m), .O .eq y (.I n) => decide (x = y) && decide (m ≠ n)
 | _, _ => false
def lookK : Kn → E → Option Bool
 | [], _ => none
 | (k, b) :: r, e => if k = e then some b else if b && clash k e then some false else lookK r e
def maxO : Option Int → Int → Option Int
 | none, n => some n
 | some m, n => some (if m < n then n else m)
def minO : Option Int → Int → Option Int
 | none, n => some n
 | some m, n => some (if n < m then n else m)
def stepB (x : E) : E → Bool → Option Int × Option Int
 | .O .lt a (.I n), true => if a = x then (none, some (n - 1)) else (none, none)
 | .O .lt a (.I n), false => if a = x then (some n, none) else (none, none)
 | .O .lt (.I n) a, true => if a = x then (some (n + 1), none) else (none, none)
 | .O .lt (.I n) a, false => if a = x then (none, some n) else (none, none)
 | .O .le a (.I n), true => if a = x then (none, some n) else (none, none)
 | .O .le a (.I n), false => if a = x then (some (n + 1), none) else (none, none)
 | .O .le (.I n) a, true => if a = x then (some n, none) else (none, none)
 | .O .le (.I n) a, false => if a = x then (none, some (n - 1)) else (none, none)
 | .O .eq a (.I n), true => if a = x then (some n, some n) else (none, none)
 | _, _ => (none, none)
def loK : Kn → E → Option Int
 | [], _ => none
 | (k, v) :: r, x => match (stepB x k v).1 with
  | some n => maxO (loK r x) n
  | none => loK r x
def hiK : Kn → E → Option Int
 | [], _ => none
 | (k, v) :: r, x => match (stepB x k v).2 with
  | some n => minO (hiK r x) n
  | none => hiK r x
def aboveO : Option Int → Int → Bool
 | some m, n => decide (n < m)
 | none, _ => false
def belowO : Option Int → Int → Bool
 | some m, n => decide (m < n)
 | none, _ => false
def boundB (ks : Kn) : E → Option Bool
 | .O .lt a (.I n) => if belowO (hiK ks a) n then some true else if aboveO (loK ks a) (n - 1) then some false else none
 | .O .lt (.I n) a => if aboveO (loK ks a) n then some true else if belowO (hiK ks a) (n + 1) then some false else none
 | .O .le a (.I n) => if belowO (hiK ks a) (n + 1) then some true else if aboveO (loK ks a) n then some false else none
 | .O .le (.I n) a => if aboveO (loK ks a) (n - 1) then some true else if belowO (hiK ks a) n then some false else none
 | .O .eq a (.I n) => if aboveO (loK ks a) n || belowO (hiK ks a) n then some false else none
 | _ => none
def atomK (ks : Kn) (e : E) : Option Bool := match lookK ks e with
 | some b => some b
 | none => boundB ks e
def evalB (ks : Kn) : E → Option Bool
 | .B b => some b
 | .U .not e => (evalB ks e).map (!·)
 | .O .and a b => match evalB ks a with
  | some false => some false
  | some true => evalB ks b
  | none => match evalB ks b with
   | some false => some false
   | _ => none
 | .O .le a b => if a = b then some true else match a, b with
  | .I m, .I n => some (decide (m ≤ n))
  | _, _ => atomK ks (.O .le a b)
 | .O .lt a b => match a, b with
  | .I m, .I n => some (decide (m < n))
  | _, _ => atomK ks (.O .lt a b)
 | .O .eq a b => match a, b with
  | .I m, .I n => some (decide (m = n))
  | _, _ => atomK ks (.O .eq a b)
 | e => atomK ks e
def shortB (ks : Kn) : E → E
 | .O .and a b => match evalB ks a with
  | some true => shortB ks b
  | _ => match evalB ks b with
   | some true => shortB ks a
   | _ => .O .and (shortB ks a) (shortB ks b)
 | e => e
def stripN : E → Bool → E × Bool
 | .U .not e, b => stripN e (!b)
 | e, b => (e, b)
def addK (n : Nat) : E → Bool → Kn → Kn
 | .U .not e, b, ks => addK n e (!b) ks
 | .O .and x y, true, ks => addK n x true (addK n y true ks)
 | e, b, ks => if e.bd n then (e, b) :: ks else ks
def simpT : Nat → Kn → Tree → Tree
 | n, ks, .need e t => match evalB ks e with
  | some true => simpT n ks t
  | _ => .need (shortB ks e) (simpT n (addK n e true ks) t)
 | n, ks, .br e a b => match evalB ks e with
  | some true => simpT n ks a
  | some false => simpT n ks b
  | none => match stripN e true with
   | (e', true) => .br e' (simpT n (addK n e' true ks) a) (simpT n (addK n e' false ks) b)
   | (e', false) => .br e' (simpT n (addK n e' true ks) b) (simpT n (addK n e' false ks) a)
 | n, ks, .call f xs m t => .call f xs m (simpT (n + m) ks t)
 | n, ks, .loop is b => .loop is (simpT (n + is.length) ks b)
 | _, _, t => t
theorem dv_B (b : Bool) : (DV.B b).bool = b := rfl
theorem dv_I (n : Int) : (DV.I n).int = n := rfl
def KnOk (n : Nat) (env : List DV) (ks : Kn) : Prop := ∀ e b, (e, b) ∈ ks → e.bd n = true ∧ (e.den env).bool = b
theorem clash_ok {x y : E} {env : List DV} (h : clash x y = true) (hx : (x.den env).bool = true) : (y.den env).bool = false := by
 unfold clash at h
 split at h
 ·simp only [Bool.and_eq_true, decide_eq_true_eq] at h
  obtain ⟨rfl, h⟩ := h
  have h1 := of_decide_eq_true hx
  exact decide_eq_false (fun h2 => h (h1.symm.trans h2))
 ·cases h
theorem lookK_ok {n : Nat} {env : List DV} : ∀ {ks : Kn} {e : E} {b : Bool}, KnOk n env ks → lookK ks e = some b → (e.den env).bool = b
 | [], e, b, _, h => by cases h
 | (k, v) :: r, e, b, hk, h => by
  unfold lookK at h
  split at h
  ·rename_i he; subst he; cases h; exact (hk _ _ (List.mem_cons_self ..)).2
  ·split at h
   ·rename_i hc
    simp only [Bool.and_eq_true] at hc
    cases h
    have := (hk _ _ (List.mem_cons_self ..)).2
    rw [hc.1] at this
    exact clash_ok hc.2 this
   ·exact lookK_ok (fun e b he => hk e b (List.mem_cons_of_mem _ he)) h
theorem maxO_ok {o : Option Int} {n x : Int} (h : ∀ m, o = some m → m ≤ x) (hn : n ≤ x) : ∀ m, maxO o n = some m → m ≤ x := fun m hm => by
 cases o with
 | none => cases hm; exact hn
 | some k =>
  simp only [maxO, Option.some.injEq] at hm
  have := h k rfl
  split at hm <;> omega
theorem minO_ok {o : Option Int} {n x : Int} (h : ∀ m, o = some m → x ≤ m) (hn : x ≤ n) : ∀ m, minO o n = some m → x ≤ m := fun m hm => by
 cases o with
 | none => cases hm; exact hn
 | some k =>
  simp only [minO, Option.some.injEq] at hm
  have := h k rfl
  split at hm <;> omega
theorem ltT {a b : E} {env : List DV} (h : ((E.O .lt a b).den env).bool = true) : (a.den env).int < (b.den env).int := of_decide_eq_true h
theorem ltF {a b : E} {env : List DV} (h : ((E.O .lt a b).den env).bool = false) : (b.den env).int ≤ (a.den env).int := Int.not_lt.1 (of_decide_eq_false h)
theorem leT {a b : E} {env : List DV} (h : ((E.O .le a b).den env).bool = true) : (a.den env).int ≤ (b.den env).int := of_decide_eq_true h
theorem leF {a b : E} {env : List DV} (h : ((E.O .le a b).den env).bool = false) : (b.den env).int < (a.den env).int := Int.not_le.1 (of_decide_eq_false h)
theorem eqT {a b : E} {env : List DV} (h : ((E.O .eq a b).den env).bool = true) : (a.den env).int = (b.den env).int := of_decide_eq_true h
theorem mkltT {a b : E} {env : List DV} (h : (a.den env).int < (b.den env).int) : ((E.O .lt a b).den env).bool = true := decide_eq_true h
theorem mkltF {a b : E} {env : List DV} (h : ¬ (a.den env).int < (b.den env).int) : ((E.O .lt a b).den env).bool = false := decide_eq_false h
theorem mkleT {a b : E} {env : List DV} (h : (a.den env).int ≤ (b.den env).int) : ((E.O .le a b).den env).bool = true := decide_eq_true h
theorem mkleF {a b : E} {env : List DV} (h : ¬ (a.den env).int ≤ (b.den env).int) : ((E.O .le a b).den env).bool = false := decide_eq_false h
theorem mkeqF {a b : E} {env : List DV} (h : ¬ (a.den env).int = (b.den env).int) : ((E.O .eq a b).den env).bool = false := decide_eq_false h
theorem den_I (env : List DV) (n : Int) : ((E.I n).den env).int = n := rfl
theorem stepB_ok {x k : E} {v : Bool} {env : List DV} (h : (k.den env).bool = v) : (∀ m, (stepB x k v).1 = some m → m ≤ (x.den env).int) ∧ ∀ m, (stepB x k v).2 = some m → (x.den env).int ≤ m := by
 have no : (∀ m, (none : Option Int) = some m → m ≤ (x.den env).int) ∧ ∀ m, (none : Option Int) = some m → (x.den env).int ≤ m := ⟨fun m hm => by (cases hm), fun m hm => by (cases hm)⟩
 unfold stepB
 split
 case h_10 => exact no
 all_goals
  first | have h := ltT h | have h := ltF h | have h := leT h | have h := leF h | have h := eqT h
  simp only [den_I] at h
  split
  ·rename_i e
   subst e
   refine ⟨fun m hm => ?_, fun m hm => ?_⟩ <;> first | (cases hm; done) | (simp only [Option.some.injEq] at hm; omega)
  ·exact no
theorem bndK_ok {n : Nat} {env : List DV} : ∀ {ks : Kn} {x : E}, KnOk n env ks → (∀ m, loK ks x = some m → m ≤ (x.den env).int) ∧ ∀ m, hiK ks x = some m → (x.den env).int ≤ m
 | [], x, _ => ⟨fun m h => by (cases h), fun m h => by (cases h)⟩
 | (k, v) :: r, x, hk => by
  have ih := bndK_ok (ks := r) (x := x) (fun e b he => hk e b (List.mem_cons_of_mem _ he))
  have hs := stepB_ok (x := x) (hk _ _ (List.mem_cons_self ..)).2
  unfold loK hiK
  refine ⟨?_, ?_⟩
  ·split
   ·rename_i m hm; exact maxO_ok ih.1 (hs.1 m hm)
   ·exact ih.1
  ·split
   ·rename_i m hm; exact minO_ok ih.2 (hs.2 m hm)
   ·exact ih.2
theorem above_ok {o : Option Int} {n x : Int} (h : ∀ m, o = some m → m ≤ x) (ha : aboveO o n = true) : n < x := by
 cases o with
 | none => cases ha
 | some m => have := h m rfl; have : n < m := of_decide_eq_true ha; omega
theorem below_ok {o : Option Int} {n x : Int} (h : ∀ m, o = some m → x ≤ m) (ha : belowO o n = true) : x < n := by
 cases o with
 | none => cases ha
 | some m => have := h m rfl; have : m < n := of_decide_eq_true ha; omega
theorem boundB_ok {n : Nat} {env : List DV} {ks : Kn} (hk : KnOk n env ks) {e : E} {b : Bool} (h : boundB ks e = some b) : (e.den env).bool = b := by
 unfold boundB at h
 split at h
 case h_6 => cases h
 all_goals
  have hb : ∀ x, (∀ m, loK ks x = some m → m ≤ (x.den env).int) ∧ ∀ m, hiK ks x = some m → (x.den env).int ≤ m := fun x => bndK_ok hk
  first
  | (split at h
     · rename_i hc
       cases h
       try simp only [Bool.or_eq_true] at hc
       first | refine mkltT ?_ | refine mkleT ?_ | refine mkeqF ?_
       simp only [den_I]
       first
       | (have := below_ok (hb _).2 hc; omega)
       | (have := above_ok (hb _).1 hc; omega)
       | (rcases hc with hc | hc
          · have := above_ok (hb _).1 hc; omega
          · have := below_ok (hb _).2 hc; omega)
     · try (cases h; done)
       all_goals
         split at h
         · rename_i hc
           cases h
           first | refine mkltF ?_ | refine mkleF ?_
           simp only [den_I]
           first
           | (have := below_ok (hb _).2 hc; omega)
           | (have := above_ok (hb _).1 hc; omega)
         · cases h)
theorem atomK_ok {n : Nat} {env : List DV} {ks : Kn} (hk : KnOk n env ks) {e : E} {b : Bool} (h : atomK ks e = some b) : (e.den env).bool = b := by
 unfold atomK at h
 split at h
 ·rename_i v hv
  cases h
  exact lookK_ok hk hv
 ·exact boundB_ok hk h
theorem evalB_ok {n : Nat} {env : List DV} {ks : Kn} (hk : KnOk n env ks) : ∀ {e : E} {b : Bool}, evalB ks e = some b → (e.den env).bool = b := by
 intro e
 fun_induction evalB ks e with
 | case1 b => intro b' h; cases h; rfl
 | case2 e ih =>
  intro b h
  obtain ⟨y, h1, rfl⟩ := Option.map_eq_some_iff.1 h
  simp only [E.den, U.den, dv_B, ih h1]
 | case3 a b h1 ih => intro b' h; cases h; simp only [E.den, O.den, dv_B, ih h1, Bool.false_and]
 | case4 a b h1 ih1 ih2 => intro b' h; simp only [E.den, O.den, dv_B, ih1 h1, Bool.true_and]; exact ih2 h
 | case5 a b h1 h2 ih1 ih2 => intro b' h; cases h; simp only [E.den, O.den, dv_B, ih2 h2, Bool.and_false]
 | case6 => intro b' h; cases h
 | case7 a => intro b h; cases h; simp [E.den, O.den, dv_B]
 | case8 => intro b h; cases h; rfl
 | case9 => intro b h; exact atomK_ok hk h
 | case10 => intro b h; cases h; rfl
 | case11 => intro b h; exact atomK_ok hk h
 | case12 => intro b h; cases h; rfl
 | case13 => intro b h; exact atomK_ok hk h
 | case14 => intro b h; exact atomK_ok hk h
theorem shortB_ok {n : Nat} {env : List DV} {ks : Kn} (hk : KnOk n env ks) : ∀ {e : E}, ((shortB ks e).den env).bool = true → (e.den env).bool = true := by
 intro e
 fun_induction shortB ks e with
 | case1 a b h ih => intro h1; simp only [E.den, O.den, dv_B, evalB_ok hk h, ih h1, Bool.and_self]
 | case2 a b h1 h2 ih => intro h; simp only [E.den, O.den, dv_B, evalB_ok hk h1, ih h, Bool.and_self]
 | case3 a b h1 h2 ih1 ih2 =>
  intro h
  simp only [E.den, O.den, dv_B, Bool.and_eq_true] at h ⊢
  exact ⟨ih1 h.1, ih2 h.2⟩
 | case4 => intro h; exact h
theorem strip_ok {env : List DV} : ∀ {e : E} {b : Bool} {e' : E} {b' : Bool}, stripN e b = (e', b') → ((e.den env).bool = b ↔ (e'.den env).bool = b') := by
 intro e b
 fun_induction stripN e b with
 | case1 e b ih =>
  intro e' b' h
  rw [← ih h]
  simp only [E.den, U.den, dv_B]
  cases (e.den env).bool <;> cases b <;> simp
 | case2 => intro e' b' h; cases h; exact Iff.rfl
theorem addK_ok {n : Nat} {env : List DV} : ∀ {e : E} {b : Bool} {ks : Kn}, KnOk n env ks → (e.den env).bool = b → KnOk n env (addK n e b ks) := by
 intro e b ks
 fun_induction addK n e b ks with
 | case1 e b ks ih =>
  intro hk he
  refine ih hk ?_
  simp only [E.den, U.den, dv_B] at he
  rw [← he]; simp
 | case2 x y ks ih1 ih2 =>
  intro hk he
  simp only [E.den, O.den, dv_B, Bool.and_eq_true] at he
  exact ih2 (ih1 hk he.2) he.1
 | case3 e b ks h1 h2 hb =>
  intro hk he x v hx
  rcases List.mem_cons.1 hx with hx | hx
  ·cases hx; exact ⟨hb, he⟩
  ·exact hk x v hx
 | case4 => intro hk _; exact hk
theorem KnOk.ext {n m : Nat} {env x : List DV} {ks : Kn} (h : KnOk n env ks) (hn : env.length = n) (hm : n ≤ m) : KnOk m (env ++ x) ks := fun e b he =>
 ⟨E.bd_mono hm _ (h e b he).1, by rw [E.den_ext env x e (by rw [hn]; exact (h e b he).1)]; exact (h e b he).2⟩
theorem simpT_ok {sp : FuncId → List DV → List DV → Prop} {post : List DV → Prop} : ∀ (t : Tree) (n : Nat) (ks : Kn) (env : List DV) (cx : List (List DV → Prop)), env.length = n → KnOk n env ks → (simpT n ks t).den sp post env cx → t.den sp post env cx
 | .need e t, n, ks, env, cx, hn, hk, h => by
  unfold simpT at h
  split at h
  ·rename_i he
   exact ⟨evalB_ok hk he, simpT_ok t n ks env cx hn hk h⟩
  ·have h1 := shortB_ok hk h.1
   exact ⟨h1, simpT_ok t n _ env cx hn (addK_ok hk h1) h.2⟩
 | .br e a b, n, ks, env, cx, hn, hk, h => by
  unfold simpT at h
  split at h
  ·rename_i he
   have := evalB_ok hk he
   exact ⟨fun _ => simpT_ok a n ks env cx hn hk h, fun hf => by rw [this] at hf; cases hf⟩
  ·rename_i he
   have := evalB_ok hk he
   exact ⟨fun hf => by rw [this] at hf; (cases hf), fun _ => simpT_ok b n ks env cx hn hk h⟩
  ·split at h
   ·rename_i e' hs
    have h2 := strip_ok (env := env) hs
    have h3 : (e.den env).bool = false ↔ (e'.den env).bool = false := by
     rw [← Bool.not_eq_true, ← Bool.not_eq_true (b := (e'.den env).bool), h2]
    exact ⟨fun he => simpT_ok a n _ env cx hn (addK_ok hk (h2.1 he)) (h.1 (h2.1 he)), fun he => simpT_ok b n _ env cx hn (addK_ok hk (h3.1 he)) (h.2 (h3.1 he))⟩
   ·rename_i e' hs
    have h2 := strip_ok (env := env) hs
    have h3 : (e.den env).bool = false ↔ (e'.den env).bool = true := by
     rw [← Bool.not_eq_true, ← Bool.not_eq_false (b := (e'.den env).bool), h2]
    exact ⟨fun he => simpT_ok a n _ env cx hn (addK_ok hk (h2.1 he)) (h.2 (h2.1 he)), fun he => simpT_ok b n _ env cx hn (addK_ok hk (h3.1 he)) (h.1 (h3.1 he))⟩
 | .call f xs m t, n, ks, env, cx, hn, hk, h => by
  obtain ⟨rs, h1, h2, h3⟩ := h
  exact ⟨rs, h1, h2, simpT_ok t (n + m) ks (env ++ rs) cx (by simp [hn, h1]) (hk.ext hn (Nat.le_add_right _ _)) h3⟩
 | .loop is b, n, ks, env, cx, hn, hk, h => by
  obtain ⟨I, μ, h1, h2⟩ := h
  exact ⟨I, μ, h1, fun vs hv hI => simpT_ok b (n + is.length) ks (env ++ vs) _ (by simp [hn, hv]) (hk.ext hn (Nat.le_add_right _ _)) (h2 vs hv hI)⟩
 | .again lv es, n, ks, env, cx, hn, hk, h => h
 | .ret es, n, ks, env, cx, hn, hk, h => h
theorem den_cx {sp : FuncId → List DV → List DV → Prop} {post : List DV → Prop} : ∀ (t : Tree) (env : List DV) (cx : List (List DV → Prop)) (p q : List DV → Prop), (∀ v, p v → q v) → ∀ {dx : List (List DV → Prop)}, t.den sp post env (cx ++ p :: dx) → t.den sp post env (cx ++ q :: dx)
 | .need e t, env, cx, p, q, h, dx, hd => ⟨hd.1, den_cx t env cx p q h hd.2⟩
 | .br e a b, env, cx, p, q, h, dx, hd => ⟨fun he => den_cx a env cx p q h (hd.1 he), fun he => den_cx b env cx p q h (hd.2 he)⟩
 | .call f xs n t, env, cx, p, q, h, dx, hd => by
  obtain ⟨rs, h1, h2, h3⟩ := hd
  exact ⟨rs, h1, h2, den_cx t _ cx p q h h3⟩
 | .loop is b, env, cx, p, q, h, dx, hd => by
  obtain ⟨I, μ, h1, h2⟩ := hd
  exact ⟨I, μ, h1, fun vs hv hI => by
    have := h2 vs hv hI
    rw [List.append_assoc, List.cons_append] at this ⊢
    exact den_cx b _ cx p q h this⟩
 | .again lv es, env, cx, p, q, h, dx, hd => by
  obtain ⟨r, h1, h2⟩ := hd
  by_cases hl : lv < cx.length
  ·exact ⟨r, by rw [List.getElem?_append_left hl] at h1 ⊢; exact h1, h2⟩
  ·rw [List.getElem?_append_right (by omega)] at h1
   cases hk : lv - cx.length with
   | zero =>
    rw [hk] at h1
    cases h1
    exact ⟨q, by rw [List.getElem?_append_right (by omega), hk]; rfl, h _ h2⟩
   | succ k =>
    rw [hk] at h1
    exact ⟨r, by rw [List.getElem?_append_right (by omega), hk]; exact h1, h2⟩
 | .ret es, env, cx, p, q, h, dx, hd => hd
section
variable {P : Program} {H : Help}
theorem fn_short (hT : H.T.Ok P) (hgo : ∀ f sg, H.sig f = some sg → isGo P (keyF f) = true) (hdr : DrawsOk P H) {f : FuncId} {fn : Func} {sg : Sig} {tree : Tree} {das rs : List DV} (hf : P.funcs[f]? = some fn) (ht : (fnTree H sg fn).map (simpT (parN sg.params) []) = some tree) (hl : das.length = parN sg.params)
  (hd : tree.den (SpF P H.T H.sig) (fun es => es = rs) das []) : Sp0 P H.T sg f das rs := by
 obtain ⟨t, h1, rfl⟩ := Option.map_eq_some_iff.1 ht
 exact fn_sound hT hgo hdr hf h1 hl (simpT_ok t _ [] das [] hl (fun e b h => by cases h) hd)
theorem fn_shortP (hT : H.T.Ok P) (hgo : ∀ f sg, H.sig f = some sg → isGo P (keyF f) = true) (hdr : DrawsOk P H) {f : FuncId} {fn : Func} {pt : Pat} {tree : Tree} {das rs : List DV} (hf : P.funcs[f]? = some fn) (ht : (fnTreeP H pt fn).map (simpT pt.n0 []) = some tree) (hl : das.length = pt.n0)
  (hd : tree.den (SpF P H.T H.sig) (fun es => es = rs) das []) : SpP P H.T pt f das rs := by
 obtain ⟨t, h1, rfl⟩ := Option.map_eq_some_iff.1 ht
 exact fn_soundP hT hgo hdr hf h1 hl (simpT_ok t _ [] das [] hl (fun e b h => by cases h) hd)
end
def plainAll (T : Tab) (P : Program) : Bool := T.all fun p => !T.flat p.1 || (!P.stoodInHeld p.1 && !P.eqGuardType P.depth p.1)
theorem lookupT_mem {α : Type} : ∀ {l : List (Nat × α)} {b : Nat} {v : α}, l.lookup b = some v → (b, v) ∈ l
 | [], _, _, h => by cases h
 | (k, y) :: l, b, v, h => by
  rw [List.lookup_cons] at h
  split at h
  ·rename_i hk
   cases h
   rw [eq_of_beq hk]
   exact List.mem_cons_self ..
  ·exact List.mem_cons_of_mem _ (lookupT_mem h)
theorem Tab.Ok.of {T : Tab} {P : Program} (h1 : ∀ p ∈ T, P.types[p.1]? = some p.2) (h2 : plainAll T P = true) : T.Ok P := by
 refine ⟨fun t i h => ?_, fun t h => ?_⟩
 ·have hm := h1 _ (lookupT_mem h)
  have hlt : t < P.types.size := (Array.getElem?_eq_some_iff.1 hm).1
  have : P.info? t = P.types[t]? := by
   unfold Tables.info?
   rw [if_pos hlt]
  rw [this]; exact hm
 ·have hf := h
  unfold Tab.flat at h
  split at h
  ·rename_i l fs h3 h4
   unfold Tab.und at h4
   cases hi : T.info t with
   | none => rw [hi] at h4; cases h4
   | some i =>
    have hm : (t, i) ∈ T := lookupT_mem hi
    have := List.all_eq_true.1 h2 _ hm
    simpa [hf] using this
  ·cases h
def SubH (h h' : Nat → Blk) : Prop := ∀ b, h b = .dead ∨ h b = h' b
section
variable {T : Tab} {h h' : Nat → Blk}
theorem SubH.upf (hs : SubH h h') (b : Nat) (x : Blk) : SubH (upf h b x) (upf h' b x) := fun c => by
 unfold Go.Proofs.YtbegccgpmhbnfaaGreat.upf
 split
 ·exact .inr rfl
 ·exact hs c
theorem SubH.upl : ∀ (l : List (Nat × Blk)) {h h' : Nat → Blk}, SubH h h' → SubH (upl h l) (upl h' l)
 | [], _, _, hs => hs
 | (b, x) :: l, _, _, hs => SubH.upl l (hs.upf b x)
theorem sure_mono (hs : SubH h h') : ∀ {c : CV}, c.sure h = true → c.sure h' = true := fun {c} e => by
 have key : ∀ b, (h b != .dead) = true → (h' b != .dead) = true := fun b e => by
  rcases hs b with x | x
  ·rw [x] at e; cases e
  ·rw [← x]; exact e
 unfold CV.sure at e ⊢
 split at e
 ·cases e
 ·exact key _ e
 ·exact key _ e
 ·exact key _ e
 ·exact key _ e
 ·first | rfl | (cases c <;> simp_all)
theorem cells_mono (hs : SubH h h') {s : SV} {l : List CV} (e : s.cells? h = some l) : s.cells? h' = some l := by
 cases s with
 | one c =>
  simp only [SV.cells?] at e ⊢
  split at e
  case isFalse => cases e
  rename_i hc
  rw [if_pos (sure_mono hs hc)]; exact e
 | agg l => exact e
 | tup l => exact e
theorem immE_mono (hs : SubH h h') {k : CK} {c : CV} {r} (e : immE T h k c = some r) : immE T h' k c = some r := by
 unfold immE at e ⊢
 split at e
 ·exact e
 ·exact e
 ·rename_i el b el'
  try simp only
  rcases hs b with x | x
  ·rw [x] at e; cases e
  ·rw [← x]; exact e
 ·rename_i el b el' off len
  try simp only
  rcases hs b with x | x
  ·rw [x] at e; cases e
  ·rw [← x]; exact e
 ·cases e
theorem immL_mono : ∀ {ks : List CK} {cs : List CV} {h h' : Nat → Blk} {r}, SubH h h' → immL T h ks cs = some r → immL T h' ks cs = some r
 | [], [], _, _, _, _, e => by unfold immL at e ⊢; exact e
 | [], _ :: _, _, _, _, _, e => by unfold immL at e; cases e
 | _ :: _, [], _, _, _, _, e => by unfold immL at e; cases e
 | k :: ks, c :: cs, h, h', r, hs, e => by
  unfold immL at e ⊢
  obtain ⟨⟨n1, e1, u1⟩, h1, e⟩ := Option.bind_eq_some_iff.1 e
  obtain ⟨⟨n2, e2, u2⟩, h2, e⟩ := Option.bind_eq_some_iff.1 e
  rw [immE_mono hs h1]
  simp only [Option.bind_eq_bind, Option.bind_some] at e ⊢
  rw [immL_mono (hs.upl _) h2]
  exact e
theorem load_mono (hs : SubH h h') {t : TypeId} {s : SV} {r} (e : symLoad T h t s = some r) : symLoad T h' t s = some r := by
 unfold symLoad at e ⊢
 split at e
 ·rename_i b off
  try simp only
  rcases hs b with x | x
  ·rw [x] at e; cases e
  ·rw [← x]; exact e
 ·rename_i b el row off eb
  try simp only
  rcases hs b with x | x
  ·rw [x] at e; cases e
  ·rw [← x]; exact e
 ·exact e
 ·cases e
theorem store_mono (hs : SubH h h') {t : TypeId} {v s : SV} {r} (e : symStore T h t v s = some r) : symStore T h' t v s = some r := by
 unfold symStore at e ⊢
 split at e
 ·rename_i b off
  try simp only
  rcases hs b with x | x
  ·rw [x] at e; cases e
  ·rw [← x]
   split at e
   case h_2 => cases e
   obtain ⟨cs, h1, e⟩ := Option.bind_eq_some_iff.1 e
   simp only [cells_mono hs h1, Option.bind_eq_bind, Option.bind_some]
   exact e
 ·rename_i b el row off eb
  try simp only
  rcases hs b with x | x
  ·rw [x] at e; cases e
  ·rw [← x]
   split at e
   case h_2 => cases e
   obtain ⟨cks, h0, e⟩ := Option.bind_eq_some_iff.1 e
   obtain ⟨cs, h1, e⟩ := Option.bind_eq_some_iff.1 e
   simp only [h0, cells_mono hs h1, Option.bind_eq_bind, Option.bind_some]
   split at e
   case isFalse => cases e
   rename_i hc
   rw [if_pos hc]
   obtain ⟨⟨n2, e2, u2⟩, h2, e⟩ := Option.bind_eq_some_iff.1 e
   rw [immL_mono hs h2]
   exact e
 ·cases e
theorem symBuild_mono (hs : SubH h h') {pl : Nat → Option (Nat × Nat)} : ∀ {ps : List (Nat × SV)} {cs r}, symBuild h pl ps cs = some r → symBuild h' pl ps cs = some r
 | [], cs, r, e => by unfold symBuild at e ⊢; exact e
 | (i, s) :: ps, cs, r, e => by
  unfold symBuild at e ⊢
  obtain ⟨⟨off, n⟩, h1, e⟩ := Option.bind_eq_some_iff.1 e
  obtain ⟨xs, h2, e⟩ := Option.bind_eq_some_iff.1 e
  simp only [h1, cells_mono hs h2, Option.bind_eq_bind, Option.bind_some]
  split at e
  case isFalse => cases e
  rename_i hc
  obtain ⟨c2, h3, e⟩ := Option.bind_eq_some_iff.1 e
  simp only [if_pos hc, h3, Option.bind_some]
  exact symBuild_mono hs e
theorem buildT_mono (hs : SubH h h') {t : TypeId} {ps : List (Nat × SV)} {r} (e : buildT T h t ps = some r) : buildT T h' t ps = some r := by
 unfold buildT at e ⊢
 obtain ⟨pl, h1, e⟩ := Option.bind_eq_some_iff.1 e
 obtain ⟨z, h2, e⟩ := Option.bind_eq_some_iff.1 e
 simp only [h1, h2, Option.bind_eq_bind, Option.bind_some]
 exact symBuild_mono hs e
theorem fieldAddr_mono (hs : SubH h h') {t : TypeId} {f : Nat} {s : SV} {r} (e : symFieldAddr T h t f s = some r) : symFieldAddr T h' t f s = some r := by
 unfold symFieldAddr at e ⊢
 split at e
 case h_2 => cases e
 rename_i c
 try simp only at e
 try simp only
 split at e
 case h_2 => cases e
 obtain ⟨g, h1, e⟩ := Option.bind_eq_some_iff.1 e
 obtain ⟨n, h2, e⟩ := Option.bind_eq_some_iff.1 e
 simp only [h1, h2, Option.bind_eq_bind, Option.bind_some]
 split at e
 ·cases e
 rename_i hc
 simp only [Bool.or_eq_true, decide_eq_true_eq, Bool.not_eq_true', not_or, Bool.not_eq_false] at hc
 rw [if_neg (by simp only [Bool.or_eq_true, decide_eq_true_eq, Bool.not_eq_true', not_or, Bool.not_eq_false]; exact ⟨hc.1, sure_mono hs hc.2⟩)]
 exact e
theorem indexAddr_mono (hs : SubH h h') {t : TypeId} {x i : SV} {r} (e : symIndexAddr T h t x i = some r) : symIndexAddr T h' t x i = some r := by
 unfold symIndexAddr at e ⊢
 split at e
 case h_2 => cases e
 try simp only at e
 try simp only
 split at e
 ·exact e
 ·rename_i el b el' _
  rcases hs b with x | x
  ·rw [x] at e; cases e
  ·rw [← x]; exact e
 ·rename_i el b el' off len _
  rcases hs b with x | x
  ·rw [x] at e; cases e
  ·rw [← x]; exact e
 ·rename_i n el b off _
  obtain ⟨sz, h1, e⟩ := Option.bind_eq_some_iff.1 e
  simp only [h1, Option.bind_eq_bind, Option.bind_some]
  split at e
  case h_2 => cases e
  split at e
  case isFalse => cases e
  rename_i hc
  rcases hs b with x | x
  ·exact absurd x hc.2.2
  ·rw [if_pos ⟨hc.1, hc.2.1, by rw [← x]; exact hc.2.2⟩]; exact e
 ·cases e
theorem slice_mono (hs : SubH h h') {t : TypeId} {x : SV} {lo hi : Option SV} {r} (e : symSlice T h t x lo hi = some r) : symSlice T h' t x lo hi = some r := by
 unfold symSlice at e ⊢
 split at e
 ·exact e
 ·rename_i el b el' _
  try simp only
  rcases hs b with x | x
  ·rw [x] at e; cases e
  ·rw [← x]; exact e
 ·rename_i el b el' off len _
  try simp only
  rcases hs b with x | x
  ·rw [x] at e; cases e
  ·rw [← x]; exact e
 ·exact e
 ·cases e
theorem len_mono (hs : SubH h h') {t : TypeId} {s : SV} {r} (e : symLen h T t s = some r) : symLen h' T t s = some r := by
 unfold symLen at e ⊢
 split at e
 ·exact e
 ·exact e
 ·exact e
 ·rename_i b el
  try simp only
  rcases hs b with x | x
  ·rw [x] at e; split at e <;> simp_all
  ·rw [← x]; exact e
 ·rename_i b el off len
  try simp only
  rcases hs b with x | x
  ·rw [x] at e; split at e <;> simp_all
  ·rw [← x]; exact e
 ·exact e
 ·exact e
 ·cases e
theorem base_mono (hs : SubH h h') {el : TypeId} {s : SV} {r} (e : baseE h el s = some r) : baseE h' el s = some r := by
 unfold baseE at e ⊢
 split at e
 ·exact e
 ·rename_i b el'
  try simp only
  rcases hs b with x | x
  ·rw [x] at e; cases e
  ·rw [← x]; exact e
 ·rename_i b el' off len
  try simp only
  rcases hs b with x | x
  ·rw [x] at e; cases e
  ·rw [← x]; exact e
 ·cases e
theorem append_mono (hs : SubH h h') {nb : Nat} {t : TypeId} {base x : SV} {r} (e : symAppend T h nb t base x = some r) : symAppend T h' nb t base x = some r := by
 unfold symAppend at e ⊢
 obtain ⟨el, h1, e⟩ := Option.bind_eq_some_iff.1 e
 obtain ⟨cks, h2, e⟩ := Option.bind_eq_some_iff.1 e
 obtain ⟨z, h3, e⟩ := Option.bind_eq_some_iff.1 e
 simp only [h1, h2, h3, Option.bind_eq_bind, Option.bind_some]
 split at e
 ·cases e
 rename_i hc
 rw [if_neg hc]
 obtain ⟨⟨be, kill, nsub⟩, h4, e⟩ := Option.bind_eq_some_iff.1 e
 rw [base_mono hs h4]
 simp only [Option.bind_some]
 try simp only at e
 split at e
 ·exact e
 ·rename_i c _
  try simp only
  obtain ⟨⟨ns, e', us⟩, h5, e⟩ := Option.bind_eq_some_iff.1 e
  rw [immE_mono hs h5]
  exact e
 ·cases e
theorem make_mono (hs : SubH h h') {nb : Nat} {t : TypeId} {l c : SV} {r} (e : symMake T h nb t l c = some r) : symMake T h' nb t l c = some r := by
 unfold symMake at e ⊢
 split at e
 case h_2 => cases e
 try simp only at e
 try simp only
 obtain ⟨el, h1, e⟩ := Option.bind_eq_some_iff.1 e
 obtain ⟨cks, h2, e⟩ := Option.bind_eq_some_iff.1 e
 obtain ⟨z, h3, e⟩ := Option.bind_eq_some_iff.1 e
 simp only [h1, h2, h3, Option.bind_eq_bind, Option.bind_some]
 split at e
 ·cases e
 rename_i hc
 rw [if_neg hc]
 obtain ⟨⟨ns, es, us⟩, h4, e⟩ := Option.bind_eq_some_iff.1 e
 rw [immL_mono hs h4]
 exact e
theorem lit_mono (hs : SubH h h') {nb n : Nat} {t : TypeId} {ps : List (Nat × SV)} {r} (e : symLit T h nb t n ps = some r) : symLit T h' nb t n ps = some r := by
 unfold symLit at e ⊢
 obtain ⟨el, h1, e⟩ := Option.bind_eq_some_iff.1 e
 obtain ⟨cks, h2, e⟩ := Option.bind_eq_some_iff.1 e
 obtain ⟨z, h3, e⟩ := Option.bind_eq_some_iff.1 e
 simp only [h1, h2, h3, Option.bind_eq_bind, Option.bind_some] at e ⊢
 split at e
 ·cases e
 rename_i hc
 rw [if_neg hc]
 obtain ⟨cs, h4, e⟩ := Option.bind_eq_some_iff.1 e
 rw [symBuild_mono hs h4]
 simp only [Option.bind_some]
 obtain ⟨⟨ns, es, us⟩, h5, e⟩ := Option.bind_eq_some_iff.1 e
 rw [immL_mono hs h5]
 exact e
theorem convB_mono (hs : SubH h h') {src dst : TypeId} {c : CV} {r} (e : symConvB T h src dst c = some r) : symConvB T h' src dst c = some r := by
 unfold symConvB at e ⊢
 split at e
 case h_2 => cases e
 try simp only at e
 try simp only
 split at e
 case h_2 => cases e
 obtain ⟨⟨ns, es, us⟩, h4, e⟩ := Option.bind_eq_some_iff.1 e
 rw [immE_mono hs h4]
 exact e
theorem append2_mono (hs : SubH h h') {nb : Nat} {st xt : TypeId} {base x : SV} {r} (e : symAppend2 T h nb st xt base x = some r) : symAppend2 T h' nb st xt base x = some r := by
 unfold symAppend2 at e ⊢
 split at e
 ·exact append_mono hs e
 ·exact append_mono hs e
 ·cases e
theorem argsE_mono : ∀ {ps : List (Bool × List CK)} {ss : List SV} {h h' : Nat → Blk} {r}, SubH h h' → argsE T h ps ss = some r → argsE T h' ps ss = some r
 | [], [], _, _, _, _, e => by unfold argsE at e ⊢; exact e
 | [], _ :: _, _, _, _, _, e => by simp [argsE] at e
 | _ :: _, [], _, _, _, _, e => by simp [argsE] at e
 | (x, ks) :: ps, s :: ss, h, h', r, hs, e => by
  unfold argsE at e ⊢
  have key : ∀ cs : List CV, (immL T h ks cs).bind (fun a => (argsE T (upl h a.2.2) ps ss).bind fun b => some (a.1 ++ b.1, a.2.1 ++ b.2.1, a.2.2 ++ b.2.2)) = some r →
    (immL T h' ks cs).bind (fun a => (argsE T (upl h' a.2.2) ps ss).bind fun b => some (a.1 ++ b.1, a.2.1 ++ b.2.1, a.2.2 ++ b.2.2)) = some r := fun cs e => by
   obtain ⟨⟨n1, e1, u1⟩, h2, e⟩ := Option.bind_eq_some_iff.1 e
   obtain ⟨⟨n2, e2, u2⟩, h3, e⟩ := Option.bind_eq_some_iff.1 e
   rw [immL_mono hs h2]
   simp only [Option.bind_some] at e ⊢
   rw [argsE_mono (hs.upl _) h3]
   exact e
  cases x with
  | true =>
   cases s with
   | agg cs => exact key cs e
   | one c => cases e
   | tup l => cases e
  | false =>
   cases s with
   | one c =>
    by_cases hk : ks.length = 1
    ·simp only [hk, if_true] at e ⊢
     exact key [c] e
    ·simp only [hk, if_false] at e
     cases e
   | agg cs => cases e
   | tup l => cases e
theorem call_mono (hs : SubH h h') {nb ne : Nat} {f : FuncId} {sg : Sig} {args : List SV} {r} (e : symCall T h nb ne f sg args = some r) : symCall T h' nb ne f sg args = some r := by
 unfold symCall at e ⊢
 obtain ⟨⟨n2, e2, u2⟩, h3, e⟩ := Option.bind_eq_some_iff.1 e
 rw [argsE_mono hs h3]
 exact e
theorem adjC_mono (hs : SubH h h') {p c : CV} {r} (e : adjC T h p c = some r) : adjC T h' p c = some r := by
 unfold adjC at e ⊢
 split at e
 ·obtain ⟨y, h1, e⟩ := Option.map_eq_some_iff.1 e
  simp only [immE_mono hs h1, Option.map_some, e]
 ·exact e
theorem adjL_mono : ∀ {ps cs : List CV} {h h' : Nat → Blk} {r}, SubH h h' → adjL T h ps cs = some r → adjL T h' ps cs = some r
 | [], [], _, _, _, _, e => by unfold adjL at e ⊢; exact e
 | [], _ :: _, _, _, _, _, e => by simp [adjL] at e
 | _ :: _, [], _, _, _, _, e => by simp [adjL] at e
 | p :: ps, c :: cs, h, h', r, hs, e => by
  unfold adjL at e ⊢
  obtain ⟨⟨n1, c1, u1⟩, h1, e⟩ := Option.bind_eq_some_iff.1 e
  obtain ⟨y, h2, e⟩ := Option.bind_eq_some_iff.1 e
  refine Option.bind_eq_some_iff.2 ⟨_, adjC_mono hs h1, Option.bind_eq_some_iff.2 ⟨y, adjL_mono (hs.upl u1) h2, e⟩⟩
theorem adjS_mono (hs : SubH h h') {p c : SV} {r} (e : adjS T h p c = some r) : adjS T h' p c = some r := by
 unfold adjS at e ⊢
 split at e
 ·obtain ⟨y, h1, e⟩ := Option.map_eq_some_iff.1 e
  simp only [adjC_mono hs h1, Option.map_some, e]
 ·obtain ⟨y, h1, e⟩ := Option.map_eq_some_iff.1 e
  simp only [adjL_mono hs h1, Option.map_some, e]
 ·cases e
theorem adjSs_mono : ∀ {ps cs : List SV} {h h' : Nat → Blk} {r}, SubH h h' → adjSs T h ps cs = some r → adjSs T h' ps cs = some r
 | [], [], _, _, _, _, e => by unfold adjSs at e ⊢; exact e
 | [], _ :: _, _, _, _, _, e => by simp [adjSs] at e
 | _ :: _, [], _, _, _, _, e => by simp [adjSs] at e
 | p :: ps, c :: cs, h, h', r, hs, e => by
  unfold adjSs at e ⊢
  obtain ⟨⟨n1, c1, u1⟩, h1, e⟩ := Option.bind_eq_some_iff.1 e
  obtain ⟨y, h2, e⟩ := Option.bind_eq_some_iff.1 e
  refine Option.bind_eq_some_iff.2 ⟨_, adjS_mono hs h1, Option.bind_eq_some_iff.2 ⟨y, adjSs_mono (hs.upl u1) h2, e⟩⟩
theorem foldM_mono {α β : Type} {f g : β → α → Option β} (hfg : ∀ b a r, f b a = some r → g b a = some r) : ∀ {l : List α} {b r}, l.foldlM f b = some r → l.foldlM g b = some r
 | [], b, r, e => e
 | a :: l, b, r, e => by
  rw [List.foldlM_cons] at e ⊢
  obtain ⟨y, h1, e⟩ := Option.bind_eq_some_iff.1 e
  exact Option.bind_eq_some_iff.2 ⟨y, hfg _ _ _ h1, foldM_mono hfg e⟩
theorem guC_mono (hs : SubH h h') {h0 : Nat → Blk} : ∀ {f : Nat} {u : Gu} {p c : CV} {r}, guC h0 h f u p c = some r → guC h0 h' f u p c = some r
 | 0, _, _, _, _, e => by simp [guC] at e
 | f + 1, u, p, c, r, e => by
  unfold guC at e ⊢
  split at e
  ·exact e
  ·exact e
  ·rename_i b _
   try simp only
   rcases hs b with x | x
   ·rw [x] at e; cases e
   ·rw [← x]; exact e
  ·exact e
  ·rename_i b' _
   try simp only
   split at e
   case h_2 => cases e
   try simp only
   rcases hs b' with x | x
   ·rw [x] at e; cases e
   ·rw [← x]; exact e
  ·rename_i b' _ _ _
   try simp only
   split at e
   case h_2 => cases e
   try simp only
   rcases hs b' with x | x
   ·rw [x] at e; cases e
   ·rw [← x]; exact e
  ·rename_i b' _
   try simp only
   split at e
   ·rename_i hc; rw [if_pos hc]; exact e
   ·rename_i hc
    rw [if_neg hc]
    split at e
    case h_2 => cases e
    try simp only
    rcases hs b' with x | x
    ·rw [x] at e; cases e
    ·rw [← x]
     split at e
     ·exact foldM_mono (fun b a r e => guC_mono hs e) e
     ·cases e
  ·exact e
  ·cases e
theorem frzChk_mono : ∀ {us : List (Nat × Blk)} {h h' : Nat → Blk}, SubH h h' → frzChk h us = true → frzChk h' us = true
 | [], _, _, _, _ => rfl
 | (b, x) :: r, h, h', hs, e => by
  unfold frzChk at e ⊢
  split at e
  case h_1 h => cases h
  case h_3 => cases e
  rename_i heq
  cases heq
  simp only [Bool.and_eq_true] at e ⊢
  obtain ⟨e1, e2⟩ := e
  refine ⟨?_, frzChk_mono (hs.upf _ _) e2⟩
  rcases hs b with x | x
  ·rw [x] at e1; cases e1
  ·rw [← x]; exact e1
theorem arrd_mono (hs : SubH h h') {b : Nat} (e : (h b).arrd = true) : (h' b).arrd = true := by
 rcases hs b with x | x
 ·rw [x] at e; cases e
 ·rw [← x]; exact e
theorem boxd_mono (hs : SubH h h') {b : Nat} (e : (h b).boxd = true) : (h' b).boxd = true := by
 rcases hs b with x | x
 ·rw [x] at e; cases e
 ·rw [← x]; exact e
theorem okC_mono (hs : SubH h h') {h0 : Nat → Blk} {n : Nat} {es : List E} {β : Ren} {p c : CV} (e : okC T n es β h0 h p c = true) : okC T n es β h0 h' p c = true := by
 unfold okC at e ⊢
 split at e
 ·rfl
 ·exact e
 ·exact e
 ·rename_i b' _
  try simp only
  simp only [Bool.and_eq_true] at e ⊢
  refine ⟨e.1, ?_⟩
  have e2 := e.2
  rcases hs b' with x | x
  ·rw [x] at e2; cases e2
  ·rw [← x]; exact e2
 ·rfl
 ·try simp only
  simp only [Bool.and_eq_true] at e ⊢
  exact ⟨e.1, e.2.1, e.2.2.1, arrd_mono hs e.2.2.2⟩
 ·exact e
 ·try simp only
  simp only [Bool.and_eq_true] at e ⊢
  exact ⟨e.1, e.2.1, ⟨e.2.2.1.1, arrd_mono hs e.2.2.1.2⟩, e.2.2.2⟩
 ·try simp only
  simp only [Bool.and_eq_true] at e ⊢
  exact ⟨e.1, e.2.1, e.2.2.1, boxd_mono hs e.2.2.2⟩
 ·exact e
 ·cases e
theorem okL_mono (hs : SubH h h') {h0 : Nat → Blk} {n : Nat} {es : List E} {β : Ren} : ∀ {p c : List CV}, okL T n es β h0 h p c = true → okL T n es β h0 h' p c = true
 | [], [], e => rfl
 | [], _ :: _, e => by cases e
 | _ :: _, [], e => by cases e
 | p :: ps, c :: cs, e => by
  simp only [okL, Bool.and_eq_true] at e ⊢
  exact ⟨okC_mono hs e.1, okL_mono hs e.2⟩
theorem okS_mono (hs : SubH h h') {h0 : Nat → Blk} {n : Nat} {es : List E} {β : Ren} {p c : SV} (e : okS T n es β h0 h p c = true) : okS T n es β h0 h' p c = true := by
 unfold okS at e ⊢
 split at e
 ·rfl
 ·exact okC_mono hs e
 ·exact okL_mono hs e
 ·exact e
theorem okSs_mono (hs : SubH h h') {h0 : Nat → Blk} {es : List E} {β : Ren} : ∀ {p c : List SV}, okSs T es β h0 h p c = true → okSs T es β h0 h' p c = true
 | [], [], e => rfl
 | [], _ :: _, e => by cases e
 | _ :: _, [], e => by cases e
 | p :: ps, c :: cs, e => by
  simp only [okSs, Bool.and_eq_true] at e ⊢
  exact ⟨okS_mono hs e.1, okSs_mono hs e.2⟩
theorem okB_mono (hs : SubH h h') {h0 : Nat → Blk} {n : Nat} {es : List E} {β : Ren} {b : Nat} {x : Blk} (e : okB T n es β h0 h b x = true) : okB T n es β h0 h' b x = true := by
 unfold okB at e ⊢
 split at e
 ·rfl
 ·rfl
 ·split at e
  case h_2 => cases e
  rename_i b' _
  try simp only
  rcases hs b' with x | x
  ·rw [x] at e; cases e
  ·rw [← x]
   split at e
   ·exact okL_mono hs e
   ·cases e
 ·split at e
  ·rename_i b' _
   try simp only
   rcases hs b' with x | x
   ·rw [x] at e; cases e
   ·rw [← x]; exact e
  ·exact e
  ·cases e
theorem packE_mono (hs : SubH h h') {roots t0 h0 n0 ss r} (e : packE T h roots t0 h0 n0 ss = some r) : packE T h' roots t0 h0 n0 ss = some r := by
 unfold packE at e ⊢
 obtain ⟨⟨n1, s1, u1⟩, h1, e⟩ := Option.bind_eq_some_iff.1 e
 obtain ⟨u, h2, e⟩ := Option.bind_eq_some_iff.1 e
 obtain ⟨es, h3, e⟩ := Option.bind_eq_some_iff.1 e
 have s1' := hs.upl u1
 have s2' := s1'.upl u.us
 refine Option.bind_eq_some_iff.2 ⟨_, adjSs_mono hs h1, Option.bind_eq_some_iff.2 ⟨u, foldM_mono (fun b a r e => guC_mono s1' e) h2, Option.bind_eq_some_iff.2 ⟨es, h3, ?_⟩⟩⟩
 split at e
 case isFalse => cases e
 rename_i hc
 rw [if_pos ?_]
 ·exact e
 ·simp only [Bool.and_eq_true, List.all_eq_true] at hc ⊢
  exact ⟨frzChk_mono s1' hc.1, hc.2.1, okSs_mono s2' hc.2.2.1, fun x hx => okB_mono s2' (hc.2.2.2 x hx)⟩
theorem callP_mono (hs : SubH h h') {nb ne : Nat} {f : FuncId} {pt : Pat} {args : List SV} {r} (e : symCallP T h nb ne f pt args = some r) : symCallP T h' nb ne f pt args = some r := by
 unfold symCallP at e ⊢
 obtain ⟨⟨n2, e2, b2, u2⟩, h3, e⟩ := Option.bind_eq_some_iff.1 e
 exact Option.bind_eq_some_iff.2 ⟨_, packE_mono hs h3, e⟩
theorem symop_mono {sig : FuncId → Option Sig} {op : Op} {t : Operand → SV} {nb ne : Nat} {out : Out} (hs : SubH h h') (e : symop T sig op t h nb ne = some out) : symop T sig op t h' nb ne = some out := by
 have hs' := hs
 unfold symop at e ⊢
 split at e
 case h_1 => exact e
 case h_2 => exact e
 case h_3 => exact e
 case h_4 => exact e
 case h_5 =>
  obtain ⟨cs, h1, e⟩ := Option.map_eq_some_iff.1 e
  simp only [cells_mono hs h1, Option.map_some, e]
 case h_6 =>
  obtain ⟨cs, h1, e⟩ := Option.map_eq_some_iff.1 e
  simp only [buildT_mono hs h1, Option.map_some, e]
 case h_7 => exact lit_mono hs e
 case h_8 =>
  obtain ⟨cs, h1, e⟩ := Option.map_eq_some_iff.1 e
  simp only [load_mono hs h1, Option.map_some, e]
 case h_9 =>
  obtain ⟨cs, h1, e⟩ := Option.map_eq_some_iff.1 e
  simp only [store_mono hs h1, Option.map_some, e]
 case h_10 =>
  try simp only at e
  try simp only
  split at e
  ·unfold symNilE at e ⊢
   split at e
   case h_2 => cases e
   try simp only
   split at e
   ·exact e
   ·exact e
   ·rename_i b' _ _
    try simp only
    rcases hs' b' with x | x
    ·rw [x] at e; cases e
    ·rw [← x]; exact e
   ·cases e
  ·exact e
  ·exact e
  ·cases e
 case h_11 => exact e
 case h_12 =>
  try simp only at e
  try simp only
  split at e
  case h_2 => cases e
  split at e
  ·exact e
  ·exact convB_mono hs e
 case h_13 => exact make_mono hs e
 case h_14 =>
  obtain ⟨cs, h1, e⟩ := Option.map_eq_some_iff.1 e
  simp only [slice_mono hs h1, Option.map_some, e]
 case h_15 =>
  obtain ⟨cs, h1, e⟩ := Option.map_eq_some_iff.1 e
  simp only [fieldAddr_mono hs h1, Option.map_some, e]
 case h_16 => exact e
 case h_17 =>
  obtain ⟨cs, h1, e⟩ := Option.map_eq_some_iff.1 e
  simp only [indexAddr_mono hs h1, Option.map_some, e]
 case h_18 => exact e
 case h_19 => exact e
 case h_20 => exact e
 case h_21 =>
  try simp only at e
  try simp only
  split at e
  case h_2 => cases e
  obtain ⟨cs, h1, e⟩ := Option.map_eq_some_iff.1 e
  simp only [len_mono hs h1, Option.map_some, e]
 case h_22 => exact e
 case h_23 => exact e
 case h_24 =>
  try simp only at e
  try simp only
  split at e
  case h_2 => cases e
  exact append2_mono hs e
 case h_25 =>
  try simp only at e
  try simp only
  split at e
  case h_2 => cases e
  split at e
  case isFalse => cases e
  rename_i hkey
  rw [if_pos hkey]
  obtain ⟨sg, h1, e⟩ := Option.bind_eq_some_iff.1 e
  refine Option.bind_eq_some_iff.2 ⟨sg, h1, ?_⟩
  split at e
  ·exact call_mono hs e
  ·exact callP_mono hs e
 case h_26 =>
  unfold symNilC at e ⊢
  split at e
  ·rename_i b o hs
   try simp only
   rcases hs' b with x | x
   ·rw [x] at e; cases e
   ·rw [← x]; exact e
  ·rename_i b el r o e' hs
   try simp only
   rcases hs' b with x | x
   ·rw [x] at e; cases e
   ·rw [← x]; exact e
  ·exact e
  ·exact e
  ·cases e
 case h_27 => cases e
end
abbrev Ent := St × Option Out
def wrS (os : List Oper) (x : Nat) : Option Nat := os.findIdx? fun o => o.dst == some x
def keysU (e : Ent) : List Nat := match e.2 with
 | some out => out.upd.map (·.1)
 | none => []
def valE (e : Ent) : SV := match e.2 with
 | some out => out.val
 | none => .tup []
def blkE (b : Nat) (e : Ent) : Blk := match e.2 with
 | some out => (out.upd.reverse.lookup b).getD .no
 | none => .no
def slotP (os : List Oper) (l : List Ent) (st : St) (p : Nat → Bool) (x : Nat) : SV := match wrS os x with
 | some j => if p j then ((l[j]?).map valE).getD (.one .any) else st.get x
 | none => st.get x
def lastB (l : List Ent) (st : St) (p : Nat → Bool) (b : Nat) : Nat → Blk
 | 0 => st.blk b
 | n + 1 => match l[n]? with
  | some e => if p n && (keysU e).contains b then blkE b e else lastB l st p b n
  | none => lastB l st p b n
def blkP (l : List Ent) (st : St) (p : Nat → Bool) (b : Nat) : Blk := lastB l st p b l.length
section
variable {os : List Oper} {l : List Ent} {st : St} {p q : Nat → Bool}
theorem slotP_congr {x : Nat} (h : ∀ j, wrS os x = some j → p j = q j) : slotP os l st p x = slotP os l st q x := by
 unfold slotP
 split
 ·rename_i j hj; rw [h j hj]
 ·rfl
theorem lastB_congr {b : Nat} (h : ∀ j e, l[j]? = some e → b ∈ keysU e → p j = q j) : ∀ n, lastB l st p b n = lastB l st q b n
 | 0 => rfl
 | n + 1 => by
  unfold lastB
  split
  ·rename_i e he
   by_cases hb : b ∈ keysU e
   ·rw [h n e he hb, lastB_congr h n]
   ·have : (keysU e).contains b = false := by simpa using hb
    rw [this, Bool.and_false, Bool.and_false, if_neg (by simp), if_neg (by simp), lastB_congr h n]
  ·exact lastB_congr h n
theorem blkP_congr {b : Nat} (h : ∀ j e, l[j]? = some e → b ∈ keysU e → p j = q j) : blkP l st p b = blkP l st q b := lastB_congr h _
theorem blkP_none {b : Nat} (h : ∀ j e, l[j]? = some e → b ∈ keysU e → p j = false) : blkP l st p b = st.blk b := by
 have : ∀ n, lastB l st p b n = st.blk b := fun n => by
  induction n with
  | zero => rfl
  | succ n ih =>
   unfold lastB
   split
   ·rename_i e he
    by_cases hb : b ∈ keysU e
    ·rw [h n e he hb, Bool.false_and, if_neg (by simp), ih]
    ·have : (keysU e).contains b = false := by simpa using hb
     rw [this, Bool.and_false, if_neg (by simp), ih]
   ·exact ih
 exact this _
theorem blkP_last {b i : Nat} {e : Ent} (he : l[i]? = some e) (hb : b ∈ keysU e) (hp : p i = true) (h : ∀ j e', i < j → l[j]? = some e' → b ∈ keysU e' → p j = true → blkE b e' = blkE b e) : blkP l st p b = blkE b e := by
 have : ∀ n, i < n → lastB l st p b n = blkE b e := fun n => by
  induction n with
  | zero => intro h; omega
  | succ n ih =>
   intro hn
   unfold lastB
   by_cases hin : i = n
   ·subst hin
    rw [he]
    simp only
    rw [if_pos (by simp [hp, hb])]
   ·split
    ·rename_i e' he'
     split
     ·rename_i hc
      simp only [Bool.and_eq_true, List.contains_iff_mem] at hc
      exact h n e' (by omega) he' hc.2 hc.1
     ·exact ih (by omega)
    ·exact ih (by omega)
 exact this _ (List.getElem?_eq_some_iff.1 he).1
theorem wrS_dst {x j : Nat} (h : wrS os x = some j) : ∃ o, os[j]? = some o ∧ o.dst = some x := by
 unfold wrS at h
 rw [List.findIdx?_eq_some_iff_getElem] at h
 obtain ⟨h1, h2, -⟩ := h
 exact ⟨os[j], List.getElem?_eq_getElem h1, by simpa using h2⟩
structure Uniq (os : List Oper) : Prop where
 s : ∀ (i : Nat) o x, os[i]? = some o → o.dst = some x → wrS os x = some i
theorem lookup_app {α : Type} {b : Nat} : ∀ (u l : List (Nat × α)), (u ++ l).lookup b = (u.lookup b).or (l.lookup b)
 | [], l => rfl
 | (k, x) :: u, l => by
  rw [List.cons_append, List.lookup_cons, List.lookup_cons]
  split
  ·rfl
  ·exact lookup_app u l
theorem lookup_some_of {α : Type} {b : Nat} : ∀ {u : List (Nat × α)}, b ∈ u.map (·.1) → ∃ x, u.lookup b = some x
 | [], h => by cases h
 | (k, x) :: u, h => by
  rw [List.lookup_cons]
  split
  ·exact ⟨x, rfl⟩
  ·rename_i hk
   rcases List.mem_cons.1 h with h | h
   ·simp only at h; subst h; simp at hk
   ·exact lookup_some_of h
theorem lookup_none_of {α : Type} {b : Nat} : ∀ {u : List (Nat × α)}, b ∉ u.map (·.1) → u.lookup b = none
 | [], h => rfl
 | (k, x) :: u, h => by
  simp only [List.map_cons, List.mem_cons, not_or] at h
  rw [List.lookup_cons, show (b == k) = false by simpa using h.1]
  exact lookup_none_of h.2
theorem upl_at (b : Nat) : ∀ (u : List (Nat × Blk)) (h : Nat → Blk), upl h u b = (u.reverse.lookup b).getD (h b)
 | [], h => rfl
 | (k, x) :: u, h => by
  rw [upl, upl_at b u, List.reverse_cons, lookup_app]
  by_cases hb : b = k
  ·subst hb
   rw [upf_same]
   cases u.reverse.lookup b <;> simp [List.lookup]
  ·rw [upf_ne _ _ hb]
   have : List.lookup b [(k, x)] = none := by simp [List.lookup, show (b == k) = false by simpa using hb]
   rw [this]
   cases u.reverse.lookup b <;> simp
end
section
variable {P : Program} {T : Tab} {sig : FuncId → Option Sig} {ops : Array Oper} {w0 : W0} {S0 : Nat → Prop} {Q : Exit → Act → World → Prop} {env : List DV}
def EntOk (T : Tab) (sig : FuncId → Option Sig) (ops : Array Oper) (env : List DV) (l : List Ent) (st : St) (i : Nat) (e : Ent) : Prop :=
 ∃ o, ops.toList[i]? = some o ∧ (∀ x (m : Mem) v, m.env = env → SVr T m (slotP ops.toList l st (fun j => decide (j < i)) x) v → SVr T m (e.1.get x) v) ∧ (∀ b, e.1.blk b = blkP l st (fun j => decide (j < i)) b) ∧ e.1.nt = st.nt ∧
  match e.2 with
  | some out => (o.guard = none ∨ ∃ j want d, o.guard = some (j, want) ∧ (ops[j]?).bind (·.dst) = some d ∧ e.1.get d = .one (.c .bool (.B want))) ∧ ∃ st1, e.1.step T sig o = some (out, st1)
  | none => (∃ j want d, o.guard = some (j, want) ∧ (ops[j]?).bind (·.dst) = some d ∧ (e.1.get d = .one (.c .bool (.B (!want))) ∨ e.1.get d = .tup [])) ∧ ∀ d, o.dst = some d → d < st.nt
theorem drop_cons {α : Type} {l : List α} {k : Nat} {x : α} {r : List α} (h : l.drop k = x :: r) : l[k]? = some x ∧ l.drop (k + 1) = r := by
 constructor
 ·have := congrArg (fun l => l[0]?) h
  simpa using this
 ·have := congrArg (List.drop 1) h
  rw [List.drop_drop] at this
  simpa using this
theorem path_at {l : List Ent} {st : St} (hu : Uniq ops.toList) {r : List Oper} {s st' : St} {l' : List Ent} (hp : Path T sig ops env r s l' st') : ∀ k, ops.toList.drop k = r → l.drop k = l' → s.nt = st.nt →
  (∀ x (m : Mem) v, m.env = env → SVr T m (slotP ops.toList l st (fun j => decide (j < k)) x) v → SVr T m (s.get x) v) → (∀ b, s.blk b = blkP l st (fun j => decide (j < k)) b) →
  (∀ i e, k ≤ i → l[i]? = some e → EntOk T sig ops env l st i e) ∧ st'.nt = st.nt ∧ (∀ x (m : Mem) v, m.env = env → SVr T m (slotP ops.toList l st (fun j => decide (j < k + r.length)) x) v → SVr T m (st'.get x) v) ∧ (∀ b, st'.blk b = blkP l st (fun j => decide (j < k + r.length)) b) := by
 induction hp with
 | nil s =>
  intro k hr hl hnt hA hB
  refine ⟨fun i e hi he => ?_, hnt, by simpa using hA, by simpa using hB⟩
  have := List.drop_eq_nil_iff.1 hl
  have := (List.getElem?_eq_some_iff.1 he).1
  omega
 | @go o r s s1 s2 out l' hg hs h ih =>
  intro k hr hl hnt hA hB
  obtain ⟨hok, hr1⟩ := drop_cons hr
  obtain ⟨hlk, hl1⟩ := drop_cons hl
  have hs' := hs
  unfold St.step at hs'
  obtain ⟨out', ho, hs'⟩ := Option.bind_eq_some_iff.1 hs'
  split at hs'
  case isFalse => cases hs'
  cases hs'
  have hslot : ∀ x, o.dst ≠ some x → slotP ops.toList l st (fun j => decide (j < k + 1)) x = slotP ops.toList l st (fun j => decide (j < k)) x := fun x hx => slotP_congr fun j hj => by
   have : j ≠ k := fun e => by
    obtain ⟨o', h1, h2⟩ := wrS_dst hj
    rw [e, hok] at h1; cases h1; exact hx h2
   simp only [decide_eq_decide]; omega
  have := ih (k + 1) hr1 hl1 hnt (fun x m v he hv => by
    by_cases hx : o.dst = some x
    · have hw := hu.s k o x hok hx
      unfold slotP at hv
      rw [hw] at hv
      simp only [hlk, Option.map_some, Option.getD_some, show k < k + 1 from Nat.lt_succ_self k, decide_true, if_true, valE] at hv
      simp only [St.get, hx, List.lookup_cons, beq_self_eq_true, Option.getD_some]
      exact hv
    · rw [hslot x hx] at hv
      have := hA x m v he hv
      unfold St.get at this ⊢
      cases hd : o.dst with
      | none => exact this
      | some d =>
        have : (x == d) = false := by simp; intro e; exact hx (by rw [hd, e])
        simp only [List.lookup_cons, this]
        assumption) (fun b => by
    refine Eq.trans (b := (out.upd.reverse.lookup b).getD (s.blk b)) ?_ ?_
    · unfold St.blk
      dsimp only
      rw [lookup_app]
      cases out.upd.reverse.lookup b <;> simp
    by_cases hb : b ∈ out.upd.map (·.1)
    · obtain ⟨x, hx⟩ := lookup_some_of (u := out.upd.reverse) (b := b) (by rw [List.map_reverse]; exact List.mem_reverse.2 hb)
      rw [blkP_last (i := k) hlk hb (by simp) (fun j e' h1 h2 h3 h4 => by simp only [decide_eq_true_eq] at h4; omega)]
      simp [blkE, hx]
    · rw [lookup_none_of (by rw [List.map_reverse]; exact fun h => hb (List.mem_reverse.1 h)), Option.getD_none, hB b]
      refine blkP_congr fun j e' hj hk' => ?_
      have : j ≠ k := fun e => by
        rw [e, hlk] at hj; cases hj; exact hb hk'
      simp only [decide_eq_decide]; omega)
  refine ⟨fun i e hi he => ?_, this.2.1, by rw [List.length_cons]; rw [show k + (r.length + 1) = k + 1 + r.length by omega]; exact this.2.2.1, by rw [List.length_cons, show k + (r.length + 1) = k + 1 + r.length by omega]; exact this.2.2.2⟩
  rcases Nat.lt_or_eq_of_le hi with hi | rfl
  ·exact this.1 i e hi he
  ·rw [hlk] at he; cases he
   exact ⟨o, hok, hA, hB, hnt, hg, _, hs⟩
 | @skip o r s s2 l' j want d hg hd hv hn h ih =>
  intro k hr hl hnt hA hB
  obtain ⟨hok, hr1⟩ := drop_cons hr
  obtain ⟨hlk, hl1⟩ := drop_cons hl
  have hslot : ∀ x, o.dst ≠ some x → slotP ops.toList l st (fun j => decide (j < k + 1)) x = slotP ops.toList l st (fun j => decide (j < k)) x := fun x hx => slotP_congr fun j hj => by
   have : j ≠ k := fun e => by
    obtain ⟨o', h1, h2⟩ := wrS_dst hj
    rw [e, hok] at h1; cases h1; exact hx h2
   simp only [decide_eq_decide]; omega
  have := ih (k + 1) hr1 hl1 (by cases o.dst <;> exact hnt) (fun x m v he hv => by
    by_cases hx : o.dst = some x
    · have hw := hu.s k o x hok hx
      unfold slotP at hv
      rw [hw] at hv
      simp only [hlk, Option.map_some, Option.getD_some, show k < k + 1 from Nat.lt_succ_self k, decide_true, if_true, valE] at hv
      simp only [St.get, St.put, hx, List.lookup_cons, beq_self_eq_true, Option.getD_some]
      exact hv
    · rw [hslot x hx] at hv
      have := hA x m v he hv
      unfold St.get at this ⊢
      cases hd : o.dst with
      | none => exact this
      | some d =>
        have : (x == d) = false := by simp; intro e; exact hx (by rw [hd, e])
        simp only [St.put, List.lookup_cons, this]
        assumption) (fun b => by
    have e : (s.put o.dst (.tup [])).blk b = s.blk b := by cases o.dst <;> rfl
    rw [e, hB b]
    refine blkP_congr fun j e' hj hk' => ?_
    have : j ≠ k := fun e => by
      rw [e, hlk] at hj; cases hj; cases hk'
    simp only [decide_eq_decide]; omega)
  refine ⟨fun i e hi he => ?_, this.2.1, by rw [List.length_cons]; rw [show k + (r.length + 1) = k + 1 + r.length by omega]; exact this.2.2.1, by rw [List.length_cons, show k + (r.length + 1) = k + 1 + r.length by omega]; exact this.2.2.2⟩
  rcases Nat.lt_or_eq_of_le hi with hi | rfl
  ·exact this.1 i e hi he
  ·rw [hlk] at he; cases he
   exact ⟨o, hok, hA, hB, hnt, ⟨j, want, d, hg, hd, hv⟩, fun d hd => by rw [← hnt]; exact hn d hd⟩
 | @fork o r s s2 l' d e b hv he h ih =>
  intro k hr hl hnt hA hB
  refine ih k hr hl hnt (fun x m v hm hx => ?_) hB
  have := hA x m v hm hx
  by_cases hxd : x = d
  ·subst hxd
   rw [hv] at this
   obtain ⟨z, h1, h2⟩ := Rd.bool_inv (show CVr T m (.c .bool e) v from this)
   subst h2
   rw [hm] at h1
   rw [h1] at he
   simp only [DV.bool] at he
   subst he
   simp only [St.get, St.put, List.lookup_cons, beq_self_eq_true, Option.getD_some]
   exact Rd.bool
  ·have hn : (x == d) = false := by simpa using hxd
   unfold St.get at this ⊢
   simp only [St.put, List.lookup_cons, hn]
   exact this
end
end Go.Proofs.YtbegccgpmhbnfaaGreat
