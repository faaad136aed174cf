import PyProof.Rows.All
import Wide.All
import OpenK.AllK
import Wide.FinOn
import HandS.ForMost
import HandS.IsInst
import HandS.Deep
import HandS.TupAny
import HandS.Flow
import HandS.Style
import HandS.Text
import HandS.Nested
import HandS.Words
import HandS.Lambda
import KE.LtData
import KE.SortKeyHeap
import HandS.Keys
import HandS.SortKw
import HandS.EndOwn
import PySem.Challenge.RW_nestdeep_k37_least_sets
set_option Elab.async false
set_option linter.all false
set_option maxRecDepth 100000
set_option maxHeartbeats 4000000
/-! A layer of data over the hand layer: frozen data, own lists, pots; no heap in the readings. -/
namespace DL
open PySem PySem.Spec PyProof.Rows L2

abbrev D := PyData

/-! ### data in the frozen part of the heap -/
mutual
theorem dp_mono {K : PySem.W.Frag} {H H' : Hp} (e : Same H H') : ∀ (d : D) (v : V), Dp K H v d → Dp K H' v d
  | .none, _, h => by cases h; exact .non
  | .bool b, _, h => by cases h; exact .bl b
  | .int i, _, h => by cases h; exact .int i
  | .str x, _, h => by cases h; exact .str x
  | .list ds, _, h => by
    cases h with
    | lst hs ha => exact .lst (e.seq hs) (dpa_mono e ds _ ha)
  | .tuple ds, _, h => by
    cases h with
    | tup hs ha =>
      refine .tup ?_ (dpa_mono e ds _ ha)
      rcases hs with (h | ⟨o, h⟩) | h
      · exact .inl (.inl (e _ _ h))
      · exact .inl (.inr ⟨o, e _ _ h⟩)
      · exact .inr h
  | .dict _, _, h => nomatch h
theorem dpa_mono {K : PySem.W.Frag} {H H' : Hp} (e : Same H H') : ∀ (ds : List D) (vs : List V), DpAll K H vs ds → DpAll K H' vs ds
  | [], _, h => by cases h; exact .nil
  | d :: ds, _, h => by
    cases h with
    | cons a b => exact .cons (dp_mono e d _ a) (dpa_mono e ds _ b)
end
theorem dpa_len {K : PySem.W.Frag} {H : Hp} : ∀ {vs : List V} {ds : List D}, DpAll K H vs ds → vs.length = ds.length
  | _, _, .nil => rfl
  | _, _, .cons _ t => congrArg (· + 1) (dpa_len t)
theorem dpa_get {K : PySem.W.Frag} {H : Hp} : ∀ {vs : List V} {ds : List D} {i : Nat} {v : V}, DpAll K H vs ds → vs[i]? = some v → ∃ d, ds[i]? = some d ∧ Dp K H v d
  | _, _, _, _, .nil, h => by simp at h
  | _, _, 0, _, .cons a _, h => by
    have e := Option.some.inj (by simpa using h)
    subst e
    exact ⟨_, rfl, a⟩
  | _, _, i + 1, _, .cons _ t, h => by
    obtain ⟨d, e, q⟩ := dpa_get (i := i) t (by simpa using h)
    exact ⟨d, by simpa using e, q⟩
theorem dpa_getD {K : PySem.W.Frag} {H : Hp} : ∀ {vs : List V} {ds : List D} {i : Nat} {d : D}, DpAll K H vs ds → ds[i]? = some d → ∃ v, vs[i]? = some v ∧ Dp K H v d
  | _, _, _, _, .nil, h => by simp at h
  | _, _, 0, _, .cons a _, h => by
    have e := Option.some.inj (by simpa using h)
    subst e
    exact ⟨_, rfl, a⟩
  | _, _, i + 1, _, .cons _ t, h => by
    obtain ⟨d, e, q⟩ := dpa_getD (i := i) t (by simpa using h)
    exact ⟨d, by simpa using e, q⟩
theorem dpa_app {K : PySem.W.Frag} {H : Hp} : ∀ {vs us : List V} {ds es : List D}, DpAll K H vs ds → DpAll K H us es → DpAll K H (vs ++ us) (ds ++ es)
  | _, _, _, _, .nil, h => h
  | _, _, _, _, .cons a t, h => .cons a (dpa_app t h)
theorem dpa_set {K : PySem.W.Frag} {H : Hp} {v : V} {d : D} (r : Dp K H v d) : ∀ {vs : List V} {ds : List D} (i : Nat), DpAll K H vs ds → DpAll K H (vs.set i v) (ds.set i d)
  | _, _, _, .nil => .nil
  | _, _, 0, .cons _ t => .cons r t
  | _, _, i + 1, .cons a t => .cons a (dpa_set r i t)
theorem dpa_take {K : PySem.W.Frag} {H : Hp} : ∀ {vs : List V} {ds : List D} (n : Nat), DpAll K H vs ds → DpAll K H (vs.take n) (ds.take n)
  | _, _, 0, _ => .nil
  | _, _, _ + 1, .nil => .nil
  | _, _, n + 1, .cons a t => .cons a (dpa_take n t)
theorem dpa_drop {K : PySem.W.Frag} {H : Hp} : ∀ {vs : List V} {ds : List D} (n : Nat), DpAll K H vs ds → DpAll K H (vs.drop n) (ds.drop n)
  | _, _, 0, h => h
  | _, _, _ + 1, .nil => .nil
  | _, _, n + 1, .cons _ t => dpa_drop n t

/-! ### the tables of code objects; what is kept of a heap -/
class Tbs where
  T : List NdefX.NTab
abbrev Tab [Tbs] (H : Hp) : Prop := NdefX.TabsN Tbs.T H
/-- all stands, but tables may have grown -/
def Kp (H H' : Hp) : Prop := ∀ a o, H a = some o → H' a = some o ∨ ∃ ps ps', o = .tbl ps ∧ H' a = some (.tbl ps')
theorem Kp.refl (H : Hp) : Kp H H := fun _ _ e => .inl e
theorem Kp.of {H H' : Hp} (h : Same H H') : Kp H H' := fun a o e => .inl (h a o e)
theorem Kp.trans {H H1 H2 : Hp} (h : Kp H H1) (k : Kp H1 H2) : Kp H H2 := fun a o e => by
  rcases h a o e with q | ⟨ps, ps', rfl, q⟩
  · exact k a o q
  · rcases k a _ q with r | ⟨_, qs, _, r⟩
    · exact .inr ⟨ps, ps', rfl, r⟩
    · exact .inr ⟨ps, qs, rfl, r⟩
theorem Kp.free {H H' : Hp} (h : Kp H H') {a : Addr} (e : H' a = none) : H a = none := by
  cases q : H a with
  | none => rfl
  | some o =>
    rcases h a o q with r | ⟨_, _, _, r⟩
    · rw [e] at r; cases r
    · rw [e] at r; cases r
theorem Kp.l {H H' : Hp} {a : Addr} {xs : List V} (h : Kp H H') (e : H a = some (.lst xs)) : H' a = some (.lst xs) := by
  rcases h a _ e with r | ⟨_, _, z, _⟩
  · exact r
  · cases z
theorem Tab.put [Tbs] {H : Hp} {p : Addr} {o : HO} (t : Tab H) (h : H p = none ∨ ∃ xs, H p = some (.lst xs)) : Tab (upd H p o) := fun q hq => by
  obtain ⟨ps, h1, h2, h3⟩ := t q hq
  refine ⟨ps, ?_, h2, fun pos cv hc => ?_⟩
  · rw [upd_ne fun (z : q.1 = p) => by
      rw [z] at h1
      rcases h with e | ⟨xs, e⟩
      · rw [e] at h1; cases h1
      · rw [e] at h1; cases h1]
    exact h1
  · obtain ⟨c, e1, e2⟩ := h3 pos cv hc
    refine ⟨c, e1, ?_⟩
    rw [upd_ne fun (z : c = p) => by
      rw [z] at e2
      rcases h with e | ⟨xs, e⟩
      · rw [e] at e2; cases e2
      · rw [e] at e2
        have z2 := Option.some.inj e2
        unfold LamX.CodeO at z2
        cases z2]
    exact e2
/-- the tables stand, none of them is frozen -/
structure Tf [Tbs] (F H : Hp) : Prop where
  t : Tab H
  n : ∀ a ps, F a ≠ some (.tbl ps)
theorem Tf.put [Tbs] {F H : Hp} {p : Addr} {o : HO} (t : Tf F H) (h : H p = none ∨ ∃ xs, H p = some (.lst xs)) : Tf F (upd H p o) := ⟨t.t.put h, t.n⟩
theorem Tf.ext [Tbs] {F H H' : Hp} (t : Tf F H) (h : Same H H') : Tf F H' := ⟨t.t.ext h, t.n⟩
theorem Tf.frz [Tbs] {F H : Hp} {p : Addr} {o : HO} (t : Tf F H) (ho : ∀ ps, o ≠ .tbl ps) : Tf (upd F p o) H := ⟨t.t, fun a ps => by
  by_cases z : a = p
  · subst z
    rw [upd_same]
    exact fun e => ho ps (Option.some.inj e)
  · rw [upd_ne z]
    exact t.n a ps⟩
theorem lst_ntbl {vs : List V} : ∀ ps, HO.lst vs ≠ .tbl ps := fun _ z => by cases z
theorem tup_ntbl {vs : List V} : ∀ ps, HO.tup vs ≠ .tbl ps := fun _ z => by cases z
variable [Tbs]
/-! ### the state: what the slots hold -/
/-- a slot: nothing known; a datum; an own list of data; a pot -/
inductive Sl where
  | no
  | fz (d : D)
  | own (ds : List D)
  | pot
abbrev DS := List Sl
def PotAt (H : Hp) (p : Addr) : Prop := ∃ a b : Int, H p = some (.lst [.int a, .int b]) ∧ 0 ≤ a ∧ 0 ≤ b ∧ b < 2147483647
/-- B: what stands unchanged to the end; F0: what was frozen at the entry; P0: the pots of the entry -/
structure Bs where
  B : Hp
  F0 : Hp
  P0 : List Addr
/-- F: what is frozen now; P: the pots -/
structure Fz where
  F : Hp
  P : List Addr
def SlOk (K : PySem.W.Frag) (b : Bs) (f : Fz) (H : Hp) : Sl → Option (Option V) → Prop
  | .no, _ => True
  | .fz d, o => ∃ v, o = some (some v) ∧ Dp K f.F v d
  | .own ds, o => ∃ p vs, o = some (some (.ref p)) ∧ f.F p = none ∧ b.B p = none ∧ p ∉ f.P ∧ H p = some (.lst vs) ∧ DpAll K f.F vs ds
  | .pot, o => ∃ p, o = some (some (.ref p)) ∧ p ∈ f.P
def isOwn : Sl → Bool
  | .own _ => true
  | _ => false
structure Sim (K : PySem.W.Frag) (b : Bs) (f : Fz) (ρ : DS) (σ : L2.St) (H : Hp) : Prop where
  len : ρ.length = σ.length
  bs : Kp b.B H
  fs : Same f.F H
  f0 : Same b.F0 f.F
  fr : ∀ a o, f.F a = some o → (∃ o', b.F0 a = some o') ∨ b.B a = none
  p0 : ∀ p ∈ b.P0, p ∈ f.P
  pt : ∀ p ∈ f.P, f.F p = none ∧ b.B p = none ∧ PotAt H p
  sl : ∀ (i : Nat) (s : Sl), ρ[i]? = some s → SlOk K b f H s σ[i]?
  sep : ∀ (i j : Nat) (s t : Sl) (p : Addr), ρ[i]? = some s → ρ[j]? = some t → isOwn s = true → isOwn t = true → σ[i]? = some (some (.ref p)) → σ[j]? = some (some (.ref p)) → i = j
  tb : Tf f.F H

/-- the frozen part has grown, by new objects alone; what was tracked stands -/
structure Gr (F H F' H' : Hp) : Prop where
  hh : Kp H H'
  ff : Same F F'
  fh : Same F' H'
  nw : ∀ a o, F' a = some o → (∃ o', F a = some o') ∨ H a = none
  tb : Tf F H → Tf F' H'
theorem Gr.refl {F H : Hp} (h : Same F H) : Gr F H F H := ⟨Kp.refl _, Same.refl _, h, fun _ o e => .inl ⟨o, e⟩, id⟩
theorem Gr.trans {F H F1 H1 F2 H2 : Hp} (a : Gr F H F1 H1) (c : Gr F1 H1 F2 H2) : Gr F H F2 H2 :=
  ⟨a.hh.trans c.hh, a.ff.trans c.ff, c.fh, fun x o e => by
    rcases c.nw x o e with ⟨o', e'⟩ | e'
    · exact a.nw x o' e'
    · exact .inr (a.hh.free e'), fun t => c.tb (a.tb t)⟩
/-- a new object, frozen at once -/
theorem Gr.new {F H : Hp} {p : Addr} {o : HO} (h : Same F H) (hp : H p = none) (ho : ∀ ps, o ≠ .tbl ps) : Gr F H (upd F p o) (upd H p o) where
  hh := .of fun b u e => by rw [upd_ne (ne_of_none e hp)]; exact e
  ff := fun b u e => by rw [upd_ne (ne_of_none e (h.free hp))]; exact e
  fh := fun b u e => by
    by_cases q : b = p
    · subst q; rw [upd_same] at e ⊢; exact e
    · rw [upd_ne q] at e ⊢; exact h b u e
  nw := fun b u e => by
    by_cases q : b = p
    · subst q; exact .inr hp
    · rw [upd_ne q] at e; exact .inl ⟨u, e⟩
  tb := fun t => (t.put (.inl hp)).frz ho
theorem same_new {H : Hp} {p : Addr} {o : HO} (hp : H p = none) : Same H (upd H p o) := fun b u e => by rw [upd_ne (ne_of_none e hp)]; exact e

section
variable {K : PySem.W.Frag} {b : Bs} {f : Fz} {ρ : DS} {σ : L2.St} {H H' F' : Hp}
theorem SlOk.keep {s : Sl} {o : Option (Option V)} {f' : Fz} (h : SlOk K b f H s o) (ff : Same f.F f'.F) (hp : ∀ p, p ∈ f'.P ↔ p ∈ f.P) (hk : ∀ p (u : List V), isOwn s = true → o = some (some (.ref p)) → f.F p = none → b.B p = none → p ∉ f.P → H p = some (.lst u) → f'.F p = none ∧ H' p = some (.lst u)) : SlOk K b f' H' s o := by
  cases s with
  | no => exact True.intro
  | fz d => obtain ⟨v, e, q⟩ := h; exact ⟨v, e, dp_mono ff d v q⟩
  | own ds =>
    obtain ⟨p, vs, e, h1, h2, h3, h4, h5⟩ := h
    obtain ⟨k1, k2⟩ := hk p _ rfl e h1 h2 h3 h4
    exact ⟨p, vs, e, k1, h2, fun z => h3 ((hp p).mp z), k2, dpa_mono ff ds vs h5⟩
  | pot => obtain ⟨p, e, q⟩ := h; exact ⟨p, e, (hp p).mpr q⟩
theorem Sim.grow (S : Sim K b f ρ σ H) (g : Gr f.F H F' H') : Sim K b ⟨F', f.P⟩ ρ σ H' where
  len := S.len
  bs := S.bs.trans g.hh
  fs := g.fh
  f0 := S.f0.trans g.ff
  fr := fun a o e => by
    rcases g.nw a o e with ⟨o', e'⟩ | e'
    · exact S.fr a o' e'
    · exact .inr (S.bs.free e')
  p0 := S.p0
  pt := fun p hp => by
    obtain ⟨h1, h2, a, c, h3, h4⟩ := S.pt p hp
    refine ⟨?_, h2, a, c, g.hh.l h3, h4⟩
    show F' p = Option.none
    cases q : F' p with
    | none => rfl
    | some o =>
      rcases g.nw p o q with ⟨o', e'⟩ | e'
      · rw [h1] at e'; cases e'
      · rw [h3] at e'; cases e'
  sl := fun i s e => (S.sl i s e).keep g.ff (fun _ => Iff.rfl) fun p u _ _ h1 _ _ h4 => by
    refine ⟨?_, g.hh.l h4⟩
    show F' p = Option.none
    cases q : F' p with
    | none => rfl
    | some o =>
      rcases g.nw p o q with ⟨o', e'⟩ | e'
      · rw [h1] at e'; cases e'
      · rw [h4] at e'; cases e'
  sep := S.sep
  tb := g.tb S.tb
end

/-! ### readings without a heap -/
/-- how the state goes on within an expression: what was tracked stands, pots apart; the frozen part grows -/
structure Nx (f : Fz) (H : Hp) (f' : Fz) (H' : Hp) : Prop where
  ff : Same f.F f'.F
  kp : ∀ a o, H a = some o → a ∉ f.P → H' a = some o ∨ ∃ ps ps', o = .tbl ps ∧ H' a = some (.tbl ps')
  pp : ∀ p, p ∈ f.P → p ∈ f'.P
  pn : ∀ p, p ∈ f'.P → p ∈ f.P ∨ H p = none
theorem Nx.kl {f f' : Fz} {H H' : Hp} {a : Addr} {xs : List V} (n : Nx f H f' H') (e : H a = some (.lst xs)) (h : a ∉ f.P) : H' a = some (.lst xs) := by
  rcases n.kp a _ e h with r | ⟨_, _, z, _⟩
  · exact r
  · cases z
theorem Nx.refl (f : Fz) (H : Hp) : Nx f H f H := ⟨Same.refl _, fun _ _ e _ => .inl e, fun _ e => e, fun _ e => .inl e⟩
theorem Nx.trans {f f1 f2 : Fz} {H H1 H2 : Hp} (hp : ∀ p ∈ f.P, ∃ o, H p = some o) (a : Nx f H f1 H1) (c : Nx f1 H1 f2 H2) : Nx f H f2 H2 where
  ff := a.ff.trans c.ff
  kp := fun x o e n => by
    have nz : x ∉ f1.P := fun z => by
      rcases a.pn x z with q | q
      · exact n q
      · rw [e] at q; cases q
    rcases a.kp x o e n with r | ⟨ps, ps', rfl, r⟩
    · exact c.kp x o r nz
    · rcases c.kp x _ r nz with r2 | ⟨_, qs, _, r2⟩
      · exact .inr ⟨ps, ps', rfl, r2⟩
      · exact .inr ⟨ps, qs, rfl, r2⟩
  pp := fun p e => c.pp p (a.pp p e)
  pn := fun p e => by
    rcases c.pn p e with q | q
    · exact a.pn p q
    · by_cases z : p ∈ f.P
      · exact .inl z
      · refine .inr ?_
        cases r : H p with
        | none => rfl
        | some o =>
          rcases a.kp p o r z with w | ⟨_, _, _, w⟩
          · rw [w] at q; cases q
          · rw [w] at q; cases q
theorem Nx.of_gr {f : Fz} {H F' H' : Hp} (g : Gr f.F H F' H') : Nx f H ⟨F', f.P⟩ H' := ⟨g.ff, fun a o e _ => g.hh a o e, fun _ e => e, fun _ e => .inl e⟩
theorem Sim.pots {K : PySem.W.Frag} {b : Bs} {f : Fz} {ρ : DS} {σ : L2.St} {H : Hp} (S : Sim K b f ρ σ H) : ∀ p ∈ f.P, ∃ o, H p = some o := fun p hp => by
  obtain ⟨_, _, a, c, h, _⟩ := S.pt p hp
  exact ⟨_, h⟩

abbrev TD := DS → (D → DS → Prop) → Prop
abbrev TDA := DS → (List D → DS → Prop) → Prop
abbrev TDT := DS → (Bool → DS → Prop) → Prop
/-- read at once: a datum, or an own list as it stands -/
def Bo (K : PySem.W.Frag) (f : Fz) (H : Hp) (v : V) (d : D) : Prop := Dp K f.F v d ∨ ∃ p vs ds, v = .ref p ∧ d = .list ds ∧ p ∉ f.P ∧ H p = some (.lst vs) ∧ DpAll K f.F vs ds
inductive BoAll (K : PySem.W.Frag) (f : Fz) (H : Hp) : List V → List D → Prop
  | nil : BoAll K f H [] []
  | cons {v vs d ds} : Bo K f H v d → BoAll K f H vs ds → BoAll K f H (v :: vs) (d :: ds)
theorem Bo.next {K : PySem.W.Frag} {f f' : Fz} {H H' : Hp} {v : V} {d : D} (h : Bo K f H v d) (n : Nx f H f' H') : Bo K f' H' v d := by
  rcases h with h | ⟨p, vs, ds, e1, e2, h1, h2, h3⟩
  · exact .inl (dp_mono n.ff d v h)
  · refine .inr ⟨p, vs, ds, e1, e2, fun z => ?_, n.kl h2 h1, dpa_mono n.ff ds vs h3⟩
    rcases n.pn p z with q | q
    · exact h1 q
    · rw [h2] at q; cases q
theorem Bo.dp {K : PySem.W.Frag} {f : Fz} {H : Hp} {v : V} {d : D} (fs : Same f.F H) (h : Bo K f H v d) : Dp K H v d := by
  rcases h with h | ⟨p, vs, ds, rfl, rfl, h1, h2, h3⟩
  · exact dp_mono fs d v h
  · exact .lst (.inl (.inl h2)) (dpa_mono fs ds vs h3)
theorem Bo.lst {K : PySem.W.Frag} {f : Fz} {H : Hp} {v : V} {ds : List D} (fs : Same f.F H) (h : Bo K f H v (.list ds)) : ∃ p vs, v = .ref p ∧ SqL K H p vs ∧ DpAll K f.F vs ds := by
  rcases h with h | ⟨p, vs, ds', rfl, e, h1, h2, h3⟩
  · cases h with
    | lst hs ha => exact ⟨_, _, rfl, fs.seq hs, ha⟩
  · cases e
    exact ⟨p, vs, rfl, .inl (.inl h2), h3⟩
theorem same_tup {K : PySem.W.Frag} {H H' : Hp} {a : Addr} {xs : List V} (e : Same H H') (h : SqT K H a xs) : SqT K H' a xs := by
  rcases h with (h | ⟨o, h⟩) | h
  · exact .inl (.inl (e _ _ h))
  · exact .inl (.inr ⟨o, e _ _ h⟩)
  · exact .inr h
theorem Bo.tup {K : PySem.W.Frag} {f : Fz} {H : Hp} {v : V} {ds : List D} (fs : Same f.F H) (h : Bo K f H v (.tuple ds)) : ∃ p vs, v = .ref p ∧ SqT K H p vs ∧ DpAll K f.F vs ds := by
  rcases h with h | ⟨p, vs, ds', rfl, e, h1, h2, h3⟩
  · cases h with
    | tup hs ha => exact ⟨_, _, rfl, same_tup fs hs, ha⟩
  · cases e
theorem Bo.int {K : PySem.W.Frag} {f : Fz} {H : Hp} {v : V} {i : Int} (h : Bo K f H v (.int i)) : v = .int i := by
  rcases h with h | ⟨p, vs, ds', rfl, e, _⟩
  · cases h; rfl
  · cases e
theorem Bo.str {K : PySem.W.Frag} {f : Fz} {H : Hp} {v : V} {x : Str} (h : Bo K f H v (.str x)) : v = .str x := by
  rcases h with h | ⟨p, vs, ds', rfl, e, _⟩
  · cases h; rfl
  · cases e
theorem Bo.bl {K : PySem.W.Frag} {f : Fz} {H : Hp} {v : V} {x : Bool} (h : Bo K f H v (.bool x)) : v = .bl x := by
  rcases h with h | ⟨p, vs, ds', rfl, e, _⟩
  · cases h; rfl
  · cases e
theorem Bo.non {K : PySem.W.Frag} {f : Fz} {H : Hp} {v : V} (h : Bo K f H v .none) : v = .non := by
  rcases h with h | ⟨p, vs, ds', rfl, e, _⟩
  · cases h; rfl
  · cases e

/-- an expression that gives a datum -/
def lift (K : PySem.W.Frag) (T : TD) : TE := fun σ H Q => ∃ b f ρ R, Sim K b f ρ σ H ∧ T ρ R ∧
  ∀ d ρ' v f' H', R d ρ' → Sim K b f' ρ' σ H' → Nx f H f' H' → Dp K f'.F v d → Q v H'
def liftB (K : PySem.W.Frag) (T : TD) : TE := fun σ H Q => ∃ b f ρ R, Sim K b f ρ σ H ∧ T ρ R ∧
  ∀ d ρ' v f' H', R d ρ' → Sim K b f' ρ' σ H' → Nx f H f' H' → Bo K f' H' v d → Q v H'
def liftA (K : PySem.W.Frag) (T : TDA) : TA := fun σ H Q => ∃ b f ρ R, Sim K b f ρ σ H ∧ T ρ R ∧
  ∀ ds ρ' vs f' H', R ds ρ' → Sim K b f' ρ' σ H' → Nx f H f' H' → DpAll K f'.F vs ds → Q vs H'
def liftBA (K : PySem.W.Frag) (T : TDA) : TA := fun σ H Q => ∃ b f ρ R, Sim K b f ρ σ H ∧ T ρ R ∧
  ∀ ds ρ' vs f' H', R ds ρ' → Sim K b f' ρ' σ H' → Nx f H f' H' → BoAll K f' H' vs ds → Q vs H'
def liftT (K : PySem.W.Frag) (T : TDT) : TT := fun σ H Q => ∃ b f ρ R, Sim K b f ρ σ H ∧ T ρ R ∧
  ∀ c ρ' f' H', R c ρ' → Sim K b f' ρ' σ H' → Nx f H f' H' → Q c H'
/-- an expression that gives a new list, its own -/
structure Own (K : PySem.W.Frag) (b : Bs) (f : Fz) (ρ : DS) (σ : L2.St) (H : Hp) (p : Addr) (ds : List D) : Prop where
  nf : f.F p = none
  nb : b.B p = none
  np : p ∉ f.P
  no : ∀ (i : Nat) (s : Sl), ρ[i]? = some s → isOwn s = true → σ[i]? ≠ some (some (V.ref p))
  at_ : ∃ vs, H p = some (.lst vs) ∧ DpAll K f.F vs ds
def liftL (K : PySem.W.Frag) (T : TDA) : TE := fun σ H Q => ∃ b f ρ R, Sim K b f ρ σ H ∧ T ρ R ∧
  ∀ ds ρ' p f' H', R ds ρ' → Sim K b f' ρ' σ H' → Nx f H f' H' → Own K b f' ρ' σ H' p ds → Q (.ref p) H'
/-- an expression that gives a pot -/
def liftP (K : PySem.W.Frag) (T : DS → (DS → Prop) → Prop) : TE := fun σ H Q => ∃ b f ρ R, Sim K b f ρ σ H ∧ T ρ R ∧
  ∀ ρ' p f' H', R ρ' → Sim K b f' ρ' σ H' → Nx f H f' H' → p ∈ f'.P → Q (.ref p) H'

theorem PE.weak {X : Cx} {e : Expr} {t t' : TE} (h : PE X e t) (w : ∀ σ H Q, t' σ H Q → t σ H Q) : PE X e t' := ⟨fun pins s σ H Q I q => h.run pins s σ H Q I (w σ H Q q)⟩
theorem PE.or {X : Cx} {e : Expr} {t t' : TE} (h : PE X e t) (h' : PE X e t') : PE X e (fun σ H Q => t σ H Q ∨ t' σ H Q) := ⟨fun pins s σ H Q I q => q.elim (h.run pins s σ H Q I) (h'.run pins s σ H Q I)⟩
theorem PT.weak {X : Cx} {e : Expr} {t t' : TT} (h : PT X e t) (w : ∀ σ H Q, t' σ H Q → t σ H Q) : PT X e t' := ⟨fun pins s σ H Q I q => h.run pins s σ H Q I (w σ H Q q)⟩
theorem PW.weak {X : Cx} {e : Expr} {t t' : TT} (h : PW X e t) (w : ∀ σ H Q, t' σ H Q → t σ H Q) : PW X e t' := ⟨fun wh pins s σ H Q I q => h.run wh pins s σ H Q I (w σ H Q q)⟩
theorem PA.weak {X : Cx} {es : List Expr} {t t' : TA} (h : PA X es t) (w : ∀ σ H Q, t' σ H Q → t σ H Q) : PA X es t' := ⟨fun pos pins s σ H Q I q => h.run pos pins s σ H Q I (w σ H Q q)⟩
theorem PS.weak {X : Cx} {st : Stmt} {t t' : TS} (h : PS X st t) (w : ∀ D σ H, t' D σ H → t D σ H) : PS X st t' := ⟨fun pins s σ H D I q => h.run pins s σ H D I (w D σ H q)⟩
theorem PSs.weak {X : Cx} {st : List Stmt} {t t' : TS} (h : PSs X st t) (w : ∀ D σ H, t' D σ H → t D σ H) : PSs X st t' := ⟨fun pins s σ H D I q => h.run pins s σ H D I (w D σ H q)⟩
theorem PI.or {X : Cx} {tg e : Expr} {t t' : TI} (h : PI X tg e t) (h' : PI X tg e t') : PI X tg e (fun σ H Q => t σ H Q ∨ t' σ H Q) := ⟨fun pins s σ H Q I q => q.elim (h.run pins s σ H Q I) (h'.run pins s σ H Q I)⟩
theorem PI.weak {X : Cx} {tg e : Expr} {t t' : TI} (h : PI X tg e t) (w : ∀ σ H Q, t' σ H Q → t σ H Q) : PI X tg e t' := ⟨fun pins s σ H Q I q => h.run pins s σ H Q I (w σ H Q q)⟩

abbrev DE (X : Cx) (e : Expr) (T : TD) : Prop := PE X e (lift X.K T)
abbrev DB (X : Cx) (e : Expr) (T : TD) : Prop := PE X e (liftB X.K T)
abbrev DLs (X : Cx) (e : Expr) (T : TDA) : Prop := PE X e (liftL X.K T)
abbrev DPt (X : Cx) (e : Expr) (T : DS → (DS → Prop) → Prop) : Prop := PE X e (liftP X.K T)
abbrev DA (X : Cx) (es : List Expr) (T : TDA) : Prop := PA X es (liftA X.K T)
abbrev DBA (X : Cx) (es : List Expr) (T : TDA) : Prop := PA X es (liftBA X.K T)
abbrev DT (X : Cx) (e : Expr) (T : TDT) : Prop := PT X e (liftT X.K T)
abbrev DW (X : Cx) (e : Expr) (T : TDT) : Prop := PW X e (liftT X.K T)

/-- freezing an own list -/
theorem Sim.freeze {K : PySem.W.Frag} {b : Bs} {f : Fz} {ρ : DS} {σ : L2.St} {H : Hp} {i : Nat} {ds : List D} (S : Sim K b f ρ σ H) (hi : ρ[i]? = some (.own ds)) :
    ∃ p F', σ[i]? = some (some (.ref p)) ∧ Sim K b ⟨F', f.P⟩ (ρ.set i (.fz (.list ds))) σ H ∧ Same f.F F' ∧ Dp K F' (.ref p) (.list ds) := by
  obtain ⟨p, vs, e, h1, h2, h3, h4, h5⟩ := S.sl i _ hi
  have ff : Same f.F (upd f.F p (.lst vs)) := same_new h1
  have hd : Dp K (upd f.F p (.lst vs)) (.ref p) (.list ds) := .lst (.inl (.inl upd_same)) (dpa_mono ff ds vs h5)
  refine ⟨p, upd f.F p (.lst vs), e, ⟨by rw [List.length_set]; exact S.len, S.bs, fun a o q => ?_, S.f0.trans ff, fun a o q => ?_, S.p0, fun q hq => ?_, fun j s q => ?_, fun j k s t q hj hk hs ht e1 e2 => ?_, S.tb.frz lst_ntbl⟩, ff, hd⟩
  · by_cases z : a = p
    · subst z
      have q' : upd f.F a (.lst vs) a = some o := q
      rw [upd_same] at q'
      rw [h4]
      exact q'
    · have q' : upd f.F p (.lst vs) a = some o := q
      rw [upd_ne z] at q'
      exact S.fs a o q'
  · by_cases z : a = p
    · subst z; exact .inr h2
    · have q' : upd f.F p (.lst vs) a = some o := q
      rw [upd_ne z] at q'
      exact S.fr a o q'
  · obtain ⟨k1, k2, k3⟩ := S.pt q hq
    have z : q ≠ p := fun z => h3 (z ▸ hq)
    exact ⟨by show upd f.F p (.lst vs) q = none; rw [upd_ne z]; exact k1, k2, k3⟩
  · have hil : i < ρ.length := (List.getElem?_eq_some_iff.mp hi).1
    by_cases z : j = i
    · subst z
      rw [List.getElem?_set_self hil] at q
      have q' := Option.some.inj q
      subst q'
      exact ⟨.ref p, e, hd⟩
    · rw [List.getElem?_set_ne (Ne.symm z)] at q
      refine (S.sl j s q).keep (f' := ⟨upd f.F p (.lst vs), f.P⟩) ff (fun _ => Iff.rfl) fun r u go g0 g1 g2 g3 g4 => ⟨?_, g4⟩
      have zr : r ≠ p := fun zz => z (S.sep j i s _ p q hi go rfl (zz ▸ g0) e)
      show upd f.F p (.lst vs) r = none
      rw [upd_ne zr]
      exact g1
  · have hil : i < ρ.length := (List.getElem?_eq_some_iff.mp hi).1
    have ne : ∀ (m : Nat) (u : Sl), (ρ.set i (.fz (.list ds)))[m]? = some u → isOwn u = true → ρ[m]? = some u := fun m u hm hu => by
      by_cases z : m = i
      · subst z
        rw [List.getElem?_set_self hil] at hm
        have q' := Option.some.inj hm
        subst q'
        cases hu
      · rw [List.getElem?_set_ne (Ne.symm z)] at hm
        exact hm
    exact S.sep j k s t q (ne j s hj hs) (ne k t hk ht) hs ht e1 e2
end DL
namespace DL
open PySem PySem.Spec PyProof.Rows L2
variable [Tbs]
theorem OpR.weak {X : Cx} {g : Value → Value → Sem Value} {r r' : R2} (h : OpR X g r) (w : ∀ x y H Q, r' x y H Q → r x y H Q) : OpR X g r' := fun pins s σ H x y v u Q I rx ry q => h pins s σ H x y v u Q I rx ry (w x y H Q q)
theorem OpR.or {X : Cx} {g : Value → Value → Sem Value} {r r' : R2} (h : OpR X g r) (h' : OpR X g r') : OpR X g (fun x y H Q => r x y H Q ∨ r' x y H Q) := fun pins s σ H x y v u Q I rx ry q => q.elim (h pins s σ H x y v u Q I rx ry) (h' pins s σ H x y v u Q I rx ry)
theorem CallR.weak {X : Cx} {g : Value} {r r' : List V → Hp → VK → Prop} (h : CallR X g r) (w : ∀ xs H Q, r' xs H Q → r xs H Q) : CallR X g r' := fun pins s σ H xs us Q I rx q => h pins s σ H xs us Q I rx (w xs H Q q)
theorem CallR.or {X : Cx} {g : Value} {r r' : List V → Hp → VK → Prop} (h : CallR X g r) (h' : CallR X g r') : CallR X g (fun xs H Q => r xs H Q ∨ r' xs H Q) := fun pins s σ H xs us Q I rx q => q.elim (h pins s σ H xs us Q I rx) (h' pins s σ H xs us Q I rx)

section
variable {X : Cx} {e a b c : Expr} {es : List Expr} {T Ta Tb : TD} {Tr : TDA} {Tc : TDT} {pos : Pos}
/-! ### names, constants, arguments -/
def dVar (i : Nat) : TD := fun ρ R => match ρ[i]? with
  | some (.fz d) => R d ρ
  | some (.own ds) => R (.list ds) (ρ.set i (.fz (.list ds)))
  | _ => False
def bVar (i : Nat) : TD := fun ρ R => match ρ[i]? with
  | some (.fz d) => R d ρ
  | some (.own ds) => R (.list ds) ρ
  | _ => False
def pVar (i : Nat) : DS → (DS → Prop) → Prop := fun ρ R => ρ[i]? = some .pot ∧ R ρ
theorem de_var {i : Nat} (h : PE X e (tVar i)) : DE X e (dVar i) := PE.weak h fun σ H Q q => by
  obtain ⟨b, f, ρ, R, S, t, q⟩ := q
  unfold dVar at t
  split at t
  · rename_i d hi
    obtain ⟨v, e1, dp⟩ := S.sl i _ hi
    exact ⟨v, e1, q d ρ v f H t S (Nx.refl f H) dp⟩
  · rename_i ds hi
    obtain ⟨p, F', e1, S', ff, dp⟩ := S.freeze hi
    exact ⟨.ref p, e1, q _ _ _ ⟨F', f.P⟩ H t S' ⟨ff, fun _ _ z _ => .inl z, fun _ z => z, fun _ z => .inl z⟩ dp⟩
  · exact t.elim
theorem db_var {i : Nat} (h : PE X e (tVar i)) : DB X e (bVar i) := PE.weak h fun σ H Q q => by
  obtain ⟨b, f, ρ, R, S, t, q⟩ := q
  unfold bVar at t
  split at t
  · rename_i d hi
    obtain ⟨v, e1, dp⟩ := S.sl i _ hi
    exact ⟨v, e1, q d ρ v f H t S (Nx.refl f H) (.inl dp)⟩
  · rename_i ds hi
    obtain ⟨p, vs, e1, h1, h2, h3, h4, h5⟩ := S.sl i _ hi
    exact ⟨.ref p, e1, q _ _ _ f H t S (Nx.refl f H) (.inr ⟨p, vs, ds, rfl, rfl, h3, h4, h5⟩)⟩
  · exact t.elim
theorem dp_var {i : Nat} (h : PE X e (tVar i)) : DPt X e (pVar i) := PE.weak h fun σ H Q q => by
  obtain ⟨b, f, ρ, R, S, ⟨hi, t⟩, q⟩ := q
  obtain ⟨p, e1, hp⟩ := S.sl i _ hi
  exact ⟨.ref p, e1, q ρ p f H t S (Nx.refl f H) hp⟩
theorem db_of (h : DE X e T) : DB X e T := PE.weak h fun σ H Q ⟨b, f, ρ, R, S, t, q⟩ => ⟨b, f, ρ, R, S, t, fun d ρ' v f' H' r S' n dp => q d ρ' v f' H' r S' n (.inl dp)⟩
def dC (d : D) : TD := fun ρ R => R d ρ
theorem de_c {v : V} {d : D} (h : PE X e (tC v)) (hd : ∀ H, Dp X.K H v d) : DE X e (dC d) := PE.weak h fun σ H Q ⟨b, f, ρ, R, S, t, q⟩ => q d ρ v f H t S (Nx.refl f H) (hd _)
theorem de_int {i j} : DE X (.Constant (.int i) j pos) (dC (.int i)) := de_c pe_int fun _ => .int i
theorem de_str {i j} : DE X (.Constant (.str i) j pos) (dC (.str i)) := de_c pe_str fun _ => .str i
theorem de_bl {i j} : DE X (.Constant (.bool i) j pos) (dC (.bool i)) := de_c pe_bl fun _ => .bl i
theorem de_non {j} : DE X (.Constant .none j pos) (dC .none) := de_c pe_non fun _ => .non
def dNil : TDA := fun ρ R => R [] ρ
def dCons (Ta : TD) (Tr : TDA) : TDA := fun ρ R => Ta ρ fun x ρ1 => Tr ρ1 fun xs ρ2 => R (x :: xs) ρ2
theorem da_nil : DA X [] dNil := PA.weak pa_nil fun σ H Q ⟨b, f, ρ, R, S, t, q⟩ => q [] ρ [] f H t S (Nx.refl f H) .nil
theorem dba_nil : DBA X [] dNil := PA.weak pa_nil fun σ H Q ⟨b, f, ρ, R, S, t, q⟩ => q [] ρ [] f H t S (Nx.refl f H) .nil
theorem da_cons (ha : DE X e Ta) (hr : DA X es Tr) (hs : starEach (e :: es) X.env = (false, eval e X.env) :: starEach es X.env := by rfl) : DA X (e :: es) (dCons Ta Tr) :=
  PA.weak (pa_cons ha hr hs) fun σ H Q ⟨b, f, ρ, R, S, t, q⟩ => ⟨b, f, ρ, _, S, t, fun d ρ1 v f1 H1 r S1 n1 dp => ⟨b, f1, ρ1, _, S1, r, fun ds ρ2 vs f2 H2 r2 S2 n2 dps =>
    q (d :: ds) ρ2 (v :: vs) f2 H2 r2 S2 (n1.trans S.pots n2) (.cons (dp_mono n2.ff d v dp) dps)⟩⟩
theorem dba_cons (ha : DB X e Ta) (hr : DBA X es Tr) (hs : starEach (e :: es) X.env = (false, eval e X.env) :: starEach es X.env := by rfl) : DBA X (e :: es) (dCons Ta Tr) :=
  PA.weak (pa_cons ha hr hs) fun σ H Q ⟨b, f, ρ, R, S, t, q⟩ => ⟨b, f, ρ, _, S, t, fun d ρ1 v f1 H1 r S1 n1 dp => ⟨b, f1, ρ1, _, S1, r, fun ds ρ2 vs f2 H2 r2 S2 n2 dps =>
    q (d :: ds) ρ2 (v :: vs) f2 H2 r2 S2 (n1.trans S.pots n2) (.cons (dp.next n2) dps)⟩⟩

/-! ### displays -/
def dTup (T : TDA) : TD := fun ρ R => T ρ fun ds ρ' => ds.length ≤ sizeLine ∧ R (.tuple ds) ρ'
theorem de_tup {x1} (h : DA X es Tr) : DE X (.Tuple es x1 pos) (dTup Tr) := PE.weak (pe_tup h) fun σ H Q ⟨b, f, ρ, R, S, t, q⟩ =>
  ⟨b, f, ρ, _, S, t, fun ds ρ1 vs f1 H1 ⟨hz, r⟩ S1 n1 dps => ⟨by rw [dpa_len dps]; exact hz, fun p hp => by
    have g : Gr f1.F H1 (upd f1.F p (.tup vs)) (upd H1 p (.tup vs)) := Gr.new S1.fs hp tup_ntbl
    exact q _ _ _ ⟨upd f1.F p (.tup vs), f1.P⟩ _ r (S1.grow g) (n1.trans S.pots (Nx.of_gr g)) (.tup (.inl (.inl upd_same)) (dpa_mono g.ff ds vs dps))⟩⟩
/-- a new list stands aside -/
theorem Own.new {K : PySem.W.Frag} {b : Bs} {f : Fz} {ρ : DS} {σ : L2.St} {H : Hp} {p : Addr} {vs : List V} {ds : List D} (S : Sim K b f ρ σ H) (hp : H p = none) (hd : DpAll K f.F vs ds) :
    Sim K b f ρ σ (upd H p (.lst vs)) ∧ Own K b f ρ σ (upd H p (.lst vs)) p ds ∧ Nx f H f (upd H p (.lst vs)) := by
  have hh : Same H (upd H p (.lst vs)) := same_new hp
  have g : Gr f.F H f.F (upd H p (.lst vs)) := ⟨.of hh, Same.refl _, S.fs.trans hh, fun a o e => .inl ⟨o, e⟩, fun t => t.put (.inl hp)⟩
  refine ⟨S.grow g, ⟨S.fs.free hp, S.bs.free hp, fun z => ?_, fun i s hi ho z => ?_, vs, upd_same, hd⟩, Nx.of_gr g⟩
  · obtain ⟨o, e⟩ := S.pots p z
    rw [hp] at e; cases e
  · cases s with
    | own ds' =>
      obtain ⟨q, ws, e1, _, _, _, e2, _⟩ := S.sl i _ hi
      rw [z] at e1
      have e3 : p = q := V.ref.inj (Option.some.inj (Option.some.inj e1))
      rw [← e3, hp] at e2; cases e2
    | no => cases ho
    | fz d => cases ho
    | pot => cases ho
def dLst (T : TDA) : TDA := fun ρ R => T ρ fun ds ρ' => ds.length ≤ sizeLine ∧ R ds ρ'
theorem dl_lst (h : DA X es Tr) : DLs X (.List es pos) (dLst Tr) := PE.weak (pe_lst h) fun σ H Q ⟨b, f, ρ, R, S, t, q⟩ =>
  ⟨b, f, ρ, _, S, t, fun ds ρ1 vs f1 H1 ⟨hz, r⟩ S1 n1 dps => ⟨by rw [dpa_len dps]; exact hz, fun p hp => by
    obtain ⟨S2, O, n2⟩ := Own.new S1 hp dps
    exact q ds ρ1 p f1 _ r S2 (n1.trans S.pots n2) O⟩⟩
/-- a new list as a datum -/
def dOf (T : TDA) : TD := fun ρ R => T ρ fun ds ρ' => R (.list ds) ρ'
theorem Own.freeze {K : PySem.W.Frag} {b : Bs} {f : Fz} {ρ : DS} {σ : L2.St} {H : Hp} {p : Addr} {ds : List D} (S : Sim K b f ρ σ H) (O : Own K b f ρ σ H p ds) :
    ∃ F', Sim K b ⟨F', f.P⟩ ρ σ H ∧ Nx f H ⟨F', f.P⟩ H ∧ Dp K F' (.ref p) (.list ds) := by
  obtain ⟨vs, h4, h5⟩ := O.at_
  have ff : Same f.F (upd f.F p (.lst vs)) := same_new O.nf
  refine ⟨upd f.F p (.lst vs), ⟨S.len, S.bs, fun a o q => ?_, S.f0.trans ff, fun a o q => ?_, S.p0, fun q hq => ?_, fun j s q => ?_, S.sep, S.tb.frz lst_ntbl⟩, ⟨ff, fun _ _ z _ => .inl z, fun _ z => z, fun _ z => .inl z⟩, .lst (.inl (.inl upd_same)) (dpa_mono ff ds vs h5)⟩
  · by_cases z : a = p
    · subst z
      have q' : upd f.F a (.lst vs) a = some o := q
      rw [upd_same] at q'
      rw [h4]
      exact q'
    · have q' : upd f.F p (.lst vs) a = some o := q
      rw [upd_ne z] at q'
      exact S.fs a o q'
  · by_cases z : a = p
    · subst z; exact .inr O.nb
    · have q' : upd f.F p (.lst vs) a = some o := q
      rw [upd_ne z] at q'
      exact S.fr a o q'
  · obtain ⟨k1, k2, k3⟩ := S.pt q hq
    have z : q ≠ p := fun z => O.np (z ▸ hq)
    exact ⟨by show upd f.F p (.lst vs) q = none; rw [upd_ne z]; exact k1, k2, k3⟩
  · refine (S.sl j s q).keep (f' := ⟨upd f.F p (.lst vs), f.P⟩) ff (fun _ => Iff.rfl) fun r u go g0 g1 g2 g3 g4 => ⟨?_, g4⟩
    have zr : r ≠ p := fun zz => O.no j s q go (zz ▸ g0)
    show upd f.F p (.lst vs) r = none
    rw [upd_ne zr]
    exact g1
theorem de_own (h : DLs X e Tr) : DE X e (dOf Tr) := PE.weak h fun σ H Q ⟨b, f, ρ, R, S, t, q⟩ =>
  ⟨b, f, ρ, _, S, t, fun ds ρ1 p f1 H1 r S1 n1 O => by
    obtain ⟨F', S2, n2, dp⟩ := O.freeze S1
    exact q (.list ds) ρ1 (.ref p) _ H1 r S2 (n1.trans S.pots n2) dp⟩

/-! ### operations on data -/
def liftO (K : PySem.W.Frag) (r : D → D → (D → Prop) → Prop) : R2 := fun x y H Q => ∃ f d e R, Same f.F H ∧ Bo K f H x d ∧ Bo K f H y e ∧ r d e R ∧ ∀ z v F' H', R z → Gr f.F H F' H' → Dp K F' v z → Q v H'
def dBin (r : D → D → (D → Prop) → Prop) (Ta Tb : TD) : TD := fun ρ R => Ta ρ fun x ρ1 => Tb ρ1 fun y ρ2 => r x y fun z => R z ρ2
theorem bin_weak {r : D → D → (D → Prop) → Prop} {K : PySem.W.Frag} : ∀ σ H Q, lift K (dBin r Ta Tb) σ H Q → tOp (liftO K r) (liftB K Ta) (liftB K Tb) σ H Q := fun σ H Q ⟨b, f, ρ, R, S, t, q⟩ =>
  ⟨b, f, ρ, _, S, t, fun x ρ1 v f1 H1 r1 S1 n1 bx => ⟨b, f1, ρ1, _, S1, r1, fun y ρ2 u f2 H2 r2 S2 n2 bY =>
    ⟨f2, x, y, _, S2.fs, bx.next n2, bY, r2, fun z w F' H' rz g dz => q z ρ2 w ⟨F', f2.P⟩ H' rz (S2.grow g) ((n1.trans S.pots n2).trans S.pots (Nx.of_gr g)) dz⟩⟩⟩
theorem de_bin {op : Operator} {r : D → D → (D → Prop) → Prop} (ho : OpR X (binaryOp op) (liftO X.K r)) (ha : DB X a Ta) (hb : DB X b Tb) : DE X (.BinOp a op b pos) (dBin r Ta Tb) := PE.weak (pe_op ho ha hb) bin_weak
theorem de_cmp {op : CmpOp} {r : D → D → (D → Prop) → Prop} (ho : OpR X (compareOp op) (liftO X.K r)) (ha : DB X a Ta) (hb : DB X b Tb) (hm : behindInMarks op b = false) : DE X (.Compare a [op] [b] pos) (dBin r Ta Tb) := PE.weak (pe_cmpR ho ha hb hm) bin_weak
theorem de_ix {r : D → D → (D → Prop) → Prop} (ho : IxR X (liftO X.K r)) (ha : DB X a Ta) (hb : DB X b Tb) (hs : PlainIx b) : DE X (.Subscript a b pos) (dBin r Ta Tb) := PE.weak (pe_ix ho ha hb hs) bin_weak
/-- of flat results -/
theorem flatQ {K : PySem.W.Frag} {f : Fz} {H : Hp} {R : D → Prop} {Q : VK} {z : D} {v : V} (fs : Same f.F H) (q : ∀ z v F' H', R z → Gr f.F H F' H' → Dp K F' v z → Q v H') (r : R z) (dp : Dp K f.F v z) : Q v H := q z v f.F H r (Gr.refl fs) dp

theorem flatT {K : PySem.W.Frag} {f : Fz} {H : Hp} {R : D → Prop} {Q : VK} {ds : List D} {v : V} (fs : Same f.F H) (q : ∀ z v F' H', R z → Gr f.F H F' H' → Dp K F' v z → Q v H') (r : R (.tuple ds)) (bo : Bo K f H v (.tuple ds)) : Q v H := by
  rcases bo with dp | ⟨p, vs, ds', rfl, e, _⟩
  · exact flatQ fs q r dp
  · cases e
def rInts (g : Int → Int → D) : D → D → (D → Prop) → Prop := fun d e R => ∃ i j, d = .int i ∧ e = .int j ∧ R (g i j)
def rIntsC (C : Int → Int → Prop) (g : Int → Int → D) : D → D → (D → Prop) → Prop := fun d e R => ∃ i j, d = .int i ∧ e = .int j ∧ C i j ∧ R (g i j)
theorem od_ints {g : Value → Value → Sem Value} {k : Int → Int → Int} (h : OpR X g (rI0 fun i j => .int (k i j))) : OpR X g (liftO X.K (rInts fun i j => .int (k i j))) := OpR.weak h fun x y H Q q => by
  obtain ⟨f, d, e, R, fs, bx, bY, ⟨i, j, rfl, rfl, r⟩, q⟩ := q
  exact ⟨i, j, bx.int, bY.int, flatQ fs q r (.int _)⟩
theorem od_intsB {g : Value → Value → Sem Value} {k : Int → Int → Bool} (h : OpR X g (rI0 fun i j => .bl (k i j))) : OpR X g (liftO X.K (rInts fun i j => .bool (k i j))) := OpR.weak h fun x y H Q q => by
  obtain ⟨f, d, e, R, fs, bx, bY, ⟨i, j, rfl, rfl, r⟩, q⟩ := q
  exact ⟨i, j, bx.int, bY.int, flatQ fs q r (.bl _)⟩
theorem od_intsC {g : Value → Value → Sem Value} {C : Int → Int → Prop} {k : Int → Int → Int} (h : OpR X g (rI C fun i j => .int (k i j))) : OpR X g (liftO X.K (rIntsC C fun i j => .int (k i j))) := OpR.weak h fun x y H Q q => by
  obtain ⟨f, d, e, R, fs, bx, bY, ⟨i, j, rfl, rfl, hc, r⟩, q⟩ := q
  exact ⟨i, j, bx.int, bY.int, hc, flatQ fs q r (.int _)⟩
theorem od_sub : OpR X (binaryOp .Sub) (liftO X.K (rInts fun i j => .int (i - j))) := od_ints op_sub
theorem od_mul : OpR X (binaryOp .Mult) (liftO X.K (rIntsC CMul fun i j => .int (i * j))) := od_intsC op_mul
theorem od_fdiv : OpR X (binaryOp .FloorDiv) (liftO X.K (rIntsC CDiv fun i j => .int (i / j))) := od_intsC op_fdiv
theorem od_mod : OpR X (binaryOp .Mod) (liftO X.K (rIntsC (fun _ j => 0 < j) fun i j => .int (i % j))) := od_intsC op_mod
theorem od_pow : OpR X (binaryOp .Pow) (liftO X.K (rIntsC CPow fun i j => .int (i ^ j.toNat))) := od_intsC op_pow
/-- a + b: ints, texts, lists, tuples -/
def rAddD : D → D → (D → Prop) → Prop := fun d e R => match d, e with
  | .int i, .int j => R (.int (i + j))
  | .str x, .str y => x.length + y.length ≤ sizeLine ∧ R (.str (x ++ y))
  | .list x, .list y => x.length + y.length ≤ sizeLine ∧ R (.list (x ++ y))
  | .tuple x, .tuple y => x.length + y.length ≤ sizeLine ∧ R (.tuple (x ++ y))
  | _, _ => False
/-- two lists put together, wherever they stand -/
theorem op_catAny : OpR X (binaryOp .Add) (fun x y H Q => ∃ l m xs ys, x = .ref l ∧ y = .ref m ∧ SqL X.K H l xs ∧ SqL X.K H m ys ∧ xs.length + ys.length ≤ sizeLine ∧ ∀ p, H p = none → Q (.ref p) (upd H p (.lst (xs ++ ys)))) := by
  intro pins s σ H x y v u Q I rx ry h
  obtain ⟨l, m, xs, ys, rfl, rfl, hl, hm, hz, q⟩ := h
  cases rx
  cases ry
  obtain ⟨its, r1, ⟨o1, n1, g1, c1, d1, t1⟩, z1⟩ := I.list hl
  obtain ⟨jts, r2, ⟨o2, n2, g2, c2, d2, t2⟩, z2⟩ := I.list hm
  obtain ⟨cc1, dd1, tt1, sl1⟩ := o1
  obtain ⟨cc2, dd2, tt2, sl2⟩ := o2
  simp only at c1 d1 t1 c2 d2 t2
  subst c1 d1 t1 c2 d2 t2
  have hn : H s.heap.objs.size = none := I.hok.fresh (Nat.le_refl _)
  have rr : Vals (xs ++ ys) (its ++ jts) := r1.append r2
  have ez : its.toArray.size + jts.toArray.size ≤ sizeLine := by
    rw [List.size_toArray, List.size_toArray, ← r1.length, ← r2.length]
    exact hz
  refine concat_meets ⟨_, g1, rfl⟩ ⟨_, g2, rfl⟩ noFill_list_add seq_list_add PySem.F.slot_list_add PySem.F.entry_list_add (PySem.F.args_list_add_2 _ _) (list_addW l m its.toArray jts.toArray n1 n2 none none sl1 sl2 ez) ⟨g1, g2, ?_⟩
  refine ⟨.ref _, upd H s.heap.objs.size (.lst (xs ++ ys)), I.laid (t' := s.toks) (fun b u e => Heap.get?_push_of_some _ e) (Nat.le_refl _) ?_, rfl, q _ hn⟩
  refine ⟨by rw [List.length_append]; exact hz, its ++ jts, 0, rr, ?_⟩
  have ea : its.toArray ++ jts.toArray = (its ++ jts).toArray := by simp
  rw [ea]
  exact Heap.get?_push_size _ rfl
theorem od_add : OpR X (binaryOp .Add) (liftO X.K rAddD) := OpR.weak (OpR.or op_add (OpR.or op_add_str (OpR.or op_catAny op_catA))) fun x y H Q q => by
  obtain ⟨f, d, e, R, fs, bx, bY, r, q⟩ := q
  unfold rAddD at r
  split at r
  · exact .inl ⟨_, _, bx.int, bY.int, flatQ fs q r (.int _)⟩
  · exact .inr (.inl ⟨_, _, bx.str, bY.str, r.1, flatQ fs q r.2 (.str _)⟩)
  · obtain ⟨l, xs, rfl, hl, dl⟩ := bx.lst fs
    obtain ⟨m, ys, rfl, hm, dm⟩ := bY.lst fs
    refine .inr (.inr (.inl ⟨l, m, xs, ys, rfl, rfl, hl, hm, by rw [dpa_len dl, dpa_len dm]; exact r.1, fun p hp => ?_⟩))
    have g : Gr f.F H (upd f.F p (.lst (xs ++ ys))) (upd H p (.lst (xs ++ ys))) := Gr.new fs hp lst_ntbl
    exact q _ _ _ _ r.2 g (.lst (.inl (.inl upd_same)) (dpa_app (dpa_mono g.ff _ _ dl) (dpa_mono g.ff _ _ dm)))
  · obtain ⟨l, xs, rfl, hl, dl⟩ := bx.tup fs
    obtain ⟨m, ys, rfl, hm, dm⟩ := bY.tup fs
    refine .inr (.inr (.inr ⟨l, m, xs, ys, rfl, rfl, hl, hm, by rw [dpa_len dl, dpa_len dm]; exact r.1, fun z => ?_, fun _ z => ?_, fun _ _ p hp => ?_⟩))
    · subst z
      cases dl
      exact flatT fs q r.2 bY
    · subst z
      cases dm
      have r2 := r.2
      rw [List.append_nil] at r2
      exact flatT fs q r2 bx
    · have g : Gr f.F H (upd f.F p (.tup (xs ++ ys))) (upd H p (.tup (xs ++ ys))) := Gr.new fs hp tup_ntbl
      exact q _ _ _ _ r.2 g (.tup (.inl (.inl upd_same)) (dpa_app (dpa_mono g.ff _ _ dl) (dpa_mono g.ff _ _ dm)))
  · exact r.elim
/-! ### == and in -/
def shp (d : D) : Bool := SeqAt.shaped d
def rEqDD (neg : Bool) : D → D → (D → Prop) → Prop := fun d e R => shp d = true ∧ shp e = true ∧ R (.bool (if neg then !PyData.eqv d e else PyData.eqv d e))
theorem od_eq (hu : X.A.units + 64 < cLine) : OpR X (compareOp .Eq) (liftO X.K (rEqDD false)) := OpR.weak (op_eqD hu) fun x y H Q q => by
  obtain ⟨f, d, e, R, fs, bx, bY, ⟨h1, h2, r⟩, q⟩ := q
  exact ⟨d, e, bx.dp fs, bY.dp fs, h1, h2, flatQ fs q r (.bl _)⟩
theorem od_ne (hu : X.A.units + 64 < cLine) : OpR X (compareOp .NotEq) (liftO X.K (rEqDD true)) := OpR.weak (op_neD hu) fun x y H Q q => by
  obtain ⟨f, d, e, R, fs, bx, bY, ⟨h1, h2, r⟩, q⟩ := q
  exact ⟨d, e, bx.dp fs, bY.dp fs, h1, h2, flatQ fs q r (.bl _)⟩
/-- the items of a list or a tuple -/
def seqD : D → Option (List D)
  | .list ds => some ds
  | .tuple ds => some ds
  | _ => none
def rTin (neg : Bool) (K : PySem.W.Frag) : R2 := fun x y H Q => ∃ d ds, Dp K H x d ∧ Dp K H y (.tuple ds) ∧ shp d = true ∧ shp (.tuple ds) = true ∧ Q (.bl (if neg then !ds.any fun z => PyData.eqv z d else ds.any fun z => PyData.eqv z d)) H
theorem op_tin (hu : X.A.units + 65 < cLine) : OpR X (compareOp .In) (rTin false X.K) := fun pins s σ H x y v u Q I rx ry ⟨d, ds, hd, he, sd, se, q⟩ => by
  obtain ⟨as, r1⟩ := Dp.reads I d x v hd rx
  obtain ⟨bs, r2⟩ := Dp.reads I (.tuple ds) y u he ry
  refine SeqAt.in_tuple_reads r2 r1 (SeqAt.canLay_of_shaped (d := .tuple ds) se) (SeqAt.canLay_of_shaped sd) (room_in_shaped sd hu) ?_
  exact ⟨.bl _, H, I, rfl, q⟩
theorem op_tnin (hu : X.A.units + 65 < cLine) : OpR X (compareOp .NotIn) (rTin true X.K) := fun pins s σ H x y v u Q I rx ry ⟨d, ds, hd, he, sd, se, q⟩ => by
  obtain ⟨as, r1⟩ := Dp.reads I d x v hd rx
  obtain ⟨bs, r2⟩ := Dp.reads I (.tuple ds) y u he ry
  refine SeqAt.notIn_tuple_reads r2 r1 (SeqAt.canLay_of_shaped (d := .tuple ds) se) (SeqAt.canLay_of_shaped sd) (room_in_shaped sd hu) ?_
  exact ⟨.bl _, H, I, rfl, q⟩
def rInDD (neg : Bool) : D → D → (D → Prop) → Prop := fun d e R => ∃ ds, seqD e = some ds ∧ shp d = true ∧ shp e = true ∧ R (.bool (if neg then !ds.any fun z => PyData.eqv z d else ds.any fun z => PyData.eqv z d))
theorem seqD_cases {e : D} {ds : List D} (h : seqD e = some ds) : e = .list ds ∨ e = .tuple ds := by
  cases e <;> first
    | (cases h; done)
    | (cases h; exact .inl rfl)
    | (cases h; exact .inr rfl)
theorem od_in (hu : X.A.units + 65 < cLine) : OpR X (compareOp .In) (liftO X.K (rInDD false)) := OpR.weak (OpR.or (op_inD hu) (op_tin hu)) fun x y H Q q => by
  obtain ⟨f, d, e, R, fs, bx, bY, ⟨ds, h0, h1, h2, r⟩, q⟩ := q
  rcases seqD_cases h0 with rfl | rfl
  · exact .inl ⟨d, ds, bx.dp fs, bY.dp fs, h1, h2, flatQ fs q r (.bl _)⟩
  · exact .inr ⟨d, ds, bx.dp fs, bY.dp fs, h1, h2, flatQ fs q r (.bl _)⟩
theorem od_nin (hu : X.A.units + 65 < cLine) : OpR X (compareOp .NotIn) (liftO X.K (rInDD true)) := OpR.weak (OpR.or (op_notInD hu) (op_tnin hu)) fun x y H Q q => by
  obtain ⟨f, d, e, R, fs, bx, bY, ⟨ds, h0, h1, h2, r⟩, q⟩ := q
  rcases seqD_cases h0 with rfl | rfl
  · exact .inl ⟨d, ds, bx.dp fs, bY.dp fs, h1, h2, flatQ fs q r (.bl _)⟩
  · exact .inr ⟨d, ds, bx.dp fs, bY.dp fs, h1, h2, flatQ fs q r (.bl _)⟩
/-! ### an item by its place -/
def rIxD : D → D → (D → Prop) → Prop := fun d e R => ∃ i, e = .int i ∧ ((∃ ds z, seqD d = some ds ∧ atI ds i = some z ∧ R z) ∨ ∃ x c, d = .str x ∧ x.length ≤ sizeLine ∧ atI x.cps.toList i = some c ∧ R (.str ⟨#[c]⟩))
theorem dpa_at {K : PySem.W.Frag} {H : Hp} {vs : List V} {ds : List D} {i : Int} {z : D} (h : DpAll K H vs ds) (e : atI ds i = some z) : ∃ v, atI vs i = some v ∧ Dp K H v z := by
  unfold atI at e ⊢
  rw [dpa_len h]
  cases q : ixN ds.length i with
  | none => rw [q] at e; cases e
  | some j =>
    rw [q] at e
    exact dpa_getD h e
theorem od_ix : IxR X (liftO X.K rIxD) := fun value slice pins s σ H x y v u Q I rx ry q hs => ix_seq value slice pins s σ H x y v u Q I rx ry (by
  obtain ⟨f, d, e, R, fs, bx, bY, ⟨i, rfl, r⟩, q⟩ := q
  have ey := bY.int
  rcases r with ⟨ds, z, h0, h1, r⟩ | ⟨w, c, rfl, h1, h2, r⟩
  · rcases seqD_cases h0 with rfl | rfl
    · obtain ⟨p, vs, rfl, hl, dl⟩ := bx.lst fs
      obtain ⟨v', e1, dv⟩ := dpa_at dl h1
      exact .inl ⟨p, vs, i, v', rfl, ey, hl, e1, flatQ fs q r dv⟩
    · obtain ⟨p, vs, rfl, hl, dl⟩ := bx.tup fs
      obtain ⟨v', e1, dv⟩ := dpa_at dl h1
      exact .inr (.inl ⟨p, vs, i, v', rfl, ey, hl, e1, flatQ fs q r dv⟩)
  · exact .inr (.inr ⟨w, i, c, bx.str, ey, h1, h2, flatQ fs q r (.str _)⟩)) hs
end
end DL
namespace DL
open PySem PySem.Spec PyProof.Rows L2
variable [Tbs]
section
variable {X : Cx} {e a b c : Expr} {es rest : List Expr} {T Ta Tb : TD} {Tr : TDA} {Tc Tp Tq : TDT} {pos : Pos}
/-! ### tests -/
def tVal (T : TD) : TDT := fun ρ R => T ρ fun d ρ' => ∃ c, d = .bool c ∧ R c ρ'
theorem dt_val (h : DE X e T) (he : ∀ whole, isTrue e X.env whole = (do let v ← whole; standAt e.pos; holding [v] (truthy v)) := by intro _; rfl) : DT X e (tVal T) :=
  PT.weak (pt_val h he) fun σ H Q ⟨b, f, ρ, R, S, t, q⟩ => ⟨b, f, ρ, _, S, t, fun d ρ' v f' H' ⟨c, e, r⟩ S' n dp => by
    subst e
    cases dp
    exact ⟨c, rfl, q c ρ' f' H' r S' n⟩⟩
def truD : D → Option Bool
  | .none => some false
  | .bool b => some b
  | .int i => some (i != 0)
  | .str x => if x.length ≤ sizeLine then some ((x.length : Int) != 0) else none
  | .list ds => some !ds.isEmpty
  | .tuple ds => some !ds.isEmpty
  | .dict _ => none
def tTru (T : TD) : TDT := fun ρ R => T ρ fun d ρ' => ∃ c, truD d = some c ∧ R c ρ'
theorem dpa_empty {K : PySem.W.Frag} {H : Hp} {vs : List V} {ds : List D} (h : DpAll K H vs ds) : vs.isEmpty = ds.isEmpty := by cases h <;> rfl
theorem dt_tru (h : DB X e T) (he : ∀ whole, isTrue e X.env whole = (do let v ← whole; standAt e.pos; holding [v] (truthy v)) := by intro _; rfl) : DT X e (tTru T) :=
  PT.weak (pt_truth h he) fun σ H Q ⟨b, f, ρ, R, S, t, q⟩ => ⟨b, f, ρ, _, S, t, fun d ρ' v f' H' ⟨c, e, r⟩ S' n bo => by
    refine ⟨c, ?_, q c ρ' f' H' r S' n⟩
    cases d with
    | none => rw [bo.non]; exact (Option.some.inj e).symm
    | bool x => rw [bo.bl]; exact (Option.some.inj e).symm
    | int i => rw [bo.int]; exact (Option.some.inj e).symm
    | str x =>
      rw [bo.str]
      have e' : (if x.length ≤ sizeLine then some ((x.length : Int) != 0) else Option.none) = some c := e
      by_cases hz : x.length ≤ sizeLine
      · rw [if_pos hz] at e'
        exact ⟨hz, (Option.some.inj e').symm⟩
      · rw [if_neg hz] at e'
        cases e'
    | list ds =>
      obtain ⟨p, vs, rfl, hl, dl⟩ := bo.lst S'.fs
      refine .inl ⟨vs, hl, ?_⟩
      rw [dpa_empty dl]
      exact (Option.some.inj e).symm
    | tuple ds =>
      obtain ⟨p, vs, rfl, hl, dl⟩ := bo.tup S'.fs
      refine .inr (.inl ⟨vs, hl, ?_⟩)
      rw [dpa_empty dl]
      exact (Option.some.inj e).symm
    | dict x => cases e⟩
def tNotD (T : TDT) : TDT := fun ρ R => T ρ fun c ρ' => R (!c) ρ'
theorem dt_cmp {op : CmpOp} {r : D → D → (D → Prop) → Prop} (ho : OpR X (compareOp op) (liftO X.K r)) (ha : DB X a Ta) (hb : DB X b Tb) (hm : behindInMarks op b = false) : DT X (.Compare a [op] [b] pos) (tVal (dBin r Ta Tb)) := PT.weak (pt_cmpR ho ha hb hm) fun σ H Q ⟨bb, f, ρ, R, S, t, q⟩ =>
  bin_weak σ H _ ⟨bb, f, ρ, _, S, t, fun d ρ' v f' H' ⟨c, e, r⟩ S' n dp => ⟨c, by subst e; cases dp; rfl, q c ρ' f' H' r S' n⟩⟩
theorem dt_not (h : DT X e Tc) : DT X (.UnaryOp .Not e pos) (tNotD Tc) := PT.weak (pt_not h) fun σ H Q ⟨b, f, ρ, R, S, t, q⟩ => ⟨b, f, ρ, _, S, t, fun c ρ' f' H' r S' n => q _ ρ' f' H' r S' n⟩
def tAndD (T U : TDT) : TDT := fun ρ R => T ρ fun c ρ' => if c = true then U ρ' R else R false ρ'
def tOrD (T U : TDT) : TDT := fun ρ R => T ρ fun c ρ' => if c = true then R true ρ' else U ρ' R
theorem dw_and1 (h : DT X e Tc) : DW X (.BoolOp .And [e] pos) Tc := pw_and1 h
theorem dw_or1 (h : DT X e Tc) : DW X (.BoolOp .Or [e] pos) Tc := pw_or1 h
theorem dw_and (ha : DT X a Tp) (hb : DW X (.BoolOp .And (b :: rest) pos) Tq) : DW X (.BoolOp .And (a :: b :: rest) pos) (tAndD Tp Tq) := PW.weak (pw_and ha hb) fun σ H Q ⟨bb, f, ρ, R, S, t, q⟩ =>
  ⟨bb, f, ρ, _, S, t, fun c ρ' f' H' r S' n => by
    cases c with
    | true => exact ⟨bb, f', ρ', R, S', r, fun c2 ρ2 f2 H2 r2 S2 n2 => q c2 ρ2 f2 H2 r2 S2 (n.trans S.pots n2)⟩
    | false => exact q false ρ' f' H' r S' n⟩
theorem dw_or (ha : DT X a Tp) (hb : DW X (.BoolOp .Or (b :: rest) pos) Tq) : DW X (.BoolOp .Or (a :: b :: rest) pos) (tOrD Tp Tq) := PW.weak (pw_or ha hb) fun σ H Q ⟨bb, f, ρ, R, S, t, q⟩ =>
  ⟨bb, f, ρ, _, S, t, fun c ρ' f' H' r S' n => by
    cases c with
    | false => exact ⟨bb, f', ρ', R, S', r, fun c2 ρ2 f2 H2 r2 S2 n2 => q c2 ρ2 f2 H2 r2 S2 (n.trans S.pots n2)⟩
    | true => exact q true ρ' f' H' r S' n⟩
theorem dt_w (h : DW X e Tc) : DT X e Tc := h.pt
/-- as values, of bools -/
def dNotV (T : TD) : TD := fun ρ R => T ρ fun d ρ' => ∃ c, d = .bool c ∧ R (.bool (!c)) ρ'
theorem de_not (h : DE X e T) : DE X (.UnaryOp .Not e pos) (dNotV T) := PE.weak (pe_not h) fun σ H Q ⟨b, f, ρ, R, S, t, q⟩ => ⟨b, f, ρ, _, S, t, fun d ρ' v f' H' ⟨c, e, r⟩ S' n dp => by
  subst e
  cases dp
  exact ⟨c, rfl, q _ ρ' _ f' H' r S' n (.bl _)⟩⟩
def dAndV (T U : TD) : TD := fun ρ R => T ρ fun d ρ' => ∃ c, d = .bool c ∧ if c = true then U ρ' R else R (.bool false) ρ'
def dOrV (T U : TD) : TD := fun ρ R => T ρ fun d ρ' => ∃ c, d = .bool c ∧ if c = true then R (.bool true) ρ' else U ρ' R
theorem de_one {op} (h : DE X e T) : DE X (.BoolOp op [e] pos) T := pe_one h
theorem de_and (ha : DE X a Ta) (hb : DE X (.BoolOp .And (b :: rest) pos) Tb) : DE X (.BoolOp .And (a :: b :: rest) pos) (dAndV Ta Tb) := PE.weak (pe_and ha hb) fun σ H Q ⟨bb, f, ρ, R, S, t, q⟩ =>
  ⟨bb, f, ρ, _, S, t, fun d ρ' v f' H' ⟨c, e, r⟩ S' n dp => by
    subst e
    cases dp
    refine ⟨c, rfl, ?_⟩
    cases c with
    | true => exact ⟨bb, f', ρ', R, S', r, fun c2 ρ2 w f2 H2 r2 S2 n2 => q c2 ρ2 w f2 H2 r2 S2 (n.trans S.pots n2)⟩
    | false => exact q _ ρ' _ f' H' r S' n (.bl _)⟩
theorem de_or (ha : DE X a Ta) (hb : DE X (.BoolOp .Or (b :: rest) pos) Tb) : DE X (.BoolOp .Or (a :: b :: rest) pos) (dOrV Ta Tb) := PE.weak (pe_or ha hb) fun σ H Q ⟨bb, f, ρ, R, S, t, q⟩ =>
  ⟨bb, f, ρ, _, S, t, fun d ρ' v f' H' ⟨c, e, r⟩ S' n dp => by
    subst e
    cases dp
    refine ⟨c, rfl, ?_⟩
    cases c with
    | false => exact ⟨bb, f', ρ', R, S', r, fun c2 ρ2 w f2 H2 r2 S2 n2 => q c2 ρ2 w f2 H2 r2 S2 (n.trans S.pots n2)⟩
    | true => exact q _ ρ' _ f' H' r S' n (.bl _)⟩
/-- a if c else b -/
def dIf (C : TDT) (T U : TD) : TD := fun ρ R => C ρ fun c ρ' => if c = true then T ρ' R else U ρ' R
theorem de_if (hc : DT X c Tc) (ha : DE X a Ta) (hb : DE X b Tb) : DE X (.IfExp c a b pos) (dIf Tc Ta Tb) := PE.weak (pe_ifExp hc ha hb) fun σ H Q ⟨bb, f, ρ, R, S, t, q⟩ =>
  ⟨bb, f, ρ, _, S, t, fun c ρ' f' H' r S' n => by
    cases c with
    | true => exact ⟨bb, f', ρ', R, S', r, fun c2 ρ2 w f2 H2 r2 S2 n2 => q c2 ρ2 w f2 H2 r2 S2 (n.trans S.pots n2)⟩
    | false => exact ⟨bb, f', ρ', R, S', r, fun c2 ρ2 w f2 H2 r2 S2 n2 => q c2 ρ2 w f2 H2 r2 S2 (n.trans S.pots n2)⟩⟩

/-! ### slices -/
abbrev TDO := DS → (Option Int → DS → Prop) → Prop
def cutD (xs : List D) (lo hi : Option Int) : List D := (xs.drop (HT.sIx xs.length 0 lo)).take (HT.sIx xs.length xs.length hi - HT.sIx xs.length 0 lo)
theorem dpa_cut {K : PySem.W.Frag} {H : Hp} {vs : List V} {ds : List D} (h : DpAll K H vs ds) (lo hi : Option Int) : DpAll K H (cutV vs lo hi) (cutD ds lo hi) := by
  unfold cutV cutD
  rw [dpa_len h]
  exact dpa_take _ (dpa_drop _ h)
def liftOp (K : PySem.W.Frag) (T : TDO) : TO := fun σ H Q => ∃ b f ρ R, Sim K b f ρ σ H ∧ T ρ R ∧ ∀ o ρ' f' H', R o ρ' → Sim K b f' ρ' σ H' → Nx f H f' H' → Q o H'
theorem PO.weak {X : Cx} {o : Option Expr} {t t' : TO} (h : PO X o t) (w : ∀ σ H Q, t' σ H Q → t σ H Q) : PO X o t' := ⟨fun pins s σ H Q I q => h.run pins s σ H Q I (w σ H Q q)⟩
abbrev DO (X : Cx) (o : Option Expr) (T : TDO) : Prop := PO X o (liftOp X.K T)
def oNone : TDO := fun ρ R => R none ρ
def oSome (T : TD) : TDO := fun ρ R => T ρ fun d ρ' => ∃ i, d = .int i ∧ R (some i) ρ'
theorem do_none : DO X none oNone := PO.weak po_none fun σ H Q ⟨b, f, ρ, R, S, t, q⟩ => q none ρ f H t S (Nx.refl f H)
theorem do_some (h : DE X e T) : DO X (some e) (oSome T) := PO.weak (po_some h) fun σ H Q ⟨b, f, ρ, R, S, t, q⟩ => ⟨b, f, ρ, _, S, t, fun d ρ' v f' H' ⟨i, e, r⟩ S' n dp => by
  subst e
  cases dp
  exact ⟨i, rfl, q _ ρ' f' H' r S' n⟩⟩
def rSlD (d : D) (lo hi : Option Int) (R : D → Prop) : Prop := (∃ ds, d = .list ds ∧ R (.list (cutD ds lo hi))) ∨ (∃ ds, d = .tuple ds ∧ R (.tuple (cutD ds lo hi))) ∨ ∃ x, d = .str x ∧ x.length ≤ sizeLine ∧ R (.str (cutS x lo hi))
def dSl (T : TD) (L U : TDO) : TD := fun ρ R => T ρ fun d ρ1 => L ρ1 fun lo ρ2 => U ρ2 fun hi ρ3 => rSlD d lo hi fun z => R z ρ3
theorem cut_whole {ds : List D} {lo hi : Option Int} (h : HT.sIx ds.length 0 lo = 0 ∧ HT.sIx ds.length ds.length hi = ds.length) : cutD ds lo hi = ds := by
  unfold cutD
  rw [h.1, h.2]
  simp
theorem de_slice {lo hi : Option Expr} {L U : TDO} {p2 : Pos} (h : DB X e T) (hl : DO X lo L) (hu : DO X hi U) : DE X (.Subscript e (.Slice lo hi none p2) pos) (dSl T L U) :=
  PE.weak (pe_slice (SlR.or sl_list (SlR.or sl_tupA sl_str)) h hl hu) fun σ H Q ⟨b, f, ρ, R, S, t, q⟩ => ⟨b, f, ρ, _, S, t, fun d ρ1 v f1 H1 r1 S1 n1 bo => ⟨b, f1, ρ1, _, S1, r1, fun lo ρ2 f2 H2 r2 S2 n2 => ⟨b, f2, ρ2, _, S2, r2, fun hi ρ3 f3 H3 r3 S3 n3 => by
    have n : Nx f H f3 H3 := (n1.trans S.pots n2).trans S.pots n3
    have bo3 : Bo X.K f3 H3 v d := (bo.next n2).next n3
    rcases r3 with ⟨ds, rfl, r⟩ | ⟨ds, rfl, r⟩ | ⟨x, rfl, hz, r⟩
    · obtain ⟨p, vs, rfl, hl, dl⟩ := bo3.lst S3.fs
      refine .inl ⟨p, vs, rfl, hl, fun l hn => ?_⟩
      have g : Gr f3.F H3 (upd f3.F l (.lst (cutV vs lo hi))) (upd H3 l (.lst (cutV vs lo hi))) := Gr.new S3.fs hn lst_ntbl
      exact q _ ρ3 _ ⟨_, f3.P⟩ _ r (S3.grow g) (n.trans S.pots (Nx.of_gr g)) (.lst (.inl (.inl upd_same)) (dpa_cut (dpa_mono g.ff _ _ dl) lo hi))
    · obtain ⟨p, vs, rfl, hl, dl⟩ := bo3.tup S3.fs
      refine .inr (.inl ⟨p, vs, rfl, hl, fun hw => ?_, fun _ l hn => ?_⟩)
      · rw [dpa_len dl] at hw
        rw [cut_whole hw] at r
        rcases bo3 with dp | ⟨p', _, _, _, e2, _⟩
        · exact q _ ρ3 _ f3 H3 r S3 n dp
        · cases e2
      · have g : Gr f3.F H3 (upd f3.F l (.tup (cutV vs lo hi))) (upd H3 l (.tup (cutV vs lo hi))) := Gr.new S3.fs hn tup_ntbl
        exact q _ ρ3 _ ⟨_, f3.P⟩ _ r (S3.grow g) (n.trans S.pots (Nx.of_gr g)) (.tup (.inl (.inl upd_same)) (dpa_cut (dpa_mono g.ff _ _ dl) lo hi))
    · refine .inr (.inr ⟨x, bo3.str, hz, ?_⟩)
      exact q _ ρ3 _ f3 H3 r S3 n (.str _)⟩⟩⟩
/-- xs[::-1] -/
def dRev (T : TD) : TD := fun ρ R => T ρ fun d ρ' => ∃ ds, d = .list ds ∧ R (.list ds.reverse) ρ'
theorem dpa_rev {K : PySem.W.Frag} {H : Hp} : ∀ {vs : List V} {ds : List D}, DpAll K H vs ds → DpAll K H vs.reverse ds.reverse
  | _, _, .nil => .nil
  | _, _, .cons a t => by
    rw [List.reverse_cons, List.reverse_cons]
    exact dpa_app (dpa_rev t) (.cons a .nil)
theorem de_rev {k : Nat} {p1 p2 p3 : Pos} (h : DB X e T) : DE X (.Subscript e (.Slice none none (some (.UnaryOp .USub (.Constant (.int 1) k p1) p2)) p3) pos) (dRev T) := PE.weak (pe_revL h) fun σ H Q ⟨b, f, ρ, R, S, t, q⟩ =>
  ⟨b, f, ρ, _, S, t, fun d ρ' v f' H' ⟨ds, e, r⟩ S' n bo => by
    subst e
    obtain ⟨p, vs, rfl, hl, dl⟩ := bo.lst S'.fs
    refine ⟨p, vs, rfl, hl, fun l hn => ?_⟩
    have g : Gr f'.F H' (upd f'.F l (.lst vs.reverse)) (upd H' l (.lst vs.reverse)) := Gr.new S'.fs hn lst_ntbl
    exact q _ ρ' _ ⟨_, f'.P⟩ _ r (S'.grow g) (n.trans S.pots (Nx.of_gr g)) (.lst (.inl (.inl upd_same)) (dpa_rev (dpa_mono g.ff _ _ dl)))⟩

/-! ### calls of built-ins -/
def liftC (K : PySem.W.Frag) (r : List D → (D → Prop) → Prop) : List V → Hp → VK → Prop := fun xs H Q => ∃ f ds R, Same f.F H ∧ BoAll K f H xs ds ∧ r ds R ∧ ∀ z v F' H', R z → Gr f.F H F' H' → Dp K F' v z → Q v H'
def dCall (r : List D → (D → Prop) → Prop) (T : TDA) : TD := fun ρ R => T ρ fun ds ρ' => r ds fun z => R z ρ'
theorem call_weak {r : List D → (D → Prop) → Prop} {K : PySem.W.Frag} : ∀ σ H Q, lift K (dCall r Tr) σ H Q → tCB (liftC K r) (liftBA K Tr) σ H Q := fun σ H Q ⟨b, f, ρ, R, S, t, q⟩ =>
  ⟨b, f, ρ, _, S, t, fun ds ρ' vs f' H' r S' n ba => ⟨f', ds, _, S'.fs, ba, r, fun z v F2 H2 rz g dp => q z ρ' v ⟨F2, f'.P⟩ H2 rz (S'.grow g) (n.trans S.pots (Nx.of_gr g)) dp⟩⟩
theorem de_callB {x : Str} {p : Pos} {id : String} {r : List D → (D → Prop) → Prop} (hc : CallR X (.builtin id) (liftC X.K r)) (hg : Gl X x) (hm : X.mg x = none) (hv : bootBuiltins x = some (.builtin id)) (ha : DBA X (e :: es) Tr)
    (h : ∀ (r' : List V → Hp → VK → Prop) (t' : TA), CallR X (.builtin id) r' → PA X (e :: es) t' → PE X (.Call (.Name x p) (e :: es) [] pos) (tCB r' t')) : DE X (.Call (.Name x p) (e :: es) [] pos) (dCall r Tr) := PE.weak (h _ _ hc ha) call_weak
theorem de_callTy {x : Str} {p : Pos} {id : String} {r : List D → (D → Prop) → Prop} (hc : CallR X (.type id) (liftC X.K r)) (ha : DBA X (e :: es) Tr)
    (h : ∀ (r' : List V → Hp → VK → Prop) (t' : TA), CallR X (.type id) r' → PA X (e :: es) t' → PE X (.Call (.Name x p) (e :: es) [] pos) (tCB r' t')) : DE X (.Call (.Name x p) (e :: es) [] pos) (dCall r Tr) := PE.weak (h _ _ hc ha) call_weak
theorem flatC {K : PySem.W.Frag} {f : Fz} {H : Hp} {R : D → Prop} {Q : VK} {z : D} {v : V} (fs : Same f.F H) (q : ∀ z v F' H', R z → Gr f.F H F' H' → Dp K F' v z → Q v H') (r : R z) (dp : Dp K f.F v z) : Q v H := q z v f.F H r (Gr.refl fs) dp
theorem BoAll.one {K : PySem.W.Frag} {f : Fz} {H : Hp} {xs : List V} {d : D} (h : BoAll K f H xs [d]) : ∃ v, xs = [v] ∧ Bo K f H v d := by
  cases h with
  | cons a t => cases t; exact ⟨_, rfl, a⟩
theorem BoAll.two {K : PySem.W.Frag} {f : Fz} {H : Hp} {xs : List V} {d d' : D} (h : BoAll K f H xs [d, d']) : ∃ v v', xs = [v, v'] ∧ Bo K f H v d ∧ Bo K f H v' d' := by
  cases h with
  | cons a t => cases t with
    | cons a' t => cases t; exact ⟨_, _, rfl, a, a'⟩
def cLen : List D → (D → Prop) → Prop := fun ds R => ∃ d, ds = [d] ∧ ((∃ l, seqD d = some l ∧ R (.int l.length)) ∨ ∃ x, d = .str x ∧ x.length ≤ sizeLine ∧ R (.int x.length))
theorem cd_len : CallR X (.builtin "len") (liftC X.K cLen) := CallR.weak (CallR.or call_len_seq call_len_str) fun xs H Q q => by
  obtain ⟨f, ds, R, fs, ba, ⟨d, rfl, r⟩, q⟩ := q
  obtain ⟨v, rfl, bo⟩ := ba.one
  rcases r with ⟨l, h0, r⟩ | ⟨x, rfl, hz, r⟩
  · rcases seqD_cases h0 with rfl | rfl
    · obtain ⟨p, vs, rfl, hl, dl⟩ := bo.lst fs
      refine .inl ⟨p, vs, rfl, .inl hl, ?_⟩
      rw [dpa_len dl]
      exact flatC fs q r (.int _)
    · obtain ⟨p, vs, rfl, hl, dl⟩ := bo.tup fs
      refine .inl ⟨p, vs, rfl, .inr hl, ?_⟩
      rw [dpa_len dl]
      exact flatC fs q r (.int _)
  · exact .inr ⟨x, by rw [bo.str], hz, flatC fs q r (.int _)⟩
def cAbs : List D → (D → Prop) → Prop := fun ds R => ∃ i, ds = [.int i] ∧ R (.int (if i < 0 then -i else i))
theorem cd_abs : CallR X (.builtin "abs") (liftC X.K cAbs) := CallR.weak call_abs fun xs H Q q => by
  obtain ⟨f, ds, R, fs, ba, ⟨i, rfl, r⟩, q⟩ := q
  obtain ⟨v, rfl, bo⟩ := ba.one
  exact ⟨i, by rw [bo.int], flatC fs q r (.int _)⟩
def cMax2 : List D → (D → Prop) → Prop := fun ds R => ∃ i j, ds = [.int i, .int j] ∧ R (.int (if j > i then j else i))
def cMin2 : List D → (D → Prop) → Prop := fun ds R => ∃ i j, ds = [.int i, .int j] ∧ R (.int (if j < i then j else i))
theorem cd_max2 (hc : X.calm = true) : CallR X (.builtin "max") (liftC X.K cMax2) := CallR.weak (call_max2 hc) fun xs H Q q => by
  obtain ⟨f, ds, R, fs, ba, ⟨i, j, rfl, r⟩, q⟩ := q
  obtain ⟨v, v', rfl, b1, b2⟩ := ba.two
  exact ⟨i, j, by rw [b1.int, b2.int], flatC fs q r (.int _)⟩
theorem cd_min2 (hc : X.calm = true) : CallR X (.builtin "min") (liftC X.K cMin2) := CallR.weak (call_min2 hc) fun xs H Q q => by
  obtain ⟨f, ds, R, fs, ba, ⟨i, j, rfl, r⟩, q⟩ := q
  obtain ⟨v, v', rfl, b1, b2⟩ := ba.two
  exact ⟨i, j, by rw [b1.int, b2.int], flatC fs q r (.int _)⟩
def cInt : List D → (D → Prop) → Prop := fun ds R => ∃ i, (ds = [.int i] ∧ R (.int i)) ∨ ∃ k, ds = [.bool k] ∧ R (.int (if k then 1 else 0))
theorem cd_int : CallR X (.type "int") (liftC X.K cInt) := CallR.weak call_int1 fun xs H Q q => by
  obtain ⟨f, ds, R, fs, ba, ⟨i, r⟩, q⟩ := q
  rcases r with ⟨rfl, r⟩ | ⟨k, rfl, r⟩
  · obtain ⟨v, rfl, bo⟩ := ba.one
    exact .inl ⟨i, by rw [bo.int], flatC fs q r (.int _)⟩
  · obtain ⟨v, rfl, bo⟩ := ba.one
    exact .inr ⟨k, by rw [bo.bl], flatC fs q r (.int _)⟩
/-- tuple(x), list(x) of a list or a tuple -/
def cTuple : List D → (D → Prop) → Prop := fun ds R => ∃ d l, ds = [d] ∧ seqD d = some l ∧ R (.tuple l)
theorem cd_tuple : CallR X (.type "tuple") (liftC X.K cTuple) := CallR.weak call_tuple_of fun xs H Q q => by
  obtain ⟨f, ds, R, fs, ba, ⟨d, l, rfl, h0, r⟩, q⟩ := q
  obtain ⟨v, rfl, bo⟩ := ba.one
  rcases seqD_cases h0 with rfl | rfl
  · obtain ⟨p, vs, rfl, hl, dl⟩ := bo.lst fs
    refine ⟨p, vs, rfl, .inl ⟨hl, fun l hn => ?_⟩⟩
    have g : Gr f.F H (upd f.F l (.tup vs)) (upd H l (.tup vs)) := Gr.new fs hn tup_ntbl
    exact q _ _ _ _ r g (.tup (.inl (.inl upd_same)) (dpa_mono g.ff _ _ dl))
  · obtain ⟨p, vs, rfl, hl, dl⟩ := bo.tup fs
    exact ⟨p, vs, rfl, .inr ⟨hl, flatT fs q r bo⟩⟩
def dListOf (T : TDA) : TDA := fun ρ R => T ρ fun ds ρ' => ∃ d l, ds = [d] ∧ seqD d = some l ∧ R l ρ'
theorem dl_list {x : Str} {p : Pos} (ha : DBA X (e :: es) Tr)
    (h : ∀ (r' : List V → Hp → VK → Prop) (t' : TA), CallR X (.type "list") r' → PA X (e :: es) t' → PE X (.Call (.Name x p) (e :: es) [] pos) (tCB r' t')) : DLs X (.Call (.Name x p) (e :: es) [] pos) (dListOf Tr) :=
  PE.weak (h _ _ call_list_of ha) fun σ H Q ⟨b, f, ρ, R, S, t, q⟩ => ⟨b, f, ρ, _, S, t, fun ds ρ' vs f' H' r S' n ba => by
    obtain ⟨d, l, rfl, h0, r⟩ := r
    obtain ⟨v, rfl, bo⟩ := ba.one
    obtain ⟨p, ws, rfl, hs, dl⟩ : ∃ p ws, v = .ref p ∧ (SqL X.K H' p ws ∨ SqT X.K H' p ws) ∧ DpAll X.K f'.F ws l := by
      rcases seqD_cases h0 with rfl | rfl
      · obtain ⟨p, vs, rfl, hl, dl⟩ := bo.lst S'.fs
        exact ⟨p, vs, rfl, .inl hl, dl⟩
      · obtain ⟨p, vs, rfl, hl, dl⟩ := bo.tup S'.fs
        exact ⟨p, vs, rfl, .inr hl, dl⟩
    refine ⟨p, ws, rfl, hs, fun a hn => ?_⟩
    obtain ⟨S2, O, n2⟩ := Own.new S' hn dl
    exact q l ρ' a f' _ r S2 (n.trans S.pots n2) O⟩
/-- all, any of a list of bools -/
def boolsD (l : List D) : Option (List Bool) := l.mapM fun d => match d with | .bool b => some b | _ => none
theorem bools_v {K : PySem.W.Frag} {H : Hp} : ∀ {vs : List V} {bs : List Bool}, DpAll K H vs (bs.map PyData.bool) → vs = bs.map V.bl
  | _, [], .nil => rfl
  | _, b :: bs, .cons a t => by
    cases a
    rw [bools_v t]
    rfl
def cAll : List D → (D → Prop) → Prop := fun ds R => ∃ bs : List Bool, ds = [.list (bs.map PyData.bool)] ∧ R (.bool (bs.all id))
def cAny : List D → (D → Prop) → Prop := fun ds R => ∃ bs : List Bool, ds = [.list (bs.map PyData.bool)] ∧ R (.bool (bs.any id))
theorem cd_all (hc : X.calm = true) : CallR X (.builtin "all") (liftC X.K cAll) := CallR.weak (cr_all hc) fun xs H Q q => by
  obtain ⟨f, ds, R, fs, ba, ⟨bs, rfl, r⟩, q⟩ := q
  obtain ⟨v, rfl, bo⟩ := ba.one
  obtain ⟨p, vs, rfl, hl, dl⟩ := bo.lst fs
  rw [bools_v dl] at hl
  exact ⟨p, bs, rfl, hl, flatC fs q r (.bl _)⟩
theorem cd_any (hc : X.calm = true) : CallR X (.builtin "any") (liftC X.K cAny) := CallR.weak (cr_any hc) fun xs H Q q => by
  obtain ⟨f, ds, R, fs, ba, ⟨bs, rfl, r⟩, q⟩ := q
  obtain ⟨v, rfl, bo⟩ := ba.one
  obtain ⟨p, vs, rfl, hl, dl⟩ := bo.lst fs
  rw [bools_v dl] at hl
  exact ⟨p, bs, rfl, hl, flatC fs q r (.bl _)⟩
/-! ### isinstance of built-in types -/
def tyD : D → String
  | .none => "NoneType"
  | .bool _ => "bool"
  | .int _ => "int"
  | .str _ => "str"
  | .list _ => "list"
  | .tuple _ => "tuple"
  | .dict _ => "dict"
theorem tyx_of {K : PySem.W.Frag} {H : Hp} {v : V} {d : D} (h : Dp K H v d) : TyX K H v (.type (tyD d)) := by
  cases h with
  | non => exact .base .non
  | bl b => exact .base (.bl b)
  | int i => exact .base (.int i)
  | str x => exact .base (.str x)
  | lst hs _ =>
    rcases hs with (h | ⟨o, h⟩) | ⟨o, its, n, hk, hc, _⟩
    · exact .base (.lst h)
    · exact .base (.frz h)
    · exact .kList hk hc
  | tup hs _ =>
    rcases hs with (h | ⟨o, h⟩) | ⟨o, its, n, hk, hc, _⟩
    · exact .base (.tup h)
    · exact .fTuple h
    · exact .kTuple hk hc
end
end DL
namespace DL
open PySem PySem.Spec PyProof.Rows L2
variable [Tbs]
section
variable {X : Cx} {e a b c : Expr} {es rest : List Expr} {T Ta Tb : TD} {Tr : TDA} {Tc Tp Tq : TDT} {pos : Pos}
/-! ### isinstance -/
def dIsi (n : String) (T : TD) : TD := fun ρ R => T ρ fun d ρ' => ∃ r, kitB (tyD d) n = some r ∧ R (.bool r) ρ'
theorem de_isi {n : String} (h : PE X e (tCB (rIsi X.K) (tCons (liftB X.K T) (tCons (tC (.ty n)) tNil)))) : DE X e (dIsi n T) := PE.weak h fun σ H Q ⟨b, f, ρ, R, S, t, q⟩ =>
  ⟨b, f, ρ, _, S, t, fun d ρ' v f' H' ⟨r, hk, hr⟩ S' n' bo => ⟨v, .ty n, _, _, r, rfl, .ty n, tyx_of (bo.dp S'.fs), kit_ty hk, q _ ρ' _ f' H' hr S' n' (.bl _)⟩⟩
def isStrD : D → Bool | .str _ => true | _ => false
def isIntD : D → Bool | .int _ => true | .bool _ => true | _ => false
def isBoolD : D → Bool | .bool _ => true | _ => false
def isTupD : D → Bool | .tuple _ => true | _ => false
def isLstD : D → Bool | .list _ => true | _ => false
def isDicD : D → Bool | .dict _ => true | _ => false
theorem kit_str (d : D) : kitB (tyD d) "str" = some (isStrD d) := by
  cases d with
  | none => exact (show kitB "NoneType" "str" = some false by decide +kernel)
  | bool _ => exact (show kitB "bool" "str" = some false by decide +kernel)
  | int _ => exact (show kitB "int" "str" = some false by decide +kernel)
  | str _ => exact (show kitB "str" "str" = some true by decide +kernel)
  | list _ => exact (show kitB "list" "str" = some false by decide +kernel)
  | tuple _ => exact (show kitB "tuple" "str" = some false by decide +kernel)
  | dict _ => exact (show kitB "dict" "str" = some false by decide +kernel)
theorem kit_int (d : D) : kitB (tyD d) "int" = some (isIntD d) := by
  cases d with
  | none => exact (show kitB "NoneType" "int" = some false by decide +kernel)
  | bool _ => exact (show kitB "bool" "int" = some true by decide +kernel)
  | int _ => exact (show kitB "int" "int" = some true by decide +kernel)
  | str _ => exact (show kitB "str" "int" = some false by decide +kernel)
  | list _ => exact (show kitB "list" "int" = some false by decide +kernel)
  | tuple _ => exact (show kitB "tuple" "int" = some false by decide +kernel)
  | dict _ => exact (show kitB "dict" "int" = some false by decide +kernel)
theorem kit_bool (d : D) : kitB (tyD d) "bool" = some (isBoolD d) := by
  cases d with
  | none => exact (show kitB "NoneType" "bool" = some false by decide +kernel)
  | bool _ => exact (show kitB "bool" "bool" = some true by decide +kernel)
  | int _ => exact (show kitB "int" "bool" = some false by decide +kernel)
  | str _ => exact (show kitB "str" "bool" = some false by decide +kernel)
  | list _ => exact (show kitB "list" "bool" = some false by decide +kernel)
  | tuple _ => exact (show kitB "tuple" "bool" = some false by decide +kernel)
  | dict _ => exact (show kitB "dict" "bool" = some false by decide +kernel)
theorem kit_tuple (d : D) : kitB (tyD d) "tuple" = some (isTupD d) := by
  cases d with
  | none => exact (show kitB "NoneType" "tuple" = some false by decide +kernel)
  | bool _ => exact (show kitB "bool" "tuple" = some false by decide +kernel)
  | int _ => exact (show kitB "int" "tuple" = some false by decide +kernel)
  | str _ => exact (show kitB "str" "tuple" = some false by decide +kernel)
  | list _ => exact (show kitB "list" "tuple" = some false by decide +kernel)
  | tuple _ => exact (show kitB "tuple" "tuple" = some true by decide +kernel)
  | dict _ => exact (show kitB "dict" "tuple" = some false by decide +kernel)
theorem kit_list (d : D) : kitB (tyD d) "list" = some (isLstD d) := by
  cases d with
  | none => exact (show kitB "NoneType" "list" = some false by decide +kernel)
  | bool _ => exact (show kitB "bool" "list" = some false by decide +kernel)
  | int _ => exact (show kitB "int" "list" = some false by decide +kernel)
  | str _ => exact (show kitB "str" "list" = some false by decide +kernel)
  | list _ => exact (show kitB "list" "list" = some true by decide +kernel)
  | tuple _ => exact (show kitB "tuple" "list" = some false by decide +kernel)
  | dict _ => exact (show kitB "dict" "list" = some false by decide +kernel)
theorem kit_dict (d : D) : kitB (tyD d) "dict" = some (isDicD d) := by
  cases d with
  | none => exact (show kitB "NoneType" "dict" = some false by decide +kernel)
  | bool _ => exact (show kitB "bool" "dict" = some false by decide +kernel)
  | int _ => exact (show kitB "int" "dict" = some false by decide +kernel)
  | str _ => exact (show kitB "str" "dict" = some false by decide +kernel)
  | list _ => exact (show kitB "list" "dict" = some false by decide +kernel)
  | tuple _ => exact (show kitB "tuple" "dict" = some false by decide +kernel)
  | dict _ => exact (show kitB "dict" "dict" = some true by decide +kernel)
/-! ### calls of own defs -/
abbrev Con := List D → (D → Prop) → Prop
def spD (K : PySem.W.Frag) (c : Con) : Sp := fun vs H Q _ => ∃ F ds R, Tf F H ∧ Same F H ∧ DpAll K F vs ds ∧ c ds R ∧ ∀ d v F' H', R d → Gr F H F' H' → Dp K F' v d → Q v H'
/-- all but the pot stands -/
structure GrP (p : Addr) (F H F' H' : Hp) : Prop where
  hh : ∀ a o, a ≠ p → H a = some o → H' a = some o ∨ ∃ ps ps', o = .tbl ps ∧ H' a = some (.tbl ps')
  pt : PotAt H' p
  ff : Same F F'
  fh : Same F' H'
  nw : ∀ a o, F' a = some o → (∃ o', F a = some o') ∨ H a = none
  tb : Tf F H → Tf F' H'
def spP (K : PySem.W.Frag) (c : Con) : Sp := fun vs H Q _ => ∃ p vs' F ds R, vs = .ref p :: vs' ∧ Tf F H ∧ F p = none ∧ PotAt H p ∧ Same F H ∧ DpAll K F vs' ds ∧ c ds R ∧ ∀ d v F' H', R d → GrP p F H F' H' → Dp K F' v d → Q v H'
theorem GrP.l {p a : Addr} {F H F' H' : Hp} {xs : List V} (g : GrP p F H F' H') (n : a ≠ p) (e : H a = some (.lst xs)) : H' a = some (.lst xs) := by
  rcases g.hh a _ n e with r | ⟨_, _, z, _⟩
  · exact r
  · cases z
theorem Sim.growP {K : PySem.W.Frag} {b : Bs} {f : Fz} {ρ : DS} {σ : L2.St} {H F' H' : Hp} {p : Addr} (S : Sim K b f ρ σ H) (hp : p ∈ f.P) (g : GrP p f.F H F' H') : Sim K b ⟨F', f.P⟩ ρ σ H' := by
  obtain ⟨p1, p2, a0, c0, p3, _⟩ := S.pt p hp
  have nf : ∀ q o, H q = some o → f.F q = none → F' q = none := fun q o e1 e2 => by
    cases r : F' q with
    | none => rfl
    | some u =>
      rcases g.nw q u r with ⟨o', e'⟩ | e'
      · rw [e2] at e'; cases e'
      · rw [e1] at e'; cases e'
  refine ⟨S.len, fun q o e => ?_, g.fh, S.f0.trans g.ff, fun q o e => ?_, S.p0, fun q hq => ?_, fun i s e => ?_, S.sep, g.tb S.tb⟩
  · have nz : q ≠ p := fun z => by rw [z, p2] at e; cases e
    rcases S.bs q o e with r | ⟨ps, ps', rfl, r⟩
    · exact g.hh q o nz r
    · rcases g.hh q _ nz r with r2 | ⟨_, qs, _, r2⟩
      · exact .inr ⟨ps, ps', rfl, r2⟩
      · exact .inr ⟨ps, qs, rfl, r2⟩
  · rcases g.nw q o e with ⟨o', e'⟩ | e'
    · exact S.fr q o' e'
    · exact .inr (S.bs.free e')
  · obtain ⟨q1, q2, a, c, q3, q4⟩ := S.pt q hq
    refine ⟨nf q _ q3 q1, q2, ?_⟩
    by_cases z : q = p
    · rw [z]; exact g.pt
    · exact ⟨a, c, g.l z q3, q4⟩
  · refine (S.sl i s e).keep g.ff (fun _ => Iff.rfl) fun q u _ _ h1 _ h3 h4 => ⟨nf q _ h4 h1, g.l (fun z => h3 (z ▸ hp)) h4⟩
theorem Nx.of_grP {f : Fz} {H F' H' : Hp} {p : Addr} (hp : p ∈ f.P) (g : GrP p f.F H F' H') : Nx f H ⟨F', f.P⟩ H' := ⟨g.ff, fun a o e n => g.hh a o (fun z => n (z ▸ hp)) e, fun _ e => e, fun _ e => .inl e⟩
def dFn (c : Con) (T : TDA) : TD := fun ρ R => T ρ fun ds ρ' => c ds fun d => R d ρ'
theorem de_fn {k : Con} {E : XK} (h : PE X e (tCall (spD X.K k) [] E (liftA X.K Tr))) : DE X e (dFn k Tr) := PE.weak h fun σ H Q ⟨b, f, ρ, R, S, t, q⟩ =>
  ⟨b, f, ρ, _, S, t, fun ds ρ' vs f' H' r S' n dps => ⟨f'.F, ds, _, S'.tb, S'.fs, by rw [List.append_nil]; exact dps, r, fun d v F2 H2 r2 g dp => q d ρ' v ⟨F2, f'.P⟩ H2 r2 (S'.grow g) (n.trans S.pots (Nx.of_gr g)) dp⟩⟩
/-- arguments: a pot, then data -/
abbrev TPt := DS → (DS → Prop) → Prop
def liftPA (K : PySem.W.Frag) (U : TPt) (T : TDA) : TA := fun σ H Q => ∃ b f ρ R, Sim K b f ρ σ H ∧ (U ρ fun ρ1 => T ρ1 R) ∧
  ∀ ds ρ' p vs f' H', R ds ρ' → Sim K b f' ρ' σ H' → Nx f H f' H' → p ∈ f'.P → DpAll K f'.F vs ds → Q (.ref p :: vs) H'
theorem dpa_cons {U : TPt} (ha : DPt X e U) (hr : DA X es Tr) (hs : starEach (e :: es) X.env = (false, eval e X.env) :: starEach es X.env := by rfl) : PA X (e :: es) (liftPA X.K U Tr) :=
  PA.weak (pa_cons ha hr hs) fun σ H Q ⟨b, f, ρ, R, S, t, q⟩ => ⟨b, f, ρ, _, S, t, fun ρ1 p f1 H1 r S1 n1 hp => ⟨b, f1, ρ1, _, S1, r, fun ds ρ2 vs f2 H2 r2 S2 n2 dps =>
    q ds ρ2 p vs f2 H2 r2 S2 (n1.trans S.pots n2) (n2.pp p hp) dps⟩⟩
def dFnP (U : TPt) (c : Con) (T : TDA) : TD := fun ρ R => U ρ fun ρ1 => T ρ1 fun ds ρ' => c ds fun d => R d ρ'
theorem de_fnP {k : Con} {E : XK} {U : TPt} (h : PE X e (tCall (spP X.K k) [] E (liftPA X.K U Tr))) : DE X e (dFnP U k Tr) := PE.weak h fun σ H Q ⟨b, f, ρ, R, S, t, q⟩ =>
  ⟨b, f, ρ, _, S, t, fun ds ρ' p vs f' H' r S' n hp dps => by
    obtain ⟨h1, _, h3⟩ := S'.pt p hp
    refine ⟨p, vs, f'.F, ds, _, by rw [List.append_nil], S'.tb, h1, h3, S'.fs, dps, r, fun d v F2 H2 r2 g dp => ?_⟩
    exact q d ρ' v ⟨F2, f'.P⟩ H2 r2 (S'.growP hp g) (n.trans S.pots (Nx.of_grP hp g)) dp⟩
/-- a call that makes a pot -/
def spNewP (K : PySem.W.Frag) (c : List D → Prop) : Sp := fun vs H Q _ => ∃ F ds, Same F H ∧ DpAll K F vs ds ∧ c ds ∧ ∀ p H', Same H H' → H p = none → PotAt H' p → Q (.ref p) H'
theorem Sim.newPot {K : PySem.W.Frag} {b : Bs} {f : Fz} {ρ : DS} {σ : L2.St} {H H' : Hp} {p : Addr} (S : Sim K b f ρ σ H) (hh : Same H H') (hp : H p = none) (pt : PotAt H' p) : Sim K b ⟨f.F, p :: f.P⟩ ρ σ H' ∧ Nx f H ⟨f.F, p :: f.P⟩ H' := by
  have np : p ∉ f.P := fun z => by
    obtain ⟨o, e⟩ := S.pots p z
    rw [hp] at e; cases e
  refine ⟨⟨S.len, S.bs.trans (.of hh), S.fs.trans hh, S.f0, S.fr, fun q hq => List.mem_cons_of_mem _ (S.p0 q hq), fun q hq => ?_, fun i s e => ?_, S.sep, S.tb.ext hh⟩, Same.refl _, fun a o e _ => .inl (hh a o e), fun q hq => List.mem_cons_of_mem _ hq, fun q hq => ?_⟩
  · rcases List.mem_cons.mp hq with rfl | hq
    · exact ⟨S.fs.free hp, S.bs.free hp, pt⟩
    · obtain ⟨k1, k2, a, c, k3, k4⟩ := S.pt q hq
      exact ⟨k1, k2, a, c, hh _ _ k3, k4⟩
  · have base := S.sl i s e
    cases s with
    | no => exact True.intro
    | fz d => exact base
    | own ds =>
      obtain ⟨q, vs, e1, h1, h2, h3, h4, h5⟩ := base
      refine ⟨q, vs, e1, h1, h2, fun z => ?_, hh _ _ h4, h5⟩
      rcases List.mem_cons.mp z with z | z
      · rw [z, hp] at h4; cases h4
      · exact h3 z
    | pot =>
      obtain ⟨q, e1, h1⟩ := base
      exact ⟨q, e1, List.mem_cons_of_mem _ h1⟩
  · rcases List.mem_cons.mp hq with rfl | hq
    · exact .inr hp
    · exact .inl hq
def pNew (c : List D → Prop) (T : TDA) : TPt := fun ρ R => T ρ fun ds ρ' => c ds ∧ R ρ'
theorem dp_new {k : List D → Prop} {E : XK} (h : PE X e (tCall (spNewP X.K k) [] E (liftA X.K Tr))) : DPt X e (pNew k Tr) := PE.weak h fun σ H Q ⟨b, f, ρ, R, S, t, q⟩ =>
  ⟨b, f, ρ, _, S, t, fun ds ρ' vs f' H' ⟨hc, r⟩ S' n dps => ⟨f'.F, ds, S'.fs, by rw [List.append_nil]; exact dps, hc, fun p H2 hh hp pt => by
    obtain ⟨S2, n2⟩ := S'.newPot hh hp pt
    exact q ρ' p _ H2 r S2 (n.trans S.pots n2) List.mem_cons_self⟩⟩

/-! ### statements -/
structure DEnds where
  nx : DS → Prop
  rt : D → DS → Prop
  bk : DS → Prop := fun _ => False
  ct : DS → Prop := fun _ => False
  rl : List D → DS → Prop := fun _ _ => False
abbrev TDS := DEnds → DS → Prop
structure Cont (K : PySem.W.Frag) (b : Bs) (E : DEnds) (D : Ends) : Prop where
  nx : ∀ ρ σ f H, E.nx ρ → Sim K b f ρ σ H → D.nx σ H
  rt : ∀ d ρ v σ f H, E.rt d ρ → Sim K b f ρ σ H → Dp K f.F v d → D.rt v H
  bk : ∀ ρ σ f H, E.bk ρ → Sim K b f ρ σ H → D.bk σ H
  ct : ∀ ρ σ f H, E.ct ρ → Sim K b f ρ σ H → D.ct σ H
  rl : ∀ ds ρ p σ f H, E.rl ds ρ → Sim K b f ρ σ H → Own K b f ρ σ H p ds → D.rt (.ref p) H
def liftS (K : PySem.W.Frag) (T : TDS) : TS := fun D σ H => ∃ b f ρ E, Sim K b f ρ σ H ∧ T E ρ ∧ Cont K b E D
abbrev DSt (X : Cx) (s : Stmt) (T : TDS) : Prop := PS X s (liftS X.K T)
abbrev DSs (X : Cx) (s : List Stmt) (T : TDS) : Prop := PSs X s (liftS X.K T)
variable {st : Stmt} {sts body orelse : List Stmt} {U V' W : TDS}
def sNil : TDS := fun E ρ => E.nx ρ
def sCons (U V : TDS) : TDS := fun E ρ => U { E with nx := V E } ρ
theorem ds_nil : DSs X [] sNil := PSs.weak pss_nil fun D σ H ⟨b, f, ρ, E, S, t, k⟩ => k.nx ρ σ f H t S
theorem ds_cons (h1 : DSt X st U) (h2 : DSs X sts V') : DSs X (st :: sts) (sCons U V') := PSs.weak (pss_cons h1 h2) fun D σ H ⟨b, f, ρ, E, S, t, k⟩ =>
  ⟨b, f, ρ, _, S, t, ⟨fun ρ' σ' f' H' u S' => ⟨b, f', ρ', E, S', u, k⟩, k.rt, k.bk, k.ct, k.rl⟩⟩
theorem ds_one (h1 : DSt X st U) : DSs X [st] U := pss_one h1
def sRet (T : TD) : TDS := fun E ρ => T ρ E.rt
theorem ds_ret (h : DE X e T) : DSt X (.Return (some e) pos) (sRet T) := PS.weak (ps_ret h) fun D σ H ⟨b, f, ρ, E, S, t, k⟩ => ⟨b, f, ρ, _, S, t, fun d ρ' v f' H' r S' n dp => k.rt d ρ' v σ f' H' r S' dp⟩
/-- return of a new list, still its own -/
def sRetL (T : TDA) : TDS := fun E ρ => T ρ E.rl
theorem ds_retL (h : DLs X e Tr) : DSt X (.Return (some e) pos) (sRetL Tr) := PS.weak (ps_ret h) fun D σ H ⟨b, f, ρ, E, S, t, k⟩ => ⟨b, f, ρ, _, S, t, fun ds ρ' p f' H' r S' n O => k.rl ds ρ' p σ f' H' r S' O⟩
/-- return of an own list by its name -/
def sRetO (i : Nat) : TDS := fun E ρ => ∃ ds, ρ[i]? = some (.own ds) ∧ E.rl ds (ρ.set i .no)
theorem ds_retO {i : Nat} (h : PE X e (tVar i)) : DSt X (.Return (some e) pos) (sRetO i) := PS.weak (ps_ret h) fun D σ H ⟨b, f, ρ, E, S, ⟨ds, hi, t⟩, k⟩ => by
  obtain ⟨p, vs, e1, h1, h2, h3, h4, h5⟩ := S.sl i _ hi
  have hil : i < ρ.length := (List.getElem?_eq_some_iff.mp hi).1
  have ne : ∀ (m : Nat) (u : Sl), (ρ.set i .no)[m]? = some u → u = .no ∨ (m ≠ i ∧ ρ[m]? = some u) := fun m u hm => by
    by_cases z : m = i
    · subst z
      rw [List.getElem?_set_self hil] at hm
      exact .inl (Option.some.inj hm).symm
    · rw [List.getElem?_set_ne (Ne.symm z)] at hm
      exact .inr ⟨z, hm⟩
  refine ⟨.ref p, e1, k.rl ds _ p σ f H t ⟨by rw [List.length_set]; exact S.len, S.bs, S.fs, S.f0, S.fr, S.p0, S.pt, fun j s q => ?_, fun j l s t' r hj hl hs ht g1 g2 => ?_, S.tb⟩ ⟨h1, h2, h3, fun j s q ho z => ?_, vs, h4, h5⟩⟩
  · rcases ne j s q with rfl | ⟨_, q⟩
    · exact True.intro
    · exact S.sl j s q
  · rcases ne j s hj with rfl | ⟨_, q1⟩
    · cases hs
    · rcases ne l t' hl with rfl | ⟨_, q2⟩
      · cases ht
      · exact S.sep j l s t' r q1 q2 hs ht g1 g2
  · rcases ne j s q with rfl | ⟨zz, q1⟩
    · cases ho
    · exact zz (S.sep j i s _ p q1 hi ho rfl z e1)
def sRetN : TDS := fun E ρ => E.rt .none ρ
theorem ds_retN : DSt X (.Return none pos) sRetN := PS.weak ps_retN fun D σ H ⟨b, f, ρ, E, S, t, k⟩ => k.rt _ ρ _ σ f H t S .non
def sIf (C : TDT) (U V : TDS) : TDS := fun E ρ => C ρ fun c ρ' => if c = true then U E ρ' else V E ρ'
theorem ds_if (hc : DT X c Tc) (ha : DSs X body U) (hb : DSs X orelse V') : DSt X (.If c body orelse pos) (sIf Tc U V') := PS.weak (ps_if hc ha hb) fun D σ H ⟨b, f, ρ, E, S, t, k⟩ =>
  ⟨b, f, ρ, _, S, t, fun c ρ' f' H' r S' n => by
    cases c with
    | true => exact ⟨b, f', ρ', E, S', r, k⟩
    | false => exact ⟨b, f', ρ', E, S', r, k⟩⟩
def sNever : TDS := fun _ _ => False
theorem ds_never : DSt X st sNever := PS.weak ps_never fun D σ H ⟨b, f, ρ, E, S, t, k⟩ => t
theorem dss_never : DSs X sts sNever := PSs.weak pss_never fun D σ H ⟨b, f, ρ, E, S, t, k⟩ => t

/-! ### stores -/
theorem Sim.set {K : PySem.W.Frag} {b : Bs} {f : Fz} {ρ : DS} {σ : L2.St} {H : Hp} {i : Nat} {s : Sl} {v : V} (S : Sim K b f ρ σ H) (h : SlOk K b f H s (some (some v)))
    (ho : isOwn s = true → ∀ (j : Nat) (t : Sl), ρ[j]? = some t → isOwn t = true → σ[j]? ≠ some (some v)) : Sim K b f (ρ.set i s) (σ.set i (some v)) H := by
  by_cases hi : i < ρ.length
  · have hi' : i < σ.length := by rw [← S.len]; exact hi
    refine ⟨by rw [List.length_set, List.length_set]; exact S.len, S.bs, S.fs, S.f0, S.fr, S.p0, S.pt, fun j t e => ?_, fun j k t u p hj hk ht hu e1 e2 => ?_, S.tb⟩
    · by_cases z : j = i
      · subst z
        rw [List.getElem?_set_self hi] at e
        have e' := Option.some.inj e
        subst e'
        rw [List.getElem?_set_self hi']
        exact h
      · rw [List.getElem?_set_ne (Ne.symm z)] at e
        rw [List.getElem?_set_ne (Ne.symm z)]
        exact S.sl j t e
    · by_cases zj : j = i
      · subst zj
        by_cases zk : k = j
        · exact zk.symm
        · rw [List.getElem?_set_self hi] at hj
          have e' := Option.some.inj hj
          subst e'
          rw [List.getElem?_set_ne (Ne.symm zk)] at hk e2
          rw [List.getElem?_set_self hi'] at e1
          have ev := Option.some.inj (Option.some.inj e1)
          subst ev
          exact absurd e2 (ho ht k u hk hu)
      · rw [List.getElem?_set_ne (Ne.symm zj)] at hj e1
        by_cases zk : k = i
        · subst zk
          rw [List.getElem?_set_self hi] at hk
          have e' := Option.some.inj hk
          subst e'
          rw [List.getElem?_set_self hi'] at e2
          have ev := Option.some.inj (Option.some.inj e2)
          subst ev
          exact absurd e1 (ho hu j t hj ht)
        · rw [List.getElem?_set_ne (Ne.symm zk)] at hk e2
          exact S.sep j k t u p hj hk ht hu e1 e2
  · have hi' : ¬ i < σ.length := by rw [← S.len]; exact hi
    rw [List.set_eq_of_length_le (by omega), List.set_eq_of_length_le (by omega)]
    exact S
theorem Sim.setFz {K : PySem.W.Frag} {b : Bs} {f : Fz} {ρ : DS} {σ : L2.St} {H : Hp} {i : Nat} {d : D} {v : V} (S : Sim K b f ρ σ H) (h : Dp K f.F v d) : Sim K b f (ρ.set i (.fz d)) (σ.set i (some v)) H := S.set ⟨v, rfl, h⟩ fun z => nomatch z
theorem Sim.setOwn {K : PySem.W.Frag} {b : Bs} {f : Fz} {ρ : DS} {σ : L2.St} {H : Hp} {i : Nat} {ds : List D} {p : Addr} (S : Sim K b f ρ σ H) (O : Own K b f ρ σ H p ds) : Sim K b f (ρ.set i (.own ds)) (σ.set i (some (.ref p))) H := by
  obtain ⟨vs, h1, h2⟩ := O.at_
  exact S.set ⟨p, vs, rfl, O.nf, O.nb, O.np, h1, h2⟩ fun _ j t hj ht => O.no j t hj ht
theorem Sim.setPot {K : PySem.W.Frag} {b : Bs} {f : Fz} {ρ : DS} {σ : L2.St} {H : Hp} {i : Nat} {p : Addr} (S : Sim K b f ρ σ H) (h : p ∈ f.P) : Sim K b f (ρ.set i .pot) (σ.set i (some (.ref p))) H := S.set ⟨p, rfl, h⟩ fun z => nomatch z
/-- name = e -/
def sSet (i : Nat) (T : TD) : TDS := fun E ρ => T ρ fun d ρ' => E.nx (ρ'.set i (.fz d))
def sSetL (i : Nat) (T : TDA) : TDS := fun E ρ => T ρ fun ds ρ' => E.nx (ρ'.set i (.own ds))
def sSetP (i : Nat) (T : TPt) : TDS := fun E ρ => T ρ fun ρ' => E.nx (ρ'.set i .pot)
theorem ds_set {i : Nat} (h : PS X st (tAsg (lift X.K T) (gName i))) : DSt X st (sSet i T) := PS.weak h fun D σ H ⟨b, f, ρ, E, S, t, k⟩ => ⟨b, f, ρ, _, S, t, fun d ρ' v f' H' r S' n dp => k.nx _ _ f' H' r (S'.setFz dp)⟩
theorem ds_setL {i : Nat} (h : PS X st (tAsg (liftL X.K Tr) (gName i))) : DSt X st (sSetL i Tr) := PS.weak h fun D σ H ⟨b, f, ρ, E, S, t, k⟩ => ⟨b, f, ρ, _, S, t, fun ds ρ' p f' H' r S' n O => k.nx _ _ f' H' r (S'.setOwn O)⟩
theorem ds_setP {i : Nat} {U : TPt} (h : PS X st (tAsg (liftP X.K U) (gName i))) : DSt X st (sSetP i U) := PS.weak h fun D σ H ⟨b, f, ρ, E, S, t, k⟩ => ⟨b, f, ρ, _, S, t, fun ρ' p f' H' r S' n hp => k.nx _ _ f' H' r (S'.setPot hp)⟩
/-- an own list changed at its place -/
theorem Sim.own {K : PySem.W.Frag} {b : Bs} {f : Fz} {ρ : DS} {σ : L2.St} {H : Hp} {i : Nat} {ds es : List D} {p : Addr} {vs ws : List V} (S : Sim K b f ρ σ H) (hi : ρ[i]? = some (.own ds)) (hp : σ[i]? = some (some (.ref p)))
    (hw : DpAll K f.F ws es) : Sim K b f (ρ.set i (.own es)) σ (upd H p (.lst ws)) := by
  obtain ⟨q, us, e1, h1, h2, h3, h4, h5⟩ := S.sl i _ hi
  have eq : q = p := by
    rw [hp] at e1
    exact (V.ref.inj (Option.some.inj (Option.some.inj e1))).symm
  subst eq
  have hil : i < ρ.length := (List.getElem?_eq_some_iff.mp hi).1
  have ne : ∀ (m : Nat) (u : Sl), (ρ.set i (.own es))[m]? = some u → ∃ u', ρ[m]? = some u' ∧ (isOwn u = true → isOwn u' = true) := fun m u hm => by
    by_cases z : m = i
    · subst z
      exact ⟨_, hi, fun _ => rfl⟩
    · rw [List.getElem?_set_ne (Ne.symm z)] at hm
      exact ⟨u, hm, fun z => z⟩
  refine ⟨by rw [List.length_set]; exact S.len, fun a o e => ?_, fun a o e => ?_, S.f0, S.fr, S.p0, fun a ha => ?_, fun j t e => ?_, fun j k t u r hj hk ht hu g1 g2 => ?_, S.tb.put (.inr ⟨_, h4⟩)⟩
  · rw [upd_ne (fun z => by rw [z, h2] at e; cases e)]; exact S.bs a o e
  · rw [upd_ne (fun z => by rw [z, h1] at e; cases e)]; exact S.fs a o e
  · obtain ⟨k1, k2, x, y, k3, k4⟩ := S.pt a ha
    have na : a ≠ q := fun (z : a = q) => h3 (z ▸ ha)
    exact ⟨k1, k2, x, y, by rw [upd_ne na]; exact k3, k4⟩
  · by_cases z : j = i
    · subst z
      rw [List.getElem?_set_self hil] at e
      have e' := Option.some.inj e
      subst e'
      exact ⟨q, ws, hp, h1, h2, h3, upd_same, hw⟩
    · rw [List.getElem?_set_ne (Ne.symm z)] at e
      refine (S.sl j t e).keep (f' := f) (Same.refl _) (fun _ => Iff.rfl) fun r u go g0 g1 g2 g3 g4 => ⟨g1, ?_⟩
      have nr : r ≠ q := fun (zz : r = q) => z (S.sep j i t _ q e hi go rfl (zz ▸ g0) hp)
      rw [upd_ne nr]
      exact g4
  · obtain ⟨t', a1, a2⟩ := ne j t hj
    obtain ⟨u', b1, b2⟩ := ne k u hk
    exact S.sep j k t' u' r a1 b1 (a2 ht) (b2 hu) g1 g2
/-- xs.append(e), xs an own list -/
def sApp (i : Nat) (T : TD) : TDS := fun E ρ => (∃ ds0, ρ[i]? = some (.own ds0)) ∧ T ρ fun d ρ' => ∃ ds, ρ'[i]? = some (.own ds) ∧ ds.length < sizeLine ∧ E.nx (ρ'.set i (.own (ds ++ [d])))
theorem ds_app {i : Nat} (h : PS X st (tDrop (tBM X.K "list" rAppend (tVar i) (tCons (lift X.K T) tNil)))) : DSt X st (sApp i T) := PS.weak h fun D σ H ⟨b, f, ρ, E, S, ⟨⟨ds0, h0⟩, t⟩, k⟩ => by
  obtain ⟨p, vs0, e0, _, _, _, h4, _⟩ := S.sl i _ h0
  refine ⟨.ref p, e0, .inl ⟨rfl, _, .inl (.inl h4)⟩, b, f, ρ, _, S, t, fun d ρ' v f' H' ⟨ds, hi, hz, r⟩ S' n dp => ?_⟩
  obtain ⟨q, vs, e1, g1, g2, g3, g4, g5⟩ := S'.sl i _ hi
  have eq : q = p := by
    rw [e0] at e1
    exact (V.ref.inj (Option.some.inj (Option.some.inj e1))).symm
  subst eq
  refine ⟨q, vs, v, rfl, rfl, g4, by rw [dpa_len g5]; exact hz, ?_⟩
  exact k.nx _ σ f' _ r (S'.own (vs := vs) hi e1 (dpa_app g5 (.cons dp .nil)))
end
end DL
namespace DL
open PySem PySem.Spec PyProof.Rows L2
variable [Tbs]
/-! ### targets -/
abbrev TDG := D → DS → (DS → Prop) → Prop
abbrev TDGs := List D → DS → (DS → Prop) → Prop
/-- what a target leaves: the slots that it does not name -/
structure Tgt (is : List Nat) (ρ ρ' : DS) (σ σ' : L2.St) : Prop where
  len : σ'.length = σ.length
  sg : ∀ j, j ∉ is → σ'[j]? = σ[j]?
  rh : ∀ j, j ∉ is → ρ'[j]? = ρ[j]?
theorem Tgt.refl (is : List Nat) (ρ : DS) (σ : L2.St) : Tgt is ρ ρ σ σ := ⟨rfl, fun _ _ => rfl, fun _ _ => rfl⟩
theorem Tgt.trans {is js : List Nat} {ρ ρ1 ρ2 : DS} {σ σ1 σ2 : L2.St} (a : Tgt is ρ ρ1 σ σ1) (c : Tgt js ρ1 ρ2 σ1 σ2) : Tgt (is ++ js) ρ ρ2 σ σ2 :=
  ⟨c.len.trans a.len, fun j h => (c.sg j fun z => h (List.mem_append_right _ z)).trans (a.sg j fun z => h (List.mem_append_left _ z)),
    fun j h => (c.rh j fun z => h (List.mem_append_right _ z)).trans (a.rh j fun z => h (List.mem_append_left _ z))⟩
def liftG (K : PySem.W.Frag) (is : List Nat) (G : TDG) : TG := fun v σ H Q => ∃ b f ρ d R, Sim K b f ρ σ H ∧ Dp K f.F v d ∧ G d ρ R ∧
  ∀ ρ' σ' f' H', R ρ' → Sim K b f' ρ' σ' H' → Nx f H f' H' → Tgt is ρ ρ' σ σ' → Q σ' H'
def liftGs (K : PySem.W.Frag) (is : List Nat) (G : TDGs) : TGs := fun vs σ H Q => ∃ b f ρ ds R, Sim K b f ρ σ H ∧ DpAll K f.F vs ds ∧ G ds ρ R ∧
  ∀ ρ' σ' f' H', R ρ' → Sim K b f' ρ' σ' H' → Nx f H f' H' → Tgt is ρ ρ' σ σ' → Q σ' H'
theorem PG.weak {X : Cx} {e : Expr} {t t' : TG} (h : PG X e t) (w : ∀ v σ H Q, t' v σ H Q → t v σ H Q) : PG X e t' := ⟨fun pins s σ H v u Q I r q => h.run pins s σ H v u Q I r (w v σ H Q q)⟩
theorem PGs.weak {X : Cx} {es : List Expr} {t t' : TGs} (h : PGs X es t) (w : ∀ v σ H Q, t' v σ H Q → t v σ H Q) : PGs X es t' := ⟨fun pins s σ H v u Q I r q => h.run pins s σ H v u Q I r (w v σ H Q q)⟩
abbrev DG (X : Cx) (e : Expr) (is : List Nat) (G : TDG) : Prop := PG X e (liftG X.K is G)
abbrev DGs (X : Cx) (es : List Expr) (is : List Nat) (G : TDGs) : Prop := PGs X es (liftGs X.K is G)
section
variable {X : Cx} {e a b c tg iter : Expr} {es rest ifs : List Expr} {T Ta Tb Te : TD} {Tr : TDA} {Tc Tp Tq Tt : TDT} {pos : Pos} {is js : List Nat} {G : TDG} {Gs : TDGs} {st : Stmt} {sts body orelse : List Stmt} {U V' W : TDS}
def gNm (i : Nat) : TDG := fun d ρ R => R (ρ.set i (.fz d))
theorem dg_name {i : Nat} (h : PG X e (gName i)) : DG X e [i] (gNm i) := PG.weak h fun v σ H Q ⟨b, f, ρ, d, R, S, dp, g, q⟩ => q _ _ f H g (S.setFz dp) (Nx.refl f H)
  ⟨List.length_set, fun j hj => List.getElem?_set_ne (fun z => hj (by rw [z]; exact List.mem_singleton.mpr rfl)), fun j hj => List.getElem?_set_ne (fun z => hj (by rw [z]; exact List.mem_singleton.mpr rfl))⟩
def gsNil : TDGs := fun ds ρ R => ds = [] ∧ R ρ
def gsCons (G : TDG) (Gs : TDGs) : TDGs := fun ds ρ R => ∃ d r, ds = d :: r ∧ G d ρ fun ρ' => Gs r ρ' R
theorem dgs_nil : DGs X [] [] gsNil := PGs.weak pgs_nil fun v σ H Q ⟨b, f, ρ, d, R, S, dp, ⟨e, g⟩, q⟩ => by
  subst e
  cases dp
  exact ⟨rfl, q ρ σ f H g S (Nx.refl f H) (Tgt.refl _ _ _)⟩
theorem dgs_cons (h1 : DG X e is G) (h2 : DGs X es js Gs) (hs : (assignEach (e :: es) X.env).map (·.2) = assign e X.env :: (assignEach es X.env).map (·.2) := by rfl) : DGs X (e :: es) (is ++ js) (gsCons G Gs) := PGs.weak (pgs_cons h1 h2 hs) fun v σ H Q ⟨b, f, ρ, d, R, S, dp, ⟨d1, r, e, g⟩, q⟩ => by
  subst e
  cases dp with
  | cons p1 p2 => exact ⟨_, _, rfl, b, f, ρ, d1, _, S, p1, g, fun ρ1 σ1 f1 H1 r1 S1 n1 t1 => ⟨b, f1, ρ1, r, R, S1, dpa_mono n1.ff _ _ p2, r1, fun ρ2 σ2 f2 H2 r2 S2 n2 t2 => q ρ2 σ2 f2 H2 r2 S2 (n1.trans S.pots n2) (t1.trans t2)⟩⟩
def gTp (n : Nat) (Gs : TDGs) : TDG := fun d ρ R => ∃ ds, d = .tuple ds ∧ ds.length = n ∧ Gs ds ρ R
theorem dg_tup {k n : Nat} (hc : X.calm = true) (h : DGs X es is Gs) (hn : (assignEach es X.env).length = n := by rfl) (hst : (assignEach es X.env).findIdx? (·.1) = none := by rfl) : DG X (.Tuple es k pos) is (gTp n Gs) :=
  PG.weak (pg_tup hc h hn hst) fun v σ H Q ⟨b, f, ρ, d, R, S, dp, ⟨ds, e, hl, g⟩, q⟩ => by
    subst e
    obtain ⟨p, vs, rfl, ht, dl⟩ := Bo.tup S.fs (.inl dp)
    exact ⟨p, vs, rfl, ht, by rw [dpa_len dl]; exact hl, b, f, ρ, ds, R, S, dl, g, q⟩
/-- target = e -/
def sAsg (T : TD) (G : TDG) : TDS := fun E ρ => T ρ fun d ρ' => G d ρ' E.nx
theorem ds_asg (h : PS X st (tAsg (lift X.K T) (liftG X.K is G))) : DSt X st (sAsg T G) := PS.weak h fun D σ H ⟨b, f, ρ, E, S, t, k⟩ =>
  ⟨b, f, ρ, _, S, t, fun d ρ' v f' H' r S' n dp => ⟨b, f', ρ', d, E.nx, S', dp, r, fun ρ2 σ2 f2 H2 r2 S2 _ _ => k.nx ρ2 σ2 f2 H2 r2 S2⟩⟩
/-- a, b = x, y -/
def sPar (i j : Nat) (T : TDA) : TDS := fun E ρ => T ρ fun ds ρ' => ∃ d d', ds = [d, d'] ∧ E.nx ((ρ'.set i (.fz d)).set j (.fz d'))
theorem ds_par {i j : Nat} (h : PS X st (tPar i j (liftA X.K Tr))) : DSt X st (sPar i j Tr) := PS.weak h fun D σ H ⟨b, f, ρ, E, S, t, k⟩ =>
  ⟨b, f, ρ, _, S, t, fun ds ρ' vs f' H' ⟨d, d', e, r⟩ S' n dp => by
    subst e
    cases dp with
    | cons p1 p2 => cases p2 with
      | cons p2 p3 =>
        cases p3
        exact ⟨_, _, rfl, k.nx _ _ f' H' r ((S'.setFz p1).setFz p2)⟩⟩

/-! ### what is walked -/
/-- over frozen data; over data read at once -/
structure ItF (K : PySem.W.Frag) (J : It) (f0 : Fz) (ds : List D) : Prop where
  go : ∀ (i : Nat) (f : Fz) (H : Hp), i < ds.length → Same f0.F f.F → Same f.F H → J.go i H
  stop : ∀ (f : Fz) (H : Hp), Same f0.F f.F → Same f.F H → J.stop ds.length H
  yld : ∀ (i : Nat) (f : Fz) (H : Hp) x H', i < ds.length → Same f0.F f.F → Same f.F H → J.yld i H x H' → ∃ d F', ds[i]? = some d ∧ Gr f.F H F' H' ∧ Dp K F' x d
structure ItD (K : PySem.W.Frag) (J : It) (f0 : Fz) (H0 : Hp) (ds : List D) : Prop where
  go : ∀ (i : Nat) (f : Fz) (H : Hp), i < ds.length → Nx f0 H0 f H → Same f.F H → J.go i H
  stop : ∀ (f : Fz) (H : Hp), Nx f0 H0 f H → Same f.F H → J.stop ds.length H
  yld : ∀ (i : Nat) (f : Fz) (H : Hp) x H', i < ds.length → Nx f0 H0 f H → Same f.F H → J.yld i H x H' → ∃ d F', ds[i]? = some d ∧ Gr f.F H F' H' ∧ Dp K F' x d
theorem ItF.itD {K : PySem.W.Frag} {J : It} {f0 : Fz} {H0 : Hp} {ds : List D} (h : ItF K J f0 ds) : ItD K J f0 H0 ds := ⟨fun i f H l n s => h.go i f H l n.ff s, fun f H n s => h.stop f H n.ff s, fun i f H x H' l n s y => h.yld i f H x H' l n.ff s y⟩
def liftI (K : PySem.W.Frag) (T : TDA) : TI := fun σ H R => ∃ b f ρ R', Sim K b f ρ σ H ∧ T ρ R' ∧ ∀ ds ρ' f' H' J, R' ds ρ' → Sim K b f' ρ' σ H' → Nx f H f' H' → ItF K J f' ds → R J H'
def liftIB (K : PySem.W.Frag) (T : TDA) : TI := fun σ H R => ∃ b f ρ R', Sim K b f ρ σ H ∧ T ρ R' ∧ ∀ ds ρ' f' H' J, R' ds ρ' → Sim K b f' ρ' σ H' → Nx f H f' H' → ItD K J f' H' ds → R J H'
abbrev DI (X : Cx) (tg e : Expr) (T : TDA) : Prop := PI X tg e (liftI X.K T)
abbrev DIB (X : Cx) (tg e : Expr) (T : TDA) : Prop := PI X tg e (liftIB X.K T)
theorem dib_of (h : DI X tg e Tr) : DIB X tg e Tr := PI.weak h fun σ H R ⟨b, f, ρ, R', S, t, q⟩ => ⟨b, f, ρ, R', S, t, fun ds ρ' f' H' J r S' n i => q ds ρ' f' H' J r S' n i.itD⟩
/-- signs of a text -/
def signs (x : Str) : List D := x.cps.toList.map fun c => .str ⟨#[c]⟩
def iterD : D → Option (List D)
  | .list ds => some ds
  | .tuple ds => some ds
  | .str x => some (signs x)
  | _ => none
def iSq (K : PySem.W.Frag) (tl : TE) : TI := fun σ H R => tl σ H fun x H1 => (∃ a, x = .ref a ∧ (∃ xs, SqL K H1 a xs) ∧ R (Itl K a) H1) ∨ (∃ a, x = .ref a ∧ (∃ xs, SqT K H1 a xs) ∧ R (Itt K a) H1) ∨ ∃ z, x = .str z ∧ R (Its z) H1
theorem pi_sq {l : Expr} {tl : TE} (hl : PE X l tl) : PI X tg l (iSq X.K tl) := by
  refine ⟨fun pins s σ H R I h => ?_⟩
  refine thn (hl.run pins s σ H _ I h) fun v s1 ⟨x, H1, I1, r1, q1⟩ => ?_
  rcases q1 with ⟨a, rfl, ⟨xs, hq⟩, q⟩ | ⟨a, rfl, ⟨xs, hq⟩, q⟩ | ⟨z, rfl, q⟩
  · cases r1
    obtain ⟨its, rv, p, hz⟩ := I1.list hq
    exact wpAny_pyIter_list p.isList (pi_one (tk := s1.toks) I1 _ (turn_list a _) ⟨_, Heap.get?_push_size _ rfl, rfl, rfl⟩ q)
  · cases r1
    obtain ⟨its, rv, p, hz⟩ := I1.tuple hq
    exact wpAny_pyIter_tuple (show s1.heap.IsTuple a its.toArray from p) (pi_one (tk := s1.toks) I1 _ (turn_tuple a _) ⟨_, Heap.get?_push_size _ rfl, rfl, rfl⟩ q)
  · obtain ⟨t, rfl⟩ := r1
    cases ha : z.cps.all (· < 128)
    · exact wpAny_pyIter_wide ha (pi_one (tk := s1.toks) I1 _ (turn_str _ z t "str_iterator" (.inr rfl)) ⟨_, Heap.get?_push_size _ rfl, rfl, rfl⟩ q)
    · exact wpAny_pyIter_ascii ha (pi_one (tk := s1.toks) I1 _ (turn_str _ z t "str_ascii_iterator" (.inl rfl)) ⟨_, Heap.get?_push_size _ rfl, rfl, rfl⟩ q)
theorem itf_list {K : PySem.W.Frag} {f : Fz} {a : Addr} {xs : List V} {ds : List D} (h : SqL K f.F a xs) (hd : DpAll K f.F xs ds) : ItF K (Itl K a) f ds where
  go := fun i f' H hi ff fs => by
    obtain ⟨x, hx⟩ : ∃ x, xs[i]? = some x := ⟨_, List.getElem?_eq_getElem (by rw [dpa_len hd]; exact hi)⟩
    exact ⟨xs, x, fs.seq (ff.seq h), hx⟩
  stop := fun f' H ff fs => ⟨xs, fs.seq (ff.seq h), Nat.le_of_eq (dpa_len hd)⟩
  yld := fun i f' H x H' hi ff fs y => by
    obtain ⟨rfl, y⟩ := y
    obtain ⟨d, e, dp⟩ := dpa_get hd (y xs (fs.seq (ff.seq h)))
    exact ⟨d, f'.F, e, Gr.refl fs, dp_mono ff d x dp⟩
theorem itf_tup {K : PySem.W.Frag} {f : Fz} {a : Addr} {xs : List V} {ds : List D} (h : SqT K f.F a xs) (hd : DpAll K f.F xs ds) : ItF K (Itt K a) f ds where
  go := fun i f' H hi ff fs => by
    obtain ⟨x, hx⟩ : ∃ x, xs[i]? = some x := ⟨_, List.getElem?_eq_getElem (by rw [dpa_len hd]; exact hi)⟩
    exact ⟨xs, x, same_tup fs (same_tup ff h), hx⟩
  stop := fun f' H ff fs => ⟨xs, same_tup fs (same_tup ff h), Nat.le_of_eq (dpa_len hd)⟩
  yld := fun i f' H x H' hi ff fs y => by
    obtain ⟨rfl, y⟩ := y
    obtain ⟨d, e, dp⟩ := dpa_get hd (y xs (same_tup fs (same_tup ff h)))
    exact ⟨d, f'.F, e, Gr.refl fs, dp_mono ff d x dp⟩
theorem signs_at (x : Str) (i : Nat) : (signs x)[i]? = (x.cps[i]?).map fun c => PyData.str ⟨#[c]⟩ := by
  unfold signs
  rw [List.getElem?_map, Array.getElem?_toList]
theorem itf_str {K : PySem.W.Frag} {f : Fz} {x : Str} : ItF K (Its x) f (signs x) where
  go := fun i f' H hi _ _ => by
    have e : (signs x).length = x.cps.size := by unfold signs; simp
    show i < x.cps.size
    omega
  stop := fun f' H _ _ => by
    have e : (signs x).length = x.cps.size := by unfold signs; simp
    show x.cps.size ≤ (signs x).length
    omega
  yld := fun i f' H v H' hi _ fs y => by
    obtain ⟨rfl, c, hc, rfl⟩ := y
    exact ⟨_, f'.F, by rw [signs_at, hc]; rfl, Gr.refl fs, .str _⟩
/-- over the items of a frozen datum -/
def iSeq (T : TD) : TDA := fun ρ R => T ρ fun d ρ' => ∃ ds, iterD d = some ds ∧ R ds ρ'
theorem di_seq (h : DE X e T) : DI X tg e (iSeq T) := PI.weak (pi_sq h) fun σ H R ⟨b, f, ρ, R', S, t, q⟩ => ⟨b, f, ρ, _, S, t, fun d ρ' v f' H' ⟨ds, hd, r⟩ S' n dp => by
  cases d with
  | list l =>
    have e' := Option.some.inj hd
    subst e'
    cases dp with
    | lst hs ha => exact .inl ⟨_, rfl, ⟨_, S'.fs.seq hs⟩, q _ ρ' f' H' _ r S' n (itf_list hs ha)⟩
  | tuple l =>
    have e' := Option.some.inj hd
    subst e'
    cases dp with
    | tup hs ha => exact .inr (.inl ⟨_, rfl, ⟨_, same_tup S'.fs hs⟩, q _ ρ' f' H' _ r S' n (itf_tup hs ha)⟩)
  | str x =>
    have e' := Option.some.inj hd
    subst e'
    cases dp
    exact .inr (.inr ⟨x, rfl, q _ ρ' f' H' _ r S' n itf_str⟩)
  | none => cases hd
  | bool _ => cases hd
  | int _ => cases hd
  | dict _ => cases hd⟩
/-- over an own list as it stands, in a comprehension -/
theorem dib_own (h : DB X e T) : DIB X tg e (iSeq T) := PI.weak (pi_sq h) fun σ H R ⟨b, f, ρ, R', S, t, q⟩ => ⟨b, f, ρ, _, S, t, fun d ρ' v f' H' ⟨ds, hd, r⟩ S' n bo => by
  rcases bo with dp | ⟨p, vs, l, rfl, rfl, g1, g2, g3⟩
  · cases d with
    | list l =>
      have e' := Option.some.inj hd
      subst e'
      cases dp with
      | lst hs ha => exact .inl ⟨_, rfl, ⟨_, S'.fs.seq hs⟩, q _ ρ' f' H' _ r S' n (itf_list hs ha).itD⟩
    | tuple l =>
      have e' := Option.some.inj hd
      subst e'
      cases dp with
      | tup hs ha => exact .inr (.inl ⟨_, rfl, ⟨_, same_tup S'.fs hs⟩, q _ ρ' f' H' _ r S' n (itf_tup hs ha).itD⟩)
    | str x =>
      have e' := Option.some.inj hd
      subst e'
      cases dp
      exact .inr (.inr ⟨x, rfl, q _ ρ' f' H' _ r S' n itf_str.itD⟩)
    | none => cases hd
    | bool _ => cases hd
    | int _ => cases hd
    | dict _ => cases hd
  · have e' := Option.some.inj hd
    subst e'
    refine .inl ⟨p, rfl, ⟨vs, .inl (.inl g2)⟩, q _ ρ' f' H' _ r S' n ⟨fun i f2 H2 hi n2 fs => ?_, fun f2 H2 n2 fs => ?_, fun i f2 H2 x H3 hi n2 fs y => ?_⟩⟩
    · obtain ⟨x, hx⟩ : ∃ x, vs[i]? = some x := ⟨_, List.getElem?_eq_getElem (by rw [dpa_len g3]; exact hi)⟩
      exact ⟨vs, x, .inl (.inl (n2.kl g2 g1)), hx⟩
    · exact ⟨vs, .inl (.inl (n2.kl g2 g1)), Nat.le_of_eq (dpa_len g3)⟩
    · obtain ⟨rfl, y⟩ := y
      obtain ⟨d, e, dp⟩ := dpa_get g3 (y vs (.inl (.inl (n2.kl g2 g1))))
      exact ⟨d, f2.F, e, Gr.refl fs, dp_mono n2.ff d x dp⟩⟩
/-- over range(n) -/
def intsTo (lo : Int) (n : Nat) : List D := (List.range n).map fun (i : Nat) => PyData.int (lo + i)
theorem intsTo_len (lo : Int) (n : Nat) : (intsTo lo n).length = n := by unfold intsTo; simp
theorem intsTo_at {lo : Int} {n i : Nat} (h : i < n) : (intsTo lo n)[i]? = some (.int (lo + i)) := by
  unfold intsTo
  rw [List.getElem?_map, List.getElem?_range h]
  rfl
theorem itf_range {K : PySem.W.Frag} {f : Fz} {lo : Int} {n : Nat} : ItF K (Itr lo n) f (intsTo lo n) where
  go := fun i f' H hi _ _ => by rw [intsTo_len] at hi; exact hi
  stop := fun f' H _ _ => by rw [intsTo_len]; exact Nat.le_refl n
  yld := fun i f' H v H' hi _ fs y => by
    obtain ⟨rfl, rfl⟩ := y
    rw [intsTo_len] at hi
    exact ⟨_, f'.F, intsTo_at hi, Gr.refl fs, .int _⟩
def iRg1 (T : TDA) : TDA := fun ρ R => T ρ fun ds ρ' => ∃ n : Int, ds = [.int n] ∧ -(2 ^ 62) ≤ n ∧ n < 2 ^ 62 ∧ R (intsTo 0 n.toNat) ρ'
theorem di_range1 (h : PI X tg e (iRng1 (liftBA X.K Tr))) : DI X tg e (iRg1 Tr) := PI.weak h fun σ H R ⟨b, f, ρ, R', S, t, q⟩ => ⟨b, f, ρ, _, S, t, fun ds ρ' vs f' H' ⟨n, e, h1, h2, r⟩ S' nn ba => by
  subst e
  obtain ⟨v, rfl, bo⟩ := ba.one
  exact ⟨n, by rw [bo.int], h1, h2, q _ ρ' f' H' _ r S' nn itf_range⟩⟩

/-! ### for -/
theorem Sim.rebase {K : PySem.W.Frag} {b : Bs} {f : Fz} {ρ : DS} {σ : L2.St} {H : Hp} (S : Sim K b f ρ σ H) : Sim K ⟨b.B, f.F, f.P⟩ f ρ σ H :=
  ⟨S.len, S.bs, S.fs, Same.refl _, fun a o e => .inl ⟨o, e⟩, fun _ h => h, S.pt, fun i s e => by
    have q := S.sl i s e
    cases s <;> exact q, S.sep, S.tb⟩
theorem Sim.unbase {K : PySem.W.Frag} {b : Bs} {f f1 : Fz} {ρ ρ1 : DS} {σ σ1 : L2.St} {H H1 : Hp} (S : Sim K b f ρ σ H) (S1 : Sim K ⟨b.B, f.F, f.P⟩ f1 ρ1 σ1 H1) : Sim K b f1 ρ1 σ1 H1 :=
  ⟨S1.len, S1.bs, S1.fs, S.f0.trans S1.f0, fun a o e => by
    rcases S1.fr a o e with ⟨o', e'⟩ | e'
    · exact S.fr a o' e'
    · exact .inr e', fun p h => S1.p0 p (S.p0 p h), S1.pt, fun i s e => by
    have q := S1.sl i s e
    cases s <;> exact q, S1.sep, S1.tb⟩
theorem Cont.rebase {K : PySem.W.Frag} {b : Bs} {f : Fz} {ρ : DS} {σ : L2.St} {H : Hp} {E : DEnds} {D : Ends} (S : Sim K b f ρ σ H) (k : Cont K b E D) : Cont K ⟨b.B, f.F, f.P⟩ E D :=
  ⟨fun ρ' σ' f' H' r S' => k.nx ρ' σ' f' H' r (S.unbase S'), fun d ρ' v σ' f' H' r S' dp => k.rt d ρ' v σ' f' H' r (S.unbase S') dp, fun ρ' σ' f' H' r S' => k.bk ρ' σ' f' H' r (S.unbase S'), fun ρ' σ' f' H' r S' => k.ct ρ' σ' f' H' r (S.unbase S'), fun ds ρ' p σ' f' H' r S' O => k.rl ds ρ' p σ' f' H' r (S.unbase S') ⟨O.nf, O.nb, O.np, O.no, O.at_⟩⟩
def sFor (T : TDA) (G : TDG) (U : TDS) : TDS := fun E ρ => T ρ fun ds ρ1 => ∃ W : Nat → DS → Prop, W 0 ρ1 ∧
  (∀ i d ρ', ds[i]? = some d → W i ρ' → G d ρ' fun ρ'' => U { E with nx := W (i + 1), ct := W (i + 1), bk := E.nx } ρ'') ∧ ∀ ρ', W ds.length ρ' → E.nx ρ'
theorem ds_for (h : PS X st (tFor (liftI X.K Tr) (liftG X.K is G) (liftS X.K U))) : DSt X st (sFor Tr G U) := PS.weak h fun D σ H ⟨b, f, ρ, E, S, t, k⟩ =>
  ⟨b, f, ρ, _, S, t, fun ds ρ1 f1 H1 J ⟨W, w0, turn, done⟩ S1 n1 J1 => by
    have k1 := k.rebase S1
    refine ⟨fun i m σ' H' => m = ds.length - i ∧ i ≤ ds.length ∧ ∃ f' ρ', Sim X.K ⟨b.B, f1.F, f1.P⟩ f' ρ' σ' H' ∧ W i ρ', ⟨ds.length, by simp, Nat.zero_le _, f1, ρ1, S1.rebase, w0⟩, ?_⟩
    rintro i m σ' H' ⟨rfl, hi, f', ρ', S', w⟩
    by_cases hlt : i < ds.length
    · refine .inr ⟨J1.go i f' H' hlt S'.f0 S'.fs, fun σ2 H2 => ∃ f2 ρ2, Sim X.K ⟨b.B, f1.F, f1.P⟩ f2 ρ2 σ2 H2 ∧ W (i + 1) ρ2, fun σ2 H2 ⟨f2, ρ2, S2, w2⟩ => ⟨ds.length - (i + 1), by omega, rfl, hlt, f2, ρ2, S2, w2⟩, fun x H2 y => ?_⟩
      obtain ⟨d, F2, e, g, dp⟩ := J1.yld i f' H' x H2 hlt S'.f0 S'.fs y
      refine ⟨_, ⟨F2, f'.P⟩, ρ', d, _, S'.grow g, dp, turn i d ρ' e w, fun ρ3 σ3 f3 H3 r3 S3 _ _ => ⟨_, f3, ρ3, _, S3, r3, ?_⟩⟩
      exact ⟨fun ρ4 σ4 f4 H4 r4 S4 => ⟨f4, ρ4, S4, r4⟩, k1.rt, fun ρ4 σ4 f4 H4 r4 S4 => k1.nx ρ4 σ4 f4 H4 r4 S4, fun ρ4 σ4 f4 H4 r4 S4 => ⟨f4, ρ4, S4, r4⟩, k1.rl⟩
    · have e : i = ds.length := by omega
      subst e
      exact .inl ⟨J1.stop f' H' S'.f0 S'.fs, k1.nx ρ' σ' f' H' (done ρ' w) S'⟩⟩
end
end DL
namespace DL
open PySem PySem.Spec PyProof.Rows L2
variable [Tbs]
/-! ### list comprehensions -/
def wipeD (ρ : DS) : List Nat → DS
  | [] => ρ
  | v :: vs => (wipeD ρ vs).set v .no
theorem wipeD_ne {ρ : DS} : ∀ {vs : List Nat} {j : Nat}, j ∉ vs → (wipeD ρ vs)[j]? = ρ[j]?
  | [], _, _ => rfl
  | v :: vs, j, h => by
    unfold wipeD
    rw [List.getElem?_set_ne (fun z => h (by rw [z]; exact List.mem_cons_self))]
    exact wipeD_ne fun z => h (List.mem_cons_of_mem _ z)
theorem wipe_ne {σ : L2.St} : ∀ {vs : List Nat} {j : Nat}, j ∉ vs → (wipe σ vs)[j]? = σ[j]?
  | [], _, _ => rfl
  | v :: vs, j, h => by
    unfold wipe
    rw [List.getElem?_set_ne (fun z => h (by rw [z]; exact List.mem_cons_self))]
    exact wipe_ne fun z => h (List.mem_cons_of_mem _ z)
theorem wipe_in {σ : L2.St} : ∀ {vs : List Nat} {j : Nat}, j ∈ vs → j < σ.length → (wipe σ vs)[j]? = some none
  | v :: vs, j, h, hl => by
    unfold wipe
    by_cases z : j = v
    · subst z
      rw [List.getElem?_set_self (by rw [wipe_length]; exact hl)]
    · rw [List.getElem?_set_ne (Ne.symm z)]
      rcases List.mem_cons.mp h with h | h
      · exact absurd h z
      · exact wipe_in h hl
theorem wipe_eq {σ σ2 : L2.St} {vs is : List Nat} (hl : σ2.length = (wipe σ vs).length) (hs : ∀ j, j ∉ is → σ2[j]? = (wipe σ vs)[j]?) (hi : ∀ i ∈ is, i ∈ vs) : wipe σ2 vs = wipe σ vs := by
  rw [wipe_length] at hl
  apply List.ext_getElem?
  intro j
  by_cases h : j ∈ vs
  · by_cases k : j < σ.length
    · rw [wipe_in h (by rw [hl]; exact k), wipe_in h k]
    · rw [List.getElem?_eq_none (by rw [wipe_length, hl]; omega), List.getElem?_eq_none (by rw [wipe_length]; omega)]
  · rw [wipe_ne h, hs j fun z => h (hi j z)]
theorem Sim.wipe {K : PySem.W.Frag} {b : Bs} {f : Fz} {ρ : DS} {σ : L2.St} {H : Hp} (S : Sim K b f ρ σ H) (vs : List Nat) : Sim K b f (wipeD ρ vs) (wipe σ vs) H := by
  induction vs with
  | nil => exact S
  | cons v vs ih =>
    unfold wipeD L2.wipe
    have ne : ∀ (m : Nat) (u : Sl), ((wipeD ρ vs).set v .no)[m]? = some u → u = .no ∨ (m ≠ v ∧ (wipeD ρ vs)[m]? = some u) := fun m u hm => by
      by_cases z : m = v
      · subst z
        by_cases k : m < (wipeD ρ vs).length
        · rw [List.getElem?_set_self k] at hm
          exact .inl (Option.some.inj hm).symm
        · rw [List.getElem?_eq_none (by rw [List.length_set]; omega)] at hm
          cases hm
      · rw [List.getElem?_set_ne (Ne.symm z)] at hm
        exact .inr ⟨z, hm⟩
    refine ⟨by rw [List.length_set, List.length_set]; exact ih.len, ih.bs, ih.fs, ih.f0, ih.fr, ih.p0, ih.pt, fun i s e => ?_, fun i j s t p hi hj hs ht e1 e2 => ?_, ih.tb⟩
    · rcases ne i s e with rfl | ⟨z, e'⟩
      · exact True.intro
      · rw [List.getElem?_set_ne (Ne.symm z)]
        exact ih.sl i s e'
    · rcases ne i s hi with rfl | ⟨z1, h1⟩
      · cases hs
      · rcases ne j t hj with rfl | ⟨z2, h2⟩
        · cases ht
        · rw [List.getElem?_set_ne (Ne.symm z1)] at e1
          rw [List.getElem?_set_ne (Ne.symm z2)] at e2
          exact ih.sep i j s t p h1 h2 hs ht e1 e2
/-- a list in the making is held with what stands -/
theorem Sim.guard {K : PySem.W.Frag} {b : Bs} {f : Fz} {ρ : DS} {σ : L2.St} {H : Hp} {p : Addr} {o : HO} (S : Sim K b f ρ σ H) (hp : H p = some o) (hf : f.F p = none) (hP : p ∉ f.P)
    (hn : ∀ (i : Nat) (s : Sl), ρ[i]? = some s → isOwn s = true → σ[i]? ≠ some (some (V.ref p))) : Sim K ⟨upd b.B p o, b.F0, b.P0⟩ f ρ σ H := by
  refine ⟨S.len, fun a u e => ?_, S.fs, S.f0, fun a u e => ?_, S.p0, fun a ha => ?_, fun i s e => ?_, S.sep, S.tb⟩
  · by_cases z : a = p
    · subst z
      have e' : upd b.B a o a = some u := e
      rw [upd_same] at e'
      rw [hp]
      exact .inl e'
    · have e' : upd b.B p o a = some u := e
      rw [upd_ne z] at e'
      exact S.bs a u e'
  · rcases S.fr a u e with q | q
    · exact .inl q
    · refine .inr ?_
      have z : a ≠ p := fun z => by rw [z, hf] at e; cases e
      show upd b.B p o a = none
      rw [upd_ne z]
      exact q
  · obtain ⟨k1, k2, k3⟩ := S.pt a ha
    have z : a ≠ p := fun (z : a = p) => hP (z ▸ ha)
    exact ⟨k1, by show upd b.B p o a = none; rw [upd_ne z]; exact k2, k3⟩
  · have q := S.sl i s e
    cases s with
    | no => exact q
    | fz d => exact q
    | pot => exact q
    | own ds =>
      obtain ⟨a, vs, e1, h1, h2, h3, h4, h5⟩ := q
      have z : a ≠ p := fun (z : a = p) => hn i _ e rfl (z ▸ e1)
      exact ⟨a, vs, e1, h1, by show upd b.B p o a = none; rw [upd_ne z]; exact h2, h3, h4, h5⟩
/-- back from a block -/
theorem Sim.back {K : PySem.W.Frag} {b : Bs} {B' : Hp} {f f2 : Fz} {ρ ρ2 : DS} {σ σ2 : L2.St} {H H2 : Hp} (S : Sim K b f ρ σ H) (S2 : Sim K ⟨B', b.F0, b.P0⟩ f2 ρ2 σ2 H2) (hB : Same b.B B') (n : Nx f H f2 H2)
    (hk : ∀ (i : Nat) (ds : List D), ρ[i]? = some (.own ds) → ρ2[i]? = some (.own ds) ∧ σ2[i]? = σ[i]?) : Sim K b f2 ρ σ H2 := by
  refine ⟨S.len, fun a o e => S2.bs a o (hB a o e), S2.fs, S2.f0, fun a o e => ?_, S2.p0, fun p hp => ?_, fun i s e => ?_, S.sep, S2.tb⟩
  · rcases S2.fr a o e with q | q
    · exact .inl q
    · exact .inr (hB.free q)
  · obtain ⟨k1, k2, k3⟩ := S2.pt p hp
    exact ⟨k1, hB.free k2, k3⟩
  · have q := S.sl i s e
    cases s with
    | no => exact q
    | fz d => obtain ⟨v, e1, dp⟩ := q; exact ⟨v, e1, dp_mono n.ff d v dp⟩
    | pot => obtain ⟨p, e1, hp⟩ := q; exact ⟨p, e1, n.pp p hp⟩
    | own ds =>
      obtain ⟨p, vs, e1, h1, h2, h3, h4, h5⟩ := q
      obtain ⟨r1, r2⟩ := hk i ds e
      obtain ⟨p', vs', e1', g1, g2, g3, g4, g5⟩ := S2.sl i _ r1
      have ep : p' = p := by
        have e2 : some (some (V.ref p)) = some (some (V.ref p')) := by rw [← e1, ← r2]; exact e1'
        exact (V.ref.inj (Option.some.inj (Option.some.inj e2))).symm
      subst ep
      exact ⟨p', vs, e1, g1, h2, g3, n.kl h4 h3, dpa_mono n.ff ds vs h5⟩
/-- the list in the making gets its next items -/
theorem Own.put {K : PySem.W.Frag} {b : Bs} {f : Fz} {ρ : DS} {σ : L2.St} {H : Hp} {p : Addr} {vs : List V} {ds : List D} (S : Sim K b f ρ σ H) (hl : H p = none ∨ ∃ xs, H p = some (.lst xs)) (nf : f.F p = none) (nb : b.B p = none) (np : p ∉ f.P)
    (no : ∀ (i : Nat) (s : Sl), ρ[i]? = some s → isOwn s = true → σ[i]? ≠ some (some (V.ref p))) (hd : DpAll K f.F vs ds) : Sim K b f ρ σ (upd H p (.lst vs)) ∧ Own K b f ρ σ (upd H p (.lst vs)) p ds := by
  refine ⟨⟨S.len, fun a o e => ?_, fun a o e => ?_, S.f0, S.fr, S.p0, fun a ha => ?_, fun i s e => ?_, S.sep, S.tb.put hl⟩, ⟨nf, nb, np, no, vs, upd_same, hd⟩⟩
  · rw [upd_ne (fun z => by rw [z, nb] at e; cases e)]; exact S.bs a o e
  · rw [upd_ne (fun z => by rw [z, nf] at e; cases e)]; exact S.fs a o e
  · obtain ⟨k1, k2, x, y, k3, k4⟩ := S.pt a ha
    have z : a ≠ p := fun (z : a = p) => np (z ▸ ha)
    exact ⟨k1, k2, x, y, by rw [upd_ne z]; exact k3, k4⟩
  · refine (S.sl i s e).keep (f' := f) (Same.refl _) (fun _ => Iff.rfl) fun r u go g0 g1 g2 g3 g4 => ⟨g1, ?_⟩
    have z : r ≠ p := fun (z : r = p) => no i s e go (z ▸ g0)
    rw [upd_ne z]
    exact g4
def noOwn (ρ : DS) (vs : List Nat) : Prop := ∀ i ∈ vs, ∀ ds, ρ[i]? ≠ some (.own ds)
def lLc (vs : List Nat) (T : TDA) (G : TDG) (Tt : TDT) (Te : TD) : TDA := fun ρ R => T ρ fun ds ρ1 => ds.length < sizeLine ∧ noOwn ρ1 vs ∧ ∃ W : Nat → List D → Prop, W 0 [] ∧
  (∀ i d acc, ds[i]? = some d → W i acc → G d (wipeD ρ1 vs) fun ρ2 => Tt ρ2 fun c ρ3 => ρ3 = ρ2 ∧ if c = true then Te ρ3 (fun y ρ4 => ρ4 = ρ3 ∧ W (i + 1) (acc ++ [y])) else W (i + 1) acc) ∧
  ∀ acc, W ds.length acc → R acc ρ1
section
variable {X : Cx} {e c : Expr} {T Te : TD} {Tr : TDA} {Tt : TDT} {is vs : List Nat} {G : TDG} {ifs : List Expr}
abbrev DTs (X : Cx) (ifs : List Expr) (T : TDT) : Prop := PTs X ifs (liftT X.K T)
def tYesD : TDT := fun ρ R => R true ρ
theorem dts_nil : DTs X [] tYesD := ⟨fun pins s σ H Q I ⟨b, f, ρ, R, S, t, q⟩ => pts_nil.run pins s σ H Q I (q true ρ f H t S (Nx.refl f H))⟩
theorem dts_one (h : DT X c Tt) : DTs X [c] Tt := pts_one h
theorem lc_weak (X : Cx) (hi : ∀ i ∈ is, i ∈ vs) : ∀ σ H Q, liftL X.K (lLc vs Tr G Tt Te) σ H Q → tLc (liftIB X.K Tr) (liftG X.K is G) (liftT X.K Tt) (lift X.K Te) vs σ H Q := fun σ H Q ⟨b, f, ρ, R, S, t, q⟩ =>
  ⟨b, f, ρ, _, S, t, fun ds ρ1 f1 H1 J ⟨hz, hno, W, w0, turn, done⟩ S1 n1 J1 p hp => by
    obtain ⟨Sa, Oa, na⟩ := Own.new (vs := []) (ds := []) S1 hp .nil
    refine ⟨fun i m H' => m = ds.length - i ∧ i ≤ ds.length ∧ ∃ f' acc, Sim X.K b f' ρ1 σ H' ∧ Nx f1 H1 f' H' ∧ W i acc ∧ acc.length ≤ i ∧ Own X.K b f' ρ1 σ H' p acc, ⟨ds.length, by simp, Nat.zero_le _, f1, [], Sa, na, w0, Nat.le_refl _, Oa⟩, ?_⟩
    rintro i m H' ⟨rfl, hil, f', acc, S', n', w, hacc, O⟩
    by_cases hlt : i < ds.length
    · refine .inr ⟨J1.go i f' H' hlt n' S'.fs, fun H2 => ∃ f2 acc2, Sim X.K b f2 ρ1 σ H2 ∧ Nx f1 H1 f2 H2 ∧ W (i + 1) acc2 ∧ acc2.length ≤ i + 1 ∧ Own X.K b f2 ρ1 σ H2 p acc2, fun H2 z => ⟨ds.length - (i + 1), by omega, rfl, hlt, z⟩, fun x H2 y => ?_⟩
      obtain ⟨d, F2, e, g, dp⟩ := J1.yld i f' H' x H2 hlt n' S'.fs y
      obtain ⟨ws, hw1, hw2⟩ := O.at_
      have S2 : Sim X.K b ⟨F2, f'.P⟩ ρ1 σ H2 := S'.grow g
      have n2 : Nx f1 H1 ⟨F2, f'.P⟩ H2 := n'.trans S1.pots (Nx.of_gr g)
      have hw3 : H2 p = some (.lst ws) := g.hh.l hw1
      have hF2 : F2 p = none := by
        cases r : F2 p with
        | none => rfl
        | some u =>
          rcases g.nw p u r with ⟨o', e'⟩ | e'
          · rw [O.nf] at e'; cases e'
          · rw [hw1] at e'; cases e'
      have SG := (S2.guard hw3 hF2 O.np O.no).wipe vs
      -- behind the turn
      have fin : ∀ (f5 : Fz) (ρ5 : DS) (σ5 : L2.St) (H5 : Hp), Sim X.K ⟨upd b.B p (.lst ws), b.F0, b.P0⟩ f5 ρ5 σ5 H5 → Nx ⟨F2, f'.P⟩ H2 f5 H5 → Tgt is (wipeD ρ1 vs) ρ5 (wipe σ vs) σ5 →
          H5 p = some (.lst ws) ∧ Sim X.K b f5 ρ1 σ H5 ∧ f5.F p = none ∧ p ∉ f5.P := fun f5 ρ5 σ5 H5 S5 n5 t5 => by
        have hh : H5 p = some (.lst ws) := S5.bs.l upd_same
        refine ⟨hh, S2.back S5 (same_new O.nb) n5 fun j es hj => ?_, ?_, fun z => ?_⟩
        · have jv : j ∉ vs := fun z => hno j z es hj
          have ji : j ∉ is := fun z => jv (hi j z)
          exact ⟨by rw [t5.rh j ji, wipeD_ne jv]; exact hj, by rw [t5.sg j ji, wipe_ne jv]⟩
        · cases r : f5.F p with
          | none => rfl
          | some u =>
            rcases S5.fr p u r with ⟨o', e'⟩ | e'
            · have z := S.fs.free (H := f.F) (l := p)
              have k0 : f1.F p = none := S1.fs.free hp
              have k1 : b.F0 p = none := S1.f0.free k0
              rw [k1] at e'; cases e'
            · have e2 : upd b.B p (.lst ws) p = none := e'
              rw [upd_same] at e2; cases e2
        · obtain ⟨_, k2, _⟩ := S5.pt p z
          have e2 : upd b.B p (.lst ws) p = none := k2
          rw [upd_same] at e2; cases e2
      refine ⟨_, ⟨F2, f'.P⟩, _, d, _, SG, dp, turn i d acc e w, fun ρ3 σ3 f3 H3 r3 S3 n3 t3 => ⟨wipe_eq t3.len t3.sg hi, ?_⟩⟩
      refine ⟨_, f3, ρ3, _, S3, r3, fun c ρ4 f4 H4 ⟨e4, r4⟩ S4 n4 => ?_⟩
      subst e4
      have n34 : Nx ⟨F2, f'.P⟩ H2 f4 H4 := n3.trans SG.pots n4
      cases c with
      | false =>
        rw [if_neg Bool.false_ne_true] at r4 ⊢
        obtain ⟨k1, k2, k3, k4⟩ := fin f4 ρ4 σ3 H4 S4 n34 t3
        exact ⟨f4, acc, k2, n2.trans S1.pots n34, r4, by omega, ⟨k3, O.nb, k4, O.no, ws, k1, dpa_mono (g.ff.trans n34.ff) _ _ hw2⟩⟩
      | true =>
        rw [if_pos rfl] at r4 ⊢
        refine ⟨_, f4, ρ4, _, S4, r4, fun y5 ρ5 v5 f5 H5 ⟨e5, w5⟩ S5 n5 dp5 => ?_⟩
        subst e5
        have n35 : Nx ⟨F2, f'.P⟩ H2 f5 H5 := n34.trans S2.pots n5
        obtain ⟨k1, k2, k3, k4⟩ := fin f5 ρ5 σ3 H5 S5 n35 t3
        have hws : DpAll X.K f5.F ws acc := dpa_mono (g.ff.trans n35.ff) _ _ hw2
        refine ⟨ws, k1, by rw [dpa_len hw2]; omega, f5, acc ++ [y5], ?_⟩
        obtain ⟨P1, P2⟩ := Own.put k2 (.inr ⟨_, k1⟩) k3 O.nb k4 O.no (dpa_app hws (.cons dp5 .nil))
        have nn : Nx f1 H1 f5 H5 := n2.trans S1.pots n35
        refine ⟨P1, ⟨nn.ff, fun a o e1 e2 => ?_, nn.pp, nn.pn⟩, w5, by rw [List.length_append]; simp; omega, P2⟩
        rw [upd_ne (ne_of_none e1 hp)]
        exact nn.kp a o e1 e2
    · have e : i = ds.length := by omega
      subst e
      refine .inl ⟨J1.stop f' H' n' S'.fs, ?_⟩
      exact q acc ρ1 p f' H' (done acc w) S' (n1.trans S.pots n') O⟩
theorem dl_lc (h : PE X e (tLc (liftIB X.K Tr) (liftG X.K is G) (liftT X.K Tt) (lift X.K Te) vs)) (hi : ∀ i ∈ is, i ∈ vs) : DLs X e (lLc vs Tr G Tt Te) := PE.weak h (lc_weak X hi)
theorem ds_setLc {st : Stmt} {i : Nat} (h : PS X st (tAsg (tLc (liftIB X.K Tr) (liftG X.K is G) (liftT X.K Tt) (lift X.K Te) vs) (gName i))) (hi : ∀ i ∈ is, i ∈ vs) : DSt X st (sSetL i (lLc vs Tr G Tt Te)) :=
  PS.weak h fun D σ H ⟨b, f, ρ, E, S, t, k⟩ => lc_weak X hi _ _ _ ⟨b, f, ρ, _, S, t, fun ds ρ' p f' H' r S' n O => k.nx _ _ f' H' r (S'.setOwn O)⟩
end
end DL
namespace DL
open PySem PySem.Spec PyProof.Rows L2
variable [Tbs]
/-! ### the defs -/
def dstart (ds : List D) (n : Nat) : DS := ds.map Sl.fz ++ List.replicate (n - ds.length) Sl.no
def pstart (ds : List D) (n : Nat) : DS := Sl.pot :: dstart ds (n - 1)
theorem start_cons (x : Str) (N : List Str) (v : V) (vs : List V) : L2.start (x :: N) (v :: vs) = some v :: L2.start N vs := by
  unfold L2.start
  rw [List.map_cons, List.cons_append, List.length_cons, List.length_cons, Nat.add_sub_add_right]
theorem dstart_sl {K : PySem.W.Frag} {b : Bs} {f : Fz} {H : Hp} {N : List Str} : ∀ {vs : List V} {ds : List D} (h : DpAll K f.F vs ds) (i : Nat) (s : Sl), (ds.map Sl.fz ++ List.replicate (N.length - ds.length) Sl.no)[i]? = some s → SlOk K b f H s ((vs.map some ++ List.replicate (N.length - vs.length) none)[i]?) := by
  intro vs ds h i s e
  have el := dpa_len h
  by_cases hi : i < ds.length
  · rw [List.getElem?_append_left (by rw [List.length_map]; exact hi), List.getElem?_map] at e
    rw [List.getElem?_append_left (by rw [List.length_map]; omega), List.getElem?_map]
    cases hd : ds[i]? with
    | none => rw [hd] at e; cases e
    | some d =>
      rw [hd] at e
      have e' := Option.some.inj e
      subst e'
      obtain ⟨v, hv, dp⟩ := dpa_getD h hd
      rw [hv]
      exact ⟨v, rfl, dp⟩
  · rw [List.getElem?_append_right (by rw [List.length_map]; omega), List.getElem?_replicate] at e
    split at e
    · have e' := Option.some.inj e
      subst e'
      exact True.intro
    · cases e
theorem dstart_no {ds : List D} {n i : Nat} {s : Sl} (e : (ds.map Sl.fz ++ List.replicate n Sl.no)[i]? = some s) : isOwn s = false := by
  rcases List.mem_append.mp (List.mem_of_getElem? e) with h | h
  · obtain ⟨d, _, rfl⟩ := List.mem_map.mp h
    rfl
  · rw [(List.mem_replicate.mp h).2]
    rfl
theorem Sim.begin {K : PySem.W.Frag} {F H : Hp} {N : List Str} {vs : List V} {ds : List D} (ht : Tf F H) (hs : Same F H) (h : DpAll K F vs ds) (hl : vs.length ≤ N.length) : Sim K ⟨H, F, []⟩ ⟨F, []⟩ (dstart ds N.length) (L2.start N vs) H where
  len := by
    unfold dstart L2.start
    rw [List.length_append, List.length_append, List.length_map, List.length_map, List.length_replicate, List.length_replicate, dpa_len h]
  bs := Kp.refl _
  fs := hs
  f0 := Same.refl _
  fr := fun a o e => .inl ⟨o, e⟩
  p0 := fun p h => nomatch h
  pt := fun p h => nomatch h
  sl := fun i s e => dstart_sl (b := ⟨H, F, []⟩) (f := ⟨F, []⟩) h i s e
  sep := fun i j s t p hi hj hs ht _ _ => by rw [dstart_no hi] at hs; cases hs
  tb := ht
theorem Sim.gr {K : PySem.W.Frag} {F H H' : Hp} {f : Fz} {ρ : DS} {σ : L2.St} (S : Sim K ⟨H, F, []⟩ f ρ σ H') : Gr F H f.F H' := ⟨S.bs, S.f0, S.fs, S.fr, fun _ => S.tb⟩
/-- a new list is frozen as it leaves -/
theorem Own.froze {K : PySem.W.Frag} {F H H' : Hp} {f : Fz} {ρ : DS} {σ : L2.St} {p : Addr} {ds : List D} (S : Sim K ⟨H, F, []⟩ f ρ σ H') (O : Own K ⟨H, F, []⟩ f ρ σ H' p ds) : ∃ F', Gr F H F' H' ∧ Dp K F' (.ref p) (.list ds) := by
  obtain ⟨vs, h1, h2⟩ := O.at_
  have ff : Same f.F (upd f.F p (.lst vs)) := same_new O.nf
  refine ⟨upd f.F p (.lst vs), ⟨S.bs, S.f0.trans ff, fun a o e => ?_, fun a o e => ?_, fun _ => S.tb.frz lst_ntbl⟩, .lst (.inl (.inl upd_same)) (dpa_mono ff ds vs h2)⟩
  · by_cases z : a = p
    · subst z; rw [upd_same] at e; rw [h1]; exact e
    · rw [upd_ne z] at e; exact S.fs a o e
  · by_cases z : a = p
    · subst z; exact .inr O.nb
    · rw [upd_ne z] at e; exact S.fr a o e
def endsD (R : D → Prop) : DEnds := { nx := fun _ => R .none, rt := fun d _ => R d, rl := fun ds _ => R (.list ds) }
section
variable {P : Program} {w : World} {K : PySem.W.Frag} {mg : Str → Option Value} {base : Heap} {x qual : Str} {st : Stmt} {f : Addr} {fd : FuncData} {N ps : List Str} {k : Nat} {c : Con} {T : TDS}
abbrev Body (P : Program) (w : World) (K : PySem.W.Frag) (mg : Str → Option Value) (base : Heap) (N : List Str) (qual : Str) (st : Stmt) (f : Addr) (k : Nat) (T : TDS) : Prop :=
  ∀ (cdv : Value) (A : Around) (outer : List Env) (s : Shared) (H : Hp) (E : XK), Room k (A.deeper (envOfC qual (defScope st) s.heap.objs.size f cdv)) → DSs (cxOf CX0 P w K mg base N qual (defScope st) f cdv A outer s H E).nox (defBody st) T
theorem ok_D (F : Fun K x qual st f fd) (S : FnScope N ps (defScope st)) (hN : ps.length ≤ N.length) (hl : ∀ ds R, c ds R → ds.length = ps.length) (hb : Body P w K mg base N qual st f k T)
    (hq : ∀ ds R, c ds R → T (endsD R) (dstart ds N.length)) : FnOk P w K mg base CX0 (k + 1) f fd ps (spD K c) := by
  refine F.ok S (fun vs H Q E ⟨F0, ds, R, _, _, h, hc, _⟩ => by rw [dpa_len h]; exact hl ds R hc) (fun cdv A outer s H vs Q E hr ⟨F0, ds, R, ht, hs, h, hc, q⟩ => ?_)
  refine ⟨_, hb cdv A outer s H E hr, ⟨H, F0, []⟩, ⟨F0, []⟩, _, endsD R, Sim.begin ht hs h (by rw [dpa_len h, hl ds R hc]; exact hN), hq ds R hc, ⟨?_, ?_, ?_, ?_, ?_⟩⟩
  · exact fun ρ σ f' H' r S' => q .none .non f'.F H' r S'.gr .non
  · exact fun d ρ v σ f' H' r S' dp => q d v f'.F H' r S'.gr dp
  · exact fun _ _ _ _ r _ => r.elim
  · exact fun _ _ _ _ r _ => r.elim
  · intro es ρ p σ f' H' r S' O
    obtain ⟨F', g, dp⟩ := O.froze S'
    exact q _ _ F' H' r g dp
/-! ### a def with a pot, then data -/
theorem Sim.beginP {K : PySem.W.Frag} {F H : Hp} {x : Str} {N : List Str} {p : Addr} {vs : List V} {ds : List D} (ht : Tf F H) (hp : F p = none) (pt : PotAt H p) (hs : Same F H) (h : DpAll K F vs ds) (hl : vs.length ≤ N.length) : Sim K ⟨fun a => if a = p then none else H a, F, [p]⟩ ⟨F, [p]⟩ (pstart ds (x :: N).length) (L2.start (x :: N) (.ref p :: vs)) H := by
  have B := Sim.begin (N := N) ht hs h hl
  rw [start_cons]
  refine ⟨congrArg (· + 1) B.len, fun a o e => ?_, hs, Same.refl _, fun a o e => .inl ⟨o, e⟩, fun q hq => hq, fun q hq => ?_, fun i s e => ?_, fun i j s t q hi hj h1 h2 _ _ => ?_, ht⟩
  · have e' : (if a = p then Option.none else H a) = some o := e
    split at e'
    · cases e'
    · exact .inl e'
  · have z := List.mem_singleton.mp hq
    subst z
    exact ⟨hp, if_pos rfl, pt⟩
  · cases i with
    | zero =>
      have e' := Option.some.inj e
      subst e'
      exact ⟨p, rfl, List.mem_singleton.mpr rfl⟩
    | succ i =>
      have e' : (dstart ds N.length)[i]? = some s := e
      have k0 := B.sl i s e'
      have ks := dstart_no e'
      show SlOk K _ _ H s ((L2.start N vs)[i]?)
      cases s with
      | no => exact True.intro
      | fz d => exact k0
      | own _ => cases ks
      | pot =>
        obtain ⟨_, _, z⟩ := k0
        cases z
  · cases i with
    | zero =>
      have e' := Option.some.inj hi
      subst e'
      cases h1
    | succ i =>
      have e' : (dstart ds N.length)[i]? = some s := hi
      rw [dstart_no e'] at h1
      cases h1
theorem ok_P {y : Str} {M : List Str} (F : Fun K x qual st f fd) (S : FnScope (y :: M) ps (defScope st)) (hN : ps.length ≤ M.length + 1) (hl : ∀ ds R, c ds R → ds.length + 1 = ps.length) (hb : Body P w K mg base (y :: M) qual st f k T)
    (hq : ∀ ds R, c ds R → T { nx := fun _ => R .none, rt := fun d _ => R d } (pstart ds (y :: M).length)) : FnOk P w K mg base CX0 (k + 1) f fd ps (spP K c) := by
  refine F.ok S (fun vs H Q E ⟨p, vs', F0, ds, R, e, _, _, _, _, h, hc, _⟩ => by rw [e, List.length_cons, dpa_len h]; exact hl ds R hc) (fun cdv A outer s H vs Q E hr ⟨p, vs', F0, ds, R, e, ht, hp, pt, hs, h, hc, q⟩ => ?_)
  subst e
  have hlen : vs'.length ≤ M.length := by
    have := hl ds R hc
    rw [dpa_len h]
    omega
  have fin : ∀ (ρ : DS) (σ : L2.St) (f' : Fz) (H' : Hp), Sim K ⟨fun a => if a = p then none else H a, F0, [p]⟩ f' ρ σ H' → GrP p F0 H f'.F H' := fun ρ σ f' H' S' => by
    obtain ⟨k1, _, k3⟩ := S'.pt p (S'.p0 p (List.mem_singleton.mpr rfl))
    refine ⟨fun a o z e => S'.bs a o (by show (if a = p then Option.none else H a) = some o; rw [if_neg z]; exact e), k3, S'.f0, S'.fs, fun a o e => ?_, fun _ => S'.tb⟩
    rcases S'.fr a o e with r | r
    · exact .inl r
    · have r' : (if a = p then Option.none else H a) = Option.none := r
      split at r'
      · rename_i z
        rw [z, k1] at e
        cases e
      · exact .inr r'
  refine ⟨_, hb cdv A outer s H E hr, ⟨fun a => if a = p then none else H a, F0, [p]⟩, ⟨F0, [p]⟩, _, _, Sim.beginP ht hp pt hs h hlen, hq ds R hc, ⟨?_, ?_, ?_, ?_, ?_⟩⟩
  · exact fun ρ σ f' H' r S' => q .none .non f'.F H' r (fin ρ σ f' H' S') .non
  · exact fun d ρ v σ f' H' r S' dp => q d v f'.F H' r (fin ρ σ f' H' S') dp
  · exact fun _ _ _ _ r _ => r.elim
  · exact fun _ _ _ _ r _ => r.elim
  · exact fun _ _ _ _ _ _ r _ _ => r.elim
/-! ### a def that gives a new list -/
def spL (K : PySem.W.Frag) (c : List D → (List D → Prop) → Prop) : Sp := fun vs H Q _ => ∃ F ds R, Tf F H ∧ Same F H ∧ DpAll K F vs ds ∧ c ds R ∧ ∀ es p F' H', R es → Gr F H F' H' → H p = none → F' p = none → (∃ ws, H' p = some (.lst ws) ∧ DpAll K F' ws es) → Q (.ref p) H'
theorem ok_L {c : List D → (List D → Prop) → Prop} (F : Fun K x qual st f fd) (S : FnScope N ps (defScope st)) (hN : ps.length ≤ N.length) (hl : ∀ ds R, c ds R → ds.length = ps.length) (hb : Body P w K mg base N qual st f k T)
    (hq : ∀ ds R, c ds R → T { nx := fun _ => False, rt := fun _ _ => False, rl := fun es _ => R es } (dstart ds N.length)) : FnOk P w K mg base CX0 (k + 1) f fd ps (spL K c) := by
  refine F.ok S (fun vs H Q E ⟨F0, ds, R, _, _, h, hc, _⟩ => by rw [dpa_len h]; exact hl ds R hc) (fun cdv A outer s H vs Q E hr ⟨F0, ds, R, ht, hs, h, hc, q⟩ => ?_)
  refine ⟨_, hb cdv A outer s H E hr, ⟨H, F0, []⟩, ⟨F0, []⟩, _, _, Sim.begin ht hs h (by rw [dpa_len h, hl ds R hc]; exact hN), hq ds R hc, ⟨?_, ?_, ?_, ?_, ?_⟩⟩
  · exact fun _ _ _ _ r _ => r.elim
  · exact fun _ _ _ _ _ _ r _ _ => r.elim
  · exact fun _ _ _ _ r _ => r.elim
  · exact fun _ _ _ _ r _ => r.elim
  · exact fun es ρ p σ f' H' r S' O => q es p f'.F H' r S'.gr O.nb O.nf O.at_
end
section
variable {X : Cx} {e : Expr} {Tr : TDA}
def lFn (c : List D → (List D → Prop) → Prop) (T : TDA) : TDA := fun ρ R => T ρ fun ds ρ' => c ds fun es => R es ρ'
theorem dl_fn {k : List D → (List D → Prop) → Prop} {E : XK} (h : PE X e (tCall (spL X.K k) [] E (liftA X.K Tr))) : DLs X e (lFn k Tr) := PE.weak h fun σ H Q ⟨b, f, ρ, R, S, t, q⟩ =>
  ⟨b, f, ρ, _, S, t, fun ds ρ' vs f' H' r S' n dps => ⟨f'.F, ds, _, S'.tb, S'.fs, by rw [List.append_nil]; exact dps, r, fun es p F2 H2 r2 g g1 g2 g3 => by
    refine q es ρ' p ⟨F2, f'.P⟩ H2 r2 (S'.grow g) (n.trans S.pots (Nx.of_gr g)) ⟨g2, S'.bs.free g1, fun z => ?_, fun i s e ho z => ?_, g3⟩
    · obtain ⟨o, z'⟩ := S'.pots p z
      rw [g1] at z'; cases z'
    · cases s with
      | own es' =>
        obtain ⟨p', vs', e1, _, _, _, e4, _⟩ := S'.sl i _ e
        rw [z] at e1
        have ep := V.ref.inj (Option.some.inj (Option.some.inj e1))
        rw [← ep, g1] at e4
        cases e4
      | no => cases ho
      | fz _ => cases ho
      | pot => cases ho⟩⟩
end
end DL
namespace DL
open PySem PySem.Spec PyProof.Rows L2
variable [Tbs]
/-! ### the pot of a law: numbers drawn -/
def rIntC : List V → Hp → VK → Prop := fun xs H Q => (∃ i, xs = [.int i] ∧ Q (.int i) H) ∨ ∃ k, xs = [.bl k] ∧ Q (.int (if k then 1 else 0)) H
def rDivC : List V → Hp → VK → Prop := fun xs H Q => ∃ i j, xs = [.int i, .int j] ∧ CDiv i j ∧ ∀ p, H p = none → Q (.ref p) (upd H p (.tup [.int (i / j), .int (i % j)]))
def tCell (K : PySem.W.Frag) (i : Int) : TE := tOp (rIxL K) (tVar 0) (tC (.int i))
def tDraw (K : PySem.W.Frag) : TS := tSeq (tIfS (tTest (tOp (rI0 fun i j => .bl (decide (j < i))) (tCell K 0) (tC (.int 0))))
    (tSeq (tAsg (tCB rDivC (tCons (tCell K 0) (tCons (tVar 1) tNil))) (gTup K 2 (gCons (gSub (tVar 0) (tC (.int 0)) rSetL) (gCons (gName 2) gNil)))) (tRet (tVar 2))) tNext)
  (tSeq (tAsg (tOp (rI (fun _ j => 0 < j) fun i j => .int (i % j)) (tCB rIntC (tCons (tOp (rI0 fun i j => .int (i + j)) (tOp (rI CMul fun i j => .int (i * j)) (tCell K 1) (tC (.int 39373))) (tC (.int 12227))) tNil)) (tC (.int 2147483629))) (gSub (tVar 0) (tC (.int 1)) rSetL))
    (tRet (tOp (rI (fun _ j => 0 < j) fun i j => .int (i % j)) (tCB rIntC (tCons (tOp (rI CDiv fun i j => .int (i / j)) (tOp (rI (fun _ j => 0 < j) fun i j => .int (i % j)) (tCB rIntC (tCons (tOp (rI CMul fun i j => .int (i * j)) (tCell K 1) (tCell K 1)) tNil)) (tC (.int 2147483563))) (tC (.int 13))) tNil)) (tVar 1))))
def cDraw : Con := fun ds R => ∃ m : Int, ds = [.int m] ∧ 0 < m ∧ m < 1073741824 ∧ ∀ r : Int, 0 ≤ r → r < m → R (.int r)
theorem at0 (x y : V) : atI [x, y] 0 = some x := rfl
theorem at1 (x y : V) : atI [x, y] 1 = some y := rfl
theorem draw_math {K : PySem.W.Frag} {p : Addr} {H : Hp} {Q : VK} {m : Int} {N : List Str} (hN : N.length = 3) (pt : PotAt H p) (h0 : 0 < m) (h1 : m < 1073741824)
    (q : ∀ (r : Int) (H' : Hp), 0 ≤ r → r < m → (∀ a o, a ≠ p → H a = some o → H' a = some o) → PotAt H' p → Q (.int r) H') : tDraw K { nx := fun _ H' => Q .non H', rt := Q } (L2.start N [.ref p, .int m]) H := by
  have es : L2.start N [.ref p, .int m] = [some (.ref p), some (.int m), none] := by
    unfold L2.start
    rw [hN]
    rfl
  rw [es]
  obtain ⟨a, b, hp, ha, hb, hb2⟩ := pt
  have hq : SqL K H p [.int a, .int b] := .inl (.inl hp)
  refine ⟨.ref p, rfl, p, _, 0, _, rfl, rfl, hq, at0 _ _, a, 0, rfl, rfl, _, rfl, ite2 (fun hc => ?_) (fun hc => ?_)⟩
  · have hpos : 0 < a := of_decide_eq_true hc
    refine ⟨.ref p, rfl, p, _, 0, _, rfl, rfl, hq, at0 _ _, .int m, rfl, a, m, rfl, ⟨h0, h1⟩, fun t ht => ?_⟩
    refine ⟨t, _, rfl, .inl (.inl upd_same), rfl, .int (a / m), [.int (a % m)], rfl, .ref p, rfl, p, [.int a, .int b], 0, 0, rfl, rfl, ?_, rfl, .int (a % m), [], rfl, rfl, .int (a % m), rfl, ?_⟩
    · rw [upd_ne (ne_of_none hp ht)]; exact hp
    · refine q _ _ (Int.emod_nonneg a (by omega)) (Int.emod_lt_of_pos a h0) (fun x o nx e => ?_) ⟨a / m, b, upd_same, Int.ediv_nonneg ha (by omega), hb, hb2⟩
      rw [upd_ne nx, upd_ne (ne_of_none e ht)]
      exact e
  · refine ⟨.ref p, rfl, p, _, 1, _, rfl, rfl, hq, at1 _ _, b, 39373, rfl, rfl, .inl ⟨by omega, by omega⟩, b * 39373, 12227, rfl, rfl, .inl ⟨_, rfl, _, _, rfl, rfl, (show (0 : Int) < 2147483629 by decide), ?_⟩⟩
    refine ⟨.ref p, rfl, p, _, 1, 1, rfl, rfl, hp, rfl, ?_⟩
    have g0 : 0 ≤ (b * 39373 + 12227) % 2147483629 := Int.emod_nonneg _ (by decide)
    have g1 : (b * 39373 + 12227) % 2147483629 < 2147483629 := Int.emod_lt_of_pos _ (by decide)
    have hq2 : SqL K (upd H p (.lst [.int a, .int ((b * 39373 + 12227) % 2147483629)])) p [.int a, .int ((b * 39373 + 12227) % 2147483629)] := .inl (.inl upd_same)
    refine ⟨.ref p, rfl, p, _, 1, _, rfl, rfl, hq2, at1 _ _, .ref p, rfl, p, _, 1, _, rfl, rfl, hq2, at1 _ _, _, _, rfl, rfl, .inl ⟨by omega, by omega⟩, .inl ⟨_, rfl, _, _, rfl, rfl, (show (0 : Int) < 2147483563 by decide), _, _, rfl, rfl, ⟨by decide, by decide⟩, .inl ⟨_, rfl, .int m, rfl, _, _, rfl, rfl, h0, ?_⟩⟩⟩
    exact q _ _ (Int.emod_nonneg _ (by omega)) (Int.emod_lt_of_pos _ h0) (fun x o nx e => by rw [upd_ne nx]; exact e) ⟨a, _, upd_same, ha, g0, by omega⟩
def rAbsC : List V → Hp → VK → Prop := fun xs H Q => ∃ i, xs = [.int i] ∧ Q (.int (if i < 0 then -i else i)) H
def rLenC (K : PySem.W.Frag) : List V → Hp → VK → Prop := fun xs H Q => ∃ p ys, xs = [.ref p] ∧ (SqL K H p ys ∨ SqT K H p ys) ∧ Q (.int ys.length) H
def rMaxC : List V → Hp → VK → Prop := fun xs H Q => ∃ i j, xs = [.int i, .int j] ∧ Q (.int (if j > i then j else i)) H
def tPot (K : PySem.W.Frag) : TS := tSeq (tAsg (tIf (tTest (tOp (rI0 fun i j => .bl (decide (i < j))) (tVar 1) (tCB (rLenC K) (tCons (tVar 0) tNil))))
    (tCB rAbsC (tCons (tOp (rIxL K) (tVar 0) (tVar 1)) tNil)) (tOp (rI0 fun i j => .int (i + j)) (tOp (rI CMul fun i j => .int (i * j)) (tC (.int 7)) (tVar 1)) (tC (.int 3)))) (gName 2))
  (tRet (tLst (tCons (tCB rMaxC (tCons (tC (.int 0)) (tCons (tOp (rI0 fun i j => .int (i - j)) (tVar 2) (tOp (rI CPow fun i j => .int (i ^ j.toNat)) (tC (.int 10)) (tC (.int 18)))) tNil)))
    (tCons (tOp (rI (fun _ j => 0 < j) fun i j => .int (i % j)) (tCB rIntC (tCons (tOp (rI0 fun i j => .int (i + j)) (tOp (rI0 fun i j => .int (i + j)) (tOp (rI CMul fun i j => .int (i * j)) (tOp (rI (fun _ j => 0 < j) fun i j => .int (i % j)) (tCB rIntC (tCons (tVar 2) tNil)) (tC (.int 2147483629))) (tC (.int 48271)))
      (tOp (rI CMul fun i j => .int (i * j)) (tC (.int 60029)) (tVar 1))) (tC (.int 31))) tNil)) (tC (.int 2147483647))) tNil))))
def cPot : List D → Prop := fun ds => ∃ (ns : List Int) (k : Int), ds = [.list (ns.map PyData.int), .int k] ∧ 0 ≤ k
theorem dpa_ints {K : PySem.W.Frag} {H : Hp} : ∀ {vs : List V} {ns : List Int}, DpAll K H vs (ns.map PyData.int) → vs = ns.map V.int
  | _, [], h => by cases h; rfl
  | _, n :: ns, h => by
    cases h with
    | cons a t =>
      cases a
      rw [dpa_ints t]
      rfl
theorem ints_dpa {K : PySem.W.Frag} {H : Hp} : ∀ {ns : List Int}, DpAll K H (ns.map V.int) (ns.map PyData.int)
  | [] => .nil
  | n :: ns => .cons (.int n) ints_dpa
theorem pot_math {K : PySem.W.Frag} {a : Addr} {H : Hp} {Q : VK} {ns : List Int} {k : Int} {N : List Str} (hN : N.length = 3) (hS : SqL K H a (ns.map V.int)) (h0 : 0 ≤ k)
    (q : ∀ (p : Addr) (H' : Hp), Same H H' → H p = none → PotAt H' p → Q (.ref p) H') : tPot K { nx := fun _ H' => Q .non H', rt := Q } (L2.start N [.ref a, .int k]) H := by
  have es : L2.start N [.ref a, .int k] = [some (.ref a), some (.int k), none] := by
    unfold L2.start
    rw [hN]
    rfl
  rw [es]
  have fin : ∀ c : Int, (tRet (tLst (tCons (tCB rMaxC (tCons (tC (.int 0)) (tCons (tOp (rI0 fun i j => .int (i - j)) (tVar 2) (tOp (rI CPow fun i j => .int (i ^ j.toNat)) (tC (.int 10)) (tC (.int 18)))) tNil)))
    (tCons (tOp (rI (fun _ j => 0 < j) fun i j => .int (i % j)) (tCB rIntC (tCons (tOp (rI0 fun i j => .int (i + j)) (tOp (rI0 fun i j => .int (i + j)) (tOp (rI CMul fun i j => .int (i * j)) (tOp (rI (fun _ j => 0 < j) fun i j => .int (i % j)) (tCB rIntC (tCons (tVar 2) tNil)) (tC (.int 2147483629))) (tC (.int 48271)))
      (tOp (rI CMul fun i j => .int (i * j)) (tC (.int 60029)) (tVar 1))) (tC (.int 31))) tNil)) (tC (.int 2147483647))) tNil)))) { nx := fun _ H' => Q .non H', rt := Q } [some (.ref a), some (.int k), some (.int c)] H := fun c => by
    refine ⟨.int c, rfl, 10, 18, rfl, rfl, ⟨by decide, by decide, by decide⟩, c, _, rfl, rfl, 0, _, rfl, ?_⟩
    refine ⟨_, rfl, .inl ⟨c, rfl, c, _, rfl, rfl, (show (0 : Int) < 2147483629 by decide), _, _, rfl, rfl, .inr ⟨by decide, by decide⟩, .int k, rfl, _, _, rfl, rfl, .inl ⟨by decide, by decide⟩, _, _, rfl, rfl, _, _, rfl, rfl, .inl ⟨_, rfl, _, _, rfl, rfl, (show (0 : Int) < 2147483647 by decide), ?_⟩⟩⟩
    refine ⟨by simp only [List.length_cons, List.length_nil]; rw [sizeLine_eq]; decide, fun p hp => ?_⟩
    exact q p _ (same_new hp) hp ⟨_, _, upd_same, by split <;> omega, Int.emod_nonneg _ (by decide), Int.emod_lt_of_pos _ (by decide)⟩
  refine ⟨.int k, rfl, .ref a, rfl, a, _, rfl, .inl hS, k, _, rfl, rfl, _, rfl, ite2 (fun hc => ?_) (fun hc => ?_)⟩
  · have hlt : k < (ns.map V.int).length := of_decide_eq_true hc
    obtain ⟨j, rfl⟩ : ∃ j : Nat, k = j := ⟨k.toNat, by omega⟩
    obtain ⟨n, hn⟩ : ∃ n, ns[j]? = some n := ⟨_, List.getElem?_eq_getElem (by rw [List.length_map] at hlt; omega)⟩
    refine ⟨.ref a, rfl, .int j, rfl, a, _, j, .int n, rfl, rfl, hS, atI_nat (by rw [List.getElem?_map, hn]; rfl), n, rfl, ?_⟩
    exact fin _
  · exact ⟨.int k, rfl, 7, k, rfl, rfl, .inl ⟨by decide, by decide⟩, _, 3, rfl, rfl, fin _⟩
theorem Tab.potw {p : Addr} {H H' : Hp} (t : Tab H) (pt : PotAt H p) (hh : ∀ a o, a ≠ p → H a = some o → H' a = some o) : Tab H' := fun q hq => by
  obtain ⟨a, b, e, _⟩ := pt
  obtain ⟨ps, h1, h2, h3⟩ := t q hq
  refine ⟨ps, hh _ _ (fun z => ?_) h1, h2, fun pos cv hc => ?_⟩
  · rw [z, e] at h1; cases h1
  · obtain ⟨c, e1, e2⟩ := h3 pos cv hc
    refine ⟨c, e1, hh _ _ (fun z => ?_) e2⟩
    rw [z, e] at e2
    have z2 := Option.some.inj e2
    unfold LamX.CodeO at z2
    cases z2
section
variable {P : Program} {w : World} {K : PySem.W.Frag} {mg : Str → Option Value} {base : Heap} {x qual : Str} {st : Stmt} {f : Addr} {fd : FuncData} {N ps : List Str} {k : Nat}
abbrev BodyH (P : Program) (w : World) (K : PySem.W.Frag) (mg : Str → Option Value) (base : Heap) (N : List Str) (qual : Str) (st : Stmt) (f : Addr) (k : Nat) (T : TS) : Prop :=
  ∀ (cdv : Value) (A : Around) (outer : List Env) (s : Shared) (H : Hp) (E : XK), Room k (A.deeper (envOfC qual (defScope st) s.heap.objs.size f cdv)) → PSs (cxOf CX0 P w K mg base N qual (defScope st) f cdv A outer s H E).nox (defBody st) T
theorem ok_draw (F : Fun K x qual st f fd) (S : FnScope N ps (defScope st)) (hN : N.length = 3) (hp : ps.length = 2) (hb : BodyH P w K mg base N qual st f k (tDraw K)) : FnOk P w K mg base CX0 (k + 1) f fd ps (spP K cDraw) := by
  refine F.ok S (fun vs H Q E ⟨p, vs', F0, ds, R, e, _, _, _, _, h, ⟨m, hm, _⟩, _⟩ => by rw [e, List.length_cons, dpa_len h, hm, hp]; rfl) (fun cdv A outer s H vs Q E hr ⟨p, vs', F0, ds, R, e, ht, hpn, pt, hs, h, ⟨m, hm, m0, m1, mr⟩, q⟩ => ?_)
  subst e
  subst hm
  cases h with
  | cons d1 d2 =>
    cases d2
    cases d1
    refine ⟨_, hb cdv A outer s H E hr, draw_math hN pt m0 m1 fun r H' r0 r1 hh hpt => ?_⟩
    refine q (.int r) (.int r) F0 H' (mr r r0 r1) ⟨fun a o n e => .inl (hh a o n e), hpt, Same.refl _, fun a o e => hh a o (fun z => ?_) (hs a o e), fun a o e => .inl ⟨o, e⟩, fun t => ⟨t.t.potw pt hh, t.n⟩⟩ (.int r)
    rw [z, hpn] at e
    cases e
theorem ok_pot (F : Fun K x qual st f fd) (S : FnScope N ps (defScope st)) (hN : N.length = 3) (hp : ps.length = 2) (hb : BodyH P w K mg base N qual st f k (tPot K)) : FnOk P w K mg base CX0 (k + 1) f fd ps (spNewP K cPot) := by
  refine F.ok S (fun vs H Q E ⟨F0, ds, hs, h, ⟨ns, k, hm, _⟩, _⟩ => by rw [dpa_len h, hm, hp]; rfl) (fun cdv A outer s H vs Q E hr ⟨F0, ds, hs, h, ⟨ns, k, hm, k0⟩, q⟩ => ?_)
  subst hm
  cases h with
  | cons d1 d2 =>
    cases d2 with
    | cons d2 d3 =>
      cases d3
      cases d2
      cases d1 with
      | lst hl ha =>
        rw [dpa_ints ha] at hl
        exact ⟨_, hb cdv A outer s H E hr, pot_math hN (hs.seq hl) k0 q⟩
end
end DL
namespace DL
open PySem PySem.Spec PyProof.Rows L2 LamX NdefX
variable [Tbs]
/-! ### lambdas as known objects -/
/-- its words (the body apart), what it captured, its code object -/
abbrev lamNF (qual : Str) (params : Arguments) (scope : Scope) (cl : List (Str × Addr)) (c : Addr) : NF := ⟨"<lambda>", qual, params, [], scope, cl, c⟩
def LmO (f : Addr) (F : NF) (body : Expr) : HO := .ext fun h => ∃ (od : Option Addr) (sl : Array (Option Value)) (pm ctv : Value), h.get? f = some (⟨.type "function", od, .func (PySem.W.kla_fn "<lambda>" F.qual F.params body F.scope F.cl pm (.ref F.c) ctv), sl⟩ : Obj)
theorem lmO_ne {f : Addr} {F : NF} {e : Expr} (ps : Array Value) : LmO f F e ≠ .tbl ps := fun z => by
  unfold LmO at z
  cases z
theorem lmO_at {P : Program} {w : World} {H : Hp} {h : Heap} {f : Addr} {F : NF} {e : Expr} (hok : HOk P w H h) (q : H f = some (LmO f F e)) : ∃ (od : Option Addr) (sl : Array (Option Value)) (pm ctv : Value), h.get? f = some (⟨.type "function", od, .func (PySem.W.kla_fn "<lambda>" F.qual F.params e F.scope F.cl pm (.ref F.c) ctv), sl⟩ : Obj) := by
  obtain ⟨z, _, _⟩ := hok f _ q
  exact z
section
variable {X : Cx} {pins : List (Addr × Obj)} {σ : L2.St} {H : Hp} {s : Shared}
theorem inv_lm {F : NF} {e : Expr} {o : Obj} {t' : Nat} {pm ctv : Value} (I : Inv X pins σ H s) (ho : o = PySem.W.kla_obj "<lambda>" F.qual F.params e F.scope F.cl pm F.c ctv) :
    Inv X pins σ (upd H s.heap.objs.size (LmO s.heap.objs.size F e)) { s with heap := s.heap.push o, toks := t' } := by
  subst ho
  refine I.laid (a := s.heap.objs.size) (fun b u e => Heap.get?_push_of_some _ e) (Nat.le_refl _) ?_
  have q : (s.heap.push (PySem.W.kla_obj "<lambda>" F.qual F.params e F.scope F.cl pm F.c ctv)).get? s.heap.objs.size = some (PySem.W.kla_obj "<lambda>" F.qual F.params e F.scope F.cl pm F.c ctv) := Heap.get?_push_size _ rfl
  exact ⟨⟨_, _, pm, ctv, q⟩, ⟨_, q⟩, fun h1 h2 ⟨od, sl, p, t, z⟩ st => ⟨od, sl, p, t, st _ z⟩⟩
/-- what has been made: the function at f, its code object, the tables as they should be -/
theorem lm_make {nm : Nat → Nat → Str} {c P : Addr} {params : Arguments} {body : Expr} {scope : Scope} {pos : Pos} {E : Value → Shared → Prop} {Q : Value → Shared → Prop} (I : Inv X pins σ H s) (TB : TabB X.base X.mg c P) (hcode : X.env.code = .ref c)
    (hm : (P, nm) ∈ Tbs.T) (hn : nm pos.line pos.col = X.env.qual ++ "<lambda>") (hu : ∀ p ∈ Tbs.T, p.1 = P → p.2 = nm) (hT : Tab H) (hdef : defaultsOf params X.env = ([], [])) (hfree : ∀ y ∈ scope.names, y.2 = .free → ∃ c, X.env.cells.lookup y.1 = some c)
    (h : ∀ (f c' : Addr) (H1 : Hp) (s' : Shared), Inv X pins σ H1 s' → Kp H H1 → Tab H1 → H f = none → H1 f = some (LmO f (lamNF (X.env.qual ++ "<lambda>") params scope (cloFrom X.env.cells scope.names []) c') body) → H1 c' = some (CodeO c' (X.env.qual ++ "<lambda>")) → Q (.ref f) s') :
    wpAny (model X.prog X.w) X.A (eval (.Lambda params body scope pos) X.env) Q E s := by
  obtain ⟨tab, tq, ht, hal⟩ := (show TabN H P nm from hT _ hm)
  refine PySem.W.kla_eval hdef ?_
  have bp : s.heap.BuiltinsAt X.mg P := TB.bm.keeps I.bk
  have tq2 : s.heap.get? P = some { cls := .none, data := .fields tab } := I.hok P _ tq
  cases hc : codeAmong pos tab.toList with
  | none =>
    refine PySem.W.kla_makeFunction (mg := X.mg) (c := c) (P := P) (ps := tab) (closure_ok hfree) I.ok.glob (I.mod.glob.keeps I.bk) hcode (TB.code.keeps I.bk) tq2 ht hc TB.gP bp fun c' ctv h' tk hx1 ge1 lt1 rc1 tb1 => ?_
    obtain ⟨cc, oc, vs, t, q2, ho1, hd1, hv1⟩ := rc1
    cases q2
    have nc : H c' = none := I.hok.fresh ge1
    have J1 := inv_table (t' := tk) (more := #[rawInt pos.line, rawInt pos.col, .ref c']) (h' := h') I tq (fun b o hb1 e => hx1 b o hb1 e) tb1 ge1 ⟨oc, vs, t, ho1, hd1, hv1⟩
    have hE : Kp H (upd (upd H P (.tbl (tab ++ #[rawInt pos.line, rawInt pos.col, .ref c']))) c' (CodeO c' (X.env.qual ++ "<lambda>"))) := fun b o e => by
      rw [upd_ne (ne_of_none e nc)]
      by_cases z : b = P
      · rw [z, tq] at e
        rw [z, upd_same]
        exact .inr ⟨tab, _, (Option.some.inj e).symm, rfl⟩
      · rw [upd_ne z]
        exact .inl e
    have hE2 : ∀ b o, H b = some o → b ≠ P → upd (upd H P (.tbl (tab ++ #[rawInt pos.line, rawInt pos.col, .ref c']))) c' (CodeO c' (X.env.qual ++ "<lambda>")) b = some o := fun b o e n => by
      rw [upd_ne (ne_of_none e nc), upd_ne n]
      exact e
    have ncp : ∀ cx q, H cx = some (CodeO cx q) → cx ≠ P := fun cx q e z => by
      rw [z, tq] at e
      exact codeO_ne tab (Option.some.inj e).symm
    have et : (tab ++ #[rawInt pos.line, rawInt pos.col, .ref c']).toList = tab.toList ++ [rawInt pos.line, rawInt pos.col, .ref c'] := by simp
    have TT : Tab (upd (upd H P (.tbl (tab ++ #[rawInt pos.line, rawInt pos.col, .ref c']))) c' (CodeO c' (X.env.qual ++ "<lambda>"))) := fun p hp => by
      by_cases hb1 : p.1 = P
      · rw [hu p hp hb1, hb1]
        refine ⟨_, by rw [upd_ne (ne_of_none tq nc), upd_same], by rw [et]; exact PySem.TriplesOk_snoc _ _ _ _ ht, fun p' cv qc => ?_⟩
        rw [et] at qc
        rcases among_app2 _ ht qc with z | ⟨z, y1, y2⟩
        · obtain ⟨cx, q1, q2⟩ := hal p' cv z
          exact ⟨cx, q1, hE2 _ _ q2 (ncp _ _ q2)⟩
        · refine ⟨c', z, ?_⟩
          rw [← y1, ← y2, hn]
          exact upd_same
      · obtain ⟨tab2, w1, w2, w3⟩ := hT p hp
        refine ⟨tab2, by rw [upd_ne (ne_of_none w1 nc), upd_ne hb1]; exact w1, w2, fun p' cv qc => ?_⟩
        obtain ⟨cx, q1, q2⟩ := w3 p' cv qc
        exact ⟨cx, q1, hE2 _ _ q2 (ncp _ _ q2)⟩
    have nf := J1.hok.fresh (Nat.le_refl _)
    have J2 := inv_lm (F := lamNF (X.env.qual ++ "<lambda>") params scope (cloFrom X.env.cells scope.names []) c') (e := body) (t' := tk) (pm := (X.mg "__name__").getD .none) (ctv := ctv) J1 rfl
    refine h h'.objs.size c' _ _ J2 (hE.trans (.of fun b o e => ?_)) (TT.ext fun b o e => ?_) (I.hok.fresh (Nat.le_trans ge1 (Nat.le_of_lt lt1))) upd_same ?_
    · exact (upd_ne (ne_of_none e nf)).trans e
    · exact (upd_ne (ne_of_none e nf)).trans e
    · exact (upd_ne (Nat.ne_of_lt lt1)).trans upd_same
  | some cv =>
    obtain ⟨c', e, co1⟩ := hal pos cv hc
    subst e
    rw [hn] at co1
    refine PySem.W.kla_makeFunctionHit (mg := X.mg) (c := c) (P := P) (ps := tab) (closure_ok hfree) I.ok.glob (I.mod.glob.keeps I.bk) hcode (TB.code.keeps I.bk) tq2 ht hc bp fun ctv h' tk hx1 hsz => ?_
    have J1 : Inv X pins σ H { s with heap := h', toks := tk } := I.kept hx1
    have nf : H h'.objs.size = none := J1.hok.fresh (Nat.le_refl _)
    have J2 := inv_lm (F := lamNF (X.env.qual ++ "<lambda>") params scope (cloFrom X.env.cells scope.names []) c') (e := body) (t' := tk) (pm := (X.mg "__name__").getD .none) (ctv := ctv) J1 rfl
    refine h h'.objs.size c' _ _ J2 (.of fun b o e => ?_) (hT.ext fun b o e => ?_) nf upd_same ?_
    · exact (upd_ne (ne_of_none e nf)).trans e
    · exact (upd_ne (ne_of_none e nf)).trans e
    · exact (upd_ne (ne_of_none co1 nf)).trans co1
end
/-! ### what a lambda promises -/
structure LOk (P : Program) (w : World) (K : PySem.W.Frag) (mg : Str → Option Value) (base : Heap) (CX : CXT) (k : Nat) (f : Addr) (F : NF) (e : Expr) (ps fr : List Str) (sp : List (Option V) → Sp) : Prop where
  len : ∀ ws vs H Q E, sp ws vs H Q E → vs.length = ps.length
  run : ∀ (A : Around) (outer : List Env) (s : Shared) (H : Hp) (us : List Value) (vs : List V) (ws : List (Option V)) (Q : VK) (E : XK), Room k A → Env0 P w K mg base A outer s H → H f = some (LmO f F e) → H F.c = some (CodeO F.c F.qual) →
    CellsAt F.cl fr ws s.heap H → Vals vs us → sp ws vs H Q E → codeAny (model P w) A (.call (.ref f) ⟨us, []⟩) (CR CX outer P w H s Q E) s
section
variable {CX : CXT} {P : Program} {w : World} {K : PySem.W.Frag} {mg : Str → Option Value} {base : Heap} {N ps fr : List Str} {F : NF} {e : Expr} {f : Addr} {k j : Nat} {sp sp' : List (Option V) → Sp}
theorem lok_of (S : NScope N ps fr F.scope) (hb : ∀ (pm ctv : Value) (us : List Value), us.length = ps.length → bindArgs (PySem.W.kla_fn "<lambda>" F.qual F.params e F.scope F.cl pm (.ref F.c) ctv) ⟨us, []⟩ = pure (ps.zip us)) (len : ∀ ws vs H Q E, sp ws vs H Q E → vs.length = ps.length)
    (hbody : ∀ (A : Around) (outer : List Env) (s : Shared) (H : Hp) (vs : List V) (ws : List (Option V)) (Q : VK) (E : XK), Room k (A.deeper (envF F f s.heap.objs.size)) → ws.length = fr.length → sp ws vs H Q E →
      ∃ t, PE (ncx CX P w K mg base N F f A outer s H E) e t ∧ t (startF N vs ws) H Q) :
    LOk P w K mg base CX (k + 1) f F e ps fr sp := by
  refine ⟨len, fun A outer s H us vs ws Q E hr env0 hf1 hc1 C r hs1 => ?_⟩
  have hl1 := len _ _ _ _ _ hs1
  have nolim : s.heap.NoLimit := env0.mod.nolimit.keeps fun b o e => (env0.bs b o e).1
  obtain ⟨od, sl, pm, ctv, ho⟩ := lmO_at env0.hok hf1
  refine PySem.W.kla_callFunE hr.depth ho rfl S.co S.gen rfl (codeO_at env0.hok hc1) ?_
  rw [hb pm ctv us (by rw [← r.length]; exact hl1)]
  refine wpAny_pure (wpAny_newFunctionEnv S.nocell (fun ⟨n, _⟩ hy => S.par n (List.of_mem_zip hy).1) (fun h₁ gn gb => ⟨nolim.fresh _ gb, ?_⟩) S.kind)
  show codeAny _ _ (.expr e (envF F f s.heap.objs.size)) _ _
  have kept : ∀ b o, s.heap.get? b = some o → h₁.get? b = some o := fun b o e => gb.extBut b o (Nat.ne_of_lt (Heap.lt_size e)) (Heap.get?_push_of_some _ e)
  obtain ⟨t, ht, hq⟩ := hbody A outer s H vs ws Q E (hr.deeper _) C.len hs1
  have I : Inv (ncx CX P w K mg base N F f A outer s H E) [] (startF N vs ws) H { s with heap := h₁, toks := s.toks + (ps.zip us).length } := inv_startN S hr.hd env0 hl1 r C gn kept
  refine PySem.W.kla_codeExpr (wpAny_mono (ht.run [] _ (startF N vs ws) H Q I hq) (fun u s' hs => ?_) fun e s' hs => hs)
  obtain ⟨v, H', J, rv, q⟩ := hs
  exact ⟨v, H', J.os, J.bare, J.base, J.hok, rv, q⟩
end
section
variable {X : Cx} {CX : CXT} {F : NF} {e : Expr} {ps fr : List Str} {js : List Nat} {k : Nat} {sp : List (Option V) → Sp} {E : XK}
/-- it is called, by whom so ever, while the frame that made it runs -/
theorem run_lm {pins : List (Addr × Obj)} {σ : L2.St} {H : Hp} {s : Shared} {Q : VK} {f : Addr} {us : List Value} {vs : List V} {A : Around} (L : LOk X.prog X.w X.K X.mg X.base CX k f F e ps fr sp) (hr : Room k A) (hA : A.frames = X.A.frames) (hx : Passes CX X E) (I : Inv X pins σ H s)
    (hf1 : H f = some (LmO f F e)) (hc1 : H F.c = some (CodeO F.c F.qual)) (C : CellsAt F.cl fr (js.map (slotAt σ)) s.heap H) (r : Vals vs us) (q : sp (js.map (slotAt σ)) vs H Q E) :
    wpAny (model X.prog X.w) A (call (.ref f) us) (EP X pins σ Q) X.xe s := by
  have env0 := I.env0
  refine wpAny_call (codeAny_mono (L.run A X.stack s H us vs _ Q E hr ⟨hA.trans env0.frames, env0.mod, env0.bs, env0.bsz, env0.funs, env0.frf, env0.hok, env0.bare⟩ hf1 hc1 C r q) fun r s' hq => ?_)
  cases r with
  | error e => exact hx pins σ H s e s' I hq
  | ok fl =>
    cases fl with
    | ret u => exact I.after hq
    | next => exact False.elim hq
    | brk => exact False.elim hq
    | cont => exact False.elim hq
end
end DL
namespace DL
open PySem PySem.SeqAt
open MeetsSeq MeetsSeq2
open MeetsSeq3 SeqRoads2
/-! ### a < b of two tuples: what stands behind the first difference is never asked -/
/-- up to the first false of e -/
def firstB (e r : Nat → Bool) (z : Bool) : Nat → Nat → Bool
  | _, 0 => z
  | i, n + 1 => if e i = true then firstB e r z (i + 1) n else r i
section
theorem tup_lt_lazy (a c : Addr) (us ws : Array Value) (m m2 : Nat) (d1 d2 : Option Addr) (s1 s2 : Array (Option Value)) (e r : Nat → Bool) : Meets (Builtin.«tuple.__lt__» ⟨[.ref a, .ref c], []⟩)
    (fun A R s => s.heap.get? a = some { cls := .type "tuple", dict := d1, data := .seq us m, slots := s1 } ∧ s.heap.get? c = some { cls := .type "tuple", dict := d2, data := .seq ws m2, slots := s2 } ∧
      (∀ j (g1 : j < us.size) (g2 : j < ws.size), (∀ i, i < j → e i = true) → EqAt A.in1 s us[j] ws[j] (e j)) ∧ (∀ j (g1 : j < us.size) (g2 : j < ws.size), (∀ i, i < j → e i = true) → e j = false → RcLt A.in1 s us[j] ws[j] (r j)) ∧
      R (.ok (.ret (.bool (firstB e r (decide (us.size < ws.size)) 0 (min us.size ws.size))))) s) :=
  .of_wp fun prog w A R s h => by
    obtain ⟨hh, gg, dr, tk, os⟩ := s
    obtain ⟨ha, hc, he, hr, h⟩ := h
    have fact := AutoSeq1.sub_tuple_tuple
    have hlen : (us.toList.zip ws.toList).length = min us.size ws.size := by simp
    wp_walk using AutoSeq1.wpAny_loadPart' ha, AutoSeq1.wpAny_loadPart' hc, wpAny_forIn_list _ (fun rest st s' => st.1 = none ∧ s' = ⟨hh, gg, dr, tk, os⟩ ∧ ∃ i, rest = (us.toList.zip ws.toList).drop i ∧ (∀ j, j < i → e j = true) ∧
      R (.ok (.ret (.bool (firstB e r (decide (us.size < ws.size)) i (min us.size ws.size - i))))) ⟨hh, gg, dr, tk, os⟩) _
    case turn =>
      rintro ⟨y, x⟩ rest st s' ⟨hst, rfl, i, hz, hpre, hR⟩
      have hlt : i < (us.toList.zip ws.toList).length := by
        rcases Nat.lt_or_ge i (us.toList.zip ws.toList).length with q | q
        · exact q
        · rw [List.drop_of_length_le q] at hz
          cases hz
      have hmin : i < min us.size ws.size := hlen ▸ hlt
      have g1 : i < us.size := Nat.lt_of_lt_of_le hmin (Nat.min_le_left _ _)
      have g2 : i < ws.size := Nat.lt_of_lt_of_le hmin (Nat.min_le_right _ _)
      rw [List.drop_eq_getElem_cons hlt] at hz
      injection hz with hyx hrest
      have hy : y = us[i] := by
        have q := congrArg Prod.fst hyx
        simpa using q
      have hx : x = ws[i] := by
        have q := congrArg Prod.snd hyx
        simpa using q
      subst hy hx
      have hsub : min us.size ws.size - i = (min us.size ws.size - (i + 1)) + 1 := by omega
      rw [hsub] at hR
      unfold firstB at hR
      refine wpAny_bind (he i g1 g2 hpre prog w _ _ ?_)
      cases hi : e i with
      | true =>
        rw [if_pos hi] at hR
        wp_walk
        refine ⟨rfl, rfl, i + 1, hrest, fun j hj => ?_, hR⟩
        rcases Nat.lt_succ_iff_lt_or_eq.mp hj with q | q
        · exact hpre j q
        · rw [q]
          exact hi
      | false =>
        rw [if_neg (by rw [hi]; exact Bool.false_ne_true)] at hR
        rw [if_pos (show (!false) = true from rfl)]
        refine wpAny_bind (wpAny_rule ?_)
        refine wpAny_bind (hr i g1 g2 hpre hi prog w _ _ ?_)
        wp_walk
        exact ⟨_, rfl, hR⟩
    case fin =>
      rintro ⟨b1, b2⟩ s' ⟨hst, rfl, i, hz, hpre, hR⟩
      simp only at hst
      subst hst
      have hge : min us.size ws.size ≤ i := by
        rcases Nat.lt_or_ge i (us.toList.zip ws.toList).length with q | q
        · rw [List.drop_eq_getElem_cons q] at hz
          cases hz
        · exact hlen ▸ q
      rw [Nat.sub_eq_zero_of_le hge] at hR
      wp_walk
      exact ⟨_, rfl, by simpa [Builtin.Tuple.tupleCompareSizes, firstB] using hR⟩
    case h =>
      exact ⟨rfl, rfl, 0, rfl, fun j hj => absurd hj (Nat.not_lt_zero _), by simpa using h⟩
end
theorem rcLt_tupL {A : Around} {s : Shared} {a c : Addr} {us ws : Array Value} {e r : Nat → Bool} (ha : s.heap.IsTuple a us) (hc : s.heap.IsTuple c ws) (hu : A.units < cLine)
    (he : ∀ j (g1 : j < us.size) (g2 : j < ws.size), (∀ i, i < j → e i = true) → EqAt A.in1 s us[j] ws[j] (e j)) (hr : ∀ j (g1 : j < us.size) (g2 : j < ws.size), (∀ i, i < j → e i = true) → e j = false → RcLt A.in1 s us[j] ws[j] (r j)) :
    RcLt A s (.ref a) (.ref c) (firstB e r (decide (us.size < ws.size)) 0 (min us.size ws.size)) := fun prog w E Q h => by
  obtain ⟨⟨c1, d1, t1, s1⟩, o1, k1, n1, e1⟩ := id ha
  obtain ⟨⟨c2, d2, t2, s2⟩, o2, k2, n2, e2⟩ := id hc
  simp only at k1 e1 k2 e2
  subst k1 e1 k2 e2
  exact richCompare_meets_room (op := .Lt) ⟨_, o1, rfl⟩ ⟨_, o2, rfl⟩ F.slot_tuple_lt F.entry_tuple_lt (F.args_tuple_lt_2 _ _) (tup_lt_lazy a c us ws n1 n2 d1 d2 s1 s2 e r)
    ⟨o1, o2, he, hr, show Value.bool (firstB e r (decide (us.size < ws.size)) 0 (min us.size ws.size)) ≠ Value.notImplemented ∧ Q (.bool (firstB e r (decide (us.size < ws.size)) 0 (min us.size ws.size))) s from ⟨(fun x => nomatch x), h⟩⟩ hu
/-! ### the order of data -/
mutual
/-- d < e, where Python can tell -/
def ltD : D → D → Option Bool
  | .bool x, .bool y => some (!x && y)
  | .int x, .int y => some (decide (x < y))
  | .str x, .str y => some (decide (x.cps.toList < y.cps.toList))
  | .tuple xs, .tuple ys => ltAll xs ys
  | .list xs, .list ys => ltEach xs ys
  | _, _ => none
/-- the first difference is asked, nothing behind it -/
def ltAll : List D → List D → Option Bool
  | [], [] => some false
  | [], _ :: _ => some true
  | _ :: _, [] => some false
  | x :: xs, y :: ys => if PyData.eqv x y = true then ltAll xs ys else ltD x y
/-- every place can be asked -/
def ltEach : List D → List D → Option Bool
  | [], [] => some false
  | [], _ :: _ => some true
  | _ :: _, [] => some false
  | x :: xs, y :: ys => match ltEach xs ys with
    | none => none
    | some k => if PyData.eqv x y = true then some k else ltD x y
end
def ltR (xs ys : List D) (j : Nat) : Bool := (ltD (xs.getD j .none) (ys.getD j .none)).getD false
theorem ltAll_first : ∀ (xs ys : List D) (k : Bool), ltAll xs ys = some k → firstB (pairEq xs ys) (ltR xs ys) (decide (xs.length < ys.length)) 0 (min xs.length ys.length) = k := by
  have shift : ∀ (n i : Nat) (x y : D) (xs ys : List D) (z : Bool), firstB (pairEq (x :: xs) (y :: ys)) (ltR (x :: xs) (y :: ys)) z (i + 1) n = firstB (pairEq xs ys) (ltR xs ys) z i n := by
    intro n
    induction n with
    | zero => intro i x y xs ys z; rfl
    | succ n ih =>
      intro i x y xs ys z
      unfold firstB
      rw [ih (i + 1)]
      rfl
  intro xs
  induction xs with
  | nil =>
    intro ys k h
    cases ys with
    | nil => exact Option.some.inj h
    | cons y ys => exact Option.some.inj h
  | cons x xs ih =>
    intro ys k h
    cases ys with
    | nil => exact Option.some.inj h
    | cons y ys =>
      have e1 : min (x :: xs).length (y :: ys).length = min xs.length ys.length + 1 := by simp only [List.length_cons]; omega
      have e2 : decide ((x :: xs).length < (y :: ys).length) = decide (xs.length < ys.length) := by simp only [List.length_cons, Nat.add_lt_add_iff_right]
      rw [e1, e2]
      unfold firstB
      rw [shift]
      have h' : (if PyData.eqv x y = true then ltAll xs ys else ltD x y) = some k := h
      show (if PyData.eqv x y = true then _ else ltR (x :: xs) (y :: ys) 0) = k
      by_cases q : PyData.eqv x y = true
      · rw [if_pos q] at h' ⊢
        exact ih ys k h'
      · rw [if_neg q] at h' ⊢
        show (ltD x y).getD false = k
        rw [h']
        rfl
theorem ltAll_at : ∀ (xs ys : List D) (k : Bool), ltAll xs ys = some k → ∀ j, j < xs.length → j < ys.length → (∀ i, i < j → pairEq xs ys i = true) → pairEq xs ys j = false → ltD (xs.getD j .none) (ys.getD j .none) = some k
  | [], _, _, _, j, g1, _, _, _ => absurd g1 (Nat.not_lt_zero _)
  | _ :: _, [], _, _, j, _, g2, _, _ => absurd g2 (Nat.not_lt_zero _)
  | x :: xs, y :: ys, k, h, 0, _, _, _, hf => by
    have h' : (if PyData.eqv x y = true then ltAll xs ys else ltD x y) = some k := h
    have q : PyData.eqv x y = false := hf
    rw [q, if_neg Bool.false_ne_true] at h'
    exact h'
  | x :: xs, y :: ys, k, h, j + 1, g1, g2, hp, hf => by
    have h' : (if PyData.eqv x y = true then ltAll xs ys else ltD x y) = some k := h
    have q : PyData.eqv x y = true := hp 0 (Nat.succ_pos j)
    rw [if_pos q] at h'
    exact ltAll_at xs ys k h' j (Nat.lt_of_succ_lt_succ g1) (Nat.lt_of_succ_lt_succ g2) (fun i hi => hp (i + 1) (Nat.succ_lt_succ hi)) hf
theorem ltEach_at : ∀ (xs ys : List D) (k : Bool), ltEach xs ys = some k → ∀ j, j < xs.length → j < ys.length → pairEq xs ys j = false → ltD (xs.getD j .none) (ys.getD j .none) = some (ltR xs ys j)
  | [], _, _, _, j, g1, _, _ => absurd g1 (Nat.not_lt_zero _)
  | _ :: _, [], _, _, j, _, g2, _ => absurd g2 (Nat.not_lt_zero _)
  | x :: xs, y :: ys, k, h, j, g1, g2, hf => by
    unfold ltEach at h
    split at h
    · cases h
    · rename_i k' e
      cases j with
      | zero =>
        have q : PyData.eqv x y = false := hf
        rw [q, if_neg Bool.false_ne_true] at h
        show ltD x y = some ((ltD x y).getD false)
        rw [h]
        rfl
      | succ j => exact ltEach_at xs ys k' e j (Nat.lt_of_succ_lt_succ g1) (Nat.lt_of_succ_lt_succ g2) hf
theorem ltEach_all : ∀ (xs ys : List D) (k : Bool), ltEach xs ys = some k → ltAll xs ys = some k
  | [], [], _, h => h
  | [], _ :: _, _, h => h
  | _ :: _, [], _, h => h
  | x :: xs, y :: ys, k, h => by
    unfold ltEach at h
    split at h
    · cases h
    · rename_i k' e
      show (if PyData.eqv x y = true then ltAll xs ys else ltD x y) = some k
      by_cases q : PyData.eqv x y = true
      · rw [if_pos q] at h ⊢
        rw [ltEach_all xs ys k' e]
        exact h
      · rw [if_neg q] at h ⊢
        exact h
theorem firstB_lt {e r : Nat → Bool} {z : Bool} : ∀ (n i : Nat), firstB e r z i n = firstLt e r z (List.range' i n)
  | 0, _ => rfl
  | n + 1, i => by
    show (if e i = true then firstB e r z (i + 1) n else r i) = (if e i = true then firstLt e r z (List.range' (i + 1) n) else r i)
    rw [firstB_lt n (i + 1)]
mutual
theorem rcLt_D : ∀ (da db : D) (A : Around) (s : Shared) (a b : Value) (as bs : List Addr) (k : Bool), Reads s.heap a da as → Reads s.heap b db bs → ltD da db = some k → da.canLay0 = true → db.canLay0 = true → A.units + min da.depth db.depth < cLine → RcLt A s a b k
  | .none, db, _, _, _, _, _, _, _, _, _, h, _, _, _ => by cases db <;> cases h
  | .dict _, db, _, _, _, _, _, _, _, _, _, h, _, _, _ => by cases db <;> cases h
  | .bool x, db, A, s, a, b, as, bs, k, ra, rb, h, _, _, _ => by
    cases db with
    | bool y =>
      cases ra
      cases rb
      have e := Option.some.inj h
      intro prog w E Q hq
      refine PyProof.Rows.lt_bool ?_
      have e2 : decide (PyProof.Rows.b2i x < PyProof.Rows.b2i y) = k := by
        rw [← e]
        cases x <;> cases y <;> rfl
      rw [e2]
      exact hq
    | _ => cases h
  | .int x, db, A, s, a, b, as, bs, k, ra, rb, h, _, _, _ => by
    cases db with
    | int y =>
      cases ra
      cases rb
      have e := Option.some.inj h
      intro prog w E Q hq
      refine PyProof.Rows.lt_int ?_
      rw [e]
      exact hq
    | _ => cases h
  | .str x, db, A, s, a, b, as, bs, k, ra, rb, h, _, _, _ => by
    cases db with
    | str y =>
      cases ra
      cases rb
      have e := Option.some.inj h
      intro prog w E Q hq
      refine P.lt_str ?_
      rw [e]
      exact hq
    | _ => cases h
  | .list xs, db, A, s, a, b, as, bs, k, ra, rb, h, ha, hb, hu => by
    cases db with
    | list ys =>
      have h' : ltEach xs ys = some k := h
      have ha' : PyData.canLayAll0 xs = true := ha
      have hb' : PyData.canLayAll0 ys = true := hb
      cases ra with
      | @list l o vs n _ as₁ h1 h2 h3 h4 =>
        cases rb with
        | @list l' o' vs' n' _ bs₁ k1 k2 k3 k4 =>
          have n1 : vs.size = xs.length := by
            have q := ReadsAll.length _ _ _ h4
            simpa using q
          have n2 : vs'.size = ys.length := by
            have q := ReadsAll.length _ _ _ k4
            simpa using q
          have e := ltAll_first xs ys k (ltEach_all xs ys k h')
          rw [firstB_lt, ← n1, ← n2, ← List.range_eq_range'] at e
          rw [← e]
          refine RcLt.lists ⟨_, h1, h2, _, h3⟩ ⟨_, k1, k2, _, k3⟩ (room_here hu) (fun j j1 j2 => ?_) fun j j1 j2 hj => ?_
          · have q := eqAt_readsAll xs ys A.in1 s vs.toList vs'.toList _ _ h4 k4 ha' hb' (room_in hu) j (by simpa using j1) (by simpa using j2)
            simpa using q
          · have q := rcLt_each xs ys A.in1 s vs.toList vs'.toList _ _ h4 k4 ha' hb' (room_in hu) j (by simpa using j1) (by simpa using j2) _ (ltEach_at xs ys k h' j (by omega) (by omega) hj)
            simpa using q
    | _ => cases h
  | .tuple xs, db, A, s, a, b, as, bs, k, ra, rb, h, ha, hb, hu => by
    cases db with
    | tuple ys =>
      have h' : ltAll xs ys = some k := h
      have ha' : PyData.canLayAll0 xs = true := ha
      have hb' : PyData.canLayAll0 ys = true := hb
      cases ra with
      | @tuple l o vs n _ as₁ h1 h2 h3 h4 =>
        cases rb with
        | @tuple l' o' vs' n' _ bs₁ k1 k2 k3 k4 =>
          have n1 : vs.size = xs.length := by
            have q := ReadsAll.length _ _ _ h4
            simpa using q
          have n2 : vs'.size = ys.length := by
            have q := ReadsAll.length _ _ _ k4
            simpa using q
          have e := ltAll_first xs ys k h'
          rw [← n1, ← n2] at e
          rw [← e]
          refine rcLt_tupL ⟨_, h1, h2, _, h3⟩ ⟨_, k1, k2, _, k3⟩ (room_here hu) (fun j j1 j2 _ => ?_) fun j j1 j2 hp hj => ?_
          · have q := eqAt_readsAll xs ys A.in1 s vs.toList vs'.toList _ _ h4 k4 ha' hb' (room_in hu) j (by simpa using j1) (by simpa using j2)
            simpa using q
          · have g := ltAll_at xs ys k h' j (by omega) (by omega) hp hj
            have er : ltR xs ys j = k := by
              unfold ltR
              rw [g]
              rfl
            rw [er]
            have q := rcLt_each xs ys A.in1 s vs.toList vs'.toList _ _ h4 k4 ha' hb' (room_in hu) j (by simpa using j1) (by simpa using j2) _ g
            simpa using q
    | _ => cases h
theorem rcLt_each : ∀ (xs ys : List D) (A : Around) (s : Shared) (vs ws : List Value) (as bs : List Addr), ReadsAll s.heap vs xs as → ReadsAll s.heap ws ys bs → PyData.canLayAll0 xs = true → PyData.canLayAll0 ys = true → A.units + min (PyData.depthAll xs) (PyData.depthAll ys) < cLine →
    ∀ j (g1 : j < vs.length) (g2 : j < ws.length) (k : Bool), ltD (xs.getD j .none) (ys.getD j .none) = some k → RcLt A s vs[j] ws[j] k
  | [], _, _, _, _, _, _, _, ra, _, _, _, _, j, g1, _, _, _ => by cases ra; exact absurd g1 (Nat.not_lt_zero _)
  | _ :: _, [], _, _, _, _, _, _, _, rb, _, _, _, j, _, g2, _, _ => by cases rb; exact absurd g2 (Nat.not_lt_zero _)
  | x :: xs, y :: ys, A, s, _, _, _, _, ra, rb, ha, hb, hu, j, g1, g2, k, h => by
    obtain ⟨a1, a2⟩ := Bool.and_eq_true_iff.mp ha
    obtain ⟨b1, b2⟩ := Bool.and_eq_true_iff.mp hb
    cases ra with
    | cons r rs =>
      cases rb with
      | cons r' rs' =>
        cases j with
        | zero => exact rcLt_D x y A s _ _ _ _ k r r' h a1 b1 (room_head hu)
        | succ j => exact rcLt_each xs ys A s _ _ _ _ rs rs' a2 b2 (room_tail hu) j (Nat.lt_of_succ_lt_succ g1) (Nat.lt_of_succ_lt_succ g2) k h
end
end DL
namespace DL
open PySem PySem.SeqAt PyProof.Rows
/-! ### as a sort compares -/
section
variable {prog : Program} {w : World} {A : Around} {E : Value → Shared → Prop} {s : Shared}
theorem oneLt_D {f : Bool} {da db : D} {a b : Value} {as bs : List Addr} {Q : Bool → Shared → Prop} {k : Bool} (hf : f = true → ∀ xs, da ≠ .tuple xs) (ra : Reads s.heap a da as) (rb : Reads s.heap b db bs) (h : ltD da db = some k) (ha : da.canLay0 = true) (hb : db.canLay0 = true)
    (hu : A.units + min da.depth db.depth < cLine) (hq : Q k s) : wpAny (model prog w) A (oneLt' f a b) Q E s := by
  cases f with
  | false =>
    rw [oneLt'_eq, if_neg Bool.false_ne_true]
    exact wpAny_bind (rcLt_D da db A s a b as bs k ra rb h ha hb hu prog w E _ (wpAny_truthy_bool hq))
  | true =>
    cases da with
    | none => cases db <;> cases h
    | dict _ => cases db <;> cases h
    | tuple xs => exact absurd rfl (hf rfl xs)
    | bool x =>
      cases db with
      | bool y =>
        cases ra
        cases rb
        refine PySem.W.oneLt_bool ?_
        have e2 : decide (PyProof.Rows.b2i x < PyProof.Rows.b2i y) = k := by
          rw [← Option.some.inj h]
          cases x <;> cases y <;> rfl
        rw [e2]
        exact hq
      | _ => cases h
    | int x =>
      cases db with
      | int y =>
        cases ra
        cases rb
        refine PyProof.Rows.oneLt_int ?_
        rw [Option.some.inj h]
        exact hq
      | _ => cases h
    | str x =>
      cases db with
      | str y =>
        cases ra
        cases rb
        refine PyProof.Rows.oneLt_str ?_
        rw [Option.some.inj h]
        exact hq
      | _ => cases h
    | list xs =>
      cases db with
      | list ys =>
        have h' : ltEach xs ys = some k := h
        have ha' : PyData.canLayAll0 xs = true := ha
        have hb' : PyData.canLayAll0 ys = true := hb
        cases ra with
        | @list l o vs n _ as₁ h1 h2 h3 h4 =>
          cases rb with
          | @list l' o' vs' n' _ bs₁ k1 k2 k3 k4 =>
            have n1 : vs.size = xs.length := by
              have q := ReadsAll.length _ _ _ h4
              simpa using q
            have n2 : vs'.size = ys.length := by
              have q := ReadsAll.length _ _ _ k4
              simpa using q
            have e := ltAll_first xs ys k (ltEach_all xs ys k h')
            rw [firstB_lt, ← n1, ← n2, ← List.range_eq_range'] at e
            rw [oneLt'_eq, if_pos rfl]
            refine wpAny_bind (wpAny_cRoomFor (room_here hu) ?_)
            refine wpAny_bind (wpAny_callSpecialIfBound?_slot (T := "list") ⟨_, h1, h2⟩ PySem.F.slot_list_lt (call_list_lt (e := pairEq xs ys) (r := ltR xs ys) ⟨_, h1, h2, _, h3⟩ ⟨_, k1, k2, _, k3⟩ (fun j j1 j2 => ?_) (fun j j1 j2 hj => ?_) ?_))
            · have q := eqAt_readsAll xs ys A.in1 s vs.toList vs'.toList _ _ h4 k4 ha' hb' (room_in hu) j (by simpa using j1) (by simpa using j2)
              simpa using q
            · have q := rcLt_each xs ys A.in1 s vs.toList vs'.toList _ _ h4 k4 ha' hb' (room_in hu) j (by simpa using j1) (by simpa using j2) _ (ltEach_at xs ys k h' j (by omega) (by omega) hj)
              simpa using q
            · rw [e]
              exact wpAny_truthy_bool hq
      | _ => cases h
theorem katLex_D {b fin : Bool} {Q : Bool → Shared → Prop} : ∀ (xs ys : List D) (i : Nat) (vs ws : List Value) (as bs : List Addr) (k : Bool), ReadsAll s.heap vs xs as → ReadsAll s.heap ws ys bs → ltAll xs ys = some k → PyData.canLayAll0 xs = true → PyData.canLayAll0 ys = true →
    A.units + min (PyData.depthAll xs) (PyData.depthAll ys) < cLine → (b = true → i = 0 → ∀ x r t, xs = x :: r → x ≠ .tuple t) → fin = decide (xs.length < ys.length) → Q k s → PySem.W.KatLex prog w A b fin Q (vs.zip ws) i s
  | [], [], _, _, _, _, _, k, ra, rb, h, _, _, _, _, hf, hq => by
    cases ra
    cases rb
    have e : fin = k := by rw [hf, ← Option.some.inj h]; rfl
    rw [← e] at hq
    exact PySem.W.kat_nil hq
  | [], y :: ys, _, _, _, _, _, k, ra, rb, h, _, _, _, _, hf, hq => by
    cases ra
    have e : fin = k := by rw [hf, ← Option.some.inj h]; exact decide_eq_true (Nat.succ_pos _)
    rw [← e] at hq
    rw [List.zip_nil_left]
    exact PySem.W.kat_nil hq
  | x :: xs, [], _, _, _, _, _, k, ra, rb, h, _, _, _, _, hf, hq => by
    cases rb
    have e : fin = k := by rw [hf, ← Option.some.inj h]; exact decide_eq_false (Nat.not_lt_zero _)
    rw [← e] at hq
    rw [List.zip_nil_right]
    exact PySem.W.kat_nil hq
  | x :: xs, y :: ys, i, _, _, _, _, k, ra, rb, h, ha, hb, hu, hn, hf, hq => by
    have h' : (if PyData.eqv x y = true then ltAll xs ys else ltD x y) = some k := h
    obtain ⟨a1, a2⟩ := Bool.and_eq_true_iff.mp ha
    obtain ⟨b1, b2⟩ := Bool.and_eq_true_iff.mp hb
    have hf' : fin = decide (xs.length < ys.length) := by rw [hf]; simp only [List.length_cons, Nat.add_lt_add_iff_right]
    cases ra with
    | cons r rs =>
      cases rb with
      | cons r' rs' =>
        rw [List.zip_cons_cons]
        refine PySem.W.kat_cons (eqAt_reads x y A s _ _ _ _ r r' a1 b1 (room_head hu) prog w _ _ ?_)
        cases hx : PyData.eqv x y with
        | true =>
          rw [if_pos hx] at h'
          exact PySem.W.kat_yes (katLex_D xs ys (i + 1) _ _ _ _ k rs rs' h' a2 b2 (room_tail hu) (fun _ hi => absurd hi (Nat.succ_ne_zero i)) hf' hq)
        | false =>
          rw [if_neg (by rw [hx]; exact Bool.false_ne_true)] at h'
          refine PySem.W.kat_no (oneLt_D (fun hbi t => ?_) r r' h' a1 b1 (room_head hu) hq)
          rw [Bool.and_eq_true] at hbi
          exact hn hbi.1 (by simpa using hbi.2) x xs t rfl
end
/-! ### keys by rank -/
def intOrd : PyProof.Rows.KeyOrd where
  α := Int
  blt a b := decide (a < b)
  irrefl a := decide_eq_false (Int.lt_irrefl a)
  trans a b c h1 h2 := decide_eq_true (Int.lt_trans (of_decide_eq_true h1) (of_decide_eq_true h2))
  negTrans a b c h := by
    have q := of_decide_eq_true h
    by_cases z : a < b
    · exact .inl (decide_eq_true z)
    · exact .inr (decide_eq_true (by omega))
  total a b h1 h2 := by
    have q1 := of_decide_eq_false h1
    have q2 := of_decide_eq_false h2
    omega
noncomputable def rankKind (h : Heap) (ds : List D) (rank : D → Int) : PyProof.Rows.KeyKind where
  toKeyOrd := intOrd
  keyOf v := open Classical in if q : ∃ d, d ∈ ds ∧ ∃ as, Reads h v d as then some (rank q.choose) else none
  dflt := (0 : Int)
/-- the keys can be compared, as rank says -/
def Ranked (rank : D → Int) (ds : List D) : Prop := ∀ d ∈ ds, d.canLay0 = true ∧ ∀ e ∈ ds, ltD d e = some (decide (rank d < rank e))
/-- all are tuples whose first items are of one type, or all are of one type that is not tuple -/
def Kinded (ds : List D) : Prop := (∃ T, ∀ d ∈ ds, ∃ x r, d = .tuple (x :: r) ∧ PySem.W.dataType x = .type T) ∨ ∃ T, T ≠ "tuple" ∧ ∀ d ∈ ds, PySem.W.dataType d = .type T
theorem rankKind_some {h : Heap} {ds : List D} {rank : D → Int} {v : Value} {d : D} {as : List Addr} (hr : Ranked rank ds) (hd : d ∈ ds) (r : Reads h v d as) : (rankKind h ds rank).keyOf v = some (rank d) := by
  have q : ∃ d, d ∈ ds ∧ ∃ as, Reads h v d as := ⟨d, hd, as, r⟩
  have e : (rankKind h ds rank).keyOf v = some (rank q.choose) := by
    show (open Classical in if q : ∃ d, d ∈ ds ∧ ∃ as, Reads h v d as then some (rank q.choose) else none) = _
    rw [dif_pos q]
  obtain ⟨g1, as', g2⟩ := q.choose_spec
  rw [e, Reads.unique _ _ _ _ _ (hr _ hd).1 r g2]
theorem rankKind_inv {h : Heap} {ds : List D} {rank : D → Int} {v : Value} {k : Int} (e : (rankKind h ds rank).keyOf v = some k) : ∃ d as, d ∈ ds ∧ Reads h v d as ∧ k = rank d := by
  by_cases q : ∃ d, d ∈ ds ∧ ∃ as, Reads h v d as
  · have e1 : (rankKind h ds rank).keyOf v = some (rank q.choose) := by
      show (open Classical in if q : ∃ d, d ∈ ds ∧ ∃ as, Reads h v d as then some (rank q.choose) else none) = _
      rw [dif_pos q]
    obtain ⟨g1, as', g2⟩ := q.choose_spec
    rw [e1] at e
    exact ⟨_, as', g1, g2, (Option.some.inj e).symm⟩
  · have e1 : (rankKind h ds rank).keyOf v = none := by
      show (open Classical in if q : ∃ d, d ∈ ds ∧ ∃ as, Reads h v d as then some (rank q.choose) else none) = _
      rw [dif_neg q]
      rfl
    rw [e1] at e
    cases e
section
variable {prog : Program} {w : World} {A : Around} {s : Shared}
theorem ranked_sorts {vs : List Value} {ds : List D} {rank : D → Int} (e : PySem.W.EachIs (fun v d => ∃ as, Reads s.heap v d as) vs ds) (hr : Ranked rank ds) (hk : Kinded ds) (hu : ∀ d ∈ ds, A.units + d.depth < cLine) : PySem.W.SortsAt prog w A s (rankKind s.heap ds rank) vs := by
  have room : ∀ {d d' : D}, d ∈ ds → A.units + min d.depth d'.depth < cLine := fun {d d'} hd => Nat.lt_of_le_of_lt (Nat.add_le_add_left (Nat.min_le_left _ _) _) (hu d hd)
  refine ⟨fun v hv => ?_, ?_⟩
  · obtain ⟨d, hd, as, r⟩ := e.left v hv
    exact ⟨_, rankKind_some hr hd r⟩
  · rcases hk with ⟨T, ht⟩ | ⟨T, hT, ht⟩
    · refine ⟨tuples' (Value.type T != Value.type "tuple"), ?_, fun h2 E Q hq => ?_⟩
      · intro E x y a b Q ha hb hq
        obtain ⟨d, as, hd, ra, rfl⟩ := rankKind_inv ha
        obtain ⟨d', as', hd', rb, rfl⟩ := rankKind_inv hb
        have hlt := (hr d hd).2 d' hd'
        have c1 := (hr d hd).1
        have c2 := (hr d' hd').1
        have hroom := room (d' := d') hd
        obtain ⟨x1, r1, rfl, t1⟩ := ht d hd
        obtain ⟨x2, r2, rfl, t2⟩ := ht d' hd'
        cases ra with
        | @tuple l o xs n _ _ h1 h2 h3 h4 =>
          cases rb with
          | @tuple l' o' xs' n' _ _ k1 k2 k3 k4 =>
            have n1 : xs.size = (x1 :: r1).length := by
              have q := ReadsAll.length _ _ _ h4
              simpa using q
            have n2 : xs'.size = (x2 :: r2).length := by
              have q := ReadsAll.length _ _ _ k4
              simpa using q
            refine PySem.W.kat_lt h1 h3 k1 k3 (katLex_D (x1 :: r1) (x2 :: r2) 0 _ _ _ _ _ h4 k4 hlt c1 c2 (by have q := room_in hroom; omega) (fun hb _ x r t ex => ?_) (by rw [n1, n2]) hq)
            obtain ⟨rfl, rfl⟩ := List.cons.inj ex
            rw [← t1] at hb
            exact PySem.W.dataType_tuple hb t
      · obtain ⟨fs, t1, t2, t3⟩ := PySem.W.each_katTups e fun d hd => by
          obtain ⟨x, r, e, _⟩ := ht d hd
          exact ⟨x, r, e⟩
        refine PySem.W.kat_kind (T := .type T) t1 (by omega) (fun f hf => ?_) (beq_self_eq_true _) hq
        obtain ⟨x, r, as, m1, m2⟩ := t3 f hf
        obtain ⟨x', r', e', hx⟩ := ht _ m1
        injection e' with e'
        obtain ⟨rfl, rfl⟩ := List.cons.inj e'
        rw [← hx]
        exact PySem.W.looks_reads m2
    · refine ⟨oneType', ?_, fun h2 E Q hq => ?_⟩
      · intro E x y a b Q ha hb hq
        obtain ⟨d, as, hd, ra, rfl⟩ := rankKind_inv ha
        obtain ⟨d', as', hd', rb, rfl⟩ := rankKind_inv hb
        rw [keyLt'_oneType]
        refine oneLt_D (fun _ xs z => ?_) ra rb ((hr d hd).2 d' hd') (hr d hd).1 (hr d' hd').1 (room hd) hq
        have q := ht d hd
        rw [z] at q
        injection q with q
        exact hT q.symm
      · cases vs with
        | nil => exact absurd h2 (by simp)
        | cons v0 vs0 =>
          refine PySem.W.kas_kind (T := .type T) h2 (fun v hv => ?_) ?_ (beq_self_eq_true _) hq
          · obtain ⟨d, hd, as, r⟩ := e.left v hv
            rw [← ht d hd]
            exact PySem.W.looks_reads r
          · exact bne_iff_ne.mpr fun z => by
              injection z with z
              exact hT z
end
def byRank {β : Type} (k : β → Int) (a b : β) : Bool := decide (k a ≤ k b)
theorem sortLe_rank {β : Type} (k : β → Int) : PySem.W.sortLe intOrd false k = byRank k := by
  funext a b
  show (!decide (k b < k a)) = decide (k a ≤ k b)
  by_cases q : k a ≤ k b
  · rw [decide_eq_true q, decide_eq_false (by omega)]
    rfl
  · rw [decide_eq_false q, decide_eq_true (by omega)]
    rfl
end DL
namespace DL
open PySem PySem.Spec PyProof.Rows L2 LamX NdefX
/-! ### sorted(xs, ..) of a list or a tuple: list.sort of a new list -/
theorem srt_seq {prog : Program} {w : World} {A : Around} {E : Value → Shared → Prop} {s : Shared} {it : Addr} {o : Obj} {T : String} {its : Array Value} {n : Nat} {kw : List (Str × Value)} {Q : Value → Shared → Prop} (hT : T = "list" ∨ T = "tuple") (ho : s.heap.get? it = some o) (hc : o.cls = .type T) (hd : o.data = .seq its n) (hz : its.size ≤ sizeLine)
    (h1 : argsOk "sorted" ⟨[.ref it], kw⟩) (h2 : ∀ x, argsOk "list.sort" ⟨[.ref x], kw⟩)
    (go : ∀ (h' : Heap) (E' : Value → Shared → Prop), (∀ c u, s.heap.get? c = some u → h'.get? c = some u) →
      wpAny (model prog w) A.in1.in1 (Builtin.«list.sort» ⟨[.ref h'.objs.size], kw⟩) (fun r s' => r = .done (.ret .none) ∧ Q (.ref h'.objs.size) s') E' { s with heap := h'.push (seqObj "list" its 0) }) :
    wpAny (model prog w) A (call (.builtin "sorted") [.ref it] kw) Q E s := by
  refine call_function_entry_kw PyProof.Rows.kind_sorted PyProof.Rows.plain_sorted PyProof.Rows.entry_sorted h1 ?_
  unfold Builtin.«sorted»
  refine wpAny_bind (m := checkCount "sorted" 1 1 _) (wpAny_pure ?_)
  refine wpAny_bind (PySem.wpAny_collect_seq it hT ho hc hd (fun h' kp => ?_) hz)
  refine wpAny_bind (wpAny_newList ?_ (by rw [Array.length_toList]; exact hz))
  have ea : its.toList.toArray = its := Array.toArray_toList
  have at_ : (h'.push (seqObj "list" its 0)).get? h'.objs.size = some (seqObj "list" its 0) := Heap.get?_push_size _ rfl
  show wpAny _ _ _ _ _ { s with heap := h'.push (seqObj "list" its.toList.toArray 0) }
  rw [ea]
  refine wpAny_bind (wpAny_holding (wpAny_call_entry_kw slot_list_sort ⟨_, at_, rfl⟩ entry_list_sort ?_ (h2 _)))
  show wpAny (model prog w) A.in1.in1 (Builtin.«list.sort» ⟨[.ref h'.objs.size], kw⟩) _ _ _
  refine wpAny_mono (go h' _ kp) (fun r s' hr => ?_) fun _ _ e => e
  obtain ⟨rfl, hq⟩ := hr
  exact ⟨_, rfl, wpAny_pure ⟨_, rfl, hq⟩⟩
variable [Tbs]
/-! ### the keys are told, the items put in order -/
theorem out_vals {h : Heap} {K : PySem.W.Frag} {F : Hp} : ∀ {out : List Value} {es : List D}, PySem.W.EachIs (fun u d => ∃ x, RelV x u ∧ Dp K F x d) out es → ∃ ys, Vals ys out ∧ DpAll K F ys es
  | _, _, .nil => ⟨[], .nil, .nil⟩
  | _, _, .cons ⟨x, r, dp⟩ t => by
    obtain ⟨ys, q1, q2⟩ := out_vals (h := h) t
    exact ⟨x :: ys, .cons r q1, .cons dp q2⟩
theorem each_in {K : PySem.W.Frag} {F : Hp} : ∀ {xs : List V} {us : List Value} {es : List D}, Vals xs us → DpAll K F xs es → PySem.W.EachIs (fun u d => ∃ x, RelV x u ∧ Dp K F x d) us es
  | _, _, _, .nil, .nil => .nil
  | _, _, _, .cons r t, .cons a q => .cons ⟨_, r, a⟩ (each_in t q)
theorem vals_snoc : ∀ {xs : List V} {us : List Value} {x : V} {u : Value}, Vals xs us → RelV x u → Vals (xs ++ [x]) (us ++ [u])
  | _, _, _, _, .nil, r => .cons r .nil
  | _, _, _, _, .cons a t, r => .cons a (vals_snoc t r)
section
variable {X : Cx} {pins : List (Addr × Obj)} {σ : L2.St} {F H : Hp} {s : Shared} {A : Around} {E : Value → Shared → Prop} {P : PySem.Fin → Shared → Prop} {a kS : Addr} {fv : Value} {κ : D → D} {rank : D → Int} {ds : List D} {xs : List V} {its : List Value} {e1 : Nat}
/-- a call of the key's function, while the sort goes on -/
def KTurn (X : Cx) (pins : List (Addr × Obj)) (σ : L2.St) (H0 : Hp) (A : Around) (fv : Value) (κ : D → D) (ds : List D) : Prop :=
  ∀ (F' H' : Hp) (s' : Shared) (x : V) (u : Value) (d : D), Inv X pins σ H' s' → Tf F' H' → Same F' H' → Kp H0 H' → RelV x u → Dp X.K F' x d → d ∈ ds →
    wpAny (model X.prog X.w) A (call fv [u]) (fun k s2 => ∃ kv F2 H2, Inv X pins σ H2 s2 ∧ RelV kv k ∧ Gr F' H' F2 H2 ∧ Dp X.K F2 kv (κ d) ∧
      ∀ c o, H' c = none → c ∉ frs X.stack → s'.heap.get? c = some o → s2.heap.get? c = some o ∧ H2 c = none) (fun _ _ => False) s'
theorem fp_next {H H' : Hp} {c : Addr} (h : FpOk X pins H c) (n : H' c = none) : FpOk X pins H' c := ⟨n, h.2⟩
theorem fp_stk (I : Inv X pins σ H s) {c : Addr} (h : FpOk X pins H c) : c ∉ frs X.stack := fun z => by
  rcases List.mem_cons.mp (I.stkSub c z) with e | e
  · exact h.2.1 e
  · exact h.2.2.1 e
theorem ks_rest (I : Inv X pins σ H s) (tf : Tf F H) (fs : Same F H) (fa : FpOk X pins H a) (fk : FpOk X pins H kS) (hka : kS ≠ a) (nk : s.heap.get? kS = some (seqObj "list" #[] 0)) (na : s.heap.get? a = some (seqObj "list" #[] e1))
    (rv : Vals xs its) (hd : DpAll X.K F xs ds) (hz : ds.length ≤ sizeLine) (hal : Ranked rank (ds.map κ)) (hsk : Kinded (ds.map κ)) (hu : ∀ d ∈ ds, A.units + (κ d).depth < cLine) (turn : KTurn X pins σ H A fv κ ds)
    (h : ∀ (F2 H2 : Hp) (s2 : Shared) (ys : List V), Inv X pins σ (upd H2 a (.lst ys)) s2 → Gr F H F2 H2 → H2 a = none → DpAll X.K F2 ys (ds.mergeSort (byRank fun d => rank (κ d))) → P (.done (.ret .none)) s2) :
    wpAny (model X.prog X.w) A (ksk_rest a fv false its.toArray e1 (.ref kS)) P E s := by
  have hlen : ds.length = its.length := by rw [← dpa_len hd, rv.length]
  unfold ksk_rest
  refine wpAny_bind (wpAny_rule ?_)
  rw [List.forIn_toArray]
  refine wpAny_bind (ksk_fold (fun i s' => ∃ F' H' kA e kvs, Inv X pins σ H' s' ∧ Gr F H F' H' ∧ s'.heap.get? kS = some (seqObj "list" kA e) ∧ s'.heap.get? a = some (seqObj "list" #[] e1) ∧ H' a = none ∧ H' kS = none ∧
      Vals kvs kA.toList ∧ DpAll X.K F' kvs ((ds.take i).map κ)) its 0 s ⟨F, H, #[], 0, [], I, Gr.refl fs, nk, na, fa.1, fk.1, .nil, by rw [List.take_zero]; exact .nil⟩ ?one ?fin)
  case one =>
    rintro j u s' hj ⟨F', H', kA, e, kvs, I', g, nk', na', oa, ok, rk, dk⟩
    simp only [Nat.zero_add] at dk ⊢
    have hjl : j < its.length := (List.getElem?_eq_some_iff.mp hj).1
    obtain ⟨d, hdj⟩ : ∃ d, ds[j]? = some d := ⟨_, List.getElem?_eq_getElem (by omega)⟩
    obtain ⟨x, hx, dx⟩ := dpa_getD hd hdj
    obtain ⟨u', hu', rx⟩ := rv.get hx
    have eu : u' = u := Option.some.inj (hu'.symm.trans hj)
    subst eu
    have fa' := fp_next fa oa
    have fk' := fp_next fk ok
    refine wpAny_bind (wpAny_attempt (wpAny_mono (turn F' H' s' x u' d I' (g.tb tf) g.fh g.hh rx (dp_mono g.ff d x dx) (List.mem_of_getElem? hdj)) (fun k s2 hk => ?_) fun _ _ z => z.elim))
    obtain ⟨kv, F2, H2, I2, r2, g2, dp2, keep⟩ := hk
    try dsimp only
    obtain ⟨nk2, ok2⟩ := keep kS _ ok (fp_stk I' fk') nk'
    obtain ⟨na2, oa2⟩ := keep a _ oa (fp_stk I' fa') na'
    have sb := Heap.SameBut.update s2.heap kS (Obj.mapSeq (·.push k))
    obtain ⟨c2, hc2⟩ : ∃ c2, (s2.heap.update kS (Obj.mapSeq (·.push k))).get? kS = some (seqObj "list" (kA.push k) c2) := ⟨_, get?_update_seq nk2 (·.push k)⟩
    have hzk : kA.size ≤ sizeLine := by
      have q1 := rk.length
      have q2 := dpa_len dk
      rw [List.length_map, List.length_take] at q2
      have q3 : kA.toList.length = kA.size := Array.length_toList
      have q4 : kvs.length = kA.toList.length := q1
      omega
    refine wpAny_bind (listUpdate_at nk2 rfl ?_ hzk (Nat.le_trans (Nat.le_of_eq (Array.size_push ..)) (Nat.succ_le_succ hzk)))
    refine wpAny_pure ⟨rfl, F2, H2, kA.push k, c2, kvs ++ [kv], I2.turnedL (ch := [kS]) (fun c o hc q => (sb.2 c (fun z => hc (by simp [z]))).trans q) (fun c hc => ?_), g.trans g2, hc2, (sb.2 a hka.symm).trans na2, oa2, ok2, ?_, ?_⟩
    · rw [List.mem_singleton.mp hc]
      exact fp_next fk ok2
    · rw [Array.toList_push]
      exact vals_snoc rk r2
    · rw [List.take_add_one, hdj, List.map_append]
      exact dpa_app (dpa_mono g2.ff _ _ dk) (.cons dp2 .nil)
  case fin =>
    rintro s' ⟨F', H', kA, e, kvs, I', g, nk', na', oa, ok, rk, dk⟩
    have et : ds.take (0 + its.length) = ds := List.take_of_length_le (by omega)
    rw [et] at dk
    have hks : kA.size = its.length := by
      have q1 := rk.length
      have q2 := dpa_len dk
      rw [List.length_map] at q2
      have q3 : kA.toList.length = kA.size := Array.length_toList
      have q4 : kvs.length = kA.toList.length := q1
      omega
    have hk' : PySem.W.EachIs (fun v k => ∃ as, Reads s'.heap v k as) kA.toList (ds.map κ) := (each_in rk dk).mono fun u d ⟨x, r, dp⟩ => Dp.reads I' d x u (dp_mono g.fh d x dp) r
    have up : ∀ c o, c ≠ kS → s'.heap.get? c = some o → (hidT s'.heap fun c => if c = kS then some (.lst []) else none).get? c = some o := fun c o hc q => hidT_get q (if_neg hc)
    refine wpAny_bind (listItems_at nk' rfl ?_)
    refine PySem.W.keyH_end (κ := rankKind s'.heap (ds.map κ) rank) (h₁ := hidT s'.heap fun c => if c = kS then some (.lst []) else none) (fun c o hc q => (of_hidT q).1) ?_ nk' na' hka
      (ranked_sorts hk' hal hsk (fun k hk => ?_)) hks (by omega) fun h' tk c kp hout => ?_
    · cases q : (hidT s'.heap fun c => if c = kS then some (.lst []) else none).get? kS with
      | none => rfl
      | some o =>
        have z := (of_hidT q).2
        rw [if_pos rfl] at z
        cases z
    · obtain ⟨d, hd1, rfl⟩ := List.mem_map.mp hk
      exact hu d hd1
    · have hkz : PySem.W.EachIs (fun v d => (rankKind s'.heap (ds.map κ) rank).keyOf v = some (rank (κ d))) kA.toList ds :=
        (PySem.W.each_of_map κ (PySem.W.each_mem hk')).mono fun v d ⟨⟨as, r⟩, hm⟩ => rankKind_some hal hm r
      have each := PySem.W.sortVals_each (rev := false) (κ := rankKind s'.heap (ds.map κ) rank) (fun d => rank (κ d)) (each_in (F := F') rv (dpa_mono g.ff _ _ hd)) hkz
      have e5 : PySem.W.sortLe (rankKind s'.heap (ds.map κ) rank).toKeyOrd false (fun d => rank (κ d)) = byRank fun d => rank (κ d) := sortLe_rank _
      rw [e5] at each
      obtain ⟨ys, ry, dy⟩ := out_vals (h := s'.heap) each
      have I1 : Inv X pins σ H' { s' with heap := h', toks := tk } := I'.turnedL (ch := [a, kS]) (fun c o hc q => kp c o (fun z => hc (by simp [z])) (up c o (fun z => hc (by simp [z])) q)) fun c hc => by
        rcases List.mem_cons.mp hc with rfl | hc
        · exact fp_next fa oa
        · rw [List.mem_singleton.mp hc]
          exact fp_next fk ok
      refine h F' H' _ ys (I1.take (t' := tk) (h' := h') (fun _ _ _ q => q) (fp_next fa oa) ?_) g oa dy
      refine ⟨?_, _, _, ry, hout⟩
      rw [dpa_len dy, List.length_mergeSort]
      exact hz
theorem ks_tree {n : Nat} (I : Inv X pins σ H s) (tf : Tf F H) (fs : Same F H) (fa : FpOk X pins H a) (na : s.heap.get? a = some (seqObj "list" its.toArray n))
    (rv : Vals xs its) (hd : DpAll X.K F xs ds) (hz : ds.length ≤ sizeLine) (hal : Ranked rank (ds.map κ)) (hsk : Kinded (ds.map κ)) (hu : ∀ d ∈ ds, A.units + (κ d).depth < cLine) (turn : KTurn X pins σ H A fv κ ds)
    (h : ∀ (F2 H2 : Hp) (s2 : Shared) (ys : List V), Inv X pins σ (upd H2 a (.lst ys)) s2 → Gr F H F2 H2 → H2 a = none → DpAll X.K F2 ys (ds.mergeSort (byRank fun d => rank (κ d))) → P (.done (.ret .none)) s2) :
    wpAny (model X.prog X.w) A (ksk_tree a fv false) P E s := by
  have hlen : ds.length = its.length := by rw [← dpa_len hd, rv.length]
  have hzv : its.toArray.size ≤ sizeLine := by rw [List.size_toArray]; omega
  obtain ⟨e1, ho1⟩ : ∃ e1, (s.heap.update a (Obj.mapSeq fun _ => (#[] : Array Value))).get? a = some (seqObj "list" #[] e1) := ⟨_, get?_update_seq na fun _ => #[]⟩
  have sb := Heap.SameBut.update s.heap a (Obj.mapSeq fun _ => (#[] : Array Value))
  unfold ksk_tree
  refine wpAny_bind (listItems_at na rfl ?_)
  refine wpAny_bind (listUpdate_at na rfl ?_ hzv (Nat.zero_le _))
  refine wpAny_bind (seqEpoch_at ho1 rfl ?_)
  refine wpAny_bind (wpAny_newTuple ?_ (by show its.length ≤ _; omega))
  refine wpAny_bind (wpAny_newList ?_ (Nat.zero_le _))
  refine wpAny_holding ?_
  have I1 : Inv X pins σ H { s with heap := s.heap.update a (Obj.mapSeq fun _ => (#[] : Array Value)) } := I.turnedL (t' := s.toks) (ch := [a]) (fun c o hc q => (sb.2 c (fun z => hc (by simp [z]))).trans q) fun c hc => by
    rw [List.mem_singleton.mp hc]
    exact fa
  have I2 : Inv X pins σ H { s with heap := (s.heap.update a (Obj.mapSeq fun _ => (#[] : Array Value))).push (seqObj "tuple" its.toArray 0) } := I1.kept (t' := s.toks) fun c o q => Heap.get?_push_of_some _ q
  have I3 : Inv X pins σ H { s with heap := ((s.heap.update a (Obj.mapSeq fun _ => (#[] : Array Value))).push (seqObj "tuple" its.toArray 0)).push (seqObj "list" #[] 0) } := I2.kept (t' := s.toks) fun c o q => Heap.get?_push_of_some _ q
  have fk : FpOk X pins H ((s.heap.update a (Obj.mapSeq fun _ => (#[] : Array Value))).push (seqObj "tuple" its.toArray 0)).objs.size := I2.fpOk (Nat.le_refl _) (I2.hok.fresh (Nat.le_refl _))
  refine ks_rest (e1 := e1) (s := { s with heap := ((s.heap.update a (Obj.mapSeq fun _ => (#[] : Array Value))).push (seqObj "tuple" its.toArray 0)).push (seqObj "list" #[] 0) }) (kS := ((s.heap.update a (Obj.mapSeq fun _ => (#[] : Array Value))).push (seqObj "tuple" its.toArray 0)).objs.size)
    I3 tf fs fa fk ?_ (Heap.get?_push_size _ rfl) (Heap.get?_push_of_some _ (Heap.get?_push_of_some _ ho1)) rv hd hz hal hsk hu turn h
  have hlt := Heap.lt_size ho1
  rw [size_push']
  exact Nat.ne_of_gt (Nat.lt_succ_of_lt hlt)
/-- sorted(xs, key=f), xs a list or a tuple -/
theorem ks_sorted {Q : VK} {it : Addr} (I : Inv X pins σ H s) (tf : Tf F H) (fs : Same F H) (hq : SqL X.K H it xs ∨ SqT X.K H it xs) (hd : DpAll X.K F xs ds) (hal : Ranked rank (ds.map κ)) (hsk : Kinded (ds.map κ)) (hu : ∀ d ∈ ds, X.A.units + 2 + (κ d).depth < cLine)
    (ht : ∀ x, Builtin.«list.sort» ⟨[.ref x], [(Str.ofString "key", fv)]⟩ = ksk_tree x fv false) (turn : KTurn X pins σ H X.A.in1.in1 fv κ ds)
    (q : ∀ (F2 H2 : Hp) (p : Addr) (ys : List V), Gr F H F2 H2 → H p = none → H2 p = none → DpAll X.K F2 ys (ds.mergeSort (byRank fun d => rank (κ d))) → Q (.ref p) (upd H2 p (.lst ys))) :
    wpAny (model X.prog X.w) X.A (call (.builtin "sorted") [.ref it] [(Str.ofString "key", fv)]) (EP X pins σ Q) X.xe s := by
  obtain ⟨T, o, its, n, hT, ho, hc, hdt, rv, hz⟩ : ∃ (T : String) (o : Obj) (its : List Value) (n : Nat), (T = "list" ∨ T = "tuple") ∧ s.heap.get? it = some o ∧ o.cls = .type T ∧ o.data = .seq its.toArray n ∧ Vals xs its ∧ xs.length ≤ sizeLine := by
    rcases hq with hq | hq
    · obtain ⟨its, rv, p, hz⟩ := I.list hq
      obtain ⟨o, ho, hc, n, hd⟩ := p.isList
      exact ⟨"list", o, its, n, .inl rfl, ho, hc, hd, rv, hz⟩
    · obtain ⟨its, rv, p, hz⟩ := I.tuple hq
      obtain ⟨o, ho, hc, n, hd⟩ := p
      exact ⟨"tuple", o, its, n, .inr rfl, ho, hc, hd, rv, hz⟩
  refine srt_seq hT ho hc hdt (by rw [List.size_toArray, ← rv.length]; exact hz) (ksk_s1 _ _) (fun _ => ksk_l1 _ _) fun h' E' kp => ?_
  have I1 : Inv X pins σ H { s with heap := h' } := I.kept (t' := s.toks) kp
  have I2 : Inv X pins σ H { s with heap := h'.push (seqObj "list" its.toArray 0) } := I1.kept (t' := s.toks) fun c o q => Heap.get?_push_of_some _ q
  have hn : H h'.objs.size = none := I1.hok.fresh (Nat.le_refl _)
  rw [ht]
  refine ks_tree (s := { s with heap := h'.push (seqObj "list" its.toArray 0) }) I2 tf fs (I1.fpOk (Nat.le_refl _) hn) (Heap.get?_push_size _ rfl) rv hd (by rw [← dpa_len hd]; exact hz) hal hsk (fun d hd => hu d hd) turn fun F2 H2 s2 ys I3 g oa dy => ?_
  exact ⟨rfl, .ref h'.objs.size, _, I3, rfl, q F2 H2 _ ys g hn oa dy⟩
end
end DL
namespace DL
open PySem PySem.Spec PyProof.Rows L2 LamX NdefX
variable [Tbs]
theorem Kp.at {H H' : Hp} {a : Addr} {o : HO} (h : Kp H H') (e : H a = some o) (n : ∀ ps, o ≠ .tbl ps) : H' a = some o := by
  rcases h a o e with r | ⟨ps, _, z, _⟩
  · exact r
  · exact absurd z (n ps)
theorem Gr.kp {F H H' : Hp} (tf : Tf F H) (fs : Same F H) (h : Kp H H') (t : Tab H') : Gr F H F H' :=
  ⟨h, Same.refl _, fun a o e => h.at (fs a o e) fun ps z => tf.n a ps (by rw [e, z]), fun a o e => .inl ⟨o, e⟩, fun q => ⟨t, q.n⟩⟩
/-! ### a lambda as a value -/
def tLam (mk : Addr → NF) (body : Expr) : TE := fun σ H Q => Tab H ∧ ∀ (f c' : Addr) (H1 : Hp), Kp H H1 → Tab H1 → H f = none → H1 f = some (LmO f (mk c') body) → H1 (mk c').c = some (CodeO (mk c').c (mk c').qual) → Q (.ref f) H1
section
variable {X : Cx} {pins : List (Addr × Obj)} {σ : L2.St} {H : Hp} {s : Shared}
theorem pe_lam {nm : Nat → Nat → Str} {c P : Addr} {params : Arguments} {body : Expr} {scope : Scope} {pos : Pos} (TB : TabB X.base X.mg c P) (hcode : X.env.code = .ref c)
    (hm : (P, nm) ∈ Tbs.T) (hn : nm pos.line pos.col = X.env.qual ++ "<lambda>") (hu : ∀ p ∈ Tbs.T, p.1 = P → p.2 = nm) (hdef : defaultsOf params X.env = ([], [])) (hfree : ∀ y ∈ scope.names, y.2 = .free → X.env.scope.names.lookup y.1 = some .cell ∨ X.env.scope.names.lookup y.1 = some .free) :
    PE X (.Lambda params body scope pos) (tLam (lamNF (X.env.qual ++ "<lambda>") params scope (cloFrom X.env.cells scope.names [])) body) := by
  refine ⟨fun pins s σ H Q I ⟨hT, q⟩ => ?_⟩
  have hfr : ∀ y ∈ scope.names, y.2 = .free → ∃ c, X.env.cells.lookup y.1 = some c := fun y hy e => (hfree y hy e).elim (fun z => I.ok.has _ (.inl z)) fun z => I.ok.has _ (.inr z)
  exact lm_make I TB hcode hm hn hu hT hdef hfr fun f c' H1 s' I1 kp t1 hf f1 c1 => ⟨.ref f, H1, I1, rfl, q f c' H1 kp t1 hf f1 c1⟩
/-- the calls of a lambda as a sort's key -/
theorem turn_lm {A : Around} {F : NF} {e : Expr} {ps fr : List Str} {js : List Nat} {k : Nat} {q : Addr} {κ : D → D} {ds : List D} {c : Con} (L : LOk X.prog X.w X.K X.mg X.base CX0 k q F e ps fr (fun _ => spD X.K c)) (hr : Room k A) (hA : A.frames = X.A.frames) (cp : X.Ok → Caps X F.cl fr js)
    (hq : H q = some (LmO q F e)) (hc : H F.c = some (CodeO F.c F.qual)) (hκ : ∀ d ∈ ds, c [d] fun y => y = κ d) : KTurn X pins σ H A (.ref q) κ ds := by
  intro F' H' s' x u d I tf fs kp r dp hd
  have e0 := I.env0
  refine wpAny_call (codeAny_mono (L.run A X.stack s' H' [u] [x] (js.map (slotAt σ)) (fun v H2 => ∃ F2, Gr F' H' F2 H2 ∧ Dp X.K F2 v (κ d)) E0 hr ⟨hA.trans e0.frames, e0.mod, e0.bs, e0.bsz, e0.funs, e0.frf, e0.hok, e0.bare⟩
    (kp.at hq lmO_ne) (kp.at hc codeO_ne) (cells_of I (cp I.ok)) (.cons r .nil) ⟨F', [d], fun y => y = κ d, tf, fs, .cons dp .nil, hκ d hd, fun y v F2 H2 e g dp2 => ⟨F2, g, e ▸ dp2⟩⟩) fun r s2 hr2 => ?_)
  cases r with
  | error e => exact False.elim hr2
  | ok fl =>
    cases fl with
    | next => exact False.elim hr2
    | brk => exact False.elim hr2
    | cont => exact False.elim hr2
    | ret k =>
      obtain ⟨v, H2, os, bare, un, hok, rel, F2, g, dp2⟩ := hr2
      obtain ⟨v', H2', I2, rel2, ev, eH⟩ := I.after (Q := fun v' H2' => v' = v ∧ H2' = H2) ⟨v, H2, os, bare, un, hok, rel, rfl, rfl⟩
      subst ev
      subst eH
      exact ⟨v', F2, H2', I2, rel2, g, dp2, fun a o n hs ea => ⟨un.keep a o ea n hs (by simp), un.free a o ea n (by simp)⟩⟩
/-- sorted(xs, key=lambda ..: ..) -/
def rSortK (X : Cx) (mk : Addr → NF) (body : Expr) (c : Con) : List V → List V → Hp → VK → Prop := fun vs zs H Q => ∃ it q c' F κ rank xs ds, vs = [.ref it] ∧ zs = [.ref q] ∧ Tf F H ∧ Same F H ∧ (SqL X.K H it xs ∨ SqT X.K H it xs) ∧ DpAll X.K F xs ds ∧
  Ranked rank (ds.map κ) ∧ Kinded (ds.map κ) ∧ (∀ d ∈ ds, (κ d).depth ≤ 100) ∧ H q = some (LmO q (mk c') body) ∧ H (mk c').c = some (CodeO (mk c').c (mk c').qual) ∧ (∀ d ∈ ds, c [d] fun y => y = κ d) ∧
  ∀ (F2 H2 : Hp) (p : Addr) (ys : List V), Gr F H F2 H2 → H p = none → H2 p = none → DpAll X.K F2 ys (ds.mergeSort (byRank fun d => rank (κ d))) → Q (.ref p) (upd H2 p (.lst ys))
theorem cr_sortK {mk : Addr → NF} {body : Expr} {c : Con} {ps fr : List Str} {js : List Nat} {k : Nat} (L : ∀ q c', LOk X.prog X.w X.K X.mg X.base CX0 k q (mk c') body ps fr (fun _ => spD X.K c)) (hr : Room (k + 2) X.A) (cp : ∀ c', X.Ok → Caps X (mk c').cl fr js) :
    CallRK X (.builtin "sorted") [Str.ofString "key"] (rSortK X mk body c) := by
  intro pins s σ H vs zs us ws Q I rv rz h
  obtain ⟨it, q, c', F, κ, rank, xs, ds, rfl, rfl, tf, fs, hq, hd, hal, hsk, hdep, h1, h2, hκ, fin⟩ := h
  obtain rfl := Vals.ref1 rv
  obtain ⟨w1, rfl, e1⟩ := vals1 rz
  obtain rfl : w1 = Value.ref q := e1
  refine ks_sorted I tf fs hq hd hal hsk (fun d hd => ?_) (fun x => ksk_t1 q x) (turn_lm (L q c') hr.in1.in1 rfl (cp c') h1 h2 hκ) fin
  have q1 := hr.un
  have q2 := hdep d hd
  omega
def lSortK (c : Con) (T : TD) : TDA := fun ρ R => T ρ fun d ρ' => ∃ ds κ rank, seqD d = some ds ∧ Ranked rank (ds.map κ) ∧ Kinded (ds.map κ) ∧ (∀ d ∈ ds, (κ d).depth ≤ 100) ∧ (∀ d ∈ ds, c [d] fun y => y = κ d) ∧ R (ds.mergeSort (byRank fun d => rank (κ d))) ρ'
theorem dl_sortK {mk : Addr → NF} {body lam e : Expr} {c : Con} {ps fr : List Str} {js : List Nat} {k : Nat} {T : TD} {p pos kpos : Pos} (ha : PA X [e] (tCons (liftB X.K T) tNil)) (hl : PE X lam (tLam mk body)) (L : ∀ q c', LOk X.prog X.w X.K X.mg X.base CX0 k q (mk c') body ps fr (fun _ => spD X.K c)) (hr : Room (k + 2) X.A) (cp : ∀ c', X.Ok → Caps X (mk c').cl fr js)
    (h : ∀ {r : List V → List V → Hp → VK → Prop} {t tk : TA}, CallRK X (.builtin "sorted") [Str.ofString "key"] r → PA X [e] t → PK X [⟨some (Str.ofString "key"), lam, kpos⟩] tk → PE X (.Call (.Name "sorted" p) [e] [⟨some (Str.ofString "key"), lam, kpos⟩] pos) (tCKw r t tk)) :
    DLs X (.Call (.Name "sorted" p) [e] [⟨some (Str.ofString "key"), lam, kpos⟩] pos) (lSortK c T) :=
  PE.weak (h (cr_sortK L hr cp) ha (pk_cons hl pk_nil)) fun σ H Q ⟨b, f, ρ, R, S, t, q⟩ =>
    ⟨b, f, ρ, _, S, t, fun d ρ' v f1 H1 ⟨ds, κ, rank, hs, hal, hsk, hdep, hκ, r⟩ S1 n1 bo => ⟨S1.tb.t, fun g c' H2 kp t2 hg g1 g2 => by
      have gr : Gr f1.F H1 f1.F H2 := Gr.kp S1.tb S1.fs kp t2
      have S2 := S1.grow gr
      have n2 : Nx f1 H1 f1 H2 := Nx.of_gr gr
      have bo2 := bo.next n2
      obtain ⟨it, xs, rfl, hq, hd⟩ : ∃ it xs, v = .ref it ∧ (SqL X.K H2 it xs ∨ SqT X.K H2 it xs) ∧ DpAll X.K f1.F xs ds := by
        rcases seqD_cases hs with rfl | rfl
        · obtain ⟨it, xs, e, hl, hd⟩ := bo2.lst S2.fs
          exact ⟨it, xs, e, .inl hl, hd⟩
        · obtain ⟨it, xs, e, hl, hd⟩ := bo2.tup S2.fs
          exact ⟨it, xs, e, .inr hl, hd⟩
      refine ⟨it, g, c', f1.F, κ, rank, xs, ds, rfl, rfl, S2.tb, S2.fs, hq, hd, hal, hsk, hdep, g1, g2, hκ, fun F3 H3 p ys g3 p2 p3 dy => ?_⟩
      have S3 := S2.grow g3
      have np : p ∉ f1.P := fun z => by
        obtain ⟨o, z'⟩ := S3.pots p z
        rw [p3] at z'; cases z'
      have no : ∀ (i : Nat) (s : Sl), ρ'[i]? = some s → isOwn s = true → σ[i]? ≠ some (some (V.ref p)) := fun i s hi ho z => by
        cases s with
        | own es =>
          obtain ⟨p', vs', e1, _, _, _, e4, _⟩ := S3.sl i _ hi
          rw [z] at e1
          have ep := V.ref.inj (Option.some.inj (Option.some.inj e1))
          rw [← ep, p3] at e4
          cases e4
        | no => cases ho
        | fz _ => cases ho
        | pot => cases ho
      obtain ⟨S4, O4⟩ := Own.put (p := p) (vs := ys) S3 (.inl p3) (S3.fs.free p3) (S3.bs.free p3) np no dy
      refine q _ ρ' p ⟨F3, f1.P⟩ _ r S4 (n1.trans S.pots (n2.trans S1.pots ⟨g3.ff, fun a o e _ => ?_, fun _ e => e, fun _ e => .inl e⟩)) O4
      rw [upd_ne (ne_of_none e p2)]
      exact g3.hh a o e⟩⟩
end
end DL
namespace DL
open PySem PySem.Spec PyProof.Rows L2 LamX NdefX
variable [Tbs]
/-! ### a lambda by its body (nothing captured) -/
theorem startF_nil (N : List Str) (vs : List V) : startF N vs [] = L2.start N vs := by
  unfold startF L2.start
  rw [List.nil_append, List.length_nil, Nat.sub_zero]
theorem lm_D {P : Program} {w : World} {K : PySem.W.Frag} {mg : Str → Option Value} {base : Heap} {N ps : List Str} {F : NF} {e : Expr} {f : Addr} {k : Nat} {c : Con} {T : TD} (S : NScope N ps [] F.scope)
    (hb : ∀ (pm ctv : Value) (us : List Value), us.length = ps.length → bindArgs (PySem.W.kla_fn "<lambda>" F.qual F.params e F.scope F.cl pm (.ref F.c) ctv) ⟨us, []⟩ = pure (ps.zip us)) (hN : ps.length ≤ N.length) (hl : ∀ ds R, c ds R → ds.length = ps.length)
    (body : ∀ (A : Around) (outer : List Env) (s : Shared) (H : Hp) (E : XK), Room k (A.deeper (envF F f s.heap.objs.size)) → DE (ncx CX0 P w K mg base N F f A outer s H E) e T)
    (hq : ∀ ds R, c ds R → T (dstart ds N.length) fun d _ => R d) : LOk P w K mg base CX0 (k + 1) f F e ps [] (fun _ => spD K c) := by
  refine lok_of S hb (fun ws vs H Q E ⟨F0, ds, R, _, _, h, hc, _⟩ => by rw [dpa_len h]; exact hl ds R hc) (fun A outer s H vs ws Q E hr hw ⟨F0, ds, R, ht, hs, h, hc, q⟩ => ?_)
  have ew : ws = [] := List.eq_nil_of_length_eq_zero (by rw [hw]; rfl)
  subst ew
  rw [startF_nil]
  refine ⟨_, body A outer s H E hr, ⟨H, F0, []⟩, ⟨F0, []⟩, _, _, Sim.begin ht hs h (by rw [dpa_len h, hl ds R hc]; exact hN), hq ds R hc, fun d ρ' v f' H' r S' n dp => ?_⟩
  exact q d v f'.F H' r S'.gr dp
end DL
namespace DL
open PySem PySem.Spec PyProof.Rows L2
variable [Tbs]
/-! ### a comprehension whose turns are functions -/
theorem lc_in {vs : List Nat} {G : TDG} {Tt : TDT} {Te : TD} {ds : List D} {ρ : DS} {R : List D → DS → Prop} (hz : ds.length < sizeLine) (hno : noOwn ρ vs) (p : D → Bool) (f : D → D)
    (step : ∀ d ∈ ds, ∀ (W1 : D → Prop) (W0 : Prop), (p d = true → W1 (f d)) → (p d = false → W0) → G d (wipeD ρ vs) fun ρ2 => Tt ρ2 fun c ρ3 => ρ3 = ρ2 ∧ if c = true then Te ρ3 (fun y ρ4 => ρ4 = ρ3 ∧ W1 y) else W0) (fin : R ((ds.filter p).map f) ρ) :
    ds.length < sizeLine ∧ noOwn ρ vs ∧ ∃ W : Nat → List D → Prop, W 0 [] ∧
      (∀ i d acc, ds[i]? = some d → W i acc → G d (wipeD ρ vs) fun ρ2 => Tt ρ2 fun c ρ3 => ρ3 = ρ2 ∧ if c = true then Te ρ3 (fun y ρ4 => ρ4 = ρ3 ∧ W (i + 1) (acc ++ [y])) else W (i + 1) acc) ∧
      ∀ acc, W ds.length acc → R acc ρ := by
  refine ⟨hz, hno, fun i acc => acc = ((ds.take i).filter p).map f, rfl, fun i d acc hi e => ?_, fun acc e => ?_⟩
  · have et : ds.take (i + 1) = ds.take i ++ [d] := by rw [List.take_add_one, hi]; rfl
    refine step d (List.mem_of_getElem? hi) (fun y => acc ++ [y] = ((ds.take (i + 1)).filter p).map f) (acc = ((ds.take (i + 1)).filter p).map f) (fun h => ?_) fun h => ?_
    · rw [et, List.filter_append, List.map_append, ← e, List.filter_cons_of_pos h]; rfl
    · rw [et, List.filter_append, List.map_append, ← e, List.filter_cons_of_neg (by rw [h]; decide)]; exact (List.append_nil _).symm
  · have e2 : acc = ((ds.take ds.length).filter p).map f := e
    rw [e2, List.take_length]
    exact fin
/-- without an if -/
theorem lc_map {vs : List Nat} {G : TDG} {Te : TD} {ds : List D} {ρ : DS} {R : List D → DS → Prop} (hz : ds.length < sizeLine) (hno : noOwn ρ vs) (f : D → D)
    (step : ∀ d ∈ ds, ∀ (W1 : D → Prop), W1 (f d) → G d (wipeD ρ vs) fun ρ2 => Te ρ2 (fun y ρ4 => ρ4 = ρ2 ∧ W1 y)) (fin : R (ds.map f) ρ) :
    ds.length < sizeLine ∧ noOwn ρ vs ∧ ∃ W : Nat → List D → Prop, W 0 [] ∧
      (∀ i d acc, ds[i]? = some d → W i acc → G d (wipeD ρ vs) fun ρ2 => tYesD ρ2 fun c ρ3 => ρ3 = ρ2 ∧ if c = true then Te ρ3 (fun y ρ4 => ρ4 = ρ3 ∧ W (i + 1) (acc ++ [y])) else W (i + 1) acc) ∧
      ∀ acc, W ds.length acc → R acc ρ := by
  refine ⟨hz, hno, fun i acc => acc = (ds.take i).map f, rfl, fun i d acc hi e => ?_, fun acc e => ?_⟩
  · have et : ds.take (i + 1) = ds.take i ++ [d] := by rw [List.take_add_one, hi]; rfl
    have h := step d (List.mem_of_getElem? hi) (fun y => acc ++ [y] = (ds.take (i + 1)).map f) (by rw [et, List.map_append, ← e]; rfl)
    unfold tYesD
    simp only [if_true, true_and]
    exact h
  · have e2 : acc = (ds.take ds.length).map f := e
    rw [e2, List.take_length]
    exact fin
theorem len_le {ds : List D} (h : ds.length ≤ 1000) : ds.length ≤ sizeLine := by rw [sizeLine_eq]; omega
theorem len_lt {ds : List D} (h : ds.length ≤ 1000) : ds.length < sizeLine := by rw [sizeLine_eq]; omega
theorem room64 {k : Nat} {A : Around} (r : Room k A) : A.units + 64 < cLine := r.units
theorem room65 {k : Nat} {A : Around} (r : Room k A) : A.units + 65 < cLine := by have := r.un; omega
/-! ### a def whose code object is known (it makes lambdas) -/
structure FunC (K : PySem.W.Frag) (x qual : Str) (st : Stmt) (f : Addr) (fd : FuncData) (c : Addr) : Prop where
  ex : ∃ (oc : Value) (od : Option Addr) (kV doc pm : Value) (an : Option Addr) (ct : Value) (osl : Array (Option Value)),
    fd = PySem.W.fnOf x qual (defArgs st) (defBody st) (defScope st) .none kV doc pm an (.ref c) ct ∧ K.lookup f = some ⟨oc, od, .func fd, osl⟩ ∧ PySem.W.codeIn K (.ref c) qual = true
  kp : PySem.W.keepIn K (.ref f) = true
theorem FunC.fn {K : PySem.W.Frag} {x qual : Str} {st : Stmt} {f c : Addr} {fd : FuncData} (F : FunC K x qual st f fd c) : Fun K x qual st f fd := by
  obtain ⟨oc, od, kV, doc, pm, an, ct, osl, h1, h2, h3⟩ := F.ex
  exact ⟨⟨oc, od, kV, doc, pm, an, _, ct, osl, h1, h2, h3⟩, F.kp⟩
section
variable {P : Program} {w : World} {K : PySem.W.Frag} {mg : Str → Option Value} {base : Heap} {x qual : Str} {st : Stmt} {f c0 : Addr} {fd : FuncData} {N ps : List Str} {k : Nat} {c : Con} {T : TDS}
theorem ok_DC (F : FunC K x qual st f fd c0) (S : FnScope N ps (defScope st)) (hN : ps.length ≤ N.length) (hl : ∀ ds R, c ds R → ds.length = ps.length)
    (hb : ∀ (A : Around) (outer : List Env) (s : Shared) (H : Hp) (E : XK), Room k (A.deeper (envOfC qual (defScope st) s.heap.objs.size f (.ref c0))) → DSs (cxOf CX0 P w K mg base N qual (defScope st) f (.ref c0) A outer s H E).nox (defBody st) T)
    (hq : ∀ ds R, c ds R → T (endsD R) (dstart ds N.length)) : FnOk P w K mg base CX0 (k + 1) f fd ps (spD K c) := by
  obtain ⟨oc, od, kV, doc, pm, an, ct, osl, rfl, lk, hcd⟩ := F.ex
  refine fn_of lk hcd S (fun vs H Q E ⟨F0, ds, R, _, _, h, hc, _⟩ => by rw [dpa_len h]; exact hl ds R hc) fun A outer s H vs Q E hr ⟨F0, ds, R, ht, hs, h, hc, q⟩ => ?_
  refine ⟨_, (hb A outer s H E hr).nox, ⟨H, F0, []⟩, ⟨F0, []⟩, _, endsD R, Sim.begin ht hs h (by rw [dpa_len h, hl ds R hc]; exact hN), hq ds R hc, ⟨?_, ?_, ?_, ?_, ?_⟩⟩
  · exact fun ρ σ f' H' r S' => q .none .non f'.F H' r S'.gr .non
  · exact fun d ρ v σ f' H' r S' dp => q d v f'.F H' r S'.gr dp
  · exact fun _ _ _ _ r _ => r.elim
  · exact fun _ _ _ _ r _ => r.elim
  · intro es ρ p σ f' H' r S' O
    obtain ⟨F', g, dp⟩ := O.froze S'
    exact q _ _ F' H' r g dp
end
theorem de_cb {X : Cx} {e : Expr} {es : List Expr} {pos : Pos} {Tr : TDA} {x : Str} {p : Pos} {id : String} {r : List D → (D → Prop) → Prop} (hc : CallR X (.builtin id) (liftC X.K r)) (ha : DBA X (e :: es) Tr)
    (h : ∀ (r' : List V → Hp → VK → Prop) (t' : TA), CallR X (.builtin id) r' → PA X (e :: es) t' → PE X (.Call (.Name x p) (e :: es) [] pos) (tCB r' t')) : DE X (.Call (.Name x p) (e :: es) [] pos) (dCall r Tr) := PE.weak (h _ _ hc ha) call_weak
/-! ### a def that may be called by its name -/
structure CalD (P : Program) (w : World) (K : PySem.W.Frag) (mg : Str → Option Value) (base : Heap) (k : Nat) (x : Str) (sp : Sp) : Prop where
  ex : ∃ (f : Addr) (fd : FuncData) (ps : List Str), FnOk P w K mg base CX0 k f fd ps sp ∧ mg x = some (.ref f) ∧ PySem.W.keepIn K (.ref f) = true ∧ Binds K fd ps []
theorem pe_cd {X : Cx} {j k : Nat} {x : Str} {sp : Sp} {p pos : Pos} {e : Expr} {es : List Expr} {t : TA} (c : CalD X.prog X.w X.K X.mg X.base k x sp) (hr : Room j X.A) (hk : k ≤ j) (hg : Gl X x) (ha : PA X (e :: es) t)
    (hdb : (x == ("__debug__" : Str)) = false := by decide) (he : starEach (e :: es) X.env = (false, eval e X.env) :: starEach es X.env := by rfl) (hpl : (backTo pos (starEach es X.env)).any (·.1) = false := by rfl) :
    PE X (.Call (.Name x p) (e :: es) [] pos) (tCall sp [] E0 t) := by
  obtain ⟨f, fd, ps, F, hm, kp, b⟩ := c.ex
  exact pe_call F (hr.mono hk) hg hm kp b .nil pass0 ha hdb he hpl
theorem noOwn_of {ρ : DS} {vs : List Nat} (h : (vs.all fun i => match ρ[i]? with | some (.own _) => false | _ => true) = true) : noOwn ρ vs := fun i hi ds e => by
  have q := List.all_eq_true.mp h i hi
  rw [e] at q
  cases q
theorem seq_iter {d : D} {l : List D} (h : seqD d = some l) : iterD d = some l := by
  rcases seqD_cases h with rfl | rfl <;> rfl
end DL
namespace DL
open PySem PySem.Spec PyProof.Rows L2 LamX NdefX
/-! ### the end: what the top has left -/
/-- each def of the top has a code object with an empty table -/
def TabAll (q : Program) (mg : Str → Option Value) (h : Heap) : Prop := ∀ dL ∈ recsOf q, ∃ a o fd c P, mg dL.name = some (.ref a) ∧ h.get? a = some o ∧ o.data = .func fd ∧ fd.code = .ref c ∧ h.IsCode c P #[] ∧ h.TableAt c P #[]
theorem walk_tabs {l : PySem.W.OpenLaw} {most k : Nat} {q : Program} {loose : List Str} {XP : (Str → Option Value) → Heap → Prop} {YP : World → Heap → Prop} {d : DefRec} {K : Params → PySem.W.Frag} {CX : World → CXT} {x : Str} (hmost : l.most = some most) (hsz : most ≤ sizeLine)
    (hdef : d.params.defaults = []) (room : Room k callerA) (known : ∀ (w : World) (h : Heap), YP w h → (K w.params).In h)
    (F : ∀ (w : World) (mg : Str → Option Value) (fa : Addr) (h : Heap), YP w h → (K w.params).In h → h.Ns mainGlobals mg → mg d.name = some (.ref fa) → TabAll q mg h → LawAtS l w (K w.params) (CX w) k most x mg fa h)
    (calm : ∀ (w : World) (H : Hp) (s : Shared) (e : Value) (s' : Shared), CX w [] H s (fun _ _ _ => False) e s' → False) : PySem.W.WalkO q loose XP YP l.row.toRowW d [] (fun f vs => PySem.call f vs) := by
  refine Att.attach_callB hmost hdef fun w s0 s1 mg mb fa ob pm cd doc a us ns top yy _ _ _ hmg hobj hints hlen hbits hgen => ?_
  have inh := known w _ yy
  obtain ⟨fd, cs, sp, t1, t2, t3, t4, t5, t6⟩ := F w mg fa _ yy inh top.T.g hmg top.T.tab
  exact law_callTs inh top.T.g top.T.b top.T.builtins top.T.nolimit hgen t1 t2 t3 top.T.bmain hobj hints (Nat.le_trans hlen hsz) room t6 t4 (fun H tb sq => t5 H a ns hlen hbits tb sq) fun H e s' => calm w H s1 e s'
/-- .. of a def that stands among the known objects -/
theorem tab_at {q : Program} {mg : Str → Option Value} {h : Heap} {K : PySem.W.Frag} {y : Str} {f c P : Addr} {o : Obj} {fd : FuncData} {e : Value} {dd : Option Addr} {vs : Array Value} {sl : Array (Option Value)} (t : TabAll q mg h) (inh : K.In h) (hr : ((recsOf q).any fun r => r.name == y) = true)
    (hm : mg y = some (.ref f)) (k1 : K.lookup f = some o) (k2 : o.data = .func fd) (k3 : fd.code = .ref c) (k4 : K.lookup c = some ⟨e, dd, .fields vs, sl⟩) (k5 : vs[11]? = some (.ref P)) :
    PySem.W.CodeHd h c P ∧ h.get? P = some { cls := .none, data := .fields #[] } := by
  obtain ⟨r, hr1, hr2⟩ := List.any_eq_true.mp hr
  have en : r.name = y := beq_iff_eq.mp hr2
  obtain ⟨a', o', fd', c', P', h1, h2, h3, h4, h5, h6⟩ := t r hr1
  rw [en, hm] at h1
  cases h1
  have g1 := inh _ _ k1
  rw [g1] at h2
  cases h2
  rw [k2] at h3
  cases h3
  rw [k3] at h4
  cases h4
  have ch := PySem.W.CodeHd.of h5 h6
  obtain ⟨⟨co, us, e1, _, e3, e4⟩, htab⟩ := h6
  have g2 := inh _ _ k4
  rw [g2] at e1
  cases e1
  cases e3
  rw [k5] at e4
  cases e4
  exact ⟨ch, htab⟩
/-- what is known but the tables -/
def noTbl (H : Hp) : Hp := fun b => match H b with
  | some (.tbl _) => none
  | o => o
theorem noTbl_of {H : Hp} {a : Addr} {o : HO} (e : H a = some o) (n : ∀ ps, o ≠ .tbl ps) : noTbl H a = some o := by
  unfold noTbl
  rw [e]
  cases o with
  | tbl ps => exact absurd rfl (n ps)
  | _ => rfl
theorem noTbl_same (H : Hp) : Same (noTbl H) H := fun b o e => by
  unfold noTbl at e
  split at e
  · cases e
  · exact e
theorem noTbl_no (H : Hp) : ∀ a ps, noTbl H a ≠ some (.tbl ps) := fun a ps e => by
  unfold noTbl at e
  split at e
  · cases e
  · rename_i n
    exact n ps e
theorem noTbl_seq {K : PySem.W.Frag} {H : Hp} {a : Addr} {xs : List V} (h : SqL K H a xs) : SqL K (noTbl H) a xs := by
  rcases h with (h | ⟨o, h⟩) | h
  · exact .inl (.inl (noTbl_of h fun _ z => by cases z))
  · exact .inl (.inr ⟨o, noTbl_of h fun _ z => by cases z⟩)
  · exact .inr h
theorem dpa_intsV {K : PySem.W.Frag} {H : Hp} : ∀ ns : List Int, DpAll K H (ns.map V.int) (ns.map PyData.int)
  | [] => .nil
  | n :: ns => .cons (.int n) (dpa_intsV ns)
variable [Tbs]
theorem CalD.mono {P : Program} {w : World} {K : PySem.W.Frag} {mg : Str → Option Value} {base : Heap} {j k : Nat} {x : Str} {sp : Sp} (c : CalD P w K mg base j x sp) (h : j ≤ k) : CalD P w K mg base k x sp := by
  obtain ⟨f, fd, ps, F, h1, h2, h3⟩ := c.ex
  exact ⟨f, fd, ps, F.mono h, h1, h2, h3⟩
/-- the script is passed, the tables are empty -/
theorem law_in {K : PySem.W.Frag} {H : Hp} {a : Addr} {ns : List Int} {c : Con} {E : XK} (hT : ∀ p ∈ Tbs.T, H p.1 = some (.tbl #[])) (hS : SqL K H a (ns.map V.int)) (hc : c [.list (ns.map PyData.int)] fun d => d = .bool true) : spD K c [.ref a] H (fun v _ => v = .bl true) E :=
  ⟨noTbl H, _, _, ⟨fun p hp => TabN.nil (hT p hp), noTbl_no H⟩, noTbl_same H, .cons (.lst (noTbl_seq hS) (dpa_intsV ns)) .nil, hc, fun d v F' H' e _ dp => by
    subst e
    cases dp
    rfl⟩
end DL
namespace P37
open PySem PySem.Spec PyProof.Rows L2 DL
/-! ### the seven callbacks, sets of them -/
def keyD : D → D
  | .str x => .tuple [.int 0, .str x]
  | d => .tuple [.int 1, d]
def placeD : D → D
  | .str x => .tuple [.int 0, .str x, .tuple []]
  | .tuple [x, y] => .tuple [.int 1, x, y]
  | d => d
def uList : List D := [.str "b", .str "c", .str "zz", .tuple [.str "a", .tuple []], .tuple [.str "a", .tuple [.str "b"]], .tuple [.str "b", .tuple []], .tuple [.str "zz", .tuple []]]
def u (i : Nat) : D := uList.getD i .none
def S (ix : List Nat) : D := .tuple (ix.map u)
structure Good (ix : List Nat) : Prop where
  up : ix.Pairwise (· < ·)
  lt : ∀ i ∈ ix, i < 7
theorem eqv_u : ∀ i, i < 7 → ∀ j, j < 7 → PyData.eqv (u i) (u j) = decide (i = j) := by decide +kernel
theorem lay_u : ∀ i, i < 7 → (u i).canLay0 = true := by decide +kernel
theorem dep_u : ∀ i, i < 7 → (u i).depth ≤ 10 := by decide +kernel
/-- seven data in order -/
structure Seven (f : Nat → D) : Prop where
  eq : ∀ i, i < 7 → ∀ j, j < 7 → PyData.eqv (f i) (f j) = decide (i = j)
  lt : ∀ i, i < 7 → ∀ j, j < 7 → i ≠ j → ltD (f i) (f j) = some (decide (i < j))
  lay : ∀ i, i < 7 → (f i).canLay0 = true
  dep : ∀ i, i < 7 → (f i).depth ≤ 10
theorem sevenK : Seven fun i => keyD (u i) := ⟨by decide +kernel, by decide +kernel, by decide +kernel, by decide +kernel⟩
theorem sevenP : Seven fun i => placeD (u i) := ⟨by decide +kernel, by decide +kernel, by decide +kernel, by decide +kernel⟩
def lexB : List Nat → List Nat → Bool
  | [], [] => false
  | [], _ :: _ => true
  | _ :: _, [] => false
  | i :: r, j :: t => if i = j then lexB r t else decide (i < j)
section
variable {f : Nat → D} (F : Seven f)
theorem ltAll_lex (F : Seven f) : ∀ (ix jx : List Nat), (∀ i ∈ ix, i < 7) → (∀ j ∈ jx, j < 7) → ltAll (ix.map f) (jx.map f) = some (lexB ix jx)
  | [], [], _, _ => rfl
  | [], _ :: _, _, _ => rfl
  | _ :: _, [], _, _ => rfl
  | i :: r, j :: t, h1, h2 => by
    have hi := h1 i List.mem_cons_self
    have hj := h2 j List.mem_cons_self
    show (if PyData.eqv (f i) (f j) = true then ltAll (r.map f) (t.map f) else ltD (f i) (f j)) = some (if i = j then lexB r t else decide (i < j))
    rw [F.eq i hi j hj]
    by_cases q : i = j
    · rw [if_pos (decide_eq_true q), if_pos q]
      exact ltAll_lex F r t (fun x hx => h1 x (List.mem_cons_of_mem _ hx)) fun x hx => h2 x (List.mem_cons_of_mem _ hx)
    · rw [if_neg (fun z => q (of_decide_eq_true z)), if_neg q]
      exact F.lt i hi j hj q
theorem ltEach_lex (F : Seven f) : ∀ (ix jx : List Nat), (∀ i ∈ ix, i < 7) → (∀ j ∈ jx, j < 7) → ltEach (ix.map f) (jx.map f) = some (lexB ix jx)
  | [], [], _, _ => rfl
  | [], _ :: _, _, _ => rfl
  | _ :: _, [], _, _ => rfl
  | i :: r, j :: t, h1, h2 => by
    have hi := h1 i List.mem_cons_self
    have hj := h2 j List.mem_cons_self
    have ih := ltEach_lex F r t (fun x hx => h1 x (List.mem_cons_of_mem _ hx)) fun x hx => h2 x (List.mem_cons_of_mem _ hx)
    show (match ltEach (r.map f) (t.map f) with | none => none | some k => if PyData.eqv (f i) (f j) = true then some k else ltD (f i) (f j)) = some (if i = j then lexB r t else decide (i < j))
    rw [ih]
    show (if PyData.eqv (f i) (f j) = true then some (lexB r t) else ltD (f i) (f j)) = _
    rw [F.eq i hi j hj]
    by_cases q : i = j
    · rw [if_pos (decide_eq_true q), if_pos q]
    · rw [if_neg (fun z => q (of_decide_eq_true z)), if_neg q]
      exact F.lt i hi j hj q
theorem eqvAll_map (E : ∀ i, i < 7 → ∀ j, j < 7 → PyData.eqv (f i) (f j) = decide (i = j)) : ∀ (ix jx : List Nat), (∀ i ∈ ix, i < 7) → (∀ j ∈ jx, j < 7) → PyData.eqvAll (ix.map f) (jx.map f) = decide (ix = jx)
  | [], [], _, _ => by rw [List.map_nil, PyData.eqvAll]; rfl
  | [], j :: t, _, _ => by rw [List.map_nil, List.map_cons, PyData.eqvAll]; rfl
  | i :: r, [], _, _ => by rw [List.map_nil, List.map_cons, PyData.eqvAll]; rfl
  | i :: r, j :: t, h1, h2 => by
    rw [List.map_cons, List.map_cons, PyData.eqvAll, E i (h1 i List.mem_cons_self) j (h2 j List.mem_cons_self), eqvAll_map E r t (fun x hx => h1 x (List.mem_cons_of_mem _ hx)) fun x hx => h2 x (List.mem_cons_of_mem _ hx)]
    by_cases q : i = j
    · by_cases q2 : r = t
      · rw [decide_eq_true q, decide_eq_true q2, decide_eq_true (by rw [q, q2])]; rfl
      · rw [decide_eq_false q2, decide_eq_false (fun z => q2 (List.cons.inj z).2), Bool.and_false]
    · rw [decide_eq_false q, decide_eq_false (fun z => q (List.cons.inj z).1), Bool.false_and]
theorem layAll_map (L : ∀ i, i < 7 → (f i).canLay0 = true) : ∀ ix : List Nat, (∀ i ∈ ix, i < 7) → PyData.canLayAll0 (ix.map f) = true
  | [], _ => rfl
  | i :: r, h => by
    show ((f i).canLay0 && PyData.canLayAll0 (r.map f)) = true
    rw [L i (h i List.mem_cons_self), layAll_map L r fun x hx => h x (List.mem_cons_of_mem _ hx)]
    rfl
theorem depAll_map (L : ∀ i, i < 7 → (f i).depth ≤ 10) : ∀ ix : List Nat, (∀ i ∈ ix, i < 7) → PyData.depthAll (ix.map f) ≤ 10
  | [], _ => Nat.zero_le _
  | i :: r, h => by
    show max (f i).depth (PyData.depthAll (r.map f)) ≤ 10
    exact Nat.max_le.mpr ⟨L i (h i List.mem_cons_self), depAll_map L r fun x hx => h x (List.mem_cons_of_mem _ hx)⟩
end
/-! ### the rank of a set -/
def code : List Nat → Nat
  | [] => 0
  | i :: r => i * 8 ^ r.length + code r
theorem code_lt : ∀ ix : List Nat, (∀ i ∈ ix, i < 7) → code ix < 8 ^ ix.length
  | [], _ => Nat.one_pos
  | i :: r, h => by
    have h1 := code_lt r fun x hx => h x (List.mem_cons_of_mem _ hx)
    have h2 : (i + 1) * 8 ^ r.length ≤ 8 * 8 ^ r.length := Nat.mul_le_mul_right _ (by have := h i List.mem_cons_self; omega)
    show i * 8 ^ r.length + code r < 8 ^ (r.length + 1)
    rw [Nat.pow_succ, Nat.mul_comm (8 ^ r.length) 8]
    rw [Nat.add_mul, Nat.one_mul] at h2
    omega
theorem code_lex : ∀ ix jx : List Nat, ix.length = jx.length → (∀ i ∈ ix, i < 7) → (∀ j ∈ jx, j < 7) → lexB ix jx = decide (code ix < code jx)
  | [], [], _, _, _ => rfl
  | [], _ :: _, h, _, _ => by cases h
  | _ :: _, [], h, _, _ => by cases h
  | i :: r, j :: t, h, h1, h2 => by
    have hl : r.length = t.length := Nat.succ.inj h
    have c1 := code_lt r fun x hx => h1 x (List.mem_cons_of_mem _ hx)
    have c2 := code_lt t fun x hx => h2 x (List.mem_cons_of_mem _ hx)
    have ih := code_lex r t hl (fun x hx => h1 x (List.mem_cons_of_mem _ hx)) fun x hx => h2 x (List.mem_cons_of_mem _ hx)
    show (if i = j then lexB r t else decide (i < j)) = decide (i * 8 ^ r.length + code r < j * 8 ^ t.length + code t)
    rw [hl]
    rw [hl] at c1
    by_cases q : i = j
    · rw [if_pos q, ih, q]
      by_cases z : code r < code t
      · rw [decide_eq_true z, decide_eq_true (by omega)]
      · rw [decide_eq_false z, decide_eq_false (by omega)]
    · rw [if_neg q]
      rcases Nat.lt_or_gt_of_ne q with z | z
      · have m : (i + 1) * 8 ^ t.length ≤ j * 8 ^ t.length := Nat.mul_le_mul_right _ z
        rw [Nat.add_mul, Nat.one_mul] at m
        rw [decide_eq_true z, decide_eq_true (by omega)]
      · have m : (j + 1) * 8 ^ t.length ≤ i * 8 ^ t.length := Nat.mul_le_mul_right _ z
        rw [Nat.add_mul, Nat.one_mul] at m
        rw [decide_eq_false (by omega), decide_eq_false (by omega)]
theorem len_bound : ∀ (ix : List Nat) (lo : Nat), ix.Pairwise (· < ·) → (∀ i ∈ ix, lo ≤ i ∧ i < 7) → ix.length + lo ≤ 7 ∨ ix = []
  | [], _, _, _ => .inr rfl
  | i :: r, lo, h, hb => by
    obtain ⟨h1, h2⟩ := List.pairwise_cons.mp h
    have hi := hb i List.mem_cons_self
    rcases len_bound r (i + 1) h2 (fun x hx => ⟨h1 x hx, (hb x (List.mem_cons_of_mem _ hx)).2⟩) with q | q
    · left
      rw [List.length_cons]
      omega
    · left
      rw [q]
      show 0 + 1 + lo ≤ 7
      omega
theorem Good.len {ix : List Nat} (g : Good ix) : ix.length ≤ 7 := by
  rcases len_bound ix 0 g.up (fun i hi => ⟨Nat.zero_le _, g.lt i hi⟩) with q | q
  · omega
  · rw [q]; exact Nat.zero_le _
def rkI (ix : List Nat) : Int := ix.length * 16777216 + code ix
theorem rkI_lt {ix jx : List Nat} (g : Good ix) (k : Good jx) : decide (rkI ix < rkI jx) = if ix.length = jx.length then lexB ix jx else decide (ix.length < jx.length) := by
  have c1 := code_lt ix g.lt
  have c2 := code_lt jx k.lt
  have b1 : 8 ^ ix.length ≤ 8 ^ 7 := Nat.pow_le_pow_right (by decide) g.len
  have b2 : 8 ^ jx.length ≤ 8 ^ 7 := Nat.pow_le_pow_right (by decide) k.len
  have e : 8 ^ 7 = 2097152 := rfl
  rw [e] at b1 b2
  unfold rkI
  by_cases q : ix.length = jx.length
  · rw [if_pos q, code_lex ix jx q g.lt k.lt, q]
    by_cases z : code ix < code jx
    · rw [decide_eq_true z, decide_eq_true (by omega)]
    · rw [decide_eq_false z, decide_eq_false (by omega)]
  · rw [if_neg q]
    by_cases z : ix.length < jx.length
    · rw [decide_eq_true z, decide_eq_true (by omega)]
    · rw [decide_eq_false z, decide_eq_false (by omega)]
/-! ### the keys: (number, tuple) and (number, list) -/
def kA : D → D
  | .tuple l => .tuple [.int l.length, .tuple (l.map keyD)]
  | d => d
def kB : D → D
  | .tuple l => .tuple [.int l.length, .list (l.map placeD)]
  | d => d
def pos (f : Nat → D) (k : D) : Nat := ((List.range 7).find? fun i => PyData.eqv (f i) k).getD 0
theorem posK : ∀ i, i < 7 → pos (fun i => keyD (u i)) (keyD (u i)) = i := by decide +kernel
theorem posP : ∀ i, i < 7 → pos (fun i => placeD (u i)) (placeD (u i)) = i := by decide +kernel
def rank : D → Int
  | .tuple [.int n, .tuple ks] => n * 16777216 + code (ks.map (pos fun i => keyD (u i)))
  | .tuple [.int n, .list ks] => n * 16777216 + code (ks.map (pos fun i => placeD (u i)))
  | _ => 0
theorem map_pos {f : Nat → D} (h : ∀ i, i < 7 → pos f (f i) = i) : ∀ ix : List Nat, (∀ i ∈ ix, i < 7) → (ix.map f).map (pos f) = ix
  | [], _ => rfl
  | i :: r, h1 => by
    rw [List.map_cons, List.map_cons, h i (h1 i List.mem_cons_self), map_pos h r fun x hx => h1 x (List.mem_cons_of_mem _ hx)]
theorem kA_S (ix : List Nat) : kA (S ix) = .tuple [.int ix.length, .tuple (ix.map fun i => keyD (u i))] := by
  show PyData.tuple [.int ((ix.map u).length : Nat), .tuple ((ix.map u).map keyD)] = _
  rw [List.length_map, List.map_map]
  rfl
theorem kB_S (ix : List Nat) : kB (S ix) = .tuple [.int ix.length, .list (ix.map fun i => placeD (u i))] := by
  show PyData.tuple [.int ((ix.map u).length : Nat), .list ((ix.map u).map placeD)] = _
  rw [List.length_map, List.map_map]
  rfl
theorem rank_kA {ix : List Nat} (g : Good ix) : rank (kA (S ix)) = rkI ix := by
  rw [kA_S]
  show (ix.length : Int) * 16777216 + code ((ix.map fun i => keyD (u i)).map (pos fun i => keyD (u i))) = rkI ix
  rw [map_pos posK ix g.lt]
  rfl
theorem rank_kB {ix : List Nat} (g : Good ix) : rank (kB (S ix)) = rkI ix := by
  rw [kB_S]
  show (ix.length : Int) * 16777216 + code ((ix.map fun i => placeD (u i)).map (pos fun i => placeD (u i))) = rkI ix
  rw [map_pos posP ix g.lt]
  rfl
theorem ltD_kA {ix jx : List Nat} (g : Good ix) (k : Good jx) : ltD (kA (S ix)) (kA (S jx)) = some (decide (rank (kA (S ix)) < rank (kA (S jx)))) := by
  rw [rank_kA g, rank_kA k, rkI_lt g k, kA_S, kA_S]
  show (if PyData.eqv (.int (ix.length : Int)) (.int (jx.length : Int)) = true then (if PyData.eqv (.tuple (ix.map fun i => keyD (u i))) (.tuple (jx.map fun i => keyD (u i))) = true then some false else ltAll (ix.map fun i => keyD (u i)) (jx.map fun i => keyD (u i))) else some (decide ((ix.length : Int) < (jx.length : Int)))) = _
  have e1 : PyData.eqv (.int (ix.length : Int)) (.int (jx.length : Int)) = decide (ix.length = jx.length) := by
    rw [PyData.eqv]
    by_cases q : ix.length = jx.length
    · rw [q]; simp
    · rw [decide_eq_false q]; simp; omega
  have e2 : PyData.eqv (.tuple (ix.map fun i => keyD (u i))) (.tuple (jx.map fun i => keyD (u i))) = decide (ix = jx) := by
    rw [PyData.eqv]
    exact eqvAll_map sevenK.eq ix jx g.lt k.lt
  rw [e1, e2, ltAll_lex sevenK ix jx g.lt k.lt]
  by_cases q : ix.length = jx.length
  · rw [if_pos (decide_eq_true q), if_pos q]
    by_cases z : ix = jx
    · rw [if_pos (decide_eq_true z), z, code_lex jx jx rfl k.lt k.lt, decide_eq_false (Nat.lt_irrefl _)]
    · rw [if_neg (fun c => z (of_decide_eq_true c))]
  · rw [if_neg (fun c => q (of_decide_eq_true c)), if_neg q]
    by_cases z : ix.length < jx.length
    · rw [decide_eq_true z, decide_eq_true (by omega)]
    · rw [decide_eq_false z, decide_eq_false (by omega)]
theorem ltD_kB {ix jx : List Nat} (g : Good ix) (k : Good jx) : ltD (kB (S ix)) (kB (S jx)) = some (decide (rank (kB (S ix)) < rank (kB (S jx)))) := by
  rw [rank_kB g, rank_kB k, rkI_lt g k, kB_S, kB_S]
  show (if PyData.eqv (.int (ix.length : Int)) (.int (jx.length : Int)) = true then (if PyData.eqv (.list (ix.map fun i => placeD (u i))) (.list (jx.map fun i => placeD (u i))) = true then some false else ltEach (ix.map fun i => placeD (u i)) (jx.map fun i => placeD (u i))) else some (decide ((ix.length : Int) < (jx.length : Int)))) = _
  have e1 : PyData.eqv (.int (ix.length : Int)) (.int (jx.length : Int)) = decide (ix.length = jx.length) := by
    rw [PyData.eqv]
    by_cases q : ix.length = jx.length
    · rw [q]; simp
    · rw [decide_eq_false q]; simp; omega
  have e2 : PyData.eqv (.list (ix.map fun i => placeD (u i))) (.list (jx.map fun i => placeD (u i))) = decide (ix = jx) := by
    rw [PyData.eqv]
    exact eqvAll_map sevenP.eq ix jx g.lt k.lt
  rw [e1, e2, ltEach_lex sevenP ix jx g.lt k.lt]
  by_cases q : ix.length = jx.length
  · rw [if_pos (decide_eq_true q), if_pos q]
    by_cases z : ix = jx
    · rw [if_pos (decide_eq_true z), z, code_lex jx jx rfl k.lt k.lt, decide_eq_false (Nat.lt_irrefl _)]
    · rw [if_neg (fun c => z (of_decide_eq_true c))]
  · rw [if_neg (fun c => q (of_decide_eq_true c)), if_neg q]
    by_cases z : ix.length < jx.length
    · rw [decide_eq_true z, decide_eq_true (by omega)]
    · rw [decide_eq_false z, decide_eq_false (by omega)]
/-! ### what the sorts ask -/
theorem ranked_of {κ : D → D} (lay : ∀ ix, Good ix → (κ (S ix)).canLay0 = true) (lt : ∀ ix jx, Good ix → Good jx → ltD (κ (S ix)) (κ (S jx)) = some (decide (rank (κ (S ix)) < rank (κ (S jx))))) {ixs : List (List Nat)} (h : ∀ ix ∈ ixs, Good ix) : Ranked rank ((ixs.map S).map κ) := fun d hd => by
  obtain ⟨e, he, rfl⟩ := List.mem_map.mp hd
  obtain ⟨ix, hix, rfl⟩ := List.mem_map.mp he
  refine ⟨lay ix (h ix hix), fun d2 hd2 => ?_⟩
  obtain ⟨e2, he2, rfl⟩ := List.mem_map.mp hd2
  obtain ⟨jx, hjx, rfl⟩ := List.mem_map.mp he2
  exact lt ix jx (h ix hix) (h jx hjx)
theorem layA {ix : List Nat} (g : Good ix) : (kA (S ix)).canLay0 = true := by
  rw [kA_S]
  show (true && (PyData.canLayAll0 (ix.map fun i => keyD (u i)) && true)) = true
  rw [layAll_map sevenK.lay ix g.lt]
  rfl
theorem layB {ix : List Nat} (g : Good ix) : (kB (S ix)).canLay0 = true := by
  rw [kB_S]
  show (true && (PyData.canLayAll0 (ix.map fun i => placeD (u i)) && true)) = true
  rw [layAll_map sevenP.lay ix g.lt]
  rfl
theorem depA {ix : List Nat} (g : Good ix) : (kA (S ix)).depth ≤ 100 := by
  rw [kA_S]
  have q := depAll_map sevenK.dep ix g.lt
  show max 0 (max (PyData.depthAll (ix.map fun i => keyD (u i)) + 1) 0) + 1 ≤ 100
  omega
theorem depB {ix : List Nat} (g : Good ix) : (kB (S ix)).depth ≤ 100 := by
  rw [kB_S]
  have q := depAll_map sevenP.dep ix g.lt
  show max 0 (max (PyData.depthAll (ix.map fun i => placeD (u i)) + 1) 0) + 1 ≤ 100
  omega
theorem kindA (ixs : List (List Nat)) : Kinded ((ixs.map S).map kA) := .inl ⟨"int", fun d hd => by
  obtain ⟨e, he, rfl⟩ := List.mem_map.mp hd
  obtain ⟨ix, _, rfl⟩ := List.mem_map.mp he
  exact ⟨_, _, kA_S ix, rfl⟩⟩
theorem kindB (ixs : List (List Nat)) : Kinded ((ixs.map S).map kB) := .inl ⟨"int", fun d hd => by
  obtain ⟨e, he, rfl⟩ := List.mem_map.mp hd
  obtain ⟨ix, _, rfl⟩ := List.mem_map.mp he
  exact ⟨_, _, kB_S ix, rfl⟩⟩
def srt (ixs : List (List Nat)) : List (List Nat) := ixs.mergeSort (byRank rkI)
theorem srt_map {κ : D → D} (hk : ∀ ix, Good ix → rank (κ (S ix)) = rkI ix) {ixs : List (List Nat)} (h : ∀ ix ∈ ixs, Good ix) : (ixs.map S).mergeSort (byRank fun d => rank (κ d)) = (srt ixs).map S := by
  unfold srt
  refine (List.map_mergeSort fun a ha b hb => ?_).symm
  show decide (rkI a ≤ rkI b) = decide (rank (κ (S a)) ≤ rank (κ (S b)))
  rw [hk a (h a ha), hk b (h b hb)]
/-! ### parts -/
def partI (ix jx : List Nat) : Bool := ix.all fun i => jx.any fun j => decide (j = i)
def partB (xs ys : List D) : Bool := xs.all fun z => ys.any fun w => PyData.eqv w z
theorem all_in {α : Type} {p q : α → Bool} : ∀ {l : List α}, (∀ x ∈ l, p x = q x) → l.all p = l.all q
  | [], _ => rfl
  | x :: r, h => by
    rw [List.all_cons, List.all_cons, h x List.mem_cons_self, all_in fun y hy => h y (List.mem_cons_of_mem _ hy)]
theorem any_in {α : Type} {p q : α → Bool} : ∀ {l : List α}, (∀ x ∈ l, p x = q x) → l.any p = l.any q
  | [], _ => rfl
  | x :: r, h => by
    rw [List.any_cons, List.any_cons, h x List.mem_cons_self, any_in fun y hy => h y (List.mem_cons_of_mem _ hy)]
theorem part_S {ix jx : List Nat} (g : Good ix) (k : Good jx) : partB (ix.map u) (jx.map u) = partI ix jx := by
  unfold partB partI
  rw [List.all_map]
  refine all_in fun i hi => ?_
  show (jx.map u).any (fun w => PyData.eqv w (u i)) = _
  rw [List.any_map]
  refine any_in fun j hj => ?_
  exact eqv_u j (k.lt j hj) i (g.lt i hi)
theorem partI_iff {ix jx : List Nat} : partI ix jx = true ↔ ∀ i ∈ ix, i ∈ jx := by
  unfold partI
  rw [List.all_eq_true]
  constructor
  · intro h i hi
    obtain ⟨j, hj, e⟩ := List.any_eq_true.mp (h i hi)
    rw [← of_decide_eq_true e]
    exact hj
  · intro h i hi
    exact List.any_eq_true.mpr ⟨i, h i hi, decide_eq_true rfl⟩
theorem up_ext : ∀ {ix jx : List Nat}, ix.Pairwise (· < ·) → jx.Pairwise (· < ·) → (∀ i, i ∈ ix ↔ i ∈ jx) → ix = jx
  | [], [], _, _, _ => rfl
  | [], j :: t, _, _, h => absurd ((h j).mpr List.mem_cons_self) (by simp)
  | i :: r, [], _, _, h => absurd ((h i).mp List.mem_cons_self) (by simp)
  | i :: r, j :: t, h1, h2, h => by
    obtain ⟨a1, a2⟩ := List.pairwise_cons.mp h1
    obtain ⟨b1, b2⟩ := List.pairwise_cons.mp h2
    have e : i = j := by
      rcases List.mem_cons.mp ((h i).mp List.mem_cons_self) with q | q
      · exact q
      · rcases List.mem_cons.mp ((h j).mpr List.mem_cons_self) with z | z
        · exact z.symm
        · have q1 := b1 i q
          have q2 := a1 j z
          omega
    subst e
    rw [up_ext a2 b2 fun x => ?_]
    constructor
    · intro hx
      rcases List.mem_cons.mp ((h x).mp (List.mem_cons_of_mem _ hx)) with q | q
      · have := a1 x hx
        omega
      · exact q
    · intro hx
      rcases List.mem_cons.mp ((h x).mpr (List.mem_cons_of_mem _ hx)) with q | q
      · have := b1 x hx
        omega
      · exact q
theorem part_anti {ix jx : List Nat} (g : Good ix) (k : Good jx) (h1 : partI ix jx = true) (h2 : partI jx ix = true) : ix = jx :=
  up_ext g.up k.up fun i => ⟨partI_iff.mp h1 i, partI_iff.mp h2 i⟩
theorem part_trans {ix jx kx : List Nat} (h1 : partI ix jx = true) (h2 : partI jx kx = true) : partI ix kx = true := partI_iff.mpr fun i hi => partI_iff.mp h2 i (partI_iff.mp h1 i hi)
theorem part_refl (ix : List Nat) : partI ix ix = true := partI_iff.mpr fun _ h => h
theorem part_len : ∀ {ix jx : List Nat}, ix.Pairwise (· < ·) → (∀ i ∈ ix, i ∈ jx) → ix.length ≤ jx.length
  | [], _, _, _ => Nat.zero_le _
  | i :: r, jx, h, hs => by
    obtain ⟨a1, a2⟩ := List.pairwise_cons.mp h
    have hi := hs i List.mem_cons_self
    have q := part_len (jx := jx.erase i) a2 fun x hx => by
      have ne : x ≠ i := by
        have := a1 x hx
        omega
      exact (List.mem_erase_of_ne ne).mpr (hs x (List.mem_cons_of_mem _ hx))
    rw [List.length_erase_of_mem hi] at q
    have : 0 < jx.length := List.length_pos_of_mem hi
    rw [List.length_cons]
    omega
/-- a part that is another one is of lesser rank -/
theorem part_rank {ix jx : List Nat} (g : Good ix) (k : Good jx) (h : partI ix jx = true) (ne : ix ≠ jx) : rkI ix < rkI jx := by
  have hl := part_len g.up (partI_iff.mp h)
  have q := rkI_lt g k
  by_cases z : ix.length = jx.length
  · -- of one length: then they are one
    exfalso
    have back : ∀ j ∈ jx, j ∈ ix := fun j hj => by
      cases hm : decide (j ∈ ix) with
      | true => exact of_decide_eq_true hm
      | false =>
        have nm : j ∉ ix := of_decide_eq_false hm
        have hs : ∀ i ∈ ix, i ∈ jx.erase j := fun i hi => (List.mem_erase_of_ne (fun (e : i = j) => nm (e ▸ hi))).mpr (partI_iff.mp h i hi)
        have q1 := part_len g.up hs
        rw [List.length_erase_of_mem hj] at q1
        have : 0 < jx.length := List.length_pos_of_mem hj
        omega
    exact ne (part_anti g k h (partI_iff.mpr back))
  · rw [if_neg z, decide_eq_true (show ix.length < jx.length by omega)] at q
    exact of_decide_eq_true q
theorem rkI_inj {ix jx : List Nat} (g : Good ix) (k : Good jx) (e : rkI ix = rkI jx) : ix = jx := by
  have c1 := code_lt ix g.lt
  have c2 := code_lt jx k.lt
  have b1 : 8 ^ ix.length ≤ 8 ^ 7 := Nat.pow_le_pow_right (by decide) g.len
  have b2 : 8 ^ jx.length ≤ 8 ^ 7 := Nat.pow_le_pow_right (by decide) k.len
  have e7 : 8 ^ 7 = 2097152 := rfl
  rw [e7] at b1 b2
  unfold rkI at e
  have hl : ix.length = jx.length := by omega
  have hc : code ix = code jx := by omega
  have inj : ∀ (a b : List Nat), a.length = b.length → (∀ i ∈ a, i < 7) → (∀ i ∈ b, i < 7) → code a = code b → a = b := by
    intro a
    induction a with
    | nil => intro b h _ _ _; cases b with
      | nil => rfl
      | cons _ _ => cases h
    | cons i r ih =>
      intro b h h1 h2 hc
      cases b with
      | nil => cases h
      | cons j t =>
        have hl : r.length = t.length := Nat.succ.inj h
        have k1 := code_lt r fun x hx => h1 x (List.mem_cons_of_mem _ hx)
        have k2 := code_lt t fun x hx => h2 x (List.mem_cons_of_mem _ hx)
        have hc' : i * 8 ^ r.length + code r = j * 8 ^ t.length + code t := hc
        rw [hl] at hc' k1
        have eij : i = j := by
          rcases Nat.lt_trichotomy i j with z | z | z
          · have m : (i + 1) * 8 ^ t.length ≤ j * 8 ^ t.length := Nat.mul_le_mul_right _ z
            rw [Nat.add_mul, Nat.one_mul] at m
            omega
          · exact z
          · have m : (j + 1) * 8 ^ t.length ≤ i * 8 ^ t.length := Nat.mul_le_mul_right _ z
            rw [Nat.add_mul, Nat.one_mul] at m
            omega
        subst eij
        rw [ih t hl (fun x hx => h1 x (List.mem_cons_of_mem _ hx)) (fun x hx => h2 x (List.mem_cons_of_mem _ hx)) (by omega)]
  exact inj ix jx hl g.lt k.lt hc
/-! ### the least ones -/
abbrev IX := List Nat
def put (acc : List IX) (m : IX) : List IX := if acc.any (fun t => partI t m) = true then acc else acc ++ [m]
def greedy (l : List IX) : List IX := l.foldl put []
def leastA (l : List IX) : List IX := greedy (srt l)
/-- m is one of the least: nothing else in l is a part of it -/
def isMin (l : List IX) (m : IX) : Prop := m ∈ l ∧ ∀ t ∈ l, partI t m = true → t = m
theorem srt_perm (l : List IX) : (srt l).Perm l := List.mergeSort_perm l _
theorem srt_sorted (l : List IX) : (srt l).Pairwise fun a b => rkI a ≤ rkI b := by
  have q := List.pairwise_mergeSort (le := byRank rkI) (fun a b c h1 h2 => decide_eq_true (Int.le_trans (of_decide_eq_true h1) (of_decide_eq_true h2))) (fun a b => by
    unfold byRank
    rcases Int.le_total (rkI a) (rkI b) with h | h
    · rw [decide_eq_true h]; rfl
    · rw [decide_eq_true h, Bool.or_true]) l
  exact q.imp fun h => of_decide_eq_true h
/-- what the walk keeps of a sorted row: the least ones, each once, in order -/
theorem greedy_spec : ∀ (l acc : List IX), (∀ m ∈ l, Good m) → (∀ m ∈ acc, Good m) → (acc ++ l).Pairwise (fun a b => rkI a ≤ rkI b) → acc.Pairwise (fun a b => rkI a < rkI b) → (∀ a ∈ acc, ∀ b ∈ acc, partI a b = true → a = b) →
    let r := l.foldl put acc
    r.Pairwise (fun a b => rkI a < rkI b) ∧ (∀ a ∈ r, ∀ b ∈ r, partI a b = true → a = b) ∧ (∀ a ∈ r, a ∈ acc ∨ a ∈ l) ∧ (∀ a ∈ acc, a ∈ r) ∧ ∀ m ∈ l, ∃ a ∈ r, partI a m = true
  | [], acc, _, _, _, h1, h2 => ⟨h1, h2, fun a h => .inl h, fun a h => h, fun m h => absurd h (by simp)⟩
  | m :: l, acc, hl, hacc, hs, h1, h2 => by
    have gm := hl m List.mem_cons_self
    have hl' : ∀ x ∈ l, Good x := fun x hx => hl x (List.mem_cons_of_mem _ hx)
    show _ ∧ _
    rw [show (m :: l).foldl put acc = l.foldl put (put acc m) from rfl]
    by_cases q : acc.any (fun t => partI t m) = true
    · have e : put acc m = acc := if_pos q
      rw [e]
      have hs' : (acc ++ l).Pairwise fun a b => rkI a ≤ rkI b := by
        obtain ⟨p1, p2, p3⟩ := List.pairwise_append.mp hs
        exact List.pairwise_append.mpr ⟨p1, (List.pairwise_cons.mp p2).2, fun a ha b hb => p3 a ha b (List.mem_cons_of_mem _ hb)⟩
      obtain ⟨r1, r2, r3, r4, r5⟩ := greedy_spec l acc hl' hacc hs' h1 h2
      refine ⟨r1, r2, fun a ha => (r3 a ha).elim .inl fun z => .inr (List.mem_cons_of_mem _ z), r4, fun x hx => ?_⟩
      rcases List.mem_cons.mp hx with z | z
      · obtain ⟨t, ht, hp⟩ := List.any_eq_true.mp q
        exact ⟨t, r4 t ht, by rw [z]; exact hp⟩
      · exact r5 x z
    · have e : put acc m = acc ++ [m] := if_neg q
      rw [e]
      obtain ⟨p1, p2, p3⟩ := List.pairwise_append.mp hs
      have hs' : ((acc ++ [m]) ++ l).Pairwise fun a b => rkI a ≤ rkI b := by rw [List.append_assoc]; exact hs
      have nopart : ∀ a ∈ acc, partI a m = false := fun a ha => by
        cases z : partI a m with
        | false => rfl
        | true => exact absurd (List.any_eq_true.mpr ⟨a, ha, z⟩) q
      have lt : ∀ a ∈ acc, rkI a < rkI m := fun a ha => by
        have le := p3 a ha m List.mem_cons_self
        rcases Int.lt_or_eq_of_le le with z | z
        · exact z
        · have e2 := rkI_inj (hacc a ha) gm z
          have := nopart a ha
          rw [e2, part_refl] at this
          cases this
      obtain ⟨r1, r2, r3, r4, r5⟩ := greedy_spec l (acc ++ [m]) hl' (fun x hx => by
        rcases List.mem_append.mp hx with z | z
        · exact hacc x z
        · rw [List.mem_singleton.mp z]; exact gm) hs' (List.pairwise_append.mpr ⟨h1, List.pairwise_singleton _ _, fun a ha b hb => by rw [List.mem_singleton.mp hb]; exact lt a ha⟩) (fun a ha b hb hp => by
        rcases List.mem_append.mp ha with z1 | z1 <;> rcases List.mem_append.mp hb with z2 | z2
        · exact h2 a z1 b z2 hp
        · rw [List.mem_singleton.mp z2] at hp
          rw [nopart a z1] at hp
          cases hp
        · rw [List.mem_singleton.mp z1] at hp ⊢
          by_cases e3 : m = b
          · exact e3
          · have c1 := part_rank gm (hacc b z2) hp e3
            have c2 := lt b z2
            omega
        · rw [List.mem_singleton.mp z1, List.mem_singleton.mp z2])
      refine ⟨r1, r2, fun a ha => ?_, fun a ha => r4 a (List.mem_append_left _ ha), fun x hx => ?_⟩
      · rcases r3 a ha with z | z
        · rcases List.mem_append.mp z with z | z
          · exact .inl z
          · exact .inr (by rw [List.mem_singleton.mp z]; exact List.mem_cons_self)
        · exact .inr (List.mem_cons_of_mem _ z)
      · rcases List.mem_cons.mp hx with z | z
        · exact ⟨m, r4 m (List.mem_append_right _ (List.mem_singleton.mpr rfl)), by rw [z]; exact part_refl m⟩
        · exact r5 x z
/-- which they are -/
theorem leastA_mem {l : List IX} (h : ∀ m ∈ l, Good m) (m : IX) : m ∈ leastA l ↔ isMin l m := by
  have hp := srt_perm l
  have hg : ∀ x ∈ srt l, Good x := fun x hx => h x (hp.mem_iff.mp hx)
  obtain ⟨r1, r2, r3, r4, r5⟩ := greedy_spec (srt l) [] hg (fun x hx => absurd hx (by simp)) (by rw [List.nil_append]; exact srt_sorted l) List.Pairwise.nil (fun x hx => absurd hx (by simp))
  have hin : ∀ a ∈ leastA l, a ∈ l := fun a ha => by
    rcases r3 a ha with z | z
    · exact absurd z (by simp)
    · exact hp.mem_iff.mp z
  constructor
  · intro hm
    refine ⟨hin m hm, fun t ht hpart => ?_⟩
    obtain ⟨a, ha, hat⟩ := r5 t (hp.mem_iff.mpr ht)
    have e := r2 a ha m hm (part_trans hat hpart)
    rw [e] at hat
    exact part_anti (h t ht) (h m (hin m hm)) hpart hat
  · intro ⟨hm, hmin⟩
    obtain ⟨a, ha, ham⟩ := r5 m (hp.mem_iff.mpr hm)
    rw [← hmin a (hin a ha) ham]
    exact ha
theorem leastA_up {l : List IX} (h : ∀ m ∈ l, Good m) : (leastA l).Pairwise fun a b => rkI a < rkI b := by
  have hp := srt_perm l
  have hg : ∀ x ∈ srt l, Good x := fun x hx => h x (hp.mem_iff.mp hx)
  exact (greedy_spec (srt l) [] hg (fun x hx => absurd hx (by simp)) (by rw [List.nil_append]; exact srt_sorted l) List.Pairwise.nil (fun x hx => absurd hx (by simp))).1
/-- rows in rising order with the same members are one -/
theorem rise_ext : ∀ {a b : List IX}, a.Pairwise (fun x y => rkI x < rkI y) → b.Pairwise (fun x y => rkI x < rkI y) → (∀ m, m ∈ a ↔ m ∈ b) → a = b
  | [], [], _, _, _ => rfl
  | [], y :: t, _, _, h => absurd ((h y).mpr List.mem_cons_self) (by simp)
  | x :: r, [], _, _, h => absurd ((h x).mp List.mem_cons_self) (by simp)
  | x :: r, y :: t, h1, h2, h => by
    obtain ⟨a1, a2⟩ := List.pairwise_cons.mp h1
    obtain ⟨b1, b2⟩ := List.pairwise_cons.mp h2
    have e : x = y := by
      rcases List.mem_cons.mp ((h x).mp List.mem_cons_self) with q | q
      · exact q
      · rcases List.mem_cons.mp ((h y).mpr List.mem_cons_self) with z | z
        · exact z.symm
        · have q1 := b1 x q
          have q2 := a1 y z
          omega
    subst e
    rw [rise_ext a2 b2 fun m => ?_]
    constructor
    · intro hm
      rcases List.mem_cons.mp ((h m).mp (List.mem_cons_of_mem _ hm)) with q | q
      · have := a1 m hm
        rw [q] at this
        omega
      · exact q
    · intro hm
      rcases List.mem_cons.mp ((h m).mpr (List.mem_cons_of_mem _ hm)) with q | q
      · have := b1 m hm
        rw [q] at this
        omega
      · exact q
end P37
namespace P37
open PySem PySem.Spec PyProof.Rows L2 DL
variable [Tbs]
def topS (i : Nat) : Stmt := PySem.Challenge.pw_nestdeep_k37_least_sets.main.body.getD i (.Pass ⟨0, 0, 0, 0⟩)
abbrev sKey : Stmt := topS 1
abbrev sSet : Stmt := topS 2
abbrev sPart : Stmt := topS 3
abbrev sOrd : Stmt := topS 4
abbrev sLeast : Stmt := topS 6
abbrev sPot : Stmt := topS 8
abbrev sDraw : Stmt := topS 9
abbrev sPick : Stmt := topS 10
abbrev sPlace : Stmt := topS 11
abbrev sWithin : Stmt := topS 12
abbrev sMin : Stmt := topS 13
abbrev sLaw : Stmt := topS 14
theorem scKey : FnScope ["callback"] ["callback"] (defScope sKey) := ⟨rfl, rfl, rfl, by decide +kernel, rfl, by decide +kernel, by decide +kernel⟩
theorem scSet : FnScope ["callbacks", "callback"] ["callbacks"] (defScope sSet) := ⟨rfl, rfl, rfl, by decide +kernel, rfl, by decide +kernel, by decide +kernel⟩
theorem scPart : FnScope ["small", "large", "item"] ["small", "large"] (defScope sPart) := ⟨rfl, rfl, rfl, by decide +kernel, rfl, by decide +kernel, by decide +kernel⟩
theorem scPot : FnScope ["_law_script", "_law_index", "_law_cell"] ["_law_script", "_law_index"] (defScope sPot) := ⟨rfl, rfl, rfl, by decide +kernel, rfl, by decide +kernel, by decide +kernel⟩
theorem scDraw : FnScope ["_law_pot_here", "_law_many", "_law_digit"] ["_law_pot_here", "_law_many"] (defScope sDraw) := ⟨rfl, rfl, rfl, by decide +kernel, rfl, by decide +kernel, by decide +kernel⟩
theorem scPick : FnScope ["_law_pot_here", "_law_some"] ["_law_pot_here", "_law_some"] (defScope sPick) := ⟨rfl, rfl, rfl, by decide +kernel, rfl, by decide +kernel, by decide +kernel⟩
theorem scPlace : FnScope ["_law_back"] ["_law_back"] (defScope sPlace) := ⟨rfl, rfl, rfl, by decide +kernel, rfl, by decide +kernel, by decide +kernel⟩
theorem scWithin : FnScope ["_law_one", "_law_other", "_law_back"] ["_law_one", "_law_other"] (defScope sWithin) := ⟨rfl, rfl, rfl, by decide +kernel, rfl, by decide +kernel, by decide +kernel⟩
section
variable {P : Program} {w : World} {K : PySem.W.Frag} {mg : Str → Option Value} {base : Heap}
theorem ok_draw37 {f : Addr} {fd : FuncData} {k : Nat} (F : Fun K "_law_draw" "_law_draw" sDraw f fd) (md : mg "divmod" = none) (mi : mg "int" = none) : FnOk P w K mg base CX0 (k + 1) f fd ["_law_pot_here", "_law_many"] (spP K cDraw) :=
  ok_draw F scDraw rfl rfl fun cdv A outer s H E hr => (pss_cons (ps_if (pt_cmpR op_gt (pe_ix ix_list (pv 0) pe_int (fun _ _ => rfl)) pe_int (nomark _))
      (pss_cons (ps_asg (pe_callB call_divmod (by rfl) md (by decide +kernel) (pa_cons (pe_ix ix_list (pv 0) pe_int (fun _ _ => rfl)) (pa_cons (pv 1) pa_nil)))
        (pg_tup rfl (pgs_cons (pg_sub (pv 0) pe_int set_list) (pgs_cons (pg_name (i := 2) scDraw.nd rfl (.inl rfl)) pgs_nil)))) (pss_one (ps_ret (pv 2)))) pss_nil)
      (pss_cons (ps_asg (pe_op op_mod (pe_callTy call_int1 (by rfl) mi (by decide +kernel) (pa_cons (pe_op op_add (pe_op op_mul (pe_ix ix_list (pv 0) pe_int (fun _ _ => rfl)) pe_int) pe_int) pa_nil)) pe_int) (pg_sub (pv 0) pe_int set_list))
      (pss_one (ps_ret (pe_op op_mod (pe_callTy call_int1 (by rfl) mi (by decide +kernel) (pa_cons (pe_op op_fdiv (pe_op op_mod (pe_callTy call_int1 (by rfl) mi (by decide +kernel) (pa_cons (pe_op op_mul (pe_ix ix_list (pv 0) pe_int (fun _ _ => rfl)) (pe_ix ix_list (pv 0) pe_int (fun _ _ => rfl))) pa_nil)) pe_int) pe_int) pa_nil)) (pv 1))))))
theorem ok_pot37 {f : Addr} {fd : FuncData} {k : Nat} (F : Fun K "_law_pot" "_law_pot" sPot f fd) (ml : mg "len" = none) (ma : mg "abs" = none) (mm : mg "max" = none) (mi : mg "int" = none) : FnOk P w K mg base CX0 (k + 1) f fd ["_law_script", "_law_index"] (spNewP K cPot) :=
  ok_pot F scPot rfl rfl fun cdv A outer s H E hr => pss_cons (ps_set (i := 2) scPot.nd rfl (.inl rfl) (pe_ifExp (pt_cmpR op_lt (pv 1) (pe_callB call_len_seq (by rfl) ml (by decide +kernel) (pa_cons (pv 0) pa_nil)) (nomark _))
        (pe_callB call_abs (by rfl) ma (by decide +kernel) (pa_cons (pe_ix ix_list (pv 0) (pv 1) (fun _ _ => rfl)) pa_nil)) (pe_op op_add (pe_op op_mul pe_int (pv 1)) pe_int)))
      (pss_one (ps_ret (pe_lst (pa_cons (pe_callB (call_max2 rfl) (by rfl) mm (by decide +kernel) (pa_cons pe_int (pa_cons (pe_op op_sub (pv 2) (pe_op op_pow pe_int pe_int)) pa_nil)))
        (pa_cons (pe_op op_mod (pe_callTy call_int1 (by rfl) mi (by decide +kernel) (pa_cons (pe_op op_add (pe_op op_add (pe_op op_mul (pe_op op_mod (pe_callTy call_int1 (by rfl) mi (by decide +kernel) (pa_cons (pv 2) pa_nil)) pe_int) pe_int) (pe_op op_mul pe_int (pv 1))) pe_int) pa_nil)) pe_int) pa_nil)))))
/-! ### the keys -/
def cKey : Con := fun ds R => ∃ d, ds = [d] ∧ R (keyD d)
theorem ok_key {f : Addr} {fd : FuncData} {k : Nat} (F : Fun K "callback_key" "callback_key" sKey f fd) (mi : mg "isinstance" = none) (ms : mg "str" = none) : FnOk P w K mg base CX0 (k + 1) f fd ["callback"] (spD K cKey) :=
  ok_D F scKey (by decide) (fun ds R ⟨d, e, _⟩ => by rw [e]; rfl) (fun cdv A outer s H E hr => ds_one (ds_ret (de_if (dt_val (de_isi (pe_callB call_isi (by rfl) mi (by decide +kernel) (pa_cons (db_var (pv 0)) (pa_cons (pe_bltn (v := .ty "str") (by rfl) ms (by decide +kernel) rfl) pa_nil)))))
    (de_tup (da_cons de_int (da_cons (de_var (pv 0)) da_nil))) (de_tup (da_cons de_int (da_cons (de_var (pv 0)) da_nil)))))) fun ds R ⟨d, e, r⟩ => by
    subst e
    refine ⟨isStrD d, kit_str d, _, rfl, ite2 (fun h => ⟨len_le (Nat.le_of_ble_eq_true rfl), ?_⟩) (fun h => ⟨len_le (Nat.le_of_ble_eq_true rfl), ?_⟩)⟩
    · cases d with
      | str x => exact r
      | _ => cases h
    · cases d with
      | str x => exact absurd rfl h
      | _ => exact r
def cSet : Con := fun ds R => ∃ d l, ds = [d] ∧ seqD d = some l ∧ l.length ≤ 1000 ∧ R (.tuple (l.map keyD))
theorem ok_set {f : Addr} {fd : FuncData} {k : Nat} (F : Fun K "set_key" "set_key" sSet f fd) (G : CalD P w K mg base k "callback_key" (spD K cKey)) (mt : mg "tuple" = none) : FnOk P w K mg base CX0 (k + 1) f fd ["callbacks"] (spD K cSet) :=
  ok_D F scSet (by decide) (fun ds R ⟨d, l, e, _⟩ => by rw [e]; rfl) (fun cdv A outer s H E hr => ds_one (ds_ret (de_callTy cd_tuple (dba_cons (db_of (de_own (dl_lc (pe_lc rfl scSet.nd (dib_own (db_var (pv 0))) (own := [("callback", 1)]) (blkOk_by (N := ["callbacks", "callback"]) (sc := defScope sSet) (by decide +kernel)) (fun _ _ _ _ _ => dg_name (pg_name (i := 1) scSet.nd rfl (.inl rfl))) (fun _ _ _ _ _ => dts_nil)
      (fun _ _ _ _ _ => de_fn (pe_cd G hr (Nat.le_refl _) (by rfl) (da_cons (de_var (pv 1)) da_nil)))) (by decide)))) dba_nil) (fun _ _ hc ha => pe_callTy hc (by rfl) mt (by decide +kernel) ha)))) fun ds R ⟨d, l, e, hs, hl, r⟩ => by
    subst e
    refine ⟨l, seq_iter hs, ?_⟩
    exact lc_map (len_lt hl) (noOwn_of rfl) keyD (fun d hd W1 h => ⟨d, rfl, rfl, h⟩) ⟨_, _, rfl, rfl, r⟩
/-! ### parts -/
def cPart : Con := fun ds R => ∃ d e xs ys, ds = [d, e] ∧ seqD d = some xs ∧ seqD e = some ys ∧ xs.length ≤ 1000 ∧ (∀ z ∈ xs, shp z = true) ∧ shp e = true ∧ R (.bool (partB xs ys))
theorem all_bools (xs : List D) (g : D → Bool) : xs.map (fun z => PyData.bool (g z)) = (xs.map g).map PyData.bool := (List.map_map ..).symm
theorem all_id (xs : List D) (g : D → Bool) : (xs.map g).all id = xs.all g := by rw [List.all_map]; rfl
theorem part_math {N : Nat} {ds : List D} {R : D → Prop} (hN : N = 3) (h : cPart ds R) : sRet (dCall cAll (dCons (dOf (lLc [2] (iSeq (bVar 0)) (gNm 2) tYesD (dBin (rInDD false) (bVar 2) (bVar 1)))) dNil)) (endsD R) (dstart ds N) := by
  obtain ⟨d, e, xs, ys, rfl, hx, hy, hl, hsx, hsy, r⟩ := h
  subst hN
  refine ⟨xs, seq_iter hx, ?_⟩
  refine lc_map (len_lt hl) (noOwn_of rfl) (fun z => .bool (ys.any fun u => PyData.eqv u z)) (fun z hz W1 q => ⟨ys, hy, hsx z hz, hsy, rfl, q⟩) ?_
  refine ⟨xs.map fun z => ys.any fun u => PyData.eqv u z, ?_, ?_⟩
  · rw [all_bools]
  · rw [all_id]; exact r
theorem ok_part {f : Addr} {fd : FuncData} {k : Nat} (F : Fun K "is_part" "is_part" sPart f fd) (ma : mg "all" = none) : FnOk P w K mg base CX0 (k + 1) f fd ["small", "large"] (spD K cPart) :=
  ok_D F scPart (by decide) (fun ds R ⟨d, e, xs, ys, h, _⟩ => by rw [h]; rfl) (fun cdv A outer s H E hr => ds_one (ds_ret (de_cb (cd_all rfl) (dba_cons (db_of (de_own (dl_lc (pe_lc rfl scPart.nd (dib_own (db_var (pv 0))) (own := [("item", 2)]) (blkOk_by (N := ["small", "large", "item"]) (sc := defScope sPart) (by decide +kernel)) (fun _ _ _ _ _ => dg_name (pg_name (i := 2) scPart.nd rfl (.inl rfl))) (fun _ _ _ _ _ => dts_nil)
      (fun _ _ _ _ _ => de_cmp (od_in (room65 hr)) (db_var (pv 2)) (db_var (pv 1)) rfl)) (by decide)))) dba_nil) (fun _ _ hc ha => pe_callB hc (by rfl) ma (by decide +kernel) ha)))) fun ds R h => part_math rfl h
theorem ok_within {f : Addr} {fd : FuncData} {k : Nat} (F : Fun K "_law_within" "_law_within" sWithin f fd) (ma : mg "all" = none) : FnOk P w K mg base CX0 (k + 1) f fd ["_law_one", "_law_other"] (spD K cPart) :=
  ok_D F scWithin (by decide) (fun ds R ⟨d, e, xs, ys, h, _⟩ => by rw [h]; rfl) (fun cdv A outer s H E hr => ds_one (ds_ret (de_cb (cd_all rfl) (dba_cons (db_of (de_own (dl_lc (pe_lc rfl scWithin.nd (dib_own (db_var (pv 0))) (own := [("_law_back", 2)]) (blkOk_by (N := ["_law_one", "_law_other", "_law_back"]) (sc := defScope sWithin) (by decide +kernel)) (fun _ _ _ _ _ => dg_name (pg_name (i := 2) scWithin.nd rfl (.inl rfl))) (fun _ _ _ _ _ => dts_nil)
      (fun _ _ _ _ _ => de_cmp (od_in (room65 hr)) (db_var (pv 2)) (db_var (pv 1)) rfl)) (by decide)))) dba_nil) (fun _ _ hc ha => pe_callB hc (by rfl) ma (by decide +kernel) ha)))) fun ds R h => part_math rfl h
/-! ### the law's places -/
def cPlace : Con := fun ds R => ∃ d, ds = [d] ∧ ((∃ x, d = .str x) ∨ ∃ x y, d = .tuple [x, y]) ∧ R (placeD d)
theorem ok_place {f : Addr} {fd : FuncData} {k : Nat} (F : Fun K "_law_place" "_law_place" sPlace f fd) (mi : mg "isinstance" = none) (ms : mg "str" = none) : FnOk P w K mg base CX0 (k + 1) f fd ["_law_back"] (spD K cPlace) :=
  ok_D F scPlace (by decide) (fun ds R ⟨d, e, _⟩ => by rw [e]; rfl) (fun cdv A outer s H E hr => ds_one (ds_ret (de_if (dt_val (de_isi (pe_callB call_isi (by rfl) mi (by decide +kernel) (pa_cons (db_var (pv 0)) (pa_cons (pe_bltn (v := .ty "str") (by rfl) ms (by decide +kernel) rfl) pa_nil)))))
    (de_tup (da_cons de_int (da_cons (de_var (pv 0)) (da_cons (de_tup da_nil) da_nil)))) (de_tup (da_cons de_int (da_cons (de_ix od_ix (db_var (pv 0)) (db_of de_int) (fun _ _ => rfl)) (da_cons (de_ix od_ix (db_var (pv 0)) (db_of de_int) (fun _ _ => rfl)) da_nil))))))) fun ds R ⟨d, e, hd, r⟩ => by
    subst e
    refine ⟨isStrD d, kit_str d, _, rfl, ite2 (fun h => ?_) (fun h => ?_)⟩
    · rcases hd with ⟨x, rfl⟩ | ⟨x, y, rfl⟩
      · exact ⟨len_le (Nat.le_of_ble_eq_true rfl), len_le (Nat.le_of_ble_eq_true rfl), r⟩
      · cases h
    · rcases hd with ⟨x, rfl⟩ | ⟨x, y, rfl⟩
      · exact absurd rfl h
      · exact ⟨0, rfl, .inl ⟨_, _, rfl, rfl, 1, rfl, .inl ⟨_, _, rfl, rfl, len_le (Nat.le_of_ble_eq_true rfl), r⟩⟩⟩
/-! ### picks -/
def cPick : Con := fun ds R => ∃ d l, ds = [d] ∧ seqD d = some l ∧ 0 < l.length ∧ l.length ≤ 1000 ∧ ∀ z ∈ l, R z
theorem ok_pick {f : Addr} {fd : FuncData} {k : Nat} (F : Fun K "_law_pick" "_law_pick" sPick f fd) (G : CalD P w K mg base k "_law_draw" (spP K cDraw)) (ml : mg "len" = none) : FnOk P w K mg base CX0 (k + 1) f fd ["_law_pot_here", "_law_some"] (spP K cPick) :=
  ok_P F scPick (by decide) (fun ds R ⟨d, l, e, _⟩ => by rw [e]; rfl) (fun cdv A outer s H E hr => ds_one (ds_ret (de_ix od_ix (db_var (pv 1)) (db_of (de_fnP (pe_cd G hr (Nat.le_refl _) (by rfl) (dpa_cons (dp_var (pv 0)) (da_cons (de_cb cd_len (dba_cons (db_var (pv 1)) dba_nil) (fun _ _ hc ha => pe_callB hc (by rfl) ml (by decide +kernel) ha)) da_nil))))) (fun _ _ => rfl)))) fun ds R ⟨d, l, e, hs, h0, hl, r⟩ => by
    subst e
    refine ⟨rfl, d, rfl, .inl ⟨l, hs, (l.length : Int), rfl, by omega, by omega, fun i i0 i1 => ?_⟩⟩
    obtain ⟨j, rfl⟩ : ∃ j : Nat, i = j := ⟨i.toNat, by omega⟩
    obtain ⟨z, hz⟩ : ∃ z, l[j]? = some z := ⟨_, List.getElem?_eq_getElem (by omega)⟩
    exact ⟨j, rfl, .inl ⟨l, z, hs, atI_nat hz, r z (List.mem_of_getElem? hz)⟩⟩
end
end P37
namespace P37
open PySem PySem.Spec PyProof.Rows L2 DL LamX NdefX
variable [Tbs]
theorem scOrd : FnScope ["sets", "least", "callbacks", "other"] ["sets"] (defScope sOrd) := ⟨rfl, rfl, rfl, by decide +kernel, rfl, by decide +kernel, by decide +kernel⟩
theorem scLeast : FnScope ["sets"] ["sets"] (defScope sLeast) := ⟨rfl, rfl, rfl, by decide +kernel, rfl, by decide +kernel, by decide +kernel⟩
theorem scMin : FnScope ["_law_some", "_law_found", "_law_one", "_law_others", "_law_two"] ["_law_some"] (defScope sMin) := ⟨rfl, rfl, rfl, by decide +kernel, rfl, by decide +kernel, by decide +kernel⟩
/-- the lambda of a sort's key in the text -/
def keyLam : Expr → Expr
  | .Call _ _ ({ value := v, .. } :: _) _ => v
  | e => e
def lamScope : Expr → Scope
  | .Lambda _ _ sc _ => sc
  | _ => default
def lamBody : Expr → Expr
  | .Lambda _ b _ _ => b
  | e => e
def forIter : Stmt → Expr
  | .For _ it _ _ _ => it
  | _ => .Constant .none 0 ⟨0, 0, 0, 0⟩
abbrev lamA : Expr := keyLam (forIter ((defBody sOrd).getD 1 (.Pass ⟨0, 0, 0, 0⟩)))
theorem nsA : NScope ["row"] ["row"] [] (lamScope lamA) := nscope_by (by decide +kernel)
/-! ### the key of a set -/
def cKA : Con := fun ds R => ∃ l, ds = [.tuple l] ∧ l.length ≤ 1000 ∧ R (kA (.tuple l))
section
variable {P : Program} {w : World} {K : PySem.W.Frag} {mg : Str → Option Value} {base : Heap}
theorem ok_lamA {f : Addr} {k : Nat} {qual : Str} {cl : List (Str × Addr)} {c : Addr} {params : Arguments} {pos : Pos} (hp : lamA = .Lambda params (lamBody lamA) (lamScope lamA) pos) (G : CalD P w K mg base k "set_key" (spD K cSet)) (ml : mg "len" = none) :
    LOk P w K mg base CX0 (k + 1) f (lamNF qual params (lamScope lamA) cl c) (lamBody lamA) ["row"] [] (fun _ => spD K cKA) := by
  have ep : params = { posonlyargs := [], args := [{ arg := "row", annotation := none, pos := ⟨10, 45, 10, 48⟩ : PySem.Arg }], vararg := none, kwonlyargs := [], kw_defaults := [], kwarg := none, defaults := [] : PySem.Arguments } := by
    injection hp with h1
    exact h1.symm
  subst ep
  refine lm_D (T := _) nsA (fun pm ctv us hl => match us, hl with | [_], _ => rfl) (by decide) (fun ds R ⟨l, e, _⟩ => by rw [e]; rfl) (fun A outer s H E hr => de_tup (da_cons (de_cb cd_len (dba_cons (db_var (pv 0)) dba_nil) (fun _ _ hc ha => pe_callB hc (by rfl) ml (by decide +kernel) ha))
    (da_cons (de_fn (pe_cd G hr (Nat.le_refl _) (by rfl) (da_cons (de_var (pv 0)) da_nil))) da_nil))) fun ds R ⟨l, e, hl, r⟩ => ?_
  subst e
  exact ⟨_, rfl, .inl ⟨l, rfl, ⟨_, l, rfl, rfl, hl, len_le (Nat.le_of_ble_eq_true rfl), r⟩⟩⟩
abbrev qualA : Str := "sets_in_order" ++ ".<locals>."
def itemsD : D → List D
  | .tuple l => l
  | _ => []
theorem isEmpty_filter {α : Type} (p : α → Bool) : ∀ l : List α, (l.filter p).isEmpty = !l.any p
  | [] => rfl
  | x :: r => by
    cases h : p x with
    | true => rw [List.filter_cons_of_pos h, List.any_cons, h]; rfl
    | false => rw [List.filter_cons_of_neg (by rw [h]; decide), List.any_cons, h, Bool.false_or]; exact isEmpty_filter p r
theorem shp_S {ix : List Nat} (g : Good ix) : shp (S ix) = true := by
  have h1 := layAll_map (f := u) lay_u ix g.lt
  have h2 := depAll_map (f := u) dep_u ix g.lt
  show (PyData.canLayAll0 (ix.map u) && decide (PyData.depthAll (ix.map u) + 1 ≤ 64)) = true
  rw [h1, decide_eq_true (by omega)]
  rfl
theorem shp_u {i : Nat} (h : i < 7) : shp (u i) = true := by
  show ((u i).canLay0 && decide ((u i).depth ≤ 64)) = true
  have := dep_u i h
  rw [lay_u i h, decide_eq_true (by omega)]
  rfl
/-- what sets_in_order, least_sets promise: of such sets the least ones -/
def cOrd : Con := fun ds R => ∃ d ixs, ds = [d] ∧ seqD d = some (ixs.map S) ∧ (∀ ix ∈ ixs, Good ix) ∧ ixs.length ≤ 900 ∧ R (.tuple ((leastA ixs).map S))
theorem put_len (acc : List IX) (m : IX) : (put acc m).length ≤ acc.length + 1 := by
  unfold put
  split
  · omega
  · rw [List.length_append]; exact Nat.le_refl _
theorem greedy_len : ∀ (l acc : List IX), (l.foldl put acc).length ≤ acc.length + l.length
  | [], _ => Nat.le_refl _
  | m :: l, acc => by
    have h1 := greedy_len l (put acc m)
    have h2 := put_len acc m
    show ((l.foldl put (put acc m))).length ≤ acc.length + (l.length + 1)
    omega
theorem greedy_in : ∀ (l acc : List IX) (m : IX), m ∈ l.foldl put acc → m ∈ acc ∨ m ∈ l
  | [], _, _, h => .inl h
  | x :: l, acc, m, h => by
    rcases greedy_in l (put acc x) m h with q | q
    · unfold put at q
      split at q
      · exact .inl q
      · rcases List.mem_append.mp q with q | q
        · exact .inl q
        · exact .inr (by rw [List.mem_singleton.mp q]; exact List.mem_cons_self)
    · exact .inr (List.mem_cons_of_mem _ q)
theorem ord_math {N : Nat} (hN : N = 4) {ds : List D} {R : D → Prop} (h : cOrd ds R) : sCons (sSetL 1 (dLst dNil)) (sCons (sFor (iSeq (dOf (lSortK cKA (bVar 0)))) (gNm 2) (sIf (tNotD (tTru (dOf (lLc [3] (iSeq (bVar 1)) (gNm 3) (tVal (dFn cPart (dCons (dVar 3) (dCons (dVar 2) dNil)))) (dVar 3))))) (sApp 1 (dVar 2)) sNil))
    (sRet (dCall cTuple (dCons (bVar 1) dNil)))) (endsD R) (dstart ds N) := by
  obtain ⟨d, ixs, rfl, hd, hg, hl, r⟩ := h
  subst hN
  have hsg : ∀ m ∈ srt ixs, Good m := fun m hm => hg m ((srt_perm ixs).mem_iff.mp hm)
  have hsl : (srt ixs).length = ixs.length := (srt_perm ixs).length_eq
  refine ⟨len_le (Nat.zero_le _), ?_⟩
  refine ⟨ixs.map S, kA, rank, hd, ranked_of (fun ix g => layA g) (fun ix jx g k => ltD_kA g k) hg, kindA ixs, fun e he => ?_, fun e he => ?_, ?_⟩
  · obtain ⟨ix, hix, rfl⟩ := List.mem_map.mp he
    exact depA (hg ix hix)
  · obtain ⟨ix, hix, rfl⟩ := List.mem_map.mp he
    exact ⟨ix.map u, rfl, by rw [List.length_map]; have := (hg ix hix).len; omega, rfl⟩
  · rw [srt_map (fun ix g => rank_kA g) hg]
    refine ⟨(srt ixs).map S, rfl, fun i ρ => ∃ s2, ρ = [.fz d, .own ((((srt ixs).take i).foldl put []).map S), s2, .no], ⟨.no, rfl⟩, ?_, ?_⟩
    · rintro i e ρ hi ⟨s2, rfl⟩
      obtain ⟨m, hm, rfl⟩ : ∃ m, (srt ixs)[i]? = some m ∧ S m = e := by
        rw [List.getElem?_map] at hi
        cases q : (srt ixs)[i]? with
        | none => rw [q] at hi; cases hi
        | some m => rw [q] at hi; exact ⟨m, rfl, Option.some.inj hi⟩
      have gm := hsg m (List.mem_of_getElem? hm)
      have kin : ∀ k ∈ ((srt ixs).take i).foldl put [], Good k := fun k hk => by
        rcases greedy_in _ _ _ hk with q | q
        · exact absurd q (by simp)
        · exact hsg k (List.mem_of_mem_take q)
      have klen : (((srt ixs).take i).foldl put []).length ≤ 900 := by
        have q := greedy_len ((srt ixs).take i) []
        have q2 := List.length_take_le i (srt ixs)
        simp only [List.length_nil] at q
        have q3 : ((srt ixs).take i).length ≤ (srt ixs).length := by rw [List.length_take]; exact Nat.min_le_right _ _
        omega
      have et : (srt ixs).take (i + 1) = (srt ixs).take i ++ [m] := by rw [List.take_add_one, hm]; rfl
      have ef : ((srt ixs).take (i + 1)).foldl put [] = put (((srt ixs).take i).foldl put []) m := by rw [et, List.foldl_append]; rfl
      generalize ((srt ixs).take i).foldl put [] = kk at kin klen ef
      refine ⟨kk.map S, rfl, ?_⟩
      refine lc_in (len_lt (by rw [List.length_map]; omega)) (noOwn_of rfl) (fun z => partB (itemsD z) (m.map u)) id (fun z hz W1 W0 h1 h0 => ?_) ?_
      · obtain ⟨k, hk, rfl⟩ := List.mem_map.mp hz
        have gk := kin k hk
        refine ⟨S k, S m, k.map u, m.map u, rfl, rfl, rfl, ?_, fun x hx => ?_, shp_S gm, _, rfl, rfl, ?_⟩
        · rw [List.length_map]
          have := gk.len
          omega
        · obtain ⟨j, hj, rfl⟩ := List.mem_map.mp hx
          exact shp_u (gk.lt j hj)
        · refine ite2 (fun q => ⟨rfl, h1 q⟩) (fun q => h0 ?_)
          cases z : partB (itemsD (S k)) (m.map u) with
          | false => rfl
          | true => exact absurd z q
      · refine ⟨_, rfl, ?_⟩
        have ea : (((kk.map S).filter fun z => partB (itemsD z) (m.map u)).map id).isEmpty = !kk.any (fun t => partI t m) := by
          rw [List.map_id, isEmpty_filter, List.any_map]
          refine congrArg Bool.not (any_in fun t ht => ?_)
          exact part_S (kin t ht) gm
        show if (!(!(((kk.map S).filter fun z => partB (itemsD z) (m.map u)).map id).isEmpty)) = true then _ else _
        rw [ea, Bool.not_not]
        refine ite2 (fun q => ?_) (fun q => ?_)
        · have q' : kk.any (fun t => partI t m) = false := by
            cases z : kk.any (fun t => partI t m) with
            | false => rfl
            | true => rw [z] at q; cases q
          have ep : put kk m = kk ++ [m] := if_neg (by rw [q']; decide)
          rw [ep] at ef
          refine ⟨⟨_, rfl⟩, kk.map S, rfl, len_lt (by rw [List.length_map]; omega), .fz (S m), ?_⟩
          rw [ef, List.map_append]
          rfl
        · have q' : kk.any (fun t => partI t m) = true := by
            cases z : kk.any (fun t => partI t m) with
            | true => rfl
            | false => rw [z] at q; exact absurd rfl q
          have ep : put kk m = kk := if_pos q'
          rw [ep] at ef
          exact ⟨.fz (S m), by rw [ef]; rfl⟩
    · rintro ρ ⟨s2, rfl⟩
      rw [List.length_map, List.take_length]
      exact ⟨_, _, rfl, rfl, r⟩
theorem ok_ord {f c0 : Addr} {fd : FuncData} {k : Nat} (F : FunC K "sets_in_order" "sets_in_order" sOrd f fd c0) {Pt : Addr} (TB : TabB base mg c0 Pt) (hm : (Pt, fun _ _ => qualA ++ "<lambda>") ∈ Tbs.T) (hu : ∀ p ∈ Tbs.T, p.1 = Pt → p.2 = fun _ _ => qualA ++ "<lambda>")
    (GS : CalD P w K mg base k "set_key" (spD K cSet)) (GP : CalD P w K mg base (k + 3) "is_part" (spD K cPart)) (ml : mg "len" = none) (ms : mg "sorted" = none) (mt : mg "tuple" = none) : FnOk P w K mg base CX0 (k + 4) f fd ["sets"] (spD K cOrd) :=
  ok_DC F scOrd (by decide) (fun ds R ⟨d, ixs, h, _⟩ => by rw [h]; rfl) (fun A outer s H E hr =>
    ds_cons (ds_setL (ps_set (i := 1) scOrd.nd rfl (.inl rfl) (dl_lst da_nil)))
    (ds_cons (ds_for (ps_for PassesOwn.never rfl (di_seq (de_own (dl_sortK (js := []) (fr := []) (pa_cons (db_var (pv 0)) pa_nil) (pe_lam TB rfl hm rfl hu rfl (ndef_free (sc := defScope sOrd) (nsc := lamScope lamA) (fr := []) (by decide +kernel))) (fun q c' => ok_lamA rfl GS ml) hr (fun c' ok => Caps.made ok (ndef_free (sc := defScope sOrd) (nsc := lamScope lamA) (fr := []) (by decide +kernel)) (fun y hy => absurd hy (by simp)) rfl)
          (fun hc ha hk => pe_callBK hc (by rfl) ms (by decide +kernel) ha hk)))) (dg_name (pg_name (i := 2) scOrd.nd rfl (.inr rfl)))
        (ds_one (ds_if (dt_not (dt_tru (db_of (de_own (dl_lc (pe_lc rfl scOrd.nd (dib_own (db_var (pv 1))) (own := [("other", 3)]) (blkOk_by (N := ["sets", "least", "callbacks", "other"]) (sc := defScope sOrd) (by decide +kernel)) (fun _ _ _ _ _ => dg_name (pg_name (i := 3) scOrd.nd rfl (.inl rfl)))
            (fun _ _ _ _ _ => dts_one (dt_val (de_fn (pe_cd GP hr (Nat.le_refl _) (by rfl) (da_cons (de_var (pv 3)) (da_cons (de_var (pv 2)) da_nil)))))) (fun _ _ _ _ _ => de_var (pv 3))) (by decide))))))
          (ds_one (ds_app (ps_expr (pe_bm PySem.F.plainAttrs_list PySem.F.slot_list_append PySem.F.type_list_append mt_append (pv 1) (pa_cons (de_var (pv 2)) pa_nil))))) ds_nil))))
    (ds_one (ds_ret (de_callTy cd_tuple (dba_cons (db_var (pv 1)) dba_nil) (fun _ _ hc ha => pe_callTy hc (by rfl) mt (by decide +kernel) ha)))))) fun ds R h => ord_math rfl h
theorem ok_least {f : Addr} {fd : FuncData} {k : Nat} (F : Fun K "least_sets" "least_sets" sLeast f fd) (G : CalD P w K mg base k "sets_in_order" (spD K cOrd)) : FnOk P w K mg base CX0 (k + 1) f fd ["sets"] (spD K cOrd) :=
  ok_D F scLeast (by decide) (fun ds R ⟨d, ixs, h, _⟩ => by rw [h]; rfl) (fun cdv A outer s H E hr => ds_one (ds_ret (de_fn (pe_cd G hr (Nat.le_refl _) (by rfl) (da_cons (de_var (pv 0)) da_nil))))) fun ds R ⟨d, ixs, h, q⟩ => by
    subst h
    exact ⟨d, ixs, rfl, q⟩
end
end P37
namespace P37
open PySem PySem.Spec PyProof.Rows L2 DL LamX NdefX
variable [Tbs]
/-- the expression that a def returns -/
def retE : Stmt → Expr
  | .Return (some e) _ => e
  | _ => .Constant .none 0 ⟨0, 0, 0, 0⟩
def arg0 : Expr → Expr
  | .Call _ (a :: _) _ _ => a
  | e => e
abbrev lamB : Expr := keyLam (arg0 (retE ((defBody sMin).getD 2 (.Pass ⟨0, 0, 0, 0⟩))))
theorem nsB : NScope ["_law_one", "_law_back"] ["_law_one"] [] (lamScope lamB) := nscope_by (by decide +kernel)
def cKB : Con := fun ds R => ∃ ix, ds = [S ix] ∧ Good ix ∧ R (kB (S ix))
theorem place_ok {i : Nat} (h : i < 7) : (∃ x, u i = .str x) ∨ ∃ x y, u i = .tuple [x, y] := by
  match i, h with
  | 0, _ => exact .inl ⟨_, rfl⟩
  | 1, _ => exact .inl ⟨_, rfl⟩
  | 2, _ => exact .inl ⟨_, rfl⟩
  | 3, _ => exact .inr ⟨_, _, rfl⟩
  | 4, _ => exact .inr ⟨_, _, rfl⟩
  | 5, _ => exact .inr ⟨_, _, rfl⟩
  | 6, _ => exact .inr ⟨_, _, rfl⟩
section
variable {P : Program} {w : World} {K : PySem.W.Frag} {mg : Str → Option Value} {base : Heap}
def lamArgs (x : Str) (p : Pos) : Arguments := { posonlyargs := [], args := [{ arg := x, annotation := none, pos := p : PySem.Arg }], vararg := none, kwonlyargs := [], kw_defaults := [], kwarg := none, defaults := [] : PySem.Arguments }
def lamParams : Expr → Arguments
  | .Lambda a _ _ _ => a
  | _ => lamArgs "" ⟨0, 0, 0, 0⟩
theorem ok_lamB {f : Addr} {k : Nat} {qual : Str} {cl : List (Str × Addr)} {c : Addr} (G : CalD P w K mg base k "_law_place" (spD K cPlace)) (ml : mg "len" = none) :
    LOk P w K mg base CX0 (k + 1) f (lamNF qual (lamParams lamB) (lamScope lamB) cl c) (lamBody lamB) ["_law_one"] [] (fun _ => spD K cKB) := by
  refine lm_D (T := _) nsB (fun pm ctv us hl => match us, hl with | [_], _ => rfl) (by decide) (fun ds R ⟨ix, e, _⟩ => by rw [e]; rfl) (fun A outer s H E hr => de_tup (da_cons (de_cb cd_len (dba_cons (db_var (pv 0)) dba_nil) (fun _ _ hc ha => pe_callB hc (by rfl) ml (by decide +kernel) ha))
    (da_cons (de_own (dl_lc (pe_lc rfl nsB.nd (dib_own (db_var (pv 0))) (own := [("_law_back", 1)]) (blkOk_by (N := ["_law_one", "_law_back"]) (sc := lamScope lamB) (by decide +kernel)) (fun _ _ _ _ _ => dg_name (pg_name (i := 1) nsB.nd rfl (.inl rfl))) (fun _ _ _ _ _ => dts_nil)
      (fun _ _ _ _ _ => de_fn (pe_cd G hr (Nat.le_refl _) (by rfl) (da_cons (de_var (pv 1)) da_nil)))) (by decide))) da_nil))) fun ds R ⟨ix, e, g, r⟩ => ?_
  subst e
  refine ⟨_, rfl, .inl ⟨ix.map u, rfl, ?_⟩⟩
  refine ⟨ix.map u, rfl, ?_⟩
  refine lc_map (len_lt (by rw [List.length_map]; have := g.len; omega)) (noOwn_of rfl) placeD (fun d hd W1 h => ?_) ⟨len_le (Nat.le_of_ble_eq_true rfl), r⟩
  obtain ⟨i, hi, rfl⟩ := List.mem_map.mp hd
  exact ⟨u i, rfl, place_ok (g.lt i hi), rfl, h⟩
abbrev qualB : Str := "_law_least" ++ ".<locals>."
theorem eqv_S {ix jx : List Nat} (g : Good ix) (k : Good jx) : PyData.eqv (S ix) (S jx) = decide (ix = jx) := by
  show PyData.eqv (.tuple (ix.map u)) (.tuple (jx.map u)) = _
  rw [PyData.eqv]
  exact eqvAll_map eqv_u ix jx g.lt k.lt
theorem shp_list : ∀ {l : List D}, (∀ z ∈ l, z.canLay0 = true ∧ z.depth ≤ 20) → shp (.list l) = true := fun {l} h => by
  have h1 : PyData.canLayAll0 l = true := by
    induction l with
    | nil => rfl
    | cons x r ih =>
      show (x.canLay0 && PyData.canLayAll0 r) = true
      rw [(h x List.mem_cons_self).1, ih fun z hz => h z (List.mem_cons_of_mem _ hz)]
      rfl
  have h2 : PyData.depthAll l ≤ 20 := by
    clear h1
    induction l with
    | nil => exact Nat.zero_le _
    | cons x r ih =>
      show max x.depth (PyData.depthAll r) ≤ 20
      exact Nat.max_le.mpr ⟨(h x List.mem_cons_self).2, ih fun z hz => h z (List.mem_cons_of_mem _ hz)⟩
  show (PyData.canLayAll0 l && decide (PyData.depthAll l + 1 ≤ 64)) = true
  rw [h1, decide_eq_true (by omega)]
  rfl
theorem shp_tup : ∀ {l : List D}, (∀ z ∈ l, z.canLay0 = true ∧ z.depth ≤ 20) → shp (.tuple l) = true := fun {l} h => shp_list (l := l) h
theorem S_lay {ix : List Nat} (g : Good ix) : (S ix).canLay0 = true ∧ (S ix).depth ≤ 20 := by
  have h1 := layAll_map (f := u) lay_u ix g.lt
  have h2 := depAll_map (f := u) dep_u ix g.lt
  refine ⟨h1, ?_⟩
  show PyData.depthAll (ix.map u) + 1 ≤ 20
  omega
theorem eqv_nil (l : List D) : PyData.eqv (.list l) (.list []) = l.isEmpty := by
  rw [PyData.eqv]
  cases l with
  | nil => rw [PyData.eqvAll]; rfl
  | cons x r => rw [PyData.eqvAll]; rfl
/-- the rising row of the least ones is the only one -/
theorem srt_least {ixs ff : List IX} (h : ∀ m ∈ ixs, Good m) (nd : ff.Nodup) (hm : ∀ m, m ∈ ff ↔ isMin ixs m) : srt ff = leastA ixs := by
  have gf : ∀ m ∈ ff, Good m := fun m hx => h m ((hm m).mp hx).1
  have hp := srt_perm ff
  refine rise_ext ?_ (leastA_up h) fun m => by rw [hp.mem_iff, hm m, leastA_mem h m]
  have h1 := srt_sorted ff
  have h2 : (srt ff).Nodup := hp.nodup_iff.mpr nd
  have h3 := List.pairwise_iff_getElem.mp h1
  refine List.pairwise_iff_getElem.mpr fun i j hi hj hij => ?_
  have le := h3 i j hi hj hij
  rcases Int.lt_or_eq_of_le le with z | z
  · exact z
  · have e := rkI_inj (gf _ (hp.mem_iff.mp (List.getElem_mem hi))) (gf _ (hp.mem_iff.mp (List.getElem_mem hj))) z
    have := (List.pairwise_iff_getElem.mp h2) i j hi hj hij
    exact absurd e this
def othersP (m : IX) (z : D) : Bool := !PyData.eqv z (S m) && partB (itemsD z) (m.map u)
theorem others_min {ixs : List IX} (h : ∀ m ∈ ixs, Good m) {m : IX} (hm : m ∈ ixs) : ((((ixs.map S).filter (othersP m)).map id).isEmpty = true) ↔ isMin ixs m := by
  rw [List.map_id, isEmpty_filter, List.any_map]
  have e : (ixs.any (othersP m ∘ S)) = ixs.any fun t => !decide (t = m) && partI t m := any_in fun t ht => by
    show (!PyData.eqv (S t) (S m) && partB (t.map u) (m.map u)) = _
    rw [eqv_S (h t ht) (h m hm), part_S (h t ht) (h m hm)]
  rw [e]
  constructor
  · intro q
    have q' : ixs.any (fun t => !decide (t = m) && partI t m) = false := by
      cases z : ixs.any (fun t => !decide (t = m) && partI t m) with
      | false => rfl
      | true => rw [z] at q; cases q
    refine ⟨hm, fun t ht hp => ?_⟩
    by_cases z : t = m
    · exact z
    · have := List.any_eq_false.mp q' t ht
      rw [decide_eq_false z, hp] at this
      exact absurd rfl this
  · intro ⟨_, hmin⟩
    have q' : ixs.any (fun t => !decide (t = m) && partI t m) = false := List.any_eq_false.mpr fun t ht hc => by
      rw [Bool.and_eq_true] at hc
      have e2 := hmin t ht hc.2
      rw [decide_eq_true e2] at hc
      cases hc.1
    rw [q']
    rfl
theorem others_lc {d : D} {ixs : List IX} {m : IX} {s1 s3 : Sl} {R : List D → DS → Prop} (hd : seqD d = some (ixs.map S)) (hg : ∀ ix ∈ ixs, Good ix) (hl : ixs.length ≤ 900) (gm : Good m) (fin : R (((ixs.map S).filter (othersP m)).map id) [.fz d, s1, .fz (S m), s3, .no]) :
    lLc [4] (iSeq (bVar 0)) (gNm 4) (tAndD (tVal (dBin (rEqDD true) (bVar 4) (bVar 2))) (tVal (dFn cPart (dCons (dVar 4) (dCons (dVar 2) dNil))))) (dVar 4) [.fz d, s1, .fz (S m), s3, .no] R := by
  refine ⟨ixs.map S, seq_iter hd, ?_⟩
  refine lc_in (R := R) (ds := ixs.map S) (vs := [4]) (ρ := [.fz d, s1, .fz (S m), s3, .no]) (len_lt (by rw [List.length_map]; omega)) (noOwn_of rfl) (othersP m) id (fun z hz W1 W0 h1 h0 => ?_) fin
  obtain ⟨t, ht, rfl⟩ := List.mem_map.mp hz
  have gt := hg t ht
  refine ⟨shp_S gt, shp_S gm, _, rfl, ?_⟩
  show if (!PyData.eqv (S t) (S m)) = true then _ else _
  refine ite2 (fun q => ?_) (fun q => ?_)
  · refine ⟨S t, S m, t.map u, m.map u, rfl, rfl, rfl, ?_, fun x hx => ?_, shp_S gm, _, rfl, rfl, ?_⟩
    · rw [List.length_map]
      have := gt.len
      omega
    · obtain ⟨j, hj, rfl⟩ := List.mem_map.mp hx
      exact shp_u (gt.lt j hj)
    · refine ite2 (fun q2 => ⟨rfl, h1 ?_⟩) (fun q2 => h0 ?_)
      · show (!PyData.eqv (S t) (S m) && partB (t.map u) (m.map u)) = true
        rw [q, q2]
        rfl
      · show (!PyData.eqv (S t) (S m) && partB (t.map u) (m.map u)) = false
        rw [q, Bool.true_and]
        cases z : partB (t.map u) (m.map u) with
        | false => rfl
        | true => exact absurd z q2
  · refine ⟨rfl, ?_⟩
    rw [if_neg Bool.false_ne_true]
    refine h0 ?_
    show (!PyData.eqv (S t) (S m) && _) = false
    have q' : (!PyData.eqv (S t) (S m)) = false := by
      cases z : (!PyData.eqv (S t) (S m)) with
      | false => rfl
      | true => exact absurd z q
    rw [q', Bool.false_and]
theorem min_math {N : Nat} (hN : N = 5) {ds : List D} {R : D → Prop} (h : cOrd ds R) : sCons (sSetL 1 (dLst dNil)) (sCons (sFor (iSeq (dVar 0)) (gNm 2) (sCons
      (sSetL 3 (lLc [4] (iSeq (bVar 0)) (gNm 4) (tAndD (tVal (dBin (rEqDD true) (bVar 4) (bVar 2))) (tVal (dFn cPart (dCons (dVar 4) (dCons (dVar 2) dNil))))) (dVar 4)))
      (sIf (tAndD (tVal (dBin (rEqDD false) (bVar 3) (dOf (dLst dNil)))) (tVal (dBin (rInDD true) (bVar 2) (bVar 1)))) (sApp 1 (dVar 2)) sNil)))
    (sRet (dCall cTuple (dCons (dOf (lSortK cKB (bVar 1))) dNil)))) (endsD R) (dstart ds N) := by
  obtain ⟨d, ixs, rfl, hd, hg, hl, r⟩ := h
  subst hN
  refine ⟨len_le (Nat.zero_le _), ixs.map S, seq_iter hd, fun i ρ => ∃ (ff : List IX) (s2 s3 : Sl), ρ = [.fz d, .own (ff.map S), s2, s3, .no] ∧ ff.Nodup ∧ (∀ m ∈ ff, isMin ixs m) ∧ (∀ m ∈ ixs.take i, isMin ixs m → m ∈ ff) ∧ ff.length ≤ i, ⟨[], .no, .no, rfl, List.nodup_nil, fun m hm => absurd hm (by simp), fun m hm => absurd hm (by simp), Nat.le_refl _⟩, ?_, ?_⟩
  · rintro i e ρ hi ⟨ff, s2, s3, rfl, nd, f1, f2, fl⟩
    obtain ⟨m, hm, rfl⟩ : ∃ m, ixs[i]? = some m ∧ S m = e := by
      rw [List.getElem?_map] at hi
      cases q : ixs[i]? with
      | none => rw [q] at hi; cases hi
      | some m => rw [q] at hi; exact ⟨m, rfl, Option.some.inj hi⟩
    have hmi : m ∈ ixs := List.mem_of_getElem? hm
    have gm := hg m hmi
    have hil : i < ixs.length := (List.getElem?_eq_some_iff.mp hm).1
    have gf : ∀ t ∈ ff, Good t := fun t ht => hg t (f1 t ht).1
    have et : ∀ t, t ∈ ixs.take (i + 1) ↔ t ∈ ixs.take i ∨ t = m := fun t => by
      rw [List.take_add_one, hm]
      show t ∈ ixs.take i ++ [m] ↔ _
      rw [List.mem_append, List.mem_singleton]
    show sCons _ _ _ [Sl.fz d, Sl.own (ff.map S), Sl.fz (S m), s3, Sl.no]
    unfold sCons sSetL
    refine others_lc hd hg hl gm ?_
    · generalize hO : (((ixs.map S).filter (othersP m)).map id) = os
      have hmin := others_min hg hmi
      rw [hO] at hmin
      have los : ∀ z ∈ os, z.canLay0 = true ∧ z.depth ≤ 20 := fun z hz => by
        rw [← hO, List.map_id] at hz
        obtain ⟨t, ht, rfl⟩ := List.mem_map.mp (List.mem_filter.mp hz).1
        exact S_lay (hg t ht)
      refine ⟨len_le (Nat.zero_le _), shp_list los, shp_list (l := []) (fun z hz => absurd hz (by simp)), _, rfl, ?_⟩
      show if PyData.eqv (.list os) (.list []) = true then _ else _
      rw [eqv_nil]
      refine ite2 (fun q => ?_) (fun q => ?_)
      · have mm : isMin ixs m := hmin.mp q
        refine ⟨ff.map S, rfl, shp_S gm, shp_list (fun z hz => ?_), _, rfl, ?_⟩
        · obtain ⟨t, ht, rfl⟩ := List.mem_map.mp hz
          exact S_lay (gf t ht)
        · have ea : (ff.map S).any (fun z => PyData.eqv z (S m)) = ff.any fun t => decide (t = m) := by
            rw [List.any_map]
            exact any_in fun t ht => eqv_S (gf t ht) gm
          show if (!(ff.map S).any (fun z => PyData.eqv z (S m))) = true then _ else _
          rw [ea]
          refine ite2 (fun q2 => ?_) (fun q2 => ?_)
          · have nm : m ∉ ff := fun z => by
              have : ff.any (fun t => decide (t = m)) = true := List.any_eq_true.mpr ⟨m, z, decide_eq_true rfl⟩
              rw [this] at q2
              cases q2
            refine ⟨⟨_, rfl⟩, ff.map S, rfl, len_lt (by rw [List.length_map]; omega), ff ++ [m], .fz (S m), _, by rw [List.map_append]; rfl, ?_, fun t ht => ?_, fun t ht hmt => ?_, by rw [List.length_append]; show ff.length + 1 ≤ i + 1; omega⟩
            · exact List.nodup_append.mpr ⟨nd, List.nodup_cons.mpr ⟨by simp, List.nodup_nil⟩, fun a ha b hb e => nm (by rw [List.mem_singleton.mp hb] at e; rw [← e]; exact ha)⟩
            · rcases List.mem_append.mp ht with z | z
              · exact f1 t z
              · rw [List.mem_singleton.mp z]; exact mm
            · rcases (et t).mp ht with z | z
              · exact List.mem_append_left _ (f2 t z hmt)
              · rw [z]; exact List.mem_append_right _ (List.mem_singleton.mpr rfl)
          · have im : m ∈ ff := by
              cases z : ff.any (fun t => decide (t = m)) with
              | true =>
                obtain ⟨t, ht, e⟩ := List.any_eq_true.mp z
                rw [← of_decide_eq_true e]
                exact ht
              | false => rw [z] at q2; exact absurd rfl q2
            refine ⟨ff, .fz (S m), _, rfl, nd, f1, fun t ht hmt => ?_, by omega⟩
            rcases (et t).mp ht with z | z
            · exact f2 t z hmt
            · rw [z]; exact im
      · have nmm : ¬ isMin ixs m := fun z => q (hmin.mpr z)
        refine iteF ?_
        refine ⟨ff, .fz (S m), _, rfl, nd, f1, fun t ht hmt => ?_, by omega⟩
        rcases (et t).mp ht with z | z
        · exact f2 t z hmt
        · rw [z] at hmt; exact absurd hmt nmm
  · rintro ρ ⟨ff, s2, s3, rfl, nd, f1, f2, fl⟩
    rw [List.length_map, List.take_length] at f2
    rw [List.length_map] at fl
    have gf : ∀ t ∈ ff, Good t := fun t ht => hg t (f1 t ht).1
    refine ⟨ff.map S, kB, rank, rfl, ranked_of (fun ix g => layB g) (fun ix jx g k => ltD_kB g k) gf, kindB ff, fun e he => ?_, fun e he => ?_, ?_⟩
    · obtain ⟨ix, hix, rfl⟩ := List.mem_map.mp he
      exact depB (gf ix hix)
    · obtain ⟨ix, hix, rfl⟩ := List.mem_map.mp he
      exact ⟨ix, rfl, gf ix hix, rfl⟩
    · rw [srt_map (fun ix g => rank_kB g) gf, srt_least hg nd fun m => ⟨f1 m, fun z => f2 m z.1 z⟩]
      exact ⟨_, _, rfl, rfl, r⟩
theorem ok_min {f c0 : Addr} {fd : FuncData} {k : Nat} (F : FunC K "_law_least" "_law_least" sMin f fd c0) {Pt : Addr} (TB : TabB base mg c0 Pt) (hm : (Pt, fun _ _ => qualB ++ "<lambda>") ∈ Tbs.T) (hu : ∀ p ∈ Tbs.T, p.1 = Pt → p.2 = fun _ _ => qualB ++ "<lambda>")
    (GS : CalD P w K mg base k "_law_place" (spD K cPlace)) (GP : CalD P w K mg base (k + 3) "_law_within" (spD K cPart)) (ml : mg "len" = none) (ms : mg "sorted" = none) (mt : mg "tuple" = none) : FnOk P w K mg base CX0 (k + 4) f fd ["_law_some"] (spD K cOrd) :=
  ok_DC F scMin (by decide) (fun ds R ⟨d, ixs, h, _⟩ => by rw [h]; rfl) (fun A outer s H E hr =>
    ds_cons (ds_setL (ps_set (i := 1) scMin.nd rfl (.inl rfl) (dl_lst da_nil)))
    (ds_cons (ds_for (ps_for PassesOwn.never rfl (di_seq (de_var (pv 0))) (dg_name (pg_name (i := 2) scMin.nd rfl (.inr rfl)))
      (ds_cons (ds_setLc (ps_setLc (i := 3) rfl scMin.nd rfl rfl (sw_true rfl rfl rfl rfl) (dib_own (db_var (pv 0))) (own := [("_law_two", 4)]) (blkOk_by (N := ["_law_some", "_law_found", "_law_one", "_law_others", "_law_two"]) (sc := defScope sMin) (by decide +kernel)) (fun _ _ _ _ _ => dg_name (pg_name (i := 4) scMin.nd rfl (.inl rfl)))
          (fun _ _ _ _ _ => dts_one (dt_w (dw_and (dt_cmp (od_ne (room64 hr)) (db_var (pv 4)) (db_var (pv 2)) (nomark _)) (dw_and1 (dt_val (de_fn (pe_cd GP hr (Nat.le_refl _) (by rfl) (da_cons (de_var (pv 4)) (da_cons (de_var (pv 2)) da_nil))))))))) (fun _ _ _ _ _ => de_var (pv 4))) (by decide))
      (ds_one (ds_if (dt_w (dw_and (dt_cmp (od_eq (room64 hr)) (db_var (pv 3)) (db_of (de_own (dl_lst da_nil))) (nomark _)) (dw_and1 (dt_cmp (od_nin (room65 hr)) (db_var (pv 2)) (db_var (pv 1)) rfl))))
          (ds_one (ds_app (ps_expr (pe_bm PySem.F.plainAttrs_list PySem.F.slot_list_append PySem.F.type_list_append mt_append (pv 1) (pa_cons (de_var (pv 2)) pa_nil))))) ds_nil)))))
    (ds_one (ds_ret (de_callTy cd_tuple (dba_cons (db_of (de_own (dl_sortK (js := []) (fr := []) (pa_cons (db_var (pv 1)) pa_nil) (pe_lam TB rfl hm rfl hu rfl (ndef_free (sc := defScope sMin) (nsc := lamScope lamB) (fr := []) (by decide +kernel))) (fun q c' => ok_lamB GS ml) hr
          (fun c' ok => Caps.made ok (ndef_free (sc := defScope sMin) (nsc := lamScope lamB) (fr := []) (by decide +kernel)) (fun y hy => absurd hy (by simp)) rfl) (fun hc ha hk => pe_callBK hc (by rfl) ms (by decide +kernel) ha hk)))) dba_nil) (fun _ _ hc ha => pe_callTy hc (by rfl) mt (by decide +kernel) ha)))))) fun ds R h => min_math rfl h
end
end P37
namespace P37
open PySem PySem.Spec PyProof.Rows L2 DL
variable [Tbs]
/-! ### the law's mathematics -/
theorem least_ext {a b : List IX} (ha : ∀ m ∈ a, Good m) (hb : ∀ m ∈ b, Good m) (h : ∀ m, isMin a m ↔ isMin b m) : leastA a = leastA b :=
  rise_ext (leastA_up ha) (leastA_up hb) fun m => by rw [leastA_mem ha, leastA_mem hb, h m]
theorem least_same {a b : List IX} (ha : ∀ m ∈ a, Good m) (h : ∀ m, m ∈ b ↔ m ∈ a) : leastA b = leastA a :=
  least_ext (fun m hm => ha m ((h m).mp hm)) ha fun m => ⟨fun ⟨q, r⟩ => ⟨(h m).mp q, fun t ht => r t ((h t).mpr ht)⟩, fun ⟨q, r⟩ => ⟨(h m).mpr q, fun t ht => r t ((h t).mp ht)⟩⟩
theorem least_in {a : List IX} (ha : ∀ m ∈ a, Good m) {m : IX} (h : m ∈ leastA a) : m ∈ a := ((leastA_mem ha m).mp h).1
theorem least_idem {a : List IX} (ha : ∀ m ∈ a, Good m) : leastA (leastA a) = leastA a := by
  have hl : ∀ m ∈ leastA a, Good m := fun m hm => ha m (least_in ha hm)
  refine rise_ext (leastA_up hl) (leastA_up ha) fun m => ?_
  rw [leastA_mem hl]
  constructor
  · exact fun h => h.1
  · intro h
    refine ⟨h, fun t ht hp => ?_⟩
    exact ((leastA_mem ha m).mp h).2 t (least_in ha ht) hp
theorem least_len {a : List IX} : (leastA a).length ≤ a.length := by
  have q := greedy_len (srt a) []
  rw [(srt_perm a).length_eq] at q
  have q2 : (leastA a).length ≤ 0 + a.length := q
  omega
/-- the drawn ones: of the first six -/
structure Six (ix : IX) : Prop where
  up : ix.Pairwise (· < ·)
  lt : ∀ i ∈ ix, i < 6
theorem Six.good {ix : IX} (h : Six ix) : Good ix := ⟨h.up, fun i hi => Nat.lt_succ_of_lt (h.lt i hi)⟩
theorem Six.wide {ix : IX} (h : Six ix) : Good (ix ++ [6]) := ⟨List.pairwise_append.mpr ⟨h.up, List.pairwise_singleton _ _, fun a ha b hb => by rw [List.mem_singleton.mp hb]; exact h.lt a ha⟩, fun i hi => by
  rcases List.mem_append.mp hi with q | q
  · exact Nat.lt_succ_of_lt (h.lt i q)
  · rw [List.mem_singleton.mp q]; decide⟩
theorem least_wide {a : List IX} (ha : ∀ m ∈ a, Six m) {m : IX} (hm : m ∈ leastA a) : leastA ((m ++ [6]) :: a) = leastA a := by
  have hg : ∀ x ∈ a, Good x := fun x hx => (ha x hx).good
  have hma := least_in hg hm
  have hw := (ha m hma).wide
  have six : ∀ x ∈ a, 6 ∉ x := fun x hx z => absurd ((ha x hx).lt 6 z) (by decide)
  refine least_ext (fun x hx => ?_) hg fun x => ?_
  · rcases List.mem_cons.mp hx with q | q
    · rw [q]; exact hw
    · exact hg x q
  · constructor
    · intro ⟨hx, hmin⟩
      rcases List.mem_cons.mp hx with q | q
      · exfalso
        have e := hmin m (List.mem_cons_of_mem _ hma) (partI_iff.mpr fun i hi => by rw [q]; exact List.mem_append_left _ hi)
        exact six m hma (by rw [e, q]; exact List.mem_append_right _ (List.mem_singleton.mpr rfl))
      · exact ⟨q, fun t ht => hmin t (List.mem_cons_of_mem _ ht)⟩
    · intro ⟨hx, hmin⟩
      refine ⟨List.mem_cons_of_mem _ hx, fun t ht hp => ?_⟩
      rcases List.mem_cons.mp ht with q | q
      · exfalso
        rw [q] at hp
        exact six x hx (partI_iff.mp hp 6 (List.mem_append_right _ (List.mem_singleton.mpr rfl)))
      · exact hmin t q hp
theorem good_nil : Good [] := ⟨List.Pairwise.nil, fun i hi => absurd hi (by simp)⟩
theorem least_empty {a : List IX} (ha : ∀ m ∈ a, Good m) : leastA (a ++ [[]]) = [[]] := by
  have hg : ∀ x ∈ a ++ [[]], Good x := fun x hx => by
    rcases List.mem_append.mp hx with q | q
    · exact ha x q
    · rw [List.mem_singleton.mp q]; exact good_nil
  refine rise_ext (leastA_up hg) (List.pairwise_singleton _ _) fun m => ?_
  rw [leastA_mem hg, List.mem_singleton]
  constructor
  · intro ⟨_, h⟩
    exact (h [] (List.mem_append_right _ (List.mem_singleton.mpr rfl)) (partI_iff.mpr fun i hi => absurd hi (by simp))).symm
  · intro e
    subst e
    refine ⟨List.mem_append_right _ (List.mem_singleton.mpr rfl), fun t _ hp => ?_⟩
    cases t with
    | nil => rfl
    | cons i r => exact absurd (partI_iff.mp hp i List.mem_cons_self) (by simp)
/-! ### as data -/
theorem eqvAll_S : ∀ {a : List IX}, (∀ m ∈ a, Good m) → PyData.eqvAll (a.map S) (a.map S) = true
  | [], _ => by rw [List.map_nil, PyData.eqvAll]
  | m :: r, h => by
    have g := h m List.mem_cons_self
    rw [List.map_cons, PyData.eqvAll, eqv_S g g, decide_eq_true rfl, eqvAll_S fun x hx => h x (List.mem_cons_of_mem _ hx)]
    rfl
theorem eqv_tup {a : List IX} (h : ∀ m ∈ a, Good m) : PyData.eqv (.tuple (a.map S)) (.tuple (a.map S)) = true := by rw [PyData.eqv]; exact eqvAll_S h
theorem eqv_lst {a : List IX} (h : ∀ m ∈ a, Good m) : PyData.eqv (.list (a.map S)) (.list (a.map S)) = true := by rw [PyData.eqv]; exact eqvAll_S h
theorem eqv_tnil (l : List D) : PyData.eqv (.tuple l) (.tuple []) = l.isEmpty := by
  rw [PyData.eqv]
  cases l with
  | nil => rw [PyData.eqvAll]; rfl
  | cons x r => rw [PyData.eqvAll]; rfl
theorem lay_in {a : List IX} (h : ∀ m ∈ a, Good m) : ∀ z ∈ a.map S, z.canLay0 = true ∧ z.depth ≤ 20 := fun z hz => by
  obtain ⟨m, hm, rfl⟩ := List.mem_map.mp hz
  exact S_lay (h m hm)
theorem cut_S (a : List IX) : ∃ c : List IX, DL.cutD (a.map S) none (some 3) = c.map S ∧ (∀ m ∈ c, m ∈ a) ∧ c.length ≤ a.length := by
  unfold DL.cutD
  refine ⟨(a.drop (HT.sIx (a.map S).length 0 none)).take (HT.sIx (a.map S).length (a.map S).length (some 3) - HT.sIx (a.map S).length 0 none), ?_, fun m hm => ?_, ?_⟩
  · rw [List.map_take, List.map_drop]
  · exact List.mem_of_mem_drop (List.mem_of_mem_take hm)
  · rw [List.length_take, List.length_drop]
    omega
/-- a comparison of two equal data that is false -/
theorem ne_f {d : D} (he : PyData.eqv d d = true) : PyData.bool (if (true : Bool) = true then !PyData.eqv d d else PyData.eqv d d) = .bool false := by
  rw [if_pos rfl, he]
  rfl
/-- one drawn set -/
abbrev backs : List D := [u 0, u 1, u 2, u 3, u 4, u 5]
abbrev tZero : TDT := tVal (dBin (rEqDD false) (dCall cInt (dCons (dFnP (pVar 2) cDraw (dCons (dVar 4) dNil)) dNil)) (dC (.int 0)))
theorem set_lc {s0 s1 s5 s6 s7 s8 s9 : Sl} {up : Int} {R : List D → DS → Prop} (h0 : 0 < up) (h1 : up < 1073741824) (fin : ∀ ix, Six ix → R (ix.map u) [s0, s1, .pot, .own backs, .fz (.int up), s5, s6, s7, s8, s9, .no]) :
    lLc [10] (iSeq (bVar 3)) (gNm 10) tZero (dVar 10) [s0, s1, .pot, .own backs, .fz (.int up), s5, s6, s7, s8, s9, .no] R := by
  refine ⟨backs, rfl, len_lt (Nat.le_of_ble_eq_true rfl), noOwn_of rfl, fun i acc => ∃ ix : IX, acc = ix.map u ∧ ix.Pairwise (· < ·) ∧ ∀ j ∈ ix, j < i, ⟨[], rfl, List.Pairwise.nil, fun j hj => absurd hj (by simp)⟩, ?_, ?_⟩
  · rintro i d acc hi ⟨ix, rfl, pw, lt⟩
    have hd : d = u i := by
      match i, hi with
      | 0, hi => exact (Option.some.inj hi).symm
      | 1, hi => exact (Option.some.inj hi).symm
      | 2, hi => exact (Option.some.inj hi).symm
      | 3, hi => exact (Option.some.inj hi).symm
      | 4, hi => exact (Option.some.inj hi).symm
      | 5, hi => exact (Option.some.inj hi).symm
      | i + 6, hi => exact absurd hi (by simp)
    subst hd
    refine ⟨rfl, up, rfl, h0, h1, fun r r0 r1 => ⟨r, .inl ⟨rfl, rfl, rfl, _, rfl, rfl, ite2 (fun q => ?_) (fun q => ?_)⟩⟩⟩
    · refine ⟨rfl, ix ++ [i], by rw [List.map_append]; rfl, List.pairwise_append.mpr ⟨pw, List.pairwise_singleton _ _, fun a ha b hb => by rw [List.mem_singleton.mp hb]; exact lt a ha⟩, fun j hj => ?_⟩
      rcases List.mem_append.mp hj with z | z
      · exact Nat.lt_succ_of_lt (lt j z)
      · rw [List.mem_singleton.mp z]; exact Nat.lt_succ_self i
    · exact ⟨ix, rfl, pw, fun j hj => Nat.lt_succ_of_lt (lt j hj)⟩
  · rintro acc ⟨ix, rfl, pw, lt⟩
    exact fin ix ⟨pw, fun j hj => lt j hj⟩
/-! ### the sets are drawn -/
abbrev sDrawn : TDS := sFor (iRg1 (dCons (dFnP (pVar 2) cDraw (dCons (dC (.int 10)) dNil)) dNil)) (gNm 6) (sApp 5 (dCall cTuple (dCons (dOf (lLc [10] (iSeq (bVar 3)) (gNm 10) tZero (dVar 10))) dNil)))
theorem drawn_math {E : DEnds} {s0 s1 s6 s7 s8 s9 : Sl} {up : Int} (h0 : 0 < up) (h1 : up < 1073741824)
    (nx : ∀ (ixs : List IX) (t6 : Sl), (∀ m ∈ ixs, Six m) → ixs.length ≤ 60 → E.nx [s0, s1, .pot, .own backs, .fz (.int up), .own (ixs.map S), t6, s7, s8, s9, .no]) : sDrawn E [s0, s1, .pot, .own backs, .fz (.int up), .own [], s6, s7, s8, s9, .no] := by
  refine ⟨rfl, 10, rfl, by decide, by decide, fun r r0 r1 => ⟨r, rfl, by omega, by omega, ?_⟩⟩
  refine ⟨fun i ρ => i ≤ 60 ∧ ∃ (ixs : List IX) (t6 : Sl), ρ = [s0, s1, .pot, .own backs, .fz (.int up), .own (ixs.map S), t6, s7, s8, s9, .no] ∧ (∀ m ∈ ixs, Six m) ∧ ixs.length ≤ i, ⟨by omega, [], s6, rfl, fun m hm => absurd hm (by simp), Nat.le_refl _⟩, ?_, ?_⟩
  · rintro i d ρ hi ⟨hi60, ixs, t6, rfl, six, hl⟩
    have hir : i < (intsTo 0 r.toNat).length := (List.getElem?_eq_some_iff.mp hi).1
    rw [intsTo_len] at hir
    refine ⟨⟨_, rfl⟩, ?_⟩
    show lLc [10] (iSeq (bVar 3)) (gNm 10) tZero (dVar 10) [s0, s1, .pot, .own backs, .fz (.int up), .own (ixs.map S), .fz d, s7, s8, s9, .no] _
    refine set_lc h0 h1 fun ix hix => ⟨_, _, rfl, rfl, ixs.map S, rfl, len_lt (by rw [List.length_map]; omega), by omega, ixs ++ [ix], .fz d, by rw [List.map_append]; rfl, fun m hm => ?_, by rw [List.length_append]; show ixs.length + 1 ≤ i + 1; omega⟩
    rcases List.mem_append.mp hm with q | q
    · exact six m q
    · rw [List.mem_singleton.mp q]; exact hix
  · rintro ρ ⟨_, ixs, t6, rfl, six, hl⟩
    rw [intsTo_len] at hl
    exact nx ixs t6 six (by omega)
/-! ### the checks -/
abbrev tOne (a : TD) (i : Nat) : TDT := tVal (dBin (rEqDD true) (dFn cOrd (dCons a dNil)) (bVar i))
abbrev sTail : TDS := sCons (sPar 7 8 (dCons (dFn cOrd (dCons (dVar 5) dNil)) (dCons (dOf (dListOf (dCons (bVar 5) dNil))) dNil)))
  (sCons (sIf (tOrD (tOne (dVar 5) 7) (tOrD (tOne (dCall cTuple (dCons (dBin rAddD (dRev (bVar 5)) (dSl (bVar 5) oNone (oSome (dC (.int 3))))) dNil)) 7) (tOne (dVar 7) 7))) (sRet (dC (.bool false))) sNil)
  (sCons (sIf (tVal (dBin (rEqDD true) (bVar 5) (bVar 8))) (sRet (dC (.bool false))) sNil)
  (sIf (tVal (dBin (rEqDD true) (bVar 7) (dTup dNil)))
    (sCons (DL.sSet 9 (dBin rAddD (dFnP (pVar 2) cPick (dCons (dVar 7) dNil)) (dTup (dCons (dTup (dCons (dC (.str "zz")) (dCons (dTup dNil) dNil))) dNil))))
      (sIf (tOrD (tOne (dBin rAddD (dOf (dLst (dCons (dVar 9) dNil))) (bVar 5)) 7) (tVal (dBin (rEqDD true) (dFn cOrd (dCons (dBin rAddD (bVar 5) (dOf (dLst (dCons (dTup dNil) dNil)))) dNil)) (dTup (dCons (dTup dNil) dNil)))))
        (sRet (dC (.bool false))) sNil)) sNil)))
theorem tail_math {E : DEnds} {s0 s1 s3 s4 s6 s7 s8 s9 : Sl} {ixs : List IX} (six : ∀ m ∈ ixs, Six m) (hl : ixs.length ≤ 60) (nx : ∀ t5 t7 t8 t9 : Sl, E.nx [s0, s1, .pot, s3, s4, t5, s6, t7, t8, t9, .no]) :
    sTail E [s0, s1, .pot, s3, s4, .own (ixs.map S), s6, s7, s8, s9, .no] := by
  have hg : ∀ m ∈ ixs, Good m := fun m hm => (six m hm).good
  have hgl : ∀ m ∈ leastA ixs, Good m := fun m hm => hg m (least_in hg hm)
  have hll : (leastA ixs).length ≤ 60 := Nat.le_trans least_len hl
  have sd : shp (.tuple ((leastA ixs).map S)) = true := shp_tup (lay_in hgl)
  have ed : PyData.eqv (.tuple ((leastA ixs).map S)) (.tuple ((leastA ixs).map S)) = true := eqv_tup hgl
  -- due, kept
  refine ⟨.list (ixs.map S), ixs, rfl, rfl, hg, by omega, _, _, rfl, rfl, _, _, rfl, ?_⟩
  -- three calls
  show sCons _ _ E [s0, s1, .pot, s3, s4, .fz (.list (ixs.map S)), s6, .fz (.tuple ((leastA ixs).map S)), .fz (.list (ixs.map S)), s9, .no]
  refine ⟨.list (ixs.map S), ixs, rfl, rfl, hg, by omega, sd, sd, false, ne_f ed, iteF ?_⟩
  obtain ⟨c, hc1, hc2, hc3⟩ := cut_S ixs
  have hrl : ((ixs.map S).reverse).length + (DL.cutD (ixs.map S) none (some 3)).length ≤ sizeLine := by
    have q : ((ixs.map S).reverse ++ DL.cutD (ixs.map S) none (some 3)).length ≤ sizeLine := len_le (by rw [List.length_append, List.length_reverse, List.length_map, hc1, List.length_map]; omega)
    rw [List.length_append] at q
    exact q
  have hrs : (ixs.map S).reverse ++ DL.cutD (ixs.map S) none (some 3) = (ixs.reverse ++ c).map S := by rw [hc1, List.map_append, List.map_reverse]
  have hmem : ∀ m, m ∈ ixs.reverse ++ c ↔ m ∈ ixs := fun m => by
    rw [List.mem_append, List.mem_reverse]
    exact ⟨fun z => z.elim id (hc2 m), .inl⟩
  refine ⟨_, rfl, 3, rfl, .inl ⟨_, rfl, hrl, _, _, rfl, rfl, _, ixs.reverse ++ c, rfl, congrArg some hrs, fun m hm => hg m ((hmem m).mp hm), by rw [List.length_append, List.length_reverse]; omega, ?_⟩⟩
  rw [least_same hg hmem]
  refine ⟨sd, sd, false, ne_f ed, iteF ?_⟩
  refine ⟨_, leastA ixs, rfl, rfl, hgl, by omega, ?_⟩
  rw [least_idem hg]
  refine ⟨sd, sd, false, ne_f ed, iteF ?_⟩
  -- what was passed stays
  refine ⟨shp_list (lay_in hg), shp_list (lay_in hg), false, ne_f (eqv_lst hg), iteF ?_⟩
  -- wider
  refine ⟨len_le (Nat.zero_le _), sd, rfl, _, rfl, ite2 (fun q => ?_) (fun q => ?_)⟩
  · have hne : (leastA ixs).length ≠ 0 := fun z => by
      rw [eqv_tnil, List.eq_nil_of_length_eq_zero z] at q
      cases q
    refine ⟨rfl, _, (leastA ixs).map S, rfl, rfl, by rw [List.length_map]; omega, by rw [List.length_map]; omega, fun z hz => ?_⟩
    obtain ⟨m, hm, rfl⟩ := List.mem_map.mp hz
    have hmx := six m (least_in hg hm)
    have hml := hmx.good.len
    refine ⟨len_le (Nat.le_of_ble_eq_true rfl), len_le (Nat.le_of_ble_eq_true rfl), len_le (Nat.le_of_ble_eq_true rfl), ?_, ?_⟩
    · have q2 : (m.map u ++ [u 6]).length ≤ sizeLine := len_le (by rw [List.length_append, List.length_map]; show m.length + 1 ≤ 1000; omega)
      rw [List.length_append] at q2
      exact q2
    · have ew : PyData.tuple (m.map u ++ [.tuple [.str "zz", .tuple []]]) = S (m ++ [6]) := by
        show _ = PyData.tuple ((m ++ [6]).map u)
        rw [List.map_append]
        rfl
      rw [ew]
      have hgw : ∀ x ∈ (m ++ [6]) :: ixs, Good x := fun x hx => by
        rcases List.mem_cons.mp hx with z | z
        · rw [z]; exact hmx.wide
        · exact hg x z
      refine ⟨len_le (Nat.le_of_ble_eq_true rfl), ?_, _, (m ++ [6]) :: ixs, rfl, rfl, hgw, by rw [List.length_cons]; omega, ?_⟩
      · have q2 : ([S (m ++ [6])] ++ ixs.map S).length ≤ sizeLine := len_le (by rw [List.length_append, List.length_map]; show 1 + ixs.length ≤ 1000; omega)
        rw [List.length_append] at q2
        exact q2
      · rw [least_wide six hm]
        refine ⟨sd, sd, false, ne_f ed, iteF ?_⟩
        have hge : ∀ x ∈ ixs ++ [[]], Good x := fun x hx => by
          rcases List.mem_append.mp hx with z | z
          · exact hg x z
          · rw [List.mem_singleton.mp z]; exact good_nil
        refine ⟨len_le (Nat.le_of_ble_eq_true rfl), len_le (Nat.le_of_ble_eq_true rfl), ?_, _, ixs ++ [[]], rfl, by rw [List.map_append]; rfl, hge, by rw [List.length_append]; show ixs.length + 1 ≤ 900; omega, ?_⟩
        · have q2 : (ixs.map S ++ [PyData.tuple []]).length ≤ sizeLine := len_le (by rw [List.length_append, List.length_map]; show ixs.length + 1 ≤ 1000; omega)
          rw [List.length_append] at q2
          exact q2
        · rw [least_empty hg]
          refine ⟨len_le (Nat.le_of_ble_eq_true rfl), len_le (Nat.le_of_ble_eq_true rfl), ?_⟩
          exact ⟨rfl, rfl, false, ne_f (d := PyData.tuple [PyData.tuple []]) (by decide +kernel), iteF (nx _ _ _ _)⟩
  · exact nx _ _ _ _
end P37
namespace P37
open PySem PySem.Spec PyProof.Rows L2 DL LamX NdefX
variable [Tbs]
theorem scLaw : FnScope ["_law_script", "_law_k", "_law_pot_here", "_law_backs", "_law_upper", "_law_some", "_law_turn", "_law_due", "_law_kept", "_law_wider", "_law_back"] ["_law_script"] (defScope sLaw) := ⟨rfl, rfl, rfl, by decide +kernel, rfl, by decide +kernel, by decide +kernel⟩
section
variable {P : Program} {w : World} {K : PySem.W.Frag} {mg : Str → Option Value} {base : Heap}
abbrev Ndef : List Str := ["_law_script", "_law_k", "_law_pot_here", "_law_backs", "_law_upper", "_law_some", "_law_turn", "_law_due", "_law_kept", "_law_wider", "_law_back"]
def cLaw : Con := fun ds R => ∃ ns : List Int, ds = [.list (ns.map PyData.int)] ∧ ns.length ≤ 63 ∧ R (.bool true)
abbrev sTurn : TDS := sCons (sSetP 2 (pNew cPot (dCons (dVar 0) (dCons (dVar 1) dNil))))
  (sCons (sSetL 3 (dLst (dCons (dC (.str "b")) (dCons (dC (.str "c")) (dCons (dC (.str "zz")) (dCons (dTup (dCons (dC (.str "a")) (dCons (dTup dNil) dNil))) (dCons (dTup (dCons (dC (.str "a")) (dCons (dTup (dCons (dC (.str "b")) dNil)) dNil))) (dCons (dTup (dCons (dC (.str "b")) (dCons (dTup dNil) dNil))) dNil))))))))
  (sCons (DL.sSet 4 (dFnP (pVar 2) cPick (dCons (dOf (dLst (dCons (dC (.int 2)) (dCons (dC (.int 2)) (dCons (dC (.int 3)) dNil))))) dNil)))
  (sCons (sSetL 5 (dLst dNil)) (sCons sDrawn sTail))))
theorem turn_math {E : DEnds} {ns : List Int} {k : Int} (h0 : 0 ≤ k) {a2 a3 a4 a5 a6 a7 a8 a9 : Sl} (nx : ∀ b2 b3 b4 b5 b6 b7 b8 b9 : Sl, E.nx [.fz (.list (ns.map PyData.int)), .fz (.int k), b2, b3, b4, b5, b6, b7, b8, b9, .no]) :
    sTurn E [.fz (.list (ns.map PyData.int)), .fz (.int k), a2, a3, a4, a5, a6, a7, a8, a9, .no] := by
  refine ⟨⟨ns, k, rfl, h0⟩, ?_⟩
  refine ⟨len_le (Nat.le_of_ble_eq_true rfl), len_le (Nat.le_of_ble_eq_true rfl), len_le (Nat.le_of_ble_eq_true rfl), len_le (Nat.le_of_ble_eq_true rfl), len_le (Nat.le_of_ble_eq_true rfl), len_le (Nat.le_of_ble_eq_true rfl), len_le (Nat.le_of_ble_eq_true rfl), ?_⟩
  refine ⟨rfl, len_le (Nat.le_of_ble_eq_true rfl), _, _, rfl, rfl, Nat.succ_pos _, Nat.le_of_ble_eq_true rfl, fun z hz => ?_⟩
  have hup : ∃ up : Int, z = .int up ∧ 0 < up ∧ up < 1073741824 := by
    simp only [List.mem_cons, List.not_mem_nil, or_false] at hz
    rcases hz with rfl | rfl | rfl
    · exact ⟨2, rfl, by decide, by decide⟩
    · exact ⟨2, rfl, by decide, by decide⟩
    · exact ⟨3, rfl, by decide, by decide⟩
  obtain ⟨up, rfl, u0, u1⟩ := hup
  refine ⟨len_le (Nat.zero_le _), ?_⟩
  exact drawn_math (E := { E with nx := sTail E }) u0 u1 fun ixs t6 six hl => tail_math six hl fun t5 t7 t8 t9 => nx _ _ _ _ _ _ _ _
theorem law_math {N : Nat} (hN : N = 11) {ds : List D} {R : D → Prop} (h : cLaw ds R) : sCons (sFor (iRg1 (dCons (dCall cMax2 (dCons (dC (.int 1)) (dCons (dCall cMin2 (dCons (dC (.int 8)) (dCons (dCall cLen (dCons (bVar 0) dNil)) dNil))) dNil))) dNil)) (gNm 1) sTurn) (sRet (dC (.bool true))) (endsD R) (dstart ds N) := by
  obtain ⟨ns, rfl, hl, r⟩ := h
  subst hN
  refine ⟨_, rfl, .inl ⟨_, rfl, _, _, rfl, _, _, rfl, _, rfl, ?_, ?_, ?_⟩⟩
  · rw [List.length_map]
    split <;> split <;> omega
  · rw [List.length_map]
    split <;> split <;> omega
  · refine ⟨fun i ρ => ∃ a1 a2 a3 a4 a5 a6 a7 a8 a9 : Sl, ρ = [.fz (.list (ns.map PyData.int)), a1, a2, a3, a4, a5, a6, a7, a8, a9, .no], ⟨.no, .no, .no, .no, .no, .no, .no, .no, .no, rfl⟩, ?_, ?_⟩
    · rintro i d ρ hi ⟨a1, a2, a3, a4, a5, a6, a7, a8, a9, rfl⟩
      have hil := (List.getElem?_eq_some_iff.mp hi).1
      rw [intsTo_len] at hil
      rw [intsTo_at hil] at hi
      have e := Option.some.inj hi
      subst e
      exact turn_math (by omega) fun b2 b3 b4 b5 b6 b7 b8 b9 => ⟨_, b2, b3, b4, b5, b6, b7, b8, b9, rfl⟩
    · rintro ρ _
      exact r
theorem ok_law {f : Addr} {fd : FuncData} {k : Nat} (F : Fun K "law" "law" sLaw f fd) (GPot : CalD P w K mg base k "_law_pot" (spNewP K cPot)) (GDraw : CalD P w K mg base k "_law_draw" (spP K cDraw)) (GPick : CalD P w K mg base k "_law_pick" (spP K cPick)) (GMin : CalD P w K mg base k "_law_least" (spD K cOrd)) (GL : CalD P w K mg base k "least_sets" (spD K cOrd))
    (ml : mg "len" = none) (mr : mg "range" = none) (mx : mg "max" = none) (mn : mg "min" = none) (mi : mg "int" = none) (mt : mg "tuple" = none) (mls : mg "list" = none) : FnOk P w K mg base CX0 (k + 1) f fd ["_law_script"] (spD K cLaw) :=
  ok_D F scLaw (by decide) (fun ds R ⟨ns, e, _⟩ => by rw [e]; rfl) (fun cdv A outer s H E hr =>
    ds_cons (ds_for (ps_for PassesOwn.never rfl (di_range1 (pi_range1 (by rfl) mr (dba_cons (db_of (de_cb (cd_max2 rfl) (dba_cons (db_of de_int) (dba_cons (db_of (de_cb (cd_min2 rfl) (dba_cons (db_of de_int) (dba_cons (db_of (de_cb cd_len (dba_cons (db_var (pv 0)) dba_nil) (fun _ _ hc ha => pe_callB hc (by rfl) ml (by decide +kernel) ha))) dba_nil))
        (fun _ _ hc ha => pe_callB hc (by rfl) mn (by decide +kernel) ha))) dba_nil)) (fun _ _ hc ha => pe_callB hc (by rfl) mx (by decide +kernel) ha))) dba_nil))) (dg_name (pg_name (i := 1) scLaw.nd rfl (.inl rfl)))
      (ds_cons (ds_setP (ps_set (i := 2) scLaw.nd rfl (.inr rfl) (dp_new (pe_cd GPot hr (Nat.le_refl _) (by rfl) (da_cons (de_var (pv 0)) (da_cons (de_var (pv 1)) da_nil))))))
      (ds_cons (ds_setL (ps_set (i := 3) scLaw.nd rfl (.inl rfl) (dl_lst (da_cons de_str (da_cons de_str (da_cons de_str (da_cons (de_tup (da_cons de_str (da_cons (de_tup da_nil) da_nil))) (da_cons (de_tup (da_cons de_str (da_cons (de_tup (da_cons de_str da_nil)) da_nil))) (da_cons (de_tup (da_cons de_str (da_cons (de_tup da_nil) da_nil))) da_nil)))))))))
      (ds_cons (ds_set (ps_set (i := 4) scLaw.nd rfl (.inr rfl) (de_fnP (pe_cd GPick hr (Nat.le_refl _) (by rfl) (dpa_cons (dp_var (pv 2)) (da_cons (de_own (dl_lst (da_cons de_int (da_cons de_int (da_cons de_int da_nil))))) da_nil))))))
      (ds_cons (ds_setL (ps_set (i := 5) scLaw.nd rfl (.inl rfl) (dl_lst da_nil)))
      (ds_cons (ds_for (ps_for PassesOwn.never rfl (di_range1 (pi_range1 (by rfl) mr (dba_cons (db_of (de_fnP (pe_cd GDraw hr (Nat.le_refl _) (by rfl) (dpa_cons (dp_var (pv 2)) (da_cons de_int da_nil))))) dba_nil))) (dg_name (pg_name (i := 6) scLaw.nd rfl (.inl rfl)))
        (ds_one (ds_app (ps_expr (pe_bm PySem.F.plainAttrs_list PySem.F.slot_list_append PySem.F.type_list_append mt_append (pv 5) (pa_cons (de_callTy cd_tuple (dba_cons (db_of (de_own (dl_lc (pe_lc rfl scLaw.nd (dib_own (db_var (pv 3))) (own := [("_law_back", 10)]) (blkOk_by (N := Ndef) (sc := defScope sLaw) (by decide +kernel)) (fun _ _ _ _ _ => dg_name (pg_name (i := 10) scLaw.nd rfl (.inl rfl)))
            (fun _ _ _ _ _ => dts_one (dt_cmp (od_eq (room64 hr)) (db_of (de_callTy cd_int (dba_cons (db_of (de_fnP (pe_cd GDraw hr (Nat.le_refl _) (by rfl) (dpa_cons (dp_var (pv 2)) (da_cons (de_var (pv 4)) da_nil))))) dba_nil) (fun _ _ hc ha => pe_callTy hc (by rfl) mi (by decide +kernel) ha))) (db_of de_int) (nomark _))) (fun _ _ _ _ _ => de_var (pv 10))) (by decide)))) dba_nil) (fun _ _ hc ha => pe_callTy hc (by rfl) mt (by decide +kernel) ha)) pa_nil)))))))
      (ds_cons (ds_par (ps_par (i := 7) (j := 8) rfl scLaw.nd rfl rfl (by decide) rfl rfl (da_cons (de_fn (pe_cd GMin hr (Nat.le_refl _) (by rfl) (da_cons (de_var (pv 5)) da_nil))) (da_cons (de_own (dl_list (dba_cons (db_var (pv 5)) dba_nil) (fun _ _ hc ha => pe_callTy hc (by rfl) mls (by decide +kernel) ha))) da_nil)) rfl))
      (ds_cons (ds_if (dt_w (dw_or (dt_cmp (od_ne (room64 hr)) (db_of (de_fn (pe_cd GL hr (Nat.le_refl _) (by rfl) (da_cons (de_var (pv 5)) da_nil)))) (db_var (pv 7)) (nomark _))
          (dw_or (dt_cmp (od_ne (room64 hr)) (db_of (de_fn (pe_cd GL hr (Nat.le_refl _) (by rfl) (da_cons (de_callTy cd_tuple (dba_cons (db_of (de_bin od_add (db_of (de_rev (db_var (pv 5)))) (db_of (de_slice (db_var (pv 5)) do_none (do_some de_int))))) dba_nil) (fun _ _ hc ha => pe_callTy hc (by rfl) mt (by decide +kernel) ha)) da_nil)))) (db_var (pv 7)) (nomark _))
          (dw_or1 (dt_cmp (od_ne (room64 hr)) (db_of (de_fn (pe_cd GL hr (Nat.le_refl _) (by rfl) (da_cons (de_var (pv 7)) da_nil)))) (db_var (pv 7)) (nomark _)))))) (ds_one (ds_ret de_bl)) ds_nil)
      (ds_cons (ds_if (dt_cmp (od_ne (room64 hr)) (db_var (pv 5)) (db_var (pv 8)) (nomark _)) (ds_one (ds_ret de_bl)) ds_nil)
      (ds_one (ds_if (dt_cmp (od_ne (room64 hr)) (db_var (pv 7)) (db_of (de_tup da_nil)) (nomark _))
        (ds_cons (ds_set (ps_set (i := 9) scLaw.nd rfl (.inl rfl) (de_bin od_add (db_of (de_fnP (pe_cd GPick hr (Nat.le_refl _) (by rfl) (dpa_cons (dp_var (pv 2)) (da_cons (de_var (pv 7)) da_nil))))) (db_of (de_tup (da_cons (de_tup (da_cons de_str (da_cons (de_tup da_nil) da_nil))) da_nil))))))
        (ds_one (ds_if (dt_w (dw_or (dt_cmp (od_ne (room64 hr)) (db_of (de_fn (pe_cd GL hr (Nat.le_refl _) (by rfl) (da_cons (de_bin od_add (db_of (de_own (dl_lst (da_cons (de_var (pv 9)) da_nil)))) (db_var (pv 5))) da_nil)))) (db_var (pv 7)) (nomark _))
          (dw_or1 (dt_cmp (od_ne (room64 hr)) (db_of (de_fn (pe_cd GL hr (Nat.le_refl _) (by rfl) (da_cons (de_bin od_add (db_var (pv 5)) (db_of (de_own (dl_lst (da_cons (de_tup da_nil) da_nil))))) da_nil)))) (db_of (de_tup (da_cons (de_tup da_nil) da_nil))) (nomark _))))) (ds_one (ds_ret de_bl)) ds_nil))) ds_nil))))))))))))
    (ds_one (ds_ret de_bl))) fun ds R h => law_math rfl h
end
end P37
namespace P37
open PySem PySem.Spec PyProof.Rows L2 DL LamX NdefX
/-! ### what the top has written, all the promises together -/
theorem all37 {q : Program} {w : World} {K : PySem.W.Frag} {h : Heap} {mg : Str → Option Value} {fa : Addr} (inh : K.In h) (G : h.Ns mainGlobals mg) (hfa : mg "law" = some (.ref fa)) (t : TabAll q mg h)
    {f1 : Addr} {od1 an1 : Option Addr} {sl1 : Array (Option Value)} {oc1 kV1 dc1 pm1 ct1 : Value} {cd1 : Value}
    (a1 : PySem.W.nsIn K mainGlobals "callback_key" = some (some (.ref f1))) (l1 : K.lookup f1 = some ⟨oc1, od1, .func (PySem.W.fnOf "callback_key" "callback_key" (defArgs sKey) (defBody sKey) (defScope sKey) .none kV1 dc1 pm1 an1 (cd1) ct1), sl1⟩) (g1 : PySem.W.codeIn K (cd1) "callback_key" = true) (k1 : PySem.W.keepIn K (.ref f1) = true)
    {f2 : Addr} {od2 an2 : Option Addr} {sl2 : Array (Option Value)} {oc2 kV2 dc2 pm2 ct2 : Value} {cd2 : Value}
    (a2 : PySem.W.nsIn K mainGlobals "set_key" = some (some (.ref f2))) (l2 : K.lookup f2 = some ⟨oc2, od2, .func (PySem.W.fnOf "set_key" "set_key" (defArgs sSet) (defBody sSet) (defScope sSet) .none kV2 dc2 pm2 an2 (cd2) ct2), sl2⟩) (g2 : PySem.W.codeIn K (cd2) "set_key" = true) (k2 : PySem.W.keepIn K (.ref f2) = true)
    {f3 : Addr} {od3 an3 : Option Addr} {sl3 : Array (Option Value)} {oc3 kV3 dc3 pm3 ct3 : Value} {cd3 : Value}
    (a3 : PySem.W.nsIn K mainGlobals "is_part" = some (some (.ref f3))) (l3 : K.lookup f3 = some ⟨oc3, od3, .func (PySem.W.fnOf "is_part" "is_part" (defArgs sPart) (defBody sPart) (defScope sPart) .none kV3 dc3 pm3 an3 (cd3) ct3), sl3⟩) (g3 : PySem.W.codeIn K (cd3) "is_part" = true) (k3 : PySem.W.keepIn K (.ref f3) = true)
    {f4 : Addr} {od4 an4 : Option Addr} {sl4 : Array (Option Value)} {oc4 kV4 dc4 pm4 ct4 : Value} {c4 : Addr}
    (a4 : PySem.W.nsIn K mainGlobals "sets_in_order" = some (some (.ref f4))) (l4 : K.lookup f4 = some ⟨oc4, od4, .func (PySem.W.fnOf "sets_in_order" "sets_in_order" (defArgs sOrd) (defBody sOrd) (defScope sOrd) .none kV4 dc4 pm4 an4 (.ref c4) ct4), sl4⟩) (g4 : PySem.W.codeIn K (.ref c4) "sets_in_order" = true) (k4 : PySem.W.keepIn K (.ref f4) = true)
    {f5 : Addr} {od5 an5 : Option Addr} {sl5 : Array (Option Value)} {oc5 kV5 dc5 pm5 ct5 : Value} {cd5 : Value}
    (a5 : PySem.W.nsIn K mainGlobals "least_sets" = some (some (.ref f5))) (l5 : K.lookup f5 = some ⟨oc5, od5, .func (PySem.W.fnOf "least_sets" "least_sets" (defArgs sLeast) (defBody sLeast) (defScope sLeast) .none kV5 dc5 pm5 an5 (cd5) ct5), sl5⟩) (g5 : PySem.W.codeIn K (cd5) "least_sets" = true) (k5 : PySem.W.keepIn K (.ref f5) = true)
    {f6 : Addr} {od6 an6 : Option Addr} {sl6 : Array (Option Value)} {oc6 kV6 dc6 pm6 ct6 : Value} {cd6 : Value}
    (a6 : PySem.W.nsIn K mainGlobals "_law_pot" = some (some (.ref f6))) (l6 : K.lookup f6 = some ⟨oc6, od6, .func (PySem.W.fnOf "_law_pot" "_law_pot" (defArgs sPot) (defBody sPot) (defScope sPot) .none kV6 dc6 pm6 an6 (cd6) ct6), sl6⟩) (g6 : PySem.W.codeIn K (cd6) "_law_pot" = true) (k6 : PySem.W.keepIn K (.ref f6) = true)
    {f7 : Addr} {od7 an7 : Option Addr} {sl7 : Array (Option Value)} {oc7 kV7 dc7 pm7 ct7 : Value} {cd7 : Value}
    (a7 : PySem.W.nsIn K mainGlobals "_law_draw" = some (some (.ref f7))) (l7 : K.lookup f7 = some ⟨oc7, od7, .func (PySem.W.fnOf "_law_draw" "_law_draw" (defArgs sDraw) (defBody sDraw) (defScope sDraw) .none kV7 dc7 pm7 an7 (cd7) ct7), sl7⟩) (g7 : PySem.W.codeIn K (cd7) "_law_draw" = true) (k7 : PySem.W.keepIn K (.ref f7) = true)
    {f8 : Addr} {od8 an8 : Option Addr} {sl8 : Array (Option Value)} {oc8 kV8 dc8 pm8 ct8 : Value} {cd8 : Value}
    (a8 : PySem.W.nsIn K mainGlobals "_law_pick" = some (some (.ref f8))) (l8 : K.lookup f8 = some ⟨oc8, od8, .func (PySem.W.fnOf "_law_pick" "_law_pick" (defArgs sPick) (defBody sPick) (defScope sPick) .none kV8 dc8 pm8 an8 (cd8) ct8), sl8⟩) (g8 : PySem.W.codeIn K (cd8) "_law_pick" = true) (k8 : PySem.W.keepIn K (.ref f8) = true)
    {f9 : Addr} {od9 an9 : Option Addr} {sl9 : Array (Option Value)} {oc9 kV9 dc9 pm9 ct9 : Value} {cd9 : Value}
    (a9 : PySem.W.nsIn K mainGlobals "_law_place" = some (some (.ref f9))) (l9 : K.lookup f9 = some ⟨oc9, od9, .func (PySem.W.fnOf "_law_place" "_law_place" (defArgs sPlace) (defBody sPlace) (defScope sPlace) .none kV9 dc9 pm9 an9 (cd9) ct9), sl9⟩) (g9 : PySem.W.codeIn K (cd9) "_law_place" = true) (k9 : PySem.W.keepIn K (.ref f9) = true)
    {f10 : Addr} {od10 an10 : Option Addr} {sl10 : Array (Option Value)} {oc10 kV10 dc10 pm10 ct10 : Value} {cd10 : Value}
    (a10 : PySem.W.nsIn K mainGlobals "_law_within" = some (some (.ref f10))) (l10 : K.lookup f10 = some ⟨oc10, od10, .func (PySem.W.fnOf "_law_within" "_law_within" (defArgs sWithin) (defBody sWithin) (defScope sWithin) .none kV10 dc10 pm10 an10 (cd10) ct10), sl10⟩) (g10 : PySem.W.codeIn K (cd10) "_law_within" = true) (k10 : PySem.W.keepIn K (.ref f10) = true)
    {f11 : Addr} {od11 an11 : Option Addr} {sl11 : Array (Option Value)} {oc11 kV11 dc11 pm11 ct11 : Value} {c11 : Addr}
    (a11 : PySem.W.nsIn K mainGlobals "_law_least" = some (some (.ref f11))) (l11 : K.lookup f11 = some ⟨oc11, od11, .func (PySem.W.fnOf "_law_least" "_law_least" (defArgs sMin) (defBody sMin) (defScope sMin) .none kV11 dc11 pm11 an11 (.ref c11) ct11), sl11⟩) (g11 : PySem.W.codeIn K (.ref c11) "_law_least" = true) (k11 : PySem.W.keepIn K (.ref f11) = true)
    {f12 : Addr} {od12 an12 : Option Addr} {sl12 : Array (Option Value)} {oc12 kV12 dc12 pm12 ct12 : Value} {cd12 : Value}
    (a12 : PySem.W.nsIn K mainGlobals "law" = some (some (.ref f12))) (l12 : K.lookup f12 = some ⟨oc12, od12, .func (PySem.W.fnOf "law" "law" (defArgs sLaw) (defBody sLaw) (defScope sLaw) .none kV12 dc12 pm12 an12 (cd12) ct12), sl12⟩) (g12 : PySem.W.codeIn K (cd12) "law" = true) (k12 : PySem.W.keepIn K (.ref f12) = true)
    {e4 : Value} {dd4 : Option Addr} {vs4 : Array Value} {cs4 : Array (Option Value)} {P4 : Addr} (m4 : K.lookup c4 = some ⟨e4, dd4, .fields vs4, cs4⟩) (v4 : vs4[11]? = some (.ref P4)) (n4 : K.lookup P4 = none)
    {e11 : Value} {dd11 : Option Addr} {vs11 : Array Value} {cs11 : Array (Option Value)} {P11 : Addr} (m11 : K.lookup c11 = some ⟨e11, dd11, .fields vs11, cs11⟩) (v11 : vs11[11]? = some (.ref P11)) (n11 : K.lookup P11 = none)
    (ne : (decide (P4 = P11)) = false) (r4 : ((recsOf q).any fun r => r.name == ("sets_in_order" : Str)) = true) (r11 : ((recsOf q).any fun r => r.name == ("_law_least" : Str)) = true)
    (z_isinstance : PySem.W.nsIn K mainGlobals "isinstance" = some none)    (z_str : PySem.W.nsIn K mainGlobals "str" = some none)    (z_tuple : PySem.W.nsIn K mainGlobals "tuple" = some none)    (z_all : PySem.W.nsIn K mainGlobals "all" = some none)    (z_len : PySem.W.nsIn K mainGlobals "len" = some none)    (z_sorted : PySem.W.nsIn K mainGlobals "sorted" = some none)    (z_abs : PySem.W.nsIn K mainGlobals "abs" = some none)    (z_max : PySem.W.nsIn K mainGlobals "max" = some none)    (z_int : PySem.W.nsIn K mainGlobals "int" = some none)    (z_divmod : PySem.W.nsIn K mainGlobals "divmod" = some none)    (z_range : PySem.W.nsIn K mainGlobals "range" = some none)    (z_min : PySem.W.nsIn K mainGlobals "min" = some none)    (z_list : PySem.W.nsIn K mainGlobals "list" = some none)
    :
    LawAtS PySem.Challenge.rw_nestdeep_k37_least_sets w K CX0 8 63 "_law_script" mg fa h := by
  have nPP : P4 ≠ P11 := of_decide_eq_false ne
  have b1 := PySem.W.mg_of inh G a1
  have b2 := PySem.W.mg_of inh G a2
  have b3 := PySem.W.mg_of inh G a3
  have b4 := PySem.W.mg_of inh G a4
  have b5 := PySem.W.mg_of inh G a5
  have b6 := PySem.W.mg_of inh G a6
  have b7 := PySem.W.mg_of inh G a7
  have b8 := PySem.W.mg_of inh G a8
  have b9 := PySem.W.mg_of inh G a9
  have b10 := PySem.W.mg_of inh G a10
  have b11 := PySem.W.mg_of inh G a11
  have b12 := PySem.W.mg_of inh G a12
  have y_isinstance := PySem.W.mg_none_of inh G z_isinstance
  have y_str := PySem.W.mg_none_of inh G z_str
  have y_tuple := PySem.W.mg_none_of inh G z_tuple
  have y_all := PySem.W.mg_none_of inh G z_all
  have y_len := PySem.W.mg_none_of inh G z_len
  have y_sorted := PySem.W.mg_none_of inh G z_sorted
  have y_abs := PySem.W.mg_none_of inh G z_abs
  have y_max := PySem.W.mg_none_of inh G z_max
  have y_int := PySem.W.mg_none_of inh G z_int
  have y_divmod := PySem.W.mg_none_of inh G z_divmod
  have y_range := PySem.W.mg_none_of inh G z_range
  have y_min := PySem.W.mg_none_of inh G z_min
  have y_list := PySem.W.mg_none_of inh G z_list
  have ef := hfa.symm.trans b12
  cases ef
  obtain ⟨h4, t4⟩ := tab_at t inh r4 b4 l4 rfl rfl m4 v4
  obtain ⟨h11, t11⟩ := tab_at t inh r11 b11 l11 rfl rfl m11 v11
  let T : List NTab := [(P4, fun _ _ => qualA ++ "<lambda>"), (P11, fun _ _ => qualB ++ "<lambda>")]
  letI : Tbs := ⟨T⟩
  have F1 := fun_mk (st := sKey) l1 g1 k1
  have w1 := F1.binds (ps := ["callback"]) fun _ _ _ _ _ _ us hl => match us, hl with | [_], _ => rfl
  have F2 := fun_mk (st := sSet) l2 g2 k2
  have w2 := F2.binds (ps := ["callbacks"]) fun _ _ _ _ _ _ us hl => match us, hl with | [_], _ => rfl
  have F3 := fun_mk (st := sPart) l3 g3 k3
  have w3 := F3.binds (ps := ["small", "large"]) fun _ _ _ _ _ _ us hl => match us, hl with | [_, _], _ => rfl
  have F4 : FunC K "sets_in_order" "sets_in_order" sOrd f4 _ c4 := ⟨⟨_, _, _, _, _, _, _, _, rfl, l4, g4⟩, k4⟩
  have w4 := F4.fn.binds (ps := ["sets"]) fun _ _ _ _ _ _ us hl => match us, hl with | [_], _ => rfl
  have F5 := fun_mk (st := sLeast) l5 g5 k5
  have w5 := F5.binds (ps := ["sets"]) fun _ _ _ _ _ _ us hl => match us, hl with | [_], _ => rfl
  have F6 := fun_mk (st := sPot) l6 g6 k6
  have w6 := F6.binds (ps := ["_law_script", "_law_index"]) fun _ _ _ _ _ _ us hl => match us, hl with | [_, _], _ => rfl
  have F7 := fun_mk (st := sDraw) l7 g7 k7
  have w7 := F7.binds (ps := ["_law_pot_here", "_law_many"]) fun _ _ _ _ _ _ us hl => match us, hl with | [_, _], _ => rfl
  have F8 := fun_mk (st := sPick) l8 g8 k8
  have w8 := F8.binds (ps := ["_law_pot_here", "_law_some"]) fun _ _ _ _ _ _ us hl => match us, hl with | [_, _], _ => rfl
  have F9 := fun_mk (st := sPlace) l9 g9 k9
  have w9 := F9.binds (ps := ["_law_back"]) fun _ _ _ _ _ _ us hl => match us, hl with | [_], _ => rfl
  have F10 := fun_mk (st := sWithin) l10 g10 k10
  have w10 := F10.binds (ps := ["_law_one", "_law_other"]) fun _ _ _ _ _ _ us hl => match us, hl with | [_, _], _ => rfl
  have F11 : FunC K "_law_least" "_law_least" sMin f11 _ c11 := ⟨⟨_, _, _, _, _, _, _, _, rfl, l11, g11⟩, k11⟩
  have w11 := F11.fn.binds (ps := ["_law_some"]) fun _ _ _ _ _ _ us hl => match us, hl with | [_], _ => rfl
  have F12 := fun_mk (st := sLaw) l12 g12 k12
  have w12 := F12.binds (ps := ["_law_script"]) fun _ _ _ _ _ _ us hl => match us, hl with | [_], _ => rfl
  have u4 : ∀ p ∈ Tbs.T, p.1 = P4 → p.2 = fun _ _ => qualA ++ "<lambda>" := fun p hp e => by
    rcases List.mem_cons.mp hp with z | z
    · rw [z]
    · rw [List.mem_singleton.mp z] at e
      exact absurd e.symm nPP
  have u11 : ∀ p ∈ Tbs.T, p.1 = P11 → p.2 = fun _ _ => qualB ++ "<lambda>" := fun p hp e => by
    rcases List.mem_cons.mp hp with z | z
    · rw [z] at e
      exact absurd e nPP
    · rw [List.mem_singleton.mp z]
  refine ⟨PySem.W.fnOf "law" "law" (defArgs sLaw) (defBody sLaw) (defScope sLaw) .none kV12 dc12 pm12 an12 cd12 ct12, [(c4, P4), (c11, P11)], spD K cLaw, fun p hp => ?_, fun p hp => ?_, fun p hp => ?_, fun s u => .of_eq rfl, fun H a ns hn _ hT hS => law_in (fun p hp => ?_) hS ⟨ns, rfl, hn, rfl⟩, fun base inb nsb tb => ?_⟩
  · rcases List.mem_cons.mp hp with z | z
    · rw [z]; exact t4
    · rw [List.mem_singleton.mp z]; exact t11
  · rcases List.mem_cons.mp hp with z | z
    · rw [z]; exact n4
    · rw [List.mem_singleton.mp z]; exact n11
  · rcases List.mem_cons.mp hp with z | z
    · rw [z]; exact h4
    · rw [List.mem_singleton.mp z]; exact h11
  · rcases List.mem_cons.mp hp with z | z
    · rw [z]; exact hT (c4, P4) List.mem_cons_self
    · rw [List.mem_singleton.mp z]; exact hT (c11, P11) (List.mem_cons_of_mem _ List.mem_cons_self)
  · have tb4 := tb (c4, P4) List.mem_cons_self
    have tb11 := tb (c11, P11) (List.mem_cons_of_mem _ List.mem_cons_self)
    have C1 : CalD PySem.Challenge.rw_nestdeep_k37_least_sets.prog w K mg base 1 "callback_key" (spD K cKey) := ⟨_, _, _, ok_key F1 y_isinstance y_str, b1, k1, w1⟩
    have C2 : CalD PySem.Challenge.rw_nestdeep_k37_least_sets.prog w K mg base 2 "set_key" (spD K cSet) := ⟨_, _, _, ok_set F2 C1 y_tuple, b2, k2, w2⟩
    have C3 : CalD PySem.Challenge.rw_nestdeep_k37_least_sets.prog w K mg base 1 "is_part" (spD K cPart) := ⟨_, _, _, ok_part F3 y_all, b3, k3, w3⟩
    have C4 : CalD PySem.Challenge.rw_nestdeep_k37_least_sets.prog w K mg base 6 "sets_in_order" (spD K cOrd) := ⟨_, _, _, ok_ord F4 tb4 List.mem_cons_self u4 C2 (C3.mono (by decide)) y_len y_sorted y_tuple, b4, k4, w4⟩
    have C5 : CalD PySem.Challenge.rw_nestdeep_k37_least_sets.prog w K mg base 7 "least_sets" (spD K cOrd) := ⟨_, _, _, ok_least F5 C4, b5, k5, w5⟩
    have C6 : CalD PySem.Challenge.rw_nestdeep_k37_least_sets.prog w K mg base 1 "_law_pot" (spNewP K cPot) := ⟨_, _, _, ok_pot37 F6 y_len y_abs y_max y_int, b6, k6, w6⟩
    have C7 : CalD PySem.Challenge.rw_nestdeep_k37_least_sets.prog w K mg base 1 "_law_draw" (spP K cDraw) := ⟨_, _, _, ok_draw37 F7 y_divmod y_int, b7, k7, w7⟩
    have C8 : CalD PySem.Challenge.rw_nestdeep_k37_least_sets.prog w K mg base 2 "_law_pick" (spP K cPick) := ⟨_, _, _, ok_pick F8 C7 y_len, b8, k8, w8⟩
    have C9 : CalD PySem.Challenge.rw_nestdeep_k37_least_sets.prog w K mg base 1 "_law_place" (spD K cPlace) := ⟨_, _, _, ok_place F9 y_isinstance y_str, b9, k9, w9⟩
    have C10 : CalD PySem.Challenge.rw_nestdeep_k37_least_sets.prog w K mg base 1 "_law_within" (spD K cPart) := ⟨_, _, _, ok_within F10 y_all, b10, k10, w10⟩
    have C11 : CalD PySem.Challenge.rw_nestdeep_k37_least_sets.prog w K mg base 5 "_law_least" (spD K cOrd) := ⟨_, _, _, ok_min F11 tb11 (List.mem_cons_of_mem _ List.mem_cons_self) u11 C9 (C10.mono (by decide)) y_len y_sorted y_tuple, b11, k11, w11⟩
    exact ok_law F12 (C6.mono (by decide)) (C7.mono (by decide)) (C8.mono (by decide)) (C11.mono (by decide)) C5 y_len y_range y_max y_min y_int y_tuple y_list
end P37
open PySem PySem.W PyProof.Rows
set_option maxHeartbeats 0 in
theorem PySem.Challenge.cw_nestdeep_k37_least_sets_holds : PySem.Challenge.rw_nestdeep_k37_least_sets.Holds := by
  w_on; o_law; k_head; (case hw => w_witness2)
  k_fill
  refine DL.walk_tabs (l := PySem.Challenge.rw_nestdeep_k37_least_sets) (most := 63) (k := 8) (x := "_law_script") (CX := fun _ => L2.CX0) rfl (by decide) rfl ⟨rfl, by decide, by decide⟩ (fun w h Y => PySem.W.km_in_of Y) ?F (fun _ _ _ _ _ h => h)
  case F =>
    intro w mg fa h _ inh G hmg tab
    refine' P37.all37 inh G hmg tab ?a1 ?l1 ?g1 ?k1 ?a2 ?l2 ?g2 ?k2 ?a3 ?l3 ?g3 ?k3 ?a4 ?l4 ?g4 ?k4 ?a5 ?l5 ?g5 ?k5 ?a6 ?l6 ?g6 ?k6 ?a7 ?l7 ?g7 ?k7 ?a8 ?l8 ?g8 ?k8 ?a9 ?l9 ?g9 ?k9 ?a10 ?l10 ?g10 ?k10 ?a11 ?l11 ?g11 ?k11 ?a12 ?l12 ?g12 ?k12 ?m4 ?v4 ?n4 ?m11 ?v11 ?n11 ?ne ?r4 ?r11 ?zisinstance ?zstr ?ztuple ?zall ?zlen ?zsorted ?zabs ?zmax ?zint ?zdivmod ?zrange ?zmin ?zlist
    (case a1 => k_is)
    (case l1 => k_is)
    (case g1 => k_is)
    (case k1 => k_is)
    (case a2 => k_is)
    (case l2 => k_is)
    (case g2 => k_is)
    (case k2 => k_is)
    (case a3 => k_is)
    (case l3 => k_is)
    (case g3 => k_is)
    (case k3 => k_is)
    (case a4 => k_is)
    (case l4 => k_is)
    (case g4 => k_is)
    (case k4 => k_is)
    (case a5 => k_is)
    (case l5 => k_is)
    (case g5 => k_is)
    (case k5 => k_is)
    (case a6 => k_is)
    (case l6 => k_is)
    (case g6 => k_is)
    (case k6 => k_is)
    (case a7 => k_is)
    (case l7 => k_is)
    (case g7 => k_is)
    (case k7 => k_is)
    (case a8 => k_is)
    (case l8 => k_is)
    (case g8 => k_is)
    (case k8 => k_is)
    (case a9 => k_is)
    (case l9 => k_is)
    (case g9 => k_is)
    (case k9 => k_is)
    (case a10 => k_is)
    (case l10 => k_is)
    (case g10 => k_is)
    (case k10 => k_is)
    (case a11 => k_is)
    (case l11 => k_is)
    (case g11 => k_is)
    (case k11 => k_is)
    (case a12 => k_is)
    (case l12 => k_is)
    (case g12 => k_is)
    (case k12 => k_is)
    (case m4 => k_is)
    (case v4 => rfl)
    (case n4 => rfl)
    (case m11 => k_is)
    (case v11 => rfl)
    (case n11 => rfl)
    (case ne => decide)
    (case r4 => decide +kernel)
    (case r11 => decide +kernel)
    (case zisinstance => k_is)
    (case zstr => k_is)
    (case ztuple => k_is)
    (case zall => k_is)
    (case zlen => k_is)
    (case zsorted => k_is)
    (case zabs => k_is)
    (case zmax => k_is)
    (case zint => k_is)
    (case zdivmod => k_is)
    (case zrange => k_is)
    (case zmin => k_is)
    (case zlist => k_is)
