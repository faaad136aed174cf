import PyProof.Rows.All
import Wide.All
import OpenK.AllK
import Wide.FinOn
import HandS.Exc
import HandS.ForMost
import HandS.IsInst
import HandS.Deep
import HandS.TupAny
import HandS.Flow
import HandS.Style
import HandS.Text
import HandS.Nested
import HandS.Words
import HandS.Lambda
import KE.LtData
import KE.SortKeyHeap
import HandS.Keys
import HandS.SortKw
import HandS.EndOwn
import HandS.DictTup
import HandS.FStr
import HandS.StrMore
import HandS.Wide
import HandS.More
import HandS.DictComp
import KE.KDictPairs
import HandS.Strs
import HandS.TupMul
import KE.KIntText
import PyProof.StrLawsTight
import PyProof.Rows.ReprOcc
import HandS.SetFor
import HandS.ExcInit
import HandS.WordsExc
import HandS.ExcField
import HandS.TryMany
import HandS.ExcIs
import KE.DataMinMax
import HandS.DeepEq
import PyProof.NeKinds
import HandS.WideBits
import PyProof.FString2
import PyProof.ExcBaseAll.RuntimeError
import PySem.Challenge.RW_nestdeep_k81_slack
set_option Elab.async false
set_option linter.all false
set_option maxRecDepth 100000
set_option maxHeartbeats 4000000
/-! A layer of data over the hand layer: frozen data, own lists, pots; no heap in the readings. -/
namespace DL
open PySem PySem.Spec PyProof.Rows L2

abbrev D := PyData
/-- a key of a dict as a datum -/
def kD : L2.Key → D
  | .inl i => .int i
  | .inr x => .str x
/-- a tuple that has no dict of its own -/
def PlT (K : PySem.W.Frag) (H : Hp) (a : Addr) (xs : List V) : Prop := SqT K H a xs ∧ ((∃ o u, H a = some (.frz o u) ∧ o.dict = none) ∨ ∃ o, K.lookup a = some o ∧ o.dict = none)
mutual
/-- a value is a datum, dicts of ints and texts among them -/
inductive Dp (K : PySem.W.Frag) (H : Hp) : V → D → Prop
  | non : Dp K H .non .none
  | bl (b : Bool) : Dp K H (.bl b) (.bool b)
  | int (i : Int) : Dp K H (.int i) (.int i)
  | str (x : Str) : Dp K H (.str x) (.str x)
  | lst {a : Addr} {vs : List V} {ds : List D} : SqL K H a vs → DpAll K H vs ds → Dp K H (.ref a) (.list ds)
  | tup {a : Addr} {vs : List V} {ds : List D} : PlT K H a vs → DpAll K H vs ds → Dp K H (.ref a) (.tuple ds)
  | dct {a : Addr} {vs : List (L2.Key × V)} {ds : List (D × D)} : Rd H a (.dK vs) → DpKv K H vs ds → Dp K H (.ref a) (.dict ds)
inductive DpAll (K : PySem.W.Frag) (H : Hp) : List V → List D → Prop
  | nil : DpAll K H [] []
  | cons {v : V} {vs : List V} {d : D} {ds : List D} : Dp K H v d → DpAll K H vs ds → DpAll K H (v :: vs) (d :: ds)
inductive DpKv (K : PySem.W.Frag) (H : Hp) : List (L2.Key × V) → List (D × D) → Prop
  | nil : DpKv K H [] []
  | cons {k : L2.Key} {v : V} {vs : List (L2.Key × V)} {d : D} {ds : List (D × D)} : Dp K H v d → DpKv K H vs ds → DpKv K H ((k, v) :: vs) ((kD k, d) :: ds)
end
theorem same_tup {K : PySem.W.Frag} {H H' : Hp} {a : Addr} {xs : List V} (e : Same H H') (h : SqT K H a xs) : SqT K H' a xs := by
  rcases h with (h | ⟨o, h⟩) | h
  · exact .inl (.inl (e _ _ h))
  · exact .inl (.inr ⟨o, e _ _ h⟩)
  · exact .inr h
theorem PlT.mono {K : PySem.W.Frag} {H H' : Hp} {a : Addr} {xs : List V} (h : PlT K H a xs) (e : Same H H') : PlT K H' a xs := by
  refine ⟨same_tup e h.1, ?_⟩
  rcases h.2 with ⟨o, u, h, k⟩ | h
  · exact .inl ⟨o, u, e _ _ h, k⟩
  · exact .inr h
theorem PlT.new {K : PySem.W.Frag} {H : Hp} {a : Addr} {o : Obj} {xs : List V} (h : H a = some (.frz o (.tup xs))) (k : o.dict = none) : PlT K H a xs := ⟨.inl (.inr ⟨o, h⟩), .inl ⟨o, _, h, k⟩⟩
theorem rd_same {H H' : Hp} {a : Addr} {u : HO} (e : Same H H') (h : Rd H a u) : Rd H' a u := by
  rcases h with h | ⟨o, h⟩
  · exact .inl (e _ _ h)
  · exact .inr ⟨o, e _ _ h⟩
/-! ### data in the frozen part of the heap -/
mutual
theorem dp_mono {K : PySem.W.Frag} {H H' : Hp} (e : Same H H') : ∀ (d : D) (v : V), Dp K H v d → Dp K H' v d
  | .none, _, h => by cases h; exact .non
  | .bool b, _, h => by cases h; exact .bl b
  | .int i, _, h => by cases h; exact .int i
  | .str x, _, h => by cases h; exact .str x
  | .list ds, _, h => by
    cases h with
    | lst hs ha => exact .lst (e.seq hs) (dpa_mono e ds _ ha)
  | .tuple ds, _, h => by
    cases h with
    | tup hs ha => exact .tup (hs.mono e) (dpa_mono e ds _ ha)
  | .dict ds, _, h => by
    cases h with
    | dct hs ha => exact .dct (rd_same e hs) (dpk_mono e ds _ ha)
theorem dpa_mono {K : PySem.W.Frag} {H H' : Hp} (e : Same H H') : ∀ (ds : List D) (vs : List V), DpAll K H vs ds → DpAll K H' vs ds
  | [], _, h => by cases h; exact .nil
  | d :: ds, _, h => by
    cases h with
    | cons a b => exact .cons (dp_mono e d _ a) (dpa_mono e ds _ b)
theorem dpk_mono {K : PySem.W.Frag} {H H' : Hp} (e : Same H H') : ∀ (ds : List (D × D)) (vs : List (L2.Key × V)), DpKv K H vs ds → DpKv K H' vs ds
  | [], _, h => by cases h; exact .nil
  | (k, d) :: ds, _, h => by
    cases h with
    | cons a b => exact .cons (dp_mono e d _ a) (dpk_mono e ds _ b)
end
theorem dpa_len {K : PySem.W.Frag} {H : Hp} : ∀ {vs : List V} {ds : List D}, DpAll K H vs ds → vs.length = ds.length
  | _, _, .nil => rfl
  | _, _, .cons _ t => congrArg (· + 1) (dpa_len t)
theorem dpa_get {K : PySem.W.Frag} {H : Hp} : ∀ {vs : List V} {ds : List D} {i : Nat} {v : V}, DpAll K H vs ds → vs[i]? = some v → ∃ d, ds[i]? = some d ∧ Dp K H v d
  | _, _, _, _, .nil, h => by simp at h
  | _, _, 0, _, .cons a _, h => by
    have e := Option.some.inj (by simpa using h)
    subst e
    exact ⟨_, rfl, a⟩
  | _, _, i + 1, _, .cons _ t, h => by
    obtain ⟨d, e, q⟩ := dpa_get (i := i) t (by simpa using h)
    exact ⟨d, by simpa using e, q⟩
theorem dpa_getD {K : PySem.W.Frag} {H : Hp} : ∀ {vs : List V} {ds : List D} {i : Nat} {d : D}, DpAll K H vs ds → ds[i]? = some d → ∃ v, vs[i]? = some v ∧ Dp K H v d
  | _, _, _, _, .nil, h => by simp at h
  | _, _, 0, _, .cons a _, h => by
    have e := Option.some.inj (by simpa using h)
    subst e
    exact ⟨_, rfl, a⟩
  | _, _, i + 1, _, .cons _ t, h => by
    obtain ⟨d, e, q⟩ := dpa_getD (i := i) t (by simpa using h)
    exact ⟨d, by simpa using e, q⟩
theorem dpa_app {K : PySem.W.Frag} {H : Hp} : ∀ {vs us : List V} {ds es : List D}, DpAll K H vs ds → DpAll K H us es → DpAll K H (vs ++ us) (ds ++ es)
  | _, _, _, _, .nil, h => h
  | _, _, _, _, .cons a t, h => .cons a (dpa_app t h)
theorem dpa_set {K : PySem.W.Frag} {H : Hp} {v : V} {d : D} (r : Dp K H v d) : ∀ {vs : List V} {ds : List D} (i : Nat), DpAll K H vs ds → DpAll K H (vs.set i v) (ds.set i d)
  | _, _, _, .nil => .nil
  | _, _, 0, .cons _ t => .cons r t
  | _, _, i + 1, .cons a t => .cons a (dpa_set r i t)
theorem dpa_take {K : PySem.W.Frag} {H : Hp} : ∀ {vs : List V} {ds : List D} (n : Nat), DpAll K H vs ds → DpAll K H (vs.take n) (ds.take n)
  | _, _, 0, _ => .nil
  | _, _, _ + 1, .nil => .nil
  | _, _, n + 1, .cons a t => .cons a (dpa_take n t)
theorem dpa_drop {K : PySem.W.Frag} {H : Hp} : ∀ {vs : List V} {ds : List D} (n : Nat), DpAll K H vs ds → DpAll K H (vs.drop n) (ds.drop n)
  | _, _, 0, h => h
  | _, _, _ + 1, .nil => .nil
  | _, _, n + 1, .cons _ t => dpa_drop n t

/-! ### the tables of code objects; what is kept of a heap -/
class Tbs where
  T : List NdefX.NTab
  /-- whether the table of modules is told -/
  S : Bool
abbrev Tab [Tbs] (H : Hp) : Prop := NdefX.TabsN Tbs.T H
/-- all stands, but tables may have grown -/
def Kp (H H' : Hp) : Prop := ∀ a o, H a = some o → H' a = some o ∨ ∃ ps ps', o = .tbl ps ∧ H' a = some (.tbl ps')
theorem Kp.refl (H : Hp) : Kp H H := fun _ _ e => .inl e
theorem Kp.of {H H' : Hp} (h : Same H H') : Kp H H' := fun a o e => .inl (h a o e)
theorem Kp.trans {H H1 H2 : Hp} (h : Kp H H1) (k : Kp H1 H2) : Kp H H2 := fun a o e => by
  rcases h a o e with q | ⟨ps, ps', rfl, q⟩
  · exact k a o q
  · rcases k a _ q with r | ⟨_, qs, _, r⟩
    · exact .inr ⟨ps, ps', rfl, r⟩
    · exact .inr ⟨ps, qs, rfl, r⟩
theorem Kp.free {H H' : Hp} (h : Kp H H') {a : Addr} (e : H' a = none) : H a = none := by
  cases q : H a with
  | none => rfl
  | some o =>
    rcases h a o q with r | ⟨_, _, _, r⟩
    · rw [e] at r; cases r
    · rw [e] at r; cases r
theorem Kp.l {H H' : Hp} {a : Addr} {xs : List V} (h : Kp H H') (e : H a = some (.lst xs)) : H' a = some (.lst xs) := by
  rcases h a _ e with r | ⟨_, _, z, _⟩
  · exact r
  · cases z
/-- a list or a dict: what a body may own -/
def Held : HO → Prop
  | .lst _ => True
  | .dK _ => True
  | _ => False
theorem Held.ntbl {o : HO} (h : Held o) : ∀ ps, o ≠ .tbl ps := fun ps z => by subst z; exact h
theorem Kp.c {H H' : Hp} {a : Addr} {o : HO} (h : Kp H H') (e : H a = some o) (n : Held o) : H' a = some o := by
  rcases h a _ e with r | ⟨_, _, z, _⟩
  · exact r
  · exact absurd z (n.ntbl _)
theorem Tab.put [Tbs] {H : Hp} {p : Addr} {o : HO} (t : Tab H) (h : H p = none ∨ ∃ u, H p = some u ∧ Held u) : Tab (upd H p o) := fun q hq => by
  obtain ⟨ps, h1, h2, h3⟩ := t q hq
  refine ⟨ps, ?_, h2, fun pos cv hc => ?_⟩
  · rw [upd_ne fun (z : q.1 = p) => by
      rw [z] at h1
      rcases h with e | ⟨u, e, n⟩
      · rw [e] at h1; cases h1
      · rw [e] at h1; exact n.ntbl _ (Option.some.inj h1)]
    exact h1
  · obtain ⟨c, e1, e2⟩ := h3 pos cv hc
    refine ⟨c, e1, ?_⟩
    rw [upd_ne fun (z : c = p) => by
      rw [z] at e2
      rcases h with e | ⟨u, e, n⟩
      · rw [e] at e2; cases e2
      · rw [e] at e2
        have z2 := Option.some.inj e2
        unfold LamX.CodeO at z2
        rw [z2] at n
        exact n]
    exact e2
/-- what may be frozen: no table, no dict that is not locked -/
def Fzn : HO → Prop
  | .tbl _ => False
  | .dK _ => False
  | _ => True
/-- the tables stand, none of them is frozen; a dict is frozen with its lock -/
structure Tf [Tbs] (F H : Hp) : Prop where
  t : Tab H
  z : ∀ a o, F a = some o → Fzn o
  m : Tbs.S = true → ∃ o, H sysModules = some (.frz o (.own 0))
theorem Tf.put [Tbs] {F H : Hp} {p : Addr} {o : HO} (t : Tf F H) (h : H p = none ∨ ∃ u, H p = some u ∧ Held u) : Tf F (upd H p o) := ⟨t.t.put h, t.z, fun z => by
  obtain ⟨o', e⟩ := t.m z
  refine ⟨o', ?_⟩
  rw [upd_ne fun q => ?_]
  · exact e
  · rw [q] at e
    rcases h with h | ⟨u, h, hu⟩
    · rw [e] at h; cases h
    · rw [e] at h
      cases h
      exact hu⟩
theorem Tf.ext [Tbs] {F H H' : Hp} (t : Tf F H) (h : Same H H') : Tf F H' := ⟨t.t.ext h, t.z, fun z => (t.m z).imp fun _ e => h _ _ e⟩
theorem Tf.frz [Tbs] {F H : Hp} {p : Addr} {o : HO} (t : Tf F H) (ho : Fzn o) : Tf (upd F p o) H := ⟨t.t, fun a u e => by
  by_cases z : a = p
  · subst z
    rw [upd_same] at e
    cases e
    exact ho
  · rw [upd_ne z] at e
    exact t.z a u e, t.m⟩
theorem Tf.n [Tbs] {F H : Hp} (t : Tf F H) (a : Addr) (ps : Array Value) : F a ≠ some (.tbl ps) := fun e => t.z a _ e
theorem lst_ntbl {vs : List V} : Fzn (HO.lst vs) := True.intro
theorem tup_ntbl {o : Obj} {vs : List V} : Fzn (HO.frz o (.tup vs)) := True.intro
variable [Tbs]
/-! ### the state: what the slots hold -/
/-- what an own object holds: a list of data; a dict -/
inductive Ct where
  | l (ds : List D)
  | d (kvs : List (D × D))
def Ct.dat : Ct → D
  | .l ds => .list ds
  | .d kvs => .dict kvs
def CtV (K : PySem.W.Frag) (F : Hp) (o : HO) : Ct → Prop
  | .l ds => ∃ vs, o = .lst vs ∧ DpAll K F vs ds
  | .d kvs => ∃ vs, o = .dK vs ∧ DpKv K F vs kvs
theorem CtV.held {K : PySem.W.Frag} {F : Hp} {o : HO} {c : Ct} (h : CtV K F o c) : Held o := by
  cases c with
  | l ds => obtain ⟨_, rfl, _⟩ := h; exact True.intro
  | d ds => obtain ⟨_, rfl, _⟩ := h; exact True.intro
theorem CtV.mono {K : PySem.W.Frag} {F F' : Hp} {o : HO} {c : Ct} (h : CtV K F o c) (e : Same F F') : CtV K F' o c := by
  cases c with
  | l ds => obtain ⟨vs, rfl, q⟩ := h; exact ⟨vs, rfl, dpa_mono e ds vs q⟩
  | d ds => obtain ⟨vs, rfl, q⟩ := h; exact ⟨vs, rfl, dpk_mono e ds vs q⟩
theorem CtV.dp {K : PySem.W.Frag} {F H : Hp} {o : HO} {c : Ct} {p : Addr} (h : CtV K F o c) (e : H p = some o) (s : Same F H) : Dp K H (.ref p) c.dat := by
  cases c with
  | l ds => obtain ⟨vs, rfl, q⟩ := h; exact .lst (.inl (.inl e)) (dpa_mono s ds vs q)
  | d ds => obtain ⟨vs, rfl, q⟩ := h; exact .dct (.inl e) (dpk_mono s ds vs q)
/-- an exception's fields -/
inductive XdP (K : PySem.W.Frag) (F : Hp) : List (Str × V) → List (Str × D) → Prop
  | nil : XdP K F [] []
  | cons {x : Str} {v : V} {d : D} {vs : List (Str × V)} {ds : List (Str × D)} : Dp K F v d → XdP K F vs ds → XdP K F ((x, v) :: vs) ((x, d) :: ds)
theorem xdp_mono {K : PySem.W.Frag} {F F' : Hp} (e : Same F F') : ∀ {fs : List (Str × V)} {kvs : List (Str × D)}, XdP K F fs kvs → XdP K F' fs kvs
  | _, _, .nil => .nil
  | _, _, .cons a r => .cons (dp_mono e _ _ a) (xdp_mono e r)
/-- a slot: nothing known; a datum; an own list or dict; a pot -/
inductive Sl where
  | no
  | fz (d : D)
  | obj (c : Ct)
  | pot
  | exc (a dd : Addr) (cls : Value) (kvs : List (Str × D))
abbrev Sl.own (ds : List D) : Sl := .obj (.l ds)
abbrev Sl.dct (kvs : List (D × D)) : Sl := .obj (.d kvs)
abbrev DS := List Sl
def PotAt (H : Hp) (p : Addr) : Prop := ∃ a b : Int, H p = some (.lst [.int a, .int b]) ∧ 0 ≤ a ∧ 0 ≤ b ∧ b < 2147483647
/-- B: what stands unchanged to the end; F0: what was frozen at the entry; P0: the pots of the entry -/
structure Bs where
  B : Hp
  F0 : Hp
  P0 : List Addr
/-- F: what is frozen now; P: the pots -/
structure Fz where
  F : Hp
  P : List Addr
def SlOk (K : PySem.W.Frag) (b : Bs) (f : Fz) (H : Hp) : Sl → Option (Option V) → Prop
  | .no, _ => True
  | .fz d, o => ∃ v, o = some (some v) ∧ Dp K f.F v d
  | .obj c, o => ∃ p u, o = some (some (.ref p)) ∧ f.F p = none ∧ b.B p = none ∧ p ∉ f.P ∧ H p = some u ∧ CtV K f.F u c
  | .pot, o => ∃ p, o = some (some (.ref p)) ∧ p ∈ f.P
  | .exc a dd _ kvs, o => o = some (some (.ref a)) ∧ ∃ fs, f.F dd = some (.xd fs) ∧ XdP K f.F fs kvs
def isOwn : Sl → Bool
  | .obj _ => true
  | _ => false
structure Sim (K : PySem.W.Frag) (b : Bs) (f : Fz) (ρ : DS) (σ : L2.St) (H : Hp) : Prop where
  len : ρ.length = σ.length
  bs : Kp b.B H
  fs : Same f.F H
  f0 : Same b.F0 f.F
  fr : ∀ a o, f.F a = some o → (∃ o', b.F0 a = some o') ∨ b.B a = none
  p0 : ∀ p ∈ b.P0, p ∈ f.P
  pt : ∀ p ∈ f.P, f.F p = none ∧ b.B p = none ∧ PotAt H p
  sl : ∀ (i : Nat) (s : Sl), ρ[i]? = some s → SlOk K b f H s σ[i]?
  sep : ∀ (i j : Nat) (s t : Sl) (p : Addr), ρ[i]? = some s → ρ[j]? = some t → isOwn s = true → isOwn t = true → σ[i]? = some (some (.ref p)) → σ[j]? = some (some (.ref p)) → i = j
  tb : Tf f.F H

/-- the frozen part has grown, by new objects alone; what was tracked stands -/
structure Gr (F H F' H' : Hp) : Prop where
  hh : Kp H H'
  ff : Same F F'
  fh : Same F' H'
  nw : ∀ a o, F' a = some o → (∃ o', F a = some o') ∨ H a = none
  tb : Tf F H → Tf F' H'
theorem Gr.refl {F H : Hp} (h : Same F H) : Gr F H F H := ⟨Kp.refl _, Same.refl _, h, fun _ o e => .inl ⟨o, e⟩, id⟩
theorem Gr.trans {F H F1 H1 F2 H2 : Hp} (a : Gr F H F1 H1) (c : Gr F1 H1 F2 H2) : Gr F H F2 H2 :=
  ⟨a.hh.trans c.hh, a.ff.trans c.ff, c.fh, fun x o e => by
    rcases c.nw x o e with ⟨o', e'⟩ | e'
    · exact a.nw x o' e'
    · exact .inr (a.hh.free e'), fun t => c.tb (a.tb t)⟩
/-- a new object, frozen at once -/
theorem Gr.new {F H : Hp} {p : Addr} {o : HO} (h : Same F H) (hp : H p = none) (ho : Fzn o) : Gr F H (upd F p o) (upd H p o) where
  hh := .of fun b u e => by rw [upd_ne (ne_of_none e hp)]; exact e
  ff := fun b u e => by rw [upd_ne (ne_of_none e (h.free hp))]; exact e
  fh := fun b u e => by
    by_cases q : b = p
    · subst q; rw [upd_same] at e ⊢; exact e
    · rw [upd_ne q] at e ⊢; exact h b u e
  nw := fun b u e => by
    by_cases q : b = p
    · subst q; exact .inr hp
    · rw [upd_ne q] at e; exact .inl ⟨u, e⟩
  tb := fun t => (t.put (.inl hp)).frz ho
theorem same_new {H : Hp} {p : Addr} {o : HO} (hp : H p = none) : Same H (upd H p o) := fun b u e => by rw [upd_ne (ne_of_none e hp)]; exact e

section
variable {K : PySem.W.Frag} {b : Bs} {f : Fz} {ρ : DS} {σ : L2.St} {H H' F' : Hp}
theorem SlOk.keep {s : Sl} {o : Option (Option V)} {f' : Fz} (h : SlOk K b f H s o) (ff : Same f.F f'.F) (hp : ∀ p, p ∈ f'.P ↔ p ∈ f.P) (hk : ∀ p (u : HO), isOwn s = true → o = some (some (.ref p)) → f.F p = none → b.B p = none → p ∉ f.P → H p = some u → Held u → f'.F p = none ∧ H' p = some u) : SlOk K b f' H' s o := by
  cases s with
  | no => exact True.intro
  | fz d => obtain ⟨v, e, q⟩ := h; exact ⟨v, e, dp_mono ff d v q⟩
  | obj c =>
    obtain ⟨p, u, e, h1, h2, h3, h4, h5⟩ := h
    obtain ⟨k1, k2⟩ := hk p _ rfl e h1 h2 h3 h4 h5.held
    exact ⟨p, u, e, k1, h2, fun z => h3 ((hp p).mp z), k2, h5.mono ff⟩
  | pot => obtain ⟨p, e, q⟩ := h; exact ⟨p, e, (hp p).mpr q⟩
  | exc a dd cls kvs => obtain ⟨e, fs, h1, h2⟩ := h; exact ⟨e, fs, ff _ _ h1, xdp_mono ff h2⟩
theorem Sim.grow (S : Sim K b f ρ σ H) (g : Gr f.F H F' H') : Sim K b ⟨F', f.P⟩ ρ σ H' where
  len := S.len
  bs := S.bs.trans g.hh
  fs := g.fh
  f0 := S.f0.trans g.ff
  fr := fun a o e => by
    rcases g.nw a o e with ⟨o', e'⟩ | e'
    · exact S.fr a o' e'
    · exact .inr (S.bs.free e')
  p0 := S.p0
  pt := fun p hp => by
    obtain ⟨h1, h2, a, c, h3, h4⟩ := S.pt p hp
    refine ⟨?_, h2, a, c, g.hh.l h3, h4⟩
    show F' p = Option.none
    cases q : F' p with
    | none => rfl
    | some o =>
      rcases g.nw p o q with ⟨o', e'⟩ | e'
      · rw [h1] at e'; cases e'
      · rw [h3] at e'; cases e'
  sl := fun i s e => (S.sl i s e).keep g.ff (fun _ => Iff.rfl) fun p u _ _ h1 _ _ h4 h5 => by
    refine ⟨?_, g.hh.c h4 h5⟩
    show F' p = Option.none
    cases q : F' p with
    | none => rfl
    | some o =>
      rcases g.nw p o q with ⟨o', e'⟩ | e'
      · rw [h1] at e'; cases e'
      · rw [h4] at e'; cases e'
  sep := S.sep
  tb := g.tb S.tb
end

/-! ### readings without a heap -/
/-- an object stays: as it was; a table that has grown; a dict that is locked now -/
def Stays (o : HO) (x : Option HO) : Prop := x = some o ∨ (∃ ps ps', o = .tbl ps ∧ x = some (.tbl ps')) ∨ ∃ ob kvs, o = .dK kvs ∧ x = some (.frz ob (.dK kvs))
theorem Stays.trans {o : HO} {H H2 : Hp} {a : Addr} (h : Stays o (H a)) (k : ∀ u, H a = some u → Stays u (H2 a)) : Stays o (H2 a) := by
  rcases h with r | ⟨ps, ps', rfl, r⟩ | ⟨ob, kvs, rfl, r⟩
  · exact k o r
  · rcases k _ r with q | ⟨_, qs, _, q⟩ | ⟨_, _, z, _⟩
    · exact .inr (.inl ⟨ps, ps', rfl, q⟩)
    · exact .inr (.inl ⟨ps, qs, rfl, q⟩)
    · cases z
  · rcases k _ r with q | ⟨_, _, z, _⟩ | ⟨_, _, z, _⟩
    · exact .inr (.inr ⟨ob, kvs, rfl, q⟩)
    · cases z
    · cases z
/-- how the state goes on within an expression: what was tracked stands, pots apart; the frozen part grows -/
structure Nx (f : Fz) (H : Hp) (f' : Fz) (H' : Hp) : Prop where
  ff : Same f.F f'.F
  kp : ∀ a o, H a = some o → a ∉ f.P → Stays o (H' a)
  pp : ∀ p, p ∈ f.P → p ∈ f'.P
  pn : ∀ p, p ∈ f'.P → p ∈ f.P ∨ H p = none
theorem Nx.kl {f f' : Fz} {H H' : Hp} {a : Addr} {xs : List V} (n : Nx f H f' H') (e : H a = some (.lst xs)) (h : a ∉ f.P) : H' a = some (.lst xs) := by
  rcases n.kp a _ e h with r | ⟨_, _, z, _⟩ | ⟨_, _, z, _⟩
  · exact r
  · cases z
  · cases z
/-- what is held, or was and is locked now -/
theorem Nx.kr {f f' : Fz} {H H' : Hp} {a : Addr} {o : HO} (n : Nx f H f' H') (e : H a = some o) (h : a ∉ f.P) (c : Held o) : Rd H' a o := by
  rcases n.kp a _ e h with r | ⟨_, _, z, _⟩ | ⟨ob, _, rfl, r⟩
  · exact .inl r
  · exact absurd z (c.ntbl _)
  · exact .inr ⟨ob, r⟩
theorem Stays.ex {o : HO} {x : Option HO} (h : Stays o x) : ∃ u, x = some u := by
  rcases h with r | ⟨_, _, _, r⟩ | ⟨_, _, _, r⟩ <;> exact ⟨_, r⟩
theorem Stays.mk {o : HO} {x : Option HO} (h : x = some o ∨ ∃ ps ps', o = .tbl ps ∧ x = some (.tbl ps')) : Stays o x := h.elim .inl fun q => .inr (.inl q)
theorem Nx.refl (f : Fz) (H : Hp) : Nx f H f H := ⟨Same.refl _, fun _ _ e _ => .inl e, fun _ e => e, fun _ e => .inl e⟩
theorem Nx.trans {f f1 f2 : Fz} {H H1 H2 : Hp} (hp : ∀ p ∈ f.P, ∃ o, H p = some o) (a : Nx f H f1 H1) (c : Nx f1 H1 f2 H2) : Nx f H f2 H2 where
  ff := a.ff.trans c.ff
  kp := fun x o e n => by
    have nz : x ∉ f1.P := fun z => by
      rcases a.pn x z with q | q
      · exact n q
      · rw [e] at q; cases q
    exact (a.kp x o e n).trans fun u r => c.kp x u r nz
  pp := fun p e => c.pp p (a.pp p e)
  pn := fun p e => by
    rcases c.pn p e with q | q
    · exact a.pn p q
    · by_cases z : p ∈ f.P
      · exact .inl z
      · refine .inr ?_
        cases r : H p with
        | none => rfl
        | some o =>
          obtain ⟨u, w⟩ := (a.kp p o r z).ex
          rw [w] at q; cases q
theorem Nx.of_gr {f : Fz} {H F' H' : Hp} (g : Gr f.F H F' H') : Nx f H ⟨F', f.P⟩ H' := ⟨g.ff, fun a o e _ => Stays.mk (g.hh a o e), fun _ e => e, fun _ e => .inl e⟩
theorem Sim.pots {K : PySem.W.Frag} {b : Bs} {f : Fz} {ρ : DS} {σ : L2.St} {H : Hp} (S : Sim K b f ρ σ H) : ∀ p ∈ f.P, ∃ o, H p = some o := fun p hp => by
  obtain ⟨_, _, a, c, h, _⟩ := S.pt p hp
  exact ⟨_, h⟩

/-- an exception's dict: none where it has no field -/
def XdO (K : PySem.W.Frag) (F : Hp) (kvs : List (Str × D)) : Option Addr → Prop
  | none => kvs = []
  | some dd => kvs ≠ [] ∧ ∃ fs, F dd = some (.xd fs) ∧ XdP K F fs kvs
theorem XdO.mono {K : PySem.W.Frag} {F F' : Hp} {kvs : List (Str × D)} {d : Option Addr} (h : XdO K F kvs d) (e : Same F F') : XdO K F' kvs d := by
  cases d with
  | none => exact h
  | some dd => obtain ⟨h0, fs, h1, h2⟩ := h; exact ⟨h0, fs, e _ _ h1, xdp_mono e h2⟩
theorem XdO.nil {K : PySem.W.Frag} {F : Hp} {d : Option Addr} (h : XdO K F [] d) : d = none := by
  cases d with
  | none => rfl
  | some dd => exact absurd rfl h.1
/-- what the exceptions that leave a def (or a try) are to keep: W in the heap, XR of class, fields and slots -/
class Bse where
  W : L2.WX
  XR : Value → List (Str × D) → DS → Prop
def ExL [Bse] (K : PySem.W.Frag) (b : Bs) : Prop := ∀ (cls : Value) (kvs : List (Str × D)) (ρ : DS) (σ : L2.St) (f : Fz) (H : Hp) (d : Option Addr),
  Bse.XR cls kvs ρ → Sim K b f ρ σ H → XdO K f.F kvs d → Bse.W cls d σ H
abbrev BP [Bse] (K : PySem.W.Frag) := {b : Bs // ExL K b}
variable [Bse]
abbrev TD := DS → (D → DS → Prop) → Prop
abbrev TDA := DS → (List D → DS → Prop) → Prop
abbrev TDT := DS → (Bool → DS → Prop) → Prop
/-- read at once: a datum, or an own list as it stands -/
def Bo (K : PySem.W.Frag) (f : Fz) (H : Hp) (v : V) (d : D) : Prop := Dp K f.F v d ∨ ∃ p u c, v = .ref p ∧ d = Ct.dat c ∧ p ∉ f.P ∧ Rd H p u ∧ CtV K f.F u c
inductive BoAll (K : PySem.W.Frag) (f : Fz) (H : Hp) : List V → List D → Prop
  | nil : BoAll K f H [] []
  | cons {v vs d ds} : Bo K f H v d → BoAll K f H vs ds → BoAll K f H (v :: vs) (d :: ds)
theorem rd_next {f f' : Fz} {H H' : Hp} {p : Addr} {u : HO} (n : Nx f H f' H') (h : Rd H p u) (hp : p ∉ f.P) (c : Held u) : Rd H' p u := by
  rcases h with h | ⟨o, h⟩
  · exact n.kr h hp c
  · rcases n.kp p _ h hp with r | ⟨_, _, z, _⟩ | ⟨_, _, z, _⟩
    · exact .inr ⟨o, r⟩
    · cases z
    · cases z
theorem rd_there {H : Hp} {p : Addr} {u : HO} (h : Rd H p u) : H p ≠ none := fun z => by
  rcases h with h | ⟨_, h⟩ <;> (rw [h] at z; cases z)
theorem CtV.dpr {K : PySem.W.Frag} {F H : Hp} {o : HO} {c : Ct} {p : Addr} (h : CtV K F o c) (e : Rd H p o) (s : Same F H) : Dp K H (.ref p) c.dat := by
  cases c with
  | l ds => obtain ⟨vs, rfl, q⟩ := h; exact .lst (.inl e) (dpa_mono s ds vs q)
  | d ds => obtain ⟨vs, rfl, q⟩ := h; exact .dct e (dpk_mono s ds vs q)
theorem Bo.next {K : PySem.W.Frag} {f f' : Fz} {H H' : Hp} {v : V} {d : D} (h : Bo K f H v d) (n : Nx f H f' H') : Bo K f' H' v d := by
  rcases h with h | ⟨p, u, c, e1, e2, h1, h2, h3⟩
  · exact .inl (dp_mono n.ff d v h)
  · refine .inr ⟨p, u, c, e1, e2, fun z => ?_, rd_next n h2 h1 h3.held, h3.mono n.ff⟩
    rcases n.pn p z with q | q
    · exact h1 q
    · exact rd_there h2 q
theorem Bo.dp {K : PySem.W.Frag} {f : Fz} {H : Hp} {v : V} {d : D} (fs : Same f.F H) (h : Bo K f H v d) : Dp K H v d := by
  rcases h with h | ⟨p, u, c, rfl, rfl, h1, h2, h3⟩
  · exact dp_mono fs d v h
  · exact h3.dpr h2 fs
theorem Bo.lst {K : PySem.W.Frag} {f : Fz} {H : Hp} {v : V} {ds : List D} (fs : Same f.F H) (h : Bo K f H v (.list ds)) : ∃ p vs, v = .ref p ∧ SqL K H p vs ∧ DpAll K f.F vs ds := by
  rcases h with h | ⟨p, u, c, rfl, e, h1, h2, h3⟩
  · cases h with
    | lst hs ha => exact ⟨_, _, rfl, fs.seq hs, ha⟩
  · cases c with
    | d _ => cases e
    | l ds' =>
      cases e
      obtain ⟨vs, rfl, q⟩ := h3
      exact ⟨p, vs, rfl, .inl h2, q⟩
theorem Bo.dct {K : PySem.W.Frag} {f : Fz} {H : Hp} {v : V} {ds : List (D × D)} (fs : Same f.F H) (h : Bo K f H v (.dict ds)) : ∃ p vs, v = .ref p ∧ Rd H p (.dK vs) ∧ DpKv K f.F vs ds := by
  rcases h with h | ⟨p, u, c, rfl, e, h1, h2, h3⟩
  · cases h with
    | dct hs ha => exact ⟨_, _, rfl, rd_same fs hs, ha⟩
  · cases c with
    | l _ => cases e
    | d ds' =>
      cases e
      obtain ⟨vs, rfl, q⟩ := h3
      exact ⟨p, vs, rfl, h2, q⟩
theorem Bo.tup {K : PySem.W.Frag} {f : Fz} {H : Hp} {v : V} {ds : List D} (fs : Same f.F H) (h : Bo K f H v (.tuple ds)) : ∃ p vs, v = .ref p ∧ SqT K H p vs ∧ DpAll K f.F vs ds := by
  rcases h with h | ⟨p, u, c, rfl, e, h1, h2, h3⟩
  · cases h with
    | tup hs ha => exact ⟨_, _, rfl, same_tup fs hs.1, ha⟩
  · cases c <;> cases e
theorem Bo.plt {K : PySem.W.Frag} {f : Fz} {H : Hp} {v : V} {ds : List D} (fs : Same f.F H) (h : Bo K f H v (.tuple ds)) : ∃ p vs, v = .ref p ∧ PlT K H p vs ∧ DpAll K f.F vs ds := by
  rcases h with h | ⟨p, u, c, rfl, e, h1, h2, h3⟩
  · cases h with
    | tup hs ha => exact ⟨_, _, rfl, hs.mono fs, ha⟩
  · cases c <;> cases e
theorem Bo.int {K : PySem.W.Frag} {f : Fz} {H : Hp} {v : V} {i : Int} (h : Bo K f H v (.int i)) : v = .int i := by
  rcases h with h | ⟨p, u, c, rfl, e, _⟩
  · cases h; rfl
  · cases c <;> cases e
theorem Bo.str {K : PySem.W.Frag} {f : Fz} {H : Hp} {v : V} {x : Str} (h : Bo K f H v (.str x)) : v = .str x := by
  rcases h with h | ⟨p, u, c, rfl, e, _⟩
  · cases h; rfl
  · cases c <;> cases e
theorem Bo.bl {K : PySem.W.Frag} {f : Fz} {H : Hp} {v : V} {x : Bool} (h : Bo K f H v (.bool x)) : v = .bl x := by
  rcases h with h | ⟨p, u, c, rfl, e, _⟩
  · cases h; rfl
  · cases c <;> cases e
theorem Bo.non {K : PySem.W.Frag} {f : Fz} {H : Hp} {v : V} (h : Bo K f H v .none) : v = .non := by
  rcases h with h | ⟨p, u, c, rfl, e, _⟩
  · cases h; rfl
  · cases c <;> cases e

/-- an expression that gives a datum -/
def lift (K : PySem.W.Frag) (T : TD) : TE := fun σ H Q => ∃ (b : BP K), ∃ f ρ R, Sim K b.1 f ρ σ H ∧ T ρ R ∧
  ∀ d ρ' v f' H', R d ρ' → Sim K b.1 f' ρ' σ H' → Nx f H f' H' → Dp K f'.F v d → Q v H'
def liftB (K : PySem.W.Frag) (T : TD) : TE := fun σ H Q => ∃ (b : BP K), ∃ f ρ R, Sim K b.1 f ρ σ H ∧ T ρ R ∧
  ∀ d ρ' v f' H', R d ρ' → Sim K b.1 f' ρ' σ H' → Nx f H f' H' → Bo K f' H' v d → Q v H'
def liftA (K : PySem.W.Frag) (T : TDA) : TA := fun σ H Q => ∃ (b : BP K), ∃ f ρ R, Sim K b.1 f ρ σ H ∧ T ρ R ∧
  ∀ ds ρ' vs f' H', R ds ρ' → Sim K b.1 f' ρ' σ H' → Nx f H f' H' → DpAll K f'.F vs ds → Q vs H'
def liftBA (K : PySem.W.Frag) (T : TDA) : TA := fun σ H Q => ∃ (b : BP K), ∃ f ρ R, Sim K b.1 f ρ σ H ∧ T ρ R ∧
  ∀ ds ρ' vs f' H', R ds ρ' → Sim K b.1 f' ρ' σ H' → Nx f H f' H' → BoAll K f' H' vs ds → Q vs H'
def liftT (K : PySem.W.Frag) (T : TDT) : TT := fun σ H Q => ∃ (b : BP K), ∃ f ρ R, Sim K b.1 f ρ σ H ∧ T ρ R ∧
  ∀ c ρ' f' H', R c ρ' → Sim K b.1 f' ρ' σ H' → Nx f H f' H' → Q c H'
/-- an expression that gives a new list, its own -/
structure OwnC (K : PySem.W.Frag) (b : Bs) (f : Fz) (ρ : DS) (σ : L2.St) (H : Hp) (p : Addr) (c : Ct) : Prop where
  nf : f.F p = none
  nb : b.B p = none
  np : p ∉ f.P
  no : ∀ (i : Nat) (s : Sl), ρ[i]? = some s → isOwn s = true → σ[i]? ≠ some (some (V.ref p))
  at_ : ∃ u, H p = some u ∧ CtV K f.F u c
abbrev Own (K : PySem.W.Frag) (b : Bs) (f : Fz) (ρ : DS) (σ : L2.St) (H : Hp) (p : Addr) (ds : List D) : Prop := OwnC K b f ρ σ H p (.l ds)
def liftL (K : PySem.W.Frag) (T : TDA) : TE := fun σ H Q => ∃ (b : BP K), ∃ f ρ R, Sim K b.1 f ρ σ H ∧ T ρ R ∧
  ∀ ds ρ' p f' H', R ds ρ' → Sim K b.1 f' ρ' σ H' → Nx f H f' H' → Own K b.1 f' ρ' σ H' p ds → Q (.ref p) H'
/-- an expression that gives a pot -/
def liftP (K : PySem.W.Frag) (T : DS → (DS → Prop) → Prop) : TE := fun σ H Q => ∃ (b : BP K), ∃ f ρ R, Sim K b.1 f ρ σ H ∧ T ρ R ∧
  ∀ ρ' p f' H', R ρ' → Sim K b.1 f' ρ' σ H' → Nx f H f' H' → p ∈ f'.P → Q (.ref p) H'

theorem PE.weak {X : Cx} {e : Expr} {t t' : TE} (h : PE X e t) (w : ∀ σ H Q, t' σ H Q → t σ H Q) : PE X e t' := ⟨fun pins s σ H Q I q => h.run pins s σ H Q I (w σ H Q q)⟩
theorem PE.or {X : Cx} {e : Expr} {t t' : TE} (h : PE X e t) (h' : PE X e t') : PE X e (fun σ H Q => t σ H Q ∨ t' σ H Q) := ⟨fun pins s σ H Q I q => q.elim (h.run pins s σ H Q I) (h'.run pins s σ H Q I)⟩
theorem PT.weak {X : Cx} {e : Expr} {t t' : TT} (h : PT X e t) (w : ∀ σ H Q, t' σ H Q → t σ H Q) : PT X e t' := ⟨fun pins s σ H Q I q => h.run pins s σ H Q I (w σ H Q q)⟩
theorem PW.weak {X : Cx} {e : Expr} {t t' : TT} (h : PW X e t) (w : ∀ σ H Q, t' σ H Q → t σ H Q) : PW X e t' := ⟨fun wh pins s σ H Q I q => h.run wh pins s σ H Q I (w σ H Q q)⟩
theorem PA.weak {X : Cx} {es : List Expr} {t t' : TA} (h : PA X es t) (w : ∀ σ H Q, t' σ H Q → t σ H Q) : PA X es t' := ⟨fun pos pins s σ H Q I q => h.run pos pins s σ H Q I (w σ H Q q)⟩
theorem PS.weak {X : Cx} {st : Stmt} {t t' : TS} (h : PS X st t) (w : ∀ D σ H, t' D σ H → t D σ H) : PS X st t' := ⟨fun pins s σ H D I q => h.run pins s σ H D I (w D σ H q)⟩
theorem PSs.weak {X : Cx} {st : List Stmt} {t t' : TS} (h : PSs X st t) (w : ∀ D σ H, t' D σ H → t D σ H) : PSs X st t' := ⟨fun pins s σ H D I q => h.run pins s σ H D I (w D σ H q)⟩
theorem PI.or {X : Cx} {tg e : Expr} {t t' : TI} (h : PI X tg e t) (h' : PI X tg e t') : PI X tg e (fun σ H Q => t σ H Q ∨ t' σ H Q) := ⟨fun pins s σ H Q I q => q.elim (h.run pins s σ H Q I) (h'.run pins s σ H Q I)⟩
theorem PI.weak {X : Cx} {tg e : Expr} {t t' : TI} (h : PI X tg e t) (w : ∀ σ H Q, t' σ H Q → t σ H Q) : PI X tg e t' := ⟨fun pins s σ H Q I q => h.run pins s σ H Q I (w σ H Q q)⟩

abbrev DE (X : Cx) (e : Expr) (T : TD) : Prop := PE X e (lift X.K T)
abbrev DB (X : Cx) (e : Expr) (T : TD) : Prop := PE X e (liftB X.K T)
abbrev DLs (X : Cx) (e : Expr) (T : TDA) : Prop := PE X e (liftL X.K T)
abbrev DPt (X : Cx) (e : Expr) (T : DS → (DS → Prop) → Prop) : Prop := PE X e (liftP X.K T)
abbrev DA (X : Cx) (es : List Expr) (T : TDA) : Prop := PA X es (liftA X.K T)
abbrev DBA (X : Cx) (es : List Expr) (T : TDA) : Prop := PA X es (liftBA X.K T)
abbrev DT (X : Cx) (e : Expr) (T : TDT) : Prop := PT X e (liftT X.K T)
abbrev DW (X : Cx) (e : Expr) (T : TDT) : Prop := PW X e (liftT X.K T)

/-! ### freezing what is own: a dict is locked then, for good -/
/-- G, with some dicts locked -/
inductive FrT (G : Hp → Prop) : Hp → Prop
  | here {H : Hp} : G H → FrT G H
  | lock {H : Hp} {d : Addr} {u : List (L2.Key × V)} : H d = some (.dK u) → (∀ od, FrT G (upd H d (.frz od (.dK u)))) → FrT G H
theorem FrT.mono {G G' : Hp → Prop} {H : Hp} (h : FrT G H) (w : ∀ H, G H → G' H) : FrT G' H := by
  induction h with
  | here q => exact .here (w _ q)
  | lock e _ ih => exact .lock e ih
theorem FrT.bind {G G' : Hp → Prop} {H : Hp} (h : FrT G H) (w : ∀ H, G H → FrT G' H) : FrT G' H := by
  induction h with
  | here q => exact w _ q
  | lock e _ ih => exact .lock e ih
theorem FrT.inv {X : Cx} {pins : List (Addr × Obj)} {σ : L2.St} {s : Shared} {G : Hp → Prop} {H : Hp} (h : FrT G H) : Inv X pins σ H s → ∃ H', Inv X pins σ H' s ∧ G H' := by
  induction h with
  | here q => exact fun I => ⟨_, I, q⟩
  | lock e _ ih =>
    intro I
    obtain ⟨od, I'⟩ := I.lock e True.intro
    exact ih od I'
theorem PE.frz {X : Cx} {e : Expr} {t : TE} (h : PE X e t) : PE X e fun σ H Q => t σ H fun v H1 => FrT (Q v) H1 := ⟨fun pins s σ H Q I q => thn (h.run pins s σ H _ I q) fun v s1 ⟨x, H1, I1, r, g⟩ => by
  obtain ⟨H2, I2, q2⟩ := g.inv I1
  exact ⟨x, H2, I2, r, q2⟩⟩
theorem PE.pre {X : Cx} {e : Expr} {t : TE} (h : PE X e t) : PE X e fun σ H Q => FrT (fun H1 => t σ H1 Q) H := ⟨fun pins s σ H Q I q => by
  obtain ⟨H2, I2, q2⟩ := q.inv I
  exact h.run pins s σ H2 Q I2 q2⟩
theorem upd_eq {H : Hp} {p : Addr} {u : HO} (h : H p = some u) : upd H p u = H := by
  funext a
  by_cases z : a = p
  · rw [z, upd_same, h]
  · exact upd_ne z
theorem Sim.fzAt {K : PySem.W.Frag} {b : Bs} {f : Fz} {ρ ρ' : DS} {σ : L2.St} {H : Hp} {p : Addr} {u fo : HO} (S : Sim K b f ρ σ H) (h1 : f.F p = none) (h2 : b.B p = none) (h3 : p ∉ f.P) (h4 : H p = some u) (hu : Held u) (hfo : Fzn fo)
    (hl : ρ'.length = ρ.length) (hr : ∀ (j : Nat) (s : Sl), ρ'[j]? = some s → (∃ d v, s = .fz d ∧ σ[j]? = some (some v) ∧ Dp K (upd f.F p fo) v d) ∨ (ρ[j]? = some s ∧ (isOwn s = true → σ[j]? ≠ some (some (.ref p))))) :
    Sim K b ⟨upd f.F p fo, f.P⟩ ρ' σ (upd H p fo) := by
  have ff : Same f.F (upd f.F p fo) := same_new h1
  refine ⟨hl.trans S.len, fun a o q => ?_, fun a o q => ?_, S.f0.trans ff, fun a o q => ?_, S.p0, fun q hq => ?_, fun j s q => ?_, fun j k s t q hj hk hs ht e1 e2 => ?_, (S.tb.put (.inr ⟨u, h4, hu⟩)).frz hfo⟩
  · have z : a ≠ p := fun z => by rw [z, h2] at q; cases q
    rw [upd_ne z]
    exact S.bs a o q
  · by_cases z : a = p
    · subst z
      have q' : upd f.F a fo a = some o := q
      rw [upd_same] at q' ⊢
      exact q'
    · have q' : upd f.F p fo a = some o := q
      rw [upd_ne z] at q' ⊢
      exact S.fs a o q'
  · by_cases z : a = p
    · subst z; exact .inr h2
    · have q' : upd f.F p fo a = some o := q
      rw [upd_ne z] at q'
      exact S.fr a o q'
  · obtain ⟨k1, k2, a, c, k3, k4⟩ := S.pt q hq
    have z : q ≠ p := fun z => h3 (z ▸ hq)
    exact ⟨by show upd f.F p fo q = none; rw [upd_ne z]; exact k1, k2, a, c, by rw [upd_ne z]; exact k3, k4⟩
  · rcases hr j s q with ⟨d, v, rfl, e, dp⟩ | ⟨e, ho⟩
    · exact ⟨v, e, dp⟩
    · refine (S.sl j s e).keep (f' := ⟨upd f.F p fo, f.P⟩) ff (fun _ => Iff.rfl) fun r u' go g0 g1 g2 g3 g4 _ => ?_
      have zr : r ≠ p := fun zz => ho go (zz ▸ g0)
      exact ⟨by show upd f.F p fo r = none; rw [upd_ne zr]; exact g1, by rw [upd_ne zr]; exact g4⟩
  · rcases hr j s hj with ⟨d, v, rfl, _⟩ | ⟨e3, _⟩
    · cases hs
    · rcases hr k t hk with ⟨d, v, rfl, _⟩ | ⟨e4, _⟩
      · cases ht
      · exact S.sep j k s t q e3 e4 hs ht e1 e2
/-- how a thing is frozen -/
theorem fz_how {K : PySem.W.Frag} {f : Fz} {H : Hp} {p : Addr} {u : HO} {c : Ct} {G : Hp → Prop} (h1 : f.F p = none) (h3 : p ∉ f.P) (h4 : H p = some u) (h5 : CtV K f.F u c)
    (q : ∀ fo, Fzn fo → Nx f H ⟨upd f.F p fo, f.P⟩ (upd H p fo) → Dp K (upd f.F p fo) (.ref p) c.dat → G (upd H p fo)) : FrT G H := by
  have nx : ∀ fo, (fo = u ∨ ∃ ob kvs, u = .dK kvs ∧ fo = .frz ob (.dK kvs)) → Nx f H ⟨upd f.F p fo, f.P⟩ (upd H p fo) := fun fo hfo => ⟨same_new h1, fun a o e _ => by
    by_cases z : a = p
    · subst z
      rw [h4] at e
      cases e
      rw [upd_same]
      rcases hfo with rfl | ⟨ob, kvs, rfl, rfl⟩
      · exact .inl rfl
      · exact .inr (.inr ⟨ob, kvs, rfl, rfl⟩)
    · rw [upd_ne z]
      exact .inl e, fun _ e => e, fun _ e => .inl e⟩
  cases c with
  | l ds =>
    obtain ⟨vs, rfl, hd⟩ := h5
    have q' := q (.lst vs) True.intro (nx _ (.inl rfl)) (.lst (.inl (.inl upd_same)) (dpa_mono (same_new h1) _ _ hd))
    rw [upd_eq h4] at q'
    exact .here q'
  | d ds =>
    obtain ⟨vs, rfl, hd⟩ := h5
    exact .lock h4 fun od => .here (q (.frz od (.dK vs)) True.intro (nx _ (.inr ⟨od, vs, rfl, rfl⟩)) (.dct (.inr ⟨od, upd_same⟩) (dpk_mono (same_new h1) _ _ hd)))
theorem Sim.freeze {K : PySem.W.Frag} {b : Bs} {f : Fz} {ρ : DS} {σ : L2.St} {H : Hp} {i : Nat} {c : Ct} (S : Sim K b f ρ σ H) (hi : ρ[i]? = some (.obj c)) :
    ∃ p, σ[i]? = some (some (.ref p)) ∧ ∀ G : Hp → Prop, (∀ F' H', Sim K b ⟨F', f.P⟩ (ρ.set i (.fz c.dat)) σ H' → Nx f H ⟨F', f.P⟩ H' → Dp K F' (.ref p) c.dat → G H') → FrT G H := by
  obtain ⟨p, u, e, h1, h2, h3, h4, h5⟩ := S.sl i _ hi
  refine ⟨p, e, fun G q => fz_how h1 h3 h4 h5 fun fo hfo n dp => q _ _ (S.fzAt h1 h2 h3 h4 h5.held hfo List.length_set fun j s hj => ?_) n dp⟩
  have hil : i < ρ.length := (List.getElem?_eq_some_iff.mp hi).1
  by_cases z : j = i
  · subst z
    rw [List.getElem?_set_self hil] at hj
    cases hj
    exact .inl ⟨_, _, rfl, e, dp⟩
  · rw [List.getElem?_set_ne (Ne.symm z)] at hj
    exact .inr ⟨hj, fun ho zz => z (S.sep j i s _ p hj hi ho rfl zz e)⟩
end DL

namespace DL
open PySem PySem.Spec PyProof.Rows L2
variable [Tbs] [Bse]
theorem OpR.weak {X : Cx} {g : Value → Value → Sem Value} {r r' : R2} (h : OpR X g r) (w : ∀ x y H Q, r' x y H Q → r x y H Q) : OpR X g r' := fun pins s σ H x y v u Q I rx ry q => h pins s σ H x y v u Q I rx ry (w x y H Q q)
theorem OpR.or {X : Cx} {g : Value → Value → Sem Value} {r r' : R2} (h : OpR X g r) (h' : OpR X g r') : OpR X g (fun x y H Q => r x y H Q ∨ r' x y H Q) := fun pins s σ H x y v u Q I rx ry q => q.elim (h pins s σ H x y v u Q I rx ry) (h' pins s σ H x y v u Q I rx ry)
theorem CallR.weak {X : Cx} {g : Value} {r r' : List V → Hp → VK → Prop} (h : CallR X g r) (w : ∀ xs H Q, r' xs H Q → r xs H Q) : CallR X g r' := fun pins s σ H xs us Q I rx q => h pins s σ H xs us Q I rx (w xs H Q q)
theorem CallR.or {X : Cx} {g : Value} {r r' : List V → Hp → VK → Prop} (h : CallR X g r) (h' : CallR X g r') : CallR X g (fun xs H Q => r xs H Q ∨ r' xs H Q) := fun pins s σ H xs us Q I rx q => q.elim (h pins s σ H xs us Q I rx) (h' pins s σ H xs us Q I rx)

section
variable {X : Cx} {e a b c : Expr} {es : List Expr} {T Ta Tb : TD} {Tr : TDA} {Tc : TDT} {pos : Pos}
/-! ### names, constants, arguments -/
def dVar (i : Nat) : TD := fun ρ R => match ρ[i]? with
  | some (.fz d) => R d ρ
  | some (.obj c) => R c.dat (ρ.set i (.fz c.dat))
  | _ => False
def bVar (i : Nat) : TD := fun ρ R => match ρ[i]? with
  | some (.fz d) => R d ρ
  | some (.obj c) => R c.dat ρ
  | _ => False
def pVar (i : Nat) : DS → (DS → Prop) → Prop := fun ρ R => ρ[i]? = some .pot ∧ R ρ
theorem de_var {i : Nat} (h : PE X e (tVar i)) : DE X e (dVar i) := PE.weak (PE.frz h) fun σ H Q q => by
  obtain ⟨b, f, ρ, R, S, t, q⟩ := q
  unfold dVar at t
  split at t
  · rename_i d hi
    obtain ⟨v, e1, dp⟩ := S.sl i _ hi
    exact ⟨v, e1, .here (q d ρ v f H t S (Nx.refl f H) dp)⟩
  · rename_i ds hi
    obtain ⟨p, e1, fr⟩ := S.freeze hi
    exact ⟨.ref p, e1, fr _ fun F' H' S' n dp => q _ _ _ ⟨F', f.P⟩ H' t S' n dp⟩
  · exact t.elim
theorem db_var {i : Nat} (h : PE X e (tVar i)) : DB X e (bVar i) := PE.weak h fun σ H Q q => by
  obtain ⟨b, f, ρ, R, S, t, q⟩ := q
  unfold bVar at t
  split at t
  · rename_i d hi
    obtain ⟨v, e1, dp⟩ := S.sl i _ hi
    exact ⟨v, e1, q d ρ v f H t S (Nx.refl f H) (.inl dp)⟩
  · rename_i ds hi
    obtain ⟨p, u, e1, h1, h2, h3, h4, h5⟩ := S.sl i _ hi
    exact ⟨.ref p, e1, q _ _ _ f H t S (Nx.refl f H) (.inr ⟨p, u, ds, rfl, rfl, h3, .inl h4, h5⟩)⟩
  · exact t.elim
theorem dp_var {i : Nat} (h : PE X e (tVar i)) : DPt X e (pVar i) := PE.weak h fun σ H Q q => by
  obtain ⟨b, f, ρ, R, S, ⟨hi, t⟩, q⟩ := q
  obtain ⟨p, e1, hp⟩ := S.sl i _ hi
  exact ⟨.ref p, e1, q ρ p f H t S (Nx.refl f H) hp⟩
theorem db_of (h : DE X e T) : DB X e T := PE.weak h fun σ H Q ⟨b, f, ρ, R, S, t, q⟩ => ⟨b, f, ρ, R, S, t, fun d ρ' v f' H' r S' n dp => q d ρ' v f' H' r S' n (.inl dp)⟩
def dC (d : D) : TD := fun ρ R => R d ρ
theorem de_c {v : V} {d : D} (h : PE X e (tC v)) (hd : ∀ H, Dp X.K H v d) : DE X e (dC d) := PE.weak h fun σ H Q ⟨b, f, ρ, R, S, t, q⟩ => q d ρ v f H t S (Nx.refl f H) (hd _)
theorem de_int {i j} : DE X (.Constant (.int i) j pos) (dC (.int i)) := de_c pe_int fun _ => .int i
theorem de_str {i j} : DE X (.Constant (.str i) j pos) (dC (.str i)) := de_c pe_str fun _ => .str i
theorem de_bl {i j} : DE X (.Constant (.bool i) j pos) (dC (.bool i)) := de_c pe_bl fun _ => .bl i
theorem de_non {j} : DE X (.Constant .none j pos) (dC .none) := de_c pe_non fun _ => .non
def dNil : TDA := fun ρ R => R [] ρ
def dCons (Ta : TD) (Tr : TDA) : TDA := fun ρ R => Ta ρ fun x ρ1 => Tr ρ1 fun xs ρ2 => R (x :: xs) ρ2
theorem da_nil : DA X [] dNil := PA.weak pa_nil fun σ H Q ⟨b, f, ρ, R, S, t, q⟩ => q [] ρ [] f H t S (Nx.refl f H) .nil
theorem dba_nil : DBA X [] dNil := PA.weak pa_nil fun σ H Q ⟨b, f, ρ, R, S, t, q⟩ => q [] ρ [] f H t S (Nx.refl f H) .nil
theorem da_cons (ha : DE X e Ta) (hr : DA X es Tr) (hs : starEach (e :: es) X.env = (false, eval e X.env) :: starEach es X.env := by rfl) : DA X (e :: es) (dCons Ta Tr) :=
  PA.weak (pa_cons ha hr hs) fun σ H Q ⟨b, f, ρ, R, S, t, q⟩ => ⟨b, f, ρ, _, S, t, fun d ρ1 v f1 H1 r S1 n1 dp => ⟨b, f1, ρ1, _, S1, r, fun ds ρ2 vs f2 H2 r2 S2 n2 dps =>
    q (d :: ds) ρ2 (v :: vs) f2 H2 r2 S2 (n1.trans S.pots n2) (.cons (dp_mono n2.ff d v dp) dps)⟩⟩
theorem dba_cons (ha : DB X e Ta) (hr : DBA X es Tr) (hs : starEach (e :: es) X.env = (false, eval e X.env) :: starEach es X.env := by rfl) : DBA X (e :: es) (dCons Ta Tr) :=
  PA.weak (pa_cons ha hr hs) fun σ H Q ⟨b, f, ρ, R, S, t, q⟩ => ⟨b, f, ρ, _, S, t, fun d ρ1 v f1 H1 r S1 n1 dp => ⟨b, f1, ρ1, _, S1, r, fun ds ρ2 vs f2 H2 r2 S2 n2 dps =>
    q (d :: ds) ρ2 (v :: vs) f2 H2 r2 S2 (n1.trans S.pots n2) (.cons (dp.next n2) dps)⟩⟩

/-! ### tuples that are made -/
abbrev tupO (its : List Value) : Obj := { cls := .type "tuple", data := .seq its.toArray }
theorem tupO_ok {P : Program} {w : World} {H : Hp} {h : Heap} {a : Addr} {xs : List V} {its : List Value} {k : Nat} (hz : xs.length ≤ sizeLine) (r : Vals xs its) (e : h.get? a = some ({ cls := .type "tuple", data := .seq its.toArray k } : Obj)) : ObjOk P w H h a (.frz { cls := .type "tuple", data := .seq its.toArray k } (.tup xs)) :=
  ⟨e, hz, its, r, _, e, rfl, _, rfl⟩
theorem Inv.laidT {pins : List (Addr × Obj)} {σ : L2.St} {H : Hp} {s : Shared} {h' : Heap} {xs : List V} {its : List Value} {t' : Nat} (I : Inv X pins σ H { s with heap := h' }) (hz : xs.length ≤ sizeLine) (r : Vals xs its) :
    Inv X pins σ (upd H h'.objs.size (.frz (tupO its) (.tup xs))) { s with heap := h'.push (tupO its), toks := t' } :=
  I.laid (t' := t') (fun b o e => Heap.get?_push_of_some _ e) (Nat.le_refl _) (tupO_ok hz r (Heap.get?_push_size _ rfl))
/-- a display -/
def tTupF (t : TA) : TE := fun σ H Q => t σ H fun xs H1 => xs.length ≤ sizeLine ∧ ∀ p o, H1 p = none → o.dict = none → Q (.ref p) (upd H1 p (.frz o (.tup xs)))
theorem pe_tupF {t : TA} {x1} (h : PA X es t) : PE X (.Tuple es x1 pos) (tTupF t) := ⟨fun pins s σ H Q I hq =>
  wpAny_Tuple_spliced (thn (h.run pos pins s σ H _ I hq) fun us s1 ⟨xs, H1, I1, r, z, q⟩ => ⟨by rw [← r.length]; exact z, .ref s1.heap.objs.size, _, Inv.laidT (s := s1) (t' := s1.toks) I1 z r, rfl, q _ _ (I1.hok.fresh (Nat.le_refl _)) rfl⟩)⟩
/-- tuple(x) -/
theorem call_tupleF : CallR X (.type "tuple") (fun xs H Q => ∃ p ys, xs = [.ref p] ∧ ((SqL X.K H p ys ∧ ∀ l o, H l = none → o.dict = none → Q (.ref l) (upd H l (.frz o (.tup ys)))) ∨ (SqT X.K H p ys ∧ Q (.ref p) H))) := fun pins s σ H xs us Q I r ⟨p, ys, e, h⟩ => by
  subst e
  obtain ⟨u, rfl, rx⟩ := vals1 r
  cases rx
  rcases h with ⟨hq, q⟩ | ⟨hq, q⟩
  · obtain ⟨its, r', pl, hz⟩ := I.list hq
    refine call_tuple_list pl.isList (fun h' kp => ?_) (by rw [List.size_toArray, ← r'.length]; exact hz)
    have I1 : Inv X pins σ H { s with heap := h' } := I.kept (t' := s.toks) kp
    exact ⟨.ref h'.objs.size, _, Inv.laidT (t' := s.toks) I1 hz r', rfl, q _ _ (I1.hok.fresh (Nat.le_refl _)) rfl⟩
  · obtain ⟨its, r', pl, hz⟩ := I.tuple hq
    exact call_tuple_same pl ⟨.ref p, H, I, rfl, q⟩
/-- t + u -/
def rCatF (K : PySem.W.Frag) : R2 := fun x y H Q => ∃ a b xs ys, x = .ref a ∧ y = .ref b ∧ SqT K H a xs ∧ SqT K H b ys ∧ xs.length + ys.length ≤ sizeLine ∧ (xs = [] → Q (.ref b) H) ∧ (ys = [] → Q (.ref a) H) ∧ ∀ p o, H p = none → o.dict = none → Q (.ref p) (upd H p (.frz o (.tup (xs ++ ys))))
theorem op_catF : OpR X (binaryOp .Add) (rCatF X.K) := fun pins s σ H x y v u Q I rx ry ⟨a, b, xs, ys, e1, e2, ha, hb, hz, q0, q1, q2⟩ => by
  subst e1 e2
  cases rx
  cases ry
  obtain ⟨its, r1, p1, _⟩ := I.tuple ha
  obtain ⟨jts, r2, p2, _⟩ := I.tuple hb
  by_cases hx : xs = []
  · subst hx
    cases r1
    exact cat_tup0 p1 p2 ⟨.ref b, H, I, rfl, q0 rfl⟩
  · refine HT.cat_tup p1 p2 (fun z => hx (r1.nil_iff.mp z)) (fun z => ⟨.ref a, H, I, rfl, q1 (r2.nil_iff.mp z)⟩) (fun z => ?_) (by rw [← r1.length, ← r2.length]; exact hz)
    exact ⟨.ref s.heap.objs.size, _, Inv.laidT (s := s) (t' := s.toks) I (by rw [List.length_append]; exact hz) (r1.append r2), rfl, q2 _ _ (I.hok.fresh (Nat.le_refl _)) rfl⟩
/-- t[lo:hi] -/
def rSlF (K : PySem.W.Frag) : V → Option Int → Option Int → Hp → VK → Prop := fun x lo hi H Q => ∃ a xs, x = .ref a ∧ SqT K H a xs ∧ (HT.sIx xs.length 0 lo = 0 ∧ HT.sIx xs.length xs.length hi = xs.length → Q (.ref a) H) ∧
  ∀ p o, H p = none → o.dict = none → Q (.ref p) (upd H p (.frz o (.tup (cutV xs lo hi))))
theorem sl_tupF : SlR X (rSlF X.K) := fun pins s σ H x v vl vu lo hi sl Q I rx hs pl pu ⟨a, xs, e, hx, q1, q2⟩ => by
  subst e
  cases rx
  obtain ⟨its, r, ht, hz⟩ := I.tuple hx
  have el : its.toArray.size = xs.length := by rw [List.size_toArray]; exact r.length.symm
  refine ⟨"tuple", _, PyProof.Rows.slot_tuple_getitem.lookup, ht.typeIs, ?_⟩
  by_cases hw : HT.sIx xs.length 0 lo = 0 ∧ HT.sIx xs.length xs.length hi = xs.length
  · exact getItem_tuple_whole ht hs pl pu (by rw [el]; exact hw) ⟨.ref a, H, I, rfl, q1 hw⟩
  · refine HT.getItem_tuple_cut ht hs pl pu (by rw [el]; exact hw) ?_ (by rw [el]; exact hz)
    rw [el]
    exact ⟨.ref s.heap.objs.size, _, Inv.laidT (s := s) (t' := s.toks) I (Nat.le_trans (cutV_length xs lo hi) hz) ((r.drop (HT.sIx xs.length 0 lo)).take (HT.sIx xs.length xs.length hi - HT.sIx xs.length 0 lo)), rfl, q2 _ _ (I.hok.fresh (Nat.le_refl _)) rfl⟩
/-! ### displays -/
def dTup (T : TDA) : TD := fun ρ R => T ρ fun ds ρ' => ds.length ≤ sizeLine ∧ R (.tuple ds) ρ'
theorem de_tup {x1} (h : DA X es Tr) : DE X (.Tuple es x1 pos) (dTup Tr) := PE.weak (pe_tupF h) fun σ H Q ⟨b, f, ρ, R, S, t, q⟩ =>
  ⟨b, f, ρ, _, S, t, fun ds ρ1 vs f1 H1 ⟨hz, r⟩ S1 n1 dps => ⟨by rw [dpa_len dps]; exact hz, fun p o hp ho => by
    have g : Gr f1.F H1 (upd f1.F p (.frz o (.tup vs))) (upd H1 p (.frz o (.tup vs))) := Gr.new S1.fs hp tup_ntbl
    exact q _ _ _ ⟨upd f1.F p (.frz o (.tup vs)), f1.P⟩ _ r (S1.grow g) (n1.trans S.pots (Nx.of_gr g)) (.tup (.new upd_same ho) (dpa_mono g.ff ds vs dps))⟩⟩
/-- a new object stands aside -/
theorem OwnC.new {K : PySem.W.Frag} {b : Bs} {f : Fz} {ρ : DS} {σ : L2.St} {H : Hp} {p : Addr} {u : HO} {c : Ct} (S : Sim K b f ρ σ H) (hp : H p = none) (hd : CtV K f.F u c) :
    Sim K b f ρ σ (upd H p u) ∧ OwnC K b f ρ σ (upd H p u) p c ∧ Nx f H f (upd H p u) := by
  have hh : Same H (upd H p u) := same_new hp
  have g : Gr f.F H f.F (upd H p u) := ⟨.of hh, Same.refl _, S.fs.trans hh, fun a o e => .inl ⟨o, e⟩, fun t => t.put (.inl hp)⟩
  refine ⟨S.grow g, ⟨S.fs.free hp, S.bs.free hp, fun z => ?_, fun i s hi ho z => ?_, u, upd_same, hd⟩, Nx.of_gr g⟩
  · obtain ⟨o, e⟩ := S.pots p z
    rw [hp] at e; cases e
  · cases s with
    | obj c' =>
      obtain ⟨q, w, e1, _, _, _, e2, _⟩ := S.sl i _ hi
      rw [z] at e1
      have e3 : p = q := V.ref.inj (Option.some.inj (Option.some.inj e1))
      rw [← e3, hp] at e2; cases e2
    | no => cases ho
    | fz d => cases ho
    | pot => cases ho
    | exc _ _ _ _ => cases ho
theorem Own.new {K : PySem.W.Frag} {b : Bs} {f : Fz} {ρ : DS} {σ : L2.St} {H : Hp} {p : Addr} {vs : List V} {ds : List D} (S : Sim K b f ρ σ H) (hp : H p = none) (hd : DpAll K f.F vs ds) :
    Sim K b f ρ σ (upd H p (.lst vs)) ∧ Own K b f ρ σ (upd H p (.lst vs)) p ds ∧ Nx f H f (upd H p (.lst vs)) := OwnC.new S hp ⟨vs, rfl, hd⟩
def dLst (T : TDA) : TDA := fun ρ R => T ρ fun ds ρ' => ds.length ≤ sizeLine ∧ R ds ρ'
theorem dl_lst (h : DA X es Tr) : DLs X (.List es pos) (dLst Tr) := PE.weak (pe_lst h) fun σ H Q ⟨b, f, ρ, R, S, t, q⟩ =>
  ⟨b, f, ρ, _, S, t, fun ds ρ1 vs f1 H1 ⟨hz, r⟩ S1 n1 dps => ⟨by rw [dpa_len dps]; exact hz, fun p hp => by
    obtain ⟨S2, O, n2⟩ := Own.new S1 hp dps
    exact q ds ρ1 p f1 _ r S2 (n1.trans S.pots n2) O⟩⟩
/-- a new list as a datum -/
def dOf (T : TDA) : TD := fun ρ R => T ρ fun ds ρ' => R (.list ds) ρ'
theorem OwnC.freeze {K : PySem.W.Frag} {b : Bs} {f : Fz} {ρ : DS} {σ : L2.St} {H : Hp} {p : Addr} {c : Ct} (S : Sim K b f ρ σ H) (O : OwnC K b f ρ σ H p c) (G : Hp → Prop)
    (q : ∀ F' H', Sim K b ⟨F', f.P⟩ ρ σ H' → Nx f H ⟨F', f.P⟩ H' → Dp K F' (.ref p) c.dat → G H') : FrT G H := by
  obtain ⟨u, h4, h5⟩ := O.at_
  exact fz_how O.nf O.np h4 h5 fun fo hfo n dp => q _ _ (S.fzAt O.nf O.nb O.np h4 h5.held hfo rfl fun j s hj => .inr ⟨hj, fun ho => O.no j s hj ho⟩) n dp
/-- an expression that gives a new dict, its own -/
abbrev TDK := DS → (List (D × D) → DS → Prop) → Prop
def liftK (K : PySem.W.Frag) (T : TDK) : TE := fun σ H Q => ∃ (b : BP K), ∃ f ρ R, Sim K b.1 f ρ σ H ∧ T ρ R ∧
  ∀ ds ρ' p f' H', R ds ρ' → Sim K b.1 f' ρ' σ H' → Nx f H f' H' → OwnC K b.1 f' ρ' σ H' p (.d ds) → Q (.ref p) H'
abbrev DKs (X : Cx) (e : Expr) (T : TDK) : Prop := PE X e (liftK X.K T)
def dOfK (T : TDK) : TD := fun ρ R => T ρ fun ds ρ' => R (.dict ds) ρ'
theorem de_ownK {Tk : TDK} (h : DKs X e Tk) : DE X e (dOfK Tk) := PE.weak (PE.frz h) fun σ H Q ⟨b, f, ρ, R, S, t, q⟩ =>
  ⟨b, f, ρ, _, S, t, fun ds ρ1 p f1 H1 r S1 n1 O => O.freeze S1 _ fun F' H' S2 n2 dp => q (.dict ds) ρ1 (.ref p) _ H' r S2 (n1.trans S.pots n2) dp⟩
theorem de_own (h : DLs X e Tr) : DE X e (dOf Tr) := PE.weak (PE.frz h) fun σ H Q ⟨b, f, ρ, R, S, t, q⟩ =>
  ⟨b, f, ρ, _, S, t, fun ds ρ1 p f1 H1 r S1 n1 O => OwnC.freeze S1 O _ fun F' H' S2 n2 dp => q (.list ds) ρ1 (.ref p) _ H' r S2 (n1.trans S.pots n2) dp⟩

/-! ### operations on data -/
def liftO (K : PySem.W.Frag) (r : D → D → (D → Prop) → Prop) : R2 := fun x y H Q => ∃ f d e R, Same f.F H ∧ Bo K f H x d ∧ Bo K f H y e ∧ r d e R ∧ ∀ z v F' H', R z → Gr f.F H F' H' → Dp K F' v z → Q v H'
def dBin (r : D → D → (D → Prop) → Prop) (Ta Tb : TD) : TD := fun ρ R => Ta ρ fun x ρ1 => Tb ρ1 fun y ρ2 => r x y fun z => R z ρ2
theorem bin_weak {r : D → D → (D → Prop) → Prop} {K : PySem.W.Frag} : ∀ σ H Q, lift K (dBin r Ta Tb) σ H Q → tOp (liftO K r) (liftB K Ta) (liftB K Tb) σ H Q := fun σ H Q ⟨b, f, ρ, R, S, t, q⟩ =>
  ⟨b, f, ρ, _, S, t, fun x ρ1 v f1 H1 r1 S1 n1 bx => ⟨b, f1, ρ1, _, S1, r1, fun y ρ2 u f2 H2 r2 S2 n2 bY =>
    ⟨f2, x, y, _, S2.fs, bx.next n2, bY, r2, fun z w F' H' rz g dz => q z ρ2 w ⟨F', f2.P⟩ H' rz (S2.grow g) ((n1.trans S.pots n2).trans S.pots (Nx.of_gr g)) dz⟩⟩⟩
theorem de_bin {op : Operator} {r : D → D → (D → Prop) → Prop} (ho : OpR X (binaryOp op) (liftO X.K r)) (ha : DB X a Ta) (hb : DB X b Tb) : DE X (.BinOp a op b pos) (dBin r Ta Tb) := PE.weak (pe_op ho ha hb) bin_weak
theorem de_cmp {op : CmpOp} {r : D → D → (D → Prop) → Prop} (ho : OpR X (compareOp op) (liftO X.K r)) (ha : DB X a Ta) (hb : DB X b Tb) (hm : behindInMarks op b = false) : DE X (.Compare a [op] [b] pos) (dBin r Ta Tb) := PE.weak (pe_cmpR ho ha hb hm) bin_weak
theorem de_ix {r : D → D → (D → Prop) → Prop} (ho : IxR X (liftO X.K r)) (ha : DB X a Ta) (hb : DB X b Tb) (hs : PlainIx b) : DE X (.Subscript a b pos) (dBin r Ta Tb) := PE.weak (pe_ix ho ha hb hs) bin_weak
/-- of flat results -/
theorem flatQ {K : PySem.W.Frag} {f : Fz} {H : Hp} {R : D → Prop} {Q : VK} {z : D} {v : V} (fs : Same f.F H) (q : ∀ z v F' H', R z → Gr f.F H F' H' → Dp K F' v z → Q v H') (r : R z) (dp : Dp K f.F v z) : Q v H := q z v f.F H r (Gr.refl fs) dp

theorem flatT {K : PySem.W.Frag} {f : Fz} {H : Hp} {R : D → Prop} {Q : VK} {ds : List D} {v : V} (fs : Same f.F H) (q : ∀ z v F' H', R z → Gr f.F H F' H' → Dp K F' v z → Q v H') (r : R (.tuple ds)) (bo : Bo K f H v (.tuple ds)) : Q v H := by
  rcases bo with dp | ⟨p, u, c, rfl, e, _⟩
  · exact flatQ fs q r dp
  · cases c <;> cases e
def rInts (g : Int → Int → D) : D → D → (D → Prop) → Prop := fun d e R => ∃ i j, d = .int i ∧ e = .int j ∧ R (g i j)
def rIntsC (C : Int → Int → Prop) (g : Int → Int → D) : D → D → (D → Prop) → Prop := fun d e R => ∃ i j, d = .int i ∧ e = .int j ∧ C i j ∧ R (g i j)
theorem od_ints {g : Value → Value → Sem Value} {k : Int → Int → Int} (h : OpR X g (rI0 fun i j => .int (k i j))) : OpR X g (liftO X.K (rInts fun i j => .int (k i j))) := OpR.weak h fun x y H Q q => by
  obtain ⟨f, d, e, R, fs, bx, bY, ⟨i, j, rfl, rfl, r⟩, q⟩ := q
  exact ⟨i, j, bx.int, bY.int, flatQ fs q r (.int _)⟩
theorem od_intsB {g : Value → Value → Sem Value} {k : Int → Int → Bool} (h : OpR X g (rI0 fun i j => .bl (k i j))) : OpR X g (liftO X.K (rInts fun i j => .bool (k i j))) := OpR.weak h fun x y H Q q => by
  obtain ⟨f, d, e, R, fs, bx, bY, ⟨i, j, rfl, rfl, r⟩, q⟩ := q
  exact ⟨i, j, bx.int, bY.int, flatQ fs q r (.bl _)⟩
theorem od_intsC {g : Value → Value → Sem Value} {C : Int → Int → Prop} {k : Int → Int → Int} (h : OpR X g (rI C fun i j => .int (k i j))) : OpR X g (liftO X.K (rIntsC C fun i j => .int (k i j))) := OpR.weak h fun x y H Q q => by
  obtain ⟨f, d, e, R, fs, bx, bY, ⟨i, j, rfl, rfl, hc, r⟩, q⟩ := q
  exact ⟨i, j, bx.int, bY.int, hc, flatQ fs q r (.int _)⟩
theorem od_sub : OpR X (binaryOp .Sub) (liftO X.K (rInts fun i j => .int (i - j))) := od_ints op_sub
theorem od_mul : OpR X (binaryOp .Mult) (liftO X.K (rIntsC CMul fun i j => .int (i * j))) := od_intsC op_mul
theorem od_fdiv : OpR X (binaryOp .FloorDiv) (liftO X.K (rIntsC CDiv fun i j => .int (i / j))) := od_intsC op_fdiv
theorem od_mod : OpR X (binaryOp .Mod) (liftO X.K (rIntsC (fun _ j => 0 < j) fun i j => .int (i % j))) := od_intsC op_mod
theorem od_pow : OpR X (binaryOp .Pow) (liftO X.K (rIntsC CPow fun i j => .int (i ^ j.toNat))) := od_intsC op_pow
/-- a + b: ints, texts, lists, tuples -/
def rAddD : D → D → (D → Prop) → Prop := fun d e R => match d, e with
  | .int i, .int j => R (.int (i + j))
  | .str x, .str y => x.length + y.length ≤ sizeLine ∧ R (.str (x ++ y))
  | .list x, .list y => x.length + y.length ≤ sizeLine ∧ R (.list (x ++ y))
  | .tuple x, .tuple y => x.length + y.length ≤ sizeLine ∧ R (.tuple (x ++ y))
  | _, _ => False
/-- two lists put together, wherever they stand -/
theorem op_catAny : OpR X (binaryOp .Add) (fun x y H Q => ∃ l m xs ys, x = .ref l ∧ y = .ref m ∧ SqL X.K H l xs ∧ SqL X.K H m ys ∧ xs.length + ys.length ≤ sizeLine ∧ ∀ p, H p = none → Q (.ref p) (upd H p (.lst (xs ++ ys)))) := by
  intro pins s σ H x y v u Q I rx ry h
  obtain ⟨l, m, xs, ys, rfl, rfl, hl, hm, hz, q⟩ := h
  cases rx
  cases ry
  obtain ⟨its, r1, ⟨o1, n1, g1, c1, d1, t1⟩, z1⟩ := I.list hl
  obtain ⟨jts, r2, ⟨o2, n2, g2, c2, d2, t2⟩, z2⟩ := I.list hm
  obtain ⟨cc1, dd1, tt1, sl1⟩ := o1
  obtain ⟨cc2, dd2, tt2, sl2⟩ := o2
  simp only at c1 d1 t1 c2 d2 t2
  subst c1 d1 t1 c2 d2 t2
  have hn : H s.heap.objs.size = none := I.hok.fresh (Nat.le_refl _)
  have rr : Vals (xs ++ ys) (its ++ jts) := r1.append r2
  have ez : its.toArray.size + jts.toArray.size ≤ sizeLine := by
    rw [List.size_toArray, List.size_toArray, ← r1.length, ← r2.length]
    exact hz
  refine concat_meets ⟨_, g1, rfl⟩ ⟨_, g2, rfl⟩ noFill_list_add seq_list_add PySem.F.slot_list_add PySem.F.entry_list_add (PySem.F.args_list_add_2 _ _) (list_addW l m its.toArray jts.toArray n1 n2 none none sl1 sl2 ez) ⟨g1, g2, ?_⟩
  refine ⟨.ref _, upd H s.heap.objs.size (.lst (xs ++ ys)), I.laid (t' := s.toks) (fun b u e => Heap.get?_push_of_some _ e) (Nat.le_refl _) ?_, rfl, q _ hn⟩
  refine ⟨by rw [List.length_append]; exact hz, its ++ jts, 0, rr, ?_⟩
  have ea : its.toArray ++ jts.toArray = (its ++ jts).toArray := by simp
  rw [ea]
  exact Heap.get?_push_size _ rfl
theorem od_add : OpR X (binaryOp .Add) (liftO X.K rAddD) := OpR.weak (OpR.or op_add (OpR.or op_add_str (OpR.or op_catAny op_catF))) fun x y H Q q => by
  obtain ⟨f, d, e, R, fs, bx, bY, r, q⟩ := q
  unfold rAddD at r
  split at r
  · exact .inl ⟨_, _, bx.int, bY.int, flatQ fs q r (.int _)⟩
  · exact .inr (.inl ⟨_, _, bx.str, bY.str, r.1, flatQ fs q r.2 (.str _)⟩)
  · obtain ⟨l, xs, rfl, hl, dl⟩ := bx.lst fs
    obtain ⟨m, ys, rfl, hm, dm⟩ := bY.lst fs
    refine .inr (.inr (.inl ⟨l, m, xs, ys, rfl, rfl, hl, hm, by rw [dpa_len dl, dpa_len dm]; exact r.1, fun p hp => ?_⟩))
    have g : Gr f.F H (upd f.F p (.lst (xs ++ ys))) (upd H p (.lst (xs ++ ys))) := Gr.new fs hp lst_ntbl
    exact q _ _ _ _ r.2 g (.lst (.inl (.inl upd_same)) (dpa_app (dpa_mono g.ff _ _ dl) (dpa_mono g.ff _ _ dm)))
  · obtain ⟨l, xs, rfl, hl, dl⟩ := bx.tup fs
    obtain ⟨m, ys, rfl, hm, dm⟩ := bY.tup fs
    refine .inr (.inr (.inr ⟨l, m, xs, ys, rfl, rfl, hl, hm, by rw [dpa_len dl, dpa_len dm]; exact r.1, fun z => ?_, fun z => ?_, fun p o hp ho => ?_⟩))
    · subst z
      cases dl
      exact flatT fs q r.2 bY
    · subst z
      cases dm
      have r2 := r.2
      rw [List.append_nil] at r2
      exact flatT fs q r2 bx
    · have g : Gr f.F H (upd f.F p (.frz o (.tup (xs ++ ys)))) (upd H p (.frz o (.tup (xs ++ ys)))) := Gr.new fs hp tup_ntbl
      exact q _ _ _ _ r.2 g (.tup (.new upd_same ho) (dpa_app (dpa_mono g.ff _ _ dl) (dpa_mono g.ff _ _ dm)))
  · exact r.elim
/-! ### data as the library reads them -/
section
variable {K : PySem.W.Frag} {H : Hp}
mutual
/-- without dicts: the hand layer's data -/
theorem Dp.out : ∀ (d : D) (v : V), d.canLay0 = true → Dp K H v d → L2.Dp K H v d
  | .none, _, _, h => by cases h; exact .non
  | .bool b, _, _, h => by cases h; exact .bl b
  | .int i, _, _, h => by cases h; exact .int i
  | .str x, _, _, h => by cases h; exact .str x
  | .list ds, _, c, h => by
    cases h with
    | lst hs ha => exact .lst hs (DpAll.out ds _ (by simpa [PyData.canLay0] using c) ha)
  | .tuple ds, _, c, h => by
    cases h with
    | tup hs ha => exact .tup hs.1 (DpAll.out ds _ (by simpa [PyData.canLay0] using c) ha)
  | .dict _, _, c, _ => by simp [PyData.canLay0] at c
theorem DpAll.out : ∀ (ds : List D) (vs : List V), PyData.canLayAll0 ds = true → DpAll K H vs ds → L2.DpAll K H vs ds
  | [], _, _, h => by cases h; exact .nil
  | d :: ds, _, c, h => by
    obtain ⟨c1, c2⟩ : d.canLay0 = true ∧ PyData.canLayAll0 ds = true := by simpa [PyData.canLayAll0] using c
    cases h with
    | cons a b => exact .cons (Dp.out d _ c1 a) (DpAll.out ds _ c2 b)
end
end
theorem pairs_keys {P : Program} {w : World} {h : Heap} : ∀ {es : List DictEntry} {kvs : List (L2.Key × Value)} {vs : List (L2.Key × V)} {ds : List (D × D)} {K : PySem.W.Frag} {H : Hp}, Pairs (mixKind P w) es kvs → KV vs kvs → DpKv K H vs ds → ∃ as, ReadsAll h (es.map (·.key)) (ds.map (·.1)) as
  | _, _, _, _, _, _, .nil, _, hd => by
    rename_i r
    cases r
    cases hd
    exact ⟨_, .nil⟩
  | _, _, _, _, _, _, .cons hk _ hp, r, hd => by
    cases r with
    | cons r1 r2 =>
      cases hd with
      | cons d1 d2 =>
        obtain ⟨as, q⟩ := pairs_keys (h := h) hp r2 d2
        rename_i kk _ _ _ _
        obtain ⟨e1, _⟩ := r1
        simp only at e1
        subst e1
        rcases keyIs_shape hk with ⟨i, t, e0, e⟩ | ⟨x, t, e0, e⟩
        · refine ⟨_, .cons (as := []) ?_ q⟩
          show Reads h (DictEntry.key _) (kD _) _
          rw [e0, e]
          exact Reads.int i t
        · refine ⟨_, .cons (as := []) ?_ q⟩
          show Reads h (DictEntry.key _) (kD _) _
          rw [e0, e]
          exact Reads.str x t
section
variable {X : Cx} {pins : List (Addr × Obj)} {σ : L2.St} {H : Hp} {s : Shared}
mutual
theorem Dp.reads (I : Inv X pins σ H s) : ∀ (d : D) (v : V) (u : Value), Dp X.K H v d → RelV v u → ∃ as, Reads s.heap u d as
  | .none, _, _, h, r => by
    cases h; cases r
    exact ⟨_, Reads.none⟩
  | .bool b, _, _, h, r => by
    cases h; cases r
    exact ⟨_, Reads.bool b⟩
  | .int i, _, _, h, r => by
    cases h; obtain ⟨t, rfl⟩ := r
    exact ⟨_, Reads.int i t⟩
  | .str x, _, _, h, r => by
    cases h; obtain ⟨t, rfl⟩ := r
    exact ⟨_, Reads.str x t⟩
  | .list ds, _, _, h, r => by
    cases h with
    | lst hs ha =>
      cases r
      obtain ⟨its, rv, ⟨o, n, h1, h2, _, h3⟩, _⟩ := I.list hs
      obtain ⟨as, q⟩ := DpAll.reads I ds _ its ha rv
      exact ⟨_, Reads.list h1 h2 h3 q⟩
  | .tuple ds, _, _, h, r => by
    cases h with
    | tup hs ha =>
      cases r
      obtain ⟨its, rv, ⟨o, h1, h2, n, h3⟩, _⟩ := I.tuple hs.1
      obtain ⟨as, q⟩ := DpAll.reads I ds _ its ha rv
      exact ⟨_, Reads.tuple h1 h2 h3 q⟩
  | .dict ds, _, _, h, r => by
    cases h with
    | dct hs ha =>
      cases r
      obtain ⟨_, _, kvs, rkv, o, es, ep, h1, h2, h3, _, hp, _⟩ := Rd.ok hs I.hok
      obtain ⟨as, q1⟩ := pairs_keys (h := s.heap) hp rkv ha
      obtain ⟨bs, q2⟩ := DpKv.reads I ds _ kvs es.toList ha rkv hp
      exact ⟨_, Reads.dict h1 h2.1 h3 q1 q2⟩
theorem DpAll.reads (I : Inv X pins σ H s) : ∀ (ds : List D) (vs : List V) (us : List Value), DpAll X.K H vs ds → Vals vs us → ∃ as, ReadsAll s.heap us ds as
  | [], _, _, h, r => by
    cases h; cases r
    exact ⟨_, ReadsAll.nil⟩
  | d :: ds, _, _, h, r => by
    cases h with
    | cons h1 h2 =>
      cases r with
      | cons r1 r2 =>
        obtain ⟨as, q1⟩ := Dp.reads I d _ _ h1 r1
        obtain ⟨bs, q2⟩ := DpAll.reads I ds _ _ h2 r2
        exact ⟨_, ReadsAll.cons q1 q2⟩
theorem DpKv.reads (I : Inv X pins σ H s) : ∀ (ds : List (D × D)) (vs : List (L2.Key × V)) (kvs : List (L2.Key × Value)) (es : List DictEntry), DpKv X.K H vs ds → KV vs kvs → Pairs (mixKind X.prog X.w) es kvs → ∃ as, ReadsAll s.heap (es.map (·.val)) (ds.map (·.2)) as
  | [], _, _, _, h, r, p => by
    cases h; cases r; cases p
    exact ⟨_, ReadsAll.nil⟩
  | (k, d) :: ds, _, _, _, h, r, p => by
    cases h with
    | cons h1 h2 =>
      cases r with
      | cons r1 r2 =>
        cases p with
        | cons p1 pv p2 =>
          obtain ⟨as, q1⟩ := Dp.reads I d _ _ h1 r1.2
          obtain ⟨bs, q2⟩ := DpKv.reads I ds _ _ _ h2 r2 p2
          rw [← pv] at q1
          exact ⟨_, ReadsAll.cons q1 q2⟩
end
end
/-! ### == and in -/
def shp (d : D) : Bool := SeqAt.shaped d
def rEqDD (neg : Bool) : D → D → (D → Prop) → Prop := fun d e R => shp d = true ∧ shp e = true ∧ R (.bool (if neg then !PyData.eqv d e else PyData.eqv d e))
theorem od_eq (hu : X.A.units + 64 < cLine) : OpR X (compareOp .Eq) (liftO X.K (rEqDD false)) := OpR.weak (op_eqD hu) fun x y H Q q => by
  obtain ⟨f, d, e, R, fs, bx, bY, ⟨h1, h2, r⟩, q⟩ := q
  exact ⟨d, e, Dp.out d _ (SeqAt.canLay_of_shaped h1) (bx.dp fs), Dp.out e _ (SeqAt.canLay_of_shaped h2) (bY.dp fs), h1, h2, flatQ fs q r (.bl _)⟩
theorem od_ne (hu : X.A.units + 64 < cLine) : OpR X (compareOp .NotEq) (liftO X.K (rEqDD true)) := OpR.weak (op_neD hu) fun x y H Q q => by
  obtain ⟨f, d, e, R, fs, bx, bY, ⟨h1, h2, r⟩, q⟩ := q
  exact ⟨d, e, Dp.out d _ (SeqAt.canLay_of_shaped h1) (bx.dp fs), Dp.out e _ (SeqAt.canLay_of_shaped h2) (bY.dp fs), h1, h2, flatQ fs q r (.bl _)⟩
/-- the items of a list or a tuple -/
def seqD : D → Option (List D)
  | .list ds => some ds
  | .tuple ds => some ds
  | _ => none
def rTin (neg : Bool) (K : PySem.W.Frag) : R2 := fun x y H Q => ∃ d ds, Dp K H x d ∧ Dp K H y (.tuple ds) ∧ shp d = true ∧ shp (.tuple ds) = true ∧ Q (.bl (if neg then !ds.any fun z => PyData.eqv z d else ds.any fun z => PyData.eqv z d)) H
theorem op_tin (hu : X.A.units + 65 < cLine) : OpR X (compareOp .In) (rTin false X.K) := fun pins s σ H x y v u Q I rx ry ⟨d, ds, hd, he, sd, se, q⟩ => by
  obtain ⟨as, r1⟩ := Dp.reads I d x v hd rx
  obtain ⟨bs, r2⟩ := Dp.reads I (.tuple ds) y u he ry
  refine SeqAt.in_tuple_reads r2 r1 (SeqAt.canLay_of_shaped (d := .tuple ds) se) (SeqAt.canLay_of_shaped sd) (room_in_shaped sd hu) ?_
  exact ⟨.bl _, H, I, rfl, q⟩
theorem op_tnin (hu : X.A.units + 65 < cLine) : OpR X (compareOp .NotIn) (rTin true X.K) := fun pins s σ H x y v u Q I rx ry ⟨d, ds, hd, he, sd, se, q⟩ => by
  obtain ⟨as, r1⟩ := Dp.reads I d x v hd rx
  obtain ⟨bs, r2⟩ := Dp.reads I (.tuple ds) y u he ry
  refine SeqAt.notIn_tuple_reads r2 r1 (SeqAt.canLay_of_shaped (d := .tuple ds) se) (SeqAt.canLay_of_shaped sd) (room_in_shaped sd hu) ?_
  exact ⟨.bl _, H, I, rfl, q⟩
def rInDD (neg : Bool) : D → D → (D → Prop) → Prop := fun d e R => ∃ ds, seqD e = some ds ∧ shp d = true ∧ shp e = true ∧ R (.bool (if neg then !ds.any fun z => PyData.eqv z d else ds.any fun z => PyData.eqv z d))
theorem seqD_cases {e : D} {ds : List D} (h : seqD e = some ds) : e = .list ds ∨ e = .tuple ds := by
  cases e <;> first
    | (cases h; done)
    | (cases h; exact .inl rfl)
    | (cases h; exact .inr rfl)
theorem od_in (hu : X.A.units + 65 < cLine) : OpR X (compareOp .In) (liftO X.K (rInDD false)) := OpR.weak (OpR.or (op_inD hu) (op_tin hu)) fun x y H Q q => by
  obtain ⟨f, d, e, R, fs, bx, bY, ⟨ds, h0, h1, h2, r⟩, q⟩ := q
  rcases seqD_cases h0 with rfl | rfl
  · exact .inl ⟨d, ds, Dp.out d _ (SeqAt.canLay_of_shaped h1) (bx.dp fs), Dp.out _ _ (SeqAt.canLay_of_shaped h2) (bY.dp fs), h1, h2, flatQ fs q r (.bl _)⟩
  · exact .inr ⟨d, ds, bx.dp fs, bY.dp fs, h1, h2, flatQ fs q r (.bl _)⟩
theorem od_nin (hu : X.A.units + 65 < cLine) : OpR X (compareOp .NotIn) (liftO X.K (rInDD true)) := OpR.weak (OpR.or (op_notInD hu) (op_tnin hu)) fun x y H Q q => by
  obtain ⟨f, d, e, R, fs, bx, bY, ⟨ds, h0, h1, h2, r⟩, q⟩ := q
  rcases seqD_cases h0 with rfl | rfl
  · exact .inl ⟨d, ds, Dp.out d _ (SeqAt.canLay_of_shaped h1) (bx.dp fs), Dp.out _ _ (SeqAt.canLay_of_shaped h2) (bY.dp fs), h1, h2, flatQ fs q r (.bl _)⟩
  · exact .inr ⟨d, ds, bx.dp fs, bY.dp fs, h1, h2, flatQ fs q r (.bl _)⟩
/-! ### an item by its place -/
def rIxD : D → D → (D → Prop) → Prop := fun d e R => ∃ i, e = .int i ∧ ((∃ ds z, seqD d = some ds ∧ atI ds i = some z ∧ R z) ∨ ∃ x c, d = .str x ∧ x.length ≤ sizeLine ∧ atI x.cps.toList i = some c ∧ R (.str ⟨#[c]⟩))
theorem dpa_at {K : PySem.W.Frag} {H : Hp} {vs : List V} {ds : List D} {i : Int} {z : D} (h : DpAll K H vs ds) (e : atI ds i = some z) : ∃ v, atI vs i = some v ∧ Dp K H v z := by
  unfold atI at e ⊢
  rw [dpa_len h]
  cases q : ixN ds.length i with
  | none => rw [q] at e; cases e
  | some j =>
    rw [q] at e
    exact dpa_getD h e
theorem od_ix : IxR X (liftO X.K rIxD) := fun value slice pins s σ H x y v u Q I rx ry q hs => ix_seq value slice pins s σ H x y v u Q I rx ry (by
  obtain ⟨f, d, e, R, fs, bx, bY, ⟨i, rfl, r⟩, q⟩ := q
  have ey := bY.int
  rcases r with ⟨ds, z, h0, h1, r⟩ | ⟨w, c, rfl, h1, h2, r⟩
  · rcases seqD_cases h0 with rfl | rfl
    · obtain ⟨p, vs, rfl, hl, dl⟩ := bx.lst fs
      obtain ⟨v', e1, dv⟩ := dpa_at dl h1
      exact .inl ⟨p, vs, i, v', rfl, ey, hl, e1, flatQ fs q r dv⟩
    · obtain ⟨p, vs, rfl, hl, dl⟩ := bx.tup fs
      obtain ⟨v', e1, dv⟩ := dpa_at dl h1
      exact .inr (.inl ⟨p, vs, i, v', rfl, ey, hl, e1, flatQ fs q r dv⟩)
  · exact .inr (.inr ⟨w, i, c, bx.str, ey, h1, h2, flatQ fs q r (.str _)⟩)) hs
end
end DL

namespace DL
open PySem PySem.Spec PyProof.Rows L2
variable [Tbs] [Bse]
section
variable {X : Cx} {e a b c : Expr} {es rest : List Expr} {T Ta Tb : TD} {Tr : TDA} {Tc Tp Tq : TDT} {pos : Pos}
/-! ### tests -/
def tVal (T : TD) : TDT := fun ρ R => T ρ fun d ρ' => ∃ c, d = .bool c ∧ R c ρ'
theorem dt_val (h : DE X e T) (he : ∀ whole, isTrue e X.env whole = (do let v ← whole; standAt e.pos; holding [v] (truthy v)) := by intro _; rfl) : DT X e (tVal T) :=
  PT.weak (pt_val h he) fun σ H Q ⟨b, f, ρ, R, S, t, q⟩ => ⟨b, f, ρ, _, S, t, fun d ρ' v f' H' ⟨c, e, r⟩ S' n dp => by
    subst e
    cases dp
    exact ⟨c, rfl, q c ρ' f' H' r S' n⟩⟩
def truD : D → Option Bool
  | .none => some false
  | .bool b => some b
  | .int i => some (i != 0)
  | .str x => if x.length ≤ sizeLine then some ((x.length : Int) != 0) else none
  | .list ds => some !ds.isEmpty
  | .tuple ds => some !ds.isEmpty
  | .dict _ => none
def tTru (T : TD) : TDT := fun ρ R => T ρ fun d ρ' => ∃ c, truD d = some c ∧ R c ρ'
theorem dpa_empty {K : PySem.W.Frag} {H : Hp} {vs : List V} {ds : List D} (h : DpAll K H vs ds) : vs.isEmpty = ds.isEmpty := by cases h <;> rfl
theorem dt_tru (h : DB X e T) (he : ∀ whole, isTrue e X.env whole = (do let v ← whole; standAt e.pos; holding [v] (truthy v)) := by intro _; rfl) : DT X e (tTru T) :=
  PT.weak (pt_truth h he) fun σ H Q ⟨b, f, ρ, R, S, t, q⟩ => ⟨b, f, ρ, _, S, t, fun d ρ' v f' H' ⟨c, e, r⟩ S' n bo => by
    refine ⟨c, ?_, q c ρ' f' H' r S' n⟩
    cases d with
    | none => rw [bo.non]; exact (Option.some.inj e).symm
    | bool x => rw [bo.bl]; exact (Option.some.inj e).symm
    | int i => rw [bo.int]; exact (Option.some.inj e).symm
    | str x =>
      rw [bo.str]
      have e' : (if x.length ≤ sizeLine then some ((x.length : Int) != 0) else Option.none) = some c := e
      by_cases hz : x.length ≤ sizeLine
      · rw [if_pos hz] at e'
        exact ⟨hz, (Option.some.inj e').symm⟩
      · rw [if_neg hz] at e'
        cases e'
    | list ds =>
      obtain ⟨p, vs, rfl, hl, dl⟩ := bo.lst S'.fs
      refine .inl ⟨vs, hl, ?_⟩
      rw [dpa_empty dl]
      exact (Option.some.inj e).symm
    | tuple ds =>
      obtain ⟨p, vs, rfl, hl, dl⟩ := bo.tup S'.fs
      refine .inr (.inl ⟨vs, hl, ?_⟩)
      rw [dpa_empty dl]
      exact (Option.some.inj e).symm
    | dict x => cases e⟩
def tNotD (T : TDT) : TDT := fun ρ R => T ρ fun c ρ' => R (!c) ρ'
theorem dt_cmp {op : CmpOp} {r : D → D → (D → Prop) → Prop} (ho : OpR X (compareOp op) (liftO X.K r)) (ha : DB X a Ta) (hb : DB X b Tb) (hm : behindInMarks op b = false) : DT X (.Compare a [op] [b] pos) (tVal (dBin r Ta Tb)) := PT.weak (pt_cmpR ho ha hb hm) fun σ H Q ⟨bb, f, ρ, R, S, t, q⟩ =>
  bin_weak σ H _ ⟨bb, f, ρ, _, S, t, fun d ρ' v f' H' ⟨c, e, r⟩ S' n dp => ⟨c, by subst e; cases dp; rfl, q c ρ' f' H' r S' n⟩⟩
theorem dt_not (h : DT X e Tc) : DT X (.UnaryOp .Not e pos) (tNotD Tc) := PT.weak (pt_not h) fun σ H Q ⟨b, f, ρ, R, S, t, q⟩ => ⟨b, f, ρ, _, S, t, fun c ρ' f' H' r S' n => q _ ρ' f' H' r S' n⟩
def tAndD (T U : TDT) : TDT := fun ρ R => T ρ fun c ρ' => if c = true then U ρ' R else R false ρ'
def tOrD (T U : TDT) : TDT := fun ρ R => T ρ fun c ρ' => if c = true then R true ρ' else U ρ' R
theorem dw_and1 (h : DT X e Tc) : DW X (.BoolOp .And [e] pos) Tc := pw_and1 h
theorem dw_or1 (h : DT X e Tc) : DW X (.BoolOp .Or [e] pos) Tc := pw_or1 h
theorem dw_and (ha : DT X a Tp) (hb : DW X (.BoolOp .And (b :: rest) pos) Tq) : DW X (.BoolOp .And (a :: b :: rest) pos) (tAndD Tp Tq) := PW.weak (pw_and ha hb) fun σ H Q ⟨bb, f, ρ, R, S, t, q⟩ =>
  ⟨bb, f, ρ, _, S, t, fun c ρ' f' H' r S' n => by
    cases c with
    | true => exact ⟨bb, f', ρ', R, S', r, fun c2 ρ2 f2 H2 r2 S2 n2 => q c2 ρ2 f2 H2 r2 S2 (n.trans S.pots n2)⟩
    | false => exact q false ρ' f' H' r S' n⟩
theorem dw_or (ha : DT X a Tp) (hb : DW X (.BoolOp .Or (b :: rest) pos) Tq) : DW X (.BoolOp .Or (a :: b :: rest) pos) (tOrD Tp Tq) := PW.weak (pw_or ha hb) fun σ H Q ⟨bb, f, ρ, R, S, t, q⟩ =>
  ⟨bb, f, ρ, _, S, t, fun c ρ' f' H' r S' n => by
    cases c with
    | false => exact ⟨bb, f', ρ', R, S', r, fun c2 ρ2 f2 H2 r2 S2 n2 => q c2 ρ2 f2 H2 r2 S2 (n.trans S.pots n2)⟩
    | true => exact q true ρ' f' H' r S' n⟩
theorem dt_w (h : DW X e Tc) : DT X e Tc := h.pt
/-- as values, of bools -/
def dNotV (T : TD) : TD := fun ρ R => T ρ fun d ρ' => ∃ c, d = .bool c ∧ R (.bool (!c)) ρ'
theorem de_not (h : DE X e T) : DE X (.UnaryOp .Not e pos) (dNotV T) := PE.weak (pe_not h) fun σ H Q ⟨b, f, ρ, R, S, t, q⟩ => ⟨b, f, ρ, _, S, t, fun d ρ' v f' H' ⟨c, e, r⟩ S' n dp => by
  subst e
  cases dp
  exact ⟨c, rfl, q _ ρ' _ f' H' r S' n (.bl _)⟩⟩
def dAndV (T U : TD) : TD := fun ρ R => T ρ fun d ρ' => ∃ c, d = .bool c ∧ if c = true then U ρ' R else R (.bool false) ρ'
def dOrV (T U : TD) : TD := fun ρ R => T ρ fun d ρ' => ∃ c, d = .bool c ∧ if c = true then R (.bool true) ρ' else U ρ' R
theorem de_one {op} (h : DE X e T) : DE X (.BoolOp op [e] pos) T := pe_one h
theorem de_and (ha : DE X a Ta) (hb : DE X (.BoolOp .And (b :: rest) pos) Tb) : DE X (.BoolOp .And (a :: b :: rest) pos) (dAndV Ta Tb) := PE.weak (pe_and ha hb) fun σ H Q ⟨bb, f, ρ, R, S, t, q⟩ =>
  ⟨bb, f, ρ, _, S, t, fun d ρ' v f' H' ⟨c, e, r⟩ S' n dp => by
    subst e
    cases dp
    refine ⟨c, rfl, ?_⟩
    cases c with
    | true => exact ⟨bb, f', ρ', R, S', r, fun c2 ρ2 w f2 H2 r2 S2 n2 => q c2 ρ2 w f2 H2 r2 S2 (n.trans S.pots n2)⟩
    | false => exact q _ ρ' _ f' H' r S' n (.bl _)⟩
theorem de_or (ha : DE X a Ta) (hb : DE X (.BoolOp .Or (b :: rest) pos) Tb) : DE X (.BoolOp .Or (a :: b :: rest) pos) (dOrV Ta Tb) := PE.weak (pe_or ha hb) fun σ H Q ⟨bb, f, ρ, R, S, t, q⟩ =>
  ⟨bb, f, ρ, _, S, t, fun d ρ' v f' H' ⟨c, e, r⟩ S' n dp => by
    subst e
    cases dp
    refine ⟨c, rfl, ?_⟩
    cases c with
    | false => exact ⟨bb, f', ρ', R, S', r, fun c2 ρ2 w f2 H2 r2 S2 n2 => q c2 ρ2 w f2 H2 r2 S2 (n.trans S.pots n2)⟩
    | true => exact q _ ρ' _ f' H' r S' n (.bl _)⟩
/-- a if c else b -/
def dIf (C : TDT) (T U : TD) : TD := fun ρ R => C ρ fun c ρ' => if c = true then T ρ' R else U ρ' R
theorem de_if (hc : DT X c Tc) (ha : DE X a Ta) (hb : DE X b Tb) : DE X (.IfExp c a b pos) (dIf Tc Ta Tb) := PE.weak (pe_ifExp hc ha hb) fun σ H Q ⟨bb, f, ρ, R, S, t, q⟩ =>
  ⟨bb, f, ρ, _, S, t, fun c ρ' f' H' r S' n => by
    cases c with
    | true => exact ⟨bb, f', ρ', R, S', r, fun c2 ρ2 w f2 H2 r2 S2 n2 => q c2 ρ2 w f2 H2 r2 S2 (n.trans S.pots n2)⟩
    | false => exact ⟨bb, f', ρ', R, S', r, fun c2 ρ2 w f2 H2 r2 S2 n2 => q c2 ρ2 w f2 H2 r2 S2 (n.trans S.pots n2)⟩⟩

/-! ### slices -/
abbrev TDO := DS → (Option Int → DS → Prop) → Prop
def cutD (xs : List D) (lo hi : Option Int) : List D := (xs.drop (HT.sIx xs.length 0 lo)).take (HT.sIx xs.length xs.length hi - HT.sIx xs.length 0 lo)
theorem dpa_cut {K : PySem.W.Frag} {H : Hp} {vs : List V} {ds : List D} (h : DpAll K H vs ds) (lo hi : Option Int) : DpAll K H (cutV vs lo hi) (cutD ds lo hi) := by
  unfold cutV cutD
  rw [dpa_len h]
  exact dpa_take _ (dpa_drop _ h)
def liftOp (K : PySem.W.Frag) (T : TDO) : TO := fun σ H Q => ∃ (b : BP K), ∃ f ρ R, Sim K b.1 f ρ σ H ∧ T ρ R ∧ ∀ o ρ' f' H', R o ρ' → Sim K b.1 f' ρ' σ H' → Nx f H f' H' → Q o H'
theorem PO.weak {X : Cx} {o : Option Expr} {t t' : TO} (h : PO X o t) (w : ∀ σ H Q, t' σ H Q → t σ H Q) : PO X o t' := ⟨fun pins s σ H Q I q => h.run pins s σ H Q I (w σ H Q q)⟩
abbrev DO (X : Cx) (o : Option Expr) (T : TDO) : Prop := PO X o (liftOp X.K T)
def oNone : TDO := fun ρ R => R none ρ
def oSome (T : TD) : TDO := fun ρ R => T ρ fun d ρ' => ∃ i, d = .int i ∧ R (some i) ρ'
theorem do_none : DO X none oNone := PO.weak po_none fun σ H Q ⟨b, f, ρ, R, S, t, q⟩ => q none ρ f H t S (Nx.refl f H)
theorem do_some (h : DE X e T) : DO X (some e) (oSome T) := PO.weak (po_some h) fun σ H Q ⟨b, f, ρ, R, S, t, q⟩ => ⟨b, f, ρ, _, S, t, fun d ρ' v f' H' ⟨i, e, r⟩ S' n dp => by
  subst e
  cases dp
  exact ⟨i, rfl, q _ ρ' f' H' r S' n⟩⟩
def rSlD (d : D) (lo hi : Option Int) (R : D → Prop) : Prop := (∃ ds, d = .list ds ∧ R (.list (cutD ds lo hi))) ∨ (∃ ds, d = .tuple ds ∧ R (.tuple (cutD ds lo hi))) ∨ ∃ x, d = .str x ∧ x.length ≤ sizeLine ∧ R (.str (cutS x lo hi))
def dSl (T : TD) (L U : TDO) : TD := fun ρ R => T ρ fun d ρ1 => L ρ1 fun lo ρ2 => U ρ2 fun hi ρ3 => rSlD d lo hi fun z => R z ρ3
theorem cut_whole {ds : List D} {lo hi : Option Int} (h : HT.sIx ds.length 0 lo = 0 ∧ HT.sIx ds.length ds.length hi = ds.length) : cutD ds lo hi = ds := by
  unfold cutD
  rw [h.1, h.2]
  simp
theorem de_slice {lo hi : Option Expr} {L U : TDO} {p2 : Pos} (h : DB X e T) (hl : DO X lo L) (hu : DO X hi U) : DE X (.Subscript e (.Slice lo hi none p2) pos) (dSl T L U) :=
  PE.weak (pe_slice (SlR.or sl_list (SlR.or sl_tupF sl_str)) h hl hu) fun σ H Q ⟨b, f, ρ, R, S, t, q⟩ => ⟨b, f, ρ, _, S, t, fun d ρ1 v f1 H1 r1 S1 n1 bo => ⟨b, f1, ρ1, _, S1, r1, fun lo ρ2 f2 H2 r2 S2 n2 => ⟨b, f2, ρ2, _, S2, r2, fun hi ρ3 f3 H3 r3 S3 n3 => by
    have n : Nx f H f3 H3 := (n1.trans S.pots n2).trans S.pots n3
    have bo3 : Bo X.K f3 H3 v d := (bo.next n2).next n3
    rcases r3 with ⟨ds, rfl, r⟩ | ⟨ds, rfl, r⟩ | ⟨x, rfl, hz, r⟩
    · obtain ⟨p, vs, rfl, hl, dl⟩ := bo3.lst S3.fs
      refine .inl ⟨p, vs, rfl, hl, fun l hn => ?_⟩
      have g : Gr f3.F H3 (upd f3.F l (.lst (cutV vs lo hi))) (upd H3 l (.lst (cutV vs lo hi))) := Gr.new S3.fs hn lst_ntbl
      exact q _ ρ3 _ ⟨_, f3.P⟩ _ r (S3.grow g) (n.trans S.pots (Nx.of_gr g)) (.lst (.inl (.inl upd_same)) (dpa_cut (dpa_mono g.ff _ _ dl) lo hi))
    · obtain ⟨p, vs, rfl, hl, dl⟩ := bo3.tup S3.fs
      refine .inr (.inl ⟨p, vs, rfl, hl, fun hw => ?_, fun l o hn ho => ?_⟩)
      · rw [dpa_len dl] at hw
        rw [cut_whole hw] at r
        rcases bo3 with dp | ⟨p', _, c, _, e2, _⟩
        · exact q _ ρ3 _ f3 H3 r S3 n dp
        · cases c <;> cases e2
      · have g : Gr f3.F H3 (upd f3.F l (.frz o (.tup (cutV vs lo hi)))) (upd H3 l (.frz o (.tup (cutV vs lo hi)))) := Gr.new S3.fs hn tup_ntbl
        exact q _ ρ3 _ ⟨_, f3.P⟩ _ r (S3.grow g) (n.trans S.pots (Nx.of_gr g)) (.tup (.new upd_same ho) (dpa_cut (dpa_mono g.ff _ _ dl) lo hi))
    · refine .inr (.inr ⟨x, bo3.str, hz, ?_⟩)
      exact q _ ρ3 _ f3 H3 r S3 n (.str _)⟩⟩⟩
/-- xs[::-1] -/
def dRev (T : TD) : TD := fun ρ R => T ρ fun d ρ' => ∃ ds, d = .list ds ∧ R (.list ds.reverse) ρ'
theorem dpa_rev {K : PySem.W.Frag} {H : Hp} : ∀ {vs : List V} {ds : List D}, DpAll K H vs ds → DpAll K H vs.reverse ds.reverse
  | _, _, .nil => .nil
  | _, _, .cons a t => by
    rw [List.reverse_cons, List.reverse_cons]
    exact dpa_app (dpa_rev t) (.cons a .nil)
theorem de_rev {k : Nat} {p1 p2 p3 : Pos} (h : DB X e T) : DE X (.Subscript e (.Slice none none (some (.UnaryOp .USub (.Constant (.int 1) k p1) p2)) p3) pos) (dRev T) := PE.weak (pe_revL h) fun σ H Q ⟨b, f, ρ, R, S, t, q⟩ =>
  ⟨b, f, ρ, _, S, t, fun d ρ' v f' H' ⟨ds, e, r⟩ S' n bo => by
    subst e
    obtain ⟨p, vs, rfl, hl, dl⟩ := bo.lst S'.fs
    refine ⟨p, vs, rfl, hl, fun l hn => ?_⟩
    have g : Gr f'.F H' (upd f'.F l (.lst vs.reverse)) (upd H' l (.lst vs.reverse)) := Gr.new S'.fs hn lst_ntbl
    exact q _ ρ' _ ⟨_, f'.P⟩ _ r (S'.grow g) (n.trans S.pots (Nx.of_gr g)) (.lst (.inl (.inl upd_same)) (dpa_rev (dpa_mono g.ff _ _ dl)))⟩

/-! ### calls of built-ins -/
def liftC (K : PySem.W.Frag) (r : List D → (D → Prop) → Prop) : List V → Hp → VK → Prop := fun xs H Q => ∃ f ds R, Same f.F H ∧ BoAll K f H xs ds ∧ r ds R ∧ ∀ z v F' H', R z → Gr f.F H F' H' → Dp K F' v z → Q v H'
def dCall (r : List D → (D → Prop) → Prop) (T : TDA) : TD := fun ρ R => T ρ fun ds ρ' => r ds fun z => R z ρ'
theorem call_weak {r : List D → (D → Prop) → Prop} {K : PySem.W.Frag} : ∀ σ H Q, lift K (dCall r Tr) σ H Q → tCB (liftC K r) (liftBA K Tr) σ H Q := fun σ H Q ⟨b, f, ρ, R, S, t, q⟩ =>
  ⟨b, f, ρ, _, S, t, fun ds ρ' vs f' H' r S' n ba => ⟨f', ds, _, S'.fs, ba, r, fun z v F2 H2 rz g dp => q z ρ' v ⟨F2, f'.P⟩ H2 rz (S'.grow g) (n.trans S.pots (Nx.of_gr g)) dp⟩⟩
theorem de_callB {x : Str} {p : Pos} {id : String} {r : List D → (D → Prop) → Prop} (hc : CallR X (.builtin id) (liftC X.K r)) (hg : Gl X x) (hm : X.mg x = none) (hv : bootBuiltins x = some (.builtin id)) (ha : DBA X (e :: es) Tr)
    (h : ∀ (r' : List V → Hp → VK → Prop) (t' : TA), CallR X (.builtin id) r' → PA X (e :: es) t' → PE X (.Call (.Name x p) (e :: es) [] pos) (tCB r' t')) : DE X (.Call (.Name x p) (e :: es) [] pos) (dCall r Tr) := PE.weak (h _ _ hc ha) call_weak
theorem de_callTy {x : Str} {p : Pos} {id : String} {r : List D → (D → Prop) → Prop} (hc : CallR X (.type id) (liftC X.K r)) (ha : DBA X (e :: es) Tr)
    (h : ∀ (r' : List V → Hp → VK → Prop) (t' : TA), CallR X (.type id) r' → PA X (e :: es) t' → PE X (.Call (.Name x p) (e :: es) [] pos) (tCB r' t')) : DE X (.Call (.Name x p) (e :: es) [] pos) (dCall r Tr) := PE.weak (h _ _ hc ha) call_weak
theorem flatC {K : PySem.W.Frag} {f : Fz} {H : Hp} {R : D → Prop} {Q : VK} {z : D} {v : V} (fs : Same f.F H) (q : ∀ z v F' H', R z → Gr f.F H F' H' → Dp K F' v z → Q v H') (r : R z) (dp : Dp K f.F v z) : Q v H := q z v f.F H r (Gr.refl fs) dp
theorem BoAll.one {K : PySem.W.Frag} {f : Fz} {H : Hp} {xs : List V} {d : D} (h : BoAll K f H xs [d]) : ∃ v, xs = [v] ∧ Bo K f H v d := by
  cases h with
  | cons a t => cases t; exact ⟨_, rfl, a⟩
theorem BoAll.two {K : PySem.W.Frag} {f : Fz} {H : Hp} {xs : List V} {d d' : D} (h : BoAll K f H xs [d, d']) : ∃ v v', xs = [v, v'] ∧ Bo K f H v d ∧ Bo K f H v' d' := by
  cases h with
  | cons a t => cases t with
    | cons a' t => cases t; exact ⟨_, _, rfl, a, a'⟩
def cLen : List D → (D → Prop) → Prop := fun ds R => ∃ d, ds = [d] ∧ ((∃ l, seqD d = some l ∧ R (.int l.length)) ∨ ∃ x, d = .str x ∧ x.length ≤ sizeLine ∧ R (.int x.length))
theorem cd_len : CallR X (.builtin "len") (liftC X.K cLen) := CallR.weak (CallR.or call_len_seq call_len_str) fun xs H Q q => by
  obtain ⟨f, ds, R, fs, ba, ⟨d, rfl, r⟩, q⟩ := q
  obtain ⟨v, rfl, bo⟩ := ba.one
  rcases r with ⟨l, h0, r⟩ | ⟨x, rfl, hz, r⟩
  · rcases seqD_cases h0 with rfl | rfl
    · obtain ⟨p, vs, rfl, hl, dl⟩ := bo.lst fs
      refine .inl ⟨p, vs, rfl, .inl hl, ?_⟩
      rw [dpa_len dl]
      exact flatC fs q r (.int _)
    · obtain ⟨p, vs, rfl, hl, dl⟩ := bo.tup fs
      refine .inl ⟨p, vs, rfl, .inr hl, ?_⟩
      rw [dpa_len dl]
      exact flatC fs q r (.int _)
  · exact .inr ⟨x, by rw [bo.str], hz, flatC fs q r (.int _)⟩
def cAbs : List D → (D → Prop) → Prop := fun ds R => ∃ i, ds = [.int i] ∧ R (.int (if i < 0 then -i else i))
theorem cd_abs : CallR X (.builtin "abs") (liftC X.K cAbs) := CallR.weak call_abs fun xs H Q q => by
  obtain ⟨f, ds, R, fs, ba, ⟨i, rfl, r⟩, q⟩ := q
  obtain ⟨v, rfl, bo⟩ := ba.one
  exact ⟨i, by rw [bo.int], flatC fs q r (.int _)⟩
def cMax2 : List D → (D → Prop) → Prop := fun ds R => ∃ i j, ds = [.int i, .int j] ∧ R (.int (if j > i then j else i))
def cMin2 : List D → (D → Prop) → Prop := fun ds R => ∃ i j, ds = [.int i, .int j] ∧ R (.int (if j < i then j else i))
theorem cd_max2 (hc : X.calm = true) : CallR X (.builtin "max") (liftC X.K cMax2) := CallR.weak (call_max2 hc) fun xs H Q q => by
  obtain ⟨f, ds, R, fs, ba, ⟨i, j, rfl, r⟩, q⟩ := q
  obtain ⟨v, v', rfl, b1, b2⟩ := ba.two
  exact ⟨i, j, by rw [b1.int, b2.int], flatC fs q r (.int _)⟩
theorem cd_min2 (hc : X.calm = true) : CallR X (.builtin "min") (liftC X.K cMin2) := CallR.weak (call_min2 hc) fun xs H Q q => by
  obtain ⟨f, ds, R, fs, ba, ⟨i, j, rfl, r⟩, q⟩ := q
  obtain ⟨v, v', rfl, b1, b2⟩ := ba.two
  exact ⟨i, j, by rw [b1.int, b2.int], flatC fs q r (.int _)⟩
def cInt : List D → (D → Prop) → Prop := fun ds R => ∃ i, (ds = [.int i] ∧ R (.int i)) ∨ ∃ k, ds = [.bool k] ∧ R (.int (if k then 1 else 0))
theorem cd_int : CallR X (.type "int") (liftC X.K cInt) := CallR.weak call_int1 fun xs H Q q => by
  obtain ⟨f, ds, R, fs, ba, ⟨i, r⟩, q⟩ := q
  rcases r with ⟨rfl, r⟩ | ⟨k, rfl, r⟩
  · obtain ⟨v, rfl, bo⟩ := ba.one
    exact .inl ⟨i, by rw [bo.int], flatC fs q r (.int _)⟩
  · obtain ⟨v, rfl, bo⟩ := ba.one
    exact .inr ⟨k, by rw [bo.bl], flatC fs q r (.int _)⟩
/-- tuple(x), list(x) of a list or a tuple -/
def cTuple : List D → (D → Prop) → Prop := fun ds R => ∃ d l, ds = [d] ∧ seqD d = some l ∧ R (.tuple l)
theorem cd_tuple : CallR X (.type "tuple") (liftC X.K cTuple) := CallR.weak call_tupleF fun xs H Q q => by
  obtain ⟨f, ds, R, fs, ba, ⟨d, l, rfl, h0, r⟩, q⟩ := q
  obtain ⟨v, rfl, bo⟩ := ba.one
  rcases seqD_cases h0 with rfl | rfl
  · obtain ⟨p, vs, rfl, hl, dl⟩ := bo.lst fs
    refine ⟨p, vs, rfl, .inl ⟨hl, fun l o hn ho => ?_⟩⟩
    have g : Gr f.F H (upd f.F l (.frz o (.tup vs))) (upd H l (.frz o (.tup vs))) := Gr.new fs hn tup_ntbl
    exact q _ _ _ _ r g (.tup (.new upd_same ho) (dpa_mono g.ff _ _ dl))
  · obtain ⟨p, vs, rfl, hl, dl⟩ := bo.tup fs
    exact ⟨p, vs, rfl, .inr ⟨hl, flatT fs q r bo⟩⟩
def dListOf (T : TDA) : TDA := fun ρ R => T ρ fun ds ρ' => ∃ d l, ds = [d] ∧ seqD d = some l ∧ R l ρ'
theorem dl_list {x : Str} {p : Pos} (ha : DBA X (e :: es) Tr)
    (h : ∀ (r' : List V → Hp → VK → Prop) (t' : TA), CallR X (.type "list") r' → PA X (e :: es) t' → PE X (.Call (.Name x p) (e :: es) [] pos) (tCB r' t')) : DLs X (.Call (.Name x p) (e :: es) [] pos) (dListOf Tr) :=
  PE.weak (h _ _ call_list_of ha) fun σ H Q ⟨b, f, ρ, R, S, t, q⟩ => ⟨b, f, ρ, _, S, t, fun ds ρ' vs f' H' r S' n ba => by
    obtain ⟨d, l, rfl, h0, r⟩ := r
    obtain ⟨v, rfl, bo⟩ := ba.one
    obtain ⟨p, ws, rfl, hs, dl⟩ : ∃ p ws, v = .ref p ∧ (SqL X.K H' p ws ∨ SqT X.K H' p ws) ∧ DpAll X.K f'.F ws l := by
      rcases seqD_cases h0 with rfl | rfl
      · obtain ⟨p, vs, rfl, hl, dl⟩ := bo.lst S'.fs
        exact ⟨p, vs, rfl, .inl hl, dl⟩
      · obtain ⟨p, vs, rfl, hl, dl⟩ := bo.tup S'.fs
        exact ⟨p, vs, rfl, .inr hl, dl⟩
    refine ⟨p, ws, rfl, hs, fun a hn => ?_⟩
    obtain ⟨S2, O, n2⟩ := Own.new S' hn dl
    exact q l ρ' a f' _ r S2 (n.trans S.pots n2) O⟩
/-- all, any of a list of bools -/
def boolsD (l : List D) : Option (List Bool) := l.mapM fun d => match d with | .bool b => some b | _ => none
theorem bools_v {K : PySem.W.Frag} {H : Hp} : ∀ {vs : List V} {bs : List Bool}, DpAll K H vs (bs.map PyData.bool) → vs = bs.map V.bl
  | _, [], .nil => rfl
  | _, b :: bs, .cons a t => by
    cases a
    rw [bools_v t]
    rfl
def cAll : List D → (D → Prop) → Prop := fun ds R => ∃ bs : List Bool, ds = [.list (bs.map PyData.bool)] ∧ R (.bool (bs.all id))
def cAny : List D → (D → Prop) → Prop := fun ds R => ∃ bs : List Bool, ds = [.list (bs.map PyData.bool)] ∧ R (.bool (bs.any id))
theorem cd_all (hc : X.calm = true) : CallR X (.builtin "all") (liftC X.K cAll) := CallR.weak (cr_all hc) fun xs H Q q => by
  obtain ⟨f, ds, R, fs, ba, ⟨bs, rfl, r⟩, q⟩ := q
  obtain ⟨v, rfl, bo⟩ := ba.one
  obtain ⟨p, vs, rfl, hl, dl⟩ := bo.lst fs
  rw [bools_v dl] at hl
  exact ⟨p, bs, rfl, hl, flatC fs q r (.bl _)⟩
theorem cd_any (hc : X.calm = true) : CallR X (.builtin "any") (liftC X.K cAny) := CallR.weak (cr_any hc) fun xs H Q q => by
  obtain ⟨f, ds, R, fs, ba, ⟨bs, rfl, r⟩, q⟩ := q
  obtain ⟨v, rfl, bo⟩ := ba.one
  obtain ⟨p, vs, rfl, hl, dl⟩ := bo.lst fs
  rw [bools_v dl] at hl
  exact ⟨p, bs, rfl, hl, flatC fs q r (.bl _)⟩
/-! ### isinstance of built-in types -/
def tyD : D → String
  | .none => "NoneType"
  | .bool _ => "bool"
  | .int _ => "int"
  | .str _ => "str"
  | .list _ => "list"
  | .tuple _ => "tuple"
  | .dict _ => "dict"
theorem tyx_of {K : PySem.W.Frag} {H : Hp} {v : V} {d : D} (h : Dp K H v d) : TyX K H v (.type (tyD d)) := by
  cases h with
  | non => exact .base .non
  | bl b => exact .base (.bl b)
  | int i => exact .base (.int i)
  | str x => exact .base (.str x)
  | lst hs _ =>
    rcases hs with (h | ⟨o, h⟩) | ⟨o, its, n, hk, hc, _⟩
    · exact .base (.lst h)
    · exact .base (.frz h)
    · exact .kList hk hc
  | tup hs _ =>
    rcases hs.1 with (h | ⟨o, h⟩) | ⟨o, its, n, hk, hc, _⟩
    · exact .base (.tup h)
    · exact .fTuple h
    · exact .kTuple hk hc
  | dct hs _ =>
    rcases hs with h | ⟨o, h⟩
    · exact .base (.dK h)
    · exact .fDict h
end
end DL

namespace DL
open PySem PySem.Spec PyProof.Rows L2
variable [Tbs] [Bse]
section
variable {X : Cx} {e a b c : Expr} {es rest : List Expr} {T Ta Tb : TD} {Tr : TDA} {Tc Tp Tq : TDT} {pos : Pos}
/-! ### isinstance -/
def dIsi (n : String) (T : TD) : TD := fun ρ R => T ρ fun d ρ' => ∃ r, kitB (tyD d) n = some r ∧ R (.bool r) ρ'
theorem de_isi {n : String} (h : PE X e (tCB (rIsi X.K) (tCons (liftB X.K T) (tCons (tC (.ty n)) tNil)))) : DE X e (dIsi n T) := PE.weak h fun σ H Q ⟨b, f, ρ, R, S, t, q⟩ =>
  ⟨b, f, ρ, _, S, t, fun d ρ' v f' H' ⟨r, hk, hr⟩ S' n' bo => ⟨v, .ty n, _, _, r, rfl, .ty n, tyx_of (bo.dp S'.fs), kit_ty hk, q _ ρ' _ f' H' hr S' n' (.bl _)⟩⟩
def isStrD : D → Bool | .str _ => true | _ => false
def isIntD : D → Bool | .int _ => true | .bool _ => true | _ => false
def isBoolD : D → Bool | .bool _ => true | _ => false
def isTupD : D → Bool | .tuple _ => true | _ => false
def isLstD : D → Bool | .list _ => true | _ => false
def isDicD : D → Bool | .dict _ => true | _ => false
theorem kit_str (d : D) : kitB (tyD d) "str" = some (isStrD d) := by
  cases d with
  | none => exact (show kitB "NoneType" "str" = some false by decide +kernel)
  | bool _ => exact (show kitB "bool" "str" = some false by decide +kernel)
  | int _ => exact (show kitB "int" "str" = some false by decide +kernel)
  | str _ => exact (show kitB "str" "str" = some true by decide +kernel)
  | list _ => exact (show kitB "list" "str" = some false by decide +kernel)
  | tuple _ => exact (show kitB "tuple" "str" = some false by decide +kernel)
  | dict _ => exact (show kitB "dict" "str" = some false by decide +kernel)
theorem kit_int (d : D) : kitB (tyD d) "int" = some (isIntD d) := by
  cases d with
  | none => exact (show kitB "NoneType" "int" = some false by decide +kernel)
  | bool _ => exact (show kitB "bool" "int" = some true by decide +kernel)
  | int _ => exact (show kitB "int" "int" = some true by decide +kernel)
  | str _ => exact (show kitB "str" "int" = some false by decide +kernel)
  | list _ => exact (show kitB "list" "int" = some false by decide +kernel)
  | tuple _ => exact (show kitB "tuple" "int" = some false by decide +kernel)
  | dict _ => exact (show kitB "dict" "int" = some false by decide +kernel)
theorem kit_bool (d : D) : kitB (tyD d) "bool" = some (isBoolD d) := by
  cases d with
  | none => exact (show kitB "NoneType" "bool" = some false by decide +kernel)
  | bool _ => exact (show kitB "bool" "bool" = some true by decide +kernel)
  | int _ => exact (show kitB "int" "bool" = some false by decide +kernel)
  | str _ => exact (show kitB "str" "bool" = some false by decide +kernel)
  | list _ => exact (show kitB "list" "bool" = some false by decide +kernel)
  | tuple _ => exact (show kitB "tuple" "bool" = some false by decide +kernel)
  | dict _ => exact (show kitB "dict" "bool" = some false by decide +kernel)
theorem kit_tuple (d : D) : kitB (tyD d) "tuple" = some (isTupD d) := by
  cases d with
  | none => exact (show kitB "NoneType" "tuple" = some false by decide +kernel)
  | bool _ => exact (show kitB "bool" "tuple" = some false by decide +kernel)
  | int _ => exact (show kitB "int" "tuple" = some false by decide +kernel)
  | str _ => exact (show kitB "str" "tuple" = some false by decide +kernel)
  | list _ => exact (show kitB "list" "tuple" = some false by decide +kernel)
  | tuple _ => exact (show kitB "tuple" "tuple" = some true by decide +kernel)
  | dict _ => exact (show kitB "dict" "tuple" = some false by decide +kernel)
theorem kit_list (d : D) : kitB (tyD d) "list" = some (isLstD d) := by
  cases d with
  | none => exact (show kitB "NoneType" "list" = some false by decide +kernel)
  | bool _ => exact (show kitB "bool" "list" = some false by decide +kernel)
  | int _ => exact (show kitB "int" "list" = some false by decide +kernel)
  | str _ => exact (show kitB "str" "list" = some false by decide +kernel)
  | list _ => exact (show kitB "list" "list" = some true by decide +kernel)
  | tuple _ => exact (show kitB "tuple" "list" = some false by decide +kernel)
  | dict _ => exact (show kitB "dict" "list" = some false by decide +kernel)
theorem kit_dict (d : D) : kitB (tyD d) "dict" = some (isDicD d) := by
  cases d with
  | none => exact (show kitB "NoneType" "dict" = some false by decide +kernel)
  | bool _ => exact (show kitB "bool" "dict" = some false by decide +kernel)
  | int _ => exact (show kitB "int" "dict" = some false by decide +kernel)
  | str _ => exact (show kitB "str" "dict" = some false by decide +kernel)
  | list _ => exact (show kitB "list" "dict" = some false by decide +kernel)
  | tuple _ => exact (show kitB "tuple" "dict" = some false by decide +kernel)
  | dict _ => exact (show kitB "dict" "dict" = some true by decide +kernel)
/-! ### calls of own defs -/
abbrev Con := List D → (D → Prop) → Prop
def spD (K : PySem.W.Frag) (c : Con) : Sp := fun vs H Q _ => ∃ F ds R, Tf F H ∧ Same F H ∧ DpAll K F vs ds ∧ c ds R ∧ ∀ d v F' H', R d → Gr F H F' H' → Dp K F' v d → Q v H'
/-- all but the pot stands -/
structure GrP (p : Addr) (F H F' H' : Hp) : Prop where
  hh : ∀ a o, a ≠ p → H a = some o → H' a = some o ∨ ∃ ps ps', o = .tbl ps ∧ H' a = some (.tbl ps')
  pt : PotAt H' p
  ff : Same F F'
  fh : Same F' H'
  nw : ∀ a o, F' a = some o → (∃ o', F a = some o') ∨ H a = none
  tb : Tf F H → Tf F' H'
def spP (K : PySem.W.Frag) (c : Con) : Sp := fun vs H Q _ => ∃ p vs' F ds R, vs = .ref p :: vs' ∧ Tf F H ∧ F p = none ∧ PotAt H p ∧ Same F H ∧ DpAll K F vs' ds ∧ c ds R ∧ ∀ d v F' H', R d → GrP p F H F' H' → Dp K F' v d → Q v H'
theorem GrP.l {p a : Addr} {F H F' H' : Hp} {xs : List V} (g : GrP p F H F' H') (n : a ≠ p) (e : H a = some (.lst xs)) : H' a = some (.lst xs) := by
  rcases g.hh a _ n e with r | ⟨_, _, z, _⟩
  · exact r
  · cases z
theorem GrP.kc {p a : Addr} {F H F' H' : Hp} {o : HO} (g : GrP p F H F' H') (n : a ≠ p) (e : H a = some o) (h : Held o) : H' a = some o := by
  rcases g.hh a _ n e with r | ⟨_, _, z, _⟩
  · exact r
  · exact absurd z (h.ntbl _)
theorem Sim.growP {K : PySem.W.Frag} {b : Bs} {f : Fz} {ρ : DS} {σ : L2.St} {H F' H' : Hp} {p : Addr} (S : Sim K b f ρ σ H) (hp : p ∈ f.P) (g : GrP p f.F H F' H') : Sim K b ⟨F', f.P⟩ ρ σ H' := by
  obtain ⟨p1, p2, a0, c0, p3, _⟩ := S.pt p hp
  have nf : ∀ q o, H q = some o → f.F q = none → F' q = none := fun q o e1 e2 => by
    cases r : F' q with
    | none => rfl
    | some u =>
      rcases g.nw q u r with ⟨o', e'⟩ | e'
      · rw [e2] at e'; cases e'
      · rw [e1] at e'; cases e'
  refine ⟨S.len, fun q o e => ?_, g.fh, S.f0.trans g.ff, fun q o e => ?_, S.p0, fun q hq => ?_, fun i s e => ?_, S.sep, g.tb S.tb⟩
  · have nz : q ≠ p := fun z => by rw [z, p2] at e; cases e
    rcases S.bs q o e with r | ⟨ps, ps', rfl, r⟩
    · exact g.hh q o nz r
    · rcases g.hh q _ nz r with r2 | ⟨_, qs, _, r2⟩
      · exact .inr ⟨ps, ps', rfl, r2⟩
      · exact .inr ⟨ps, qs, rfl, r2⟩
  · rcases g.nw q o e with ⟨o', e'⟩ | e'
    · exact S.fr q o' e'
    · exact .inr (S.bs.free e')
  · obtain ⟨q1, q2, a, c, q3, q4⟩ := S.pt q hq
    refine ⟨nf q _ q3 q1, q2, ?_⟩
    by_cases z : q = p
    · rw [z]; exact g.pt
    · exact ⟨a, c, g.l z q3, q4⟩
  · refine (S.sl i s e).keep g.ff (fun _ => Iff.rfl) fun q u _ _ h1 _ h3 h4 h5 => ⟨nf q _ h4 h1, g.kc (fun z => h3 (z ▸ hp)) h4 h5⟩
theorem Nx.of_grP {f : Fz} {H F' H' : Hp} {p : Addr} (hp : p ∈ f.P) (g : GrP p f.F H F' H') : Nx f H ⟨F', f.P⟩ H' := ⟨g.ff, fun a o e n => Stays.mk (g.hh a o (fun z => n (z ▸ hp)) e), fun _ e => e, fun _ e => .inl e⟩
def dFn (c : Con) (T : TDA) : TD := fun ρ R => T ρ fun ds ρ' => c ds fun d => R d ρ'
theorem de_fn {k : Con} {E : XK} (h : PE X e (tCall (spD X.K k) [] E (liftA X.K Tr))) : DE X e (dFn k Tr) := PE.weak h fun σ H Q ⟨b, f, ρ, R, S, t, q⟩ =>
  ⟨b, f, ρ, _, S, t, fun ds ρ' vs f' H' r S' n dps => ⟨f'.F, ds, _, S'.tb, S'.fs, by rw [List.append_nil]; exact dps, r, fun d v F2 H2 r2 g dp => q d ρ' v ⟨F2, f'.P⟩ H2 r2 (S'.grow g) (n.trans S.pots (Nx.of_gr g)) dp⟩⟩
/-- arguments: a pot, then data -/
abbrev TPt := DS → (DS → Prop) → Prop
def liftPA (K : PySem.W.Frag) (U : TPt) (T : TDA) : TA := fun σ H Q => ∃ (b : BP K), ∃ f ρ R, Sim K b.1 f ρ σ H ∧ (U ρ fun ρ1 => T ρ1 R) ∧
  ∀ ds ρ' p vs f' H', R ds ρ' → Sim K b.1 f' ρ' σ H' → Nx f H f' H' → p ∈ f'.P → DpAll K f'.F vs ds → Q (.ref p :: vs) H'
theorem dpa_cons {U : TPt} (ha : DPt X e U) (hr : DA X es Tr) (hs : starEach (e :: es) X.env = (false, eval e X.env) :: starEach es X.env := by rfl) : PA X (e :: es) (liftPA X.K U Tr) :=
  PA.weak (pa_cons ha hr hs) fun σ H Q ⟨b, f, ρ, R, S, t, q⟩ => ⟨b, f, ρ, _, S, t, fun ρ1 p f1 H1 r S1 n1 hp => ⟨b, f1, ρ1, _, S1, r, fun ds ρ2 vs f2 H2 r2 S2 n2 dps =>
    q ds ρ2 p vs f2 H2 r2 S2 (n1.trans S.pots n2) (n2.pp p hp) dps⟩⟩
def dFnP (U : TPt) (c : Con) (T : TDA) : TD := fun ρ R => U ρ fun ρ1 => T ρ1 fun ds ρ' => c ds fun d => R d ρ'
theorem de_fnP {k : Con} {E : XK} {U : TPt} (h : PE X e (tCall (spP X.K k) [] E (liftPA X.K U Tr))) : DE X e (dFnP U k Tr) := PE.weak h fun σ H Q ⟨b, f, ρ, R, S, t, q⟩ =>
  ⟨b, f, ρ, _, S, t, fun ds ρ' p vs f' H' r S' n hp dps => by
    obtain ⟨h1, _, h3⟩ := S'.pt p hp
    refine ⟨p, vs, f'.F, ds, _, by rw [List.append_nil], S'.tb, h1, h3, S'.fs, dps, r, fun d v F2 H2 r2 g dp => ?_⟩
    exact q d ρ' v ⟨F2, f'.P⟩ H2 r2 (S'.growP hp g) (n.trans S.pots (Nx.of_grP hp g)) dp⟩
/-- a call that makes a pot -/
def spNewP (K : PySem.W.Frag) (c : List D → Prop) : Sp := fun vs H Q _ => ∃ F ds, Same F H ∧ DpAll K F vs ds ∧ c ds ∧ ∀ p H', Same H H' → H p = none → PotAt H' p → Q (.ref p) H'
theorem Sim.newPot {K : PySem.W.Frag} {b : Bs} {f : Fz} {ρ : DS} {σ : L2.St} {H H' : Hp} {p : Addr} (S : Sim K b f ρ σ H) (hh : Same H H') (hp : H p = none) (pt : PotAt H' p) : Sim K b ⟨f.F, p :: f.P⟩ ρ σ H' ∧ Nx f H ⟨f.F, p :: f.P⟩ H' := by
  have np : p ∉ f.P := fun z => by
    obtain ⟨o, e⟩ := S.pots p z
    rw [hp] at e; cases e
  refine ⟨⟨S.len, S.bs.trans (.of hh), S.fs.trans hh, S.f0, S.fr, fun q hq => List.mem_cons_of_mem _ (S.p0 q hq), fun q hq => ?_, fun i s e => ?_, S.sep, S.tb.ext hh⟩, Same.refl _, fun a o e _ => .inl (hh a o e), fun q hq => List.mem_cons_of_mem _ hq, fun q hq => ?_⟩
  · rcases List.mem_cons.mp hq with rfl | hq
    · exact ⟨S.fs.free hp, S.bs.free hp, pt⟩
    · obtain ⟨k1, k2, a, c, k3, k4⟩ := S.pt q hq
      exact ⟨k1, k2, a, c, hh _ _ k3, k4⟩
  · have base := S.sl i s e
    cases s with
    | no => exact True.intro
    | fz d => exact base
    | exc _ _ _ _ => exact base
    | obj c =>
      obtain ⟨q, vs, e1, h1, h2, h3, h4, h5⟩ := base
      refine ⟨q, vs, e1, h1, h2, fun z => ?_, hh _ _ h4, h5⟩
      rcases List.mem_cons.mp z with z | z
      · rw [z, hp] at h4; cases h4
      · exact h3 z
    | pot =>
      obtain ⟨q, e1, h1⟩ := base
      exact ⟨q, e1, List.mem_cons_of_mem _ h1⟩
  · rcases List.mem_cons.mp hq with rfl | hq
    · exact .inr hp
    · exact .inl hq
def pNew (c : List D → Prop) (T : TDA) : TPt := fun ρ R => T ρ fun ds ρ' => c ds ∧ R ρ'
theorem dp_new {k : List D → Prop} {E : XK} (h : PE X e (tCall (spNewP X.K k) [] E (liftA X.K Tr))) : DPt X e (pNew k Tr) := PE.weak h fun σ H Q ⟨b, f, ρ, R, S, t, q⟩ =>
  ⟨b, f, ρ, _, S, t, fun ds ρ' vs f' H' ⟨hc, r⟩ S' n dps => ⟨f'.F, ds, S'.fs, by rw [List.append_nil]; exact dps, hc, fun p H2 hh hp pt => by
    obtain ⟨S2, n2⟩ := S'.newPot hh hp pt
    exact q ρ' p _ H2 r S2 (n.trans S.pots n2) List.mem_cons_self⟩⟩

/-! ### statements -/
structure DEnds where
  nx : DS → Prop
  rt : D → DS → Prop
  bk : DS → Prop := fun _ => False
  ct : DS → Prop := fun _ => False
  rl : List D → DS → Prop := fun _ _ => False
abbrev TDS := DEnds → DS → Prop
structure Cont (K : PySem.W.Frag) (b : Bs) (E : DEnds) (D : Ends) : Prop where
  nx : ∀ ρ σ f H, E.nx ρ → Sim K b f ρ σ H → D.nx σ H
  rt : ∀ d ρ v σ f H, E.rt d ρ → Sim K b f ρ σ H → Dp K f.F v d → D.rt v H
  bk : ∀ ρ σ f H, E.bk ρ → Sim K b f ρ σ H → D.bk σ H
  ct : ∀ ρ σ f H, E.ct ρ → Sim K b f ρ σ H → D.ct σ H
  rl : ∀ ds ρ p σ f H, E.rl ds ρ → Sim K b f ρ σ H → Own K b f ρ σ H p ds → D.rt (.ref p) H
def liftS (K : PySem.W.Frag) (T : TDS) : TS := fun D σ H => ∃ (b : BP K), ∃ f ρ E, Sim K b.1 f ρ σ H ∧ T E ρ ∧ Cont K b.1 E D
abbrev DSt (X : Cx) (s : Stmt) (T : TDS) : Prop := PS X s (liftS X.K T)
abbrev DSs (X : Cx) (s : List Stmt) (T : TDS) : Prop := PSs X s (liftS X.K T)
variable {st : Stmt} {sts body orelse : List Stmt} {U V' W : TDS}
def sNil : TDS := fun E ρ => E.nx ρ
def sCons (U V : TDS) : TDS := fun E ρ => U { E with nx := V E } ρ
theorem ds_nil : DSs X [] sNil := PSs.weak pss_nil fun D σ H ⟨b, f, ρ, E, S, t, k⟩ => k.nx ρ σ f H t S
theorem ds_cons (h1 : DSt X st U) (h2 : DSs X sts V') : DSs X (st :: sts) (sCons U V') := PSs.weak (pss_cons h1 h2) fun D σ H ⟨b, f, ρ, E, S, t, k⟩ =>
  ⟨b, f, ρ, _, S, t, ⟨fun ρ' σ' f' H' u S' => ⟨b, f', ρ', E, S', u, k⟩, k.rt, k.bk, k.ct, k.rl⟩⟩
theorem ds_one (h1 : DSt X st U) : DSs X [st] U := pss_one h1
def sRet (T : TD) : TDS := fun E ρ => T ρ E.rt
theorem ds_ret (h : DE X e T) : DSt X (.Return (some e) pos) (sRet T) := PS.weak (ps_ret h) fun D σ H ⟨b, f, ρ, E, S, t, k⟩ => ⟨b, f, ρ, _, S, t, fun d ρ' v f' H' r S' n dp => k.rt d ρ' v σ f' H' r S' dp⟩
/-- return of a new list, still its own -/
def sRetL (T : TDA) : TDS := fun E ρ => T ρ E.rl
theorem ds_retL (h : DLs X e Tr) : DSt X (.Return (some e) pos) (sRetL Tr) := PS.weak (ps_ret h) fun D σ H ⟨b, f, ρ, E, S, t, k⟩ => ⟨b, f, ρ, _, S, t, fun ds ρ' p f' H' r S' n O => k.rl ds ρ' p σ f' H' r S' O⟩
/-- return of an own list by its name -/
def sRetO (i : Nat) : TDS := fun E ρ => ∃ ds, ρ[i]? = some (.own ds) ∧ E.rl ds (ρ.set i .no)
theorem ds_retO {i : Nat} (h : PE X e (tVar i)) : DSt X (.Return (some e) pos) (sRetO i) := PS.weak (ps_ret h) fun D σ H ⟨b, f, ρ, E, S, ⟨ds, hi, t⟩, k⟩ => by
  obtain ⟨p, vs, e1, h1, h2, h3, h4, h5⟩ := S.sl i _ hi
  have hil : i < ρ.length := (List.getElem?_eq_some_iff.mp hi).1
  have ne : ∀ (m : Nat) (u : Sl), (ρ.set i .no)[m]? = some u → u = .no ∨ (m ≠ i ∧ ρ[m]? = some u) := fun m u hm => by
    by_cases z : m = i
    · subst z
      rw [List.getElem?_set_self hil] at hm
      exact .inl (Option.some.inj hm).symm
    · rw [List.getElem?_set_ne (Ne.symm z)] at hm
      exact .inr ⟨z, hm⟩
  refine ⟨.ref p, e1, k.rl ds _ p σ f H t ⟨by rw [List.length_set]; exact S.len, S.bs, S.fs, S.f0, S.fr, S.p0, S.pt, fun j s q => ?_, fun j l s t' r hj hl hs ht g1 g2 => ?_, S.tb⟩ ⟨h1, h2, h3, fun j s q ho z => ?_, vs, h4, h5⟩⟩
  · rcases ne j s q with rfl | ⟨_, q⟩
    · exact True.intro
    · exact S.sl j s q
  · rcases ne j s hj with rfl | ⟨_, q1⟩
    · cases hs
    · rcases ne l t' hl with rfl | ⟨_, q2⟩
      · cases ht
      · exact S.sep j l s t' r q1 q2 hs ht g1 g2
  · rcases ne j s q with rfl | ⟨zz, q1⟩
    · cases ho
    · exact zz (S.sep j i s _ p q1 hi ho rfl z e1)
def sRetN : TDS := fun E ρ => E.rt .none ρ
theorem ds_retN : DSt X (.Return none pos) sRetN := PS.weak ps_retN fun D σ H ⟨b, f, ρ, E, S, t, k⟩ => k.rt _ ρ _ σ f H t S .non
def sIf (C : TDT) (U V : TDS) : TDS := fun E ρ => C ρ fun c ρ' => if c = true then U E ρ' else V E ρ'
theorem ds_if (hc : DT X c Tc) (ha : DSs X body U) (hb : DSs X orelse V') : DSt X (.If c body orelse pos) (sIf Tc U V') := PS.weak (ps_if hc ha hb) fun D σ H ⟨b, f, ρ, E, S, t, k⟩ =>
  ⟨b, f, ρ, _, S, t, fun c ρ' f' H' r S' n => by
    cases c with
    | true => exact ⟨b, f', ρ', E, S', r, k⟩
    | false => exact ⟨b, f', ρ', E, S', r, k⟩⟩
def sNever : TDS := fun _ _ => False
theorem ds_never : DSt X st sNever := PS.weak ps_never fun D σ H ⟨b, f, ρ, E, S, t, k⟩ => t
theorem dss_never : DSs X sts sNever := PSs.weak pss_never fun D σ H ⟨b, f, ρ, E, S, t, k⟩ => t

/-! ### stores -/
theorem Sim.set {K : PySem.W.Frag} {b : Bs} {f : Fz} {ρ : DS} {σ : L2.St} {H : Hp} {i : Nat} {s : Sl} {v : V} (S : Sim K b f ρ σ H) (h : SlOk K b f H s (some (some v)))
    (ho : isOwn s = true → ∀ (j : Nat) (t : Sl), ρ[j]? = some t → isOwn t = true → σ[j]? ≠ some (some v)) : Sim K b f (ρ.set i s) (σ.set i (some v)) H := by
  by_cases hi : i < ρ.length
  · have hi' : i < σ.length := by rw [← S.len]; exact hi
    refine ⟨by rw [List.length_set, List.length_set]; exact S.len, S.bs, S.fs, S.f0, S.fr, S.p0, S.pt, fun j t e => ?_, fun j k t u p hj hk ht hu e1 e2 => ?_, S.tb⟩
    · by_cases z : j = i
      · subst z
        rw [List.getElem?_set_self hi] at e
        have e' := Option.some.inj e
        subst e'
        rw [List.getElem?_set_self hi']
        exact h
      · rw [List.getElem?_set_ne (Ne.symm z)] at e
        rw [List.getElem?_set_ne (Ne.symm z)]
        exact S.sl j t e
    · by_cases zj : j = i
      · subst zj
        by_cases zk : k = j
        · exact zk.symm
        · rw [List.getElem?_set_self hi] at hj
          have e' := Option.some.inj hj
          subst e'
          rw [List.getElem?_set_ne (Ne.symm zk)] at hk e2
          rw [List.getElem?_set_self hi'] at e1
          have ev := Option.some.inj (Option.some.inj e1)
          subst ev
          exact absurd e2 (ho ht k u hk hu)
      · rw [List.getElem?_set_ne (Ne.symm zj)] at hj e1
        by_cases zk : k = i
        · subst zk
          rw [List.getElem?_set_self hi] at hk
          have e' := Option.some.inj hk
          subst e'
          rw [List.getElem?_set_self hi'] at e2
          have ev := Option.some.inj (Option.some.inj e2)
          subst ev
          exact absurd e1 (ho hu j t hj ht)
        · rw [List.getElem?_set_ne (Ne.symm zk)] at hk e2
          exact S.sep j k t u p hj hk ht hu e1 e2
  · have hi' : ¬ i < σ.length := by rw [← S.len]; exact hi
    rw [List.set_eq_of_length_le (by omega), List.set_eq_of_length_le (by omega)]
    exact S
theorem Sim.setFz {K : PySem.W.Frag} {b : Bs} {f : Fz} {ρ : DS} {σ : L2.St} {H : Hp} {i : Nat} {d : D} {v : V} (S : Sim K b f ρ σ H) (h : Dp K f.F v d) : Sim K b f (ρ.set i (.fz d)) (σ.set i (some v)) H := S.set ⟨v, rfl, h⟩ fun z => nomatch z
theorem Sim.setObj {K : PySem.W.Frag} {b : Bs} {f : Fz} {ρ : DS} {σ : L2.St} {H : Hp} {i : Nat} {c : Ct} {p : Addr} (S : Sim K b f ρ σ H) (O : OwnC K b f ρ σ H p c) : Sim K b f (ρ.set i (.obj c)) (σ.set i (some (.ref p))) H := by
  obtain ⟨u, h1, h2⟩ := O.at_
  exact S.set ⟨p, u, rfl, O.nf, O.nb, O.np, h1, h2⟩ fun _ j t hj ht => O.no j t hj ht
theorem Sim.setOwn {K : PySem.W.Frag} {b : Bs} {f : Fz} {ρ : DS} {σ : L2.St} {H : Hp} {i : Nat} {ds : List D} {p : Addr} (S : Sim K b f ρ σ H) (O : Own K b f ρ σ H p ds) : Sim K b f (ρ.set i (.own ds)) (σ.set i (some (.ref p))) H := S.setObj O
theorem Sim.setPot {K : PySem.W.Frag} {b : Bs} {f : Fz} {ρ : DS} {σ : L2.St} {H : Hp} {i : Nat} {p : Addr} (S : Sim K b f ρ σ H) (h : p ∈ f.P) : Sim K b f (ρ.set i .pot) (σ.set i (some (.ref p))) H := S.set ⟨p, rfl, h⟩ fun z => nomatch z
/-- name = e -/
def sSet (i : Nat) (T : TD) : TDS := fun E ρ => T ρ fun d ρ' => E.nx (ρ'.set i (.fz d))
def sSetL (i : Nat) (T : TDA) : TDS := fun E ρ => T ρ fun ds ρ' => E.nx (ρ'.set i (.own ds))
def sSetP (i : Nat) (T : TPt) : TDS := fun E ρ => T ρ fun ρ' => E.nx (ρ'.set i .pot)
theorem ds_set {i : Nat} (h : PS X st (tAsg (lift X.K T) (gName i))) : DSt X st (sSet i T) := PS.weak h fun D σ H ⟨b, f, ρ, E, S, t, k⟩ => ⟨b, f, ρ, _, S, t, fun d ρ' v f' H' r S' n dp => k.nx _ _ f' H' r (S'.setFz dp)⟩
theorem ds_setL {i : Nat} (h : PS X st (tAsg (liftL X.K Tr) (gName i))) : DSt X st (sSetL i Tr) := PS.weak h fun D σ H ⟨b, f, ρ, E, S, t, k⟩ => ⟨b, f, ρ, _, S, t, fun ds ρ' p f' H' r S' n O => k.nx _ _ f' H' r (S'.setOwn O)⟩
theorem ds_setP {i : Nat} {U : TPt} (h : PS X st (tAsg (liftP X.K U) (gName i))) : DSt X st (sSetP i U) := PS.weak h fun D σ H ⟨b, f, ρ, E, S, t, k⟩ => ⟨b, f, ρ, _, S, t, fun ρ' p f' H' r S' n hp => k.nx _ _ f' H' r (S'.setPot hp)⟩
/-- name = a new dict -/
def sSetK (i : Nat) (T : TDK) : TDS := fun E ρ => T ρ fun ds ρ' => E.nx (ρ'.set i (.dct ds))
theorem ds_setK {i : Nat} {Tk : TDK} (h : PS X st (tAsg (liftK X.K Tk) (gName i))) : DSt X st (sSetK i Tk) := PS.weak h fun D σ H ⟨b, f, ρ, E, S, t, k⟩ => ⟨b, f, ρ, _, S, t, fun ds ρ' p f' H' r S' n O => k.nx _ _ f' H' r (S'.setObj O)⟩
/-- an own object changed at its place -/
theorem Sim.obj {K : PySem.W.Frag} {b : Bs} {f : Fz} {ρ : DS} {σ : L2.St} {H : Hp} {i : Nat} {c c2 : Ct} {p : Addr} {w : HO} (S : Sim K b f ρ σ H) (hi : ρ[i]? = some (.obj c)) (hp : σ[i]? = some (some (.ref p)))
    (hw : CtV K f.F w c2) : Sim K b f (ρ.set i (.obj c2)) σ (upd H p w) := by
  obtain ⟨q, us, e1, h1, h2, h3, h4, h5⟩ := S.sl i _ hi
  have eq : q = p := by
    rw [hp] at e1
    exact (V.ref.inj (Option.some.inj (Option.some.inj e1))).symm
  subst eq
  have hil : i < ρ.length := (List.getElem?_eq_some_iff.mp hi).1
  have ne : ∀ (m : Nat) (u : Sl), (ρ.set i (.obj c2))[m]? = some u → ∃ u', ρ[m]? = some u' ∧ (isOwn u = true → isOwn u' = true) := fun m u hm => by
    by_cases z : m = i
    · subst z
      exact ⟨_, hi, fun _ => rfl⟩
    · rw [List.getElem?_set_ne (Ne.symm z)] at hm
      exact ⟨u, hm, fun z => z⟩
  refine ⟨by rw [List.length_set]; exact S.len, fun a o e => ?_, fun a o e => ?_, S.f0, S.fr, S.p0, fun a ha => ?_, fun j t e => ?_, fun j k t u r hj hk ht hu g1 g2 => ?_, S.tb.put (.inr ⟨_, h4, h5.held⟩)⟩
  · rw [upd_ne (fun z => by rw [z, h2] at e; cases e)]; exact S.bs a o e
  · rw [upd_ne (fun z => by rw [z, h1] at e; cases e)]; exact S.fs a o e
  · obtain ⟨k1, k2, x, y, k3, k4⟩ := S.pt a ha
    have na : a ≠ q := fun (z : a = q) => h3 (z ▸ ha)
    exact ⟨k1, k2, x, y, by rw [upd_ne na]; exact k3, k4⟩
  · by_cases z : j = i
    · subst z
      rw [List.getElem?_set_self hil] at e
      have e' := Option.some.inj e
      subst e'
      exact ⟨q, w, hp, h1, h2, h3, upd_same, hw⟩
    · rw [List.getElem?_set_ne (Ne.symm z)] at e
      refine (S.sl j t e).keep (f' := f) (Same.refl _) (fun _ => Iff.rfl) fun r u go g0 g1 g2 g3 g4 _ => ⟨g1, ?_⟩
      have nr : r ≠ q := fun (zz : r = q) => z (S.sep j i t _ q e hi go rfl (zz ▸ g0) hp)
      rw [upd_ne nr]
      exact g4
  · obtain ⟨t', a1, a2⟩ := ne j t hj
    obtain ⟨u', b1, b2⟩ := ne k u hk
    exact S.sep j k t' u' r a1 b1 (a2 ht) (b2 hu) g1 g2
theorem Sim.own {K : PySem.W.Frag} {b : Bs} {f : Fz} {ρ : DS} {σ : L2.St} {H : Hp} {i : Nat} {ds es : List D} {p : Addr} {ws : List V} (S : Sim K b f ρ σ H) (hi : ρ[i]? = some (.own ds)) (hp : σ[i]? = some (some (.ref p)))
    (hw : DpAll K f.F ws es) : Sim K b f (ρ.set i (.own es)) σ (upd H p (.lst ws)) := S.obj hi hp ⟨ws, rfl, hw⟩
/-- xs.append(e), xs an own list -/
def sApp (i : Nat) (T : TD) : TDS := fun E ρ => (∃ ds0, ρ[i]? = some (.own ds0)) ∧ T ρ fun d ρ' => ∃ ds, ρ'[i]? = some (.own ds) ∧ ds.length < sizeLine ∧ E.nx (ρ'.set i (.own (ds ++ [d])))
theorem ds_app {i : Nat} (h : PS X st (tDrop (tBM X.K "list" rAppend (tVar i) (tCons (lift X.K T) tNil)))) : DSt X st (sApp i T) := PS.weak h fun D σ H ⟨b, f, ρ, E, S, ⟨⟨ds0, h0⟩, t⟩, k⟩ => by
  obtain ⟨p, _, e0, _, _, _, h4, vs0, rfl, _⟩ := S.sl i _ h0
  refine ⟨.ref p, e0, .inl ⟨rfl, _, .inl (.inl h4)⟩, b, f, ρ, _, S, t, fun d ρ' v f' H' ⟨ds, hi, hz, r⟩ S' n dp => ?_⟩
  obtain ⟨q, _, e1, g1, g2, g3, g4, vs, rfl, g5⟩ := S'.sl i _ hi
  have eq : q = p := by
    rw [e0] at e1
    exact (V.ref.inj (Option.some.inj (Option.some.inj e1))).symm
  subst eq
  refine ⟨q, vs, v, rfl, rfl, g4, by rw [dpa_len g5]; exact hz, ?_⟩
  exact k.nx _ σ f' _ r (S'.own hi e1 (dpa_app g5 (.cons dp .nil)))
end
end DL

namespace DL
open PySem PySem.Spec PyProof.Rows L2
variable [Tbs] [Bse]
/-! ### targets -/
abbrev TDG := D → DS → (DS → Prop) → Prop
abbrev TDGs := List D → DS → (DS → Prop) → Prop
/-- what a target leaves: the slots that it does not name -/
structure Tgt (is : List Nat) (ρ ρ' : DS) (σ σ' : L2.St) : Prop where
  len : σ'.length = σ.length
  sg : ∀ j, j ∉ is → σ'[j]? = σ[j]?
  rh : ∀ j, j ∉ is → ρ'[j]? = ρ[j]?
theorem Tgt.refl (is : List Nat) (ρ : DS) (σ : L2.St) : Tgt is ρ ρ σ σ := ⟨rfl, fun _ _ => rfl, fun _ _ => rfl⟩
theorem Tgt.trans {is js : List Nat} {ρ ρ1 ρ2 : DS} {σ σ1 σ2 : L2.St} (a : Tgt is ρ ρ1 σ σ1) (c : Tgt js ρ1 ρ2 σ1 σ2) : Tgt (is ++ js) ρ ρ2 σ σ2 :=
  ⟨c.len.trans a.len, fun j h => (c.sg j fun z => h (List.mem_append_right _ z)).trans (a.sg j fun z => h (List.mem_append_left _ z)),
    fun j h => (c.rh j fun z => h (List.mem_append_right _ z)).trans (a.rh j fun z => h (List.mem_append_left _ z))⟩
/-- DR: how the value stands for its datum -/
abbrev DRel := Hp → V → D → Prop
def liftGR (DR : DRel) (K : PySem.W.Frag) (is : List Nat) (G : TDG) : TG := fun v σ H Q => ∃ (b : BP K), ∃ f ρ d R, Sim K b.1 f ρ σ H ∧ DR f.F v d ∧ G d ρ R ∧
  ∀ ρ' σ' f' H', R ρ' → Sim K b.1 f' ρ' σ' H' → Nx f H f' H' → Tgt is ρ ρ' σ σ' → Q σ' H'
abbrev liftG (K : PySem.W.Frag) (is : List Nat) (G : TDG) : TG := liftGR (Dp K) K is G
/-- as a datum, or a tuple of data of which no more is known -/
def Dw (K : PySem.W.Frag) : DRel := fun F v d => Dp K F v d ∨ ∃ p vs ds, v = .ref p ∧ d = .tuple ds ∧ SqT K F p vs ∧ DpAll K F vs ds
theorem Dw.tup {K : PySem.W.Frag} {F : Hp} {v : V} {ds : List D} (h : Dw K F v (.tuple ds)) : ∃ p vs, v = .ref p ∧ SqT K F p vs ∧ DpAll K F vs ds := by
  rcases h with h | ⟨p, vs, ds', e, e2, h1, h2⟩
  · cases h with
    | tup hs ha => exact ⟨_, _, rfl, hs.1, ha⟩
  · cases e2
    exact ⟨p, vs, e, h1, h2⟩
def liftGs (K : PySem.W.Frag) (is : List Nat) (G : TDGs) : TGs := fun vs σ H Q => ∃ (b : BP K), ∃ f ρ ds R, Sim K b.1 f ρ σ H ∧ DpAll K f.F vs ds ∧ G ds ρ R ∧
  ∀ ρ' σ' f' H', R ρ' → Sim K b.1 f' ρ' σ' H' → Nx f H f' H' → Tgt is ρ ρ' σ σ' → Q σ' H'
theorem PG.weak {X : Cx} {e : Expr} {t t' : TG} (h : PG X e t) (w : ∀ v σ H Q, t' v σ H Q → t v σ H Q) : PG X e t' := ⟨fun pins s σ H v u Q I r q => h.run pins s σ H v u Q I r (w v σ H Q q)⟩
theorem PGs.weak {X : Cx} {es : List Expr} {t t' : TGs} (h : PGs X es t) (w : ∀ v σ H Q, t' v σ H Q → t v σ H Q) : PGs X es t' := ⟨fun pins s σ H v u Q I r q => h.run pins s σ H v u Q I r (w v σ H Q q)⟩
abbrev DG (X : Cx) (e : Expr) (is : List Nat) (G : TDG) : Prop := PG X e (liftG X.K is G)
abbrev DGs (X : Cx) (es : List Expr) (is : List Nat) (G : TDGs) : Prop := PGs X es (liftGs X.K is G)
section
variable {X : Cx} {e a b c tg iter : Expr} {es rest ifs : List Expr} {T Ta Tb Te : TD} {Tr : TDA} {Tc Tp Tq Tt : TDT} {pos : Pos} {is js : List Nat} {G : TDG} {Gs : TDGs} {st : Stmt} {sts body orelse : List Stmt} {U V' W : TDS}
def gNm (i : Nat) : TDG := fun d ρ R => R (ρ.set i (.fz d))
theorem dg_name {i : Nat} (h : PG X e (gName i)) : DG X e [i] (gNm i) := PG.weak h fun v σ H Q ⟨b, f, ρ, d, R, S, dp, g, q⟩ => q _ _ f H g (S.setFz dp) (Nx.refl f H)
  ⟨List.length_set, fun j hj => List.getElem?_set_ne (fun z => hj (by rw [z]; exact List.mem_singleton.mpr rfl)), fun j hj => List.getElem?_set_ne (fun z => hj (by rw [z]; exact List.mem_singleton.mpr rfl))⟩
def gsNil : TDGs := fun ds ρ R => ds = [] ∧ R ρ
def gsCons (G : TDG) (Gs : TDGs) : TDGs := fun ds ρ R => ∃ d r, ds = d :: r ∧ G d ρ fun ρ' => Gs r ρ' R
theorem dgs_nil : DGs X [] [] gsNil := PGs.weak pgs_nil fun v σ H Q ⟨b, f, ρ, d, R, S, dp, ⟨e, g⟩, q⟩ => by
  subst e
  cases dp
  exact ⟨rfl, q ρ σ f H g S (Nx.refl f H) (Tgt.refl _ _ _)⟩
theorem dgs_cons (h1 : DG X e is G) (h2 : DGs X es js Gs) (hs : (assignEach (e :: es) X.env).map (·.2) = assign e X.env :: (assignEach es X.env).map (·.2) := by rfl) : DGs X (e :: es) (is ++ js) (gsCons G Gs) := PGs.weak (pgs_cons h1 h2 hs) fun v σ H Q ⟨b, f, ρ, d, R, S, dp, ⟨d1, r, e, g⟩, q⟩ => by
  subst e
  cases dp with
  | cons p1 p2 => exact ⟨_, _, rfl, b, f, ρ, d1, _, S, p1, g, fun ρ1 σ1 f1 H1 r1 S1 n1 t1 => ⟨b, f1, ρ1, r, R, S1, dpa_mono n1.ff _ _ p2, r1, fun ρ2 σ2 f2 H2 r2 S2 n2 t2 => q ρ2 σ2 f2 H2 r2 S2 (n1.trans S.pots n2) (t1.trans t2)⟩⟩
def gTp (n : Nat) (Gs : TDGs) : TDG := fun d ρ R => ∃ ds, d = .tuple ds ∧ ds.length = n ∧ Gs ds ρ R
theorem dg_tup {k n : Nat} (hc : X.calm = true) (h : DGs X es is Gs) (hn : (assignEach es X.env).length = n := by rfl) (hst : (assignEach es X.env).findIdx? (·.1) = none := by rfl) : DG X (.Tuple es k pos) is (gTp n Gs) :=
  PG.weak (pg_tup hc h hn hst) fun v σ H Q ⟨b, f, ρ, d, R, S, dp, ⟨ds, e, hl, g⟩, q⟩ => by
    subst e
    obtain ⟨p, vs, rfl, ht, dl⟩ := Bo.tup S.fs (.inl dp)
    exact ⟨p, vs, rfl, ht, by rw [dpa_len dl]; exact hl, b, f, ρ, ds, R, S, dl, g, q⟩
/-- a tuple of targets, for a tuple of which no more is known -/
theorem dgw_tup {k n : Nat} (hc : X.calm = true) (h : DGs X es is Gs) (hn : (assignEach es X.env).length = n := by rfl) (hst : (assignEach es X.env).findIdx? (·.1) = none := by rfl) : PG X (.Tuple es k pos) (liftGR (Dw X.K) X.K is (gTp n Gs)) :=
  PG.weak (pg_tup hc h hn hst) fun v σ H Q ⟨b, f, ρ, d, R, S, dp, ⟨ds, e, hl, g⟩, q⟩ => by
    subst e
    obtain ⟨p, vs, rfl, ht, dl⟩ := Dw.tup dp
    exact ⟨p, vs, rfl, same_tup S.fs ht, by rw [dpa_len dl]; exact hl, b, f, ρ, ds, R, S, dl, g, q⟩
/-- target = e -/
def sAsg (T : TD) (G : TDG) : TDS := fun E ρ => T ρ fun d ρ' => G d ρ' E.nx
theorem ds_asg (h : PS X st (tAsg (lift X.K T) (liftG X.K is G))) : DSt X st (sAsg T G) := PS.weak h fun D σ H ⟨b, f, ρ, E, S, t, k⟩ =>
  ⟨b, f, ρ, _, S, t, fun d ρ' v f' H' r S' n dp => ⟨b, f', ρ', d, E.nx, S', dp, r, fun ρ2 σ2 f2 H2 r2 S2 _ _ => k.nx ρ2 σ2 f2 H2 r2 S2⟩⟩
/-- a, b = x, y -/
def sPar (i j : Nat) (T : TDA) : TDS := fun E ρ => T ρ fun ds ρ' => ∃ d d', ds = [d, d'] ∧ E.nx ((ρ'.set i (.fz d)).set j (.fz d'))
theorem ds_par {i j : Nat} (h : PS X st (tPar i j (liftA X.K Tr))) : DSt X st (sPar i j Tr) := PS.weak h fun D σ H ⟨b, f, ρ, E, S, t, k⟩ =>
  ⟨b, f, ρ, _, S, t, fun ds ρ' vs f' H' ⟨d, d', e, r⟩ S' n dp => by
    subst e
    cases dp with
    | cons p1 p2 => cases p2 with
      | cons p2 p3 =>
        cases p3
        exact ⟨_, _, rfl, k.nx _ _ f' H' r ((S'.setFz p1).setFz p2)⟩⟩

/-! ### what is walked -/
/-- over frozen data; over data read at once -/
structure ItFR (DR : DRel) (K : PySem.W.Frag) (J : It) (f0 : Fz) (ds : List D) : Prop where
  go : ∀ (i : Nat) (f : Fz) (H : Hp), i < ds.length → Same f0.F f.F → Same f.F H → J.go i H
  stop : ∀ (f : Fz) (H : Hp), Same f0.F f.F → Same f.F H → J.stop ds.length H
  yld : ∀ (i : Nat) (f : Fz) (H : Hp) x H', i < ds.length → Same f0.F f.F → Same f.F H → J.yld i H x H' → ∃ d F', ds[i]? = some d ∧ Gr f.F H F' H' ∧ DR F' x d
structure ItDR (DR : DRel) (K : PySem.W.Frag) (J : It) (f0 : Fz) (H0 : Hp) (ds : List D) : Prop where
  go : ∀ (i : Nat) (f : Fz) (H : Hp), i < ds.length → Nx f0 H0 f H → Same f.F H → J.go i H
  stop : ∀ (f : Fz) (H : Hp), Nx f0 H0 f H → Same f.F H → J.stop ds.length H
  yld : ∀ (i : Nat) (f : Fz) (H : Hp) x H', i < ds.length → Nx f0 H0 f H → Same f.F H → J.yld i H x H' → ∃ d F', ds[i]? = some d ∧ Gr f.F H F' H' ∧ DR F' x d
abbrev ItF (K : PySem.W.Frag) (J : It) (f0 : Fz) (ds : List D) : Prop := ItFR (Dp K) K J f0 ds
abbrev ItD (K : PySem.W.Frag) (J : It) (f0 : Fz) (H0 : Hp) (ds : List D) : Prop := ItDR (Dp K) K J f0 H0 ds
theorem ItFR.itD {DR : DRel} {K : PySem.W.Frag} {J : It} {f0 : Fz} {H0 : Hp} {ds : List D} (h : ItFR DR K J f0 ds) : ItDR DR K J f0 H0 ds := ⟨fun i f H l n s => h.go i f H l n.ff s, fun f H n s => h.stop f H n.ff s, fun i f H x H' l n s y => h.yld i f H x H' l n.ff s y⟩
theorem ItFR.dw {K : PySem.W.Frag} {J : It} {f0 : Fz} {ds : List D} (h : ItF K J f0 ds) : ItFR (Dw K) K J f0 ds := ⟨h.go, h.stop, fun i f H x H' l n s y => by
  obtain ⟨d, F', e, g, dp⟩ := h.yld i f H x H' l n s y
  exact ⟨d, F', e, g, .inl dp⟩⟩
def liftIR (DR : DRel) (K : PySem.W.Frag) (T : TDA) : TI := fun σ H R => ∃ (b : BP K), ∃ f ρ R', Sim K b.1 f ρ σ H ∧ T ρ R' ∧ ∀ ds ρ' f' H' J, R' ds ρ' → Sim K b.1 f' ρ' σ H' → Nx f H f' H' → ItFR DR K J f' ds → R J H'
def liftIBR (DR : DRel) (K : PySem.W.Frag) (T : TDA) : TI := fun σ H R => ∃ (b : BP K), ∃ f ρ R', Sim K b.1 f ρ σ H ∧ T ρ R' ∧ ∀ ds ρ' f' H' J, R' ds ρ' → Sim K b.1 f' ρ' σ H' → Nx f H f' H' → ItDR DR K J f' H' ds → R J H'
abbrev liftI (K : PySem.W.Frag) (T : TDA) : TI := liftIR (Dp K) K T
abbrev liftIB (K : PySem.W.Frag) (T : TDA) : TI := liftIBR (Dp K) K T
abbrev DI (X : Cx) (tg e : Expr) (T : TDA) : Prop := PI X tg e (liftI X.K T)
abbrev DIB (X : Cx) (tg e : Expr) (T : TDA) : Prop := PI X tg e (liftIB X.K T)
abbrev DIw (X : Cx) (tg e : Expr) (T : TDA) : Prop := PI X tg e (liftIR (Dw X.K) X.K T)
abbrev DIBw (X : Cx) (tg e : Expr) (T : TDA) : Prop := PI X tg e (liftIBR (Dw X.K) X.K T)
theorem dibr_of {DR : DRel} (h : PI X tg e (liftIR DR X.K Tr)) : PI X tg e (liftIBR DR X.K Tr) := PI.weak h fun σ H R ⟨b, f, ρ, R', S, t, q⟩ => ⟨b, f, ρ, R', S, t, fun ds ρ' f' H' J r S' n i => q ds ρ' f' H' J r S' n i.itD⟩
theorem dib_of (h : DI X tg e Tr) : DIB X tg e Tr := PI.weak h fun σ H R ⟨b, f, ρ, R', S, t, q⟩ => ⟨b, f, ρ, R', S, t, fun ds ρ' f' H' J r S' n i => q ds ρ' f' H' J r S' n i.itD⟩
/-- signs of a text -/
def signs (x : Str) : List D := x.cps.toList.map fun c => .str ⟨#[c]⟩
def iterD : D → Option (List D)
  | .list ds => some ds
  | .tuple ds => some ds
  | .str x => some (signs x)
  | _ => none
def iSq (K : PySem.W.Frag) (tl : TE) : TI := fun σ H R => tl σ H fun x H1 => (∃ a, x = .ref a ∧ (∃ xs, SqL K H1 a xs) ∧ R (Itl K a) H1) ∨ (∃ a, x = .ref a ∧ (∃ xs, SqT K H1 a xs) ∧ R (Itt K a) H1) ∨ ∃ z, x = .str z ∧ R (Its z) H1
theorem pi_sq {l : Expr} {tl : TE} (hl : PE X l tl) : PI X tg l (iSq X.K tl) := by
  refine ⟨fun pins s σ H R I h => ?_⟩
  refine thn (hl.run pins s σ H _ I h) fun v s1 ⟨x, H1, I1, r1, q1⟩ => ?_
  rcases q1 with ⟨a, rfl, ⟨xs, hq⟩, q⟩ | ⟨a, rfl, ⟨xs, hq⟩, q⟩ | ⟨z, rfl, q⟩
  · cases r1
    obtain ⟨its, rv, p, hz⟩ := I1.list hq
    exact wpAny_pyIter_list p.isList (pi_one (tk := s1.toks) I1 _ (turn_list a _) ⟨_, Heap.get?_push_size _ rfl, rfl, rfl⟩ q)
  · cases r1
    obtain ⟨its, rv, p, hz⟩ := I1.tuple hq
    exact wpAny_pyIter_tuple (show s1.heap.IsTuple a its.toArray from p) (pi_one (tk := s1.toks) I1 _ (turn_tuple a _) ⟨_, Heap.get?_push_size _ rfl, rfl, rfl⟩ q)
  · obtain ⟨t, rfl⟩ := r1
    cases ha : z.cps.all (· < 128)
    · exact wpAny_pyIter_wide ha (pi_one (tk := s1.toks) I1 _ (turn_str _ z t "str_iterator" (.inr rfl)) ⟨_, Heap.get?_push_size _ rfl, rfl, rfl⟩ q)
    · exact wpAny_pyIter_ascii ha (pi_one (tk := s1.toks) I1 _ (turn_str _ z t "str_ascii_iterator" (.inl rfl)) ⟨_, Heap.get?_push_size _ rfl, rfl, rfl⟩ q)
theorem itf_list {K : PySem.W.Frag} {f : Fz} {a : Addr} {xs : List V} {ds : List D} (h : SqL K f.F a xs) (hd : DpAll K f.F xs ds) : ItF K (Itl K a) f ds where
  go := fun i f' H hi ff fs => by
    obtain ⟨x, hx⟩ : ∃ x, xs[i]? = some x := ⟨_, List.getElem?_eq_getElem (by rw [dpa_len hd]; exact hi)⟩
    exact ⟨xs, x, fs.seq (ff.seq h), hx⟩
  stop := fun f' H ff fs => ⟨xs, fs.seq (ff.seq h), Nat.le_of_eq (dpa_len hd)⟩
  yld := fun i f' H x H' hi ff fs y => by
    obtain ⟨rfl, y⟩ := y
    obtain ⟨d, e, dp⟩ := dpa_get hd (y xs (fs.seq (ff.seq h)))
    exact ⟨d, f'.F, e, Gr.refl fs, dp_mono ff d x dp⟩
theorem itf_tup {K : PySem.W.Frag} {f : Fz} {a : Addr} {xs : List V} {ds : List D} (h : SqT K f.F a xs) (hd : DpAll K f.F xs ds) : ItF K (Itt K a) f ds where
  go := fun i f' H hi ff fs => by
    obtain ⟨x, hx⟩ : ∃ x, xs[i]? = some x := ⟨_, List.getElem?_eq_getElem (by rw [dpa_len hd]; exact hi)⟩
    exact ⟨xs, x, same_tup fs (same_tup ff h), hx⟩
  stop := fun f' H ff fs => ⟨xs, same_tup fs (same_tup ff h), Nat.le_of_eq (dpa_len hd)⟩
  yld := fun i f' H x H' hi ff fs y => by
    obtain ⟨rfl, y⟩ := y
    obtain ⟨d, e, dp⟩ := dpa_get hd (y xs (same_tup fs (same_tup ff h)))
    exact ⟨d, f'.F, e, Gr.refl fs, dp_mono ff d x dp⟩
theorem signs_at (x : Str) (i : Nat) : (signs x)[i]? = (x.cps[i]?).map fun c => PyData.str ⟨#[c]⟩ := by
  unfold signs
  rw [List.getElem?_map, Array.getElem?_toList]
theorem itf_str {K : PySem.W.Frag} {f : Fz} {x : Str} : ItF K (Its x) f (signs x) where
  go := fun i f' H hi _ _ => by
    have e : (signs x).length = x.cps.size := by unfold signs; simp
    show i < x.cps.size
    omega
  stop := fun f' H _ _ => by
    have e : (signs x).length = x.cps.size := by unfold signs; simp
    show x.cps.size ≤ (signs x).length
    omega
  yld := fun i f' H v H' hi _ fs y => by
    obtain ⟨rfl, c, hc, rfl⟩ := y
    exact ⟨_, f'.F, by rw [signs_at, hc]; rfl, Gr.refl fs, .str _⟩
/-- over the items of a frozen datum -/
def iSeq (T : TD) : TDA := fun ρ R => T ρ fun d ρ' => ∃ ds, iterD d = some ds ∧ R ds ρ'
theorem di_seq (h : DE X e T) : DI X tg e (iSeq T) := PI.weak (pi_sq h) fun σ H R ⟨b, f, ρ, R', S, t, q⟩ => ⟨b, f, ρ, _, S, t, fun d ρ' v f' H' ⟨ds, hd, r⟩ S' n dp => by
  cases d with
  | list l =>
    have e' := Option.some.inj hd
    subst e'
    cases dp with
    | lst hs ha => exact .inl ⟨_, rfl, ⟨_, S'.fs.seq hs⟩, q _ ρ' f' H' _ r S' n (itf_list hs ha)⟩
  | tuple l =>
    have e' := Option.some.inj hd
    subst e'
    cases dp with
    | tup hs ha => exact .inr (.inl ⟨_, rfl, ⟨_, same_tup S'.fs hs.1⟩, q _ ρ' f' H' _ r S' n (itf_tup hs.1 ha)⟩)
  | str x =>
    have e' := Option.some.inj hd
    subst e'
    cases dp
    exact .inr (.inr ⟨x, rfl, q _ ρ' f' H' _ r S' n itf_str⟩)
  | none => cases hd
  | bool _ => cases hd
  | int _ => cases hd
  | dict _ => cases hd⟩
/-- over an own list as it stands, in a comprehension -/
theorem dib_own (h : DB X e T) : DIB X tg e (iSeq T) := PI.weak (pi_sq h) fun σ H R ⟨b, f, ρ, R', S, t, q⟩ => ⟨b, f, ρ, _, S, t, fun d ρ' v f' H' ⟨ds, hd, r⟩ S' n bo => by
  rcases bo with dp | ⟨p, u, c, rfl, rfl, g1, g2, g3⟩
  · cases d with
    | list l =>
      have e' := Option.some.inj hd
      subst e'
      cases dp with
      | lst hs ha => exact .inl ⟨_, rfl, ⟨_, S'.fs.seq hs⟩, q _ ρ' f' H' _ r S' n (itf_list hs ha).itD⟩
    | tuple l =>
      have e' := Option.some.inj hd
      subst e'
      cases dp with
      | tup hs ha => exact .inr (.inl ⟨_, rfl, ⟨_, same_tup S'.fs hs.1⟩, q _ ρ' f' H' _ r S' n (itf_tup hs.1 ha).itD⟩)
    | str x =>
      have e' := Option.some.inj hd
      subst e'
      cases dp
      exact .inr (.inr ⟨x, rfl, q _ ρ' f' H' _ r S' n itf_str.itD⟩)
    | none => cases hd
    | bool _ => cases hd
    | int _ => cases hd
    | dict _ => cases hd
  · cases c with
    | d _ => cases hd
    | l l =>
    have e' := Option.some.inj hd
    subst e'
    obtain ⟨vs, rfl, g3⟩ := g3
    refine .inl ⟨p, rfl, ⟨vs, .inl g2⟩, q _ ρ' f' H' _ r S' n ⟨fun i f2 H2 hi n2 fs => ?_, fun f2 H2 n2 fs => ?_, fun i f2 H2 x H3 hi n2 fs y => ?_⟩⟩
    · obtain ⟨x, hx⟩ : ∃ x, vs[i]? = some x := ⟨_, List.getElem?_eq_getElem (by rw [dpa_len g3]; exact hi)⟩
      exact ⟨vs, x, .inl (rd_next n2 g2 g1 True.intro), hx⟩
    · exact ⟨vs, .inl (rd_next n2 g2 g1 True.intro), Nat.le_of_eq (dpa_len g3)⟩
    · obtain ⟨rfl, y⟩ := y
      obtain ⟨d, e, dp⟩ := dpa_get g3 (y vs (.inl (rd_next n2 g2 g1 True.intro)))
      exact ⟨d, f2.F, e, Gr.refl fs, dp_mono n2.ff d x dp⟩⟩
/-- over range(n) -/
def intsTo (lo : Int) (n : Nat) : List D := (List.range n).map fun (i : Nat) => PyData.int (lo + i)
theorem intsTo_len (lo : Int) (n : Nat) : (intsTo lo n).length = n := by unfold intsTo; simp
theorem intsTo_at {lo : Int} {n i : Nat} (h : i < n) : (intsTo lo n)[i]? = some (.int (lo + i)) := by
  unfold intsTo
  rw [List.getElem?_map, List.getElem?_range h]
  rfl
theorem itf_range {K : PySem.W.Frag} {f : Fz} {lo : Int} {n : Nat} : ItF K (Itr lo n) f (intsTo lo n) where
  go := fun i f' H hi _ _ => by rw [intsTo_len] at hi; exact hi
  stop := fun f' H _ _ => by rw [intsTo_len]; exact Nat.le_refl n
  yld := fun i f' H v H' hi _ fs y => by
    obtain ⟨rfl, rfl⟩ := y
    rw [intsTo_len] at hi
    exact ⟨_, f'.F, intsTo_at hi, Gr.refl fs, .int _⟩
def iRg1 (T : TDA) : TDA := fun ρ R => T ρ fun ds ρ' => ∃ n : Int, ds = [.int n] ∧ -(2 ^ 62) ≤ n ∧ n < 2 ^ 62 ∧ R (intsTo 0 n.toNat) ρ'
theorem di_range1 (h : PI X tg e (iRng1 (liftBA X.K Tr))) : DI X tg e (iRg1 Tr) := PI.weak h fun σ H R ⟨b, f, ρ, R', S, t, q⟩ => ⟨b, f, ρ, _, S, t, fun ds ρ' vs f' H' ⟨n, e, h1, h2, r⟩ S' nn ba => by
  subst e
  obtain ⟨v, rfl, bo⟩ := ba.one
  exact ⟨n, by rw [bo.int], h1, h2, q _ ρ' f' H' _ r S' nn itf_range⟩⟩

/-! ### for -/
theorem Sim.rebase {K : PySem.W.Frag} {b : Bs} {f : Fz} {ρ : DS} {σ : L2.St} {H : Hp} (S : Sim K b f ρ σ H) : Sim K ⟨b.B, f.F, f.P⟩ f ρ σ H :=
  ⟨S.len, S.bs, S.fs, Same.refl _, fun a o e => .inl ⟨o, e⟩, fun _ h => h, S.pt, fun i s e => by
    have q := S.sl i s e
    cases s <;> exact q, S.sep, S.tb⟩
theorem Sim.unbase {K : PySem.W.Frag} {b : Bs} {f f1 : Fz} {ρ ρ1 : DS} {σ σ1 : L2.St} {H H1 : Hp} (S : Sim K b f ρ σ H) (S1 : Sim K ⟨b.B, f.F, f.P⟩ f1 ρ1 σ1 H1) : Sim K b f1 ρ1 σ1 H1 :=
  ⟨S1.len, S1.bs, S1.fs, S.f0.trans S1.f0, fun a o e => by
    rcases S1.fr a o e with ⟨o', e'⟩ | e'
    · exact S.fr a o' e'
    · exact .inr e', fun p h => S1.p0 p (S.p0 p h), S1.pt, fun i s e => by
    have q := S1.sl i s e
    cases s <;> exact q, S1.sep, S1.tb⟩
theorem Cont.rebase {K : PySem.W.Frag} {b : Bs} {f : Fz} {ρ : DS} {σ : L2.St} {H : Hp} {E : DEnds} {D : Ends} (S : Sim K b f ρ σ H) (k : Cont K b E D) : Cont K ⟨b.B, f.F, f.P⟩ E D :=
  ⟨fun ρ' σ' f' H' r S' => k.nx ρ' σ' f' H' r (S.unbase S'), fun d ρ' v σ' f' H' r S' dp => k.rt d ρ' v σ' f' H' r (S.unbase S') dp, fun ρ' σ' f' H' r S' => k.bk ρ' σ' f' H' r (S.unbase S'), fun ρ' σ' f' H' r S' => k.ct ρ' σ' f' H' r (S.unbase S'), fun ds ρ' p σ' f' H' r S' O => k.rl ds ρ' p σ' f' H' r (S.unbase S') ⟨O.nf, O.nb, O.np, O.no, O.at_⟩⟩
def sFor (T : TDA) (G : TDG) (U : TDS) : TDS := fun E ρ => T ρ fun ds ρ1 => ∃ W : Nat → DS → Prop, W 0 ρ1 ∧
  (∀ i d ρ', ds[i]? = some d → W i ρ' → G d ρ' fun ρ'' => U { E with nx := W (i + 1), ct := W (i + 1), bk := E.nx } ρ'') ∧ ∀ ρ', W ds.length ρ' → E.nx ρ'
theorem ds_for {DR : DRel} (h : PS X st (tFor (liftIR DR X.K Tr) (liftGR DR X.K is G) (liftS X.K U))) : DSt X st (sFor Tr G U) := PS.weak h fun D σ H ⟨b, f, ρ, E, S, t, k⟩ =>
  ⟨b, f, ρ, _, S, t, fun ds ρ1 f1 H1 J ⟨W, w0, turn, done⟩ S1 n1 J1 => by
    have k1 := k.rebase S1
    have lw : ExL X.K ⟨b.1.B, f1.F, f1.P⟩ := fun cls kvs ρ4 σ4 f4 H4 d4 xr S4 => b.2 cls kvs ρ4 σ4 f4 H4 d4 xr (S1.unbase S4)
    refine ⟨fun i m σ' H' => m = ds.length - i ∧ i ≤ ds.length ∧ ∃ f' ρ', Sim X.K ⟨b.1.B, f1.F, f1.P⟩ f' ρ' σ' H' ∧ W i ρ', ⟨ds.length, by simp, Nat.zero_le _, f1, ρ1, S1.rebase, w0⟩, ?_⟩
    rintro i m σ' H' ⟨rfl, hi, f', ρ', S', w⟩
    by_cases hlt : i < ds.length
    · refine .inr ⟨J1.go i f' H' hlt S'.f0 S'.fs, fun σ2 H2 => ∃ f2 ρ2, Sim X.K ⟨b.1.B, f1.F, f1.P⟩ f2 ρ2 σ2 H2 ∧ W (i + 1) ρ2, fun σ2 H2 ⟨f2, ρ2, S2, w2⟩ => ⟨ds.length - (i + 1), by omega, rfl, hlt, f2, ρ2, S2, w2⟩, fun x H2 y => ?_⟩
      obtain ⟨d, F2, e, g, dp⟩ := J1.yld i f' H' x H2 hlt S'.f0 S'.fs y
      refine ⟨⟨⟨b.1.B, f1.F, f1.P⟩, lw⟩, ⟨F2, f'.P⟩, ρ', d, _, S'.grow g, dp, turn i d ρ' e w, fun ρ3 σ3 f3 H3 r3 S3 _ _ => ⟨⟨⟨b.1.B, f1.F, f1.P⟩, lw⟩, f3, ρ3, _, S3, r3, ?_⟩⟩
      exact ⟨fun ρ4 σ4 f4 H4 r4 S4 => ⟨f4, ρ4, S4, r4⟩, k1.rt, fun ρ4 σ4 f4 H4 r4 S4 => k1.nx ρ4 σ4 f4 H4 r4 S4, fun ρ4 σ4 f4 H4 r4 S4 => ⟨f4, ρ4, S4, r4⟩, k1.rl⟩
    · have e : i = ds.length := by omega
      subst e
      exact .inl ⟨J1.stop f' H' S'.f0 S'.fs, k1.nx ρ' σ' f' H' (done ρ' w) S'⟩⟩
end
end DL

namespace DL
open PySem PySem.Spec PyProof.Rows L2
variable [Tbs] [Bse]
/-! ### list comprehensions -/
def wipeD (ρ : DS) : List Nat → DS
  | [] => ρ
  | v :: vs => (wipeD ρ vs).set v .no
theorem wipeD_ne {ρ : DS} : ∀ {vs : List Nat} {j : Nat}, j ∉ vs → (wipeD ρ vs)[j]? = ρ[j]?
  | [], _, _ => rfl
  | v :: vs, j, h => by
    unfold wipeD
    rw [List.getElem?_set_ne (fun z => h (by rw [z]; exact List.mem_cons_self))]
    exact wipeD_ne fun z => h (List.mem_cons_of_mem _ z)
theorem wipe_ne {σ : L2.St} : ∀ {vs : List Nat} {j : Nat}, j ∉ vs → (wipe σ vs)[j]? = σ[j]?
  | [], _, _ => rfl
  | v :: vs, j, h => by
    unfold wipe
    rw [List.getElem?_set_ne (fun z => h (by rw [z]; exact List.mem_cons_self))]
    exact wipe_ne fun z => h (List.mem_cons_of_mem _ z)
theorem wipe_in {σ : L2.St} : ∀ {vs : List Nat} {j : Nat}, j ∈ vs → j < σ.length → (wipe σ vs)[j]? = some none
  | v :: vs, j, h, hl => by
    unfold wipe
    by_cases z : j = v
    · subst z
      rw [List.getElem?_set_self (by rw [wipe_length]; exact hl)]
    · rw [List.getElem?_set_ne (Ne.symm z)]
      rcases List.mem_cons.mp h with h | h
      · exact absurd h z
      · exact wipe_in h hl
theorem wipe_eq {σ σ2 : L2.St} {vs is : List Nat} (hl : σ2.length = (wipe σ vs).length) (hs : ∀ j, j ∉ is → σ2[j]? = (wipe σ vs)[j]?) (hi : ∀ i ∈ is, i ∈ vs) : wipe σ2 vs = wipe σ vs := by
  rw [wipe_length] at hl
  apply List.ext_getElem?
  intro j
  by_cases h : j ∈ vs
  · by_cases k : j < σ.length
    · rw [wipe_in h (by rw [hl]; exact k), wipe_in h k]
    · rw [List.getElem?_eq_none (by rw [wipe_length, hl]; omega), List.getElem?_eq_none (by rw [wipe_length]; omega)]
  · rw [wipe_ne h, hs j fun z => h (hi j z)]
theorem Sim.wipe {K : PySem.W.Frag} {b : Bs} {f : Fz} {ρ : DS} {σ : L2.St} {H : Hp} (S : Sim K b f ρ σ H) (vs : List Nat) : Sim K b f (wipeD ρ vs) (wipe σ vs) H := by
  induction vs with
  | nil => exact S
  | cons v vs ih =>
    unfold wipeD L2.wipe
    have ne : ∀ (m : Nat) (u : Sl), ((wipeD ρ vs).set v .no)[m]? = some u → u = .no ∨ (m ≠ v ∧ (wipeD ρ vs)[m]? = some u) := fun m u hm => by
      by_cases z : m = v
      · subst z
        by_cases k : m < (wipeD ρ vs).length
        · rw [List.getElem?_set_self k] at hm
          exact .inl (Option.some.inj hm).symm
        · rw [List.getElem?_eq_none (by rw [List.length_set]; omega)] at hm
          cases hm
      · rw [List.getElem?_set_ne (Ne.symm z)] at hm
        exact .inr ⟨z, hm⟩
    refine ⟨by rw [List.length_set, List.length_set]; exact ih.len, ih.bs, ih.fs, ih.f0, ih.fr, ih.p0, ih.pt, fun i s e => ?_, fun i j s t p hi hj hs ht e1 e2 => ?_, ih.tb⟩
    · rcases ne i s e with rfl | ⟨z, e'⟩
      · exact True.intro
      · rw [List.getElem?_set_ne (Ne.symm z)]
        exact ih.sl i s e'
    · rcases ne i s hi with rfl | ⟨z1, h1⟩
      · cases hs
      · rcases ne j t hj with rfl | ⟨z2, h2⟩
        · cases ht
        · rw [List.getElem?_set_ne (Ne.symm z1)] at e1
          rw [List.getElem?_set_ne (Ne.symm z2)] at e2
          exact ih.sep i j s t p h1 h2 hs ht e1 e2
/-- a list in the making is held with what stands -/
theorem Sim.guard {K : PySem.W.Frag} {b : Bs} {f : Fz} {ρ : DS} {σ : L2.St} {H : Hp} {p : Addr} {o : HO} (S : Sim K b f ρ σ H) (hp : H p = some o) (hf : f.F p = none) (hP : p ∉ f.P)
    (hn : ∀ (i : Nat) (s : Sl), ρ[i]? = some s → isOwn s = true → σ[i]? ≠ some (some (V.ref p))) : Sim K ⟨upd b.B p o, b.F0, b.P0⟩ f ρ σ H := by
  refine ⟨S.len, fun a u e => ?_, S.fs, S.f0, fun a u e => ?_, S.p0, fun a ha => ?_, fun i s e => ?_, S.sep, S.tb⟩
  · by_cases z : a = p
    · subst z
      have e' : upd b.B a o a = some u := e
      rw [upd_same] at e'
      rw [hp]
      exact .inl e'
    · have e' : upd b.B p o a = some u := e
      rw [upd_ne z] at e'
      exact S.bs a u e'
  · rcases S.fr a u e with q | q
    · exact .inl q
    · refine .inr ?_
      have z : a ≠ p := fun z => by rw [z, hf] at e; cases e
      show upd b.B p o a = none
      rw [upd_ne z]
      exact q
  · obtain ⟨k1, k2, k3⟩ := S.pt a ha
    have z : a ≠ p := fun (z : a = p) => hP (z ▸ ha)
    exact ⟨k1, by show upd b.B p o a = none; rw [upd_ne z]; exact k2, k3⟩
  · have q := S.sl i s e
    cases s with
    | no => exact q
    | fz d => exact q
    | pot => exact q
    | exc _ _ _ _ => exact q
    | obj c =>
      obtain ⟨a, vs, e1, h1, h2, h3, h4, h5⟩ := q
      have z : a ≠ p := fun (z : a = p) => hn i _ e rfl (z ▸ e1)
      exact ⟨a, vs, e1, h1, by show upd b.B p o a = none; rw [upd_ne z]; exact h2, h3, h4, h5⟩
/-- what was held beside is forgotten -/
theorem Sim.loose {K : PySem.W.Frag} {b : Bs} {B' : Hp} {f : Fz} {ρ : DS} {σ : L2.St} {H : Hp} (S : Sim K ⟨B', b.F0, b.P0⟩ f ρ σ H) (hB : Same b.B B') : Sim K b f ρ σ H := by
  refine ⟨S.len, fun a o e => S.bs a o (hB a o e), S.fs, S.f0, fun a o e => ?_, S.p0, fun p hp => ?_, fun i s e => ?_, S.sep, S.tb⟩
  · rcases S.fr a o e with q | q
    · exact .inl q
    · exact .inr (hB.free q)
  · obtain ⟨k1, k2, k3⟩ := S.pt p hp
    exact ⟨k1, hB.free k2, k3⟩
  · have q := S.sl i s e
    cases s with
    | no => exact q
    | fz d => exact q
    | pot => exact q
    | exc _ _ _ _ => exact q
    | obj c =>
      obtain ⟨a, vs, e1, h1, h2, h3⟩ := q
      exact ⟨a, vs, e1, h1, hB.free h2, h3⟩
/-- back from a block -/
theorem Sim.back0 {K : PySem.W.Frag} {b : Bs} {B' : Hp} {f f2 : Fz} {ρ ρ2 : DS} {σ σ2 : L2.St} {H H2 : Hp} (S : Sim K b f ρ σ H) (S2 : Sim K ⟨B', b.F0, b.P0⟩ f2 ρ2 σ2 H2) (hB : Same b.B B') (ff : Same f.F f2.F) (pp : ∀ p, p ∈ f.P → p ∈ f2.P)
    (hk : ∀ (i : Nat) (c : Ct), ρ[i]? = some (.obj c) → ρ2[i]? = some (.obj c) ∧ σ2[i]? = σ[i]?) : Sim K b f2 ρ σ H2 := by
  refine ⟨S.len, fun a o e => S2.bs a o (hB a o e), S2.fs, S2.f0, fun a o e => ?_, S2.p0, fun p hp => ?_, fun i s e => ?_, S.sep, S2.tb⟩
  · rcases S2.fr a o e with q | q
    · exact .inl q
    · exact .inr (hB.free q)
  · obtain ⟨k1, k2, k3⟩ := S2.pt p hp
    exact ⟨k1, hB.free k2, k3⟩
  · have q := S.sl i s e
    cases s with
    | no => exact q
    | fz d => obtain ⟨v, e1, dp⟩ := q; exact ⟨v, e1, dp_mono ff d v dp⟩
    | pot => obtain ⟨p, e1, hp⟩ := q; exact ⟨p, e1, pp p hp⟩
    | exc a dd cls kvs => obtain ⟨e1, fs, h1, h2⟩ := q; exact ⟨e1, fs, ff _ _ h1, xdp_mono ff h2⟩
    | obj c =>
      obtain ⟨r1, r2⟩ := hk i c e
      obtain ⟨p', vs', e1', g1, g2, g3, g4, g5⟩ := S2.sl i _ r1
      exact ⟨p', vs', by rw [← r2]; exact e1', g1, hB.free g2, g3, g4, g5⟩
theorem Sim.back {K : PySem.W.Frag} {b : Bs} {B' : Hp} {f f2 : Fz} {ρ ρ2 : DS} {σ σ2 : L2.St} {H H2 : Hp} (S : Sim K b f ρ σ H) (S2 : Sim K ⟨B', b.F0, b.P0⟩ f2 ρ2 σ2 H2) (hB : Same b.B B') (n : Nx f H f2 H2)
    (hk : ∀ (i : Nat) (c : Ct), ρ[i]? = some (.obj c) → ρ2[i]? = some (.obj c) ∧ σ2[i]? = σ[i]?) : Sim K b f2 ρ σ H2 := S.back0 S2 hB n.ff n.pp hk
/-- the list in the making gets its next items -/
theorem Own.put {K : PySem.W.Frag} {b : Bs} {f : Fz} {ρ : DS} {σ : L2.St} {H : Hp} {p : Addr} {vs : List V} {ds : List D} (S : Sim K b f ρ σ H) (hl : H p = none ∨ ∃ u, H p = some u ∧ Held u) (nf : f.F p = none) (nb : b.B p = none) (np : p ∉ f.P)
    (no : ∀ (i : Nat) (s : Sl), ρ[i]? = some s → isOwn s = true → σ[i]? ≠ some (some (V.ref p))) (hd : DpAll K f.F vs ds) : Sim K b f ρ σ (upd H p (.lst vs)) ∧ Own K b f ρ σ (upd H p (.lst vs)) p ds := by
  refine ⟨⟨S.len, fun a o e => ?_, fun a o e => ?_, S.f0, S.fr, S.p0, fun a ha => ?_, fun i s e => ?_, S.sep, S.tb.put hl⟩, ⟨nf, nb, np, no, _, upd_same, vs, rfl, hd⟩⟩
  · rw [upd_ne (fun z => by rw [z, nb] at e; cases e)]; exact S.bs a o e
  · rw [upd_ne (fun z => by rw [z, nf] at e; cases e)]; exact S.fs a o e
  · obtain ⟨k1, k2, x, y, k3, k4⟩ := S.pt a ha
    have z : a ≠ p := fun (z : a = p) => np (z ▸ ha)
    exact ⟨k1, k2, x, y, by rw [upd_ne z]; exact k3, k4⟩
  · refine (S.sl i s e).keep (f' := f) (Same.refl _) (fun _ => Iff.rfl) fun r u go g0 g1 g2 g3 g4 _ => ⟨g1, ?_⟩
    have z : r ≠ p := fun (z : r = p) => no i s e go (z ▸ g0)
    rw [upd_ne z]
    exact g4
def noOwn (ρ : DS) (vs : List Nat) : Prop := ∀ i ∈ vs, ∀ c, ρ[i]? ≠ some (.obj c)
def lLc (vs : List Nat) (T : TDA) (G : TDG) (Tt : TDT) (Te : TD) : TDA := fun ρ R => T ρ fun ds ρ1 => ds.length < sizeLine ∧ noOwn ρ1 vs ∧ ∃ W : Nat → List D → Prop, W 0 [] ∧
  (∀ i d acc, ds[i]? = some d → W i acc → G d (wipeD ρ1 vs) fun ρ2 => Tt ρ2 fun c ρ3 => ρ3 = ρ2 ∧ if c = true then Te ρ3 (fun y ρ4 => ρ4 = ρ3 ∧ W (i + 1) (acc ++ [y])) else W (i + 1) acc) ∧
  ∀ acc, W ds.length acc → R acc ρ1
section
variable {X : Cx} {e c : Expr} {T Te : TD} {Tr : TDA} {Tt : TDT} {is vs : List Nat} {G : TDG} {ifs : List Expr}
abbrev DTs (X : Cx) (ifs : List Expr) (T : TDT) : Prop := PTs X ifs (liftT X.K T)
def tYesD : TDT := fun ρ R => R true ρ
theorem dts_nil : DTs X [] tYesD := ⟨fun pins s σ H Q I ⟨b, f, ρ, R, S, t, q⟩ => pts_nil.run pins s σ H Q I (q true ρ f H t S (Nx.refl f H))⟩
theorem dts_one (h : DT X c Tt) : DTs X [c] Tt := pts_one h
theorem lc_weak {DR : DRel} (X : Cx) (hi : ∀ i ∈ is, i ∈ vs) : ∀ σ H Q, liftL X.K (lLc vs Tr G Tt Te) σ H Q → tLc (liftIBR DR X.K Tr) (liftGR DR X.K is G) (liftT X.K Tt) (lift X.K Te) vs σ H Q := fun σ H Q ⟨b, f, ρ, R, S, t, q⟩ =>
  ⟨b, f, ρ, _, S, t, fun ds ρ1 f1 H1 J ⟨hz, hno, W, w0, turn, done⟩ S1 n1 J1 p hp => by
    obtain ⟨Sa, Oa, na⟩ := Own.new (vs := []) (ds := []) S1 hp .nil
    refine ⟨fun i m H' => m = ds.length - i ∧ i ≤ ds.length ∧ ∃ f' acc, Sim X.K b.1 f' ρ1 σ H' ∧ Nx f1 H1 f' H' ∧ W i acc ∧ acc.length ≤ i ∧ Own X.K b.1 f' ρ1 σ H' p acc, ⟨ds.length, by simp, Nat.zero_le _, f1, [], Sa, na, w0, Nat.le_refl _, Oa⟩, ?_⟩
    rintro i m H' ⟨rfl, hil, f', acc, S', n', w, hacc, O⟩
    by_cases hlt : i < ds.length
    · refine .inr ⟨J1.go i f' H' hlt n' S'.fs, fun H2 => ∃ f2 acc2, Sim X.K b.1 f2 ρ1 σ H2 ∧ Nx f1 H1 f2 H2 ∧ W (i + 1) acc2 ∧ acc2.length ≤ i + 1 ∧ Own X.K b.1 f2 ρ1 σ H2 p acc2, fun H2 z => ⟨ds.length - (i + 1), by omega, rfl, hlt, z⟩, fun x H2 y => ?_⟩
      obtain ⟨d, F2, e, g, dp⟩ := J1.yld i f' H' x H2 hlt n' S'.fs y
      obtain ⟨_, hw1, ws, rfl, hw2⟩ := O.at_
      have S2 : Sim X.K b.1 ⟨F2, f'.P⟩ ρ1 σ H2 := S'.grow g
      have n2 : Nx f1 H1 ⟨F2, f'.P⟩ H2 := n'.trans S1.pots (Nx.of_gr g)
      have hw3 : H2 p = some (.lst ws) := g.hh.l hw1
      have hF2 : F2 p = none := by
        cases r : F2 p with
        | none => rfl
        | some u =>
          rcases g.nw p u r with ⟨o', e'⟩ | e'
          · rw [O.nf] at e'; cases e'
          · rw [hw1] at e'; cases e'
      have SG := (S2.guard hw3 hF2 O.np O.no).wipe vs
      have lw : ExL X.K ⟨upd b.1.B p (.lst ws), b.1.F0, b.1.P0⟩ := fun cls kvs ρ4 σ4 f4 H4 d4 xr S4 => b.2 cls kvs ρ4 σ4 f4 H4 d4 xr (S4.loose (same_new O.nb))
      -- behind the turn
      have fin : ∀ (f5 : Fz) (ρ5 : DS) (σ5 : L2.St) (H5 : Hp), Sim X.K ⟨upd b.1.B p (.lst ws), b.1.F0, b.1.P0⟩ f5 ρ5 σ5 H5 → Nx ⟨F2, f'.P⟩ H2 f5 H5 → Tgt is (wipeD ρ1 vs) ρ5 (wipe σ vs) σ5 →
          H5 p = some (.lst ws) ∧ Sim X.K b.1 f5 ρ1 σ H5 ∧ f5.F p = none ∧ p ∉ f5.P := fun f5 ρ5 σ5 H5 S5 n5 t5 => by
        have hh : H5 p = some (.lst ws) := S5.bs.l upd_same
        refine ⟨hh, S2.back S5 (same_new O.nb) n5 fun j es hj => ?_, ?_, fun z => ?_⟩
        · have jv : j ∉ vs := fun z => hno j z es hj
          have ji : j ∉ is := fun z => jv (hi j z)
          exact ⟨by rw [t5.rh j ji, wipeD_ne jv]; exact hj, by rw [t5.sg j ji, wipe_ne jv]⟩
        · cases r : f5.F p with
          | none => rfl
          | some u =>
            rcases S5.fr p u r with ⟨o', e'⟩ | e'
            · have z := S.fs.free (H := f.F) (l := p)
              have k0 : f1.F p = none := S1.fs.free hp
              have k1 : b.1.F0 p = none := S1.f0.free k0
              rw [k1] at e'; cases e'
            · have e2 : upd b.1.B p (.lst ws) p = none := e'
              rw [upd_same] at e2; cases e2
        · obtain ⟨_, k2, _⟩ := S5.pt p z
          have e2 : upd b.1.B p (.lst ws) p = none := k2
          rw [upd_same] at e2; cases e2
      refine ⟨⟨⟨upd b.1.B p (.lst ws), b.1.F0, b.1.P0⟩, lw⟩, ⟨F2, f'.P⟩, _, d, _, SG, dp, turn i d acc e w, fun ρ3 σ3 f3 H3 r3 S3 n3 t3 => ⟨wipe_eq t3.len t3.sg hi, ?_⟩⟩
      refine ⟨⟨⟨upd b.1.B p (.lst ws), b.1.F0, b.1.P0⟩, lw⟩, f3, ρ3, _, S3, r3, fun c ρ4 f4 H4 ⟨e4, r4⟩ S4 n4 => ?_⟩
      subst e4
      have n34 : Nx ⟨F2, f'.P⟩ H2 f4 H4 := n3.trans SG.pots n4
      cases c with
      | false =>
        rw [if_neg Bool.false_ne_true] at r4 ⊢
        obtain ⟨k1, k2, k3, k4⟩ := fin f4 ρ4 σ3 H4 S4 n34 t3
        exact ⟨f4, acc, k2, n2.trans S1.pots n34, r4, by omega, ⟨k3, O.nb, k4, O.no, _, k1, ws, rfl, dpa_mono (g.ff.trans n34.ff) _ _ hw2⟩⟩
      | true =>
        rw [if_pos rfl] at r4 ⊢
        refine ⟨⟨⟨upd b.1.B p (.lst ws), b.1.F0, b.1.P0⟩, lw⟩, f4, ρ4, _, S4, r4, fun y5 ρ5 v5 f5 H5 ⟨e5, w5⟩ S5 n5 dp5 => ?_⟩
        subst e5
        have n35 : Nx ⟨F2, f'.P⟩ H2 f5 H5 := n34.trans S2.pots n5
        obtain ⟨k1, k2, k3, k4⟩ := fin f5 ρ5 σ3 H5 S5 n35 t3
        have hws : DpAll X.K f5.F ws acc := dpa_mono (g.ff.trans n35.ff) _ _ hw2
        refine ⟨ws, k1, by rw [dpa_len hw2]; omega, f5, acc ++ [y5], ?_⟩
        obtain ⟨P1, P2⟩ := Own.put k2 (.inr ⟨_, k1, True.intro⟩) k3 O.nb k4 O.no (dpa_app hws (.cons dp5 .nil))
        have nn : Nx f1 H1 f5 H5 := n2.trans S1.pots n35
        refine ⟨P1, ⟨nn.ff, fun a o e1 e2 => ?_, nn.pp, nn.pn⟩, w5, by rw [List.length_append]; simp; omega, P2⟩
        rw [upd_ne (ne_of_none e1 hp)]
        exact nn.kp a o e1 e2
    · have e : i = ds.length := by omega
      subst e
      refine .inl ⟨J1.stop f' H' n' S'.fs, ?_⟩
      exact q acc ρ1 p f' H' (done acc w) S' (n1.trans S.pots n') O⟩
theorem dl_lc {DR : DRel} (h : PE X e (tLc (liftIBR DR X.K Tr) (liftGR DR X.K is G) (liftT X.K Tt) (lift X.K Te) vs)) (hi : ∀ i ∈ is, i ∈ vs) : DLs X e (lLc vs Tr G Tt Te) := PE.weak h (lc_weak X hi)
theorem ds_setLc {DR : DRel} {st : Stmt} {i : Nat} (h : PS X st (tAsg (tLc (liftIBR DR X.K Tr) (liftGR DR X.K is G) (liftT X.K Tt) (lift X.K Te) vs) (gName i))) (hi : ∀ i ∈ is, i ∈ vs) : DSt X st (sSetL i (lLc vs Tr G Tt Te)) :=
  PS.weak h fun D σ H ⟨b, f, ρ, E, S, t, k⟩ => lc_weak X hi _ _ _ ⟨b, f, ρ, _, S, t, fun ds ρ' p f' H' r S' n O => k.nx _ _ f' H' r (S'.setOwn O)⟩
end
end DL

namespace DL
open PySem PySem.Spec PyProof.Rows L2
variable [Tbs] [Bse]
/-! ### the defs -/
def dstart (ds : List D) (n : Nat) : DS := ds.map Sl.fz ++ List.replicate (n - ds.length) Sl.no
def pstart (ds : List D) (n : Nat) : DS := Sl.pot :: dstart ds (n - 1)
theorem start_cons (x : Str) (N : List Str) (v : V) (vs : List V) : L2.start (x :: N) (v :: vs) = some v :: L2.start N vs := by
  unfold L2.start
  rw [List.map_cons, List.cons_append, List.length_cons, List.length_cons, Nat.add_sub_add_right]
theorem dstart_sl {K : PySem.W.Frag} {b : Bs} {f : Fz} {H : Hp} {N : List Str} : ∀ {vs : List V} {ds : List D} (h : DpAll K f.F vs ds) (i : Nat) (s : Sl), (ds.map Sl.fz ++ List.replicate (N.length - ds.length) Sl.no)[i]? = some s → SlOk K b f H s ((vs.map some ++ List.replicate (N.length - vs.length) none)[i]?) := by
  intro vs ds h i s e
  have el := dpa_len h
  by_cases hi : i < ds.length
  · rw [List.getElem?_append_left (by rw [List.length_map]; exact hi), List.getElem?_map] at e
    rw [List.getElem?_append_left (by rw [List.length_map]; omega), List.getElem?_map]
    cases hd : ds[i]? with
    | none => rw [hd] at e; cases e
    | some d =>
      rw [hd] at e
      have e' := Option.some.inj e
      subst e'
      obtain ⟨v, hv, dp⟩ := dpa_getD h hd
      rw [hv]
      exact ⟨v, rfl, dp⟩
  · rw [List.getElem?_append_right (by rw [List.length_map]; omega), List.getElem?_replicate] at e
    split at e
    · have e' := Option.some.inj e
      subst e'
      exact True.intro
    · cases e
theorem dstart_no {ds : List D} {n i : Nat} {s : Sl} (e : (ds.map Sl.fz ++ List.replicate n Sl.no)[i]? = some s) : isOwn s = false := by
  rcases List.mem_append.mp (List.mem_of_getElem? e) with h | h
  · obtain ⟨d, _, rfl⟩ := List.mem_map.mp h
    rfl
  · rw [(List.mem_replicate.mp h).2]
    rfl
theorem Sim.begin {K : PySem.W.Frag} {F H : Hp} {N : List Str} {vs : List V} {ds : List D} (ht : Tf F H) (hs : Same F H) (h : DpAll K F vs ds) (hl : vs.length ≤ N.length) : Sim K ⟨H, F, []⟩ ⟨F, []⟩ (dstart ds N.length) (L2.start N vs) H where
  len := by
    unfold dstart L2.start
    rw [List.length_append, List.length_append, List.length_map, List.length_map, List.length_replicate, List.length_replicate, dpa_len h]
  bs := Kp.refl _
  fs := hs
  f0 := Same.refl _
  fr := fun a o e => .inl ⟨o, e⟩
  p0 := fun p h => nomatch h
  pt := fun p h => nomatch h
  sl := fun i s e => dstart_sl (b := ⟨H, F, []⟩) (f := ⟨F, []⟩) h i s e
  sep := fun i j s t p hi hj hs ht _ _ => by rw [dstart_no hi] at hs; cases hs
  tb := ht
theorem Sim.gr {K : PySem.W.Frag} {F H H' : Hp} {f : Fz} {ρ : DS} {σ : L2.St} (S : Sim K ⟨H, F, []⟩ f ρ σ H') : Gr F H f.F H' := ⟨S.bs, S.f0, S.fs, S.fr, fun _ => S.tb⟩
/-- a new list is frozen as it leaves -/
theorem Own.froze {K : PySem.W.Frag} {F H H' : Hp} {f : Fz} {ρ : DS} {σ : L2.St} {p : Addr} {ds : List D} (S : Sim K ⟨H, F, []⟩ f ρ σ H') (O : Own K ⟨H, F, []⟩ f ρ σ H' p ds) : ∃ F', Gr F H F' H' ∧ Dp K F' (.ref p) (.list ds) := by
  obtain ⟨_, h1, vs, rfl, h2⟩ := O.at_
  have ff : Same f.F (upd f.F p (.lst vs)) := same_new O.nf
  refine ⟨upd f.F p (.lst vs), ⟨S.bs, S.f0.trans ff, fun a o e => ?_, fun a o e => ?_, fun _ => S.tb.frz lst_ntbl⟩, .lst (.inl (.inl upd_same)) (dpa_mono ff ds vs h2)⟩
  · by_cases z : a = p
    · subst z; rw [upd_same] at e; rw [h1]; exact e
    · rw [upd_ne z] at e; exact S.fs a o e
  · by_cases z : a = p
    · subst z; exact .inr O.nb
    · rw [upd_ne z] at e; exact S.fr a o e
/-- nothing may leave -/
abbrev noX : Bse := ⟨fun _ _ _ _ => False, fun _ _ _ => False⟩
theorem noX_law {K : PySem.W.Frag} {b : Bs} : @ExL _ noX K b := fun _ _ _ _ _ _ _ x => x.elim
def endsD (R : D → Prop) : DEnds := { nx := fun _ => R .none, rt := fun d _ => R d, rl := fun ds _ => R (.list ds) }
section
variable {P : Program} {w : World} {K : PySem.W.Frag} {mg : Str → Option Value} {base : Heap} {x qual : Str} {st : Stmt} {f : Addr} {fd : FuncData} {N ps : List Str} {k : Nat} {c : Con} {T : TDS}
abbrev Body (P : Program) (w : World) (K : PySem.W.Frag) (mg : Str → Option Value) (base : Heap) (N : List Str) (qual : Str) (st : Stmt) (f : Addr) (k : Nat) (T : TDS) : Prop :=
  ∀ [Bse] (cdv : Value) (A : Around) (outer : List Env) (s : Shared) (H : Hp) (E : XK), Room k (A.deeper (envOfC qual (defScope st) s.heap.objs.size f cdv)) → DSs (cxOf CX0 P w K mg base N qual (defScope st) f cdv A outer s H E).nox (defBody st) T
theorem ok_D (F : Fun K x qual st f fd) (S : FnScope N ps (defScope st)) (hN : ps.length ≤ N.length) (hl : ∀ ds R, c ds R → ds.length = ps.length) (hb : Body P w K mg base N qual st f k T)
    (hq : ∀ ds R, c ds R → T (endsD R) (dstart ds N.length)) : FnOk P w K mg base CX0 (k + 1) f fd ps (spD K c) := by
  refine F.ok S (fun vs H Q E ⟨F0, ds, R, _, _, h, hc, _⟩ => by rw [dpa_len h]; exact hl ds R hc) (fun cdv A outer s H vs Q E hr ⟨F0, ds, R, ht, hs, h, hc, q⟩ => ?_)
  refine ⟨_, @hb noX cdv A outer s H E hr, ⟨⟨H, F0, []⟩, noX_law⟩, ⟨F0, []⟩, _, endsD R, Sim.begin ht hs h (by rw [dpa_len h, hl ds R hc]; exact hN), hq ds R hc, ⟨?_, ?_, ?_, ?_, ?_⟩⟩
  · exact fun ρ σ f' H' r S' => q .none .non f'.F H' r S'.gr .non
  · exact fun d ρ v σ f' H' r S' dp => q d v f'.F H' r S'.gr dp
  · exact fun _ _ _ _ r _ => r.elim
  · exact fun _ _ _ _ r _ => r.elim
  · intro es ρ p σ f' H' r S' O
    obtain ⟨F', g, dp⟩ := O.froze S'
    exact q _ _ F' H' r g dp
/-! ### a def with a pot, then data -/
theorem Sim.beginP {K : PySem.W.Frag} {F H : Hp} {x : Str} {N : List Str} {p : Addr} {vs : List V} {ds : List D} (ht : Tf F H) (hp : F p = none) (pt : PotAt H p) (hs : Same F H) (h : DpAll K F vs ds) (hl : vs.length ≤ N.length) : Sim K ⟨fun a => if a = p then none else H a, F, [p]⟩ ⟨F, [p]⟩ (pstart ds (x :: N).length) (L2.start (x :: N) (.ref p :: vs)) H := by
  have B := Sim.begin (N := N) ht hs h hl
  rw [start_cons]
  refine ⟨congrArg (· + 1) B.len, fun a o e => ?_, hs, Same.refl _, fun a o e => .inl ⟨o, e⟩, fun q hq => hq, fun q hq => ?_, fun i s e => ?_, fun i j s t q hi hj h1 h2 _ _ => ?_, ht⟩
  · have e' : (if a = p then Option.none else H a) = some o := e
    split at e'
    · cases e'
    · exact .inl e'
  · have z := List.mem_singleton.mp hq
    subst z
    exact ⟨hp, if_pos rfl, pt⟩
  · cases i with
    | zero =>
      have e' := Option.some.inj e
      subst e'
      exact ⟨p, rfl, List.mem_singleton.mpr rfl⟩
    | succ i =>
      have e' : (dstart ds N.length)[i]? = some s := e
      have k0 := B.sl i s e'
      have ks := dstart_no e'
      show SlOk K _ _ H s ((L2.start N vs)[i]?)
      cases s with
      | no => exact True.intro
      | fz d => exact k0
      | obj _ => cases ks
      | pot =>
        obtain ⟨_, _, z⟩ := k0
        cases z
      | exc _ _ _ _ => exact k0
  · cases i with
    | zero =>
      have e' := Option.some.inj hi
      subst e'
      cases h1
    | succ i =>
      have e' : (dstart ds N.length)[i]? = some s := hi
      rw [dstart_no e'] at h1
      cases h1
theorem ok_P {y : Str} {M : List Str} (F : Fun K x qual st f fd) (S : FnScope (y :: M) ps (defScope st)) (hN : ps.length ≤ M.length + 1) (hl : ∀ ds R, c ds R → ds.length + 1 = ps.length) (hb : Body P w K mg base (y :: M) qual st f k T)
    (hq : ∀ ds R, c ds R → T { nx := fun _ => R .none, rt := fun d _ => R d } (pstart ds (y :: M).length)) : FnOk P w K mg base CX0 (k + 1) f fd ps (spP K c) := by
  refine F.ok S (fun vs H Q E ⟨p, vs', F0, ds, R, e, _, _, _, _, h, hc, _⟩ => by rw [e, List.length_cons, dpa_len h]; exact hl ds R hc) (fun cdv A outer s H vs Q E hr ⟨p, vs', F0, ds, R, e, ht, hp, pt, hs, h, hc, q⟩ => ?_)
  subst e
  have hlen : vs'.length ≤ M.length := by
    have := hl ds R hc
    rw [dpa_len h]
    omega
  have fin : ∀ (ρ : DS) (σ : L2.St) (f' : Fz) (H' : Hp), Sim K ⟨fun a => if a = p then none else H a, F0, [p]⟩ f' ρ σ H' → GrP p F0 H f'.F H' := fun ρ σ f' H' S' => by
    obtain ⟨k1, _, k3⟩ := S'.pt p (S'.p0 p (List.mem_singleton.mpr rfl))
    refine ⟨fun a o z e => S'.bs a o (by show (if a = p then Option.none else H a) = some o; rw [if_neg z]; exact e), k3, S'.f0, S'.fs, fun a o e => ?_, fun _ => S'.tb⟩
    rcases S'.fr a o e with r | r
    · exact .inl r
    · have r' : (if a = p then Option.none else H a) = Option.none := r
      split at r'
      · rename_i z
        rw [z, k1] at e
        cases e
      · exact .inr r'
  refine ⟨_, @hb noX cdv A outer s H E hr, ⟨⟨fun a => if a = p then none else H a, F0, [p]⟩, noX_law⟩, ⟨F0, [p]⟩, _, _, Sim.beginP ht hp pt hs h hlen, hq ds R hc, ⟨?_, ?_, ?_, ?_, ?_⟩⟩
  · exact fun ρ σ f' H' r S' => q .none .non f'.F H' r (fin ρ σ f' H' S') .non
  · exact fun d ρ v σ f' H' r S' dp => q d v f'.F H' r (fin ρ σ f' H' S') dp
  · exact fun _ _ _ _ r _ => r.elim
  · exact fun _ _ _ _ r _ => r.elim
  · exact fun _ _ _ _ _ _ r _ _ => r.elim
/-! ### a def that gives a new list -/
def spL (K : PySem.W.Frag) (c : List D → (List D → Prop) → Prop) : Sp := fun vs H Q _ => ∃ F ds R, Tf F H ∧ Same F H ∧ DpAll K F vs ds ∧ c ds R ∧ ∀ es p F' H', R es → Gr F H F' H' → H p = none → F' p = none → (∃ ws, H' p = some (.lst ws) ∧ DpAll K F' ws es) → Q (.ref p) H'
theorem ok_L {c : List D → (List D → Prop) → Prop} (F : Fun K x qual st f fd) (S : FnScope N ps (defScope st)) (hN : ps.length ≤ N.length) (hl : ∀ ds R, c ds R → ds.length = ps.length) (hb : Body P w K mg base N qual st f k T)
    (hq : ∀ ds R, c ds R → T { nx := fun _ => False, rt := fun _ _ => False, rl := fun es _ => R es } (dstart ds N.length)) : FnOk P w K mg base CX0 (k + 1) f fd ps (spL K c) := by
  refine F.ok S (fun vs H Q E ⟨F0, ds, R, _, _, h, hc, _⟩ => by rw [dpa_len h]; exact hl ds R hc) (fun cdv A outer s H vs Q E hr ⟨F0, ds, R, ht, hs, h, hc, q⟩ => ?_)
  refine ⟨_, @hb noX cdv A outer s H E hr, ⟨⟨H, F0, []⟩, noX_law⟩, ⟨F0, []⟩, _, _, Sim.begin ht hs h (by rw [dpa_len h, hl ds R hc]; exact hN), hq ds R hc, ⟨?_, ?_, ?_, ?_, ?_⟩⟩
  · exact fun _ _ _ _ r _ => r.elim
  · exact fun _ _ _ _ _ _ r _ _ => r.elim
  · exact fun _ _ _ _ r _ => r.elim
  · exact fun _ _ _ _ r _ => r.elim
  · exact fun es ρ p σ f' H' r S' O => q es p f'.F H' r S'.gr O.nb O.nf (by obtain ⟨_, o1, ws, rfl, o2⟩ := O.at_; exact ⟨ws, o1, o2⟩)
end
section
variable {X : Cx} {e : Expr} {Tr : TDA}
def lFn (c : List D → (List D → Prop) → Prop) (T : TDA) : TDA := fun ρ R => T ρ fun ds ρ' => c ds fun es => R es ρ'
theorem dl_fn {k : List D → (List D → Prop) → Prop} {E : XK} (h : PE X e (tCall (spL X.K k) [] E (liftA X.K Tr))) : DLs X e (lFn k Tr) := PE.weak h fun σ H Q ⟨b, f, ρ, R, S, t, q⟩ =>
  ⟨b, f, ρ, _, S, t, fun ds ρ' vs f' H' r S' n dps => ⟨f'.F, ds, _, S'.tb, S'.fs, by rw [List.append_nil]; exact dps, r, fun es p F2 H2 r2 g g1 g2 g3 => by
    refine q es ρ' p ⟨F2, f'.P⟩ H2 r2 (S'.grow g) (n.trans S.pots (Nx.of_gr g)) ⟨g2, S'.bs.free g1, fun z => ?_, fun i s e ho z => ?_, by obtain ⟨ws, o1, o2⟩ := g3; exact ⟨_, o1, ws, rfl, o2⟩⟩
    · obtain ⟨o, z'⟩ := S'.pots p z
      rw [g1] at z'; cases z'
    · cases s with
      | obj c' =>
        obtain ⟨p', vs', e1, _, _, _, e4, _⟩ := S'.sl i _ e
        rw [z] at e1
        have ep := V.ref.inj (Option.some.inj (Option.some.inj e1))
        rw [← ep, g1] at e4
        cases e4
      | no => cases ho
      | fz _ => cases ho
      | pot => cases ho
      | exc _ _ _ _ => cases ho⟩⟩
end
end DL

namespace DL
open PySem PySem.Spec PyProof.Rows L2
variable [Tbs] [Bse]
/-! ### the pot of a law: numbers drawn -/
def rIntC : List V → Hp → VK → Prop := fun xs H Q => (∃ i, xs = [.int i] ∧ Q (.int i) H) ∨ ∃ k, xs = [.bl k] ∧ Q (.int (if k then 1 else 0)) H
def rDivC : List V → Hp → VK → Prop := fun xs H Q => ∃ i j, xs = [.int i, .int j] ∧ CDiv i j ∧ ∀ p, H p = none → Q (.ref p) (upd H p (.tup [.int (i / j), .int (i % j)]))
def tCell (K : PySem.W.Frag) (i : Int) : TE := tOp (rIxL K) (tVar 0) (tC (.int i))
def tDraw (K : PySem.W.Frag) : TS := tSeq (tIfS (tTest (tOp (rI0 fun i j => .bl (decide (j < i))) (tCell K 0) (tC (.int 0))))
    (tSeq (tAsg (tCB rDivC (tCons (tCell K 0) (tCons (tVar 1) tNil))) (gTup K 2 (gCons (gSub (tVar 0) (tC (.int 0)) rSetL) (gCons (gName 2) gNil)))) (tRet (tVar 2))) tNext)
  (tSeq (tAsg (tOp (rI (fun _ j => 0 < j) fun i j => .int (i % j)) (tCB rIntC (tCons (tOp (rI0 fun i j => .int (i + j)) (tOp (rI CMul fun i j => .int (i * j)) (tCell K 1) (tC (.int 39373))) (tC (.int 12227))) tNil)) (tC (.int 2147483629))) (gSub (tVar 0) (tC (.int 1)) rSetL))
    (tRet (tOp (rI (fun _ j => 0 < j) fun i j => .int (i % j)) (tCB rIntC (tCons (tOp (rI CDiv fun i j => .int (i / j)) (tOp (rI (fun _ j => 0 < j) fun i j => .int (i % j)) (tCB rIntC (tCons (tOp (rI CMul fun i j => .int (i * j)) (tCell K 1) (tCell K 1)) tNil)) (tC (.int 2147483563))) (tC (.int 13))) tNil)) (tVar 1))))
def cDraw : Con := fun ds R => ∃ m : Int, ds = [.int m] ∧ 0 < m ∧ m < 1073741824 ∧ ∀ r : Int, 0 ≤ r → r < m → R (.int r)
theorem at0 (x y : V) : atI [x, y] 0 = some x := rfl
theorem at1 (x y : V) : atI [x, y] 1 = some y := rfl
theorem draw_math {K : PySem.W.Frag} {p : Addr} {H : Hp} {Q : VK} {m : Int} {N : List Str} (hN : N.length = 3) (pt : PotAt H p) (h0 : 0 < m) (h1 : m < 1073741824)
    (q : ∀ (r : Int) (H' : Hp), 0 ≤ r → r < m → (∀ a o, a ≠ p → H a = some o → H' a = some o) → PotAt H' p → Q (.int r) H') : tDraw K { nx := fun _ H' => Q .non H', rt := Q } (L2.start N [.ref p, .int m]) H := by
  have es : L2.start N [.ref p, .int m] = [some (.ref p), some (.int m), none] := by
    unfold L2.start
    rw [hN]
    rfl
  rw [es]
  obtain ⟨a, b, hp, ha, hb, hb2⟩ := pt
  have hq : SqL K H p [.int a, .int b] := .inl (.inl hp)
  refine ⟨.ref p, rfl, p, _, 0, _, rfl, rfl, hq, at0 _ _, a, 0, rfl, rfl, _, rfl, ite2 (fun hc => ?_) (fun hc => ?_)⟩
  · have hpos : 0 < a := of_decide_eq_true hc
    refine ⟨.ref p, rfl, p, _, 0, _, rfl, rfl, hq, at0 _ _, .int m, rfl, a, m, rfl, ⟨h0, h1⟩, fun t ht => ?_⟩
    refine ⟨t, _, rfl, .inl (.inl upd_same), rfl, .int (a / m), [.int (a % m)], rfl, .ref p, rfl, p, [.int a, .int b], 0, 0, rfl, rfl, ?_, rfl, .int (a % m), [], rfl, rfl, .int (a % m), rfl, ?_⟩
    · rw [upd_ne (ne_of_none hp ht)]; exact hp
    · refine q _ _ (Int.emod_nonneg a (by omega)) (Int.emod_lt_of_pos a h0) (fun x o nx e => ?_) ⟨a / m, b, upd_same, Int.ediv_nonneg ha (by omega), hb, hb2⟩
      rw [upd_ne nx, upd_ne (ne_of_none e ht)]
      exact e
  · refine ⟨.ref p, rfl, p, _, 1, _, rfl, rfl, hq, at1 _ _, b, 39373, rfl, rfl, .inl ⟨by omega, by omega⟩, b * 39373, 12227, rfl, rfl, .inl ⟨_, rfl, _, _, rfl, rfl, (show (0 : Int) < 2147483629 by decide), ?_⟩⟩
    refine ⟨.ref p, rfl, p, _, 1, 1, rfl, rfl, hp, rfl, ?_⟩
    have g0 : 0 ≤ (b * 39373 + 12227) % 2147483629 := Int.emod_nonneg _ (by decide)
    have g1 : (b * 39373 + 12227) % 2147483629 < 2147483629 := Int.emod_lt_of_pos _ (by decide)
    have hq2 : SqL K (upd H p (.lst [.int a, .int ((b * 39373 + 12227) % 2147483629)])) p [.int a, .int ((b * 39373 + 12227) % 2147483629)] := .inl (.inl upd_same)
    refine ⟨.ref p, rfl, p, _, 1, _, rfl, rfl, hq2, at1 _ _, .ref p, rfl, p, _, 1, _, rfl, rfl, hq2, at1 _ _, _, _, rfl, rfl, .inl ⟨by omega, by omega⟩, .inl ⟨_, rfl, _, _, rfl, rfl, (show (0 : Int) < 2147483563 by decide), _, _, rfl, rfl, ⟨by decide, by decide⟩, .inl ⟨_, rfl, .int m, rfl, _, _, rfl, rfl, h0, ?_⟩⟩⟩
    exact q _ _ (Int.emod_nonneg _ (by omega)) (Int.emod_lt_of_pos _ h0) (fun x o nx e => by rw [upd_ne nx]; exact e) ⟨a, _, upd_same, ha, g0, by omega⟩
def rAbsC : List V → Hp → VK → Prop := fun xs H Q => ∃ i, xs = [.int i] ∧ Q (.int (if i < 0 then -i else i)) H
def rLenC (K : PySem.W.Frag) : List V → Hp → VK → Prop := fun xs H Q => ∃ p ys, xs = [.ref p] ∧ (SqL K H p ys ∨ SqT K H p ys) ∧ Q (.int ys.length) H
def rMaxC : List V → Hp → VK → Prop := fun xs H Q => ∃ i j, xs = [.int i, .int j] ∧ Q (.int (if j > i then j else i)) H
def tPot (K : PySem.W.Frag) : TS := tSeq (tAsg (tIf (tTest (tOp (rI0 fun i j => .bl (decide (i < j))) (tVar 1) (tCB (rLenC K) (tCons (tVar 0) tNil))))
    (tCB rAbsC (tCons (tOp (rIxL K) (tVar 0) (tVar 1)) tNil)) (tOp (rI0 fun i j => .int (i + j)) (tOp (rI CMul fun i j => .int (i * j)) (tC (.int 7)) (tVar 1)) (tC (.int 3)))) (gName 2))
  (tRet (tLst (tCons (tCB rMaxC (tCons (tC (.int 0)) (tCons (tOp (rI0 fun i j => .int (i - j)) (tVar 2) (tOp (rI CPow fun i j => .int (i ^ j.toNat)) (tC (.int 10)) (tC (.int 18)))) tNil)))
    (tCons (tOp (rI (fun _ j => 0 < j) fun i j => .int (i % j)) (tCB rIntC (tCons (tOp (rI0 fun i j => .int (i + j)) (tOp (rI0 fun i j => .int (i + j)) (tOp (rI CMul fun i j => .int (i * j)) (tOp (rI (fun _ j => 0 < j) fun i j => .int (i % j)) (tCB rIntC (tCons (tVar 2) tNil)) (tC (.int 2147483629))) (tC (.int 48271)))
      (tOp (rI CMul fun i j => .int (i * j)) (tC (.int 60029)) (tVar 1))) (tC (.int 31))) tNil)) (tC (.int 2147483647))) tNil))))
def cPot : List D → Prop := fun ds => ∃ (ns : List Int) (k : Int), ds = [.list (ns.map PyData.int), .int k] ∧ 0 ≤ k
theorem dpa_ints {K : PySem.W.Frag} {H : Hp} : ∀ {vs : List V} {ns : List Int}, DpAll K H vs (ns.map PyData.int) → vs = ns.map V.int
  | _, [], h => by cases h; rfl
  | _, n :: ns, h => by
    cases h with
    | cons a t =>
      cases a
      rw [dpa_ints t]
      rfl
theorem ints_dpa {K : PySem.W.Frag} {H : Hp} : ∀ {ns : List Int}, DpAll K H (ns.map V.int) (ns.map PyData.int)
  | [] => .nil
  | n :: ns => .cons (.int n) ints_dpa
theorem pot_math {K : PySem.W.Frag} {a : Addr} {H : Hp} {Q : VK} {ns : List Int} {k : Int} {N : List Str} (hN : N.length = 3) (hS : SqL K H a (ns.map V.int)) (h0 : 0 ≤ k)
    (q : ∀ (p : Addr) (H' : Hp), Same H H' → H p = none → PotAt H' p → Q (.ref p) H') : tPot K { nx := fun _ H' => Q .non H', rt := Q } (L2.start N [.ref a, .int k]) H := by
  have es : L2.start N [.ref a, .int k] = [some (.ref a), some (.int k), none] := by
    unfold L2.start
    rw [hN]
    rfl
  rw [es]
  have fin : ∀ c : Int, (tRet (tLst (tCons (tCB rMaxC (tCons (tC (.int 0)) (tCons (tOp (rI0 fun i j => .int (i - j)) (tVar 2) (tOp (rI CPow fun i j => .int (i ^ j.toNat)) (tC (.int 10)) (tC (.int 18)))) tNil)))
    (tCons (tOp (rI (fun _ j => 0 < j) fun i j => .int (i % j)) (tCB rIntC (tCons (tOp (rI0 fun i j => .int (i + j)) (tOp (rI0 fun i j => .int (i + j)) (tOp (rI CMul fun i j => .int (i * j)) (tOp (rI (fun _ j => 0 < j) fun i j => .int (i % j)) (tCB rIntC (tCons (tVar 2) tNil)) (tC (.int 2147483629))) (tC (.int 48271)))
      (tOp (rI CMul fun i j => .int (i * j)) (tC (.int 60029)) (tVar 1))) (tC (.int 31))) tNil)) (tC (.int 2147483647))) tNil)))) { nx := fun _ H' => Q .non H', rt := Q } [some (.ref a), some (.int k), some (.int c)] H := fun c => by
    refine ⟨.int c, rfl, 10, 18, rfl, rfl, ⟨by decide, by decide, by decide⟩, c, _, rfl, rfl, 0, _, rfl, ?_⟩
    refine ⟨_, rfl, .inl ⟨c, rfl, c, _, rfl, rfl, (show (0 : Int) < 2147483629 by decide), _, _, rfl, rfl, .inr ⟨by decide, by decide⟩, .int k, rfl, _, _, rfl, rfl, .inl ⟨by decide, by decide⟩, _, _, rfl, rfl, _, _, rfl, rfl, .inl ⟨_, rfl, _, _, rfl, rfl, (show (0 : Int) < 2147483647 by decide), ?_⟩⟩⟩
    refine ⟨by simp only [List.length_cons, List.length_nil]; rw [sizeLine_eq]; decide, fun p hp => ?_⟩
    exact q p _ (same_new hp) hp ⟨_, _, upd_same, by split <;> omega, Int.emod_nonneg _ (by decide), Int.emod_lt_of_pos _ (by decide)⟩
  refine ⟨.int k, rfl, .ref a, rfl, a, _, rfl, .inl hS, k, _, rfl, rfl, _, rfl, ite2 (fun hc => ?_) (fun hc => ?_)⟩
  · have hlt : k < (ns.map V.int).length := of_decide_eq_true hc
    obtain ⟨j, rfl⟩ : ∃ j : Nat, k = j := ⟨k.toNat, by omega⟩
    obtain ⟨n, hn⟩ : ∃ n, ns[j]? = some n := ⟨_, List.getElem?_eq_getElem (by rw [List.length_map] at hlt; omega)⟩
    refine ⟨.ref a, rfl, .int j, rfl, a, _, j, .int n, rfl, rfl, hS, atI_nat (by rw [List.getElem?_map, hn]; rfl), n, rfl, ?_⟩
    exact fin _
  · exact ⟨.int k, rfl, 7, k, rfl, rfl, .inl ⟨by decide, by decide⟩, _, 3, rfl, rfl, fin _⟩
theorem Tab.potw {p : Addr} {H H' : Hp} (t : Tab H) (pt : PotAt H p) (hh : ∀ a o, a ≠ p → H a = some o → H' a = some o) : Tab H' := fun q hq => by
  obtain ⟨a, b, e, _⟩ := pt
  obtain ⟨ps, h1, h2, h3⟩ := t q hq
  refine ⟨ps, hh _ _ (fun z => ?_) h1, h2, fun pos cv hc => ?_⟩
  · rw [z, e] at h1; cases h1
  · obtain ⟨c, e1, e2⟩ := h3 pos cv hc
    refine ⟨c, e1, hh _ _ (fun z => ?_) e2⟩
    rw [z, e] at e2
    have z2 := Option.some.inj e2
    unfold LamX.CodeO at z2
    cases z2
section
variable {P : Program} {w : World} {K : PySem.W.Frag} {mg : Str → Option Value} {base : Heap} {x qual : Str} {st : Stmt} {f : Addr} {fd : FuncData} {N ps : List Str} {k : Nat}
abbrev BodyH (P : Program) (w : World) (K : PySem.W.Frag) (mg : Str → Option Value) (base : Heap) (N : List Str) (qual : Str) (st : Stmt) (f : Addr) (k : Nat) (T : TS) : Prop :=
  ∀ (cdv : Value) (A : Around) (outer : List Env) (s : Shared) (H : Hp) (E : XK), Room k (A.deeper (envOfC qual (defScope st) s.heap.objs.size f cdv)) → PSs (cxOf CX0 P w K mg base N qual (defScope st) f cdv A outer s H E).nox (defBody st) T
theorem ok_draw (F : Fun K x qual st f fd) (S : FnScope N ps (defScope st)) (hN : N.length = 3) (hp : ps.length = 2) (hb : BodyH P w K mg base N qual st f k (tDraw K)) : FnOk P w K mg base CX0 (k + 1) f fd ps (spP K cDraw) := by
  refine F.ok S (fun vs H Q E ⟨p, vs', F0, ds, R, e, _, _, _, _, h, ⟨m, hm, _⟩, _⟩ => by rw [e, List.length_cons, dpa_len h, hm, hp]; rfl) (fun cdv A outer s H vs Q E hr ⟨p, vs', F0, ds, R, e, ht, hpn, pt, hs, h, ⟨m, hm, m0, m1, mr⟩, q⟩ => ?_)
  subst e
  subst hm
  cases h with
  | cons d1 d2 =>
    cases d2
    cases d1
    refine ⟨_, hb cdv A outer s H E hr, draw_math hN pt m0 m1 fun r H' r0 r1 hh hpt => ?_⟩
    refine q (.int r) (.int r) F0 H' (mr r r0 r1) ⟨fun a o n e => .inl (hh a o n e), hpt, Same.refl _, fun a o e => hh a o (fun z => ?_) (hs a o e), fun a o e => .inl ⟨o, e⟩, fun t => ⟨t.t.potw pt hh, t.z, fun y => (t.m y).imp fun o' e1 => hh _ _ (fun x => by
      obtain ⟨a, b, e2, _⟩ := pt
      rw [x, e2] at e1
      cases e1) e1⟩⟩ (.int r)
    rw [z, hpn] at e
    cases e
theorem ok_pot (F : Fun K x qual st f fd) (S : FnScope N ps (defScope st)) (hN : N.length = 3) (hp : ps.length = 2) (hb : BodyH P w K mg base N qual st f k (tPot K)) : FnOk P w K mg base CX0 (k + 1) f fd ps (spNewP K cPot) := by
  refine F.ok S (fun vs H Q E ⟨F0, ds, hs, h, ⟨ns, k, hm, _⟩, _⟩ => by rw [dpa_len h, hm, hp]; rfl) (fun cdv A outer s H vs Q E hr ⟨F0, ds, hs, h, ⟨ns, k, hm, k0⟩, q⟩ => ?_)
  subst hm
  cases h with
  | cons d1 d2 =>
    cases d2 with
    | cons d2 d3 =>
      cases d3
      cases d2
      cases d1 with
      | lst hl ha =>
        rw [dpa_ints ha] at hl
        exact ⟨_, hb cdv A outer s H E hr, pot_math hN (hs.seq hl) k0 q⟩
end
end DL

namespace DL
open PySem PySem.Spec PyProof.Rows L2 LamX NdefX
variable [Tbs] [Bse]
/-! ### lambdas as known objects -/
/-- its words (the body apart), what it captured, its code object -/
abbrev lamNF (qual : Str) (params : Arguments) (scope : Scope) (cl : List (Str × Addr)) (c : Addr) : NF := ⟨"<lambda>", qual, params, [], scope, cl, c⟩
def LmO (f : Addr) (F : NF) (body : Expr) : HO := .ext fun h => ∃ (od : Option Addr) (sl : Array (Option Value)) (pm ctv : Value), h.get? f = some (⟨.type "function", od, .func (PySem.W.kla_fn "<lambda>" F.qual F.params body F.scope F.cl pm (.ref F.c) ctv), sl⟩ : Obj)
theorem lmO_ne {f : Addr} {F : NF} {e : Expr} (ps : Array Value) : LmO f F e ≠ .tbl ps := fun z => by
  unfold LmO at z
  cases z
theorem lmO_at {P : Program} {w : World} {H : Hp} {h : Heap} {f : Addr} {F : NF} {e : Expr} (hok : HOk P w H h) (q : H f = some (LmO f F e)) : ∃ (od : Option Addr) (sl : Array (Option Value)) (pm ctv : Value), h.get? f = some (⟨.type "function", od, .func (PySem.W.kla_fn "<lambda>" F.qual F.params e F.scope F.cl pm (.ref F.c) ctv), sl⟩ : Obj) := by
  obtain ⟨z, _, _⟩ := hok f _ q
  exact z
section
variable {X : Cx} {pins : List (Addr × Obj)} {σ : L2.St} {H : Hp} {s : Shared}
theorem inv_lm {F : NF} {e : Expr} {o : Obj} {t' : Nat} {pm ctv : Value} (I : Inv X pins σ H s) (ho : o = PySem.W.kla_obj "<lambda>" F.qual F.params e F.scope F.cl pm F.c ctv) :
    Inv X pins σ (upd H s.heap.objs.size (LmO s.heap.objs.size F e)) { s with heap := s.heap.push o, toks := t' } := by
  subst ho
  refine I.laid (a := s.heap.objs.size) (fun b u e => Heap.get?_push_of_some _ e) (Nat.le_refl _) ?_
  have q : (s.heap.push (PySem.W.kla_obj "<lambda>" F.qual F.params e F.scope F.cl pm F.c ctv)).get? s.heap.objs.size = some (PySem.W.kla_obj "<lambda>" F.qual F.params e F.scope F.cl pm F.c ctv) := Heap.get?_push_size _ rfl
  exact ⟨⟨_, _, pm, ctv, q⟩, ⟨_, q⟩, fun h1 h2 ⟨od, sl, p, t, z⟩ st => ⟨od, sl, p, t, st _ z⟩⟩
/-- what has been made: the function at f, its code object, the tables as they should be -/
theorem lm_make {nm : Nat → Nat → Str} {c P : Addr} {params : Arguments} {body : Expr} {scope : Scope} {pos : Pos} {E : Value → Shared → Prop} {Q : Value → Shared → Prop} (I : Inv X pins σ H s) (TB : TabB X.base X.mg c P) (hcode : X.env.code = .ref c)
    (hm : (P, nm) ∈ Tbs.T) (hn : nm pos.line pos.col = X.env.qual ++ "<lambda>") (hu : ∀ p ∈ Tbs.T, p.1 = P → p.2 = nm) (hT : Tab H) (hdef : defaultsOf params X.env = ([], [])) (hfree : ∀ y ∈ scope.names, y.2 = .free → ∃ c, X.env.cells.lookup y.1 = some c)
    (h : ∀ (f c' : Addr) (H1 : Hp) (s' : Shared), Inv X pins σ H1 s' → Kp H H1 → Tab H1 → H f = none → H1 f = some (LmO f (lamNF (X.env.qual ++ "<lambda>") params scope (cloFrom X.env.cells scope.names []) c') body) → H1 c' = some (CodeO c' (X.env.qual ++ "<lambda>")) → Q (.ref f) s') :
    wpAny (model X.prog X.w) X.A (eval (.Lambda params body scope pos) X.env) Q E s := by
  obtain ⟨tab, tq, ht, hal⟩ := (show TabN H P nm from hT _ hm)
  refine PySem.W.kla_eval hdef ?_
  have bp : s.heap.BuiltinsAt X.mg P := TB.bm.keeps I.bk
  have tq2 : s.heap.get? P = some { cls := .none, data := .fields tab } := I.hok P _ tq
  cases hc : codeAmong pos tab.toList with
  | none =>
    refine PySem.W.kla_makeFunction (mg := X.mg) (c := c) (P := P) (ps := tab) (closure_ok hfree) I.ok.glob (I.mod.glob.keeps I.bk) hcode (TB.code.keeps I.bk) tq2 ht hc TB.gP bp fun c' ctv h' tk hx1 ge1 lt1 rc1 tb1 => ?_
    obtain ⟨cc, oc, vs, t, q2, ho1, hd1, hv1⟩ := rc1
    cases q2
    have nc : H c' = none := I.hok.fresh ge1
    have J1 := inv_table (t' := tk) (more := #[rawInt pos.line, rawInt pos.col, .ref c']) (h' := h') I tq (fun b o hb1 e => hx1 b o hb1 e) tb1 ge1 ⟨oc, vs, t, ho1, hd1, hv1⟩
    have hE : Kp H (upd (upd H P (.tbl (tab ++ #[rawInt pos.line, rawInt pos.col, .ref c']))) c' (CodeO c' (X.env.qual ++ "<lambda>"))) := fun b o e => by
      rw [upd_ne (ne_of_none e nc)]
      by_cases z : b = P
      · rw [z, tq] at e
        rw [z, upd_same]
        exact .inr ⟨tab, _, (Option.some.inj e).symm, rfl⟩
      · rw [upd_ne z]
        exact .inl e
    have hE2 : ∀ b o, H b = some o → b ≠ P → upd (upd H P (.tbl (tab ++ #[rawInt pos.line, rawInt pos.col, .ref c']))) c' (CodeO c' (X.env.qual ++ "<lambda>")) b = some o := fun b o e n => by
      rw [upd_ne (ne_of_none e nc), upd_ne n]
      exact e
    have ncp : ∀ cx q, H cx = some (CodeO cx q) → cx ≠ P := fun cx q e z => by
      rw [z, tq] at e
      exact codeO_ne tab (Option.some.inj e).symm
    have et : (tab ++ #[rawInt pos.line, rawInt pos.col, .ref c']).toList = tab.toList ++ [rawInt pos.line, rawInt pos.col, .ref c'] := by simp
    have TT : Tab (upd (upd H P (.tbl (tab ++ #[rawInt pos.line, rawInt pos.col, .ref c']))) c' (CodeO c' (X.env.qual ++ "<lambda>"))) := fun p hp => by
      by_cases hb1 : p.1 = P
      · rw [hu p hp hb1, hb1]
        refine ⟨_, by rw [upd_ne (ne_of_none tq nc), upd_same], by rw [et]; exact PySem.TriplesOk_snoc _ _ _ _ ht, fun p' cv qc => ?_⟩
        rw [et] at qc
        rcases among_app2 _ ht qc with z | ⟨z, y1, y2⟩
        · obtain ⟨cx, q1, q2⟩ := hal p' cv z
          exact ⟨cx, q1, hE2 _ _ q2 (ncp _ _ q2)⟩
        · refine ⟨c', z, ?_⟩
          rw [← y1, ← y2, hn]
          exact upd_same
      · obtain ⟨tab2, w1, w2, w3⟩ := hT p hp
        refine ⟨tab2, by rw [upd_ne (ne_of_none w1 nc), upd_ne hb1]; exact w1, w2, fun p' cv qc => ?_⟩
        obtain ⟨cx, q1, q2⟩ := w3 p' cv qc
        exact ⟨cx, q1, hE2 _ _ q2 (ncp _ _ q2)⟩
    have nf := J1.hok.fresh (Nat.le_refl _)
    have J2 := inv_lm (F := lamNF (X.env.qual ++ "<lambda>") params scope (cloFrom X.env.cells scope.names []) c') (e := body) (t' := tk) (pm := (X.mg "__name__").getD .none) (ctv := ctv) J1 rfl
    refine h h'.objs.size c' _ _ J2 (hE.trans (.of fun b o e => ?_)) (TT.ext fun b o e => ?_) (I.hok.fresh (Nat.le_trans ge1 (Nat.le_of_lt lt1))) upd_same ?_
    · exact (upd_ne (ne_of_none e nf)).trans e
    · exact (upd_ne (ne_of_none e nf)).trans e
    · exact (upd_ne (Nat.ne_of_lt lt1)).trans upd_same
  | some cv =>
    obtain ⟨c', e, co1⟩ := hal pos cv hc
    subst e
    rw [hn] at co1
    refine PySem.W.kla_makeFunctionHit (mg := X.mg) (c := c) (P := P) (ps := tab) (closure_ok hfree) I.ok.glob (I.mod.glob.keeps I.bk) hcode (TB.code.keeps I.bk) tq2 ht hc bp fun ctv h' tk hx1 hsz => ?_
    have J1 : Inv X pins σ H { s with heap := h', toks := tk } := I.kept hx1
    have nf : H h'.objs.size = none := J1.hok.fresh (Nat.le_refl _)
    have J2 := inv_lm (F := lamNF (X.env.qual ++ "<lambda>") params scope (cloFrom X.env.cells scope.names []) c') (e := body) (t' := tk) (pm := (X.mg "__name__").getD .none) (ctv := ctv) J1 rfl
    refine h h'.objs.size c' _ _ J2 (.of fun b o e => ?_) (hT.ext fun b o e => ?_) nf upd_same ?_
    · exact (upd_ne (ne_of_none e nf)).trans e
    · exact (upd_ne (ne_of_none e nf)).trans e
    · exact (upd_ne (ne_of_none co1 nf)).trans co1
end
/-! ### what a lambda promises -/
structure LOk (P : Program) (w : World) (K : PySem.W.Frag) (mg : Str → Option Value) (base : Heap) (CX : CXT) (k : Nat) (f : Addr) (F : NF) (e : Expr) (ps fr : List Str) (sp : List (Option V) → Sp) : Prop where
  len : ∀ ws vs H Q E, sp ws vs H Q E → vs.length = ps.length
  run : ∀ (A : Around) (outer : List Env) (s : Shared) (H : Hp) (us : List Value) (vs : List V) (ws : List (Option V)) (Q : VK) (E : XK), Room k A → Env0 P w K mg base A outer s H → H f = some (LmO f F e) → H F.c = some (CodeO F.c F.qual) →
    CellsAt F.cl fr ws s.heap H → Vals vs us → sp ws vs H Q E → codeAny (model P w) A (.call (.ref f) ⟨us, []⟩) (CR CX outer P w H s Q E) s
section
variable {CX : CXT} {P : Program} {w : World} {K : PySem.W.Frag} {mg : Str → Option Value} {base : Heap} {N ps fr : List Str} {F : NF} {e : Expr} {f : Addr} {k j : Nat} {sp sp' : List (Option V) → Sp}
theorem lok_of (S : NScope N ps fr F.scope) (hb : ∀ (pm ctv : Value) (us : List Value), us.length = ps.length → bindArgs (PySem.W.kla_fn "<lambda>" F.qual F.params e F.scope F.cl pm (.ref F.c) ctv) ⟨us, []⟩ = pure (ps.zip us)) (len : ∀ ws vs H Q E, sp ws vs H Q E → vs.length = ps.length)
    (hbody : ∀ (A : Around) (outer : List Env) (s : Shared) (H : Hp) (vs : List V) (ws : List (Option V)) (Q : VK) (E : XK), Room k (A.deeper (envF F f s.heap.objs.size)) → ws.length = fr.length → sp ws vs H Q E →
      ∃ t, PE (ncx CX P w K mg base N F f A outer s H E) e t ∧ t (startF N vs ws) H Q) :
    LOk P w K mg base CX (k + 1) f F e ps fr sp := by
  refine ⟨len, fun A outer s H us vs ws Q E hr env0 hf1 hc1 C r hs1 => ?_⟩
  have hl1 := len _ _ _ _ _ hs1
  have nolim : s.heap.NoLimit := env0.mod.nolimit.keeps fun b o e => (env0.bs b o e).1
  obtain ⟨od, sl, pm, ctv, ho⟩ := lmO_at env0.hok hf1
  refine PySem.W.kla_callFunE hr.depth ho rfl S.co S.gen rfl (codeO_at env0.hok hc1) ?_
  rw [hb pm ctv us (by rw [← r.length]; exact hl1)]
  refine wpAny_pure (wpAny_newFunctionEnv S.nocell (fun ⟨n, _⟩ hy => S.par n (List.of_mem_zip hy).1) (fun h₁ gn gb => ⟨nolim.fresh _ gb, ?_⟩) S.kind)
  show codeAny _ _ (.expr e (envF F f s.heap.objs.size)) _ _
  have kept : ∀ b o, s.heap.get? b = some o → h₁.get? b = some o := fun b o e => gb.extBut b o (Nat.ne_of_lt (Heap.lt_size e)) (Heap.get?_push_of_some _ e)
  obtain ⟨t, ht, hq⟩ := hbody A outer s H vs ws Q E (hr.deeper _) C.len hs1
  have I : Inv (ncx CX P w K mg base N F f A outer s H E) [] (startF N vs ws) H { s with heap := h₁, toks := s.toks + (ps.zip us).length } := inv_startN S hr.hd env0 hl1 r C gn kept
  refine PySem.W.kla_codeExpr (wpAny_mono (ht.run [] _ (startF N vs ws) H Q I hq) (fun u s' hs => ?_) fun e s' hs => hs)
  obtain ⟨v, H', J, rv, q⟩ := hs
  exact ⟨v, H', J.os, J.bare, J.base, J.hok, rv, q⟩
end
section
variable {X : Cx} {CX : CXT} {F : NF} {e : Expr} {ps fr : List Str} {js : List Nat} {k : Nat} {sp : List (Option V) → Sp} {E : XK}
/-- it is called, by whom so ever, while the frame that made it runs -/
theorem run_lm {pins : List (Addr × Obj)} {σ : L2.St} {H : Hp} {s : Shared} {Q : VK} {f : Addr} {us : List Value} {vs : List V} {A : Around} (L : LOk X.prog X.w X.K X.mg X.base CX k f F e ps fr sp) (hr : Room k A) (hA : A.frames = X.A.frames) (hx : Passes CX X E) (I : Inv X pins σ H s)
    (hf1 : H f = some (LmO f F e)) (hc1 : H F.c = some (CodeO F.c F.qual)) (C : CellsAt F.cl fr (js.map (slotAt σ)) s.heap H) (r : Vals vs us) (q : sp (js.map (slotAt σ)) vs H Q E) :
    wpAny (model X.prog X.w) A (call (.ref f) us) (EP X pins σ Q) X.xe s := by
  have env0 := I.env0
  refine wpAny_call (codeAny_mono (L.run A X.stack s H us vs _ Q E hr ⟨hA.trans env0.frames, env0.mod, env0.bs, env0.bsz, env0.funs, env0.frf, env0.hok, env0.bare⟩ hf1 hc1 C r q) fun r s' hq => ?_)
  cases r with
  | error e => exact hx pins σ H s e s' I hq
  | ok fl =>
    cases fl with
    | ret u => exact I.after hq
    | next => exact False.elim hq
    | brk => exact False.elim hq
    | cont => exact False.elim hq
end
end DL

namespace DL
open PySem PySem.SeqAt
open MeetsSeq MeetsSeq2
open MeetsSeq3 SeqRoads2
/-! ### a < b of two tuples: what stands behind the first difference is never asked -/
/-- up to the first false of e -/
def firstB (e r : Nat → Bool) (z : Bool) : Nat → Nat → Bool
  | _, 0 => z
  | i, n + 1 => if e i = true then firstB e r z (i + 1) n else r i
section
theorem tup_lt_lazy (a c : Addr) (us ws : Array Value) (m m2 : Nat) (d1 d2 : Option Addr) (s1 s2 : Array (Option Value)) (e r : Nat → Bool) : Meets (Builtin.«tuple.__lt__» ⟨[.ref a, .ref c], []⟩)
    (fun A R s => s.heap.get? a = some { cls := .type "tuple", dict := d1, data := .seq us m, slots := s1 } ∧ s.heap.get? c = some { cls := .type "tuple", dict := d2, data := .seq ws m2, slots := s2 } ∧
      (∀ j (g1 : j < us.size) (g2 : j < ws.size), (∀ i, i < j → e i = true) → EqAt A.in1 s us[j] ws[j] (e j)) ∧ (∀ j (g1 : j < us.size) (g2 : j < ws.size), (∀ i, i < j → e i = true) → e j = false → RcLt A.in1 s us[j] ws[j] (r j)) ∧
      R (.ok (.ret (.bool (firstB e r (decide (us.size < ws.size)) 0 (min us.size ws.size))))) s) :=
  .of_wp fun prog w A R s h => by
    obtain ⟨hh, gg, dr, tk, os⟩ := s
    obtain ⟨ha, hc, he, hr, h⟩ := h
    have fact := AutoSeq1.sub_tuple_tuple
    have hlen : (us.toList.zip ws.toList).length = min us.size ws.size := by simp
    wp_walk using AutoSeq1.wpAny_loadPart' ha, AutoSeq1.wpAny_loadPart' hc, wpAny_forIn_list _ (fun rest st s' => st.1 = none ∧ s' = ⟨hh, gg, dr, tk, os⟩ ∧ ∃ i, rest = (us.toList.zip ws.toList).drop i ∧ (∀ j, j < i → e j = true) ∧
      R (.ok (.ret (.bool (firstB e r (decide (us.size < ws.size)) i (min us.size ws.size - i))))) ⟨hh, gg, dr, tk, os⟩) _
    case turn =>
      rintro ⟨y, x⟩ rest st s' ⟨hst, rfl, i, hz, hpre, hR⟩
      have hlt : i < (us.toList.zip ws.toList).length := by
        rcases Nat.lt_or_ge i (us.toList.zip ws.toList).length with q | q
        · exact q
        · rw [List.drop_of_length_le q] at hz
          cases hz
      have hmin : i < min us.size ws.size := hlen ▸ hlt
      have g1 : i < us.size := Nat.lt_of_lt_of_le hmin (Nat.min_le_left _ _)
      have g2 : i < ws.size := Nat.lt_of_lt_of_le hmin (Nat.min_le_right _ _)
      rw [List.drop_eq_getElem_cons hlt] at hz
      injection hz with hyx hrest
      have hy : y = us[i] := by
        have q := congrArg Prod.fst hyx
        simpa using q
      have hx : x = ws[i] := by
        have q := congrArg Prod.snd hyx
        simpa using q
      subst hy hx
      have hsub : min us.size ws.size - i = (min us.size ws.size - (i + 1)) + 1 := by omega
      rw [hsub] at hR
      unfold firstB at hR
      refine wpAny_bind (he i g1 g2 hpre prog w _ _ ?_)
      cases hi : e i with
      | true =>
        rw [if_pos hi] at hR
        wp_walk
        refine ⟨rfl, rfl, i + 1, hrest, fun j hj => ?_, hR⟩
        rcases Nat.lt_succ_iff_lt_or_eq.mp hj with q | q
        · exact hpre j q
        · rw [q]
          exact hi
      | false =>
        rw [if_neg (by rw [hi]; exact Bool.false_ne_true)] at hR
        rw [if_pos (show (!false) = true from rfl)]
        refine wpAny_bind (wpAny_rule ?_)
        refine wpAny_bind (hr i g1 g2 hpre hi prog w _ _ ?_)
        wp_walk
        exact ⟨_, rfl, hR⟩
    case fin =>
      rintro ⟨b1, b2⟩ s' ⟨hst, rfl, i, hz, hpre, hR⟩
      simp only at hst
      subst hst
      have hge : min us.size ws.size ≤ i := by
        rcases Nat.lt_or_ge i (us.toList.zip ws.toList).length with q | q
        · rw [List.drop_eq_getElem_cons q] at hz
          cases hz
        · exact hlen ▸ q
      rw [Nat.sub_eq_zero_of_le hge] at hR
      wp_walk
      exact ⟨_, rfl, by simpa [Builtin.Tuple.tupleCompareSizes, firstB] using hR⟩
    case h =>
      exact ⟨rfl, rfl, 0, rfl, fun j hj => absurd hj (Nat.not_lt_zero _), by simpa using h⟩
end
theorem rcLt_tupL {A : Around} {s : Shared} {a c : Addr} {us ws : Array Value} {e r : Nat → Bool} (ha : s.heap.IsTuple a us) (hc : s.heap.IsTuple c ws) (hu : A.units < cLine)
    (he : ∀ j (g1 : j < us.size) (g2 : j < ws.size), (∀ i, i < j → e i = true) → EqAt A.in1 s us[j] ws[j] (e j)) (hr : ∀ j (g1 : j < us.size) (g2 : j < ws.size), (∀ i, i < j → e i = true) → e j = false → RcLt A.in1 s us[j] ws[j] (r j)) :
    RcLt A s (.ref a) (.ref c) (firstB e r (decide (us.size < ws.size)) 0 (min us.size ws.size)) := fun prog w E Q h => by
  obtain ⟨⟨c1, d1, t1, s1⟩, o1, k1, n1, e1⟩ := id ha
  obtain ⟨⟨c2, d2, t2, s2⟩, o2, k2, n2, e2⟩ := id hc
  simp only at k1 e1 k2 e2
  subst k1 e1 k2 e2
  exact richCompare_meets_room (op := .Lt) ⟨_, o1, rfl⟩ ⟨_, o2, rfl⟩ F.slot_tuple_lt F.entry_tuple_lt (F.args_tuple_lt_2 _ _) (tup_lt_lazy a c us ws n1 n2 d1 d2 s1 s2 e r)
    ⟨o1, o2, he, hr, show Value.bool (firstB e r (decide (us.size < ws.size)) 0 (min us.size ws.size)) ≠ Value.notImplemented ∧ Q (.bool (firstB e r (decide (us.size < ws.size)) 0 (min us.size ws.size))) s from ⟨(fun x => nomatch x), h⟩⟩ hu
/-! ### the order of data -/
mutual
/-- d < e, where Python can tell -/
def ltD : D → D → Option Bool
  | .bool x, .bool y => some (!x && y)
  | .int x, .int y => some (decide (x < y))
  | .str x, .str y => some (decide (x.cps.toList < y.cps.toList))
  | .tuple xs, .tuple ys => ltAll xs ys
  | .list xs, .list ys => ltEach xs ys
  | _, _ => none
/-- the first difference is asked, nothing behind it -/
def ltAll : List D → List D → Option Bool
  | [], [] => some false
  | [], _ :: _ => some true
  | _ :: _, [] => some false
  | x :: xs, y :: ys => if PyData.eqv x y = true then ltAll xs ys else ltD x y
/-- every place can be asked -/
def ltEach : List D → List D → Option Bool
  | [], [] => some false
  | [], _ :: _ => some true
  | _ :: _, [] => some false
  | x :: xs, y :: ys => match ltEach xs ys with
    | none => none
    | some k => if PyData.eqv x y = true then some k else ltD x y
end
def ltR (xs ys : List D) (j : Nat) : Bool := (ltD (xs.getD j .none) (ys.getD j .none)).getD false
theorem ltAll_first : ∀ (xs ys : List D) (k : Bool), ltAll xs ys = some k → firstB (pairEq xs ys) (ltR xs ys) (decide (xs.length < ys.length)) 0 (min xs.length ys.length) = k := by
  have shift : ∀ (n i : Nat) (x y : D) (xs ys : List D) (z : Bool), firstB (pairEq (x :: xs) (y :: ys)) (ltR (x :: xs) (y :: ys)) z (i + 1) n = firstB (pairEq xs ys) (ltR xs ys) z i n := by
    intro n
    induction n with
    | zero => intro i x y xs ys z; rfl
    | succ n ih =>
      intro i x y xs ys z
      unfold firstB
      rw [ih (i + 1)]
      rfl
  intro xs
  induction xs with
  | nil =>
    intro ys k h
    cases ys with
    | nil => exact Option.some.inj h
    | cons y ys => exact Option.some.inj h
  | cons x xs ih =>
    intro ys k h
    cases ys with
    | nil => exact Option.some.inj h
    | cons y ys =>
      have e1 : min (x :: xs).length (y :: ys).length = min xs.length ys.length + 1 := by simp only [List.length_cons]; omega
      have e2 : decide ((x :: xs).length < (y :: ys).length) = decide (xs.length < ys.length) := by simp only [List.length_cons, Nat.add_lt_add_iff_right]
      rw [e1, e2]
      unfold firstB
      rw [shift]
      have h' : (if PyData.eqv x y = true then ltAll xs ys else ltD x y) = some k := h
      show (if PyData.eqv x y = true then _ else ltR (x :: xs) (y :: ys) 0) = k
      by_cases q : PyData.eqv x y = true
      · rw [if_pos q] at h' ⊢
        exact ih ys k h'
      · rw [if_neg q] at h' ⊢
        show (ltD x y).getD false = k
        rw [h']
        rfl
theorem ltAll_at : ∀ (xs ys : List D) (k : Bool), ltAll xs ys = some k → ∀ j, j < xs.length → j < ys.length → (∀ i, i < j → pairEq xs ys i = true) → pairEq xs ys j = false → ltD (xs.getD j .none) (ys.getD j .none) = some k
  | [], _, _, _, j, g1, _, _, _ => absurd g1 (Nat.not_lt_zero _)
  | _ :: _, [], _, _, j, _, g2, _, _ => absurd g2 (Nat.not_lt_zero _)
  | x :: xs, y :: ys, k, h, 0, _, _, _, hf => by
    have h' : (if PyData.eqv x y = true then ltAll xs ys else ltD x y) = some k := h
    have q : PyData.eqv x y = false := hf
    rw [q, if_neg Bool.false_ne_true] at h'
    exact h'
  | x :: xs, y :: ys, k, h, j + 1, g1, g2, hp, hf => by
    have h' : (if PyData.eqv x y = true then ltAll xs ys else ltD x y) = some k := h
    have q : PyData.eqv x y = true := hp 0 (Nat.succ_pos j)
    rw [if_pos q] at h'
    exact ltAll_at xs ys k h' j (Nat.lt_of_succ_lt_succ g1) (Nat.lt_of_succ_lt_succ g2) (fun i hi => hp (i + 1) (Nat.succ_lt_succ hi)) hf
theorem ltEach_at : ∀ (xs ys : List D) (k : Bool), ltEach xs ys = some k → ∀ j, j < xs.length → j < ys.length → pairEq xs ys j = false → ltD (xs.getD j .none) (ys.getD j .none) = some (ltR xs ys j)
  | [], _, _, _, j, g1, _, _ => absurd g1 (Nat.not_lt_zero _)
  | _ :: _, [], _, _, j, _, g2, _ => absurd g2 (Nat.not_lt_zero _)
  | x :: xs, y :: ys, k, h, j, g1, g2, hf => by
    unfold ltEach at h
    split at h
    · cases h
    · rename_i k' e
      cases j with
      | zero =>
        have q : PyData.eqv x y = false := hf
        rw [q, if_neg Bool.false_ne_true] at h
        show ltD x y = some ((ltD x y).getD false)
        rw [h]
        rfl
      | succ j => exact ltEach_at xs ys k' e j (Nat.lt_of_succ_lt_succ g1) (Nat.lt_of_succ_lt_succ g2) hf
theorem ltEach_all : ∀ (xs ys : List D) (k : Bool), ltEach xs ys = some k → ltAll xs ys = some k
  | [], [], _, h => h
  | [], _ :: _, _, h => h
  | _ :: _, [], _, h => h
  | x :: xs, y :: ys, k, h => by
    unfold ltEach at h
    split at h
    · cases h
    · rename_i k' e
      show (if PyData.eqv x y = true then ltAll xs ys else ltD x y) = some k
      by_cases q : PyData.eqv x y = true
      · rw [if_pos q] at h ⊢
        rw [ltEach_all xs ys k' e]
        exact h
      · rw [if_neg q] at h ⊢
        exact h
theorem firstB_lt {e r : Nat → Bool} {z : Bool} : ∀ (n i : Nat), firstB e r z i n = firstLt e r z (List.range' i n)
  | 0, _ => rfl
  | n + 1, i => by
    show (if e i = true then firstB e r z (i + 1) n else r i) = (if e i = true then firstLt e r z (List.range' (i + 1) n) else r i)
    rw [firstB_lt n (i + 1)]
mutual
theorem rcLt_D : ∀ (da db : D) (A : Around) (s : Shared) (a b : Value) (as bs : List Addr) (k : Bool), Reads s.heap a da as → Reads s.heap b db bs → ltD da db = some k → da.canLay0 = true → db.canLay0 = true → A.units + min da.depth db.depth < cLine → RcLt A s a b k
  | .none, db, _, _, _, _, _, _, _, _, _, h, _, _, _ => by cases db <;> cases h
  | .dict _, db, _, _, _, _, _, _, _, _, _, h, _, _, _ => by cases db <;> cases h
  | .bool x, db, A, s, a, b, as, bs, k, ra, rb, h, _, _, _ => by
    cases db with
    | bool y =>
      cases ra
      cases rb
      have e := Option.some.inj h
      intro prog w E Q hq
      refine PyProof.Rows.lt_bool ?_
      have e2 : decide (PyProof.Rows.b2i x < PyProof.Rows.b2i y) = k := by
        rw [← e]
        cases x <;> cases y <;> rfl
      rw [e2]
      exact hq
    | _ => cases h
  | .int x, db, A, s, a, b, as, bs, k, ra, rb, h, _, _, _ => by
    cases db with
    | int y =>
      cases ra
      cases rb
      have e := Option.some.inj h
      intro prog w E Q hq
      refine PyProof.Rows.lt_int ?_
      rw [e]
      exact hq
    | _ => cases h
  | .str x, db, A, s, a, b, as, bs, k, ra, rb, h, _, _, _ => by
    cases db with
    | str y =>
      cases ra
      cases rb
      have e := Option.some.inj h
      intro prog w E Q hq
      refine P.lt_str ?_
      rw [e]
      exact hq
    | _ => cases h
  | .list xs, db, A, s, a, b, as, bs, k, ra, rb, h, ha, hb, hu => by
    cases db with
    | list ys =>
      have h' : ltEach xs ys = some k := h
      have ha' : PyData.canLayAll0 xs = true := ha
      have hb' : PyData.canLayAll0 ys = true := hb
      cases ra with
      | @list l o vs n _ as₁ h1 h2 h3 h4 =>
        cases rb with
        | @list l' o' vs' n' _ bs₁ k1 k2 k3 k4 =>
          have n1 : vs.size = xs.length := by
            have q := ReadsAll.length _ _ _ h4
            simpa using q
          have n2 : vs'.size = ys.length := by
            have q := ReadsAll.length _ _ _ k4
            simpa using q
          have e := ltAll_first xs ys k (ltEach_all xs ys k h')
          rw [firstB_lt, ← n1, ← n2, ← List.range_eq_range'] at e
          rw [← e]
          refine RcLt.lists ⟨_, h1, h2, _, h3⟩ ⟨_, k1, k2, _, k3⟩ (room_here hu) (fun j j1 j2 => ?_) fun j j1 j2 hj => ?_
          · have q := eqAt_readsAll xs ys A.in1 s vs.toList vs'.toList _ _ h4 k4 ha' hb' (room_in hu) j (by simpa using j1) (by simpa using j2)
            simpa using q
          · have q := rcLt_each xs ys A.in1 s vs.toList vs'.toList _ _ h4 k4 ha' hb' (room_in hu) j (by simpa using j1) (by simpa using j2) _ (ltEach_at xs ys k h' j (by omega) (by omega) hj)
            simpa using q
    | _ => cases h
  | .tuple xs, db, A, s, a, b, as, bs, k, ra, rb, h, ha, hb, hu => by
    cases db with
    | tuple ys =>
      have h' : ltAll xs ys = some k := h
      have ha' : PyData.canLayAll0 xs = true := ha
      have hb' : PyData.canLayAll0 ys = true := hb
      cases ra with
      | @tuple l o vs n _ as₁ h1 h2 h3 h4 =>
        cases rb with
        | @tuple l' o' vs' n' _ bs₁ k1 k2 k3 k4 =>
          have n1 : vs.size = xs.length := by
            have q := ReadsAll.length _ _ _ h4
            simpa using q
          have n2 : vs'.size = ys.length := by
            have q := ReadsAll.length _ _ _ k4
            simpa using q
          have e := ltAll_first xs ys k h'
          rw [← n1, ← n2] at e
          rw [← e]
          refine rcLt_tupL ⟨_, h1, h2, _, h3⟩ ⟨_, k1, k2, _, k3⟩ (room_here hu) (fun j j1 j2 _ => ?_) fun j j1 j2 hp hj => ?_
          · have q := eqAt_readsAll xs ys A.in1 s vs.toList vs'.toList _ _ h4 k4 ha' hb' (room_in hu) j (by simpa using j1) (by simpa using j2)
            simpa using q
          · have g := ltAll_at xs ys k h' j (by omega) (by omega) hp hj
            have er : ltR xs ys j = k := by
              unfold ltR
              rw [g]
              rfl
            rw [er]
            have q := rcLt_each xs ys A.in1 s vs.toList vs'.toList _ _ h4 k4 ha' hb' (room_in hu) j (by simpa using j1) (by simpa using j2) _ g
            simpa using q
    | _ => cases h
theorem rcLt_each : ∀ (xs ys : List D) (A : Around) (s : Shared) (vs ws : List Value) (as bs : List Addr), ReadsAll s.heap vs xs as → ReadsAll s.heap ws ys bs → PyData.canLayAll0 xs = true → PyData.canLayAll0 ys = true → A.units + min (PyData.depthAll xs) (PyData.depthAll ys) < cLine →
    ∀ j (g1 : j < vs.length) (g2 : j < ws.length) (k : Bool), ltD (xs.getD j .none) (ys.getD j .none) = some k → RcLt A s vs[j] ws[j] k
  | [], _, _, _, _, _, _, _, ra, _, _, _, _, j, g1, _, _, _ => by cases ra; exact absurd g1 (Nat.not_lt_zero _)
  | _ :: _, [], _, _, _, _, _, _, _, rb, _, _, _, j, _, g2, _, _ => by cases rb; exact absurd g2 (Nat.not_lt_zero _)
  | x :: xs, y :: ys, A, s, _, _, _, _, ra, rb, ha, hb, hu, j, g1, g2, k, h => by
    obtain ⟨a1, a2⟩ := Bool.and_eq_true_iff.mp ha
    obtain ⟨b1, b2⟩ := Bool.and_eq_true_iff.mp hb
    cases ra with
    | cons r rs =>
      cases rb with
      | cons r' rs' =>
        cases j with
        | zero => exact rcLt_D x y A s _ _ _ _ k r r' h a1 b1 (room_head hu)
        | succ j => exact rcLt_each xs ys A s _ _ _ _ rs rs' a2 b2 (room_tail hu) j (Nat.lt_of_succ_lt_succ g1) (Nat.lt_of_succ_lt_succ g2) k h
end
end DL

namespace DL
open PySem PySem.SeqAt PyProof.Rows
/-! ### as a sort compares -/
section
variable {prog : Program} {w : World} {A : Around} {E : Value → Shared → Prop} {s : Shared}
theorem oneLt_D {f : Bool} {da db : D} {a b : Value} {as bs : List Addr} {Q : Bool → Shared → Prop} {k : Bool} (hf : f = true → ∀ xs, da ≠ .tuple xs) (ra : Reads s.heap a da as) (rb : Reads s.heap b db bs) (h : ltD da db = some k) (ha : da.canLay0 = true) (hb : db.canLay0 = true)
    (hu : A.units + min da.depth db.depth < cLine) (hq : Q k s) : wpAny (model prog w) A (oneLt' f a b) Q E s := by
  cases f with
  | false =>
    rw [oneLt'_eq, if_neg Bool.false_ne_true]
    exact wpAny_bind (rcLt_D da db A s a b as bs k ra rb h ha hb hu prog w E _ (wpAny_truthy_bool hq))
  | true =>
    cases da with
    | none => cases db <;> cases h
    | dict _ => cases db <;> cases h
    | tuple xs => exact absurd rfl (hf rfl xs)
    | bool x =>
      cases db with
      | bool y =>
        cases ra
        cases rb
        refine PySem.W.oneLt_bool ?_
        have e2 : decide (PyProof.Rows.b2i x < PyProof.Rows.b2i y) = k := by
          rw [← Option.some.inj h]
          cases x <;> cases y <;> rfl
        rw [e2]
        exact hq
      | _ => cases h
    | int x =>
      cases db with
      | int y =>
        cases ra
        cases rb
        refine PyProof.Rows.oneLt_int ?_
        rw [Option.some.inj h]
        exact hq
      | _ => cases h
    | str x =>
      cases db with
      | str y =>
        cases ra
        cases rb
        refine PyProof.Rows.oneLt_str ?_
        rw [Option.some.inj h]
        exact hq
      | _ => cases h
    | list xs =>
      cases db with
      | list ys =>
        have h' : ltEach xs ys = some k := h
        have ha' : PyData.canLayAll0 xs = true := ha
        have hb' : PyData.canLayAll0 ys = true := hb
        cases ra with
        | @list l o vs n _ as₁ h1 h2 h3 h4 =>
          cases rb with
          | @list l' o' vs' n' _ bs₁ k1 k2 k3 k4 =>
            have n1 : vs.size = xs.length := by
              have q := ReadsAll.length _ _ _ h4
              simpa using q
            have n2 : vs'.size = ys.length := by
              have q := ReadsAll.length _ _ _ k4
              simpa using q
            have e := ltAll_first xs ys k (ltEach_all xs ys k h')
            rw [firstB_lt, ← n1, ← n2, ← List.range_eq_range'] at e
            rw [oneLt'_eq, if_pos rfl]
            refine wpAny_bind (wpAny_cRoomFor (room_here hu) ?_)
            refine wpAny_bind (wpAny_callSpecialIfBound?_slot (T := "list") ⟨_, h1, h2⟩ PySem.F.slot_list_lt (call_list_lt (e := pairEq xs ys) (r := ltR xs ys) ⟨_, h1, h2, _, h3⟩ ⟨_, k1, k2, _, k3⟩ (fun j j1 j2 => ?_) (fun j j1 j2 hj => ?_) ?_))
            · have q := eqAt_readsAll xs ys A.in1 s vs.toList vs'.toList _ _ h4 k4 ha' hb' (room_in hu) j (by simpa using j1) (by simpa using j2)
              simpa using q
            · have q := rcLt_each xs ys A.in1 s vs.toList vs'.toList _ _ h4 k4 ha' hb' (room_in hu) j (by simpa using j1) (by simpa using j2) _ (ltEach_at xs ys k h' j (by omega) (by omega) hj)
              simpa using q
            · rw [e]
              exact wpAny_truthy_bool hq
      | _ => cases h
theorem katLex_D {b fin : Bool} {Q : Bool → Shared → Prop} : ∀ (xs ys : List D) (i : Nat) (vs ws : List Value) (as bs : List Addr) (k : Bool), ReadsAll s.heap vs xs as → ReadsAll s.heap ws ys bs → ltAll xs ys = some k → PyData.canLayAll0 xs = true → PyData.canLayAll0 ys = true →
    A.units + min (PyData.depthAll xs) (PyData.depthAll ys) < cLine → (b = true → i = 0 → ∀ x r t, xs = x :: r → x ≠ .tuple t) → fin = decide (xs.length < ys.length) → Q k s → PySem.W.KatLex prog w A b fin Q (vs.zip ws) i s
  | [], [], _, _, _, _, _, k, ra, rb, h, _, _, _, _, hf, hq => by
    cases ra
    cases rb
    have e : fin = k := by rw [hf, ← Option.some.inj h]; rfl
    rw [← e] at hq
    exact PySem.W.kat_nil hq
  | [], y :: ys, _, _, _, _, _, k, ra, rb, h, _, _, _, _, hf, hq => by
    cases ra
    have e : fin = k := by rw [hf, ← Option.some.inj h]; exact decide_eq_true (Nat.succ_pos _)
    rw [← e] at hq
    rw [List.zip_nil_left]
    exact PySem.W.kat_nil hq
  | x :: xs, [], _, _, _, _, _, k, ra, rb, h, _, _, _, _, hf, hq => by
    cases rb
    have e : fin = k := by rw [hf, ← Option.some.inj h]; exact decide_eq_false (Nat.not_lt_zero _)
    rw [← e] at hq
    rw [List.zip_nil_right]
    exact PySem.W.kat_nil hq
  | x :: xs, y :: ys, i, _, _, _, _, k, ra, rb, h, ha, hb, hu, hn, hf, hq => by
    have h' : (if PyData.eqv x y = true then ltAll xs ys else ltD x y) = some k := h
    obtain ⟨a1, a2⟩ := Bool.and_eq_true_iff.mp ha
    obtain ⟨b1, b2⟩ := Bool.and_eq_true_iff.mp hb
    have hf' : fin = decide (xs.length < ys.length) := by rw [hf]; simp only [List.length_cons, Nat.add_lt_add_iff_right]
    cases ra with
    | cons r rs =>
      cases rb with
      | cons r' rs' =>
        rw [List.zip_cons_cons]
        refine PySem.W.kat_cons (eqAt_reads x y A s _ _ _ _ r r' a1 b1 (room_head hu) prog w _ _ ?_)
        cases hx : PyData.eqv x y with
        | true =>
          rw [if_pos hx] at h'
          exact PySem.W.kat_yes (katLex_D xs ys (i + 1) _ _ _ _ k rs rs' h' a2 b2 (room_tail hu) (fun _ hi => absurd hi (Nat.succ_ne_zero i)) hf' hq)
        | false =>
          rw [if_neg (by rw [hx]; exact Bool.false_ne_true)] at h'
          refine PySem.W.kat_no (oneLt_D (fun hbi t => ?_) r r' h' a1 b1 (room_head hu) hq)
          rw [Bool.and_eq_true] at hbi
          exact hn hbi.1 (by simpa using hbi.2) x xs t rfl
end
/-! ### keys by rank -/
def intOrd : PyProof.Rows.KeyOrd where
  α := Int
  blt a b := decide (a < b)
  irrefl a := decide_eq_false (Int.lt_irrefl a)
  trans a b c h1 h2 := decide_eq_true (Int.lt_trans (of_decide_eq_true h1) (of_decide_eq_true h2))
  negTrans a b c h := by
    have q := of_decide_eq_true h
    by_cases z : a < b
    · exact .inl (decide_eq_true z)
    · exact .inr (decide_eq_true (by omega))
  total a b h1 h2 := by
    have q1 := of_decide_eq_false h1
    have q2 := of_decide_eq_false h2
    omega
noncomputable def rankKind (h : Heap) (ds : List D) (rank : D → Int) : PyProof.Rows.KeyKind where
  toKeyOrd := intOrd
  keyOf v := open Classical in if q : ∃ d, d ∈ ds ∧ ∃ as, Reads h v d as then some (rank q.choose) else none
  dflt := (0 : Int)
/-- the keys can be compared, as rank says -/
def Ranked (rank : D → Int) (ds : List D) : Prop := ∀ d ∈ ds, d.canLay0 = true ∧ ∀ e ∈ ds, ltD d e = some (decide (rank d < rank e))
/-- all are tuples whose first items are of one type, or all are of one type that is not tuple -/
def Kinded (ds : List D) : Prop := (∃ T, ∀ d ∈ ds, ∃ x r, d = .tuple (x :: r) ∧ PySem.W.dataType x = .type T) ∨ ∃ T, T ≠ "tuple" ∧ ∀ d ∈ ds, PySem.W.dataType d = .type T
theorem rankKind_some {h : Heap} {ds : List D} {rank : D → Int} {v : Value} {d : D} {as : List Addr} (hr : Ranked rank ds) (hd : d ∈ ds) (r : Reads h v d as) : (rankKind h ds rank).keyOf v = some (rank d) := by
  have q : ∃ d, d ∈ ds ∧ ∃ as, Reads h v d as := ⟨d, hd, as, r⟩
  have e : (rankKind h ds rank).keyOf v = some (rank q.choose) := by
    show (open Classical in if q : ∃ d, d ∈ ds ∧ ∃ as, Reads h v d as then some (rank q.choose) else none) = _
    rw [dif_pos q]
  obtain ⟨g1, as', g2⟩ := q.choose_spec
  rw [e, Reads.unique _ _ _ _ _ (hr _ hd).1 r g2]
theorem rankKind_inv {h : Heap} {ds : List D} {rank : D → Int} {v : Value} {k : Int} (e : (rankKind h ds rank).keyOf v = some k) : ∃ d as, d ∈ ds ∧ Reads h v d as ∧ k = rank d := by
  by_cases q : ∃ d, d ∈ ds ∧ ∃ as, Reads h v d as
  · have e1 : (rankKind h ds rank).keyOf v = some (rank q.choose) := by
      show (open Classical in if q : ∃ d, d ∈ ds ∧ ∃ as, Reads h v d as then some (rank q.choose) else none) = _
      rw [dif_pos q]
    obtain ⟨g1, as', g2⟩ := q.choose_spec
    rw [e1] at e
    exact ⟨_, as', g1, g2, (Option.some.inj e).symm⟩
  · have e1 : (rankKind h ds rank).keyOf v = none := by
      show (open Classical in if q : ∃ d, d ∈ ds ∧ ∃ as, Reads h v d as then some (rank q.choose) else none) = _
      rw [dif_neg q]
      rfl
    rw [e1] at e
    cases e
section
variable {prog : Program} {w : World} {A : Around} {s : Shared}
theorem ranked_sorts {vs : List Value} {ds : List D} {rank : D → Int} (e : PySem.W.EachIs (fun v d => ∃ as, Reads s.heap v d as) vs ds) (hr : Ranked rank ds) (hk : Kinded ds) (hu : ∀ d ∈ ds, A.units + d.depth < cLine) : PySem.W.SortsAt prog w A s (rankKind s.heap ds rank) vs := by
  have room : ∀ {d d' : D}, d ∈ ds → A.units + min d.depth d'.depth < cLine := fun {d d'} hd => Nat.lt_of_le_of_lt (Nat.add_le_add_left (Nat.min_le_left _ _) _) (hu d hd)
  refine ⟨fun v hv => ?_, ?_⟩
  · obtain ⟨d, hd, as, r⟩ := e.left v hv
    exact ⟨_, rankKind_some hr hd r⟩
  · rcases hk with ⟨T, ht⟩ | ⟨T, hT, ht⟩
    · refine ⟨tuples' (Value.type T != Value.type "tuple"), ?_, fun h2 E Q hq => ?_⟩
      · intro E x y a b Q ha hb hq
        obtain ⟨d, as, hd, ra, rfl⟩ := rankKind_inv ha
        obtain ⟨d', as', hd', rb, rfl⟩ := rankKind_inv hb
        have hlt := (hr d hd).2 d' hd'
        have c1 := (hr d hd).1
        have c2 := (hr d' hd').1
        have hroom := room (d' := d') hd
        obtain ⟨x1, r1, rfl, t1⟩ := ht d hd
        obtain ⟨x2, r2, rfl, t2⟩ := ht d' hd'
        cases ra with
        | @tuple l o xs n _ _ h1 h2 h3 h4 =>
          cases rb with
          | @tuple l' o' xs' n' _ _ k1 k2 k3 k4 =>
            have n1 : xs.size = (x1 :: r1).length := by
              have q := ReadsAll.length _ _ _ h4
              simpa using q
            have n2 : xs'.size = (x2 :: r2).length := by
              have q := ReadsAll.length _ _ _ k4
              simpa using q
            refine PySem.W.kat_lt h1 h3 k1 k3 (katLex_D (x1 :: r1) (x2 :: r2) 0 _ _ _ _ _ h4 k4 hlt c1 c2 (by have q := room_in hroom; omega) (fun hb _ x r t ex => ?_) (by rw [n1, n2]) hq)
            obtain ⟨rfl, rfl⟩ := List.cons.inj ex
            rw [← t1] at hb
            exact PySem.W.dataType_tuple hb t
      · obtain ⟨fs, t1, t2, t3⟩ := PySem.W.each_katTups e fun d hd => by
          obtain ⟨x, r, e, _⟩ := ht d hd
          exact ⟨x, r, e⟩
        refine PySem.W.kat_kind (T := .type T) t1 (by omega) (fun f hf => ?_) (beq_self_eq_true _) hq
        obtain ⟨x, r, as, m1, m2⟩ := t3 f hf
        obtain ⟨x', r', e', hx⟩ := ht _ m1
        injection e' with e'
        obtain ⟨rfl, rfl⟩ := List.cons.inj e'
        rw [← hx]
        exact PySem.W.looks_reads m2
    · refine ⟨oneType', ?_, fun h2 E Q hq => ?_⟩
      · intro E x y a b Q ha hb hq
        obtain ⟨d, as, hd, ra, rfl⟩ := rankKind_inv ha
        obtain ⟨d', as', hd', rb, rfl⟩ := rankKind_inv hb
        rw [keyLt'_oneType]
        refine oneLt_D (fun _ xs z => ?_) ra rb ((hr d hd).2 d' hd') (hr d hd).1 (hr d' hd').1 (room hd) hq
        have q := ht d hd
        rw [z] at q
        injection q with q
        exact hT q.symm
      · cases vs with
        | nil => exact absurd h2 (by simp)
        | cons v0 vs0 =>
          refine PySem.W.kas_kind (T := .type T) h2 (fun v hv => ?_) ?_ (beq_self_eq_true _) hq
          · obtain ⟨d, hd, as, r⟩ := e.left v hv
            rw [← ht d hd]
            exact PySem.W.looks_reads r
          · exact bne_iff_ne.mpr fun z => by
              injection z with z
              exact hT z
end
def byRank {β : Type} (k : β → Int) (a b : β) : Bool := decide (k a ≤ k b)
theorem sortLe_rank {β : Type} (k : β → Int) : PySem.W.sortLe intOrd false k = byRank k := by
  funext a b
  show (!decide (k b < k a)) = decide (k a ≤ k b)
  by_cases q : k a ≤ k b
  · rw [decide_eq_true q, decide_eq_false (by omega)]
    rfl
  · rw [decide_eq_false q, decide_eq_true (by omega)]
    rfl
end DL

namespace DL
open PySem PySem.Spec PyProof.Rows L2 LamX NdefX
/-! ### sorted(xs, ..) of a list or a tuple: list.sort of a new list -/
theorem srt_seq {prog : Program} {w : World} {A : Around} {E : Value → Shared → Prop} {s : Shared} {it : Addr} {o : Obj} {T : String} {its : Array Value} {n : Nat} {kw : List (Str × Value)} {Q : Value → Shared → Prop} (hT : T = "list" ∨ T = "tuple") (ho : s.heap.get? it = some o) (hc : o.cls = .type T) (hd : o.data = .seq its n) (hz : its.size ≤ sizeLine)
    (h1 : argsOk "sorted" ⟨[.ref it], kw⟩) (h2 : ∀ x, argsOk "list.sort" ⟨[.ref x], kw⟩)
    (go : ∀ (h' : Heap) (E' : Value → Shared → Prop), (∀ c u, s.heap.get? c = some u → h'.get? c = some u) →
      wpAny (model prog w) A.in1.in1 (Builtin.«list.sort» ⟨[.ref h'.objs.size], kw⟩) (fun r s' => r = .done (.ret .none) ∧ Q (.ref h'.objs.size) s') E' { s with heap := h'.push (seqObj "list" its 0) }) :
    wpAny (model prog w) A (call (.builtin "sorted") [.ref it] kw) Q E s := by
  refine call_function_entry_kw PyProof.Rows.kind_sorted PyProof.Rows.plain_sorted PyProof.Rows.entry_sorted h1 ?_
  unfold Builtin.«sorted»
  refine wpAny_bind (m := checkCount "sorted" 1 1 _) (wpAny_pure ?_)
  refine wpAny_bind (PySem.wpAny_collect_seq it hT ho hc hd (fun h' kp => ?_) hz)
  refine wpAny_bind (wpAny_newList ?_ (by rw [Array.length_toList]; exact hz))
  have ea : its.toList.toArray = its := Array.toArray_toList
  have at_ : (h'.push (seqObj "list" its 0)).get? h'.objs.size = some (seqObj "list" its 0) := Heap.get?_push_size _ rfl
  show wpAny _ _ _ _ _ { s with heap := h'.push (seqObj "list" its.toList.toArray 0) }
  rw [ea]
  refine wpAny_bind (wpAny_holding (wpAny_call_entry_kw slot_list_sort ⟨_, at_, rfl⟩ entry_list_sort ?_ (h2 _)))
  show wpAny (model prog w) A.in1.in1 (Builtin.«list.sort» ⟨[.ref h'.objs.size], kw⟩) _ _ _
  refine wpAny_mono (go h' _ kp) (fun r s' hr => ?_) fun _ _ e => e
  obtain ⟨rfl, hq⟩ := hr
  exact ⟨_, rfl, wpAny_pure ⟨_, rfl, hq⟩⟩
variable [Tbs] [Bse]
/-! ### the keys are told, the items put in order -/
theorem out_vals {h : Heap} {K : PySem.W.Frag} {F : Hp} : ∀ {out : List Value} {es : List D}, PySem.W.EachIs (fun u d => ∃ x, RelV x u ∧ Dp K F x d) out es → ∃ ys, Vals ys out ∧ DpAll K F ys es
  | _, _, .nil => ⟨[], .nil, .nil⟩
  | _, _, .cons ⟨x, r, dp⟩ t => by
    obtain ⟨ys, q1, q2⟩ := out_vals (h := h) t
    exact ⟨x :: ys, .cons r q1, .cons dp q2⟩
theorem each_in {K : PySem.W.Frag} {F : Hp} : ∀ {xs : List V} {us : List Value} {es : List D}, Vals xs us → DpAll K F xs es → PySem.W.EachIs (fun u d => ∃ x, RelV x u ∧ Dp K F x d) us es
  | _, _, _, .nil, .nil => .nil
  | _, _, _, .cons r t, .cons a q => .cons ⟨_, r, a⟩ (each_in t q)
theorem vals_snoc : ∀ {xs : List V} {us : List Value} {x : V} {u : Value}, Vals xs us → RelV x u → Vals (xs ++ [x]) (us ++ [u])
  | _, _, _, _, .nil, r => .cons r .nil
  | _, _, _, _, .cons a t, r => .cons a (vals_snoc t r)
section
variable {X : Cx} {pins : List (Addr × Obj)} {σ : L2.St} {F H : Hp} {s : Shared} {A : Around} {E : Value → Shared → Prop} {P : PySem.Fin → Shared → Prop} {a kS : Addr} {fv : Value} {κ : D → D} {rank : D → Int} {ds : List D} {xs : List V} {its : List Value} {e1 : Nat}
/-- a call of the key's function, while the sort goes on -/
def KTurn (X : Cx) (pins : List (Addr × Obj)) (σ : L2.St) (H0 : Hp) (A : Around) (fv : Value) (κ : D → D) (ds : List D) : Prop :=
  ∀ (F' H' : Hp) (s' : Shared) (x : V) (u : Value) (d : D), Inv X pins σ H' s' → Tf F' H' → Same F' H' → Kp H0 H' → RelV x u → Dp X.K F' x d → d ∈ ds →
    wpAny (model X.prog X.w) A (call fv [u]) (fun k s2 => ∃ kv F2 H2, Inv X pins σ H2 s2 ∧ RelV kv k ∧ Gr F' H' F2 H2 ∧ Dp X.K F2 kv (κ d) ∧
      ∀ c o, H' c = none → c ∉ frs X.stack → s'.heap.get? c = some o → s2.heap.get? c = some o ∧ H2 c = none) (fun _ _ => False) s'
theorem fp_next {H H' : Hp} {c : Addr} (h : FpOk X pins H c) (n : H' c = none) : FpOk X pins H' c := ⟨n, h.2⟩
theorem fp_stk (I : Inv X pins σ H s) {c : Addr} (h : FpOk X pins H c) : c ∉ frs X.stack := fun z => by
  rcases List.mem_cons.mp (I.stkSub c z) with e | e
  · exact h.2.1 e
  · exact h.2.2.1 e
theorem ks_rest (I : Inv X pins σ H s) (tf : Tf F H) (fs : Same F H) (fa : FpOk X pins H a) (fk : FpOk X pins H kS) (hka : kS ≠ a) (nk : s.heap.get? kS = some (seqObj "list" #[] 0)) (na : s.heap.get? a = some (seqObj "list" #[] e1))
    (rv : Vals xs its) (hd : DpAll X.K F xs ds) (hz : ds.length ≤ sizeLine) (hal : Ranked rank (ds.map κ)) (hsk : Kinded (ds.map κ)) (hu : ∀ d ∈ ds, A.units + (κ d).depth < cLine) (turn : KTurn X pins σ H A fv κ ds)
    (h : ∀ (F2 H2 : Hp) (s2 : Shared) (ys : List V), Inv X pins σ (upd H2 a (.lst ys)) s2 → Gr F H F2 H2 → H2 a = none → DpAll X.K F2 ys (ds.mergeSort (byRank fun d => rank (κ d))) → P (.done (.ret .none)) s2) :
    wpAny (model X.prog X.w) A (ksk_rest a fv false its.toArray e1 (.ref kS)) P E s := by
  have hlen : ds.length = its.length := by rw [← dpa_len hd, rv.length]
  unfold ksk_rest
  refine wpAny_bind (wpAny_rule ?_)
  rw [List.forIn_toArray]
  refine wpAny_bind (ksk_fold (fun i s' => ∃ F' H' kA e kvs, Inv X pins σ H' s' ∧ Gr F H F' H' ∧ s'.heap.get? kS = some (seqObj "list" kA e) ∧ s'.heap.get? a = some (seqObj "list" #[] e1) ∧ H' a = none ∧ H' kS = none ∧
      Vals kvs kA.toList ∧ DpAll X.K F' kvs ((ds.take i).map κ)) its 0 s ⟨F, H, #[], 0, [], I, Gr.refl fs, nk, na, fa.1, fk.1, .nil, by rw [List.take_zero]; exact .nil⟩ ?one ?fin)
  case one =>
    rintro j u s' hj ⟨F', H', kA, e, kvs, I', g, nk', na', oa, ok, rk, dk⟩
    simp only [Nat.zero_add] at dk ⊢
    have hjl : j < its.length := (List.getElem?_eq_some_iff.mp hj).1
    obtain ⟨d, hdj⟩ : ∃ d, ds[j]? = some d := ⟨_, List.getElem?_eq_getElem (by omega)⟩
    obtain ⟨x, hx, dx⟩ := dpa_getD hd hdj
    obtain ⟨u', hu', rx⟩ := rv.get hx
    have eu : u' = u := Option.some.inj (hu'.symm.trans hj)
    subst eu
    have fa' := fp_next fa oa
    have fk' := fp_next fk ok
    refine wpAny_bind (wpAny_attempt (wpAny_mono (turn F' H' s' x u' d I' (g.tb tf) g.fh g.hh rx (dp_mono g.ff d x dx) (List.mem_of_getElem? hdj)) (fun k s2 hk => ?_) fun _ _ z => z.elim))
    obtain ⟨kv, F2, H2, I2, r2, g2, dp2, keep⟩ := hk
    try dsimp only
    obtain ⟨nk2, ok2⟩ := keep kS _ ok (fp_stk I' fk') nk'
    obtain ⟨na2, oa2⟩ := keep a _ oa (fp_stk I' fa') na'
    have sb := Heap.SameBut.update s2.heap kS (Obj.mapSeq (·.push k))
    obtain ⟨c2, hc2⟩ : ∃ c2, (s2.heap.update kS (Obj.mapSeq (·.push k))).get? kS = some (seqObj "list" (kA.push k) c2) := ⟨_, get?_update_seq nk2 (·.push k)⟩
    have hzk : kA.size ≤ sizeLine := by
      have q1 := rk.length
      have q2 := dpa_len dk
      rw [List.length_map, List.length_take] at q2
      have q3 : kA.toList.length = kA.size := Array.length_toList
      have q4 : kvs.length = kA.toList.length := q1
      omega
    refine wpAny_bind (listUpdate_at nk2 rfl ?_ hzk (Nat.le_trans (Nat.le_of_eq (Array.size_push ..)) (Nat.succ_le_succ hzk)))
    refine wpAny_pure ⟨rfl, F2, H2, kA.push k, c2, kvs ++ [kv], I2.turnedL (ch := [kS]) (fun c o hc q => (sb.2 c (fun z => hc (by simp [z]))).trans q) (fun c hc => ?_), g.trans g2, hc2, (sb.2 a hka.symm).trans na2, oa2, ok2, ?_, ?_⟩
    · rw [List.mem_singleton.mp hc]
      exact fp_next fk ok2
    · rw [Array.toList_push]
      exact vals_snoc rk r2
    · rw [List.take_add_one, hdj, List.map_append]
      exact dpa_app (dpa_mono g2.ff _ _ dk) (.cons dp2 .nil)
  case fin =>
    rintro s' ⟨F', H', kA, e, kvs, I', g, nk', na', oa, ok, rk, dk⟩
    have et : ds.take (0 + its.length) = ds := List.take_of_length_le (by omega)
    rw [et] at dk
    have hks : kA.size = its.length := by
      have q1 := rk.length
      have q2 := dpa_len dk
      rw [List.length_map] at q2
      have q3 : kA.toList.length = kA.size := Array.length_toList
      have q4 : kvs.length = kA.toList.length := q1
      omega
    have hk' : PySem.W.EachIs (fun v k => ∃ as, Reads s'.heap v k as) kA.toList (ds.map κ) := (each_in rk dk).mono fun u d ⟨x, r, dp⟩ => Dp.reads I' d x u (dp_mono g.fh d x dp) r
    have up : ∀ c o, c ≠ kS → s'.heap.get? c = some o → (hidT s'.heap fun c => if c = kS then some (.lst []) else none).get? c = some o := fun c o hc q => hidT_get q (if_neg hc)
    refine wpAny_bind (listItems_at nk' rfl ?_)
    refine PySem.W.keyH_end (κ := rankKind s'.heap (ds.map κ) rank) (h₁ := hidT s'.heap fun c => if c = kS then some (.lst []) else none) (fun c o hc q => (of_hidT q).1) ?_ nk' na' hka
      (ranked_sorts hk' hal hsk (fun k hk => ?_)) hks (by omega) fun h' tk c kp hout => ?_
    · cases q : (hidT s'.heap fun c => if c = kS then some (.lst []) else none).get? kS with
      | none => rfl
      | some o =>
        have z := (of_hidT q).2
        rw [if_pos rfl] at z
        cases z
    · obtain ⟨d, hd1, rfl⟩ := List.mem_map.mp hk
      exact hu d hd1
    · have hkz : PySem.W.EachIs (fun v d => (rankKind s'.heap (ds.map κ) rank).keyOf v = some (rank (κ d))) kA.toList ds :=
        (PySem.W.each_of_map κ (PySem.W.each_mem hk')).mono fun v d ⟨⟨as, r⟩, hm⟩ => rankKind_some hal hm r
      have each := PySem.W.sortVals_each (rev := false) (κ := rankKind s'.heap (ds.map κ) rank) (fun d => rank (κ d)) (each_in (F := F') rv (dpa_mono g.ff _ _ hd)) hkz
      have e5 : PySem.W.sortLe (rankKind s'.heap (ds.map κ) rank).toKeyOrd false (fun d => rank (κ d)) = byRank fun d => rank (κ d) := sortLe_rank _
      rw [e5] at each
      obtain ⟨ys, ry, dy⟩ := out_vals (h := s'.heap) each
      have I1 : Inv X pins σ H' { s' with heap := h', toks := tk } := I'.turnedL (ch := [a, kS]) (fun c o hc q => kp c o (fun z => hc (by simp [z])) (up c o (fun z => hc (by simp [z])) q)) fun c hc => by
        rcases List.mem_cons.mp hc with rfl | hc
        · exact fp_next fa oa
        · rw [List.mem_singleton.mp hc]
          exact fp_next fk ok
      refine h F' H' _ ys (I1.take (t' := tk) (h' := h') (fun _ _ _ q => q) (fp_next fa oa) ?_) g oa dy
      refine ⟨?_, _, _, ry, hout⟩
      rw [dpa_len dy, List.length_mergeSort]
      exact hz
theorem ks_tree {n : Nat} (I : Inv X pins σ H s) (tf : Tf F H) (fs : Same F H) (fa : FpOk X pins H a) (na : s.heap.get? a = some (seqObj "list" its.toArray n))
    (rv : Vals xs its) (hd : DpAll X.K F xs ds) (hz : ds.length ≤ sizeLine) (hal : Ranked rank (ds.map κ)) (hsk : Kinded (ds.map κ)) (hu : ∀ d ∈ ds, A.units + (κ d).depth < cLine) (turn : KTurn X pins σ H A fv κ ds)
    (h : ∀ (F2 H2 : Hp) (s2 : Shared) (ys : List V), Inv X pins σ (upd H2 a (.lst ys)) s2 → Gr F H F2 H2 → H2 a = none → DpAll X.K F2 ys (ds.mergeSort (byRank fun d => rank (κ d))) → P (.done (.ret .none)) s2) :
    wpAny (model X.prog X.w) A (ksk_tree a fv false) P E s := by
  have hlen : ds.length = its.length := by rw [← dpa_len hd, rv.length]
  have hzv : its.toArray.size ≤ sizeLine := by rw [List.size_toArray]; omega
  obtain ⟨e1, ho1⟩ : ∃ e1, (s.heap.update a (Obj.mapSeq fun _ => (#[] : Array Value))).get? a = some (seqObj "list" #[] e1) := ⟨_, get?_update_seq na fun _ => #[]⟩
  have sb := Heap.SameBut.update s.heap a (Obj.mapSeq fun _ => (#[] : Array Value))
  unfold ksk_tree
  refine wpAny_bind (listItems_at na rfl ?_)
  refine wpAny_bind (listUpdate_at na rfl ?_ hzv (Nat.zero_le _))
  refine wpAny_bind (seqEpoch_at ho1 rfl ?_)
  refine wpAny_bind (wpAny_newTuple ?_ (by show its.length ≤ _; omega))
  refine wpAny_bind (wpAny_newList ?_ (Nat.zero_le _))
  refine wpAny_holding ?_
  have I1 : Inv X pins σ H { s with heap := s.heap.update a (Obj.mapSeq fun _ => (#[] : Array Value)) } := I.turnedL (t' := s.toks) (ch := [a]) (fun c o hc q => (sb.2 c (fun z => hc (by simp [z]))).trans q) fun c hc => by
    rw [List.mem_singleton.mp hc]
    exact fa
  have I2 : Inv X pins σ H { s with heap := (s.heap.update a (Obj.mapSeq fun _ => (#[] : Array Value))).push (seqObj "tuple" its.toArray 0) } := I1.kept (t' := s.toks) fun c o q => Heap.get?_push_of_some _ q
  have I3 : Inv X pins σ H { s with heap := ((s.heap.update a (Obj.mapSeq fun _ => (#[] : Array Value))).push (seqObj "tuple" its.toArray 0)).push (seqObj "list" #[] 0) } := I2.kept (t' := s.toks) fun c o q => Heap.get?_push_of_some _ q
  have fk : FpOk X pins H ((s.heap.update a (Obj.mapSeq fun _ => (#[] : Array Value))).push (seqObj "tuple" its.toArray 0)).objs.size := I2.fpOk (Nat.le_refl _) (I2.hok.fresh (Nat.le_refl _))
  refine ks_rest (e1 := e1) (s := { s with heap := ((s.heap.update a (Obj.mapSeq fun _ => (#[] : Array Value))).push (seqObj "tuple" its.toArray 0)).push (seqObj "list" #[] 0) }) (kS := ((s.heap.update a (Obj.mapSeq fun _ => (#[] : Array Value))).push (seqObj "tuple" its.toArray 0)).objs.size)
    I3 tf fs fa fk ?_ (Heap.get?_push_size _ rfl) (Heap.get?_push_of_some _ (Heap.get?_push_of_some _ ho1)) rv hd hz hal hsk hu turn h
  have hlt := Heap.lt_size ho1
  rw [size_push']
  exact Nat.ne_of_gt (Nat.lt_succ_of_lt hlt)
/-- sorted(xs, key=f), xs a list or a tuple -/
theorem ks_sorted {Q : VK} {it : Addr} (I : Inv X pins σ H s) (tf : Tf F H) (fs : Same F H) (hq : SqL X.K H it xs ∨ SqT X.K H it xs) (hd : DpAll X.K F xs ds) (hal : Ranked rank (ds.map κ)) (hsk : Kinded (ds.map κ)) (hu : ∀ d ∈ ds, X.A.units + 2 + (κ d).depth < cLine)
    (ht : ∀ x, Builtin.«list.sort» ⟨[.ref x], [(Str.ofString "key", fv)]⟩ = ksk_tree x fv false) (turn : KTurn X pins σ H X.A.in1.in1 fv κ ds)
    (q : ∀ (F2 H2 : Hp) (p : Addr) (ys : List V), Gr F H F2 H2 → H p = none → H2 p = none → DpAll X.K F2 ys (ds.mergeSort (byRank fun d => rank (κ d))) → Q (.ref p) (upd H2 p (.lst ys))) :
    wpAny (model X.prog X.w) X.A (call (.builtin "sorted") [.ref it] [(Str.ofString "key", fv)]) (EP X pins σ Q) X.xe s := by
  obtain ⟨T, o, its, n, hT, ho, hc, hdt, rv, hz⟩ : ∃ (T : String) (o : Obj) (its : List Value) (n : Nat), (T = "list" ∨ T = "tuple") ∧ s.heap.get? it = some o ∧ o.cls = .type T ∧ o.data = .seq its.toArray n ∧ Vals xs its ∧ xs.length ≤ sizeLine := by
    rcases hq with hq | hq
    · obtain ⟨its, rv, p, hz⟩ := I.list hq
      obtain ⟨o, ho, hc, n, hd⟩ := p.isList
      exact ⟨"list", o, its, n, .inl rfl, ho, hc, hd, rv, hz⟩
    · obtain ⟨its, rv, p, hz⟩ := I.tuple hq
      obtain ⟨o, ho, hc, n, hd⟩ := p
      exact ⟨"tuple", o, its, n, .inr rfl, ho, hc, hd, rv, hz⟩
  refine srt_seq hT ho hc hdt (by rw [List.size_toArray, ← rv.length]; exact hz) (ksk_s1 _ _) (fun _ => ksk_l1 _ _) fun h' E' kp => ?_
  have I1 : Inv X pins σ H { s with heap := h' } := I.kept (t' := s.toks) kp
  have I2 : Inv X pins σ H { s with heap := h'.push (seqObj "list" its.toArray 0) } := I1.kept (t' := s.toks) fun c o q => Heap.get?_push_of_some _ q
  have hn : H h'.objs.size = none := I1.hok.fresh (Nat.le_refl _)
  rw [ht]
  refine ks_tree (s := { s with heap := h'.push (seqObj "list" its.toArray 0) }) I2 tf fs (I1.fpOk (Nat.le_refl _) hn) (Heap.get?_push_size _ rfl) rv hd (by rw [← dpa_len hd]; exact hz) hal hsk (fun d hd => hu d hd) turn fun F2 H2 s2 ys I3 g oa dy => ?_
  exact ⟨rfl, .ref h'.objs.size, _, I3, rfl, q F2 H2 _ ys g hn oa dy⟩
end
end DL

namespace DL
open PySem PySem.Spec PyProof.Rows L2 LamX NdefX
variable [Tbs] [Bse]
theorem Kp.at {H H' : Hp} {a : Addr} {o : HO} (h : Kp H H') (e : H a = some o) (n : ∀ ps, o ≠ .tbl ps) : H' a = some o := by
  rcases h a o e with r | ⟨ps, _, z, _⟩
  · exact r
  · exact absurd z (n ps)
theorem Gr.kp {F H H' : Hp} (tf : Tf F H) (fs : Same F H) (h : Kp H H') (t : Tab H') : Gr F H F H' :=
  ⟨h, Same.refl _, fun a o e => h.at (fs a o e) fun ps z => tf.n a ps (by rw [e, z]), fun a o e => .inl ⟨o, e⟩, fun q => ⟨t, q.z, fun z => (q.m z).imp fun _ e => h.at e fun ps y => by cases y⟩⟩
/-! ### a lambda as a value -/
def tLam (mk : Addr → NF) (body : Expr) : TE := fun σ H Q => Tab H ∧ ∀ (f c' : Addr) (H1 : Hp), Kp H H1 → Tab H1 → H f = none → H1 f = some (LmO f (mk c') body) → H1 (mk c').c = some (CodeO (mk c').c (mk c').qual) → Q (.ref f) H1
section
variable {X : Cx} {pins : List (Addr × Obj)} {σ : L2.St} {H : Hp} {s : Shared}
theorem pe_lam {nm : Nat → Nat → Str} {c P : Addr} {params : Arguments} {body : Expr} {scope : Scope} {pos : Pos} (TB : TabB X.base X.mg c P) (hcode : X.env.code = .ref c)
    (hm : (P, nm) ∈ Tbs.T) (hn : nm pos.line pos.col = X.env.qual ++ "<lambda>") (hu : ∀ p ∈ Tbs.T, p.1 = P → p.2 = nm) (hdef : defaultsOf params X.env = ([], [])) (hfree : ∀ y ∈ scope.names, y.2 = .free → X.env.scope.names.lookup y.1 = some .cell ∨ X.env.scope.names.lookup y.1 = some .free) :
    PE X (.Lambda params body scope pos) (tLam (lamNF (X.env.qual ++ "<lambda>") params scope (cloFrom X.env.cells scope.names [])) body) := by
  refine ⟨fun pins s σ H Q I ⟨hT, q⟩ => ?_⟩
  have hfr : ∀ y ∈ scope.names, y.2 = .free → ∃ c, X.env.cells.lookup y.1 = some c := fun y hy e => (hfree y hy e).elim (fun z => I.ok.has _ (.inl z)) fun z => I.ok.has _ (.inr z)
  exact lm_make I TB hcode hm hn hu hT hdef hfr fun f c' H1 s' I1 kp t1 hf f1 c1 => ⟨.ref f, H1, I1, rfl, q f c' H1 kp t1 hf f1 c1⟩
/-- the calls of a lambda as a sort's key -/
theorem turn_lm {A : Around} {F : NF} {e : Expr} {ps fr : List Str} {js : List Nat} {k : Nat} {q : Addr} {κ : D → D} {ds : List D} {c : Con} (L : LOk X.prog X.w X.K X.mg X.base CX0 k q F e ps fr (fun _ => spD X.K c)) (hr : Room k A) (hA : A.frames = X.A.frames) (cp : X.Ok → Caps X F.cl fr js)
    (hq : H q = some (LmO q F e)) (hc : H F.c = some (CodeO F.c F.qual)) (hκ : ∀ d ∈ ds, c [d] fun y => y = κ d) : KTurn X pins σ H A (.ref q) κ ds := by
  intro F' H' s' x u d I tf fs kp r dp hd
  have e0 := I.env0
  refine wpAny_call (codeAny_mono (L.run A X.stack s' H' [u] [x] (js.map (slotAt σ)) (fun v H2 => ∃ F2, Gr F' H' F2 H2 ∧ Dp X.K F2 v (κ d)) E0 hr ⟨hA.trans e0.frames, e0.mod, e0.bs, e0.bsz, e0.funs, e0.frf, e0.hok, e0.bare⟩
    (kp.at hq lmO_ne) (kp.at hc codeO_ne) (cells_of I (cp I.ok)) (.cons r .nil) ⟨F', [d], fun y => y = κ d, tf, fs, .cons dp .nil, hκ d hd, fun y v F2 H2 e g dp2 => ⟨F2, g, e ▸ dp2⟩⟩) fun r s2 hr2 => ?_)
  cases r with
  | error e => exact False.elim hr2
  | ok fl =>
    cases fl with
    | next => exact False.elim hr2
    | brk => exact False.elim hr2
    | cont => exact False.elim hr2
    | ret k =>
      obtain ⟨v, H2, os, bare, un, hok, rel, F2, g, dp2⟩ := hr2
      obtain ⟨v', H2', I2, rel2, ev, eH⟩ := I.after (Q := fun v' H2' => v' = v ∧ H2' = H2) ⟨v, H2, os, bare, un, hok, rel, rfl, rfl⟩
      subst ev
      subst eH
      exact ⟨v', F2, H2', I2, rel2, g, dp2, fun a o n hs ea => ⟨un.keep a o ea n hs (by simp), un.free a o ea n (by simp)⟩⟩
/-- sorted(xs, key=lambda ..: ..) -/
def rSortK (X : Cx) (mk : Addr → NF) (body : Expr) (c : Con) : List V → List V → Hp → VK → Prop := fun vs zs H Q => ∃ it q c' F κ rank xs ds, vs = [.ref it] ∧ zs = [.ref q] ∧ Tf F H ∧ Same F H ∧ (SqL X.K H it xs ∨ SqT X.K H it xs) ∧ DpAll X.K F xs ds ∧
  Ranked rank (ds.map κ) ∧ Kinded (ds.map κ) ∧ (∀ d ∈ ds, (κ d).depth ≤ 100) ∧ H q = some (LmO q (mk c') body) ∧ H (mk c').c = some (CodeO (mk c').c (mk c').qual) ∧ (∀ d ∈ ds, c [d] fun y => y = κ d) ∧
  ∀ (F2 H2 : Hp) (p : Addr) (ys : List V), Gr F H F2 H2 → H p = none → H2 p = none → DpAll X.K F2 ys (ds.mergeSort (byRank fun d => rank (κ d))) → Q (.ref p) (upd H2 p (.lst ys))
theorem cr_sortK {mk : Addr → NF} {body : Expr} {c : Con} {ps fr : List Str} {js : List Nat} {k : Nat} (L : ∀ q c', LOk X.prog X.w X.K X.mg X.base CX0 k q (mk c') body ps fr (fun _ => spD X.K c)) (hr : Room (k + 2) X.A) (cp : ∀ c', X.Ok → Caps X (mk c').cl fr js) :
    CallRK X (.builtin "sorted") [Str.ofString "key"] (rSortK X mk body c) := by
  intro pins s σ H vs zs us ws Q I rv rz h
  obtain ⟨it, q, c', F, κ, rank, xs, ds, rfl, rfl, tf, fs, hq, hd, hal, hsk, hdep, h1, h2, hκ, fin⟩ := h
  obtain rfl := Vals.ref1 rv
  obtain ⟨w1, rfl, e1⟩ := vals1 rz
  obtain rfl : w1 = Value.ref q := e1
  refine ks_sorted I tf fs hq hd hal hsk (fun d hd => ?_) (fun x => ksk_t1 q x) (turn_lm (L q c') hr.in1.in1 rfl (cp c') h1 h2 hκ) fin
  have q1 := hr.un
  have q2 := hdep d hd
  omega
def lSortK (c : Con) (T : TD) : TDA := fun ρ R => T ρ fun d ρ' => ∃ ds κ rank, seqD d = some ds ∧ Ranked rank (ds.map κ) ∧ Kinded (ds.map κ) ∧ (∀ d ∈ ds, (κ d).depth ≤ 100) ∧ (∀ d ∈ ds, c [d] fun y => y = κ d) ∧ R (ds.mergeSort (byRank fun d => rank (κ d))) ρ'
theorem dl_sortK {mk : Addr → NF} {body lam e : Expr} {c : Con} {ps fr : List Str} {js : List Nat} {k : Nat} {T : TD} {p pos kpos : Pos} (ha : PA X [e] (tCons (liftB X.K T) tNil)) (hl : PE X lam (tLam mk body)) (L : ∀ q c', LOk X.prog X.w X.K X.mg X.base CX0 k q (mk c') body ps fr (fun _ => spD X.K c)) (hr : Room (k + 2) X.A) (cp : ∀ c', X.Ok → Caps X (mk c').cl fr js)
    (h : ∀ {r : List V → List V → Hp → VK → Prop} {t tk : TA}, CallRK X (.builtin "sorted") [Str.ofString "key"] r → PA X [e] t → PK X [⟨some (Str.ofString "key"), lam, kpos⟩] tk → PE X (.Call (.Name "sorted" p) [e] [⟨some (Str.ofString "key"), lam, kpos⟩] pos) (tCKw r t tk)) :
    DLs X (.Call (.Name "sorted" p) [e] [⟨some (Str.ofString "key"), lam, kpos⟩] pos) (lSortK c T) :=
  PE.weak (h (cr_sortK L hr cp) ha (pk_cons hl pk_nil)) fun σ H Q ⟨b, f, ρ, R, S, t, q⟩ =>
    ⟨b, f, ρ, _, S, t, fun d ρ' v f1 H1 ⟨ds, κ, rank, hs, hal, hsk, hdep, hκ, r⟩ S1 n1 bo => ⟨S1.tb.t, fun g c' H2 kp t2 hg g1 g2 => by
      have gr : Gr f1.F H1 f1.F H2 := Gr.kp S1.tb S1.fs kp t2
      have S2 := S1.grow gr
      have n2 : Nx f1 H1 f1 H2 := Nx.of_gr gr
      have bo2 := bo.next n2
      obtain ⟨it, xs, rfl, hq, hd⟩ : ∃ it xs, v = .ref it ∧ (SqL X.K H2 it xs ∨ SqT X.K H2 it xs) ∧ DpAll X.K f1.F xs ds := by
        rcases seqD_cases hs with rfl | rfl
        · obtain ⟨it, xs, e, hl, hd⟩ := bo2.lst S2.fs
          exact ⟨it, xs, e, .inl hl, hd⟩
        · obtain ⟨it, xs, e, hl, hd⟩ := bo2.tup S2.fs
          exact ⟨it, xs, e, .inr hl, hd⟩
      refine ⟨it, g, c', f1.F, κ, rank, xs, ds, rfl, rfl, S2.tb, S2.fs, hq, hd, hal, hsk, hdep, g1, g2, hκ, fun F3 H3 p ys g3 p2 p3 dy => ?_⟩
      have S3 := S2.grow g3
      have np : p ∉ f1.P := fun z => by
        obtain ⟨o, z'⟩ := S3.pots p z
        rw [p3] at z'; cases z'
      have no : ∀ (i : Nat) (s : Sl), ρ'[i]? = some s → isOwn s = true → σ[i]? ≠ some (some (V.ref p)) := fun i s hi ho z => by
        cases s with
        | obj es =>
          obtain ⟨p', vs', e1, _, _, _, e4, _⟩ := S3.sl i _ hi
          rw [z] at e1
          have ep := V.ref.inj (Option.some.inj (Option.some.inj e1))
          rw [← ep, p3] at e4
          cases e4
        | no => cases ho
        | fz _ => cases ho
        | pot => cases ho
        | exc _ _ _ _ => cases ho
      obtain ⟨S4, O4⟩ := Own.put (p := p) (vs := ys) S3 (.inl p3) (S3.fs.free p3) (S3.bs.free p3) np no dy
      refine q _ ρ' p ⟨F3, f1.P⟩ _ r S4 (n1.trans S.pots (n2.trans S1.pots ⟨g3.ff, fun a o e _ => ?_, fun _ e => e, fun _ e => .inl e⟩)) O4
      rw [upd_ne (ne_of_none e p2)]
      exact Stays.mk (g3.hh a o e)⟩⟩
end
end DL

namespace DL
open PySem PySem.Spec PyProof.Rows L2 LamX NdefX
variable [Tbs] [Bse]
/-! ### a lambda by its body (nothing captured) -/
theorem startF_nil (N : List Str) (vs : List V) : startF N vs [] = L2.start N vs := by
  unfold startF L2.start
  rw [List.nil_append, List.length_nil, Nat.sub_zero]
theorem lm_D {P : Program} {w : World} {K : PySem.W.Frag} {mg : Str → Option Value} {base : Heap} {N ps : List Str} {F : NF} {e : Expr} {f : Addr} {k : Nat} {c : Con} {T : TD} (S : NScope N ps [] F.scope)
    (hb : ∀ (pm ctv : Value) (us : List Value), us.length = ps.length → bindArgs (PySem.W.kla_fn "<lambda>" F.qual F.params e F.scope F.cl pm (.ref F.c) ctv) ⟨us, []⟩ = pure (ps.zip us)) (hN : ps.length ≤ N.length) (hl : ∀ ds R, c ds R → ds.length = ps.length)
    (body : ∀ [Bse] (A : Around) (outer : List Env) (s : Shared) (H : Hp) (E : XK), Room k (A.deeper (envF F f s.heap.objs.size)) → DE (ncx CX0 P w K mg base N F f A outer s H E) e T)
    (hq : ∀ ds R, c ds R → T (dstart ds N.length) fun d _ => R d) : LOk P w K mg base CX0 (k + 1) f F e ps [] (fun _ => spD K c) := by
  refine lok_of S hb (fun ws vs H Q E ⟨F0, ds, R, _, _, h, hc, _⟩ => by rw [dpa_len h]; exact hl ds R hc) (fun A outer s H vs ws Q E hr hw ⟨F0, ds, R, ht, hs, h, hc, q⟩ => ?_)
  have ew : ws = [] := List.eq_nil_of_length_eq_zero (by rw [hw]; rfl)
  subst ew
  rw [startF_nil]
  refine ⟨_, @body noX A outer s H E hr, ⟨⟨H, F0, []⟩, noX_law⟩, ⟨F0, []⟩, _, _, Sim.begin ht hs h (by rw [dpa_len h, hl ds R hc]; exact hN), hq ds R hc, fun d ρ' v f' H' r S' n dp => ?_⟩
  exact q d v f'.F H' r S'.gr dp
end DL

namespace DL
open PySem PySem.Spec PyProof.Rows L2
variable [Tbs] [Bse]
/-! ### a comprehension whose turns are functions -/
theorem lc_in {vs : List Nat} {G : TDG} {Tt : TDT} {Te : TD} {ds : List D} {ρ : DS} {R : List D → DS → Prop} (hz : ds.length < sizeLine) (hno : noOwn ρ vs) (p : D → Bool) (f : D → D)
    (step : ∀ d ∈ ds, ∀ (W1 : D → Prop) (W0 : Prop), (p d = true → W1 (f d)) → (p d = false → W0) → G d (wipeD ρ vs) fun ρ2 => Tt ρ2 fun c ρ3 => ρ3 = ρ2 ∧ if c = true then Te ρ3 (fun y ρ4 => ρ4 = ρ3 ∧ W1 y) else W0) (fin : R ((ds.filter p).map f) ρ) :
    ds.length < sizeLine ∧ noOwn ρ vs ∧ ∃ W : Nat → List D → Prop, W 0 [] ∧
      (∀ i d acc, ds[i]? = some d → W i acc → G d (wipeD ρ vs) fun ρ2 => Tt ρ2 fun c ρ3 => ρ3 = ρ2 ∧ if c = true then Te ρ3 (fun y ρ4 => ρ4 = ρ3 ∧ W (i + 1) (acc ++ [y])) else W (i + 1) acc) ∧
      ∀ acc, W ds.length acc → R acc ρ := by
  refine ⟨hz, hno, fun i acc => acc = ((ds.take i).filter p).map f, rfl, fun i d acc hi e => ?_, fun acc e => ?_⟩
  · have et : ds.take (i + 1) = ds.take i ++ [d] := by rw [List.take_add_one, hi]; rfl
    refine step d (List.mem_of_getElem? hi) (fun y => acc ++ [y] = ((ds.take (i + 1)).filter p).map f) (acc = ((ds.take (i + 1)).filter p).map f) (fun h => ?_) fun h => ?_
    · rw [et, List.filter_append, List.map_append, ← e, List.filter_cons_of_pos h]; rfl
    · rw [et, List.filter_append, List.map_append, ← e, List.filter_cons_of_neg (by rw [h]; decide)]; exact (List.append_nil _).symm
  · have e2 : acc = ((ds.take ds.length).filter p).map f := e
    rw [e2, List.take_length]
    exact fin
/-- without an if -/
theorem lc_map {vs : List Nat} {G : TDG} {Te : TD} {ds : List D} {ρ : DS} {R : List D → DS → Prop} (hz : ds.length < sizeLine) (hno : noOwn ρ vs) (f : D → D)
    (step : ∀ d ∈ ds, ∀ (W1 : D → Prop), W1 (f d) → G d (wipeD ρ vs) fun ρ2 => Te ρ2 (fun y ρ4 => ρ4 = ρ2 ∧ W1 y)) (fin : R (ds.map f) ρ) :
    ds.length < sizeLine ∧ noOwn ρ vs ∧ ∃ W : Nat → List D → Prop, W 0 [] ∧
      (∀ i d acc, ds[i]? = some d → W i acc → G d (wipeD ρ vs) fun ρ2 => tYesD ρ2 fun c ρ3 => ρ3 = ρ2 ∧ if c = true then Te ρ3 (fun y ρ4 => ρ4 = ρ3 ∧ W (i + 1) (acc ++ [y])) else W (i + 1) acc) ∧
      ∀ acc, W ds.length acc → R acc ρ := by
  refine ⟨hz, hno, fun i acc => acc = (ds.take i).map f, rfl, fun i d acc hi e => ?_, fun acc e => ?_⟩
  · have et : ds.take (i + 1) = ds.take i ++ [d] := by rw [List.take_add_one, hi]; rfl
    have h := step d (List.mem_of_getElem? hi) (fun y => acc ++ [y] = (ds.take (i + 1)).map f) (by rw [et, List.map_append, ← e]; rfl)
    unfold tYesD
    simp only [if_true, true_and]
    exact h
  · have e2 : acc = (ds.take ds.length).map f := e
    rw [e2, List.take_length]
    exact fin
theorem len_le {ds : List D} (h : ds.length ≤ 1000) : ds.length ≤ sizeLine := by rw [sizeLine_eq]; omega
theorem len_lt {ds : List D} (h : ds.length ≤ 1000) : ds.length < sizeLine := by rw [sizeLine_eq]; omega
theorem room64 {k : Nat} {A : Around} (r : Room k A) : A.units + 64 < cLine := r.units
theorem room65 {k : Nat} {A : Around} (r : Room k A) : A.units + 65 < cLine := by have := r.un; omega
/-! ### a def whose code object is known (it makes lambdas) -/
structure FunC (K : PySem.W.Frag) (x qual : Str) (st : Stmt) (f : Addr) (fd : FuncData) (c : Addr) : Prop where
  ex : ∃ (oc : Value) (od : Option Addr) (kV doc pm : Value) (an : Option Addr) (ct : Value) (osl : Array (Option Value)),
    fd = PySem.W.fnOf x qual (defArgs st) (defBody st) (defScope st) .none kV doc pm an (.ref c) ct ∧ K.lookup f = some ⟨oc, od, .func fd, osl⟩ ∧ PySem.W.codeIn K (.ref c) qual = true
  kp : PySem.W.keepIn K (.ref f) = true
theorem FunC.fn {K : PySem.W.Frag} {x qual : Str} {st : Stmt} {f c : Addr} {fd : FuncData} (F : FunC K x qual st f fd c) : Fun K x qual st f fd := by
  obtain ⟨oc, od, kV, doc, pm, an, ct, osl, h1, h2, h3⟩ := F.ex
  exact ⟨⟨oc, od, kV, doc, pm, an, _, ct, osl, h1, h2, h3⟩, F.kp⟩
section
variable {P : Program} {w : World} {K : PySem.W.Frag} {mg : Str → Option Value} {base : Heap} {x qual : Str} {st : Stmt} {f c0 : Addr} {fd : FuncData} {N ps : List Str} {k : Nat} {c : Con} {T : TDS}
theorem ok_DC (F : FunC K x qual st f fd c0) (S : FnScope N ps (defScope st)) (hN : ps.length ≤ N.length) (hl : ∀ ds R, c ds R → ds.length = ps.length)
    (hb : ∀ [Bse] (A : Around) (outer : List Env) (s : Shared) (H : Hp) (E : XK), Room k (A.deeper (envOfC qual (defScope st) s.heap.objs.size f (.ref c0))) → DSs (cxOf CX0 P w K mg base N qual (defScope st) f (.ref c0) A outer s H E).nox (defBody st) T)
    (hq : ∀ ds R, c ds R → T (endsD R) (dstart ds N.length)) : FnOk P w K mg base CX0 (k + 1) f fd ps (spD K c) := by
  obtain ⟨oc, od, kV, doc, pm, an, ct, osl, rfl, lk, hcd⟩ := F.ex
  refine fn_of lk hcd S (fun vs H Q E ⟨F0, ds, R, _, _, h, hc, _⟩ => by rw [dpa_len h]; exact hl ds R hc) fun A outer s H vs Q E hr ⟨F0, ds, R, ht, hs, h, hc, q⟩ => ?_
  refine ⟨_, (@hb noX A outer s H E hr).nox, ⟨⟨H, F0, []⟩, noX_law⟩, ⟨F0, []⟩, _, endsD R, Sim.begin ht hs h (by rw [dpa_len h, hl ds R hc]; exact hN), hq ds R hc, ⟨?_, ?_, ?_, ?_, ?_⟩⟩
  · exact fun ρ σ f' H' r S' => q .none .non f'.F H' r S'.gr .non
  · exact fun d ρ v σ f' H' r S' dp => q d v f'.F H' r S'.gr dp
  · exact fun _ _ _ _ r _ => r.elim
  · exact fun _ _ _ _ r _ => r.elim
  · intro es ρ p σ f' H' r S' O
    obtain ⟨F', g, dp⟩ := O.froze S'
    exact q _ _ F' H' r g dp
end
theorem de_cb {X : Cx} {e : Expr} {es : List Expr} {pos : Pos} {Tr : TDA} {x : Str} {p : Pos} {id : String} {r : List D → (D → Prop) → Prop} (hc : CallR X (.builtin id) (liftC X.K r)) (ha : DBA X (e :: es) Tr)
    (h : ∀ (r' : List V → Hp → VK → Prop) (t' : TA), CallR X (.builtin id) r' → PA X (e :: es) t' → PE X (.Call (.Name x p) (e :: es) [] pos) (tCB r' t')) : DE X (.Call (.Name x p) (e :: es) [] pos) (dCall r Tr) := PE.weak (h _ _ hc ha) call_weak
/-! ### a def that may be called by its name -/
structure CalD (P : Program) (w : World) (K : PySem.W.Frag) (mg : Str → Option Value) (base : Heap) (k : Nat) (x : Str) (sp : Sp) : Prop where
  ex : ∃ (f : Addr) (fd : FuncData) (ps : List Str), FnOk P w K mg base CX0 k f fd ps sp ∧ mg x = some (.ref f) ∧ PySem.W.keepIn K (.ref f) = true ∧ Binds K fd ps []
theorem pe_cd {X : Cx} {j k : Nat} {x : Str} {sp : Sp} {p pos : Pos} {e : Expr} {es : List Expr} {t : TA} (c : CalD X.prog X.w X.K X.mg X.base k x sp) (hr : Room j X.A) (hk : k ≤ j) (hg : Gl X x) (ha : PA X (e :: es) t)
    (hdb : (x == ("__debug__" : Str)) = false := by decide) (he : starEach (e :: es) X.env = (false, eval e X.env) :: starEach es X.env := by rfl) (hpl : (backTo pos (starEach es X.env)).any (·.1) = false := by rfl) :
    PE X (.Call (.Name x p) (e :: es) [] pos) (tCall sp [] E0 t) := by
  obtain ⟨f, fd, ps, F, hm, kp, b⟩ := c.ex
  exact pe_call F (hr.mono hk) hg hm kp b .nil pass0 ha hdb he hpl
theorem noOwn_of {ρ : DS} {vs : List Nat} (h : (vs.all fun i => match ρ[i]? with | some (.obj _) => false | _ => true) = true) : noOwn ρ vs := fun i hi ds e => by
  have q := List.all_eq_true.mp h i hi
  rw [e] at q
  cases q
theorem seq_iter {d : D} {l : List D} (h : seqD d = some l) : iterD d = some l := by
  rcases seqD_cases h with rfl | rfl <;> rfl
end DL

namespace DL
open PySem PySem.Spec PyProof.Rows L2 LamX NdefX
/-! ### the end: what the top has left -/
/-- each def of the top has a code object with an empty table -/
def TabAll (q : Program) (mg : Str → Option Value) (h : Heap) : Prop := ∀ dL ∈ recsOf q, ∃ a o fd c P, mg dL.name = some (.ref a) ∧ h.get? a = some o ∧ o.data = .func fd ∧ fd.code = .ref c ∧ h.IsCode c P #[] ∧ h.TableAt c P #[]
theorem walk_tabs {l : PySem.W.OpenLaw} {most k : Nat} {q : Program} {loose : List Str} {XP : (Str → Option Value) → Heap → Prop} {YP : World → Heap → Prop} {d : DefRec} {K : Params → PySem.W.Frag} {CX : World → CXT} {x : Str} (hmost : l.most = some most) (hsz : most ≤ sizeLine)
    (hdef : d.params.defaults = []) (room : Room k callerA) (known : ∀ (w : World) (h : Heap), YP w h → (K w.params).In h)
    (F : ∀ (w : World) (mg : Str → Option Value) (fa : Addr) (h : Heap), YP w h → (K w.params).In h → h.Ns mainGlobals mg → mg d.name = some (.ref fa) → TabAll q mg h → LawAtS l w (K w.params) (CX w) k most x mg fa h)
    (calm : ∀ (w : World) (H : Hp) (s : Shared) (e : Value) (s' : Shared), CX w [] H s (fun _ _ _ => False) e s' → False) : PySem.W.WalkO q loose XP YP l.row.toRowW d [] (fun f vs => PySem.call f vs) := by
  refine Att.attach_callB hmost hdef fun w s0 s1 mg mb fa ob pm cd doc a us ns top yy _ _ _ hmg hobj hints hlen hbits hgen => ?_
  have inh := known w _ yy
  obtain ⟨fd, cs, sp, t1, t2, t3, t4, t5, t6⟩ := F w mg fa _ yy inh top.T.g hmg top.T.tab
  exact law_callTs inh top.T.g top.T.b top.T.builtins top.T.nolimit hgen t1 t2 t3 top.T.bmain hobj hints (Nat.le_trans hlen hsz) room t6 t4 (fun H tb sq => t5 H a ns hlen hbits tb sq) fun H e s' => calm w H s1 e s'
/-- .. of a def that stands among the known objects -/
theorem tab_at {q : Program} {mg : Str → Option Value} {h : Heap} {K : PySem.W.Frag} {y : Str} {f c P : Addr} {o : Obj} {fd : FuncData} {e : Value} {dd : Option Addr} {vs : Array Value} {sl : Array (Option Value)} (t : TabAll q mg h) (inh : K.In h) (hr : ((recsOf q).any fun r => r.name == y) = true)
    (hm : mg y = some (.ref f)) (k1 : K.lookup f = some o) (k2 : o.data = .func fd) (k3 : fd.code = .ref c) (k4 : K.lookup c = some ⟨e, dd, .fields vs, sl⟩) (k5 : vs[11]? = some (.ref P)) :
    PySem.W.CodeHd h c P ∧ h.get? P = some { cls := .none, data := .fields #[] } := by
  obtain ⟨r, hr1, hr2⟩ := List.any_eq_true.mp hr
  have en : r.name = y := beq_iff_eq.mp hr2
  obtain ⟨a', o', fd', c', P', h1, h2, h3, h4, h5, h6⟩ := t r hr1
  rw [en, hm] at h1
  cases h1
  have g1 := inh _ _ k1
  rw [g1] at h2
  cases h2
  rw [k2] at h3
  cases h3
  rw [k3] at h4
  cases h4
  have ch := PySem.W.CodeHd.of h5 h6
  obtain ⟨⟨co, us, e1, _, e3, e4⟩, htab⟩ := h6
  have g2 := inh _ _ k4
  rw [g2] at e1
  cases e1
  cases e3
  rw [k5] at e4
  cases e4
  exact ⟨ch, htab⟩
open Classical in
/-- what is known but the tables and the dicts -/
noncomputable def noTbl (H : Hp) : Hp := fun b => match H b with
  | some o => if Fzn o then some o else none
  | none => none
theorem noTbl_of {H : Hp} {a : Addr} {o : HO} (e : H a = some o) (n : Fzn o) : noTbl H a = some o := by
  unfold noTbl
  rw [e]
  exact if_pos n
theorem noTbl_some {H : Hp} {a : Addr} {o : HO} (e : noTbl H a = some o) : H a = some o ∧ Fzn o := by
  unfold noTbl at e
  split at e
  · rename_i u h
    by_cases z : Fzn u
    · rw [if_pos z] at e
      cases e
      exact ⟨h, z⟩
    · rw [if_neg z] at e
      cases e
  · cases e
theorem noTbl_same (H : Hp) : Same (noTbl H) H := fun b o e => (noTbl_some e).1
theorem noTbl_no (H : Hp) : ∀ a o, noTbl H a = some o → Fzn o := fun a o e => (noTbl_some e).2
theorem noTbl_seq {K : PySem.W.Frag} {H : Hp} {a : Addr} {xs : List V} (h : SqL K H a xs) : SqL K (noTbl H) a xs := by
  rcases h with (h | ⟨o, h⟩) | h
  · exact .inl (.inl (noTbl_of h True.intro))
  · exact .inl (.inr ⟨o, noTbl_of h True.intro⟩)
  · exact .inr h
theorem dpa_intsV {K : PySem.W.Frag} {H : Hp} : ∀ ns : List Int, DpAll K H (ns.map V.int) (ns.map PyData.int)
  | [] => .nil
  | n :: ns => .cons (.int n) (dpa_intsV ns)
variable [Tbs] [Bse]
theorem CalD.mono {P : Program} {w : World} {K : PySem.W.Frag} {mg : Str → Option Value} {base : Heap} {j k : Nat} {x : Str} {sp : Sp} (c : CalD P w K mg base j x sp) (h : j ≤ k) : CalD P w K mg base k x sp := by
  obtain ⟨f, fd, ps, F, h1, h2, h3⟩ := c.ex
  exact ⟨f, fd, ps, F.mono h, h1, h2, h3⟩
/-- the script is passed, the tables are empty -/
theorem law_in {K : PySem.W.Frag} {H : Hp} {a : Addr} {ns : List Int} {c : Con} {E : XK} (hM : Tbs.S = true → ∃ o, H sysModules = some (.frz o (.own 0))) (hT : ∀ p ∈ Tbs.T, H p.1 = some (.tbl #[])) (hS : SqL K H a (ns.map V.int)) (hc : c [.list (ns.map PyData.int)] fun d => d = .bool true) : spD K c [.ref a] H (fun v _ => v = .bl true) E :=
  ⟨noTbl H, _, _, ⟨fun p hp => TabN.nil (hT p hp), noTbl_no H, hM⟩, noTbl_same H, .cons (.lst (noTbl_seq hS) (dpa_intsV ns)) .nil, hc, fun d v F' H' e _ dp => by
    subst e
    cases dp
    rfl⟩
end DL

namespace DL
open PySem PySem.Spec PyProof.Rows L2
variable [Tbs] [Bse]
section
variable {X : Cx} {e a b c : Expr} {es : List Expr} {T Ta Tb Tc' : TD} {Tr : TDA} {pos : Pos}
/-! ### <, <=, >, >= of numbers and of texts -/
def rCmpS (gi : Int → Int → Bool) (gs : Str → Str → Bool) : D → D → (D → Prop) → Prop := fun d e R => match d, e with
  | .int i, .int j => R (.bool (gi i j))
  | .str x, .str y => R (.bool (gs x y))
  | _, _ => False
theorem od_cmpS {g : Value → Value → Sem Value} {gi : Int → Int → Bool} {gs : Str → Str → Bool} (hi : OpR X g (rI0 fun i j => .bl (gi i j))) (hs : OpR X g (fun x y H Q => ∃ i j, x = .str i ∧ y = .str j ∧ Q (.bl (gs i j)) H)) : OpR X g (liftO X.K (rCmpS gi gs)) := OpR.weak (OpR.or hi hs) fun x y H Q q => by
  obtain ⟨f, d, e, R, fs, bx, bY, r, q⟩ := q
  unfold rCmpS at r
  split at r
  · exact .inl ⟨_, _, bx.int, bY.int, flatQ fs q r (.bl _)⟩
  · exact .inr ⟨_, _, bx.str, bY.str, flatQ fs q r (.bl _)⟩
  · exact r.elim
theorem od_lt : OpR X (compareOp .Lt) (liftO X.K (rCmpS (fun i j => decide (i < j)) fun x y => decide (x.cps.toList < y.cps.toList))) := od_cmpS op_lt op_lt_str
theorem od_le : OpR X (compareOp .LtE) (liftO X.K (rCmpS (fun i j => decide (i ≤ j)) fun x y => !decide (y.cps.toList < x.cps.toList))) := od_cmpS op_le op_le_str
theorem od_gt : OpR X (compareOp .Gt) (liftO X.K (rCmpS (fun i j => decide (j < i)) fun x y => decide (y.cps.toList < x.cps.toList))) := od_cmpS op_gt op_gt_str
theorem od_ge : OpR X (compareOp .GtE) (liftO X.K (rCmpS (fun i j => decide (j ≤ i)) fun x y => !decide (x.cps.toList < y.cps.toList))) := od_cmpS op_ge op_ge_str
/-- d < e of any data that can be compared -/
def rLtD : D → D → (D → Prop) → Prop := fun d e R => ∃ k, ltD d e = some k ∧ shp d = true ∧ shp e = true ∧ R (.bool k)
theorem od_ltD (hu : X.A.units + 64 < cLine) : OpR X (compareOp .Lt) (liftO X.K rLtD) := by
  intro pins s σ H x y v u Q I rx ry h
  obtain ⟨f, d, e, R, fs, bx, bY, ⟨k, hk, s1, s2, r⟩, q⟩ := h
  obtain ⟨as, r1⟩ := Dp.reads I d x v (bx.dp fs) rx
  obtain ⟨bs, r2⟩ := Dp.reads I e y u (bY.dp fs) ry
  exact rcLt_D d e X.A s v u as bs k r1 r2 hk (SeqAt.canLay_of_shaped s1) (SeqAt.canLay_of_shaped s2) (SeqAt.room_of_shaped s1 hu) X.prog X.w _ _ ⟨.bl k, H, I, rfl, flatQ fs q r (.bl k)⟩
/-! ### a < b < c -/
def dChain (r r' : D → D → (D → Prop) → Prop) (Ta Tb Tc : TD) : TD := fun ρ R => Ta ρ fun x ρ1 => Tb ρ1 fun y ρ2 => r x y fun z => ∃ k, z = .bool k ∧ if k = true then Tc ρ2 fun w ρ3 => r' y w fun z' => R z' ρ3 else R (.bool false) ρ2
theorem chain_weak {r r' : D → D → (D → Prop) → Prop} {K : PySem.W.Frag} : ∀ σ H Q, lift K (dChain r r' Ta Tb Tc') σ H Q → tChain (liftO K r) (liftO K r') (liftB K Ta) (liftB K Tb) (liftB K Tc') σ H Q := fun σ H Q ⟨b, f, ρ, R, S, t, q⟩ =>
  ⟨b, f, ρ, _, S, t, fun x ρ1 v f1 H1 r1 S1 n1 bx => ⟨b, f1, ρ1, _, S1, r1, fun y ρ2 u f2 H2 r2 S2 n2 bY =>
    ⟨f2, x, y, _, S2.fs, bx.next n2, bY, r2, fun z w F' H' rz g dz => by
      obtain ⟨k, rfl, rk⟩ := rz
      cases dz
      refine ⟨k, rfl, ?_⟩
      have S3 := S2.grow g
      have n3 : Nx f H ⟨F', f2.P⟩ H' := (n1.trans S.pots n2).trans S.pots (Nx.of_gr g)
      cases k with
      | false =>
        rw [if_neg Bool.false_ne_true] at rk ⊢
        exact q _ ρ2 _ ⟨F', f2.P⟩ H' rk S3 n3 (.bl false)
      | true =>
        rw [if_pos rfl] at rk ⊢
        exact ⟨b, ⟨F', f2.P⟩, ρ2, _, S3, rk, fun w2 ρ3 v3 f3 H3 r3 S4 n4 bw => ⟨f3, y, w2, _, S4.fs, (bY.next (Nx.of_gr g)).next n4, bw, r3, fun z' v4 F4 H4 r4 g4 d4 => q z' ρ3 v4 ⟨F4, f3.P⟩ H4 r4 (S4.grow g4) ((n3.trans S.pots n4).trans S.pots (Nx.of_gr g4)) d4⟩⟩⟩⟩⟩
theorem de_chain {op op' : CmpOp} {r r' : D → D → (D → Prop) → Prop} (ho : OpR X (compareOp op) (liftO X.K r)) (ho' : OpR X (compareOp op') (liftO X.K r')) (ha : DB X a Ta) (hb : DB X b Tb) (hc : DB X c Tc') (hm : lastMarks [op, op'] [b, c] = false := by with_unfolding_all rfl) :
    DE X (.Compare a [op, op'] [b, c] pos) (dChain r r' Ta Tb Tc') := PE.weak (pe_chain ho ho' ha hb hc hm) chain_weak
theorem dt_chain {op op' : CmpOp} {r r' : D → D → (D → Prop) → Prop} (ho : OpR X (compareOp op) (liftO X.K r)) (ho' : OpR X (compareOp op') (liftO X.K r')) (ha : DB X a Ta) (hb : DB X b Tb) (hc : DB X c Tc') (hm : lastMarks [op, op'] [b, c] = false := by with_unfolding_all rfl) :
    DT X (.Compare a [op, op'] [b, c] pos) (tVal (dChain r r' Ta Tb Tc')) := PT.weak (pt_chain ho ho' ha hb hc hm) fun σ H Q ⟨bb, f, ρ, R, S, t, q⟩ =>
  chain_weak σ H _ ⟨bb, f, ρ, _, S, t, fun d ρ' v f' H' ⟨k, e, r⟩ S' n dp => ⟨k, by subst e; cases dp; rfl, q k ρ' f' H' r S' n⟩⟩
/-! ### sum -/
def cSum : List D → (D → Prop) → Prop := fun ds R => ∃ ns : List Int, ds = [.list (ns.map PyData.int)] ∧ R (.int ns.sum)
theorem cd_sum (hc : X.calm = true) : CallR X (.builtin "sum") (liftC X.K cSum) := CallR.weak (cr_sum hc) fun xs H Q q => by
  obtain ⟨f, ds, R, fs, ba, ⟨ns, rfl, r⟩, q⟩ := q
  obtain ⟨v, rfl, bo⟩ := ba.one
  obtain ⟨p, vs, rfl, hl, dl⟩ := bo.lst fs
  rw [dpa_ints dl] at hl
  exact ⟨p, ns, rfl, hl, flatC fs q r (.int _)⟩
end
/-! ### sorted(xs) -/
section
variable {X : Cx} {pins : List (Addr × Obj)} {σ : L2.St} {F H : Hp} {s : Shared} {rank : D → Int} {ds : List D} {xs : List V}
theorem plain_sorted_seq {Q : VK} {it : Addr} (I : Inv X pins σ H s) (fs : Same F H) (hq : SqL X.K H it xs ∨ SqT X.K H it xs) (hd : DpAll X.K F xs ds) (hal : Ranked rank ds) (hsk : Kinded ds) (hu : ∀ d ∈ ds, X.A.units + 2 + d.depth < cLine)
    (q : ∀ (p : Addr) (ys : List V), H p = none → DpAll X.K F ys (ds.mergeSort (byRank rank)) → Q (.ref p) (upd H p (.lst ys))) :
    wpAny (model X.prog X.w) X.A (call (.builtin "sorted") [.ref it]) (EP X pins σ Q) X.xe s := by
  obtain ⟨T, o, its, n, hT, ho, hc, hdt, rv, hz⟩ : ∃ (T : String) (o : Obj) (its : List Value) (n : Nat), (T = "list" ∨ T = "tuple") ∧ s.heap.get? it = some o ∧ o.cls = .type T ∧ o.data = .seq its.toArray n ∧ Vals xs its ∧ xs.length ≤ sizeLine := by
    rcases hq with hq | hq
    · obtain ⟨its, rv, p, hz⟩ := I.list hq
      obtain ⟨o, ho, hc, n, hd⟩ := p.isList
      exact ⟨"list", o, its, n, .inl rfl, ho, hc, hd, rv, hz⟩
    · obtain ⟨its, rv, p, hz⟩ := I.tuple hq
      obtain ⟨o, ho, hc, n, hd⟩ := p
      exact ⟨"tuple", o, its, n, .inr rfl, ho, hc, hd, rv, hz⟩
  have hlen : its.length ≤ sizeLine := by rw [← rv.length]; exact hz
  refine srt_seq (kw := []) hT ho hc hdt (by rw [List.size_toArray]; exact hlen) (args_sorted1 _) (fun _ => args_list_sort _) fun h' E' kp => ?_
  have I1 : Inv X pins σ H { s with heap := h' } := I.kept (t' := s.toks) kp
  have at_ : (h'.push (seqObj "list" its.toArray 0)).get? h'.objs.size = some (seqObj "list" its.toArray 0) := Heap.get?_push_size _ rfl
  have old : ∀ c o, s.heap.get? c = some o → c ≠ h'.objs.size ∧ (h'.push (seqObj "list" its.toArray 0)).get? c = some o := fun c o e => ⟨Nat.ne_of_lt (Heap.lt_size (kp c o e)), Heap.get?_push_of_some _ (kp c o e)⟩
  have up : ∀ c o, s.heap.get? c = some o → (PySem.W.sortingHeap (h'.push (seqObj "list" its.toArray 0)) h'.objs.size its).get? c = some o := fun c o e => PySem.W.sortingHeap_old (old c o e).1 (old c o e).2
  have hn : H h'.objs.size = none := I1.hok.fresh (Nat.le_refl _)
  have I2 : Inv X pins σ H { s with heap := PySem.W.sortingHeap (h'.push (seqObj "list" its.toArray 0)) h'.objs.size its } := I.kept (t' := s.toks) up
  have hrd : PySem.W.EachIs (fun v k => ∃ as, Reads (PySem.W.sortingHeap (h'.push (seqObj "list" its.toArray 0)) h'.objs.size its) v k as) its ds := (each_in rv hd).mono fun u d ⟨x, r, dp⟩ => Dp.reads I2 d x u (dp_mono fs d x dp) r
  refine PySem.W.list_sort_vals (κ := rankKind (PySem.W.sortingHeap (h'.push (seqObj "list" its.toArray 0)) h'.objs.size its) ds rank) (s := { s with heap := h'.push (seqObj "list" its.toArray 0) }) at_ (ranked_sorts (s := { s with heap := PySem.W.sortingHeap (h'.push (seqObj "list" its.toArray 0)) h'.objs.size its }) hrd hal hsk hu) hlen ⟨rfl, ?_⟩
  have hkz : PySem.W.EachIs (fun v d => (rankKind (PySem.W.sortingHeap (h'.push (seqObj "list" its.toArray 0)) h'.objs.size its) ds rank).keyOf v = some (rank d)) its ds := (PySem.W.each_mem hrd).mono fun v d ⟨⟨as, r⟩, hm⟩ => rankKind_some hal hm r
  have each := PySem.W.sortVals_each (rev := false) (κ := rankKind (PySem.W.sortingHeap (h'.push (seqObj "list" its.toArray 0)) h'.objs.size its) ds rank) rank (each_in (F := F) rv hd) hkz
  have e5 : PySem.W.sortLe (rankKind (PySem.W.sortingHeap (h'.push (seqObj "list" its.toArray 0)) h'.objs.size its) ds rank).toKeyOrd false rank = byRank rank := sortLe_rank _
  rw [e5] at each
  obtain ⟨ys, ry, dy⟩ := out_vals (h := s.heap) each
  obtain ⟨ep, hout⟩ := sortedHeap_at (vs := its) (out := (PySem.W.sortVals (rankKind (PySem.W.sortingHeap (h'.push (seqObj "list" its.toArray 0)) h'.objs.size its) ds rank) false its its).toArray) at_
  refine ⟨.ref h'.objs.size, upd H h'.objs.size (.lst ys), I1.laid (t' := s.toks) (fun c o e => ?_) (Nat.le_refl _) ⟨?_, _, ep, ry, hout⟩, rfl, q _ ys hn dy⟩
  · rw [sortedHeap_old (Nat.ne_of_lt (Heap.lt_size e)) (Nat.lt_trans (Heap.lt_size e) (Heap.lt_size at_))]
    exact Heap.get?_push_of_some _ e
  · rw [dpa_len dy, List.length_mergeSort, ← dpa_len hd]
    exact hz
def rSortP (X : Cx) : List V → Hp → VK → Prop := fun vs H Q => ∃ it F rank xs ds, vs = [.ref it] ∧ Tf F H ∧ Same F H ∧ (SqL X.K H it xs ∨ SqT X.K H it xs) ∧ DpAll X.K F xs ds ∧ Ranked rank ds ∧ Kinded ds ∧ (∀ d ∈ ds, d.depth ≤ 100) ∧
  ∀ (p : Addr) (ys : List V), H p = none → DpAll X.K F ys (ds.mergeSort (byRank rank)) → Q (.ref p) (upd H p (.lst ys))
theorem cr_sortP {k : Nat} (hr : Room k X.A) : CallR X (.builtin "sorted") (rSortP X) := by
  intro pins s σ H vs us Q I rv h
  obtain ⟨it, F, rank, xs, ds, rfl, tf, fs, hq, hd, hal, hsk, hdep, fin⟩ := h
  obtain rfl := Vals.ref1 rv
  refine plain_sorted_seq I fs hq hd hal hsk (fun d hd => ?_) fin
  have q1 := hr.un
  have q2 := hdep d hd
  omega
def lSort (T : TDA) : TDA := fun ρ R => T ρ fun as ρ' => ∃ d ds rank, as = [d] ∧ seqD d = some ds ∧ Ranked rank ds ∧ Kinded ds ∧ (∀ d ∈ ds, d.depth ≤ 100) ∧ R (ds.mergeSort (byRank rank)) ρ'
theorem dl_sorted {e : Expr} {Tr : TDA} {k : Nat} {p pos : Pos} (hr : Room k X.A) (ha : DBA X [e] Tr)
    (h : ∀ {r' : List V → Hp → VK → Prop} {t' : TA}, CallR X (.builtin "sorted") r' → PA X [e] t' → PE X (.Call (.Name "sorted" p) [e] [] pos) (tCB r' t')) : DLs X (.Call (.Name "sorted" p) [e] [] pos) (lSort Tr) :=
  PE.weak (h (cr_sortP hr) ha) fun σ H Q ⟨b, f, ρ, R, S, t, q⟩ => ⟨b, f, ρ, _, S, t, fun as ρ' vs f1 H1 ⟨d, ds, rank, ea, hs, hal, hsk, hdep, r⟩ S1 n1 ba => by
    subst ea
    obtain ⟨v, rfl, bo⟩ := ba.one
    obtain ⟨it, xs, rfl, hq, hd⟩ : ∃ it xs, v = .ref it ∧ (SqL X.K H1 it xs ∨ SqT X.K H1 it xs) ∧ DpAll X.K f1.F xs ds := by
      rcases seqD_cases hs with rfl | rfl
      · obtain ⟨it, xs, e, hl, hd⟩ := bo.lst S1.fs
        exact ⟨it, xs, e, .inl hl, hd⟩
      · obtain ⟨it, xs, e, hl, hd⟩ := bo.tup S1.fs
        exact ⟨it, xs, e, .inr hl, hd⟩
    refine ⟨it, f1.F, rank, xs, ds, rfl, S1.tb, S1.fs, hq, hd, hal, hsk, hdep, fun p ys hp dy => ?_⟩
    obtain ⟨S2, O2, n2⟩ := Own.new S1 hp dy
    exact q _ ρ' p f1 _ r S2 (n1.trans S.pots n2) O2⟩
end
/-! ### ranks of texts -/
theorem filter_le {α : Type} {p q : α → Bool} (h : ∀ e, p e = true → q e = true) : ∀ l : List α, (l.filter p).length ≤ (l.filter q).length
  | [] => Nat.le_refl _
  | x :: r => by
    have ih := filter_le h r
    cases hp : p x with
    | true =>
      rw [List.filter_cons_of_pos hp, List.filter_cons_of_pos (h x hp), List.length_cons, List.length_cons]
      omega
    | false =>
      rw [List.filter_cons_of_neg (by rw [hp]; decide)]
      cases hq : q x with
      | true => rw [List.filter_cons_of_pos hq, List.length_cons]; omega
      | false => rw [List.filter_cons_of_neg (by rw [hq]; decide)]; exact ih
theorem filter_lt {α : Type} {p q : α → Bool} (h : ∀ e, p e = true → q e = true) : ∀ l : List α, (∃ e ∈ l, q e = true ∧ p e = false) → (l.filter p).length < (l.filter q).length
  | [], ⟨e, he, _⟩ => absurd he (by simp)
  | x :: r, ⟨e, he, hq, hp⟩ => by
    rcases List.mem_cons.mp he with z | z
    · subst z
      rw [List.filter_cons_of_neg (by rw [hp]; decide), List.filter_cons_of_pos hq, List.length_cons]
      have := filter_le h r
      omega
    · have ih := filter_lt h r ⟨e, z, hq, hp⟩
      cases px : p x with
      | true =>
        rw [List.filter_cons_of_pos px, List.filter_cons_of_pos (h x px), List.length_cons, List.length_cons]
        omega
      | false =>
        rw [List.filter_cons_of_neg (by rw [px]; decide)]
        cases qx : q x with
        | true => rw [List.filter_cons_of_pos qx, List.length_cons]; omega
        | false => rw [List.filter_cons_of_neg (by rw [qx]; decide)]; exact ih
def cpsD : D → List Nat
  | .str x => x.cps.toList
  | _ => []
/-- how many texts of the row come before it -/
def strRank (l : List D) (d : D) : Int := ((l.filter fun e => decide (cpsD e < cpsD d)).length : Nat)
theorem ranked_strs {xs : List Str} (h : ∀ x ∈ xs, (PyData.str x).canLay0 = true) : Ranked (strRank (xs.map PyData.str)) (xs.map PyData.str) := fun d hd => by
  obtain ⟨x, hx, rfl⟩ := List.mem_map.mp hd
  refine ⟨h x hx, fun e he => ?_⟩
  obtain ⟨y, hy, rfl⟩ := List.mem_map.mp he
  show some (decide (x.cps.toList < y.cps.toList)) = _
  refine congrArg some ?_
  by_cases q : x.cps.toList < y.cps.toList
  · have m : ∀ e : D, decide (cpsD e < x.cps.toList) = true → decide (cpsD e < y.cps.toList) = true := fun e z => decide_eq_true (List.lt_trans (of_decide_eq_true z) q)
    have := filter_lt (l := xs.map PyData.str) m ⟨.str x, hd, decide_eq_true q, decide_eq_false (List.lt_irrefl _)⟩
    rw [decide_eq_true q]
    refine (decide_eq_true ?_).symm
    exact Int.ofNat_lt.mpr this
  · have m : ∀ e : D, decide (cpsD e < y.cps.toList) = true → decide (cpsD e < x.cps.toList) = true := fun e z => by
      by_cases c : cpsD e < x.cps.toList
      · exact decide_eq_true c
      · exact absurd (of_decide_eq_true z) (List.not_lt.mpr (List.le_trans (List.not_lt.mp q) (List.not_lt.mp c)))
    have := filter_le m (xs.map PyData.str)
    rw [decide_eq_false q]
    refine (decide_eq_false ?_).symm
    intro z
    have z2 := Int.ofNat_lt.mp z
    exact absurd (Nat.lt_of_lt_of_le z2 this) (Nat.lt_irrefl _)
theorem kinded_strs (xs : List Str) : Kinded (xs.map PyData.str) := .inr ⟨"str", by decide, fun d hd => by
  obtain ⟨x, _, rfl⟩ := List.mem_map.mp hd
  rfl⟩
end DL

/-! defs that are run where no repr is under way (so that repr of data is known) -/
namespace DL
open PySem PySem.Spec PyProof.Rows L2
/-- as FnOk, but only where no guard stands -/
structure FnG (P : Program) (w : World) (K : PySem.W.Frag) (mg : Str → Option Value) (base : Heap) (CX : CXT) (k : Nat) (f : Addr) (fd : FuncData) (ps : List Str) (sp : Sp) : Prop where
  ln : ∀ vs H Q E, sp vs H Q E → vs.length = ps.length
  go : ∀ (A : Around) (outer : List Env) (s : Shared) (H : Hp) (args : Args) (us : List Value) (vs : List V) (Q : VK) (E : XK), Room k A → A.guards = some [] → Env0 P w K mg base A outer s H → BindsTo s fd args (ps.zip us) → Vals vs us → sp vs H Q E →
    codeAny (model P w) A (.call (.ref f) args) (CR CX outer P w H s Q E) s
section
variable {P : Program} {w : World} {K : PySem.W.Frag} {mg : Str → Option Value} {base : Heap} {CX : CXT} {j k : Nat} {f : Addr} {fd : FuncData} {ps : List Str} {sp sp' : Sp}
theorem FnG.of (F : FnOk P w K mg base CX k f fd ps sp) : FnG P w K mg base CX k f fd ps sp := ⟨F.len, fun A outer s H args us vs Q E hr _ => F.run A outer s H args us vs Q E hr⟩
theorem FnG.mono (F : FnG P w K mg base CX j f fd ps sp) (h : j ≤ k) : FnG P w K mg base CX k f fd ps sp := ⟨F.ln, fun A outer s H args us vs Q E hr => F.go A outer s H args us vs Q E (hr.mono h)⟩
theorem FnG.imp (F : FnG P w K mg base CX k f fd ps sp) (h : ∀ vs H Q E, sp' vs H Q E → sp vs H Q E) : FnG P w K mg base CX k f fd ps sp' :=
  ⟨fun vs H Q E q => F.ln vs H Q E (h _ _ _ _ q), fun A outer s H args us vs Q E hr hg he hb hv hs => F.go A outer s H args us vs Q E hr hg he hb hv (h _ _ _ _ hs)⟩
/-- the rule of a def, where no guard stands -/
theorem fnG_of {name qual : Str} {params : Arguments} {body : List Stmt} {scope : Scope} {dV kV doc pm cdv ct oc : Value} {an od : Option Addr} {osl : Array (Option Value)} {N : List Str} (stands : K.lookup f = some ⟨oc, od, .func (PySem.W.fnOf name qual params body scope dV kV doc pm an cdv ct), osl⟩)
    (code : PySem.W.codeIn K cdv qual = true) (S : FnScope N ps scope) (ln : ∀ vs H Q E, sp vs H Q E → vs.length = ps.length)
    (walk : ∀ (A : Around) (outer : List Env) (s : Shared) (H : Hp) (vs : List V) (Q : VK) (E : XK), Room k (A.deeper (envOfC qual scope s.heap.objs.size f cdv)) → A.guards = some [] → sp vs H Q E →
      ∃ t, PSs (cxOf CX P w K mg base N qual scope f cdv A outer s H E) body t ∧ t { nx := fun _ H' => Q .non H', rt := Q } (L2.start N vs) H) :
    FnG P w K mg base CX (k + 1) f (PySem.W.fnOf name qual params body scope dV kV doc pm an cdv ct) ps sp := by
  refine ⟨ln, fun A outer s H args us vs Q E hr hgd e0 hb r hsp => ?_⟩
  have lenv := ln _ _ _ _ hsp
  have inK : K.In s.heap := e0.mod.kin.keeps fun b o e => (e0.bs b o e).1
  have nolim : s.heap.NoLimit := e0.mod.nolimit.keeps fun b o e => (e0.bs b o e).1
  have kinds : ∀ y ∈ ps.zip us, scope.names.lookup y.1 = some .local ∨ (scope.names.lookup y.1 = some .cell ∧ ((cellsFrom (s.heap.objs.size + 1) scope.names []).lookup y.1).isSome = true) := fun ⟨n, v⟩ hy => by
    rcases S.par n (List.of_mem_zip hy).1 with z | z
    · exact .inl z
    · exact .inr ⟨z, PySem.W.cellsFrom_some _ _ _ (.inl z)⟩
  refine codeAny_call_function hr.depth (inK _ _ stands) rfl S.co S.gen rfl (PySem.W.codeRec_of inK code) (hb _ _ _ _ ?_)
  refine wpAny_newFunctionEnv_cells S.kind kinds fun env he s1 x => ?_
  subst he
  refine ⟨nolim.keeps x.toInCall.keep, codeAny_func ?_⟩
  obtain ⟨t, ht, hq⟩ := walk A outer s H vs Q E (hr.deeper _) hgd hsp
  have I : Inv (cxOf CX P w K mg base N qual scope f cdv A outer s H E) [] (L2.start N vs) H s1 := inv_start S hr.hd e0 lenv r x
  refine wpAny_mono (ht.run [] s1 (L2.start N vs) H _ I hq) (fun fl s' hs => ?_) fun e s' hs => hs
  have last : ∀ {σ' : L2.St} {H' : Hp} {v : V} {u : Value}, Inv (cxOf CX P w K mg base N qual scope f cdv A outer s H E) [] σ' H' s' → RelV v u → Q v H' → CE outer P w H s Q u s' :=
    fun {σ' H' v u} J rv q => ⟨v, H', J.os, J.bare, J.base, J.hok, rv, q⟩
  cases fl with
  | ret u => obtain ⟨v, σ', H', J, rv, q⟩ := hs; exact last J rv q
  | next => obtain ⟨σ', H', J, q⟩ := hs; exact last (v := V.non) (u := Value.none) J rfl q
  | brk => obtain ⟨_, _, _, q⟩ := hs; exact q.elim
  | cont => obtain ⟨_, _, _, q⟩ := hs; exact q.elim
theorem fun_okG {x qual : Str} {st : Stmt} {N : List Str} (F : Fun K x qual st f fd) (S : FnScope N ps (defScope st)) (ln : ∀ vs H Q E, sp vs H Q E → vs.length = ps.length)
    (walk : ∀ (cdv : Value) (A : Around) (outer : List Env) (s : Shared) (H : Hp) (vs : List V) (Q : VK) (E : XK), Room k (A.deeper (envOfC qual (defScope st) s.heap.objs.size f cdv)) → A.guards = some [] → sp vs H Q E →
      ∃ t, PSs (cxOf CX0 P w K mg base N qual (defScope st) f cdv A outer s H E).nox (defBody st) t ∧ t { nx := fun _ H' => Q .non H', rt := Q } (L2.start N vs) H) : FnG P w K mg base CX0 (k + 1) f fd ps sp := by
  obtain ⟨oc, od, kV, doc, pm, an, cdv, ct, osl, rfl, lk, hcd⟩ := F.ex
  refine fnG_of lk hcd S ln fun A outer s H vs Q E hr hg hsp => ?_
  obtain ⟨t, h, q⟩ := walk cdv A outer s H vs Q E hr hg hsp
  exact ⟨t, h.nox, q⟩
end
section
variable {X : Cx} {CX : CXT} {k : Nat} {f : Addr} {fd : FuncData} {ps ks : List Str} {sp : Sp} {dvs : List V} {ds : List Value} {E : XK} {x : Str} {p pos : Pos} {e : Expr} {es : List Expr} {kws : List Keyword} {t tk : TA} {g : List Value → List Value → List Value} {gV : List V → List V → List V}
theorem runG {pins : List (Addr × Obj)} {σ : L2.St} {H : Hp} {s : Shared} {Q : VK} {args : Args} {us : List Value} {vs : List V} (F : FnG X.prog X.w X.K X.mg X.base CX k f fd ps sp) (hr : Room k X.A) (hgd : X.A.guards = some []) (hx : Passes CX X E) (I : Inv X pins σ H s)
    (hb : us.length = ps.length → BindsTo s fd args (ps.zip us)) (r : Vals vs us) (h : sp vs H Q E) : codeAny (model X.prog X.w) X.A (.call (.ref f) args) (fun r s' => match r with | .ok (.ret u) => EP X pins σ Q u s' | .ok _ => False | .error e => X.xe e s') s := by
  have hl : us.length = ps.length := by rw [← r.length]; exact F.ln _ _ _ _ h
  refine codeAny_mono (F.go X.A X.stack s H args us vs Q E hr hgd I.env0 (hb hl) r h) fun r s' hq => ?_
  cases r with
  | error e => exact hx pins σ H s e s' I hq
  | ok fl =>
    cases fl with
    | ret u => exact I.after hq
    | next => exact hq.elim
    | brk => exact hq.elim
    | cont => exact hq.elim
end
end DL
namespace DL
open PySem PySem.Spec PyProof.Rows L2
/-! ### calls, with keywords too -/
/-- items by their places -/
def pickAt {α : Type} (ix : List Nat) (xs : List α) : List α := ix.filterMap fun i => xs[i]?
theorem pick_rel {α β : Type} {R : α → β → Prop} {xs : List α} {ys : List β} (h : Paired R xs ys) : ∀ ix : List Nat, Paired R (pickAt ix xs) (pickAt ix ys)
  | [] => .nil
  | i :: ix => by
    have ih := pick_rel h ix
    unfold pickAt at ih ⊢
    have hl := Paired.length h
    rw [List.filterMap_cons, List.filterMap_cons]
    by_cases hi : i < xs.length
    · have at_ : ∀ {xs : List α} {ys : List β} {i : Nat} (h : Paired R xs ys) (h1 : i < xs.length) (h2 : i < ys.length), R xs[i] ys[i] := fun {xs ys i} h => by
        induction h generalizing i with
        | nil => intro h1; exact absurd h1 (Nat.not_lt_zero _)
        | cons r t ih =>
          intro h1 h2
          cases i with
          | zero => exact r
          | succ i => exact ih (Nat.lt_of_succ_lt_succ h1) (Nat.lt_of_succ_lt_succ h2)
      rw [List.getElem?_eq_getElem hi, List.getElem?_eq_getElem (by rw [← hl]; exact hi)]
      exact .cons (at_ h hi (by rw [← hl]; exact hi)) ih
    · rw [List.getElem?_eq_none (by omega), List.getElem?_eq_none (by omega)]
      exact ih
theorem dpa_paired {K : PySem.W.Frag} {H : Hp} : ∀ {vs : List V} {ds : List D}, DpAll K H vs ds ↔ Paired (Dp K H) vs ds
  | _, _ => ⟨fun h => by
      induction h using DpAll.rec (motive_1 := fun _ _ _ => True) (motive_3 := fun _ _ _ => True) with
      | nil => exact .nil
      | cons a _ _ ih => exact .cons a ih
      | _ => trivial, fun h => by
      induction h with
      | nil => exact .nil
      | cons a _ ih => exact .cons a ih⟩
theorem dpa_pick {K : PySem.W.Frag} {H : Hp} {vs : List V} {ds : List D} (h : DpAll K H vs ds) (ix : List Nat) : DpAll K H (pickAt ix vs) (pickAt ix ds) := dpa_paired.mpr (pick_rel (dpa_paired.mp h) ix)
/-- a def of the top by its name -/
structure CalG (P : Program) (w : World) (K : PySem.W.Frag) (mg : Str → Option Value) (base : Heap) (k : Nat) (x : Str) (st : Stmt) (ps : List Str) (sp : Sp) : Prop where
  ex : ∃ (f : Addr) (fd : FuncData), FnG P w K mg base CX0 k f fd ps sp ∧ mg x = some (.ref f) ∧ PySem.W.keepIn K (.ref f) = true ∧
    ∃ (kV doc pm : Value) (an : Option Addr) (cdv ct : Value), fd = PySem.W.fnOf x x (defArgs st) (defBody st) (defScope st) .none kV doc pm an cdv ct
def BindP (x : Str) (st : Stmt) (ps : List Str) (n : Nat) : Prop := ∀ (kV doc pm : Value) (an : Option Addr) (cdv ct : Value) (us : List Value), us.length = n → bindArgs (PySem.W.fnOf x x (defArgs st) (defBody st) (defScope st) .none kV doc pm an cdv ct) ⟨us, []⟩ = pure (ps.zip us)
def BindK (x : Str) (st : Stmt) (ps : List Str) (n : Nat) (ks : List Str) (ix : List Nat) : Prop := ∀ (kV doc pm : Value) (an : Option Addr) (cdv ct : Value) (us ws : List Value), us.length = n → ws.length = ks.length →
  bindArgs (PySem.W.fnOf x x (defArgs st) (defBody st) (defScope st) .none kV doc pm an cdv ct) ⟨us, ks.zip ws⟩ = pure (ps.zip (pickAt ix (us ++ ws)))
section
variable {P : Program} {w : World} {K : PySem.W.Frag} {mg : Str → Option Value} {base : Heap} {j k : Nat} {x : Str} {st : Stmt} {ps : List Str} {sp sp' : Sp}
theorem CalG.mono (c : CalG P w K mg base j x st ps sp) (h : j ≤ k) : CalG P w K mg base k x st ps sp := by
  obtain ⟨f, fd, F, q⟩ := c.ex
  exact ⟨f, fd, F.mono h, q⟩
theorem CalG.imp (c : CalG P w K mg base k x st ps sp) (h : ∀ vs H Q E, sp' vs H Q E → sp vs H Q E) : CalG P w K mg base k x st ps sp' := by
  obtain ⟨f, fd, F, q⟩ := c.ex
  exact ⟨f, fd, F.imp h, q⟩
theorem CalG.of {f : Addr} {fd : FuncData} (F : Fun K x x st f fd) (m : mg x = some (.ref f)) (G : FnG P w K mg base CX0 k f fd ps sp) : CalG P w K mg base k x st ps sp := by
  obtain ⟨oc, od, kV, doc, pm, an, cdv, ct, osl, e, _, _⟩ := F.ex
  exact ⟨f, fd, G, m, F.kp, kV, doc, pm, an, cdv, ct, e⟩
end
section
variable {X : Cx} {j k : Nat} {x : Str} {st : Stmt} {ps ks : List Str} {ix : List Nat} {sp : Sp} {p pos : Pos} {e : Expr} {es : List Expr} {kws : List Keyword} {t tk : TA}
/-- f(e, ..) -/
theorem pe_cg (c : CalG X.prog X.w X.K X.mg X.base k x st ps sp) (hr : Room j X.A) (hgd : X.A.guards = some []) (hk : k ≤ j) (hg : Gl X x) (hb : BindP x st ps ps.length) (ha : PA X (e :: es) t)
    (hdb : (x == ("__debug__" : Str)) = false := by decide) (he : starEach (e :: es) X.env = (false, eval e X.env) :: starEach es X.env := by rfl) (hpl : (backTo pos (starEach es X.env)).any (·.1) = false := by rfl) :
    PE X (.Call (.Name x p) (e :: es) [] pos) (tCall sp [] E0 t) := by
  obtain ⟨f, fd, F, hm, kp, kV, doc, pm, an, cdv, ct, rfl⟩ := c.ex
  refine ⟨fun pins s σ H Q I h => wpAny_Call_Name_kw (ld_glob I hg hm ?_ hdb)⟩
  refine PySem.W.callWith_K (h₀ := X.base) I.ok.mod.kin kp (thn (ha.run pos pins s σ H _ I h) fun us s1 ⟨vs, H1, I1, r, q⟩ => ⟨I1.kIn, ?_⟩) he hpl
  have q' : sp (vs ++ []) H1 Q E0 := q
  rw [List.append_nil] at q'
  have q := q'
  exact wpAny_call (runG F (hr.mono hk) hgd pass0 I1 (fun hl => .of_eq (hb kV doc pm an cdv ct us hl)) r q)
theorem pe_cg0 (c : CalG X.prog X.w X.K X.mg X.base k x st ps sp) (hr : Room j X.A) (hgd : X.A.guards = some []) (hk : k ≤ j) (hg : Gl X x) (hb : BindP x st ps ps.length) (hdb : (x == ("__debug__" : Str)) = false := by decide) :
    PE X (.Call (.Name x p) [] [] pos) (tCall sp [] E0 tNil) := by
  obtain ⟨f, fd, F, hm, kp, kV, doc, pm, an, cdv, ct, rfl⟩ := c.ex
  refine ⟨fun pins s σ H Q I h => wpAny_Call_Name_kw (ld_glob I hg hm ?_ hdb)⟩
  refine PySem.W.callWith_K0 I.kIn kp ?_
  exact wpAny_call (runG F (hr.mono hk) hgd pass0 I (fun hl => .of_eq (hb kV doc pm an cdv ct [] hl)) .nil h)
/-- f(e, .., k=e, ..) -/
def tCallP (n m : Nat) (sp : Sp) (ix : List Nat) (t tk : TA) : TE := fun σ H Q => t σ H fun vs H1 => vs.length = n ∧ tk σ H1 fun zs H2 => zs.length = m ∧ sp (pickAt ix (vs ++ zs)) H2 Q E0
theorem pe_cgK (c : CalG X.prog X.w X.K X.mg X.base k x st ps sp) (hr : Room j X.A) (hgd : X.A.guards = some []) (hk : k ≤ j) (hg : Gl X x) (hb : BindK x st ps (es.length + 1) ks ix) (ha : PA X (e :: es) t) (hkw : PK X kws tk)
    (hall : (backToKw pos (keywordEach kws X.env)).all (·.1.isSome) = true := by rfl) (hks : (backToKw pos (keywordEach kws X.env)).filterMap (·.1) = ks := by rfl)
    (hdb : (x == ("__debug__" : Str)) = false := by decide) (he : starEach (e :: es) X.env = (false, eval e X.env) :: starEach es X.env := by rfl)
    (hpl : ((backTo pos (starEach (e :: es) X.env)).any (·.1) || (backToKw pos (keywordEach kws X.env)).any (·.1.isNone)) = false := by rfl) :
    PE X (.Call (.Name x p) (e :: es) kws pos) (tCallP (es.length + 1) ks.length sp ix t tk) := by
  obtain ⟨f, fd, F, hm, kp, kV, doc, pm, an, cdv, ct, rfl⟩ := c.ex
  refine ⟨fun pins s σ H Q I h => wpAny_Call_Name_kw (ld_glob I hg hm ?_ hdb)⟩
  refine PySem.W.callWith_KW (h₀ := X.base) I.ok.mod.kin kp hall (thn (ha.run pos pins s σ H _ I h) fun us s1 ⟨vs, H1, I1, r, l1, q⟩ => ?_) hpl he
  refine thn (hkw.run pos pins s1 σ H1 _ I1 q) fun ws s2 ⟨zs, H2, I2, rz, l2, q2⟩ => ⟨I2.kIn, ?_⟩
  rw [hks]
  exact wpAny_call (runG F (hr.mono hk) hgd pass0 I2 (fun _ => .of_eq (hb kV doc pm an cdv ct us ws (by rw [← r.length]; exact l1) (by rw [← rz.length]; exact l2))) (pick_rel (r.append rz) ix) q2)
theorem pe_cgK0 (c : CalG X.prog X.w X.K X.mg X.base k x st ps sp) (hr : Room j X.A) (hgd : X.A.guards = some []) (hk : k ≤ j) (hg : Gl X x) (hb : BindK x st ps 0 ks ix) (hkw : PK X kws tk)
    (hall : (backToKw pos (keywordEach kws X.env)).all (·.1.isSome) = true := by rfl) (hks : (backToKw pos (keywordEach kws X.env)).filterMap (·.1) = ks := by rfl)
    (hdb : (x == ("__debug__" : Str)) = false := by decide) (hpl : ((backTo pos (starEach [] X.env)).any (·.1) || (backToKw pos (keywordEach kws X.env)).any (·.1.isNone)) = false := by rfl) :
    PE X (.Call (.Name x p) [] kws pos) (tCallP 0 ks.length sp ix tNil tk) := by
  obtain ⟨f, fd, F, hm, kp, kV, doc, pm, an, cdv, ct, rfl⟩ := c.ex
  refine ⟨fun pins s σ H Q I h => wpAny_Call_Name_kw (ld_glob I hg hm ?_ hdb)⟩
  refine PySem.W.callWith_KW0 (h₀ := X.base) I.ok.mod.kin kp hall ?_ hpl
  have h := (show (0 : Nat) = 0 ∧ _ from h).2
  refine thn (hkw.run pos pins s σ H _ I h) fun ws s2 ⟨zs, H2, I2, rz, l2, q2⟩ => ⟨I2.kIn, ?_⟩
  rw [hks]
  exact wpAny_call (runG F (hr.mono hk) hgd pass0 I2 (fun _ => .of_eq (hb kV doc pm an cdv ct [] ws rfl (by rw [← rz.length]; exact l2))) (pick_rel rz ix) q2)
end
end DL
namespace DL
open PySem PySem.Spec PyProof.Rows L2
variable [Tbs] [Bse]
/-! ### defs by their bodies, where no guard stands -/
section
variable {P : Program} {w : World} {K : PySem.W.Frag} {mg : Str → Option Value} {base : Heap} {x qual : Str} {st : Stmt} {f : Addr} {fd : FuncData} {N ps : List Str} {k : Nat} {c : Con} {T : TDS}
abbrev BodyG (P : Program) (w : World) (K : PySem.W.Frag) (mg : Str → Option Value) (base : Heap) (N : List Str) (qual : Str) (st : Stmt) (f : Addr) (k : Nat) (T : TDS) : Prop :=
  ∀ [Bse] (cdv : Value) (A : Around) (outer : List Env) (s : Shared) (H : Hp) (E : XK), Room k (A.deeper (envOfC qual (defScope st) s.heap.objs.size f cdv)) → (A.deeper (envOfC qual (defScope st) s.heap.objs.size f cdv)).guards = some [] → DSs (cxOf CX0 P w K mg base N qual (defScope st) f cdv A outer s H E).nox (defBody st) T
theorem ok_DG (F : Fun K x qual st f fd) (S : FnScope N ps (defScope st)) (hN : ps.length ≤ N.length) (hl : ∀ ds R, c ds R → ds.length = ps.length) (hb : BodyG P w K mg base N qual st f k T)
    (hq : ∀ ds R, c ds R → T (endsD R) (dstart ds N.length)) : FnG P w K mg base CX0 (k + 1) f fd ps (spD K c) := by
  refine fun_okG F S (fun vs H Q E ⟨F0, ds, R, _, _, h, hc, _⟩ => by rw [dpa_len h]; exact hl ds R hc) (fun cdv A outer s H vs Q E hr hgd ⟨F0, ds, R, ht, hs, h, hc, q⟩ => ?_)
  refine ⟨_, @hb noX cdv A outer s H E hr hgd, ⟨⟨H, F0, []⟩, noX_law⟩, ⟨F0, []⟩, _, endsD R, Sim.begin ht hs h (by rw [dpa_len h, hl ds R hc]; exact hN), hq ds R hc, ⟨?_, ?_, ?_, ?_, ?_⟩⟩
  · exact fun ρ σ f' H' r S' => q .none .non f'.F H' r S'.gr .non
  · exact fun d ρ v σ f' H' r S' dp => q d v f'.F H' r S'.gr dp
  · exact fun _ _ _ _ r _ => r.elim
  · exact fun _ _ _ _ r _ => r.elim
  · intro es ρ p σ f' H' r S' O
    obtain ⟨F', g, dp⟩ := O.froze S'
    exact q _ _ F' H' r g dp
theorem ok_PG {y : Str} {M : List Str} (F : Fun K x qual st f fd) (S : FnScope (y :: M) ps (defScope st)) (hN : ps.length ≤ M.length + 1) (hl : ∀ ds R, c ds R → ds.length + 1 = ps.length) (hb : BodyG P w K mg base (y :: M) qual st f k T)
    (hq : ∀ ds R, c ds R → T { nx := fun _ => R .none, rt := fun d _ => R d } (pstart ds (y :: M).length)) : FnG P w K mg base CX0 (k + 1) f fd ps (spP K c) := by
  refine fun_okG F S (fun vs H Q E ⟨p, vs', F0, ds, R, e, _, _, _, _, h, hc, _⟩ => by rw [e, List.length_cons, dpa_len h]; exact hl ds R hc) (fun cdv A outer s H vs Q E hr hgd ⟨p, vs', F0, ds, R, e, ht, hp, pt, hs, h, hc, q⟩ => ?_)
  subst e
  have hlen : vs'.length ≤ M.length := by
    have := hl ds R hc
    rw [dpa_len h]
    omega
  have fin : ∀ (ρ : DS) (σ : L2.St) (f' : Fz) (H' : Hp), Sim K ⟨fun a => if a = p then none else H a, F0, [p]⟩ f' ρ σ H' → GrP p F0 H f'.F H' := fun ρ σ f' H' S' => by
    obtain ⟨k1, _, k3⟩ := S'.pt p (S'.p0 p (List.mem_singleton.mpr rfl))
    refine ⟨fun a o z e => S'.bs a o (by show (if a = p then Option.none else H a) = some o; rw [if_neg z]; exact e), k3, S'.f0, S'.fs, fun a o e => ?_, fun _ => S'.tb⟩
    rcases S'.fr a o e with r | r
    · exact .inl r
    · have r' : (if a = p then Option.none else H a) = Option.none := r
      split at r'
      · rename_i z
        rw [z, k1] at e
        cases e
      · exact .inr r'
  refine ⟨_, @hb noX cdv A outer s H E hr hgd, ⟨⟨fun a => if a = p then none else H a, F0, [p]⟩, noX_law⟩, ⟨F0, [p]⟩, _, _, Sim.beginP ht hp pt hs h hlen, hq ds R hc, ⟨?_, ?_, ?_, ?_, ?_⟩⟩
  · exact fun ρ σ f' H' r S' => q .none .non f'.F H' r (fin ρ σ f' H' S') .non
  · exact fun d ρ v σ f' H' r S' dp => q d v f'.F H' r (fin ρ σ f' H' S') dp
  · exact fun _ _ _ _ r _ => r.elim
  · exact fun _ _ _ _ r _ => r.elim
  · exact fun _ _ _ _ _ _ r _ _ => r.elim
theorem ok_LG {c : List D → (List D → Prop) → Prop} (F : Fun K x qual st f fd) (S : FnScope N ps (defScope st)) (hN : ps.length ≤ N.length) (hl : ∀ ds R, c ds R → ds.length = ps.length) (hb : BodyG P w K mg base N qual st f k T)
    (hq : ∀ ds R, c ds R → T { nx := fun _ => False, rt := fun _ _ => False, rl := fun es _ => R es } (dstart ds N.length)) : FnG P w K mg base CX0 (k + 1) f fd ps (spL K c) := by
  refine fun_okG F S (fun vs H Q E ⟨F0, ds, R, _, _, h, hc, _⟩ => by rw [dpa_len h]; exact hl ds R hc) (fun cdv A outer s H vs Q E hr hgd ⟨F0, ds, R, ht, hs, h, hc, q⟩ => ?_)
  refine ⟨_, @hb noX cdv A outer s H E hr hgd, ⟨⟨H, F0, []⟩, noX_law⟩, ⟨F0, []⟩, _, _, Sim.begin ht hs h (by rw [dpa_len h, hl ds R hc]; exact hN), hq ds R hc, ⟨?_, ?_, ?_, ?_, ?_⟩⟩
  · exact fun _ _ _ _ r _ => r.elim
  · exact fun _ _ _ _ _ _ r _ _ => r.elim
  · exact fun _ _ _ _ r _ => r.elim
  · exact fun _ _ _ _ r _ => r.elim
  · exact fun es ρ p σ f' H' r S' O => q es p f'.F H' r S'.gr O.nb O.nf (by obtain ⟨_, o1, ws, rfl, o2⟩ := O.at_; exact ⟨ws, o1, o2⟩)
end

/-! ### calls as data -/
section
variable {X : Cx} {e : Expr} {es : List Expr} {kws : List Keyword} {Tr Tk : TDA} {T : TD} {nm : Option Str} {kpos : Pos}
abbrev DKW (X : Cx) (kws : List Keyword) (T : TDA) : Prop := PK X kws (liftA X.K T)
theorem PK.weak {t t' : TA} (h : PK X kws t) (w : ∀ σ H Q, t' σ H Q → t σ H Q) : PK X kws t' := ⟨fun pos pins s σ H Q I q => h.run pos pins s σ H Q I (w σ H Q q)⟩
theorem dkw_nil : DKW X [] dNil := PK.weak pk_nil fun σ H Q ⟨b, f, ρ, R, S, t, q⟩ => q [] ρ [] f H t S (Nx.refl f H) .nil
theorem dkw_cons (ha : DE X e T) (hr : DKW X kws Tr) : DKW X (⟨nm, e, kpos⟩ :: kws) (dCons T Tr) := PK.weak (pk_cons ha hr) fun σ H Q ⟨b, f, ρ, R, S, t, q⟩ => ⟨b, f, ρ, _, S, t, fun d ρ1 v f1 H1 r S1 n1 dp => ⟨b, f1, ρ1, _, S1, r, fun ds ρ2 vs f2 H2 r2 S2 n2 dps =>
    q (d :: ds) ρ2 (v :: vs) f2 H2 r2 S2 (n1.trans S.pots n2) (.cons (dp_mono n2.ff d v dp) dps)⟩⟩
def dFnK (n m : Nat) (ix : List Nat) (c : Con) (T Tk : TDA) : TD := fun ρ R => T ρ fun ds ρ1 => ds.length = n ∧ Tk ρ1 fun es ρ2 => es.length = m ∧ c (pickAt ix (ds ++ es)) fun d => R d ρ2
theorem de_fnK {k : Con} {n m : Nat} {ix : List Nat} (h : PE X e (tCallP n m (spD X.K k) ix (liftA X.K Tr) (liftA X.K Tk))) : DE X e (dFnK n m ix k Tr Tk) := PE.weak h fun σ H Q ⟨b, f, ρ, R, S, t, q⟩ =>
  ⟨b, f, ρ, _, S, t, fun ds ρ1 vs f1 H1 ⟨l1, r⟩ S1 n1 dps => ⟨by rw [dpa_len dps]; exact l1, b, f1, ρ1, _, S1, r, fun es ρ2 zs f2 H2 ⟨l2, r2⟩ S2 n2 des => ⟨by rw [dpa_len des]; exact l2,
    f2.F, _, _, S2.tb, S2.fs, dpa_pick (dpa_app (dpa_mono n2.ff _ _ dps) des) ix, r2, fun d v F' H' r3 g dp => q d ρ2 v ⟨F', f2.P⟩ H' r3 (S2.grow g) ((n1.trans S.pots n2).trans S.pots (Nx.of_gr g)) dp⟩⟩⟩
theorem de_fnK0 {k : Con} {m : Nat} {ix : List Nat} (h : PE X e (tCallP 0 m (spD X.K k) ix tNil (liftA X.K Tk))) : DE X e (dFnK 0 m ix k dNil Tk) := PE.weak h fun σ H Q ⟨b, f, ρ, R, S, ⟨_, t⟩, q⟩ =>
  ⟨rfl, b, f, ρ, _, S, t, fun es ρ2 zs f2 H2 ⟨l2, r2⟩ S2 n2 des => ⟨by rw [dpa_len des]; exact l2,
    f2.F, _, _, S2.tb, S2.fs, dpa_pick des ix, r2, fun d v F' H' r3 g dp => q d ρ2 v ⟨F', f2.P⟩ H' r3 (S2.grow g) (n2.trans S.pots (Nx.of_gr g)) dp⟩⟩
end
end DL

/-! sorted(d.items()) -/
namespace DL
open PySem PySem.Spec PyProof.Rows L2
variable [Tbs] [Bse]
def prD (x : D × D) : D := .tuple [x.1, x.2]
theorem dp_key {K : PySem.W.Frag} {H : Hp} : ∀ k : L2.Key, Dp K H (kV k) (kD k)
  | .inl i => .int i
  | .inr x => .str x
theorem rel_key {k : L2.Key} {v : Value} (h : keyIs k v = true) : RelV (kV k) v := by
  rcases keyIs_shape h with ⟨i, t, rfl, rfl⟩ | ⟨x, t, rfl, rfl⟩
  · exact ⟨t, rfl⟩
  · exact ⟨t, rfl⟩
/-- the pairs at new addresses -/
def putP (g : Addr → Obj) : List Addr → List (L2.Key × V) → Hp → Hp
  | a :: as, p :: kvs, F => upd (putP g as kvs F) a (.frz (g a) (.tup [kV p.1, p.2]))
  | _, _, F => F
theorem putP_off {g : Addr → Obj} {b : Addr} {F : Hp} : ∀ (as : List Addr) (kvs : List (L2.Key × V)), b ∉ as → putP g as kvs F b = F b
  | [], _, _ => rfl
  | _ :: _, [], _ => rfl
  | a :: as, p :: kvs, h => by
    show upd (putP g as kvs F) a _ b = F b
    rw [upd_ne (fun z => h (by rw [z]; exact List.mem_cons_self)), putP_off as kvs fun z => h (List.mem_cons_of_mem _ z)]
theorem putP_at {g : Addr → Obj} {F : Hp} : ∀ (as : List Addr) (kvs : List (L2.Key × V)) (j : Nat) (b : Addr) (p : L2.Key × V), as.Nodup → as[j]? = some b → kvs[j]? = some p → putP g as kvs F b = some (.frz (g b) (.tup [kV p.1, p.2]))
  | [], _, _, _, _, _, h, _ => by simp at h
  | _ :: _, [], _, _, _, _, _, h => by simp at h
  | a :: as, p0 :: kvs, 0, b, p, _, h1, h2 => by
    have e1 := Option.some.inj (show some a = some b from h1)
    have e2 := Option.some.inj (show some p0 = some p from h2)
    subst e1
    subst e2
    exact upd_same
  | a :: as, p0 :: kvs, j + 1, b, p, nd, h1, h2 => by
    have h1' : as[j]? = some b := h1
    have n := List.nodup_cons.mp nd
    show upd (putP g as kvs F) a _ b = _
    rw [upd_ne fun z => n.1 (by rw [← z]; exact List.mem_of_getElem? h1')]
    exact putP_at as kvs j b p n.2 h1' h2
theorem dpa_putP {K : PySem.W.Frag} {F G : Hp} : ∀ (as : List Addr) (kvs : List (L2.Key × V)) (kds : List (D × D)), as.length = kvs.length → (∀ (j : Nat) (b : Addr) (p : L2.Key × V), as[j]? = some b → kvs[j]? = some p → ∃ o, G b = some (.frz o (.tup [kV p.1, p.2])) ∧ o.dict = none) → DpKv K F kvs kds → Same F G → DpAll K G (as.map V.ref) (kds.map prD)
  | [], [], _, _, _, h, _ => by cases h; exact .nil
  | [], _ :: _, _, l, _, _, _ => by cases l
  | _ :: _, [], _, l, _, _, _ => by cases l
  | a :: as, (k, v) :: kvs, _, l, g, h, s => by
    cases h with
    | cons h1 h2 =>
      obtain ⟨o, g0, g1⟩ := g 0 a _ rfl rfl
      refine .cons (.tup (.new g0 g1) (.cons (dp_key k) (.cons (dp_mono s _ _ h1) .nil))) ?_
      exact dpa_putP as kvs _ (Nat.succ.inj l) (fun j b p e1 e2 => g (j + 1) b p e1 e2) h2 s
section
variable {X : Cx} {pins : List (Addr × Obj)} {σ : L2.St} {F H : Hp} {s : Shared} {rank : D → Int} {p a : Addr} {vs : List (L2.Key × V)} {kds : List (D × D)}
theorem pairs_get {P : Program} {w : World} : ∀ {es : List DictEntry} {kvs : List (L2.Key × Value)} {vs : List (L2.Key × V)}, Pairs (mixKind P w) es kvs → KV vs kvs → ∀ (j : Nat) (e : DictEntry), es[j]? = some e → ∃ q, vs[j]? = some q ∧ RelV (kV q.1) e.key ∧ RelV q.2 e.val
  | _, _, _, .nil, .nil, j, e, h => by simp at h
  | _, _, _, .cons hk hv hp, .cons r1 r2, 0, e, h => by
    have z := Option.some.inj h
    subst z
    obtain ⟨e1, e2⟩ := r1
    refine ⟨_, rfl, ?_, ?_⟩
    · rw [e1]; exact rel_key hk
    · rw [hv]; exact e2
  | _, _, _, .cons hk hv hp, .cons r1 r2, j + 1, e, h => pairs_get hp r2 j e h
theorem pairs_len {P : Program} {w : World} : ∀ {es : List DictEntry} {kvs : List (L2.Key × Value)} {vs : List (L2.Key × V)}, Pairs (mixKind P w) es kvs → KV vs kvs → es.length = vs.length
  | _, _, _, .nil, .nil => rfl
  | _, _, _, .cons _ _ hp, .cons _ r2 => congrArg (· + 1) (pairs_len hp r2)
/-- tuples already laid are tracked, as they are -/
theorem takeF {H0 : Hp} {h' : Heap} {tk : Nat} {g : Addr → Obj} {P : Addr → List V → Prop} (I0 : Inv X pins σ H0 s) : ∀ (L : List Addr) (H1 : Hp), Inv X pins σ H1 { s with heap := h', toks := tk } → L.Nodup →
    (∀ a ∈ L, s.heap.objs.size ≤ a ∧ H1 a = none ∧ ∃ ws, P a ws ∧ ∀ H2, ObjOk X.prog X.w H2 h' a (.frz (g a) (.tup ws))) → ∃ H2, Inv X pins σ H2 { s with heap := h', toks := tk } ∧ Same H1 H2 ∧ ∀ a ∈ L, ∃ ws, P a ws ∧ H2 a = some (.frz (g a) (.tup ws))
  | [], H1, I1, _, _ => ⟨H1, I1, fun _ _ e => e, fun _ z => nomatch z⟩
  | a :: L, H1, I1, nd, h => by
    obtain ⟨hb, hf, ws, hP, ok⟩ := h a List.mem_cons_self
    have n := List.nodup_cons.mp nd
    have J := I1.take (h' := h') (t' := tk) (fun b ob _ e => e) (I0.fpOk hb hf) (ok _)
    obtain ⟨H2, J2, k, q⟩ := takeF I0 L _ J n.2 fun c hc => by
      obtain ⟨c1, c2, c3⟩ := h c (List.mem_cons_of_mem _ hc)
      exact ⟨c1, by rw [upd_ne fun z => n.1 (by rw [← z]; exact hc)]; exact c2, c3⟩
    refine ⟨H2, J2, fun b o e => k b o (by rw [upd_ne (ne_of_none e hf)]; exact e), fun c hc => ?_⟩
    rcases List.mem_cons.mp hc with rfl | hc
    · exact ⟨ws, hP, k _ _ upd_same⟩
    · exact q c hc
theorem view_sorted {Q : VK} (I : Inv X pins σ H s) (hh : X.A.handled = none) (fs : Same F H) (hp : H p = some (L2.DX.itemsO p a)) (ha : Rd H a (.dK vs)) (hd : DpKv X.K F vs kds) (hal : Ranked rank (kds.map prD)) (hsk : Kinded (kds.map prD)) (hu : ∀ d ∈ kds.map prD, X.A.units + 2 + d.depth < cLine)
    (q : ∀ (F' H' : Hp) (l : Addr) (ys : List V), Gr F H F' H' → H l = none → F' l = none → H' l = some (.lst ys) → DpAll X.K F' ys ((kds.map prD).mergeSort (byRank rank)) → Q (.ref l) H') :
    wpAny (model X.prog X.w) X.A (call (.builtin "sorted") [.ref p]) (EP X pins σ Q) X.xe s := by
  have view : s.heap.IsItemsView p a := (show ObjOk X.prog X.w H s.heap p (L2.DX.itemsO p a) from I.hok p _ hp).1
  obtain ⟨hz, hsys, kvs, rkv, o, es, ep, ho, hx, hdat, hks, hpr, hnd⟩ := Rd.ok ha I.hok
  have lev : es.toList.length = vs.length := pairs_len hpr rkv
  have les : es.size = vs.length := by rw [← lev]; simp
  refine DT.sortedI (es := es) (ep := ep) hh view ⟨o, ho, hx, hdat⟩ (by rw [les]; exact hz) fun h' tk as hk hlt hl hG => ?_
  have lav : as.length = vs.length := by omega
  have nd : as.Nodup := List.Pairwise.imp (fun h => Nat.ne_of_lt h) hG.rise
  have hob : (h'.push { cls := .type "list", data := .seq (as.map Value.ref).toArray }).get? h'.objs.size = some (seqObj "list" (as.map Value.ref).toArray 0) := Heap.get?_push_size _ rfl
  have old : ∀ c o, h'.get? c = some o → c ≠ h'.objs.size ∧ (h'.push { cls := .type "list", data := .seq (as.map Value.ref).toArray }).get? c = some o := fun c o e => ⟨Nat.ne_of_lt (Heap.lt_size e), Heap.get?_push_of_some _ e⟩
  generalize hh2 : h'.push { cls := .type "list", data := .seq (as.map Value.ref).toArray } = h2 at hob old ⊢
  -- each pair, where it stands
  have pr : ∀ (j : Nat) (b : Addr), as[j]? = some b → ∃ (pv : L2.Key × V) (u1 u2 : Value), vs[j]? = some pv ∧ RelV (kV pv.1) u1 ∧ RelV pv.2 u2 ∧ h'.get? b = some { cls := .type "tuple", data := .seq #[u1, u2] } := fun j b hj => by
    obtain ⟨en, he, hg⟩ := hG.pairs j b hj
    obtain ⟨pv, e1, r1, r2⟩ := pairs_get hpr rkv j en (by rw [Array.getElem?_toList]; exact he)
    exact ⟨pv, _, _, e1, r1, r2, hg⟩
  have new : ∀ b ∈ as, s.heap.objs.size ≤ b ∧ H b = none := fun b hb => ⟨Nat.le_of_lt (hG.above b hb), I.hok.fresh (Nat.le_of_lt (hG.above b hb))⟩
  have newF : ∀ b ∈ as, F b = none := fun b hb => fs.free (new b hb).2
  have lsz : s.heap.objs.size ≤ h'.objs.size := Nat.le_of_lt hlt
  have lna : h'.objs.size ∉ as := fun z => absurd (hG.there z) (Nat.lt_irrefl _)
  let gO : Addr → Obj := fun b => (h'.get? b).getD default
  have gN : ∀ b ∈ as, (gO b).dict = none := fun b hb => by
    obtain ⟨j, hj⟩ := List.mem_iff_getElem?.mp hb
    obtain ⟨pv, u1, u2, _, _, _, hg⟩ := pr j b hj
    show ((h'.get? b).getD default).dict = none
    rw [hg]
    rfl
  -- over any heap that keeps what h' has, apart from the list
  have track : ∀ (hX : Heap) (tX : Nat) (H1 : Hp), Inv X pins σ H1 { s with heap := hX, toks := tX } → (∀ b o, h'.get? b = some o → hX.get? b = some o) → (∀ b ∈ as, H1 b = none) →
      ∃ H2, Inv X pins σ H2 { s with heap := hX, toks := tX } ∧ Same H1 H2 ∧ ∀ (j : Nat) (b : Addr) (pv : L2.Key × V), as[j]? = some b → vs[j]? = some pv → H2 b = some (.frz (gO b) (.tup [kV pv.1, pv.2])) := fun hX tX H1 I1 kX nX => by
    obtain ⟨H2, I2, g, t⟩ := takeF (g := gO) (P := fun b ws => ∃ (j : Nat) (pv : L2.Key × V), as[j]? = some b ∧ vs[j]? = some pv ∧ ws = [kV pv.1, pv.2]) I as H1 I1 nd fun b hb => by
      obtain ⟨j, hj⟩ := List.mem_iff_getElem?.mp hb
      obtain ⟨pv, u1, u2, e1, r1, r2, hg⟩ := pr j b hj
      refine ⟨(new b hb).1, nX b hb, [kV pv.1, pv.2], ⟨j, pv, hj, e1, rfl⟩, fun H3 => ?_⟩
      have eg : gO b = { cls := .type "tuple", data := .seq #[u1, u2] } := by
        show (h'.get? b).getD default = _
        rw [hg]
        rfl
      rw [eg]
      exact ⟨kX _ _ hg, by rw [sizeLine_eq]; show 2 ≤ 16777216; omega, [u1, u2], .cons r1 (.cons r2 .nil), _, kX _ _ hg, rfl, 0, rfl⟩
    refine ⟨H2, I2, g, fun j b pv hj hv => ?_⟩
    obtain ⟨ws, ⟨i, pv', i1, i2, ew⟩, hH⟩ := t b (List.mem_of_getElem? hj)
    have eij : i = j := (List.getElem?_inj (List.getElem?_eq_some_iff.mp i1).1 nd).mp (i1.trans hj.symm)
    subst eij
    rw [hv] at i2
    cases i2
    rw [hH, ew]
  -- ahead of the sort
  have upS : ∀ c o, h'.get? c = some o → (PySem.W.sortingHeap h2 h'.objs.size (as.map Value.ref)).get? c = some o := fun c o e => PySem.W.sortingHeap_old (old c o e).1 (old c o e).2
  have I0 : Inv X pins σ H { s with heap := PySem.W.sortingHeap h2 h'.objs.size (as.map Value.ref), toks := tk } := I.kept (t' := tk) fun b o e => upS b o (hk b o e)
  obtain ⟨HS, IS, gS, tS⟩ := track _ tk H I0 upS fun b hb => (new b hb).2
  have rv : Vals (as.map V.ref) (as.map Value.ref) := by
    have : ∀ l : List Addr, Vals (l.map V.ref) (l.map Value.ref) := fun l => by
      induction l with
      | nil => exact .nil
      | cons _ _ ih => exact .cons rfl ih
    exact this as
  have hrd : PySem.W.EachIs (fun v k => ∃ bs, Reads (PySem.W.sortingHeap h2 h'.objs.size (as.map Value.ref)) v k bs) (as.map Value.ref) (kds.map prD) :=
    (each_in rv (dpa_putP as vs kds lav (fun j b pv e1 e2 => ⟨_, tS j b pv e1 e2, gN b (List.mem_of_getElem? e1)⟩) hd (fs.trans gS))).mono fun u d ⟨x, r, dp⟩ => Dp.reads IS d x u dp r
  have lits : (as.map Value.ref).length ≤ sizeLine := by rw [List.length_map, lav]; exact hz
  refine wpAny_call_entry PyProof.Rows.slot_list_sort ⟨_, hob, rfl⟩ PyProof.Rows.entry_list_sort ?_ (PyProof.Rows.args_list_sort _)
  refine PySem.W.list_sort_vals (κ := rankKind (PySem.W.sortingHeap h2 h'.objs.size (as.map Value.ref)) (kds.map prD) rank) (s := { s with heap := h2, toks := tk }) hob (ranked_sorts (s := { s with heap := PySem.W.sortingHeap h2 h'.objs.size (as.map Value.ref), toks := tk }) hrd hal hsk hu) lits ⟨_, rfl, ?_⟩
  have hkz : PySem.W.EachIs (fun v d => (rankKind (PySem.W.sortingHeap h2 h'.objs.size (as.map Value.ref)) (kds.map prD) rank).keyOf v = some (rank d)) (as.map Value.ref) (kds.map prD) := (PySem.W.each_mem hrd).mono fun v d ⟨⟨bs, r⟩, hm⟩ => rankKind_some hal hm r
  -- what is frozen then
  have atP : ∀ (j : Nat) (b : Addr) (pv : L2.Key × V), as[j]? = some b → vs[j]? = some pv → putP gO as vs F b = some (.frz (gO b) (.tup [kV pv.1, pv.2])) := fun j b pv e1 e2 => putP_at as vs j b pv nd e1 e2
  have sameP : Same F (putP gO as vs F) := fun b o e => by
    rw [putP_off as vs fun z => by rw [newF b z] at e; cases e]
    exact e
  have each := PySem.W.sortVals_each (rev := false) (κ := rankKind (PySem.W.sortingHeap h2 h'.objs.size (as.map Value.ref)) (kds.map prD) rank) rank (each_in (F := putP gO as vs F) rv (dpa_putP as vs kds lav (fun j b pv e1 e2 => ⟨_, atP j b pv e1 e2, gN b (List.mem_of_getElem? e1)⟩) hd sameP)) hkz
  have e5 : PySem.W.sortLe (rankKind (PySem.W.sortingHeap h2 h'.objs.size (as.map Value.ref)) (kds.map prD) rank).toKeyOrd false rank = byRank rank := sortLe_rank _
  rw [e5] at each
  obtain ⟨ys, ry, dy⟩ := out_vals (h := s.heap) each
  obtain ⟨en, hout⟩ := sortedHeap_at (vs := as.map Value.ref) (out := (PySem.W.sortVals (rankKind (PySem.W.sortingHeap h2 h'.objs.size (as.map Value.ref)) (kds.map prD) rank) false (as.map Value.ref) (as.map Value.ref)).toArray) hob
  have hn0 : H h'.objs.size = none := I.hok.fresh lsz
  have upE : ∀ c o, h'.get? c = some o → (sortedHeap h2 h'.objs.size (as.map Value.ref) (PySem.W.sortVals (rankKind (PySem.W.sortingHeap h2 h'.objs.size (as.map Value.ref)) (kds.map prD) rank) false (as.map Value.ref) (as.map Value.ref)).toArray).get? c = some o := fun c o e =>
    (sortedHeap_old (old c o e).1 (Heap.lt_size (old c o e).2)).trans (old c o e).2
  have I1 : Inv X pins σ H { s with heap := sortedHeap h2 h'.objs.size (as.map Value.ref) (PySem.W.sortVals (rankKind (PySem.W.sortingHeap h2 h'.objs.size (as.map Value.ref)) (kds.map prD) rank) false (as.map Value.ref) (as.map Value.ref)).toArray, toks := tk } := I.kept (t' := tk) fun b o e => upE b o (hk b o e)
  have lys : ys.length ≤ sizeLine := by
    rw [dpa_len dy, List.length_mergeSort, List.length_map]
    have e := dpa_len (dpa_putP (K := X.K) as vs kds lav (fun j b pv e1 e2 => ⟨_, atP j b pv e1 e2, gN b (List.mem_of_getElem? e1)⟩) hd sameP)
    rw [List.length_map, List.length_map] at e
    omega
  have I2 := I1.take (t' := tk) (o := .lst ys) (fun b ob _ e => e) (I.fpOk lsz hn0) ⟨lys, _, en, ry, hout⟩
  obtain ⟨HE, IE, gE, tE⟩ := track _ tk (upd H h'.objs.size (.lst ys)) I2 upE fun b hb => by
    rw [upd_ne fun z => lna (by rw [← z]; exact hb)]
    exact (new b hb).2
  refine ⟨.ref h'.objs.size, HE, IE, rfl, q (putP gO as vs F) HE h'.objs.size ys ⟨.of ?_, sameP, ?_, ?_, ?_⟩ hn0 ?_ (gE _ _ upd_same) dy⟩
  · exact fun b o e => gE b o (by rw [upd_ne (ne_of_none e hn0)]; exact e)
  · intro b o e
    by_cases hb : b ∈ as
    · obtain ⟨j, hj⟩ := List.mem_iff_getElem?.mp hb
      obtain ⟨pv, _, _, e1, _, _, _⟩ := pr j b hj
      rw [atP j b pv hj e1] at e
      rw [tE j b pv hj e1]
      exact e
    · rw [putP_off as vs hb] at e
      exact gE b o (by rw [upd_ne (ne_of_none (fs b o e) hn0)]; exact fs b o e)
  · intro b o e
    by_cases hb : b ∈ as
    · exact .inr (new b hb).2
    · rw [putP_off as vs hb] at e
      exact .inl ⟨o, e⟩
  · intro t
    refine ⟨t.t.ext fun b o e => gE b o (by rw [upd_ne (ne_of_none e hn0)]; exact e), fun b o e => ?_, fun z => (t.m z).imp fun _ e => gE _ _ (by rw [upd_ne (ne_of_none e hn0)]; exact e)⟩
    by_cases hb : b ∈ as
    · obtain ⟨j, hj⟩ := List.mem_iff_getElem?.mp hb
      obtain ⟨pv, _, _, e1, _, _, _⟩ := pr j b hj
      rw [atP j b pv hj e1] at e
      cases e
      exact True.intro
    · rw [putP_off as vs hb] at e
      exact t.z b o e
  · rw [putP_off as vs lna]
    exact fs.free hn0
end
end DL

/-! more rules over data: repr, texts, dicts -/
namespace DL
open PySem PySem.Spec PyProof.Rows L2
variable [Tbs] [Bse]
section
variable {X : Cx} {e a b c : Expr} {es : List Expr} {T Ta Tb : TD} {Tr : TDA} {pos apos : Pos}
/-! ### repr -/
def fitD (d : D) : Prop := d.canLay0 = true ∧ d.showable = true ∧ d.depth ≤ 60 ∧ d.shown.length ≤ sizeLine
def cRepr : Con := fun ds R => ∃ d, ds = [d] ∧ fitD d ∧ R (.str d.shown)
theorem shown_str (x : Str) : PyData.shown (.str x) = reprText x := by simp only [PyData.shown]
theorem cd_reprU (hg : X.A.guards = some []) (hu : X.A.units + 200 < cLine) : CallR X (.builtin "repr") (liftC X.K cRepr) := by
  intro pins s σ H xs us Q I rx h
  obtain ⟨f, ds, R, fs, ba, ⟨d, rfl, ⟨h1, h2, h3, h4⟩, r⟩, q⟩ := h
  obtain ⟨v, rfl, bo⟩ := ba.one
  obtain ⟨u, rfl, rv⟩ := vals1 rx
  obtain ⟨as, rd⟩ := Dp.reads I d v u (bo.dp fs) rv
  have hun := hu
  have fin : ∀ {s' : Shared} {t : Tok}, Inv X pins σ H s' → EP X pins σ Q (.str d.shown t) s' := fun {s' t} J => ⟨.str d.shown, H, J, ⟨t, rfl⟩, flatC fs q r (.str _)⟩
  cases rd with
  | none => exact PySem.P.repr_of_none (by have z := fin (t := s.toks) (I.tok (s.toks + 1)); simp only [PyData.shown] at z; exact z)
  | bool b => exact PySem.P.repr_of_bool (by have z := fin (t := s.toks) (I.tok (s.toks + 1)); simp only [PyData.shown] at z; exact z)
  | int i t => exact PySem.P.repr_of_int (by simpa [PyData.showable] using h2) (by have z := fin (t := s.toks) (I.tok (s.toks + 1)); simp only [PyData.shown] at z; exact z)
  | str x t => exact PySem.P.repr_of_str (by have z := fin (t := s.toks) (I.tok (s.toks + 1)); simp only [PyData.shown] at z; exact z) (by rw [← shown_str]; exact h4)
  | list g1 g2 g3 g4 =>
    exact repr_of_reads' (.list g1 g2 g3 g4) h2 (PyData.noDict_hsm (PyData.hasDict_of_canLay _ h1)) hg (by omega) (fun _ _ e => e) (fun h' w tk kp => fin (I.kept (t' := tk) kp)) h4
  | tuple g1 g2 g3 g4 =>
    exact repr_of_reads' (.tuple g1 g2 g3 g4) h2 (PyData.noDict_hsm (PyData.hasDict_of_canLay _ h1)) hg (by omega) (fun _ _ e => e) (fun h' w tk kp => fin (I.kept (t' := tk) kp)) h4
  | dict _ _ _ _ _ => simp [PyData.canLay0] at h1
theorem cd_repr (hg : X.A.guards = some []) {k : Nat} (hr : Room k X.A) : CallR X (.builtin "repr") (liftC X.K cRepr) := cd_reprU hg (by have := hr.un; omega)
/-! ### numbers and texts -/
theorem od_mulW : OpR X (binaryOp .Mult) (liftO X.K (rIntsC CMulW fun i j => .int (i * j))) := od_intsC op_mulW
def cStr : Con := fun ds R => (∃ i, ds = [.int i] ∧ i.natAbs.log2 < 1920 ∧ R (.str (toString i)))
theorem cd_str : CallR X (.type "str") (liftC X.K cStr) := CallR.weak call_str_int fun xs H Q q => by
  obtain ⟨f, ds, R, fs, ba, ⟨i, rfl, hz, r⟩, q⟩ := q
  obtain ⟨v, rfl, bo⟩ := ba.one
  exact ⟨i, by rw [bo.int], hz, flatC fs q r (.str _)⟩
/-- int(x): of a number, a bool, a text -/
def cIntS : Con := fun ds R => (∃ i, ds = [.int i] ∧ R (.int i)) ∨ (∃ k, ds = [.bool k] ∧ R (.int (if k then 1 else 0))) ∨ ∃ x n, ds = [.str x] ∧ PySem.intText? x = some n ∧ x.length ≤ 640 ∧ R (.int n)
theorem cd_intS : CallR X (.type "int") (liftC X.K cIntS) := CallR.weak (CallR.or call_int1 call_int_str) fun xs H Q q => by
  obtain ⟨f, ds, R, fs, ba, r, q⟩ := q
  rcases r with ⟨i, rfl, r⟩ | ⟨k, rfl, r⟩ | ⟨x, n, rfl, h1, h2, r⟩
  · obtain ⟨v, rfl, bo⟩ := ba.one
    exact .inl (.inl ⟨i, by rw [bo.int], flatC fs q r (.int _)⟩)
  · obtain ⟨v, rfl, bo⟩ := ba.one
    exact .inl (.inr ⟨k, by rw [bo.bl], flatC fs q r (.int _)⟩)
  · obtain ⟨v, rfl, bo⟩ := ba.one
    exact .inr ⟨x, n, by rw [bo.str], h1, h2, flatC fs q r (.int _)⟩
/-- a method of a text -/
def dM0 (r : Str → (D → Prop) → Prop) (T : TD) : TD := fun ρ R => T ρ fun d ρ' => ∃ x, d = .str x ∧ r x fun z => R z ρ'
def dM1 (r : Str → D → (D → Prop) → Prop) (T U : TD) : TD := fun ρ R => T ρ fun d ρ1 => ∃ x, d = .str x ∧ U ρ1 fun y ρ2 => r x y fun z => R z ρ2
def liftM0 (K : PySem.W.Frag) (r : Str → (D → Prop) → Prop) : V → List V → Hp → VK → Prop := fun v vs H Q => ∃ (f : Fz) (x : Str) (R : D → Prop), Same f.F H ∧ v = .str x ∧ vs = [] ∧ r x R ∧ ∀ z v F' H', R z → Gr f.F H F' H' → Dp K F' v z → Q v H'
def liftM1 (K : PySem.W.Frag) (r : Str → D → (D → Prop) → Prop) : V → List V → Hp → VK → Prop := fun v vs H Q => ∃ (f : Fz) (x : Str) (y : D) (w : V) (R : D → Prop), Same f.F H ∧ v = .str x ∧ vs = [w] ∧ Bo K f H w y ∧ r x y R ∧ ∀ z v F' H', R z → Gr f.F H F' H' → Dp K F' v z → Q v H'
theorem MtR.weak {id : String} {r r' : V → List V → Hp → VK → Prop} (h : MtR X id r) (w : ∀ x xs H Q, r' x xs H Q → r x xs H Q) : MtR X id r' := fun pins s σ H x xs v us Q I rx rxs q => h pins s σ H x xs v us Q I rx rxs (w _ _ _ _ q)
theorem de_m0 {id : String} {name : Str} {r : Str → (D → Prop) → Prop} (slot : Slot "str" name id) (ty : typeOf (.builtin id) = pure (.type "method_descriptor")) (rule : MtR X id (liftM0 X.K r)) (ho : DB X e T)
    (hbase : attributeBase e name X.env (eval e X.env) = eval e X.env := by rfl) (hline : (apos.endLine == pos.line) = true := by rfl) : DE X (.Call (.Attribute e name apos) [] [] pos) (dM0 r T) :=
  PE.weak (pe_m0 slot ty rule ho hbase hline) fun σ H Q ⟨bb, f, ρ, R, S, t, q⟩ => ⟨bb, f, ρ, _, S, t, fun d ρ' v f' H' ⟨x, hx, r⟩ S' n bo => by
    subst hx
    refine ⟨⟨x, bo.str⟩, f', x, _, S'.fs, bo.str, rfl, r, fun z w F2 H2 rz g dp => q z ρ' w ⟨F2, f'.P⟩ H2 rz (S'.grow g) (n.trans S.pots (Nx.of_gr g)) dp⟩⟩
theorem de_m1 {id : String} {name : Str} {r : Str → D → (D → Prop) → Prop} (slot : Slot "str" name id) (ty : typeOf (.builtin id) = pure (.type "method_descriptor")) (rule : MtR X id (liftM1 X.K r)) (ho : DB X e Ta) (ha : DB X a Tb)
    (hs : starEach [a] X.env = [(false, eval a X.env)] := by rfl) (hbase : attributeBase e name X.env (eval e X.env) = eval e X.env := by rfl) (hline : (apos.endLine == pos.line) = true := by rfl) : DE X (.Call (.Attribute e name apos) [a] [] pos) (dM1 r Ta Tb) :=
  PE.weak (pe_m1 slot ty rule ho ha hs hbase hline) fun σ H Q ⟨bb, f, ρ, R, S, t, q⟩ => ⟨bb, f, ρ, _, S, t, fun d ρ1 v f1 H1 ⟨x, hx, r1⟩ S1 n1 bo => by
    subst hx
    refine ⟨⟨x, bo.str⟩, bb, f1, ρ1, _, S1, r1, fun y ρ2 w f2 H2 r2 S2 n2 bo2 => ?_⟩
    exact ⟨f2, x, y, w, _, S2.fs, bo.str, rfl, bo2, r2, fun z w2 F3 H3 rz g dp => q z ρ2 w2 ⟨F3, f2.P⟩ H3 rz (S2.grow g) ((n1.trans S.pots n2).trans S.pots (Nx.of_gr g)) dp⟩⟩
def mBool (g : Str → Bool) : Str → (D → Prop) → Prop := fun x R => R (.bool (g x))
theorem md_bool {id : String} {g : Str → Bool} (h : MtR X id (fun x xs H Q => ∃ a, x = .str a ∧ xs = [] ∧ True ∧ Q (.bl (g a)) H)) : MtR X id (liftM0 X.K (mBool g)) := MtR.weak h fun v vs H Q ⟨f, x, R, fs, e1, e2, r, q⟩ => ⟨x, e1, e2, trivial, flatC fs q r (.bl _)⟩
theorem md_isalpha : MtR X "str.isalpha" (liftM0 X.K (mBool Txt.isalpha)) := md_bool mt_isalpha
theorem md_isdigit : MtR X "str.isdigit" (liftM0 X.K (mBool Txt.isdigit)) := md_bool mt_isdigit
theorem md_islower : MtR X "str.islower" (liftM0 X.K (mBool Txt.islower)) := md_bool mt_islower
theorem md_isascii : MtR X "str.isascii" (liftM0 X.K (mBool Txt.isascii)) := md_bool mt_isascii
theorem strs_v {K : PySem.W.Frag} {H : Hp} : ∀ {vs : List V} {ys : List Str}, DpAll K H vs (ys.map PyData.str) → vs = ys.map V.str
  | _, [], .nil => rfl
  | _, y :: ys, .cons a t => by
    cases a
    rw [strs_v t]
    rfl
theorem dpa_strs {K : PySem.W.Frag} {H : Hp} : ∀ ys : List Str, DpAll K H (ys.map V.str) (ys.map PyData.str)
  | [] => .nil
  | y :: ys => .cons (.str y) (dpa_strs ys)
def mJoin : Str → D → (D → Prop) → Prop := fun x y R => ∃ ys : List Str, seqD y = some (ys.map PyData.str) ∧ (ys.map (·.length)).sum + ys.length * x.length ≤ 16777216 ∧ R (.str (Txt.join x ys))
theorem md_join : MtR X "str.join" (liftM1 X.K mJoin) := MtR.weak mt_join fun v vs H Q ⟨f, x, y, w, R, fs, e1, e2, bo, ⟨ys, h1, h2, r⟩, q⟩ => by
  rcases seqD_cases h1 with rfl | rfl
  · obtain ⟨p, ws, rfl, hl, dl⟩ := bo.lst fs
    rw [strs_v dl] at hl
    exact ⟨x, p, ys, e1, e2, .inl hl, h2, flatC fs q r (.str _)⟩
  · obtain ⟨p, ws, rfl, hl, dl⟩ := bo.tup fs
    rw [strs_v dl] at hl
    exact ⟨x, p, ys, e1, e2, .inr hl, h2, flatC fs q r (.str _)⟩
def mSplit : Str → D → (D → Prop) → Prop := fun x y R => ∃ b, y = .str b ∧ (b.length == 0) = false ∧ x.length + 2 ≤ sizeLine ∧ R (.list ((Txt.split x b).map PyData.str))
theorem md_split : MtR X "str.split" (liftM1 X.K mSplit) := MtR.weak mt_split fun v vs H Q ⟨f, x, y, w, R, fs, e1, e2, bo, ⟨b, h0, h1, h2, r⟩, q⟩ => by
  subst h0
  refine ⟨x, b, e1, by rw [e2, bo.str], h1, h2, fun p hp => ?_⟩
  have g : Gr f.F H (upd f.F p (.lst ((Txt.split x b).map V.str))) (upd H p (.lst ((Txt.split x b).map V.str))) := Gr.new fs hp lst_ntbl
  exact q _ _ _ _ r g (.lst (.inl (.inl upd_same)) (dpa_strs _))
/-! ### f-strings of texts and numbers -/
def fmtD : D → Option Str
  | .str x => if x.length ≤ sizeLine then some x else none
  | .int i => if i.natAbs.log2 < 1920 then some ((toString i : String) : Str) else none
  | _ => none
def dFmt (T : TD) : TD := fun ρ R => T ρ fun d ρ' => ∃ x, fmtD d = some x ∧ R (.str x) ρ'
theorem de_fmt (h : DE X e T) : DE X (.FormattedValue e (-1) none pos) (dFmt T) := PE.weak (pe_fmt h) fun σ H Q ⟨bb, f, ρ, R, S, t, q⟩ => ⟨bb, f, ρ, _, S, t, fun d ρ' v f' H' ⟨x, hx, r⟩ S' n dp => by
  cases d with
  | str y =>
    have hx' : (if y.length ≤ sizeLine then some y else Option.none) = some x := hx
    by_cases hz : y.length ≤ sizeLine
    · rw [if_pos hz] at hx'
      cases hx'
      cases dp
      exact .inl ⟨_, rfl, hz, q _ ρ' _ f' H' r S' n (.str _)⟩
    · rw [if_neg hz] at hx'
      cases hx'
  | int i =>
    have hx' : (if i.natAbs.log2 < 1920 then some ((toString i : String) : Str) else Option.none) = some x := hx
    by_cases hz : i.natAbs.log2 < 1920
    · rw [if_pos hz] at hx'
      cases hx'
      cases dp
      exact .inr ⟨_, rfl, hz, q _ ρ' _ f' H' r S' n (.str _)⟩
    · rw [if_neg hz] at hx'
      cases hx'
  | _ => cases hx⟩
/-- the parts one behind the other -/
def dJs : List TD → Str → TD
  | [], acc => fun ρ R => R (.str acc) ρ
  | T :: Ts, acc => fun ρ R => T ρ fun d ρ' => ∃ x, d = .str x ∧ (acc ++ x).length ≤ sizeLine ∧ dJs Ts (acc ++ x) ρ' R
inductive DJ (X : Cx) : List Expr → List TD → Prop where
  | nil : DJ X [] []
  | cons {e : Expr} {T : TD} {es : List Expr} {Ts : List TD} (h : DE X e T) (r : DJ X es Ts) : DJ X (e :: es) (T :: Ts)
theorem DJ.pj {es : List Expr} {Ts : List TD} (h : DJ X es Ts) : PJ X es (Ts.map (lift X.K)) := by
  induction h with
  | nil => exact .nil
  | cons h _ ih => exact .cons h ih
theorem js_weak {K : PySem.W.Frag} : ∀ (Ts : List TD) (acc : Str) (σ : L2.St) (H : Hp) (Q : Str → Hp → Prop), lift K (dJs Ts acc) σ H (fun v H' => ∃ x, v = .str x ∧ Q x H') → tJs (Ts.map (lift K)) acc σ H Q
  | [], acc, σ, H, Q, ⟨bb, f, ρ, R, S, t, q⟩ => by
    obtain ⟨x, e, h⟩ := q _ ρ (.str acc) f H t S (Nx.refl f H) (.str acc)
    cases e
    exact h
  | T :: Ts, acc, σ, H, Q, ⟨bb, f, ρ, R, S, t, q⟩ => ⟨bb, f, ρ, _, S, t, fun d ρ' v f' H' ⟨x, hx, hz, r⟩ S' n dp => by
    subst hx
    cases dp
    exact ⟨x, rfl, hz, js_weak Ts (acc ++ x) σ H' Q ⟨bb, f', ρ', R, S', r, fun d2 ρ2 v2 f2 H2 r2 S2 n2 dp2 => q d2 ρ2 v2 f2 H2 r2 S2 (n.trans S.pots n2) dp2⟩⟩⟩
theorem js_str {Ts : List TD} {acc : Str} {ρ : DS} {R : D → DS → Prop} (mono : ∀ T ∈ Ts, ∀ ρ (R R' : D → DS → Prop), (∀ d ρ', R d ρ' → R' d ρ') → T ρ R → T ρ R') (h : dJs Ts acc ρ R) : dJs Ts acc ρ fun d ρ' => (∃ x, d = .str x) ∧ R d ρ' := by
  induction Ts generalizing acc ρ with
  | nil => exact ⟨⟨acc, rfl⟩, h⟩
  | cons T Ts ih => exact mono T List.mem_cons_self _ _ _ (fun d ρ' ⟨x, hx, hz, r⟩ => ⟨x, hx, hz, ih (fun T' hT => mono T' (List.mem_cons_of_mem _ hT)) r⟩) h
def dFs (Ts : List TD) : TD := fun ρ R => dJs Ts Str.empty ρ fun d ρ' => (∃ x, d = .str x) ∧ R d ρ'
theorem de_fs {v1 v2 : Expr} {rest : List Expr} {Ts : List TD} (h : DJ X (v1 :: v2 :: rest) Ts) : DE X (.JoinedStr (v1 :: v2 :: rest) pos) (dFs Ts) := PE.weak (pe_joined h.pj) fun σ H Q ⟨bb, f, ρ, R, S, t, q⟩ =>
  js_weak Ts _ σ H _ ⟨bb, f, ρ, _, S, t, fun d ρ' v f' H' ⟨⟨x, hx⟩, r⟩ S' n dp => by
    subst hx
    cases dp
    exact ⟨x, rfl, q _ ρ' _ f' H' r S' n (.str x)⟩⟩
/-! ### is, of bools -/
def rIsD (neg : Bool) : D → D → (D → Prop) → Prop := fun d e R => ∃ x y, d = .bool x ∧ e = .bool y ∧ R (.bool (if neg then !decide (x = y) else decide (x = y)))
theorem od_is : OpR X (compareOp .Is) (liftO X.K (rIsD false)) := OpR.weak op_isBl fun x y H Q q => by
  obtain ⟨f, d, e, R, fs, bx, bY, ⟨i, j, rfl, rfl, r⟩, q⟩ := q
  exact ⟨i, j, bx.bl, bY.bl, flatQ fs q r (.bl _)⟩
theorem od_isnot : OpR X (compareOp .IsNot) (liftO X.K (rIsD true)) := OpR.weak op_notBl fun x y H Q q => by
  obtain ⟨f, d, e, R, fs, bx, bY, ⟨i, j, rfl, rfl, r⟩, q⟩ := q
  exact ⟨i, j, bx.bl, bY.bl, flatQ fs q r (.bl _)⟩
/-! ### [..] * n -/
def lRep (Tl : TDA) (T : TD) : TDA := fun ρ R => Tl ρ fun ds ρ1 => T ρ1 fun y ρ2 => ∃ k : Int, y = .int k ∧ -(2 ^ 63) ≤ k ∧ k < 2 ^ 63 ∧ ds.length * k.toNat ≤ sizeLine ∧ R (List.replicate k.toNat ds).flatten ρ2
theorem dpa_rep {K : PySem.W.Frag} {F : Hp} {vs : List V} {ds : List D} (h : DpAll K F vs ds) : ∀ k : Nat, DpAll K F (List.replicate k vs).flatten (List.replicate k ds).flatten
  | 0 => .nil
  | k + 1 => by
    rw [List.replicate_succ, List.replicate_succ, List.flatten_cons, List.flatten_cons]
    exact dpa_app h (dpa_rep h k)
theorem de_rep (ha : DLs X a Tr) (hb : DE X b T) : DLs X (.BinOp a .Mult b pos) (lRep Tr T) := PE.weak (pe_op op_rep ha hb) fun σ H Q ⟨bb, f, ρ, R, S, t, q⟩ => ⟨bb, f, ρ, _, S, t, fun ds ρ1 p f1 H1 r1 S1 n1 O => by
  obtain ⟨_, hp, vs, rfl, dl⟩ := O.at_
  -- what stands aside is held
  have SG := S1.guard hp O.nf O.np O.no
  have lw : ExL X.K ⟨upd bb.1.B p (.lst vs), bb.1.F0, bb.1.P0⟩ := fun cls kvs ρ4 σ4 f4 H4 d4 xr S4 => bb.2 cls kvs ρ4 σ4 f4 H4 d4 xr (S4.loose (same_new O.nb))
  refine ⟨⟨⟨upd bb.1.B p (.lst vs), bb.1.F0, bb.1.P0⟩, lw⟩, f1, ρ1, _, SG, r1, fun y ρ2 w f2 H2 ⟨k, hk, k0, k1, hz, r⟩ S2 n2 dp => ?_⟩
  subst hk
  cases dp
  have hp2 : H2 p = some (.lst vs) := S2.bs.l upd_same
  refine ⟨p, k, vs, rfl, rfl, hp2, k0, k1, by rw [dpa_len dl]; exact hz, fun l hl => ?_⟩
  have SB : Sim X.K bb.1 f2 ρ2 σ H2 := S2.loose (same_new O.nb)
  obtain ⟨S3, O3, n3⟩ := Own.new SB hl (dpa_rep (dpa_mono n2.ff _ _ dl) k.toNat)
  exact q _ ρ2 l f2 _ r S3 ((n1.trans S.pots n2).trans S.pots n3) O3⟩
end
end DL

/-! dicts as data -/
namespace DL
open PySem PySem.Spec PyProof.Rows L2
variable [Tbs] [Bse]
abbrev KvD := List (L2.Key × D)
def kvD (m : KvD) : List (D × D) := m.map fun p => (kD p.1, p.2)
def getM (m : KvD) (k : L2.Key) : Option D := (m.find? fun p => decide (p.1 = k)).map (·.2)
def putM (m : KvD) (k : L2.Key) (d : D) : KvD := if (m.any fun p => decide (p.1 = k)) = true then m.map (fun p => if p.1 = k then (p.1, d) else p) else m ++ [(k, d)]
def mergeM (m more : KvD) : KvD := more.foldl (fun acc p => putM acc p.1 p.2) m
theorem kD_inj : ∀ {a b : L2.Key}, kD a = kD b → a = b
  | .inl _, .inl _, h => by injection h with h; rw [h]
  | .inr _, .inr _, h => by injection h with h; rw [h]
  | .inl _, .inr _, h => nomatch h
  | .inr _, .inl _, h => nomatch h
/-- values beside data, by keys -/
abbrev KM (K : PySem.W.Frag) (F : Hp) : List (L2.Key × V) → KvD → Prop := Paired fun p q => p.1 = q.1 ∧ Dp K F p.2 q.2
theorem km_of {K : PySem.W.Frag} {F : Hp} : ∀ {vs : List (L2.Key × V)} {m : KvD}, DpKv K F vs (kvD m) → KM K F vs m
  | _, [], h => by cases h; exact .nil
  | (k, v) :: vs, (k', d) :: m, h => by
    have h' : DpKv K F ((k, v) :: vs) ((kD k', d) :: kvD m) := h
    generalize hx : kD k' = x at h'
    cases h' with
    | cons a b => exact .cons ⟨(kD_inj hx).symm, a⟩ (km_of b)
theorem of_km {K : PySem.W.Frag} {F : Hp} : ∀ {vs : List (L2.Key × V)} {m : KvD}, KM K F vs m → DpKv K F vs (kvD m)
  | _, _, .nil => .nil
  | (k, v) :: vs, (k', d) :: m, .cons ⟨e, h⟩ t => by
    have e' : k = k' := e
    subst e'
    exact .cons h (of_km t)
theorem kvD_of {K : PySem.W.Frag} {F : Hp} : ∀ {vs : List (L2.Key × V)} {ds : List (D × D)}, DpKv K F vs ds → ∃ m, ds = kvD m
  | _, [], _ => ⟨[], rfl⟩
  | _, _ :: _, .cons a b => by
    obtain ⟨m, e⟩ := kvD_of b
    exact ⟨(_, _) :: m, by rw [e]; rfl⟩
section
variable {K : PySem.W.Frag} {F : Hp}
theorem km_get {vs : List (L2.Key × V)} {m : KvD} (h : KM K F vs m) (k : L2.Key) : (valV vs k = none ∧ getM m k = none) ∨ ∃ v d, valV vs k = some v ∧ getM m k = some d ∧ Dp K F v d := by
  induction h with
  | nil => exact .inl ⟨rfl, rfl⟩
  | @cons p q ps qs h _ ih =>
    obtain ⟨e, dp⟩ := h
    unfold valV getM at ih ⊢
    rw [List.find?_cons, List.find?_cons, e]
    by_cases z : q.1 = k
    · rw [decide_eq_true z]
      exact .inr ⟨_, _, rfl, rfl, dp⟩
    · rw [decide_eq_false z]
      exact ih
theorem km_any {vs : List (L2.Key × V)} {m : KvD} (h : KM K F vs m) (k : L2.Key) : (vs.any fun p => decide (p.1 = k)) = (m.any fun p => decide (p.1 = k)) := by
  induction h with
  | nil => rfl
  | cons h _ ih => rw [List.any_cons, List.any_cons, ih, h.1]
theorem km_app {vs us : List (L2.Key × V)} {m n : KvD} (h : KM K F vs m) (g : KM K F us n) : KM K F (vs ++ us) (m ++ n) := by
  induction h with
  | nil => exact g
  | cons a _ ih => exact .cons a ih
theorem km_put {vs : List (L2.Key × V)} {m : KvD} (h : KM K F vs m) (k : L2.Key) {v : V} {d : D} (r : Dp K F v d) : KM K F (putK vs k v) (putM m k d) := by
  unfold putK putM
  rw [km_any h k]
  split
  · induction h with
    | nil => exact .nil
    | @cons p q ps qs a _ ih =>
      rename_i z
      rw [List.map_cons, List.map_cons]
      have ih' : KM K F (ps.map fun kv => if kv.1 = k then (kv.1, v) else kv) (qs.map fun p => if p.1 = k then (p.1, d) else p) := by
        clear ih z
        rename_i t
        induction t with
        | nil => exact .nil
        | @cons p' q' ps' qs' a' _ ih' =>
          rw [List.map_cons, List.map_cons]
          refine .cons ?_ ih'
          rw [a'.1]
          split
          · exact ⟨rfl, r⟩
          · exact a'
      refine .cons ?_ ih'
      rw [a.1]
      split
      · exact ⟨rfl, r⟩
      · exact a
  · exact km_app h (.cons ⟨rfl, r⟩ .nil)
theorem km_merge : ∀ {us : List (L2.Key × V)} {n : KvD} {vs : List (L2.Key × V)} {m : KvD}, KM K F us n → KM K F vs m → KM K F (mergeK vs us) (mergeM m n)
  | _, _, vs, m, .nil, h => h
  | (k, v) :: us, (k', d) :: n, vs, m, .cons ⟨e, a⟩ t, h => by
    have e' : k = k' := e
    subst e'
    exact km_merge (us := us) (n := n) t (km_put h k a)
theorem km_len {vs : List (L2.Key × V)} {m : KvD} (h : KM K F vs m) : vs.length = m.length := Paired.length h
theorem km_mono {F' : Hp} {vs : List (L2.Key × V)} {m : KvD} (h : KM K F vs m) (s : Same F F') : KM K F' vs m := Paired.mapP h fun p q z => ⟨z.1, dp_mono s _ _ z.2⟩
end
section
variable {X : Cx} {e a b c i : Expr} {es : List Expr} {T Ta Tb : TD} {Tr : TDA} {pos apos : Pos} {st : Stmt}
/-! ### {}, d[k], d.get -/
def kNew : TDK := fun ρ R => R [] ρ
theorem dk_new : DKs X (.Dict [] [] pos) kNew := PE.weak pe_dnewK fun σ H Q ⟨bb, f, ρ, R, S, t, q⟩ p hp => by
  obtain ⟨S2, O, n⟩ := OwnC.new (u := .dK []) (c := .d []) S hp ⟨[], rfl, .nil⟩
  exact q [] ρ p f _ t S2 n O
def dGet (T Ty : TD) : TD := fun ρ R => T ρ fun d ρ1 => Ty ρ1 fun y ρ2 => ∃ m k z, d = .dict (kvD m) ∧ y = kD k ∧ getM m k = some z ∧ R z ρ2
theorem Bo.km {K : PySem.W.Frag} {f : Fz} {H : Hp} {v : V} {m : KvD} (fs : Same f.F H) (h : Bo K f H v (.dict (kvD m))) : ∃ p vs, v = .ref p ∧ Rd H p (.dK vs) ∧ KM K f.F vs m := by
  obtain ⟨p, vs, e, h1, h2⟩ := h.dct fs
  exact ⟨p, vs, e, h1, km_of h2⟩
theorem bo_key {K : PySem.W.Frag} {f : Fz} {H : Hp} {v : V} {k : L2.Key} (h : Bo K f H v (kD k)) : v = kV k := by
  cases k with
  | inl i => exact h.int
  | inr x => exact h.str
theorem de_get (hu : X.A.units + 1 < cLine) (h : DB X e T) (hi : DB X i Tb) (hs : NoSl i) : DE X (.Subscript e i pos) (dGet T Tb) := PE.weak (pe_dget hu h hi hs) fun σ H Q ⟨bb, f, ρ, R, S, t, q⟩ => ⟨bb, f, ρ, _, S, t, fun d ρ1 v f1 H1 r1 S1 n1 bo =>
  ⟨bb, f1, ρ1, _, S1, r1, fun y ρ2 w f2 H2 ⟨m, k, z, e1, e2, hz, r⟩ S2 n2 bo2 => by
    subst e1 e2
    obtain ⟨p, vs, rfl, hp, km⟩ := (bo.next n2).km S2.fs
    obtain rfl := bo_key bo2
    rcases km_get km k with ⟨_, g⟩ | ⟨v', d', g1, g2, dp⟩
    · rw [hz] at g; cases g
    · rw [hz] at g2
      cases g2
      exact ⟨p, v', rfl, .inl ⟨vs, k, hp, rfl, g1.symm⟩, q _ ρ2 v' f2 H2 r S2 (n1.trans S.pots n2) dp⟩⟩⟩
def dGet1 (T Ty : TD) : TD := fun ρ R => T ρ fun d ρ1 => (∃ m, d = .dict (kvD m)) ∧ Ty ρ1 fun y ρ2 => ∃ m k, d = .dict (kvD m) ∧ y = kD k ∧ R ((getM m k).getD .none) ρ2
theorem de_get1 (hu : X.A.units + 1 < cLine) (h : DB X e T) (hi : DB X i Tb) (m : M1 X e "get" apos i pos) : DE X (.Call (.Attribute e "get" apos) [i] [] pos) (dGet1 T Tb) := PE.weak (pe_dget1 hu h hi m) fun σ H Q ⟨bb, f, ρ, R, S, t, q⟩ =>
  ⟨bb, f, ρ, _, S, t, fun d ρ1 v f1 H1 ⟨⟨m0, e0⟩, r1⟩ S1 n1 bo => by
    subst e0
    obtain ⟨p, vs, rfl, hp, _⟩ := bo.km S1.fs
    refine ⟨p, rfl, .inl ⟨vs, hp⟩, bb, f1, ρ1, _, S1, r1, fun y ρ2 w f2 H2 ⟨m, k, e1, e2, r⟩ S2 n2 bo2 => ?_⟩
    rw [e1] at bo
    subst e2
    obtain ⟨p', vs', e3, hp', km⟩ := (bo.next n2).km S2.fs
    cases e3
    obtain rfl := bo_key bo2
    refine ⟨valV vs' k, .inl ⟨vs', k, hp', rfl, rfl⟩, ?_⟩
    rcases km_get km k with ⟨g1, g2⟩ | ⟨v', d', g1, g2, dp⟩
    · rw [g1]
      rw [g2] at r
      exact q _ ρ2 _ f2 H2 r S2 (n1.trans S.pots n2) .non
    · rw [g1]
      rw [g2] at r
      exact q _ ρ2 _ f2 H2 r S2 (n1.trans S.pots n2) dp⟩
def dGet2 (T Ty Tz : TD) : TD := fun ρ R => T ρ fun d ρ1 => (∃ m, d = .dict (kvD m)) ∧ Ty ρ1 fun y ρ2 => Tz ρ2 fun z ρ3 => ∃ m k, d = .dict (kvD m) ∧ y = kD k ∧ R ((getM m k).getD z) ρ3
theorem de_get2 (hu : X.A.units + 1 < cLine) (h : DB X e T) (hi : DB X i Tb) (hc : DE X c Ta) (m : M2 X e "get" apos i c pos) : DE X (.Call (.Attribute e "get" apos) [i, c] [] pos) (dGet2 T Tb Ta) := PE.weak (pe_dget2 hu h hi hc m) fun σ H Q ⟨bb, f, ρ, R, S, t, q⟩ =>
  ⟨bb, f, ρ, _, S, t, fun d ρ1 v f1 H1 ⟨⟨m0, e0⟩, r1⟩ S1 n1 bo => by
    subst e0
    obtain ⟨p, vs, rfl, hp, _⟩ := bo.km S1.fs
    refine ⟨p, rfl, .inl ⟨vs, hp⟩, bb, f1, ρ1, _, S1, r1, fun y ρ2 w f2 H2 r2 S2 n2 bo2 => ⟨bb, f2, ρ2, _, S2, r2, fun z ρ3 u f3 H3 ⟨m, k, e1, e2, r⟩ S3 n3 dz => ?_⟩⟩
    rw [e1] at bo
    subst e2
    obtain ⟨p', vs', e3, hp', km⟩ := ((bo.next n2).next n3).km S3.fs
    cases e3
    obtain rfl := bo_key bo2
    have nn := (n1.trans S.pots n2).trans S.pots n3
    refine ⟨valV vs' k, .inl ⟨vs', k, hp', rfl, rfl⟩, ?_⟩
    rcases km_get km k with ⟨g1, g2⟩ | ⟨v', d', g1, g2, dp⟩
    · rw [g1]
      rw [g2] at r
      exact q _ ρ3 _ f3 H3 r S3 nn dz
    · rw [g1]
      rw [g2] at r
      exact q _ ρ3 _ f3 H3 r S3 nn dp⟩
/-! ### d[k] = e, d an own dict -/
def sPut (j : Nat) (Ty Tv : TD) : TDS := fun E ρ => Tv ρ fun v ρ1 => (∃ m0, ρ1[j]? = some (.dct (kvD m0))) ∧ Ty ρ1 fun y ρ2 => ∃ m k, ρ2[j]? = some (.dct (kvD m)) ∧ y = kD k ∧ m.length < sizeLine ∧ E.nx (ρ2.set j (.dct (kvD (putM m k v))))
theorem ds_put {j : Nat} (h : PS X st (sDPut (tVar j) (liftB X.K Tb) (lift X.K T))) : DSt X st (sPut j Tb T) := PS.weak h fun D σ H ⟨bb, f, ρ, E, S, t, k⟩ =>
  ⟨bb, f, ρ, _, S, t, fun v ρ1 vv f1 H1 ⟨⟨m0, h0⟩, r1⟩ S1 n1 dv => by
    obtain ⟨p, u, e1, g1, g2, g3, g4, g5⟩ := S1.sl j _ h0
    refine ⟨.ref p, e1, bb, f1, ρ1, _, S1, r1, fun y ρ2 w f2 H2 ⟨m, kk, h2, e2, hz, r⟩ S2 n2 bo2 => ?_⟩
    subst e2
    obtain rfl := bo_key bo2
    obtain ⟨p', u', e1', k1, k2, k3, k4, k5⟩ := S2.sl j _ h2
    have ep : p' = p := by
      rw [e1] at e1'
      exact (V.ref.inj (Option.some.inj (Option.some.inj e1'))).symm
    subst ep
    obtain ⟨vs, rfl, km⟩ := k5
    have km' := km_of km
    refine ⟨p', _, rfl, .inl ⟨vs, kk, k4, rfl, by rw [km_len km']; exact hz, rfl⟩, ?_⟩
    exact k.nx _ σ f2 _ r (S2.obj h2 e1' ⟨_, rfl, of_km (km_put km' kk (dp_mono n2.ff _ _ dv))⟩)⟩
/-! ### xs[i] = e, xs an own list -/
def sSetAt (j : Nat) (Ti Tv : TD) : TDS := fun E ρ => Tv ρ fun v ρ1 => (∃ ds0, ρ1[j]? = some (.own ds0)) ∧ Ti ρ1 fun y ρ2 => ∃ ds k n, ρ2[j]? = some (.own ds) ∧ y = .int k ∧ ixN ds.length k = some n ∧ E.nx (ρ2.set j (.own (ds.set n v)))
theorem ds_setAt {j : Nat} (h : PS X st (tAsg (lift X.K T) (gSub (tVar j) (liftB X.K Tb) rSetL))) : DSt X st (sSetAt j Tb T) := PS.weak h fun D σ H ⟨bb, f, ρ, E, S, t, k⟩ =>
  ⟨bb, f, ρ, _, S, t, fun v ρ1 vv f1 H1 ⟨⟨m0, h0⟩, r1⟩ S1 n1 dv => by
    obtain ⟨p, u, e1, g1, g2, g3, g4, g5⟩ := S1.sl j _ h0
    refine ⟨.ref p, e1, bb, f1, ρ1, _, S1, r1, fun y ρ2 w f2 H2 ⟨ds, kk, n, h2, e2, hz, r⟩ S2 n2 bo2 => ?_⟩
    subst e2
    obtain ⟨p', u', e1', k1, k2, k3, k4, vs, rfl, k5⟩ := S2.sl j _ h2
    have ep : p' = p := by
      rw [e1] at e1'
      exact (V.ref.inj (Option.some.inj (Option.some.inj e1'))).symm
    subst ep
    refine ⟨p', vs, kk, n, rfl, bo2.int, k4, by rw [dpa_len k5]; exact hz, ?_⟩
    exact k.nx _ σ f2 _ r (S2.own h2 e1' (dpa_set (dp_mono n2.ff _ _ dv) n k5))⟩
/-! ### dict(..) of pairs, of a dict -/
def prM (p : L2.Key × D) : D := .tuple [kD p.1, p.2]
theorem pairs_at {K : PySem.W.Frag} {F : Hp} : ∀ {vs : List V} {l : KvD}, DpAll K F vs (l.map prM) → ∃ (ps : List Addr) (kvs : List (L2.Key × V)), vs = ps.map V.ref ∧ Paired (fun p kv => SqT K F p [kV kv.1, kv.2]) ps kvs ∧ KM K F kvs l
  | _, [], .nil => ⟨[], [], rfl, .nil, .nil⟩
  | _, (k, d) :: l, .cons a t => by
    obtain ⟨ps, kvs, e, h1, h2⟩ := pairs_at t
    cases a with
    | tup hs ha =>
      cases ha with
      | cons b1 b2 =>
        cases b2 with
        | cons b2 b3 =>
          cases b3
          have ek : _ = kV k := bo_key (f := ⟨F, []⟩) (H := F) (.inl b1)
          subst ek
          refine ⟨_ :: ps, (k, _) :: kvs, by rw [e]; rfl, .cons hs.1 h1, .cons ⟨rfl, b2⟩ h2⟩
theorem sqt_mono {K : PySem.W.Frag} {F H : Hp} {ps : List Addr} {kvs : List (L2.Key × V)} (s : Same F H) (h : Paired (fun p kv => SqT K F p [kV kv.1, kv.2]) ps kvs) : Paired (fun p kv => SqT K H p [kV kv.1, kv.2]) ps kvs := Paired.mapP h fun _ _ z => same_tup s z
theorem plain_at {pins : List (Addr × Obj)} {σ : L2.St} {H : Hp} {s : Shared} {a : Addr} {xs : List V} (I : Inv X pins σ H s) (h : PlT X.K H a xs) : ∃ its : List Value, Vals xs its ∧ xs.length ≤ sizeLine ∧ PySem.PlainSeq "tuple" s.heap a its.toArray := by
  obtain ⟨its, rv, ⟨o, h1, h2, n, h3⟩, hz⟩ := I.tuple h.1
  refine ⟨its, rv, hz, o, n, h1, h2, ?_, h3⟩
  rcases h.2 with ⟨o', u, h4, h5⟩ | ⟨o', h4, h5⟩
  · obtain ⟨h6, _⟩ := I.hok a _ h4
    rw [h1] at h6
    cases h6
    exact h5
  · have h6 := I.kIn _ _ h4
    rw [h1] at h6
    cases h6
    exact h5
/-- dict(t), t a tuple of pairs -/
theorem call_dictT (hc : X.calm = true) : CallR X (.type "dict") (fun xs H Q => ∃ (a : Addr) (ps : List Addr) (kvs : List (L2.Key × V)), xs = [.ref a] ∧ PlT X.K H a (ps.map V.ref) ∧ Paired (fun p kv => SqT X.K H p [kV kv.1, kv.2]) ps kvs ∧
    ∀ p, H p = none → Q (.ref p) (upd H p (.dK (mergeK [] kvs)))) := fun pins s σ H xs us Q I r ⟨a, ps, kvs, ex, hq, hp, q⟩ => by
  subst ex
  obtain ⟨u, rfl, rx⟩ := vals1 r
  cases rx
  obtain ⟨its, rv, hz, pl⟩ := plain_at I hq
  obtain rfl := refs_at rv
  rw [List.length_map] at hz
  obtain ⟨prs, rel, hl, hpr⟩ := pairs_of I hp
  have hnd : ∀ (j : Nat) (z : L2.Key × Value), prs[j]? = some z → ∃ (b : Addr) (w : Value), ps[j]? = some b ∧ IsTup s.heap b #[w, z.2] ∧ keyIs z.1 w = true := hpr
  -- the pairs as values
  have kw : ∃ ws : List (Value × Value), ws.length = prs.length ∧ ∀ (j : Nat) (z : L2.Key × Value), prs[j]? = some z → ∃ (b : Addr) (w : Value), ps[j]? = some b ∧ ws[j]? = some (w, z.2) ∧ IsTup s.heap b #[w, z.2] ∧ keyIs z.1 w = true := by
    clear rel q
    have : ∀ (prs : List (L2.Key × Value)) (ps : List Addr), (∀ (j : Nat) (z : L2.Key × Value), prs[j]? = some z → ∃ (b : Addr) (w : Value), ps[j]? = some b ∧ IsTup s.heap b #[w, z.2] ∧ keyIs z.1 w = true) →
        ∃ ws : List (Value × Value), ws.length = prs.length ∧ ∀ (j : Nat) (z : L2.Key × Value), prs[j]? = some z → ∃ (b : Addr) (w : Value), ps[j]? = some b ∧ ws[j]? = some (w, z.2) ∧ IsTup s.heap b #[w, z.2] ∧ keyIs z.1 w = true := by
      intro prs
      induction prs with
      | nil => exact fun ps h => ⟨[], rfl, fun j z e => by simp at e⟩
      | cons z prs ih =>
        intro ps h
        obtain ⟨b, w, e1, e2, e3⟩ := h 0 z rfl
        cases ps with
        | nil => simp at e1
        | cons b' ps =>
          obtain ⟨ws, l, hw⟩ := ih ps fun j y e => by simpa using h (j + 1) y (by simpa using e)
          refine ⟨(w, z.2) :: ws, by rw [List.length_cons, List.length_cons, l], fun j y e => ?_⟩
          cases j with
          | zero =>
            cases e
            exact ⟨b, w, e1, rfl, e2, e3⟩
          | succ j => simpa using hw j y (by simpa using e)
    exact this prs ps hnd
  obtain ⟨ws, lw, hw⟩ := kw
  have hat : ∀ j k v, ws[j]? = some (k, v) → ∃ (z : L2.Key × Value) (b : Addr), prs[j]? = some z ∧ ps[j]? = some b ∧ z.2 = v ∧ IsTup s.heap b #[k, v] ∧ keyIs z.1 k = true := fun j k v e => by
    have hj : j < prs.length := by rw [← lw]; exact (List.getElem?_eq_some_iff.mp e).1
    obtain ⟨b, w, e1, e2, e3, e4⟩ := hw j prs[j] (List.getElem?_eq_getElem hj)
    rw [e] at e2
    cases e2
    exact ⟨_, b, List.getElem?_eq_getElem hj, e1, rfl, e3, e4⟩
  have hm : (s.heap.objs.size == sysModules) = false := beq_eq_false_iff_ne.mpr (Nat.ne_of_gt I.big)
  have lps : prs.length = ps.length := hl
  refine PySem.call_dict_pairs (prog := X.prog) (w := X.w) (knd := mixKind X.prog X.w) (kvs := prs) (PySem.PairArg.tuple a (ps.map Value.ref).toArray (fun j => ps.getD j 0) ws) (I.ok.hd hc) ⟨pl, by rw [List.size_toArray, List.length_map, lw, lps], fun j k v e => ?_⟩ ⟨lw.symm, fun j k v e => ?_⟩ (by rw [lw, lps]; exact hz) fun h' tk hd' kp => ?_
  · obtain ⟨z, b, _, e2, _, e3, _⟩ := hat j k v e
    refine ⟨?_, .inl ?_⟩
    · rw [List.getElem?_toArray, List.getElem?_map, e2]
      show some (Value.ref b) = some (Value.ref (ps.getD j 0))
      rw [List.getD_eq_getElem?_getD, e2]
      rfl
    · show IsTup s.heap (ps.getD j 0) _
      rw [List.getD_eq_getElem?_getD, e2]
      exact e3
  · obtain ⟨z, b, e1, _, ev, _, e4⟩ := hat j k v e
    exact ⟨z.1, by rw [e1, ← ev], e4⟩
  · have hlen : (mergeK [] kvs).length ≤ sizeLine := by
      refine Nat.le_trans (length_mergeK kvs []) ?_
      rw [List.length_nil, Nat.zero_add, rel.length, hl]
      exact hz
    exact ⟨.ref s.heap.objs.size, upd H s.heap.objs.size (.dK (mergeK [] kvs)), I.laid (t' := tk) (fun b o e => kp b o (fun z => nomatch z) e) (Nat.le_refl _) (show ObjOk X.prog X.w _ _ _ (.dK (mergeK [] kvs)) from ⟨hlen, hm, merged [] prs, KV.merge rel .nil, hd'⟩), rfl, q _ (I.hok.fresh (Nat.le_refl _))⟩
def kDict (T : TDA) : TDK := fun ρ R => T ρ fun ds ρ' => ∃ d, ds = [d] ∧ ((∃ l, seqD d = some (l.map prM) ∧ R (kvD (mergeM [] l)) ρ') ∨ ∃ m, d = .dict (kvD m) ∧ R (kvD m) ρ')
theorem dk_dict {x : Str} {p : Pos} (hc : X.calm = true) (ha : DBA X (e :: es) Tr)
    (h : ∀ (r' : List V → Hp → VK → Prop) (t' : TA), CallR X (.type "dict") r' → PA X (e :: es) t' → PE X (.Call (.Name x p) (e :: es) [] pos) (tCB r' t')) : DKs X (.Call (.Name x p) (e :: es) [] pos) (kDict Tr) :=
  PE.weak (h _ _ (CallR.or (call_dictP hc) (CallR.or (call_dictT hc) call_dictD)) ha) fun σ H Q ⟨bb, f, ρ, R, S, t, q⟩ => ⟨bb, f, ρ, _, S, t, fun ds ρ' vs f' H' r S' n ba => by
    obtain ⟨d, rfl, r⟩ := r
    obtain ⟨v, rfl, bo⟩ := ba.one
    have fin : ∀ (m : KvD) (ws : List (L2.Key × V)), KM X.K f'.F ws m → R (kvD m) ρ' → ∀ l, H' l = none → Q (.ref l) (upd H' l (.dK ws)) := fun m ws km r l hl => by
      obtain ⟨S2, O, n2⟩ := OwnC.new (u := .dK ws) (c := .d (kvD m)) S' hl ⟨ws, rfl, of_km km⟩
      exact q _ ρ' l f' _ r S2 (n.trans S.pots n2) O
    rcases r with ⟨l, h1, r⟩ | ⟨m, rfl, r⟩
    · rcases seqD_cases h1 with rfl | rfl
      · obtain ⟨p, vs, rfl, hl, dl⟩ := bo.lst S'.fs
        obtain ⟨ps, kvs, e1, g1, g2⟩ := pairs_at dl
        subst e1
        exact .inl ⟨p, ps, kvs, rfl, hl, sqt_mono S'.fs g1, fun l hl => fin _ _ (km_merge g2 .nil) r l hl⟩
      · obtain ⟨p, vs, rfl, hl, dl⟩ := bo.plt S'.fs
        obtain ⟨ps, kvs, e1, g1, g2⟩ := pairs_at dl
        subst e1
        exact .inr (.inl ⟨p, ps, kvs, rfl, hl, sqt_mono S'.fs g1, fun l hl => fin _ _ (km_merge g2 .nil) r l hl⟩)
    · obtain ⟨p, vs, rfl, hl, km⟩ := bo.km S'.fs
      exact .inr (.inr ⟨p, vs, rfl, hl, fun l hl => fin _ _ km r l hl⟩)⟩
/-! ### d == e of dicts that are alike, of flat values -/
def flatD : D → Bool
  | .int _ => true
  | .str _ => true
  | .bool _ => true
  | .none => true
  | _ => false
theorem flat_eq {K : PySem.W.Frag} {F : Hp} {v w : V} {d : D} (hf : flatD d = true) (h1 : Dp K F v d) (h2 : Dp K F w d) : v = w ∧ L2.flatB v = true := by
  cases d with
  | int i => cases h1; cases h2; exact ⟨rfl, rfl⟩
  | str x => cases h1; cases h2; exact ⟨rfl, rfl⟩
  | bool b => cases h1; cases h2; exact ⟨rfl, rfl⟩
  | none => cases h1; cases h2; exact ⟨rfl, rfl⟩
  | _ => cases hf
theorem km_same {K : PySem.W.Frag} {F : Hp} {vs ws : List (L2.Key × V)} {m : KvD} (h1 : KM K F vs m) (h2 : KM K F ws m) (hf : ∀ p ∈ m, flatD p.2 = true) (nd : (m.map (·.1)).Nodup) : ∀ p ∈ vs, valV ws p.1 = some p.2 ∧ L2.flatB p.2 = true := by
  have ev : vs = ws := by
    have : ∀ {vs ws : List (L2.Key × V)} {m : KvD}, KM K F vs m → KM K F ws m → (∀ p ∈ m, flatD p.2 = true) → vs = ws := fun {vs ws m} h1 => by
      intro h2 hf
      induction h1 generalizing ws with
      | nil => cases h2; rfl
      | @cons p q ps qs a _ ih =>
        cases h2 with
        | @cons p' _ ps' _ a' t' =>
          have e := flat_eq (hf q List.mem_cons_self) a.2 a'.2
          rw [ih t' fun z hz => hf z (List.mem_cons_of_mem _ hz)]
          refine congrArg (· :: ps') ?_
          exact Prod.ext (a.1.trans a'.1.symm) e.1
    exact this h1 h2 hf
  subst ev
  have km : vs.map (·.1) = m.map (·.1) := by
    have : ∀ {vs : List (L2.Key × V)} {m : KvD}, KM K F vs m → vs.map (·.1) = m.map (·.1) := fun {vs m} h => by
      induction h with
      | nil => rfl
      | cons a _ ih => rw [List.map_cons, List.map_cons, ih, a.1]
    exact this h1
  intro p hp
  constructor
  · rw [← km] at nd
    clear h1 h2 km hf
    induction vs with
    | nil => exact absurd hp (List.not_mem_nil)
    | cons q vs ih =>
      rw [List.map_cons, List.nodup_cons] at nd
      rcases List.mem_cons.mp hp with rfl | hp
      · exact valV_pos rfl
      · rw [valV_neg (fun z => nd.1 (by rw [z]; exact List.mem_map.mpr ⟨p, hp, rfl⟩))]
        exact ih nd.2 hp
  · have : ∀ {vs : List (L2.Key × V)} {m : KvD}, KM K F vs m → (∀ p ∈ m, flatD p.2 = true) → ∀ p ∈ vs, L2.flatB p.2 = true := fun {vs m} h hf => by
      induction h with
      | nil => exact fun p hp => absurd hp (List.not_mem_nil)
      | @cons p q ps qs a _ ih =>
        intro z hz
        rcases List.mem_cons.mp hz with rfl | hz
        · exact (flat_eq (hf q List.mem_cons_self) a.2 a.2).2
        · exact ih (fun y hy => hf y (List.mem_cons_of_mem _ hy)) z hz
    exact this h1 hf p hp
def rEqK (neg : Bool) : D → D → (D → Prop) → Prop := fun d e R => ∃ m, d = .dict (kvD m) ∧ e = .dict (kvD m) ∧ (∀ p ∈ m, flatD p.2 = true) ∧ (m.map (·.1)).Nodup ∧ R (.bool !neg)
def rEqR (neg : Bool) : R2 := fun x y H Q => ∃ a b ks ls, x = .ref a ∧ y = .ref b ∧ Rd H a (.dK ks) ∧ Rd H b (.dK ls) ∧ ks.length = ls.length ∧ (∀ p ∈ ks, valV ls p.1 = some p.2 ∧ L2.flatB p.2 = true) ∧ Q (.bl !neg) H
theorem op_eqR0 (hu : X.A.units < cLine) : OpR X (compareOp .Eq) (rEqR false) := fun pins s σ H x y v u Q I rx ry ⟨a, b, ks, ls, ex, ey, ha, hb, hl, hp, q⟩ => by
  subst ex ey
  cases rx
  cases ry
  obtain ⟨_, ya, va, ra, da⟩ := Rd.ok ha I.hok
  obtain ⟨_, yb, vb, rb, db⟩ := Rd.ok hb I.hok
  have e : va.length = vb.length := ra.length.symm.trans (hl.trans rb.length)
  exact PySem.W.keq_eq (knd := mixKind X.prog X.w) (r := true) ya yb da db hu (fun _ => hits_all rb ra hp) (fin_bl I q (by rw [e]; simp))
theorem op_neR0 (hu : X.A.units < cLine) : OpR X (compareOp .NotEq) (rEqR true) := fun pins s σ H x y v u Q I rx ry ⟨a, b, ks, ls, ex, ey, ha, hb, hl, hp, q⟩ => by
  subst ex ey
  cases rx
  cases ry
  obtain ⟨_, ya, va, ra, da⟩ := Rd.ok ha I.hok
  obtain ⟨_, yb, vb, rb, db⟩ := Rd.ok hb I.hok
  have e : va.length = vb.length := ra.length.symm.trans (hl.trans rb.length)
  exact PySem.W.keq_ne (knd := mixKind X.prog X.w) (r := true) ya yb da db hu (fun _ => hits_all rb ra hp) (fin_bl I q (by rw [e]; simp))
theorem od_eqK (hu : X.A.units < cLine) : OpR X (compareOp .Eq) (liftO X.K (rEqK false)) := OpR.weak (op_eqR0 hu) fun x y H Q q => by
  obtain ⟨f, d, e, R, fs, bx, bY, ⟨m, rfl, rfl, h1, h2, r⟩, q⟩ := q
  obtain ⟨p, vs, rfl, hp, km1⟩ := bx.km fs
  obtain ⟨p', ws, rfl, hp', km2⟩ := bY.km fs
  exact ⟨p, p', vs, ws, rfl, rfl, hp, hp', by rw [km_len km1, km_len km2], km_same km1 km2 h1 h2, flatQ fs q r (.bl _)⟩
theorem od_neK (hu : X.A.units < cLine) : OpR X (compareOp .NotEq) (liftO X.K (rEqK true)) := OpR.weak (op_neR0 hu) fun x y H Q q => by
  obtain ⟨f, d, e, R, fs, bx, bY, ⟨m, rfl, rfl, h1, h2, r⟩, q⟩ := q
  obtain ⟨p, vs, rfl, hp, km1⟩ := bx.km fs
  obtain ⟨p', ws, rfl, hp', km2⟩ := bY.km fs
  exact ⟨p, p', vs, ws, rfl, rfl, hp, hp', by rw [km_len km1, km_len km2], km_same km1 km2 h1 h2, flatQ fs q r (.bl _)⟩
/-! ### sorted(d.items()) -/
/-- a method of a dict, locked or not -/
def tDM0 (r : V → List V → Hp → VK → Prop) (to : TE) : TE := fun σ H Q => to σ H fun x H1 => (∃ p kvs, x = .ref p ∧ Rd H1 p (.dK kvs)) ∧ r x [] H1 Q
theorem pe_dm0 {o : Expr} {name : Str} {id : String} {apos cpos : Pos} {r : V → List V → Hp → VK → Prop} {to : TE} (slot : Slot "dict" name id) (hty : typeOf (.builtin id) = pure (.type "method_descriptor")) (hm : MtR X id r) (ho : PE X o to)
    (hbase : attributeBase o name X.env (eval o X.env) = eval o X.env := by rfl) (hline : (apos.endLine == cpos.line) = true := by rfl) : PE X (.Call (.Attribute o name apos) [] [] cpos) (tDM0 r to) :=
  ⟨fun pins s σ H Q I h => wpAny_Call_method0_late hbase hline (thn (ho.run pins s σ H _ I h) fun v s1 ⟨x, H1, I1, rx, ⟨p, kvs, ex, hp⟩, q⟩ => by
    subst ex
    cases rx
    obtain ⟨_, _, _, _, o, _, _, e, ed, _⟩ := Rd.ok hp I1.hok
    exact ⟨"dict", id, PySem.F.plainAttrs_dict, slot, hty, ⟨o, e, ed.1⟩, fun a ea => (by cases ea; exact ⟨o, e, ed.2.1⟩), Calls.callWith_builtin rfl (PySem.evalArgs_none (hm pins s1 σ H1 (.ref p) [] (.ref p) [] Q I1 rfl .nil q))⟩)⟩
def rItemsK : V → List V → Hp → VK → Prop := fun x xs H Q => ∃ (a : Addr) (kvs : List (L2.Key × V)), x = .ref a ∧ xs = [] ∧ Rd H a (.dK kvs) ∧ ∀ p, H p = none → Q (.ref p) (upd H p (L2.DX.itemsO p a))
theorem mt_itemsK : MtR X "dict.items" rItemsK := fun pins s σ H x xs v us Q I rx rxs ⟨a, kvs, e1, e2, ha, q⟩ => by
  subst e1 e2
  cases rx
  cases rxs
  obtain ⟨_, hd, vs, rel, o, es, ep, ho, hx, hdat, _⟩ := Rd.ok ha I.hok
  refine DT.callItems (es := es) (ep := ep) hd ⟨o, ho, hx, hdat⟩ ?_
  exact ⟨.ref s.heap.objs.size, upd H s.heap.objs.size (L2.DX.itemsO s.heap.objs.size a), I.laid (t' := s.toks) (fun b u e => Heap.get?_push_of_some _ e) (Nat.le_refl _) (L2.DX.itemsO_ok (Heap.get?_push_size _ rfl)), rfl, q _ (I.hok.fresh (Nat.le_refl _))⟩
def rSortV (X : Cx) : List V → Hp → VK → Prop := fun vs H Q => ∃ (p a : Addr) (F : Hp) (ws : List (L2.Key × V)) (m : KvD) (rank : D → Int), vs = [.ref p] ∧ Same F H ∧ H p = some (L2.DX.itemsO p a) ∧ Rd H a (.dK ws) ∧ KM X.K F ws m ∧ Ranked rank (m.map prM) ∧ Kinded (m.map prM) ∧ (∀ d ∈ m.map prM, d.depth ≤ 60) ∧
  ∀ (F' H' : Hp) (l : Addr) (ys : List V), Gr F H F' H' → H l = none → F' l = none → H' l = some (.lst ys) → DpAll X.K F' ys ((m.map prM).mergeSort (byRank rank)) → Q (.ref l) H'
theorem prD_map (m : KvD) : (kvD m).map prD = m.map prM := by
  unfold kvD
  rw [List.map_map]
  rfl
theorem cr_sortV (hc : X.calm = true) {k : Nat} (hr : Room k X.A) : CallR X (.builtin "sorted") (rSortV X) := by
  intro pins s σ H vs us Q I rv h
  obtain ⟨p, a, F, ws, m, rank, rfl, fs, hp, ha, km, h1, h2, h3, q⟩ := h
  obtain rfl := Vals.ref1 rv
  have hun := hr.un
  exact view_sorted I (I.ok.hd hc) fs hp ha (of_km km) (by rw [prD_map]; exact h1) (by rw [prD_map]; exact h2) (by rw [prD_map]; intro d hd; have := h3 d hd; omega) (by rw [prD_map]; exact q)
/-- sorted(d.items()) -/
def lSortItems (T : TD) : TDA := fun ρ R => T ρ fun d ρ' => ∃ m rank, d = .dict (kvD m) ∧ Ranked rank (m.map prM) ∧ Kinded (m.map prM) ∧ (∀ d ∈ m.map prM, d.depth ≤ 60) ∧ R ((m.map prM).mergeSort (byRank rank)) ρ'
theorem dl_sortItems {x : Expr} (hc : X.calm = true) {k : Nat} (hr : Room k X.A) (hi : PE X x (tDM0 rItemsK (liftB X.K T)))
    (h : ∀ (r' : List V → Hp → VK → Prop) (t' : TA), CallR X (.builtin "sorted") r' → PA X [x] t' → PE X e (tCB r' t')) (hs : starEach (x :: []) X.env = (false, eval x X.env) :: starEach [] X.env := by rfl) : DLs X e (lSortItems T) :=
  PE.weak (h _ _ (cr_sortV hc hr) (pa_cons hi pa_nil hs)) fun σ H Q ⟨bb, f, ρ, R, S, t, q⟩ => ⟨bb, f, ρ, _, S, t, fun d ρ' v f' H' ⟨m, rank, e, h1, h2, h3, r⟩ S' n bo => by
    subst e
    obtain ⟨a, vs, rfl, ha, km⟩ := bo.km S'.fs
    refine ⟨⟨a, vs, rfl, ha⟩, a, vs, rfl, rfl, ha, fun p hp => ?_⟩
    have hh : Same H' (upd H' p (L2.DX.itemsO p a)) := same_new hp
    have g0 : Gr f'.F H' f'.F (upd H' p (L2.DX.itemsO p a)) := ⟨.of hh, Same.refl _, S'.fs.trans hh, fun a o e => .inl ⟨o, e⟩, fun t => t.put (.inl hp)⟩
    have S1 := S'.grow g0
    refine ⟨p, a, f'.F, vs, m, rank, rfl, S1.fs, upd_same, rd_same hh ha, km, h1, h2, h3, fun F2 H2 l ys g l0 l1 l2 dy => ?_⟩
    have S2 := S1.grow g
    refine q _ ρ' l ⟨F2, f'.P⟩ H2 r S2 ((n.trans S.pots (Nx.of_gr g0)).trans S.pots (Nx.of_gr g)) ⟨l1, S1.bs.free l0, fun z => ?_, fun i sl e ho z => ?_, _, l2, ys, rfl, dy⟩
    · obtain ⟨o, z'⟩ := S1.pots l z
      rw [l0] at z'; cases z'
    · cases sl with
      | obj c' =>
        obtain ⟨x', u, e1, _, _, _, e4, _⟩ := S1.sl i _ e
        rw [z] at e1
        have ep := V.ref.inj (Option.some.inj (Option.some.inj e1))
        rw [← ep, l0] at e4
        cases e4
      | no => cases ho
      | fz _ => cases ho
      | pot => cases ho
      | exc _ _ _ _ => cases ho⟩
/-! ### x in a written dict of texts -/
def dInK (p : Str → Bool) (T : TD) : TD := fun ρ R => T ρ fun d ρ' => ∃ x, d = .str x ∧ R (.bool (p x)) ρ'
theorem de_inK {d : Addr} {es : Array DictEntry} {n : Nat} {p : Str → Bool} (Dk : KDict X.K X.w d es n) (hp : ∀ z, ∃ r, PySem.W.nsIn X.K d z = some r ∧ r.isSome = p z) (ha : DB X a T) (hb : PE X b (tC (.ref d))) (hm : behindInMarks .In b = false) : DE X (.Compare a [.In] [b] pos) (dInK p T) :=
  PE.weak (pe_cmpR (op_in_kd Dk) ha hb hm) fun σ H Q ⟨bb, f, ρ, R, S, t, q⟩ => ⟨bb, f, ρ, _, S, t, fun y ρ' v f' H' ⟨x, e, r⟩ S' n bo => by
    subst e
    obtain ⟨o, h1, h2⟩ := hp x
    exact ⟨x, o, bo.str, rfl, h1, by rw [h2]; exact q _ ρ' _ f' H' r S' n (.bl _)⟩⟩
theorem dt_inK {d : Addr} {es : Array DictEntry} {n : Nat} {p : Str → Bool} (Dk : KDict X.K X.w d es n) (hp : ∀ z, ∃ r, PySem.W.nsIn X.K d z = some r ∧ r.isSome = p z) (ha : DB X a T) (hb : PE X b (tC (.ref d))) (hm : behindInMarks .In b = false) : DT X (.Compare a [.In] [b] pos) (tVal (dInK p T)) :=
  PT.weak (pt_cmpR (op_in_kd Dk) ha hb hm) fun σ H Q ⟨bb, f, ρ, R, S, t, q⟩ => ⟨bb, f, ρ, _, S, t, fun y ρ' v f' H' ⟨x, e, c, ec, r⟩ S' n bo => by
    subst e
    cases ec
    obtain ⟨o, h1, h2⟩ := hp x
    exact ⟨x, o, bo.str, rfl, h1, _, rfl, by rw [h2]; exact q _ ρ' f' H' r S' n⟩⟩
end
end DL

namespace DL
open PySem PySem.Spec PyProof.Rows L2
variable [Tbs] [Bse]
section
variable {X : Cx} {e : Expr} {T : TD}
/-- isinstance(x, (T1, T2)) -/
def dIsi2 (n m : String) (T : TD) : TD := fun ρ R => T ρ fun d ρ' => ∃ r r', kitB (tyD d) n = some r ∧ kitB (tyD d) m = some r' ∧ R (.bool (r || r')) ρ'
theorem kitAny2 {K : PySem.W.Frag} {a n m : String} {r r' : Bool} (h : kitB a n = some r) (h' : kitB a m = some r') : PySem.W.kitAny K (.type a) [.type n, .type m] = some (r || r') := by
  unfold PySem.W.kitAny PySem.W.kitAny PySem.W.kitAny
  rw [kit_ty h, kit_ty h']
  cases r <;> cases r' <;> rfl
theorem de_isi2 {n m : String} (h : PE X e (tCB (rIsiT X.K) (tCons (liftB X.K T) (tCons (tTup (tCons (tC (.ty n)) (tCons (tC (.ty m)) tNil))) tNil)))) : DE X e (dIsi2 n m T) := PE.weak h fun σ H Q ⟨b, f, ρ, R, S, t, q⟩ =>
  ⟨b, f, ρ, _, S, t, fun d ρ' v f' H' ⟨r, r', hk, hk', hr⟩ S' n' bo => ⟨by show 2 ≤ sizeLine; decide, fun p hp => by
    have hh : Same H' (upd H' p (.tup [V.ty n, V.ty m])) := same_new hp
    have g0 : Gr f'.F H' f'.F (upd H' p (.tup [V.ty n, V.ty m])) := ⟨.of hh, Same.refl _, S'.fs.trans hh, fun a o e => .inl ⟨o, e⟩, fun t => t.put (.inl hp)⟩
    have S1 := S'.grow g0
    exact ⟨v, p, _, _, _, r || r', rfl, upd_same, .cons (.ty n) (.cons (.ty m) .nil), tyx_of ((bo.next (Nx.of_gr g0)).dp S1.fs), kitAny2 hk hk', q _ ρ' _ ⟨f'.F, f'.P⟩ _ hr S1 (n'.trans S.pots (Nx.of_gr g0)) (.bl _)⟩⟩⟩
/-- e as a statement -/
def sExpr (T : TD) : TDS := fun E ρ => T ρ fun _ ρ' => E.nx ρ'
theorem ds_expr {st : Stmt} (h : PS X st (tDrop (lift X.K T))) : DSt X st (sExpr T) := PS.weak h fun D σ H ⟨b, f, ρ, E, S, t, k⟩ => ⟨b, f, ρ, _, S, t, fun _ ρ' _ f' H' r S' _ _ => k.nx ρ' σ f' H' r S'⟩
end
end DL

namespace DL
open PySem PySem.Spec PyProof.Rows L2 LamX NdefX
/-! ### the end, where the law's def is known only where no guard stands -/
section
variable {P : Program} {w : World} {K : PySem.W.Frag} {mg mb : Str → Option Value} {k : Nat} {fa a : Addr} {fd : FuncData} {x : Str} {sp : Sp} {s : Shared} {us : List Value} {ns : List Int}
theorem top_runs (inh : K.In s.heap) (glo : s.heap.Ns mainGlobals mg) (bl : s.heap.Ns builtinsNs mb) (boot : ∀ y : Str, y ≠ "__name__" → mb y = bootBuiltins y) (nol : s.heap.NoLimit) (nog : s.gens = #[])
    (sat : s.heap.get? a = some { cls := .type "list", data := .seq us.toArray }) (sin : IntsAre us ns) (szn : ns.length ≤ sizeLine) (rm : Room k callerA)
    (go : ∀ b : Heap, K.In b → b.Ns mainGlobals mg → FnG P w K mg b CX0 k fa fd [x] sp) (bd : ∀ (t : Shared) (u : Value), BindsTo t fd ⟨[u], []⟩ [(x, u)])
    (ask : ∀ H : Hp, SqL K H a (ns.map V.int) → sp [.ref a] H (fun v _ => v = .bl true) fun _ _ _ => False) :
    codeAny (model P w) callerA (.call (.ref fa) ⟨[.ref a], []⟩) (fun r t => r = .ok (.ret (.bool true)) ∧ OldK s.heap t.heap ∧ t.os = s.os ∧ AllBare t.gens) s := by
  have same := vals_ints sin
  have lens := sin.length
  have way : ∀ T : Hp, (∀ c u, T c = some u → c = a ∧ (∃ ob l, u = .frz ob (.lst l)) ∧ K.lookup a = none) → SqL K T a (ns.map V.int) → HOk P w T s.heap →
      codeAny (model P w) callerA (.call (.ref fa) ⟨[.ref a], []⟩) (fun r t => r = .ok (.ret (.bool true)) ∧ OldK s.heap t.heap ∧ t.os = s.os ∧ AllBare t.gens) s := by
    intro T only sq good
    have un_a : ∀ c, c ≠ a → T c = none := fun c n => by
      cases q : T c with
      | none => rfl
      | some u => exact absurd (only c u q).1 n
    have k_in : K.In (hidT s.heap T) := fun c ob e => by
      refine hidT_get (inh c ob e) ?_
      cases q : T c with
      | none => rfl
      | some u =>
        obtain ⟨ec, _, nk⟩ := only c u q
        rw [ec, nk] at e
        cases e
    have ns_in : ∀ {c : Addr} {m : Str → Option Value}, s.heap.Ns c m → (hidT s.heap T).Ns c m := fun {c m} ⟨ob, es, ep, e, d, r⟩ => by
      refine ⟨ob, es, ep, hidT_get e (un_a c fun ec => ?_), d, r⟩
      rw [ec, sat] at e
      have z := congrArg Obj.data (Option.some.inj e)
      rw [d] at z
      cases z
    have env : Env0 P w K mg (hidT s.heap T) callerA [] s T := by
      obtain ⟨mc, n1, n2⟩ := nol
      exact { frames := rfl, mod := { kin := k_in, glob := ns_in glo, blt := ⟨mb, ns_in bl, boot⟩, nolimit := ⟨mc, ns_in n1, n2⟩ }, bs := fun _ _ e => of_hidT e, bsz := by rw [hidT_size]; exact Nat.le_refl _,
              funs := trivial, frf := fun c hc => (List.not_mem_nil hc).elim, hok := good, bare := AllBare.of_eq nog }
    have ran := (go (hidT s.heap T) k_in (ns_in glo)).go callerA [] s T ⟨[.ref a], []⟩ [.ref a] [.ref a] (fun v _ => v = .bl true) (fun _ _ _ => False) rm rfl env (bd s (.ref a)) (.cons rfl .nil) (ask T sq)
    refine codeAny_mono ran fun r t ht => ?_
    match r, ht with
    | .ok (.ret u), ⟨v, T', e1, e2, e3, e4, e5, e6⟩ =>
      have e6' : v = .bl true := e6
      rw [e6'] at e5
      have e5' : u = Value.bool true := e5
      refine ⟨by rw [e5'], OldK.of_keep fun c ob old => ?_, e1, e2⟩
      cases q : T c with
      | none => exact e3.keep c ob old q (fun z => absurd z List.not_mem_nil) (by simp)
      | some y =>
        obtain ⟨_, ⟨o1, l1, ey⟩, _⟩ := only c y q
        rw [ey] at q
        have a1 := (good c _ q).1
        rw [old] at a1
        cases a1
        exact (e4 c _ (e3.frzs c _ _ q)).1
  cases lk : K.lookup a with
  | none =>
    let T : Hp := fun c => if c = a then some (.frz { cls := .type "list", data := .seq us.toArray } (.lst (ns.map V.int))) else none
    have Ta : T a = some (.frz { cls := .type "list", data := .seq us.toArray } (.lst (ns.map V.int))) := if_pos rfl
    have Tn : ∀ c u, T c = some u → c = a ∧ u = .frz { cls := .type "list", data := .seq us.toArray } (.lst (ns.map V.int)) := fun c u e => by
      by_cases ec : c = a
      · rw [ec, Ta] at e
        exact ⟨ec, (Option.some.inj e).symm⟩
      · have : T c = none := if_neg ec
        rw [this] at e
        cases e
    refine way T (fun c u e => ⟨(Tn c u e).1, ⟨_, _, (Tn c u e).2⟩, lk⟩) (.inl (.inr ⟨_, Ta⟩)) fun c u e => ?_
    obtain ⟨ec, eu⟩ := Tn c u e
    rw [ec, eu]
    refine ⟨sat, ?_, us, _, same, sat⟩
    rw [List.length_map]
    exact szn
  | some ob =>
    have there := inh a ob lk
    rw [sat] at there
    cases there
    refine way (fun _ => none) (fun c u e => nomatch e) (.inr ⟨_, us.toArray, _, lk, rfl, rfl, rfl, ?_, ?_⟩) fun c u e => nomatch e
    · rw [List.size_toArray, lens]
      exact szn
    · simpa using same
end
/-- a law's def, its promise where no guard stands -/
def LawG (l : PySem.W.OpenLaw) (w : World) (K : PySem.W.Frag) (k most : Nat) (x : Str) (mg : Str → Option Value) (fa : Addr) : Prop :=
  ∃ (fd : FuncData) (sp : Sp), (∀ (t : Shared) (u : Value), BindsTo t fd ⟨[u], []⟩ [(x, u)]) ∧ (∀ (H : Hp) (a : Addr) (ns : List Int), ns.length ≤ most → SqL K H a (ns.map V.int) → sp [.ref a] H (fun v _ => v = .bl true) fun _ _ _ => False) ∧
    ∀ b : Heap, K.In b → b.Ns mainGlobals mg → FnG l.prog w K mg b CX0 k fa fd [x] sp
theorem walk_g {l : PySem.W.OpenLaw} {most k : Nat} {q : Program} {loose : List Str} {XP : (Str → Option Value) → Heap → Prop} {YP : World → Heap → Prop} {d : DefRec} {K : Params → PySem.W.Frag} {x : Str} (hmost : l.most = some most) (hsz : most ≤ sizeLine)
    (hdef : d.params.defaults = []) (room : Room k callerA) (known : ∀ (w : World) (h : Heap), YP w h → (K w.params).In h)
    (F : ∀ (w : World) (mg : Str → Option Value) (fa : Addr) (h : Heap), YP w h → (K w.params).In h → h.Ns mainGlobals mg → mg d.name = some (.ref fa) → LawG l w (K w.params) k most x mg fa) :
    PySem.W.WalkO q loose XP YP l.row.toRowW d [] (fun f vs => PySem.call f vs) := by
  refine Att.attach_callB hmost hdef fun w s0 s1 mg mb fa ob pm cd doc a us ns top yy _ _ _ hmg hobj hints hlen hbits hgen => ?_
  have inh := known w _ yy
  obtain ⟨fd, sp, t1, t2, t3⟩ := F w mg fa _ yy inh top.T.g hmg
  exact top_runs inh top.T.g top.T.b top.T.builtins top.T.nolimit hgen hobj hints (Nat.le_trans hlen hsz) room t3 t1 fun H sq => t2 H a ns hlen sq
/-! ### a dict of words that the text writes -/
def KeysAre : List DictEntry → List Str → Prop
  | [], [] => True
  | e :: es, x :: xs => (∃ t, e.key = .str x t) ∧ KeysAre es xs
  | _, _ => False
theorem keys_find : ∀ {es : List DictEntry} {xs : List Str} (z : Str), KeysAre es xs → (es.find? (·.key.isStr z)).isSome = xs.contains z ∧ es.any (·.refKey) = false
  | [], [], z, _ => ⟨rfl, rfl⟩
  | e :: es, x :: xs, z, ⟨⟨t, h⟩, r⟩ => by
    obtain ⟨a, b⟩ := keys_find z r
    have ek : e.key.isStr z = (x == z) := by rw [h]; rfl
    have er : e.refKey = false := by unfold DictEntry.refKey; rw [h]
    refine ⟨?_, by rw [List.any_cons, er, b]; rfl⟩
    rw [List.find?_cons, ek, List.contains_cons]
    by_cases q : x = z
    · have q1 : (x == z) = true := beq_iff_eq.mpr q
      have q2 : (z == x) = true := beq_iff_eq.mpr q.symm
      rw [q1, q2]
      rfl
    · have q1 : (x == z) = false := beq_eq_false_iff_ne.mpr q
      have q2 : (z == x) = false := beq_eq_false_iff_ne.mpr fun e => q e.symm
      rw [q1, q2, Bool.false_or]
      exact a
  | [], _ :: _, _, h => h.elim
  | _ :: _, [], _, h => h.elim
theorem keys_look {K : PySem.W.Frag} {d : Addr} {o1 : Value} {o2 : Option Addr} {es : Array DictEntry} {n : Nat} {sl : Array (Option Value)} {xs : List Str} (h : K.lookup d = some ⟨o1, o2, .dict es n, sl⟩) (hk : KeysAre es.toList xs) (z : Str) :
    ∃ r, PySem.W.nsIn K d z = some r ∧ r.isSome = xs.contains z := by
  obtain ⟨a, b⟩ := keys_find z hk
  unfold PySem.W.nsIn
  rw [h]
  cases q : es.toList.find? (·.key.isStr z) with
  | none =>
    rw [q] at a
    refine ⟨none, ?_, a⟩
    show (match es.toList.find? (·.key.isStr z) with
      | some e => some (some e.val)
      | none => if es.toList.any (·.refKey) then none else some none) = _
    rw [q, b]
    rfl
  | some e =>
    rw [q] at a
    refine ⟨some e.val, ?_, a⟩
    show (match es.toList.find? (·.key.isStr z) with
      | some e => some (some e.val)
      | none => if es.toList.any (·.refKey) then none else some none) = _
    rw [q]
/-! ### a tuple of words that the text writes -/
theorem dp_wordsAll {K : PySem.W.Frag} {F : Hp} : ∀ xs : List Str, DpAll K F (xs.map V.str) (xs.map PyData.str)
  | [] => .nil
  | x :: xs => .cons (.str x) (dp_wordsAll xs)
theorem dp_words {K : PySem.W.Frag} {F : Hp} {a : Addr} {its : Array Value} {n : Nat} {sl : Array (Option Value)} {xs : List Str} (h : K.lookup a = some ⟨.type "tuple", none, .seq its n, sl⟩) (hv : Vals (xs.map V.str) its.toList) (hz : its.size ≤ sizeLine) :
    Dp K F (.ref a) (.tuple (xs.map PyData.str)) := .tup ⟨.inr ⟨_, its, n, h, rfl, rfl, hz, hv⟩, .inr ⟨_, h, rfl⟩⟩ (dp_wordsAll xs)
end DL

/-! len(set(texts)), any texts: what set(xs) of a list of keys holds. -/
namespace DM
open PySem PySem.Spec PyProof.Rows L2
section
variable {T : Type} [DecidableEq T] [BEq T] [LawfulBEq T]
def addT (l : List T) (x : T) : List T := if x ∈ l then l else l ++ [x]
/-- each once, in the order of the first time -/
def onceT (xs : List T) : List T := xs.foldl addT []
theorem once_snoc (xs : List T) (x : T) : onceT (xs ++ [x]) = addT (onceT xs) x := by
  unfold onceT
  rw [List.foldl_append]
  rfl
theorem add_len (l : List T) (x : T) : (addT l x).length = if x ∈ l then l.length else l.length + 1 := by
  unfold addT
  split
  · rfl
  · rw [List.length_append]; rfl
theorem add_mem (l : List T) (x y : T) : y ∈ addT l x ↔ y ∈ l ∨ y = x := by
  unfold addT
  split
  · rename_i h
    exact ⟨.inl, fun q => q.elim id fun e => e ▸ h⟩
  · rw [List.mem_append, List.mem_singleton]
theorem fold_len (xs : List T) : ∀ l : List T, (xs.foldl addT l).length ≤ l.length + xs.length := by
  induction xs with
  | nil => exact fun l => Nat.le_refl _
  | cons x xs ih =>
    intro l
    have h1 := ih (addT l x)
    have h2 : (addT l x).length ≤ l.length + 1 := by rw [add_len]; split <;> omega
    rw [List.foldl_cons, List.length_cons]
    omega
theorem once_len (xs : List T) : (onceT xs).length ≤ xs.length := by
  have := fold_len xs []
  rw [List.length_nil, Nat.zero_add] at this
  exact this
theorem add_nodup {l : List T} (h : l.Nodup) (x : T) : (addT l x).Nodup := by
  unfold addT
  split
  · exact h
  · rename_i q
    exact List.nodup_append.mpr ⟨h, by simp, fun a ha b hb => by
      rw [List.mem_singleton.mp hb]
      exact fun e => q (e ▸ ha)⟩
theorem fold_nodup (xs : List T) : ∀ {l : List T}, l.Nodup → (xs.foldl addT l).Nodup := by
  induction xs with
  | nil => exact fun h => h
  | cons x xs ih => exact fun h => ih (add_nodup h x)
theorem once_nodup (xs : List T) : (onceT xs).Nodup := fold_nodup xs List.nodup_nil
theorem fold_mem (xs : List T) (y : T) : ∀ {l : List T}, y ∈ xs.foldl addT l ↔ y ∈ l ∨ y ∈ xs := by
  induction xs with
  | nil => exact fun {l} => ⟨.inl, fun q => q.elim id fun z => nomatch z⟩
  | cons x xs ih =>
    intro l
    rw [List.foldl_cons, ih, add_mem, List.mem_cons]
    constructor
    · rintro ((h | h) | h)
      · exact .inl h
      · exact .inr (.inl h)
      · exact .inr (.inr h)
    · rintro (h | h | h)
      · exact .inl (.inl h)
      · exact .inl (.inr h)
      · exact .inr h
theorem once_mem (xs : List T) (y : T) : y ∈ onceT xs ↔ y ∈ xs := by
  unfold onceT
  rw [fold_mem]
  exact ⟨fun q => q.elim (fun z => nomatch z) id, .inr⟩
theorem once_self {xs : List T} (h : xs.Nodup) : ∀ l : List T, (∀ x ∈ xs, x ∉ l) → xs.foldl addT l = l ++ xs := by
  induction xs with
  | nil => exact fun l _ => (List.append_nil l).symm
  | cons x xs ih =>
    intro l hl
    obtain ⟨h1, h2⟩ := List.nodup_cons.mp h
    have e : addT l x = l ++ [x] := if_neg (hl x List.mem_cons_self)
    rw [List.foldl_cons, e, ih h2 (l ++ [x]) fun y hy q => ?_, List.append_assoc]
    · rfl
    · rcases List.mem_append.mp q with q | q
      · exact hl y (List.mem_cons_of_mem _ hy) q
      · exact h1 (List.mem_singleton.mp q ▸ hy)
theorem fold_full : ∀ (xs l : List T), (xs.foldl addT l).length = l.length + xs.length → xs.Nodup ∧ ∀ x ∈ xs, x ∉ l
  | [], _, _ => ⟨List.nodup_nil, fun x hx => nomatch hx⟩
  | x :: xs, l, h => by
    rw [List.foldl_cons, List.length_cons] at h
    have h1 := fold_len xs (addT l x)
    have h2 := add_len l x
    by_cases q : x ∈ l
    · rw [if_pos q] at h2
      omega
    · rw [if_neg q] at h2
      have e : addT l x = l ++ [x] := if_neg q
      obtain ⟨n, o⟩ := fold_full xs (addT l x) (by omega)
      rw [e] at o
      refine ⟨List.nodup_cons.mpr ⟨fun z => o x z (List.mem_append_right _ List.mem_cons_self), n⟩, fun y hy => ?_⟩
      rcases List.mem_cons.mp hy with rfl | hy
      · exact q
      · exact fun z => o y hy (List.mem_append_left _ z)
theorem once_full (xs : List T) : (onceT xs).length = xs.length ↔ xs.Nodup := by
  constructor
  · intro h
    exact (fold_full xs [] (by rw [List.length_nil, Nat.zero_add]; exact h)).1
  · intro h
    unfold onceT
    rw [once_self h [] fun x _ z => nomatch z]
    rfl
end
section
variable {prog : Program} {w : World} {T : Type} [DecidableEq T] [BEq T] [LawfulBEq T] {knd : KeyKind prog w T}
theorem once_take {xs : List T} {i : Nat} {x : T} (h : xs[i]? = some x) : onceT (xs.take (i + 1)) = addT (onceT (xs.take i)) x := by
  rw [List.take_add_one, h]
  exact once_snoc _ _
variable {A : Around} {R : Result → Shared → Prop} {It S : Addr} {fp wr : List Addr} {G : Array GenState → Array GenState → Prop} {m : Nat} {P : Nat → Value → Prop} {St : Nat → Shared → Prop}
theorem fill_set (Wk : WalksS prog w A.in1 It fp wr G m P St) (off : S ∉ fp) (xs : List T) (hm : xs.length = m) (hb : m + 1 < scanBound)
    (hv : ∀ i v, P i v → ∃ x, xs[i]? = some x ∧ knd.is x v = true ∧ v.scannable = true) : ∀ (k i : Nat) (cur : Shared), m - i = k → i ≤ m → St i cur →
      cur.heap.SetOf knd S (fun y => decide (y ∈ onceT (xs.take i))) (onceT (xs.take i)).length →
      (∀ fin, Moved (S :: wr) G cur fin → fin.heap.SetOf knd S (fun y => decide (y ∈ onceT xs)) (onceT xs).length → R (.ok (.ret .none)) fin) →
      codeAny (model prog w) A (.builtin "set.update.loop" ⟨[.ref S, .ref It], []⟩) R cur := by
  have offW : S ∉ wr := fun q => off (Wk.sub _ q)
  have up : ∀ b ∈ wr, b ∈ S :: wr := fun b q => List.mem_cons_of_mem _ q
  intro k
  induction k with
  | zero =>
    intro i cur hk hi hst hS hR
    have e : i = m := by omega
    subst e
    rw [← hm, List.take_length] at hS
    refine codeAny_builtin PyProof.Rows.F.entry_set_update_loop (?_)
    rw [Around.under_plainId PyProof.Rows.F.plain_set_update_loop _] ; show wpAny _ A.in1 (pyNext (.ref It) >>= _) _ _ cur
    refine wpAny_bind (Wk.done cur _ _ hst fun fin mv => ?_) ; show wpAny _ A.in1 (ret Value.none) _ _ fin
    refine wpAny_pure (hR fin (mv.mono up) ?_)
    obtain ⟨o, es, ep, t, ho, rest⟩ := hS ; exact ⟨o, es, ep, t, mv.heap S _ offW ho, rest⟩
  | succ k ih =>
    intro i cur hk hi hst hS hR
    have lt : i < m := by omega
    refine codeAny_builtin PyProof.Rows.F.entry_set_update_loop (?_)
    rw [Around.under_plainId PyProof.Rows.F.plain_set_update_loop _] ; show wpAny _ A.in1 (pyNext (.ref It) >>= _) _ _ cur
    refine wpAny_bind (Wk.item i cur _ _ lt hst fun v nxt hP hst' mv => ?_)
    obtain ⟨x, hx, kx, sx⟩ := hv i v hP
    have hS' : nxt.heap.SetOf knd S (fun y => decide (y ∈ onceT (xs.take i))) (onceT (xs.take i)).length := by
      obtain ⟨o, es, ep, tb, ho, rest⟩ := hS ; exact ⟨o, es, ep, tb, mv.heap S _ offW ho, rest⟩
    show wpAny _ A.in1 (holding [v] (setAdd S v) >>= _) _ _ nxt
    refine wpAny_bind (wpAny_holding (?_)) ; unfold setAdd ; refine wpAny_holding (?_)
    refine wpAny_bind (knd.pyHash (k := x) kx ?_)
    have room : (onceT (xs.take i)).length + 1 < scanBound := by
      have h1 := once_len (xs.take i)
      rw [List.length_take] at h1
      omega
    refine wpAny_setAddHashed_of (knd := knd) (s := { nxt with toks := nxt.toks + 1 }) kx sx hS' room fun hp keep hS2 => ?_
    have hS3 : hp.SetOf knd S (fun y => decide (y ∈ onceT (xs.take (i + 1)))) (onceT (xs.take (i + 1))).length := by
      refine SetOf_congr hS2 (fun y => ?_) ?_
      · rw [once_take hx]
        show (decide (y ∈ onceT (xs.take i)) || decide (y = x)) = decide (y ∈ addT (onceT (xs.take i)) x)
        rw [← Bool.decide_or]
        exact decide_eq_decide.mpr (add_mem _ _ _).symm
      · rw [once_take hx, add_len]
        by_cases q : x ∈ onceT (xs.take i)
        · rw [if_pos q, if_pos (decide_eq_true q)]
        · rw [if_neg q, if_neg (by rw [decide_eq_false q]; exact Bool.false_ne_true)]
    refine wpAny_pure ⟨plainId_quiet PyProof.Rows.F.plain_set_update_loop _, ih (i + 1) _ (by omega) lt (Wk.frame _ nxt _ _ hst' (Nat.le_succ _) fun b hbf o e => ?_) hS3 fun fin mv' hSf => ?_⟩
    · rw [keep.2 b (fun q : b = S => off (q ▸ hbf))] ; exact e
    · refine hR fin (Moved.trans Wk.gtrans ((mv.mono up).then_heap (Nat.le_succ _) fun b o q e => ?_) mv') hSf
      rw [keep.2 b (fun z : b = S => q (z ▸ List.mem_cons_self))] ; exact e
end
section
variable {prog : Program} {w : World} {A : Around} {E : Value → Shared → Prop} {s : Shared} {T : Type} [DecidableEq T] [BEq T] [LawfulBEq T] {knd : KeyKind prog w T}
abbrev emptySet (led : Bool) : Obj := { cls := .type "set", dict := none, data := .set #[] 0 (.fresh 0 0 led) }
/-- set(xs) of a list of keys -/
theorem call_set_keys {l : Addr} {its : Array Value} {xs : List T} {Q : Value → Shared → Prop} (calm : A.handled = none) (hl : s.heap.IsList l its) (hx : xs.length = its.size) (hv : ∀ (i : Nat) (v : Value), its[i]? = some v → ∃ x, xs[i]? = some x ∧ knd.is x v = true ∧ v.scannable = true)
    (hb : its.size + 1 < scanBound) (h : ∀ (hp : Heap) (tk : Nat), hp.SetOf knd s.heap.objs.size (fun y => decide (y ∈ onceT xs)) (onceT xs).length → (∀ b o, b < s.heap.objs.size → s.heap.get? b = some o → hp.get? b = some o) → Q (.ref s.heap.objs.size) { s with heap := hp, toks := tk }) :
    wpAny (model prog w) A (call (.type "set") [.ref l]) Q E s := by
  obtain ⟨c, tl, mro⟩ := PySem.F.called_set.mro
  have made := PySem.F.called_set.made ; have sub := PySem.F.called_set.sub
  refine wpAny_call (codeAny_of_tree ?_) ; show wpAny _ _ (callAny (.type "set") _) _ _ _
  refine wpAny_pure ⟨Code.quiet_builtin _ (by decide +kernel), codeAny_builtin PySem.F.entry_type_call (?_)⟩
  rw [Around.under_plain (weight_type_call_type "set" [.ref l] []) rfl] ; have k1 := PySem.F.called_set.notType ; have k2 := PySem.F.called_set.canCreate ; have k3 := PySem.F.typeCall_set_1 (.ref l)
  repeat (any_goals (first | assumption | wp_step))
  refine codeAny_mono (code_set_new_1 (.ref l) (E := E) (Q₁ := fun obj st => ∃ led : Bool, obj = .ref s.heap.objs.size ∧ st = { s with heap := s.heap.push (emptySet led) }) fun led => ⟨led, rfl, rfl⟩) fun r st hr => ?_
  cases r with
  | error e => exact hr
  | ok fl =>
    cases fl with
    | ret obj =>
      obtain ⟨led, rfl, rfl⟩ := hr
      have at0 : (s.heap.push (emptySet led)).get? s.heap.objs.size = some (emptySet led) := Heap.get?_push_size _ rfl
      have ty : Shared.TypeIs { s with heap := s.heap.push (emptySet led) } (.ref s.heap.objs.size) "set" := ⟨_, at0, rfl⟩
      have k4 := PySem.F.called_set.init.lookup ; have k5 := PySem.F.called_set.init.bind (.ref s.heap.objs.size)
      repeat (any_goals (first | assumption | wp_step))
      refine codeAny_mono (codeAny_call_builtin (R := wants (fun r st2 => r = .none ∧ ∃ hp tk, st2 = { s with heap := hp, toks := tk } ∧ hp.SetOf knd s.heap.objs.size (fun y => decide (y ∈ onceT xs)) (onceT xs).length ∧ (∀ b o, b < s.heap.objs.size → s.heap.get? b = some o → hp.get? b = some o)) E) PySem.F.called_set.init.plain PySem.F.entry_set_init (check_set_init_1 ty (?_))) fun r2 st2 hr2 => ?_
      · obtain ⟨ol, hol, hcl, nl, hdl⟩ := hl
        obtain ⟨ocls, odict, odata, oslots⟩ := ol
        simp only at hcl hdl ; subst hcl hdl
        have hol2 : (s.heap.push (emptySet led)).get? l = some { cls := .type "list", dict := odict, data := .seq its nl, slots := oslots } := Heap.get?_push_of_some _ hol
        have k6 := PySem.F.sub_list_set ; have k7 := PySem.F.sub_list_frozenset ; have k8 : (Value.type "list" == Value.type "dict") = false := by decide
        have il : (s.heap.push (emptySet led)).IsList l its := ⟨_, hol2, rfl, nl, rfl⟩
        unfold Builtin.«set.__init__» noKeywords Builtin.Frozenset.updateFrom ; generalize hIter : pyIter = iter0
        wp_walk
        subst hIter ; refine wpAny_pyIter_list il (wpAny_bind (wpAny_runValue (?_)))
        have lS : l < s.heap.objs.size := Heap.lt_size hol
        have cl3 : A.in1.in1.in1.handled = none := by simp [calm]
        have neI : l ≠ (s.heap.push (emptySet led)).objs.size := by rw [Heap.size_push] ; exact Nat.ne_of_lt (Nat.lt_succ_of_lt lS)
        have offS : s.heap.objs.size ∉ [(s.heap.push (emptySet led)).objs.size, l] := by
          rw [Heap.size_push] ; simp only [List.mem_cons, List.mem_singleton, List.not_mem_nil, or_false, not_or]
          exact ⟨Nat.ne_of_lt (Nat.lt_succ_self _), Nat.ne_of_gt lS⟩
        refine fill_set (knd := knd) ((Walks.list cl3 _ l neI its).toS) offS xs hx hb hv (its.size - 0) 0 _ (by omega) (Nat.zero_le _) ⟨⟨_, Heap.get?_push_size _ rfl, rfl, rfl⟩, (il.push _)⟩ ?start ?rest
        case start =>
          have got : ((s.heap.push (emptySet led)).push { cls := .type "list_iterator", data := .fields #[.ref l, .int 0 0] }).get? s.heap.objs.size = some (emptySet led) := Heap.get?_push_of_some _ at0
          refine SetOf_congr ((PyProof.Rows.setObjOf_fresh (knd := knd) led).setOf got (by unfold scanBound; omega)) (fun y => ?_) rfl
          exact (decide_eq_false fun z => nomatch z).symm
        case rest =>
          intro fin mv hS
          obtain ⟨hp, gg, dd, tk, os⟩ := fin
          have eg : gg = s.gens := mv.gens ; have ed : dd = s.drawn := mv.drawn ; have eo : os = s.os := mv.os
          subst eg ed eo
          show wpAny _ _ _ _ _ _
          refine wpAny_pure (?_) ; show wpAny _ _ (ret Value.none) _ _ _
          refine wpAny_pure ⟨rfl, hp, tk, rfl, hS, fun b o lt e => ?_⟩
          have n1 : b ≠ s.heap.objs.size := Nat.ne_of_lt lt
          have n2 : b ≠ (s.heap.push (emptySet led)).objs.size := by rw [Heap.size_push] ; exact Nat.ne_of_lt (Nat.lt_succ_of_lt lt)
          refine mv.heap b o ?_ (Heap.get?_push_of_some _ (Heap.get?_push_of_some _ e))
          simp only [List.mem_cons, List.mem_singleton, List.not_mem_nil, or_false, not_or] ; exact ⟨n1, n2⟩
      · cases r2 with
        | error e => exact hr2
        | ok fl2 =>
          cases fl2 with
          | ret r =>
            obtain ⟨rfl, hp, tk, rfl, hS, hk⟩ := hr2
            repeat (any_goals (first | assumption | wp_step))
            exact h _ _ hS hk
          | _ => exact hr2.elim
    | _ => exact hr.elim
end
section
variable {X : Cx}
theorem strs_of : ∀ {ys : List Str} {us : List Value}, Vals (ys.map V.str) us → ∀ (i : Nat) (v : Value), us[i]? = some v → ∃ x, ys[i]? = some x ∧ (PySem.strKind X.prog X.w).is x v = true ∧ v.scannable = true
  | [], _, .nil, i, v, h => by simp at h
  | y :: ys, _, .cons r t, 0, v, h => by
    obtain ⟨k, rfl⟩ := r
    simp only [List.getElem?_cons_zero, Option.some.injEq] at h
    subst h
    exact ⟨y, rfl, strKind_is _ _ _ _, rfl⟩
  | y :: ys, _, .cons r t, i + 1, v, h => strs_of t i v (by simpa using h)
/-- len(set(xs)) of a list of texts -/
def tLenSetS (K : PySem.W.Frag) (ta : TE) : TE := fun σ H Q => ta σ H fun x H1 => ∃ l, ∃ xs : List Str, x = .ref l ∧ SqL K H1 l (xs.map V.str) ∧ xs.length ≤ 4000 ∧ Q (.int (onceT xs).length) H1
theorem pe_lenSetS {a : Expr} {ta : TE} {p p2 q pos : Pos} (hc : X.calm = true) (hg : Gl X "len") (hm : X.mg "len" = none) (hg2 : Gl X "set") (hm2 : X.mg "set" = none) (ha : PE X a ta) (na : starEach [a] X.env = (false, eval a X.env) :: starEach [] X.env := by rfl) :
    PE X (.Call (.Name "len" p) [.Call (.Name "set" p2) [a] [] q] [] pos) (tLenSetS X.K ta) := ⟨fun pins s σ H Q I h => by
  refine Call_ (ld_blt I hg hm boot_len (?_)) ; refine PyProof.Rows.callWith_builtin1 (PyProof.Rows.args_cons (?_) rfl) rfl rfl
  refine Call_ (ld_blt I hg2 hm2 boot_set (?_))
  refine PyProof.Rows.callWith_type1 (PyProof.Rows.args_cons (thn (ha.run pins s σ H _ I h) fun v s1 ⟨x, H1, I1, r1, z⟩ => PyProof.Rows.args_nil (?_)) na) na rfl
  obtain ⟨l, xs, rfl, hq, h1, z⟩ := z
  cases r1
  obtain ⟨its, r, pl, hz⟩ := I1.list hq
  have len : xs.length = its.toArray.size := by rw [List.size_toArray, ← r.length, List.length_map]
  refine call_set_keys (knd := PySem.strKind X.prog X.w) (xs := xs) (I1.ok.hd hc) pl.isList len (fun i v e => strs_of r i v (by simpa using e)) (by rw [← len]; unfold scanBound; omega) fun hp tk hS hk => ?_
  refine PyProof.Rows.args_nil (?_)
  obtain ⟨o, es, ep, t, ho, hex, hd, _, _, _, hf, hn⟩ := hS
  have I2 : Inv X pins σ H1 { s1 with heap := hp, toks := tk } := I1.kept fun b o e => hk b o (Heap.lt_size e) e
  have ol := once_len xs
  exact call_len_set ho hex hd hf (by rw [hn]; omega) ⟨.int (onceT xs).length, H1, I2.tok _, ⟨_, by rw [hn]⟩, z⟩⟩
end
end DM

/-! tuple * k, len(set(texts)), text in text, over data. -/
namespace DL
open PySem PySem.Spec PyProof.Rows L2
variable [Tbs] [Bse]
section
variable {X : Cx}
theorem tup_mul0 {s : Shared} (l : Addr) (n : Nat) (dd : Option Addr) (sl : Array (Option Value)) (x : Int) (u : Tok) (c0 : (decide (x < -(2 ^ 63)) || decide (x ≥ 2 ^ 63)) = false) :
    Meets (Builtin.«tuple.__mul__» ⟨[.ref l, .int x u], []⟩) (fun _ R s => s.heap.get? l = some { cls := .type "tuple", dict := dd, data := .seq #[] n, slots := sl } ∧ R (.ok (.ret (Value.ref l))) s) :=
  .of_wp fun prog w A R s h => by
    obtain ⟨hp, g, d, tk, os⟩ := s
    obtain ⟨at0, h⟩ := h
    have ix := AutoSeq1.idx_int
    wp_walk using wpAny_loadPart' at0
    repeat (first
      | (refine wpAny_ite_false (decide_eq_false (by rw [c0]; exact Bool.false_ne_true)) ?_; wp_walk using wpAny_loadPart' at0)
      | (refine wpAny_ite_true (by simp) ?_; wp_walk using wpAny_loadPart' at0))
    all_goals first | exact ⟨_, rfl, h⟩ | exact h
def rRepF (K : PySem.W.Frag) : R2 := fun x y H Q => ∃ l k xs, x = .ref l ∧ y = .int k ∧ SqT K H l xs ∧ 2 ≤ k ∧ k ≤ 1000 ∧ xs.length ≤ 1000 ∧ (xs = [] → Q (.ref l) H) ∧ ∀ p o, H p = none → o.dict = none → Q (.ref p) (upd H p (.frz o (.tup (List.replicate k.toNat xs).flatten)))
theorem rep_vals {xs : List V} {its : List Value} (r : Vals xs its) : ∀ k : Nat, Vals (List.replicate k xs).flatten (List.replicate k its).flatten := r.rep
theorem op_repF : OpR X (binaryOp .Mult) (rRepF X.K) := fun pins s σ H x y v u Q I rx ry ⟨l, k, xs, e1, e2, hT, g1, g2, hz, q0, q1⟩ => by
  subst e1 e2
  cases rx
  obtain ⟨t, rfl⟩ := ry
  obtain ⟨its, r, ⟨⟨cc, dd, dat, sl⟩, at0, ec, n, ed⟩, hs⟩ := I.tuple hT
  simp only at ec ed
  subst ec ed
  have len : its.length = xs.length := r.length.symm
  have c0 : (decide (k < -(2 ^ 63)) || decide (k ≥ 2 ^ 63)) = false := by
    rw [decide_eq_false (by omega), decide_eq_false (by omega)] ; rfl
  have big : k.toNat * xs.length ≤ 1000 * 1000 := Nat.mul_le_mul (by omega) hz
  by_cases hn : xs = []
  · have e0 : its = [] := List.eq_nil_of_length_eq_zero (by rw [len, hn]; rfl)
    subst e0
    refine wpAny_binaryOp_repeat_ref (T := "tuple") (U := "int") (by decide) ⟨_, at0, rfl⟩ (fun st => typeIs_int st k t) noFill_tuple_mul F.fills_int_mul F.slot_int_rmul repeat_tuple F.slot_int_index.lookup
      (call_meets F.slot_int_rmul (typeIs_int s k t) F.entry_int_rmul (F.args_int_rmul_2 _ _) (int_rmul_tuple k t l #[] n dd sl) ⟨at0, rfl, ⟨_, at0, rfl⟩, call_meets F.slot_tuple_mul ⟨_, at0, rfl⟩ F.entry_tuple_mul (F.args_tuple_mul_2 _ _) (tup_mul0 (s := s) l n dd sl k t c0) ⟨at0, ?_⟩⟩)
    exact ⟨.ref l, H, I, rfl, q0 hn⟩
  · have hi : its.toArray.isEmpty = false := by
      cases its with
      | nil => exact absurd (List.eq_nil_of_length_eq_zero (by rw [← len]; rfl)) hn
      | cons a b => rfl
    have sz : its.toArray.size = xs.length := by rw [List.size_toArray, len]
    have prod : ((its.toArray.size : Nat) : Int) * k ≤ 1000000 := by
      rw [sz]
      have a1 : ((xs.length : Nat) : Int) * k ≤ 1000 * k := Int.mul_le_mul_of_nonneg_right (by omega) (by omega)
      omega
    have fl : (List.replicate k.toNat its).flatten.length ≤ sizeLine := by
      rw [PyProof.Rows.lm_len_rep_flat, len, sizeLine_eq] ; omega
    have c1 : (its.toArray.isEmpty || k == 1) = false := by
      rw [hi, Bool.false_or] ; exact beq_eq_false_iff_ne.mpr (by omega)
    have c2 : (decide (k ≤ 0) || its.toArray.isEmpty) = false := by
      rw [hi, Bool.or_false] ; exact decide_eq_false (by omega)
    have c4 : Builtin.Tuple.tupleTooMany (((its.toArray.size : Nat) : Int) * k) = false := by
      unfold Builtin.Tuple.tupleTooMany ; rw [sizeLine_eq] ; exact decide_eq_false (by omega)
    refine wpAny_binaryOp_repeat_ref (T := "tuple") (U := "int") (by decide) ⟨_, at0, rfl⟩ (fun st => typeIs_int st k t) noFill_tuple_mul F.fills_int_mul F.slot_int_rmul repeat_tuple F.slot_int_index.lookup
      (call_meets F.slot_int_rmul (typeIs_int s k t) F.entry_int_rmul (F.args_int_rmul_2 _ _) (int_rmul_tuple k t l its.toArray n dd sl) ⟨at0, rfl, ⟨_, at0, rfl⟩, call_meets F.slot_tuple_mul ⟨_, at0, rfl⟩ F.entry_tuple_mul (F.args_tuple_mul_2 _ _) (tuple_mulW l its.toArray n dd sl k t c0 c1 c2 (by omega) c4 (by rw [size_rep, List.size_toArray]; exact fl)) ⟨at0, ?_⟩⟩)
    rw [size_rep]
    have rr : Vals (List.replicate k.toNat xs).flatten (List.replicate k.toNat its).flatten := r.rep k.toNat
    exact ⟨.ref s.heap.objs.size, _, Inv.laidT (s := s) (t' := s.toks) I (by rw [PyProof.Rows.lm_len_rep_flat, sizeLine_eq]; omega) rr, rfl, q1 _ _ (I.hok.fresh (Nat.le_refl _)) rfl⟩
theorem dpa_repF {K : PySem.W.Frag} {H : Hp} {vs : List V} {ds : List D} (h : DpAll K H vs ds) : ∀ k : Nat, DpAll K H (List.replicate k vs).flatten (List.replicate k ds).flatten
  | 0 => .nil
  | k + 1 => dpa_app h (dpa_repF h k)
/-- i * j, t * k -/
def rMulT : D → D → (D → Prop) → Prop := fun d e R => ∃ k : Int, e = .int k ∧ ((∃ i, d = .int i ∧ CMulW i k ∧ R (.int (i * k))) ∨ ∃ ds, d = .tuple ds ∧ 2 ≤ k ∧ k ≤ 1000 ∧ ds.length ≤ 1000 ∧ R (.tuple (List.replicate k.toNat ds).flatten))
theorem od_mulT : OpR X (binaryOp .Mult) (liftO X.K rMulT) := OpR.weak (OpR.or od_mulW op_repF) fun x y H Q ⟨f, d, e, R, fs, bx, bY, ⟨k, hk, r⟩, q⟩ => by
  subst hk
  rcases r with ⟨i, rfl, hc, r⟩ | ⟨ds, rfl, g1, g2, hz, r⟩
  · exact .inl ⟨f, _, _, R, fs, bx, bY, ⟨i, k, rfl, rfl, hc, r⟩, q⟩
  · obtain ⟨l, xs, rfl, hl, dl⟩ := bx.tup fs
    refine .inr ⟨l, k, xs, rfl, bY.int, hl, g1, g2, by rw [dpa_len dl]; exact hz, fun z => ?_, fun p o hp ho => ?_⟩
    · subst z
      cases dl
      have e0 : (List.replicate k.toNat ([] : List D)).flatten = [] := by simp
      rw [e0] at r
      exact flatT fs q r bx
    · have g : Gr f.F H (upd f.F p (.frz o (.tup (List.replicate k.toNat xs).flatten))) (upd H p (.frz o (.tup (List.replicate k.toNat xs).flatten))) := Gr.new fs hp tup_ntbl
      exact q _ _ _ _ r g (.tup (.new upd_same ho) (dpa_repF (dpa_mono g.ff _ _ dl) _))
/-- s in t -/
def hasS (i j : Str) : Bool := !(Builtin.Str.occurrences j i 0 j.length 1).isEmpty
def rInS : D → D → (D → Prop) → Prop := fun d e R => ∃ i j, d = .str i ∧ e = .str j ∧ R (.bool (hasS i j))
theorem od_inS : OpR X (compareOp .In) (liftO X.K rInS) := OpR.weak op_in_str fun x y H Q ⟨f, d, e, R, fs, bx, bY, ⟨i, j, h1, h2, r⟩, q⟩ => by
  subst h1 h2
  exact ⟨i, j, bx.str, bY.str, flatQ fs q r (.bl _)⟩
/-- len(set(texts)) -/
def dLenSet (T : TD) : TD := fun ρ R => T ρ fun d ρ' => ∃ xs : List Str, d = .list (xs.map .str) ∧ xs.length ≤ 4000 ∧ R (.int (DM.onceT xs).length) ρ'
theorem de_lenSet {a : Expr} {T : TD} {p p2 q pos : Pos} (hc : X.calm = true) (hg : Gl X "len") (hm : X.mg "len" = none) (hg2 : Gl X "set") (hm2 : X.mg "set" = none) (ha : DB X a T) (na : starEach [a] X.env = (false, eval a X.env) :: starEach [] X.env := by rfl) :
    DE X (.Call (.Name "len" p) [.Call (.Name "set" p2) [a] [] q] [] pos) (dLenSet T) := PE.weak (DM.pe_lenSetS hc hg hm hg2 hm2 ha na) fun σ H Q ⟨b, f, ρ, R, S, t, q⟩ => ⟨b, f, ρ, _, S, t, fun d ρ' v f' H' ⟨xs, hd, hl, r⟩ S' n bo => by
    subst hd
    obtain ⟨l, vs, rfl, hq, dv⟩ := bo.lst S'.fs
    rw [strs_v dv] at hq
    exact ⟨l, xs, rfl, hq, hl, q _ _ _ f' H' r S' n (.int _)⟩⟩
end
end DL

/-! repr of data with dicts: none of their lists stands where the table of modules does. -/
namespace DL
open PySem PySem.Spec PyProof.Rows L2
variable [Tbs] [Bse]
theorem keys_flat {P : Program} {w : World} {h : Heap} : ∀ {es : List DictEntry} {kvs : List (L2.Key × Value)} {vs : List (L2.Key × V)} {ds : List (D × D)} {K : PySem.W.Frag} {H : Hp}, Pairs (mixKind P w) es kvs → KV vs kvs → DpKv K H vs ds → ∃ as, ReadsAll h (es.map (·.key)) (ds.map (·.1)) as ∧ as = []
  | _, _, _, _, _, _, .nil, r, hd => by
    cases r
    cases hd
    exact ⟨_, .nil, rfl⟩
  | _, _, _, _, _, _, .cons hk _ hp, r, hd => by
    cases r with
    | cons r1 r2 =>
      cases hd with
      | cons d1 d2 =>
        obtain ⟨as, q, z⟩ := keys_flat (h := h) hp r2 d2
        rename_i kk _ _ _ _
        obtain ⟨e1, _⟩ := r1
        simp only at e1
        subst e1
        rcases keyIs_shape hk with ⟨i, t, e0, e⟩ | ⟨x, t, e0, e⟩
        · refine ⟨_, .cons (as := []) ?_ q, by rw [z]; rfl⟩
          show Reads h (DictEntry.key _) (kD _) _
          rw [e0, e]
          exact Reads.int i t
        · refine ⟨_, .cons (as := []) ?_ q, by rw [z]; rfl⟩
          show Reads h (DictEntry.key _) (kD _) _
          rw [e0, e]
          exact Reads.str x t
section
variable {X : Cx} {pins : List (Addr × Obj)} {σ : L2.St} {H : Hp} {s : Shared}
theorem seq_off {K : PySem.W.Frag} {H : Hp} {a : Addr} {xs : List V} (m : ∃ o, H sysModules = some (.frz o (.own 0))) (hK : K.lookup sysModules = none) (h : SqL K H a xs) : a ≠ sysModules := fun z => by
  subst z
  obtain ⟨o', m⟩ := m
  rcases h with (h | ⟨o, h⟩) | ⟨o, its, n, h, _⟩
  · rw [m] at h; cases h
  · rw [m] at h; cases h
  · rw [hK] at h; cases h
mutual
theorem Dp.readsM (I : Inv X pins σ H s) (m : ∃ o, H sysModules = some (.frz o (.own 0))) (hK : X.K.lookup sysModules = none) : ∀ (d : D) (v : V) (u : Value), Dp X.K H v d → RelV v u → ∃ as, Reads s.heap u d as ∧ sysModules ∉ as
  | .none, _, _, h, r => by
    cases h; cases r
    exact ⟨_, Reads.none, List.not_mem_nil⟩
  | .bool b, _, _, h, r => by
    cases h; cases r
    exact ⟨_, Reads.bool b, List.not_mem_nil⟩
  | .int i, _, _, h, r => by
    cases h; obtain ⟨t, rfl⟩ := r
    exact ⟨_, Reads.int i t, List.not_mem_nil⟩
  | .str x, _, _, h, r => by
    cases h; obtain ⟨t, rfl⟩ := r
    exact ⟨_, Reads.str x t, List.not_mem_nil⟩
  | .list ds, _, _, h, r => by
    cases h with
    | lst hs ha =>
      cases r
      obtain ⟨its, rv, ⟨o, n, h1, h2, _, h3⟩, _⟩ := I.list hs
      obtain ⟨as, q, z⟩ := DpAll.readsM I m hK ds _ its ha rv
      exact ⟨_, Reads.list h1 h2 h3 q, fun y => (List.mem_cons.mp y).elim (fun e => seq_off m hK hs e.symm) z⟩
  | .tuple ds, _, _, h, r => by
    cases h with
    | tup hs ha =>
      cases r
      obtain ⟨its, rv, ⟨o, h1, h2, n, h3⟩, _⟩ := I.tuple hs.1
      obtain ⟨as, q, z⟩ := DpAll.readsM I m hK ds _ its ha rv
      exact ⟨_, Reads.tuple h1 h2 h3 q, z⟩
  | .dict ds, _, _, h, r => by
    cases h with
    | dct hs ha =>
      cases r
      obtain ⟨_, hd, kvs, rkv, o, es, ep, h1, h2, h3, _, hp, _⟩ := Rd.ok hs I.hok
      obtain ⟨as, q1, z1⟩ := keys_flat (h := s.heap) hp rkv ha
      obtain ⟨bs, q2, z2⟩ := DpKv.readsM I m hK ds _ kvs es.toList ha rkv hp
      refine ⟨_, Reads.dict h1 h2.1 h3 q1 q2, fun y => ?_⟩
      rw [z1] at y
      rcases List.mem_append.mp y with y | y
      · rw [List.mem_singleton.mp y, beq_self_eq_true] at hd
        cases hd
      · exact z2 y
theorem DpAll.readsM (I : Inv X pins σ H s) (m : ∃ o, H sysModules = some (.frz o (.own 0))) (hK : X.K.lookup sysModules = none) : ∀ (ds : List D) (vs : List V) (us : List Value), DpAll X.K H vs ds → Vals vs us → ∃ as, ReadsAll s.heap us ds as ∧ sysModules ∉ as
  | [], _, _, h, r => by
    cases h; cases r
    exact ⟨_, ReadsAll.nil, List.not_mem_nil⟩
  | d :: ds, _, _, h, r => by
    cases h with
    | cons h1 h2 =>
      cases r with
      | cons r1 r2 =>
        obtain ⟨as, q1, z1⟩ := Dp.readsM I m hK d _ _ h1 r1
        obtain ⟨bs, q2, z2⟩ := DpAll.readsM I m hK ds _ _ h2 r2
        exact ⟨_, ReadsAll.cons q1 q2, fun y => (List.mem_append.mp y).elim z1 z2⟩
theorem DpKv.readsM (I : Inv X pins σ H s) (m : ∃ o, H sysModules = some (.frz o (.own 0))) (hK : X.K.lookup sysModules = none) : ∀ (ds : List (D × D)) (vs : List (L2.Key × V)) (kvs : List (L2.Key × Value)) (es : List DictEntry), DpKv X.K H vs ds → KV vs kvs → Pairs (mixKind X.prog X.w) es kvs → ∃ as, ReadsAll s.heap (es.map (·.val)) (ds.map (·.2)) as ∧ sysModules ∉ as
  | [], _, _, _, h, r, p => by
    cases h; cases r; cases p
    exact ⟨_, ReadsAll.nil, List.not_mem_nil⟩
  | (k, d) :: ds, _, _, _, h, r, p => by
    cases h with
    | cons h1 h2 =>
      cases r with
      | cons r1 r2 =>
        cases p with
        | cons p1 pv p2 =>
          obtain ⟨as, q1, z1⟩ := Dp.readsM I m hK d _ _ h1 r1.2
          obtain ⟨bs, q2, z2⟩ := DpKv.readsM I m hK ds _ _ _ h2 r2 p2
          rw [← pv] at q1
          exact ⟨_, ReadsAll.cons q1 q2, fun y => (List.mem_append.mp y).elim z1 z2⟩
end
end
section
variable {X : Cx} {e : Expr} {T : TD} {p pos : Pos}
def fitM (d : D) : Prop := d.showable = true ∧ d.depth ≤ 60 ∧ d.shown.length ≤ sizeLine
def rReprM (X : Cx) : List V → Hp → VK → Prop := fun xs H Q => ∃ (f : Fz) (d : D) (R : D → Prop) (v : V), Tf f.F H ∧ Same f.F H ∧ xs = [v] ∧ Bo X.K f H v d ∧ fitM d ∧ R (.str d.shown) ∧ ∀ z v F' H', R z → Gr f.F H F' H' → Dp X.K F' v z → Q v H'
theorem cr_reprM (hS : Tbs.S = true) (hK : X.K.lookup sysModules = none) (hg : X.A.guards = some []) {k : Nat} (hr : Room k X.A) : CallR X (.builtin "repr") (rReprM X) := by
  intro pins s σ H xs us Q I rx ⟨f, d, R, v, tf, fs, e, bo, ⟨h2, h3, h4⟩, r, q⟩
  subst e
  obtain ⟨u, rfl, rv⟩ := vals1 rx
  have hu : X.A.units + 200 < cLine := by have := hr.un; omega
  obtain ⟨as, rd, off⟩ := Dp.readsM I (tf.m hS) hK d v u (bo.dp fs) rv
  have fin : ∀ {s' : Shared} {t : Tok}, Inv X pins σ H s' → EP X pins σ Q (.str d.shown t) s' := fun {s' t} J => ⟨.str d.shown, H, J, ⟨t, rfl⟩, flatC fs q r (.str _)⟩
  cases rd with
  | none => exact PySem.P.repr_of_none (by have z := fin (t := s.toks) (I.tok (s.toks + 1)); simp only [PyData.shown] at z; exact z)
  | bool b => exact PySem.P.repr_of_bool (by have z := fin (t := s.toks) (I.tok (s.toks + 1)); simp only [PyData.shown] at z; exact z)
  | int i t => exact PySem.P.repr_of_int (by simpa [PyData.showable] using h2) (by have z := fin (t := s.toks) (I.tok (s.toks + 1)); simp only [PyData.shown] at z; exact z)
  | str x t => exact PySem.P.repr_of_str (by have z := fin (t := s.toks) (I.tok (s.toks + 1)); simp only [PyData.shown] at z; exact z) (by rw [← shown_str]; exact h4)
  | list g1 g2 g3 g4 => exact repr_of_reads' (.list g1 g2 g3 g4) h2 (fun _ => off) hg (by omega) (fun _ _ e => e) (fun h' w tk kp => fin (I.kept (t' := tk) kp)) h4
  | tuple g1 g2 g3 g4 => exact repr_of_reads' (.tuple g1 g2 g3 g4) h2 (fun _ => off) hg (by omega) (fun _ _ e => e) (fun h' w tk kp => fin (I.kept (t' := tk) kp)) h4
  | dict g1 g2 g3 g4 g5 => exact repr_of_reads' (.dict g1 g2 g3 g4 g5) h2 (fun _ => off) hg (by omega) (fun _ _ e => e) (fun h' w tk kp => fin (I.kept (t' := tk) kp)) h4
def dReprM (T : TD) : TD := fun ρ R => T ρ fun d ρ' => fitM d ∧ R (.str d.shown) ρ'
theorem de_reprM (hS : Tbs.S = true) (hK : X.K.lookup sysModules = none) (hg : X.A.guards = some []) {k : Nat} (hr : Room k X.A) (ha : DB X e T)
    (h : ∀ (r' : List V → Hp → VK → Prop) (t' : TA), CallR X (.builtin "repr") r' → PA X [e] t' → PE X (.Call (.Name ("repr" : Str) p) [e] [] pos) (tCB r' t'))
    (hs : starEach [e] X.env = (false, eval e X.env) :: starEach [] X.env := by rfl) : DE X (.Call (.Name ("repr" : Str) p) [e] [] pos) (dReprM T) :=
  PE.weak (h _ _ (cr_reprM hS hK hg hr) (pa_cons ha pa_nil hs)) fun σ H Q ⟨b, f, ρ, R, S, t, q⟩ => ⟨b, f, ρ, _, S, t, fun d ρ' v f' H' ⟨hf, r⟩ S' n bo =>
    ⟨f', d, fun z => R z ρ', v, S'.tb, S'.fs, rfl, bo, hf, r, fun z w F2 H2 rz g dp => q z ρ' w ⟨F2, f'.P⟩ H2 rz (S'.grow g) (n.trans S.pots (Nx.of_gr g)) dp⟩⟩
end
end DL

namespace DL
open PySem PySem.Spec PyProof.Rows L2 LamX NdefX
/-! ### the end, where the law's def is known only where no guard stands -/
section
variable {P : Program} {w : World} {K : PySem.W.Frag} {mg mb : Str → Option Value} {k : Nat} {fa a : Addr} {fd : FuncData} {x : Str} {sp : Sp} {s : Shared} {us : List Value} {ns : List Int}
theorem top_runsM (inh : K.In s.heap) (glo : s.heap.Ns mainGlobals mg) (bl : s.heap.Ns builtinsNs mb) (boot : ∀ y : Str, y ≠ "__name__" → mb y = bootBuiltins y) (nol : s.heap.NoLimit) (nog : s.gens = #[])
    (sat : s.heap.get? a = some { cls := .type "list", data := .seq us.toArray }) (sin : IntsAre us ns) (szn : ns.length ≤ sizeLine) (rm : Room k callerA)
    (sy : ∃ o, s.heap.get? sysModules = some o ∧ (o.cls == .type "dict") = true) (nK : K.lookup sysModules = none) (go : ∀ b : Heap, K.In b → b.Ns mainGlobals mg → FnG P w K mg b CX0 k fa fd [x] sp) (bd : ∀ (t : Shared) (u : Value), BindsTo t fd ⟨[u], []⟩ [(x, u)])
    (ask : ∀ H : Hp, (∃ o, H sysModules = some (.frz o (.own 0))) → SqL K H a (ns.map V.int) → sp [.ref a] H (fun v _ => v = .bl true) fun _ _ _ => False) :
    codeAny (model P w) callerA (.call (.ref fa) ⟨[.ref a], []⟩) (fun r t => r = .ok (.ret (.bool true)) ∧ OldK s.heap t.heap ∧ t.os = s.os ∧ AllBare t.gens) s := by
  have same := vals_ints sin
  have lens := sin.length
  obtain ⟨so, sy1, sy2⟩ := sy
  have nsa : a ≠ sysModules := fun z => by
    subst z
    rw [sat] at sy1
    cases sy1
    have z : (Value.type "list" == Value.type "dict") = true := sy2
    exact absurd z (by decide)
  have way : ∀ T : Hp, T sysModules = some (.frz so (.own 0)) → (∀ c u, c ≠ sysModules → T c = some u → c = a ∧ (∃ ob l, u = .frz ob (.lst l)) ∧ K.lookup a = none) → SqL K T a (ns.map V.int) → HOk P w T s.heap →
      codeAny (model P w) callerA (.call (.ref fa) ⟨[.ref a], []⟩) (fun r t => r = .ok (.ret (.bool true)) ∧ OldK s.heap t.heap ∧ t.os = s.os ∧ AllBare t.gens) s := by
    intro T tsys only sq good
    have un_a : ∀ c, c ≠ sysModules → c ≠ a → T c = none := fun c m n => by
      cases q : T c with
      | none => rfl
      | some u => exact absurd (only c u m q).1 n
    have k_in : K.In (hidT s.heap T) := fun c ob e => by
      refine hidT_get (inh c ob e) ?_
      have m : c ≠ sysModules := fun z => by
        rw [z, nK] at e
        cases e
      cases q : T c with
      | none => rfl
      | some u =>
        obtain ⟨ec, _, nk⟩ := only c u m q
        rw [ec, nk] at e
        cases e
    have ns_in : ∀ {c : Addr} {m : Str → Option Value}, c ≠ sysModules → s.heap.Ns c m → (hidT s.heap T).Ns c m := fun {c m} nc ⟨ob, es, ep, e, d, r⟩ => by
      refine ⟨ob, es, ep, hidT_get e (un_a c nc fun ec => ?_), d, r⟩
      rw [ec, sat] at e
      have z := congrArg Obj.data (Option.some.inj e)
      rw [d] at z
      cases z
    have env : Env0 P w K mg (hidT s.heap T) callerA [] s T := by
      obtain ⟨mc, n1, n2⟩ := nol
      exact { frames := rfl, mod := { kin := k_in, glob := ns_in (by decide) glo, blt := ⟨mb, ns_in (by decide) bl, boot⟩, nolimit := ⟨mc, ns_in (by decide) n1, n2⟩ }, bs := fun _ _ e => of_hidT e, bsz := by rw [hidT_size]; exact Nat.le_refl _,
              funs := trivial, frf := fun c hc => (List.not_mem_nil hc).elim, hok := good, bare := AllBare.of_eq nog }
    have ran := (go (hidT s.heap T) k_in (ns_in (by decide) glo)).go callerA [] s T ⟨[.ref a], []⟩ [.ref a] [.ref a] (fun v _ => v = .bl true) (fun _ _ _ => False) rm rfl env (bd s (.ref a)) (.cons rfl .nil) (ask T ⟨_, tsys⟩ sq)
    refine codeAny_mono ran fun r t ht => ?_
    match r, ht with
    | .ok (.ret u), ⟨v, T', e1, e2, e3, e4, e5, e6⟩ =>
      have e6' : v = .bl true := e6
      rw [e6'] at e5
      have e5' : u = Value.bool true := e5
      refine ⟨by rw [e5'], OldK.of_keep fun c ob old => ?_, e1, e2⟩
      cases q : T c with
      | none => exact e3.keep c ob old q (fun z => absurd z List.not_mem_nil) (by simp)
      | some y =>
        obtain ⟨o1, l1, ey⟩ : ∃ o1 l1, y = .frz o1 l1 := by
          by_cases m : c = sysModules
          · rw [m, tsys] at q
            exact ⟨_, _, (Option.some.inj q).symm⟩
          · obtain ⟨_, ⟨o1, l1, ey⟩, _⟩ := only c y m q
            exact ⟨_, _, ey⟩
        rw [ey] at q
        have a1 := (good c _ q).1
        rw [old] at a1
        cases a1
        exact (e4 c _ (e3.frzs c _ _ q)).1
  cases lk : K.lookup a with
  | none =>
    let T : Hp := fun c => if c = sysModules then some (.frz so (.own 0)) else if c = a then some (.frz { cls := .type "list", data := .seq us.toArray } (.lst (ns.map V.int))) else none
    have Ts : T sysModules = some (.frz so (.own 0)) := if_pos rfl
    have Ta : T a = some (.frz { cls := .type "list", data := .seq us.toArray } (.lst (ns.map V.int))) := (if_neg nsa).trans (if_pos rfl)
    have Tn : ∀ c u, c ≠ sysModules → T c = some u → c = a ∧ u = .frz { cls := .type "list", data := .seq us.toArray } (.lst (ns.map V.int)) := fun c u m e => by
      by_cases ec : c = a
      · rw [ec, Ta] at e
        exact ⟨ec, (Option.some.inj e).symm⟩
      · have : T c = none := (if_neg m).trans (if_neg ec)
        rw [this] at e
        cases e
    refine way T Ts (fun c u m e => ⟨(Tn c u m e).1, ⟨_, _, (Tn c u m e).2⟩, lk⟩) (.inl (.inr ⟨_, Ta⟩)) fun c u e => ?_
    by_cases m : c = sysModules
    · rw [m, Ts] at e
      cases e
      rw [m]
      exact ⟨sy1, _, sy1⟩
    · obtain ⟨ec, eu⟩ := Tn c u m e
      rw [ec, eu]
      refine ⟨sat, ?_, us, _, same, sat⟩
      rw [List.length_map]
      exact szn
  | some ob =>
    have there := inh a ob lk
    rw [sat] at there
    cases there
    let T : Hp := fun c => if c = sysModules then some (.frz so (.own 0)) else none
    have Ts : T sysModules = some (.frz so (.own 0)) := if_pos rfl
    refine way T Ts (fun c u m e => ?_) (.inr ⟨_, us.toArray, _, lk, rfl, rfl, rfl, ?_, ?_⟩) fun c u e => ?_
    · have : T c = none := if_neg m
      rw [this] at e
      cases e
    · rw [List.size_toArray, lens]
      exact szn
    · simpa using same
    · by_cases m : c = sysModules
      · rw [m, Ts] at e
        cases e
        rw [m]
        exact ⟨sy1, _, sy1⟩
      · have : T c = none := if_neg m
        rw [this] at e
        cases e
end
/-- a law's def, its promise where no guard stands and the table of modules is told -/
def LawM (l : PySem.W.OpenLaw) (w : World) (K : PySem.W.Frag) (k most : Nat) (x : Str) (mg : Str → Option Value) (fa : Addr) : Prop :=
  K.lookup sysModules = none ∧ ∃ (fd : FuncData) (sp : Sp), (∀ (t : Shared) (u : Value), BindsTo t fd ⟨[u], []⟩ [(x, u)]) ∧ (∀ (H : Hp) (a : Addr) (ns : List Int), (∃ o, H sysModules = some (.frz o (.own 0))) → ns.length ≤ most → SqL K H a (ns.map V.int) → sp [.ref a] H (fun v _ => v = .bl true) fun _ _ _ => False) ∧
    ∀ b : Heap, K.In b → b.Ns mainGlobals mg → FnG l.prog w K mg b CX0 k fa fd [x] sp
theorem walk_m {l : PySem.W.OpenLaw} {most k : Nat} {q : Program} {loose : List Str} {XP : (Str → Option Value) → Heap → Prop} {YP : World → Heap → Prop} {d : DefRec} {K : Params → PySem.W.Frag} {x : Str} (hmost : l.most = some most) (hsz : most ≤ sizeLine)
    (hdef : d.params.defaults = []) (room : Room k callerA) (known : ∀ (w : World) (h : Heap), YP w h → (K w.params).In h ∧ ∃ o, h.get? sysModules = some o ∧ (o.cls == .type "dict") = true)
    (F : ∀ (w : World) (mg : Str → Option Value) (fa : Addr) (h : Heap), YP w h → (K w.params).In h → h.Ns mainGlobals mg → mg d.name = some (.ref fa) → LawM l w (K w.params) k most x mg fa) :
    PySem.W.WalkO q loose XP YP l.row.toRowW d [] (fun f vs => PySem.call f vs) := by
  refine Att.attach_callB hmost hdef fun w s0 s1 mg mb fa ob pm cd doc a us ns top yy _ _ _ hmg hobj hints hlen hbits hgen => ?_
  obtain ⟨inh, sy⟩ := known w _ yy
  obtain ⟨nK, fd, sp, t1, t2, t3⟩ := F w mg fa _ yy inh top.T.g hmg
  exact top_runsM inh top.T.g top.T.b top.T.builtins top.T.nolimit hgen hobj hints (Nat.le_trans hlen hsz) room sy nK t3 t1 fun H hs sq => t2 H a ns hs hlen sq
/-- what is looked at behind the text's own run: the objects that are written out, and that the table of modules is a dict -/
def sysHook (K : PySem.Params → PySem.W.Frag) (as : List Addr) (e : ∀ P, as = (K P).map (·.1)) (_ : Unit) : PySem.W.Hook where
  α := Bool × List (Option Obj)
  obs := fun st => ((st.heap.get? sysModules).any fun o => o.cls == .type "dict", as.map st.heap.get?)
  val := fun w => (true, (K w.params).map fun p => some p.2)
  says := fun w h => ((h.get? sysModules).any fun o => o.cls == .type "dict") = true ∧ PySem.W.InK K w h
  of := fun w st x => ⟨congrArg Prod.fst x, PySem.W.InK.of e w st (congrArg Prod.snd x)⟩
  keeps := fun w h h' x kp => ⟨by
    cases q : h.get? sysModules with
    | none => rw [q] at x; exact absurd x.1 Bool.false_ne_true
    | some o => rw [kp _ _ q]; rw [q] at x; exact x.1, PySem.W.InK.keeps w h h' x.2 kp⟩
theorem sys_of {K : PySem.Params → PySem.W.Frag} {as : List Addr} {e : ∀ P, as = (K P).map (·.1)} {u : Unit} {w : World} {h : Heap} (y : (sysHook K as e u).says w h) : (K w.params).In h ∧ ∃ o, h.get? sysModules = some o ∧ (o.cls == .type "dict") = true := by
  refine ⟨y.2, ?_⟩
  have y1 := y.1
  cases q : h.get? sysModules with
  | none => rw [q] at y1; exact absurd y1 Bool.false_ne_true
  | some o => rw [q] at y1; exact ⟨o, rfl, y1⟩
/-- f() -/
theorem de_fn0 {X : Cx} {e : Expr} [Tbs] [Bse] {k : Con} (h : PE X e (tCall (spD X.K k) [] E0 tNil)) : DE X e (dFn k dNil) := PE.weak h fun σ H Q ⟨b, f, ρ, R, S, t, q⟩ =>
  ⟨f.F, [], _, S.tb, S.fs, .nil, t, fun d v F2 H2 r2 g dp => q d ρ v ⟨F2, f.P⟩ H2 r2 (S.grow g) (Nx.of_gr g) dp⟩
end DL

/-! texts put together and taken apart again -/
namespace TX
open PySem PySem.Spec PySem.Builtin PySem.Builtin.Str PySem.StrLaws PySem.NumText PySem.W.KIN PyProof.Rows
abbrev cl (x : Str) : List Nat := x.cps.toList
theorem cl_len (x : Str) : (cl x).length = x.length := Array.length_toList
theorem cl_ext {x y : Str} (h : cl x = cl y) : x = y := Str.ext' (Array.toList_inj.mp h)
theorem cl_app (x y : Str) : cl (x ++ y) = cl x ++ cl y := by
  show (x ++ y).cps.toList = _
  rw [Str.cps_append, Array.toList_append]
/-- the marker stands in the separator at one place alone -/
structure Mark (y : Str) (c j : Nat) : Prop where
  at_ : ∀ i, (cl y)[i]? = some c ↔ i = j
theorem at_get {x y : Str} {k i : Nat} {c : Nat} (h : At x y x.length k) (e : (cl y)[i]? = some c) : (cl x)[k + i]? = some c := by
  obtain ⟨h1, h2⟩ := h
  rw [subAt_eq, beq_iff_eq] at h2
  have hi : i < y.length := by rw [← cl_len]; exact (List.getElem?_eq_some_iff.mp e).1
  have e2 : (((cl x).drop k).take y.length)[i]? = some c := by
    show ((x.cps.toList.drop k).take y.length)[i]? = _
    rw [h2]
    exact e
  rw [List.getElem?_take_of_lt hi, List.getElem?_drop] at e2
  exact e2
theorem at_of {x y : Str} {k : Nat} {A B : List Nat} (h : cl x = A ++ cl y ++ B) (hk : A.length = k) : At x y x.length k := by
  have l1 := congrArg List.length h
  rw [List.length_append, List.length_append, cl_len, cl_len] at l1
  refine ⟨by omega, ?_⟩
  rw [subAt_eq, beq_iff_eq]
  show ((cl x).drop k).take y.length = cl y
  rw [h, List.append_assoc, ← hk, List.drop_left', ← cl_len y, List.take_left']
  · rfl
  · rfl
theorem join_cons (y p : Str) (q : Str) (r : List Str) : Str.join y (p :: q :: r) = p ++ y ++ Str.join y (q :: r) := rfl
/-- the cuts are where the separators stand -/
theorem parts_back {x y : Str} {c j : Nat} (m : Mark y c j) (hj : j < y.length) : ∀ (ps : List Str) (A : List Nat) (cuts : List Nat) (f : Nat), ps ≠ [] → (∀ p ∈ ps, c ∉ cl p) → cl x = A ++ cl (Str.join y ps) → ChainG x y x.length A.length cuts f → (∀ k, f ≤ k → ¬ At x y x.length k) →
    partsFrom x y.length A.length cuts = ps
  | [], _, _, _, h, _, _, _, _ => absurd rfl h
  | [p], A, cuts, f, _, hc, hx, hG, hn => by
    have hx' : cl x = A ++ cl p := hx
    have none_at : ∀ k, A.length ≤ k → ¬ At x y x.length k := fun k hk hA => by
      have e := at_get hA ((m.at_ j).mpr rfl)
      rw [hx', List.getElem?_append_right (by omega)] at e
      exact hc p List.mem_cons_self (List.mem_of_getElem? e)
    cases cuts with
    | cons d r => exact absurd hG.2.1 (none_at d hG.1)
    | nil =>
      show [strSub x A.length x.length] = [p]
      refine congrArg (· :: []) (cl_ext ?_)
      show (strSub x A.length x.length).cps.toList = _
      rw [strSub_toList]
      show ((cl x).drop A.length).take (x.length - A.length) = cl p
      rw [hx', List.drop_left', List.take_of_length_le]
      · have l1 := congrArg List.length hx'
        rw [List.length_append, cl_len] at l1
        omega
      · rfl
  | p :: q :: r, A, cuts, f, _, hc, hx, hG, hn => by
    have hx' : cl x = A ++ cl p ++ cl y ++ cl (Str.join y (q :: r)) := by
      rw [hx, join_cons, cl_app, cl_app]
      simp only [List.append_assoc]
    have here : At x y x.length (A.length + (cl p).length) := at_of (A := A ++ cl p) (B := cl (Str.join y (q :: r))) hx' (by rw [List.length_append])
    -- a separator that begins within the first part ends it
    have only : ∀ k, A.length ≤ k → k ≤ A.length + (cl p).length → At x y x.length k → k = A.length + (cl p).length := fun k h1 h2 hA => by
      have e := at_get hA ((m.at_ j).mpr rfl)
      rw [hx', List.append_assoc, List.append_assoc, List.getElem?_append_right (by omega)] at e
      by_cases h3 : k + j - A.length < (cl p).length
      · rw [List.getElem?_append_left h3] at e
        exact absurd (List.mem_of_getElem? e) (hc p List.mem_cons_self)
      · have l1 := cl_len p
        have l2 := cl_len y
        rw [List.getElem?_append_right (by omega), List.getElem?_append_left (by omega)] at e
        have := (m.at_ _).mp e
        omega
    cases cuts with
    | nil =>
      have ef : f = A.length := hG
      exact absurd here (hn _ (by omega))
    | cons d rest =>
      obtain ⟨g1, g2, g3, g4⟩ := hG
      have hd : d = A.length + (cl p).length := by
        have h2 : d ≤ A.length + (cl p).length := by
          by_cases z : d ≤ A.length + (cl p).length
          · exact z
          · exact absurd here (g3 _ (by omega) (by omega))
        exact only d g1 h2 g2
      show strSub x A.length d :: partsFrom x y.length (d + y.length) rest = p :: q :: r
      have e1 : strSub x A.length d = p := cl_ext (by
        show (strSub x A.length d).cps.toList = _
        rw [strSub_toList]
        show ((cl x).drop A.length).take (d - A.length) = cl p
        rw [hx', List.append_assoc, List.append_assoc, List.drop_left' rfl, hd, Nat.add_sub_cancel_left, List.take_left' rfl])
      have el : (A ++ cl p ++ cl y).length = d + y.length := by
        rw [List.length_append, List.length_append, cl_len y]
        omega
      have e2 := parts_back m hj (q :: r) (A ++ cl p ++ cl y) rest f (by simp) (fun z hz => hc z (List.mem_cons_of_mem _ hz)) hx' (by rw [el]; exact g4) hn
      rw [el] at e2
      rw [e1, e2]
theorem split_back {y : Str} {c j : Nat} (m : Mark y c j) (hj : j < y.length) {ps : List Str} (h0 : ps ≠ []) (hc : ∀ p ∈ ps, c ∉ cl p) (hk : PySem.Builtin.Str.strKind y = 1) : Txt.split (Str.join y ps) y = ps := by
  obtain ⟨f, hG, hn⟩ := occ_tight (Str.join y ps) y (by omega)
  have pb := parts_back m hj ps [] _ f h0 hc (by rfl) hG hn
  have whole : (∀ k, ¬ At (Str.join y ps) y (Str.join y ps).length k) → ps = [Str.join y ps] := fun hno => by
    cases ps with
    | nil => exact absurd rfl h0
    | cons p r =>
      cases r with
      | nil => rfl
      | cons q r => exact absurd (at_of (A := cl p) (B := cl (Str.join y (q :: r))) (by rw [join_cons, cl_app, cl_app]) rfl) (hno _)
  unfold Txt.split
  split
  · rename_i hz
    rw [Bool.or_eq_true, decide_eq_true_eq, decide_eq_true_eq] at hz
    refine (whole fun k hA => ?_).symm
    rcases hz with hz | hz
    · have := hA.1
      omega
    · rw [hk] at hz
      unfold PySem.Builtin.Str.strKind at hz
      split at hz
      · omega
      · split at hz <;> omega
  · split
    · rename_i he
      rw [List.isEmpty_iff.mp he] at pb
      have e : [strSub (Str.join y ps) 0 (Str.join y ps).length] = ps := pb
      rw [sub_whole] at e
      exact e
    · rw [partsBetween_eq]
      exact pb
theorem mark_plus : Mark (" + " : Str) 43 1 := ⟨fun i => by
  have e : cl (" + " : Str) = [32, 43, 32] := by decide +kernel
  rw [e]
  match i with
  | 0 => simp
  | 1 => simp
  | 2 => simp
  | i + 3 => simp⟩
theorem mark_blank : Mark (" " : Str) 32 0 := ⟨fun i => by
  have e : cl (" " : Str) = [32] := by decide +kernel
  rw [e]
  match i with
  | 0 => simp
  | i + 1 => simp⟩
theorem join_txt (y : Str) (ps : List Str) : Txt.join y ps = Str.join y ps := by
  unfold Txt.join
  exact glued_eq_join y ps
/-! ### numbers from 1 on as texts -/
def numT (n : Int) : Str := ((toString n : String) : Str)
theorem num_cl {n : Int} (h : 0 ≤ n) : cl (numT n) = (Nat.toDigits 10 n.toNat).map Char.toNat := by
  obtain ⟨m, rfl⟩ := Int.eq_ofNat_of_zero_le h
  exact signs_num m
theorem num_digits {n : Int} (h : 0 ≤ n) : AllDigits (cl (numT n)) := fun c hc => by
  rw [num_cl h] at hc
  obtain ⟨ch, hch, e⟩ := List.mem_map.mp hc
  have r := digit_range (Nat.isDigit_of_mem_toDigits (by decide) (by decide) hch)
  rw [← e]
  exact r
theorem num_ne {n : Int} (h : 0 ≤ n) : cl (numT n) ≠ [] := fun e => by
  rw [num_cl h] at e
  have q := toDigits_len_ge 10 n.toNat
  rw [List.map_eq_nil_iff.mp e] at q
  exact absurd q (by decide)
theorem num_back {n : Int} (h : 0 ≤ n) (hl : (numT n).length ≤ 4300) : PySem.intText? (numT n) = some n := by
  have e := intText_digits (num_digits h) (num_ne h) hl
  have e2 : digitsVal (numT n).cps.toList = n.toNat := by
    show digitsVal (cl (numT n)) = _
    rw [num_cl h, val_back]
  rw [e, e2, Int.toNat_of_nonneg h]
/-- the first sign of a number from 1 on is no 0 -/
theorem digits_head : ∀ (m : Nat), 0 < m → ∃ c r, (Nat.toDigits 10 m).map Char.toNat = c :: r ∧ c ≠ 48 := fun m => by
  induction m using Nat.strongRecOn with
  | _ m ih =>
    intro h0
    by_cases h : m < 10
    · rw [Nat.toDigits_of_lt_base h]
      refine ⟨_, [], rfl, ?_⟩
      have : ∀ d : Nat, d < 10 → 0 < d → (Nat.digitChar d).toNat ≠ 48 := by decide
      exact this m h h0
    · have hm : m % 10 < 10 := Nat.mod_lt m (by decide)
      have t : Nat.toDigits 10 (m / 10) ++ Nat.toDigits 10 (m % 10) = Nat.toDigits 10 (10 * (m / 10) + m % 10) := Nat.toDigits_append_toDigits (by decide) (by omega) hm
      rw [Nat.div_add_mod] at t
      obtain ⟨c, r, e, hc⟩ := ih (m / 10) (by omega) (by omega)
      rw [← t, List.map_append, e]
      exact ⟨c, _, rfl, hc⟩
theorem num_head {n : Int} (h : 1 ≤ n) : ∃ c r, cl (numT n) = c :: r ∧ c ≠ 48 := by
  rw [num_cl (by omega)]
  exact digits_head n.toNat (by omega)
theorem digit_ascii {x : Str} (h : AllDigits (cl x)) : Txt.isascii x = true := by
  unfold Txt.isascii
  rw [← Array.all_toList, List.all_eq_true]
  intro c hc
  have := h c hc
  exact decide_eq_true (by omega)
theorem digit_isdigit {x : Str} (h : AllDigits (cl x)) (h1 : cl x ≠ []) : Txt.isdigit x = true := by
  unfold Txt.isdigit
  rw [Bool.and_eq_true]
  refine ⟨decide_eq_true (by rw [← cl_len]; exact List.length_pos_iff.mpr h1), ?_⟩
  rw [← Array.all_toList, List.all_eq_true]
  intro c hc
  have := h c hc
  have all : ∀ d : Nat, d < 10 → Unicode.isDigit (48 + d) = true := by decide +kernel
  have e := all (c - 48) (by omega)
  rw [show 48 + (c - 48) = c by omega] at e
  exact e
theorem num_no {n : Int} (h : 0 ≤ n) {c : Nat} (hc : c < 48) : c ∉ cl (numT n) := fun z => by
  have := num_digits h c z
  omega
theorem num_len {n : Int} (h : 0 ≤ n) (h1 : n < 10 ^ 50) : (numT n).length ≤ 51 := by
  obtain ⟨m, rfl⟩ := Int.eq_ofNat_of_zero_le h
  rw [← cl_len, num_cl h, List.length_map, Int.toNat_natCast]
  have key : ∀ (k m : Nat), m < 10 ^ (k + 1) → (Nat.toDigits 10 m).length ≤ k + 1 := fun k => by
    induction k with
    | zero => intro m hm; rw [Nat.toDigits_of_lt_base (by omega)]; exact Nat.le_refl _
    | succ k ih =>
      intro m hm
      by_cases h : m < 10
      · rw [Nat.toDigits_of_lt_base h]
        simp
      · have hr : m % 10 < 10 := Nat.mod_lt m (by decide)
        have t : Nat.toDigits 10 (m / 10) ++ Nat.toDigits 10 (m % 10) = Nat.toDigits 10 (10 * (m / 10) + m % 10) := Nat.toDigits_append_toDigits (by decide) (by omega) hr
        rw [Nat.div_add_mod] at t
        rw [← t, List.length_append, Nat.toDigits_of_lt_base hr]
        have := ih (m / 10) (by rw [Nat.pow_succ] at hm; omega)
        simp
        omega
  exact key 50 m (by omega)
end TX

/-! data of bounded size and what is shown of them; comprehensions of things. -/
namespace FT
open PySem PySem.Spec PyProof.Rows L2 DL
variable [Tbs] [Bse]
def numT (n : Int) : Str := ((toString n : String) : Str)
theorem eqv_int (a b : Int) : PyData.eqv (.int a) (.int b) = decide (a = b) := by
  show (a == b) = _
  by_cases h : a = b
  · rw [decide_eq_true h, beq_iff_eq.mpr h]
  · rw [decide_eq_false h, beq_eq_false_iff_ne.mpr h]
theorem shp_int (a : Int) : shp (.int a) = true := rfl
theorem ok_ascii {a : Str} (h : ∀ c ∈ a.cps.toList, c < 128) : PyData.strOk a = true := by
  unfold PyData.strOk
  rw [← Array.all_toList, List.all_eq_true]
  intro c hc
  have := h c hc
  simp only [decide_eq_true_eq, Bool.and_eq_true, Bool.or_eq_true, Bool.not_eq_true']
  omega
theorem shp_str {a : Str} (h : ∀ c ∈ a.cps.toList, c < 128) : shp (.str a) = true := by
  show (PyData.canLay0 (.str a) && decide (PyData.depth (.str a) ≤ 64)) = true
  rw [show PyData.canLay0 (.str a) = PyData.strOk a by simp only [PyData.canLay0], ok_ascii h]
  simp [PyData.depth]
theorem log_small {n : Int} (h0 : 0 ≤ n) (h : n < 10 ^ 250) : n.natAbs.log2 < 1920 := by
  by_cases z : n.natAbs = 0
  · rw [z]
    decide +kernel
  · refine (Nat.log2_lt z).mpr ?_
    have e : n.natAbs < 10 ^ 250 := by omega
    exact Nat.lt_trans e (by decide +kernel)
theorem eqv_str (x y : Str) : PyData.eqv (.str x) (.str y) = decide (x = y) := rfl
theorem take_snoc {α : Type} {l : List α} {i : Nat} {x : α} (h : l[i]? = some x) : l.take (i + 1) = l.take i ++ [x] := by
  rw [List.take_add_one, h]
  rfl
theorem map_at {α β : Type} {f : α → β} {l : List α} {i : Nat} {y : β} (h : (l.map f)[i]? = some y) : ∃ x, l[i]? = some x ∧ y = f x := by
  rw [List.getElem?_map] at h
  cases e : l[i]? with
  | none => rw [e] at h; cases h
  | some x => rw [e] at h; exact ⟨x, rfl, (Option.some.inj h).symm⟩
theorem cl_join {c : Nat} {y : Str} : ∀ {ps : List Str}, c ∈ TX.cl (Str.join y ps) → c ∈ TX.cl y ∨ ∃ p ∈ ps, c ∈ TX.cl p
  | [], h => absurd h (by show ¬ c ∈ ([] : List Nat); simp)
  | [p], h => .inr ⟨p, List.mem_cons_self, h⟩
  | p :: q :: r, h => by
    rw [TX.join_cons, TX.cl_app, TX.cl_app, List.mem_append, List.mem_append] at h
    rcases h with (h | h) | h
    · exact .inr ⟨p, List.mem_cons_self, h⟩
    · exact .inl h
    · rcases cl_join h with h | ⟨p', h1, h2⟩
      · exact .inl h
      · exact .inr ⟨p', List.mem_cons_of_mem _ h1, h2⟩
theorem shp_parts {l : List D} (h1 : ∀ d ∈ l, d.canLay0 = true) (h2 : ∀ d ∈ l, d.depth ≤ 30) : (PyData.canLayAll0 l = true) ∧ PyData.depthAll l ≤ 30 := by
  induction l with
  | nil => exact ⟨by simp [PyData.canLayAll0], by simp [PyData.depthAll]⟩
  | cons d l ih =>
    obtain ⟨a, b⟩ := ih (fun x hx => h1 x (List.mem_cons_of_mem _ hx)) fun x hx => h2 x (List.mem_cons_of_mem _ hx)
    refine ⟨by simp only [PyData.canLayAll0, a, h1 d List.mem_cons_self]; rfl, ?_⟩
    have := h2 d List.mem_cons_self
    simp only [PyData.depthAll]
    omega
theorem shp_of {d : D} (h1 : d.canLay0 = true) (h2 : d.depth ≤ 64) : shp d = true := by
  show (d.canLay0 && decide (d.depth ≤ 64)) = true
  rw [h1, decide_eq_true h2]
  rfl
structure Fit (n k : Nat) (d : D) : Prop where
  lay : d.canLay0 = true
  shw : d.showable = true
  dep : d.depth ≤ k
  len : d.shown.length ≤ n
  asc : ∀ c ∈ TX.cl d.shown, c < 128
theorem Fit.fit {n k : Nat} {d : D} (h : Fit n k d) (hn : n ≤ 1000000) (hk : k ≤ 60) : fitD d := ⟨h.lay, h.shw, Nat.le_trans h.dep hk, by have := h.len; rw [sizeLine_eq]; omega⟩
theorem Fit.mono {n k n' k' : Nat} {d : D} (h : Fit n k d) (hn : n ≤ n') (hk : k ≤ k') : Fit n' k' d := ⟨h.lay, h.shw, Nat.le_trans h.dep hk, Nat.le_trans h.len hn, h.asc⟩
theorem fit_bool (b : Bool) : Fit 5 0 (.bool b) := by
  cases b
  · exact ⟨by simp [PyData.canLay0], by simp [PyData.showable], by simp [PyData.depth], by simp only [PyData.shown]; decide +kernel, by simp only [PyData.shown]; decide +kernel⟩
  · exact ⟨by simp [PyData.canLay0], by simp [PyData.showable], by simp [PyData.depth], by simp only [PyData.shown]; decide +kernel, by simp only [PyData.shown]; decide +kernel⟩
theorem num_len3 {n : Int} (h : 0 ≤ n) (h1 : n < 10 ^ 200) : (numT n).length ≤ 201 := by
  have e := PySem.int_text_length_le10 (a := n) (k := 200) (by decide) (by omega)
  show (Str.ofString (toString n)).length ≤ 201
  rw [PySem.ofString_length]; exact e
theorem fit_int {n : Int} (h : 0 ≤ n) (h1 : n < 10 ^ 200) : Fit 201 0 (.int n) := by
  have e : (PyData.int n).shown = numT n := by simp only [PyData.shown]; rfl
  refine ⟨by simp [PyData.canLay0], ?_, by simp [PyData.depth], by rw [e]; exact num_len3 h h1, fun c hc => ?_⟩
  · simp only [PyData.showable]
    exact decide_eq_true (log_small h (Int.lt_trans h1 (by decide)))
  · rw [e] at hc
    have := TX.num_digits (n := n) h c hc
    omega
theorem rc34 : ∀ c < 128, (PySem.Builtin.Str.reprChar 34 c).all (fun x => decide (x < 128)) = true := by decide +kernel
theorem rc39 : ∀ c < 128, (PySem.Builtin.Str.reprChar 39 c).all (fun x => decide (x < 128)) = true := by decide +kernel
theorem fold_asc {q : Nat} (hq : ∀ c < 128, (PySem.Builtin.Str.reprChar q c).all (fun x => decide (x < 128)) = true) : ∀ (l : List Nat) (acc : Array Nat), (∀ c ∈ acc.toList, c < 128) → (∀ c ∈ l, c < 128) → ∀ c ∈ (l.foldl (fun out c => out ++ (PySem.Builtin.Str.reprChar q c).toArray) acc).toList, c < 128
  | [], acc, h, _ => h
  | c :: l, acc, h, h2 => by
    rw [List.foldl_cons]
    refine fold_asc hq l _ (fun d hd => ?_) fun d hd => h2 d (List.mem_cons_of_mem _ hd)
    rw [Array.toList_append] at hd
    rcases List.mem_append.mp hd with z | z
    · exact h d z
    · have := List.all_eq_true.mp (hq c (h2 c List.mem_cons_self)) d (by simpa using z)
      exact of_decide_eq_true this
theorem repr_asc {x : Str} (h : ∀ c ∈ TX.cl x, c < 128) : ∀ c ∈ TX.cl (reprText x), c < 128 := fun c hc => by
  have hq : (∀ c < 128, (PySem.Builtin.Str.reprChar (reprQuote x) c).all (fun x => decide (x < 128)) = true) ∧ reprQuote x < 128 := by
    unfold reprQuote
    split
    · exact ⟨rc34, by decide⟩
    · exact ⟨rc39, by decide⟩
  have e : TX.cl (reprText x) = (x.cps.toList.foldl (fun out c => out ++ (PySem.Builtin.Str.reprChar (reprQuote x) c).toArray) #[reprQuote x]).toList ++ [reprQuote x] := by
    have e0 : x.cps.foldl (fun out c => out ++ (PySem.Builtin.Str.reprChar (reprQuote x) c).toArray) #[reprQuote x] = x.cps.toList.foldl (fun out c => out ++ (PySem.Builtin.Str.reprChar (reprQuote x) c).toArray) #[reprQuote x] := by
      rw [← Array.foldl_toList]
    unfold reprText TX.cl
    rw [e0]
    simp
  rw [e] at hc
  rcases List.mem_append.mp hc with z | z
  · refine fold_asc hq.1 _ _ (fun d hd => ?_) h c z
    have ed : d = reprQuote x := by simpa using hd
    rw [ed]
    exact hq.2
  · have ez : c = reprQuote x := List.mem_singleton.mp z
    rw [ez]; exact hq.2
theorem fit_str {x : Str} {n : Nat} (h : ∀ c ∈ TX.cl x, c < 128) (hn : x.length ≤ n) : Fit (10 * n + 2) 0 (.str x) := by
  have e : (PyData.str x).shown = reprText x := by simp only [PyData.shown]
  refine ⟨by simp only [PyData.canLay0]; exact ok_ascii h, by simp [PyData.showable], by simp [PyData.depth], ?_, fun c hc => repr_asc h c (by rw [← e]; exact hc)⟩
  rw [e]
  have := StrLaws.reprText_len x fun c hc => Nat.lt_trans (h c hc) (by decide)
  omega
theorem from_asc : ∀ (ts : List Str) (k : Nat) (acc : Str), (∀ c ∈ TX.cl acc, c < 128) → (∀ t ∈ ts, ∀ c ∈ TX.cl t, c < 128) → ∀ c ∈ TX.cl (textFrom k acc ts), c < 128
  | [], _, acc, h, _ => h
  | t :: ts, k, acc, h, h2 => by
    refine from_asc ts (k + 1) (acc ++ (if k > 0 then ", " else "" : String) ++ t) (fun c hc => ?_) fun u hu => h2 u (List.mem_cons_of_mem _ hu)
    rw [TX.cl_app, TX.cl_app] at hc
    rcases List.mem_append.mp hc with z | z
    · rcases List.mem_append.mp z with z | z
      · exact h c z
      · have e1 : ∀ c ∈ TX.cl (((", " : String)) : Str), c < 128 := by decide +kernel
        have e2 : ∀ c ∈ TX.cl ((("" : String)) : Str), c < 128 := by decide +kernel
        revert z
        split
        · exact e1 c
        · exact e2 c
    · exact h2 t List.mem_cons_self c z
theorem list_asc {ts : List Str} (h : ∀ t ∈ ts, ∀ c ∈ TX.cl t, c < 128) : ∀ c ∈ TX.cl (listText ts), c < 128 := fun c hc => by
  unfold listText at hc
  rw [TX.cl_app] at hc
  rcases List.mem_append.mp hc with z | z
  · refine from_asc ts 0 "[" ?_ h c z
    decide +kernel
  · revert c
    intro c _ z
    have : ∀ c ∈ TX.cl ("]" : Str), c < 128 := by decide +kernel
    exact this c z
theorem tup_asc {ts : List Str} (h : ∀ t ∈ ts, ∀ c ∈ TX.cl t, c < 128) : ∀ c ∈ TX.cl (tupleText ts), c < 128 := fun c hc => by
  unfold tupleText at hc
  rw [TX.cl_app, TX.cl_app] at hc
  rcases List.mem_append.mp hc with z | z
  · rcases List.mem_append.mp z with z | z
    · have : ∀ c ∈ TX.cl ("(" : Str), c < 128 := by decide +kernel
      exact this c z
    · rcases cl_join z with z | ⟨p, hp, z⟩
      · have : ∀ c ∈ TX.cl (", " : Str), c < 128 := by decide +kernel
        exact this c z
      · exact h p hp c z
  · have e1 : ∀ c ∈ TX.cl ((",)" : String) : Str), c < 128 := by decide +kernel
    have e2 : ∀ c ∈ TX.cl ((")" : String) : Str), c < 128 := by decide +kernel
    revert z
    split
    · exact e1 c
    · exact e2 c
theorem all_fit {n k : Nat} : ∀ {l : List D}, (∀ d ∈ l, Fit n k d) → PyData.canLayAll0 l = true ∧ PyData.showableAll l = true ∧ PyData.depthAll l ≤ k ∧ ((PyData.shownAll l).map (·.length)).sum ≤ l.length * n ∧ (PyData.shownAll l).length = l.length ∧ ∀ t ∈ PyData.shownAll l, ∀ c ∈ TX.cl t, c < 128
  | [], _ => ⟨by simp [PyData.canLayAll0], by simp [PyData.showableAll], by simp [PyData.depthAll], by simp [PyData.shownAll], by simp [PyData.shownAll], by simp [PyData.shownAll]⟩
  | d :: l, h => by
    obtain ⟨h1, h2, h3, h4, h5, h6⟩ := all_fit (l := l) fun x hx => h x (List.mem_cons_of_mem _ hx)
    have q := h d List.mem_cons_self
    refine ⟨by simp only [PyData.canLayAll0, q.lay, h1]; rfl, by simp only [PyData.showableAll, q.shw, h2]; rfl, ?_, ?_, ?_, ?_⟩
    · simp only [PyData.depthAll]
      have := q.dep
      omega
    · simp only [PyData.shownAll, List.map_cons, List.sum_cons, List.length_cons, Nat.succ_mul]
      have := q.len
      omega
    · simp only [PyData.shownAll, List.length_cons, h5]
    · simp only [PyData.shownAll]
      intro t ht
      rcases List.mem_cons.mp ht with rfl | ht
      · exact q.asc
      · exact h6 t ht
theorem fit_list {n k m : Nat} {l : List D} (h : ∀ d ∈ l, Fit n k d) (hm : l.length ≤ m) : Fit (m * (n + 2) + 3) (k + 1) (.list l) := by
  obtain ⟨h1, h2, h3, h4, h5, h6⟩ := all_fit h
  have e : (PyData.list l).shown = listText (PyData.shownAll l) := by simp only [PyData.shown]
  refine ⟨by simp only [PyData.canLay0]; exact h1, by simp only [PyData.showable]; exact h2, by simp only [PyData.depth]; omega, ?_, ?_⟩
  · rw [e]
    have a := listText_len_le (PyData.shownAll l)
    have b : l.length * (n + 2) ≤ m * (n + 2) := Nat.mul_le_mul_right _ hm
    rw [Nat.mul_add] at b
    omega
  · rw [e]; exact list_asc h6
theorem fit_tup {n k m : Nat} {l : List D} (h : ∀ d ∈ l, Fit n k d) (hm : l.length ≤ m) : Fit (m * (n + 2) + 3) (k + 1) (.tuple l) := by
  obtain ⟨h1, h2, h3, h4, h5, h6⟩ := all_fit h
  have e : (PyData.tuple l).shown = tupleText (PyData.shownAll l) := by simp only [PyData.shown]
  refine ⟨by simp only [PyData.canLay0]; exact h1, by simp only [PyData.showable]; exact h2, by simp only [PyData.depth]; omega, ?_, ?_⟩
  · rw [e]
    have a := tupleText_len_le (PyData.shownAll l)
    have b : l.length * (n + 2) ≤ m * (n + 2) := Nat.mul_le_mul_right _ hm
    rw [Nat.mul_add] at b
    omega
  · rw [e]; exact tup_asc h6
theorem shp_texts {ts : List Str} (h : ∀ t ∈ ts, ∀ c ∈ TX.cl t, c < 128) : shp (.list (ts.map .str)) = true := by
  obtain ⟨a, b⟩ := shp_parts (l := ts.map .str) (fun d hd => by
    obtain ⟨t, ht, rfl⟩ := List.mem_map.mp hd
    simp only [PyData.canLay0]
    exact ok_ascii (h t ht)) fun d hd => by
    obtain ⟨t, ht, rfl⟩ := List.mem_map.mp hd
    simp [PyData.depth]
  exact shp_of (by simp only [PyData.canLay0]; exact a) (by simp only [PyData.depth]; omega)
theorem eqv_texts : ∀ ts : List Str, PyData.eqv (.list (ts.map .str)) (.list (ts.map .str)) = true := fun ts => by
  show PyData.eqvAll (ts.map .str) (ts.map .str) = true
  induction ts with
  | nil => simp [PyData.eqvAll]
  | cons t ts ih =>
    show (decide (t = t) && PyData.eqvAll (ts.map .str) (ts.map .str)) = true
    rw [decide_eq_true rfl, ih]
    rfl
theorem eqv_text (t : Str) : PyData.eqv (.str t) (.str t) = true := decide_eq_true rfl
theorem lc_mapOf {α : Type} {vs : List Nat} {G : TDG} {Te : TD} {ρ : DS} {R : List D → DS → Prop} (l : List α) (e f : α → D) (hz : l.length < sizeLine) (hno : noOwn ρ vs)
    (step : ∀ p ∈ l, ∀ (W1 : D → Prop), W1 (f p) → G (e p) (wipeD ρ vs) fun ρ2 => Te ρ2 (fun y ρ4 => ρ4 = ρ2 ∧ W1 y)) (fin : R (l.map f) ρ) :
    (l.map e).length < sizeLine ∧ noOwn ρ vs ∧ ∃ W : Nat → List D → Prop, W 0 [] ∧
      (∀ i d acc, (l.map e)[i]? = some d → W i acc → G d (wipeD ρ vs) fun ρ2 => tYesD ρ2 fun c ρ3 => ρ3 = ρ2 ∧ if c = true then Te ρ3 (fun y ρ4 => ρ4 = ρ3 ∧ W (i + 1) (acc ++ [y])) else W (i + 1) acc) ∧
      ∀ acc, W (l.map e).length acc → R acc ρ := by
  refine ⟨by rw [List.length_map]; exact hz, hno, fun i acc => acc = (l.take i).map f, rfl, fun i d acc hi ea => ?_, fun acc ea => ?_⟩
  · rw [List.getElem?_map] at hi
    cases q : l[i]? with
    | none => rw [q] at hi; cases hi
    | some p =>
      rw [q] at hi
      cases hi
      have et : l.take (i + 1) = l.take i ++ [p] := by rw [List.take_add_one, q]; rfl
      have h := step p (List.mem_of_getElem? q) (fun y => acc ++ [y] = (l.take (i + 1)).map f) (by rw [et, List.map_append, ← ea]; rfl)
      unfold tYesD
      simp only [if_true, true_and]
      exact h
  · have e2 : acc = (l.take (l.map e).length).map f := ea
    rw [e2, List.length_map, List.take_length]
    exact fin
abbrev endsP (R : D → Prop) : DEnds := { nx := fun _ => R .none, rt := fun d _ => R d }
theorem lc_filterOf {α : Type} {vs : List Nat} {G : TDG} {Tt : TDT} {Te : TD} {ρ : DS} {R : List D → DS → Prop} (l : List α) (e f : α → D) (p : α → Bool) (hz : l.length < sizeLine) (hno : noOwn ρ vs)
    (step : ∀ x ∈ l, ∀ (W1 : D → Prop) (W0 : Prop), (p x = true → W1 (f x)) → (p x = false → W0) → G (e x) (wipeD ρ vs) fun ρ2 => Tt ρ2 fun c ρ3 => ρ3 = ρ2 ∧ if c = true then Te ρ3 (fun y ρ4 => ρ4 = ρ3 ∧ W1 y) else W0)
    (fin : R ((l.filter p).map f) ρ) :
    (l.map e).length < sizeLine ∧ noOwn ρ vs ∧ ∃ W : Nat → List D → Prop, W 0 [] ∧
      (∀ i d acc, (l.map e)[i]? = some d → W i acc → G d (wipeD ρ vs) fun ρ2 => Tt ρ2 fun c ρ3 => ρ3 = ρ2 ∧ if c = true then Te ρ3 (fun y ρ4 => ρ4 = ρ3 ∧ W (i + 1) (acc ++ [y])) else W (i + 1) acc) ∧
      ∀ acc, W (l.map e).length acc → R acc ρ := by
  refine ⟨by rw [List.length_map]; exact hz, hno, fun i acc => acc = ((l.take i).filter p).map f, rfl, fun i d acc hi ea => ?_, fun acc ea => ?_⟩
  · rw [List.getElem?_map] at hi
    cases q : l[i]? with
    | none => rw [q] at hi; cases hi
    | some x =>
      rw [q] at hi
      cases hi
      have et : l.take (i + 1) = l.take i ++ [x] := by rw [List.take_add_one, q]; rfl
      refine step x (List.mem_of_getElem? q) (fun y => acc ++ [y] = ((l.take (i + 1)).filter p).map f) (acc = ((l.take (i + 1)).filter p).map f) (fun h => ?_) (fun h => ?_)
      · rw [et, List.filter_append, List.filter_cons_of_pos h, List.map_append, ← ea]
        rfl
      · rw [et, List.filter_append, List.filter_cons_of_neg (by rw [h]; exact Bool.false_ne_true), ea]
        simp
  · have e2 : acc = ((l.take (l.map e).length).filter p).map f := ea
    rw [e2, List.length_map, List.take_length]
    exact fin
theorem mul_ok {i j : Int} (h1 : 0 ≤ i) (h2 : i < 10 ^ 100) (h3 : 0 ≤ j) (h4 : j < 10 ^ 100) : CMulW i j := by
  have a := log_small h1 (Int.lt_trans h2 (by decide))
  have b := log_small h3 (Int.lt_trans h4 (by decide))
  show i.natAbs.log2 + j.natAbs.log2 < 1000000
  omega
end FT

/-! sets of texts whose table can be walked; sorted(set(texts)). -/
namespace DM
open PySem PySem.Spec PyProof.Rows L2
abbrev TK (P : Program) (w : World) := PySem.strKind P w
def txtOf (e : Int × Value) : Str := match e.2 with | .str x _ => x | _ => Str.empty
def OkE (P : Program) (w : World) (e : Int × Value) : Prop := ∃ x tk, e.2 = Value.str x tk ∧ e.1 = (TK P w).hash x
/-- the set of texts at a: its members, their number; its table rises and is led -/
structure SetT (P : Program) (w : World) (h : Heap) (a : Addr) (S : Str → Bool) (n : Nat) (o : Obj) (es : Array (Int × Value)) (ep : Nat) (t : SetTable) : Prop where
  ob : h.get? a = some o
  ex : o.ExactSet
  dat : o.data = .set es ep t
  ok : ∀ e ∈ es.toList, OkE P w e
  nd : (es.toList.map txtOf).Nodup
  mem : ∀ x, S x = true ↔ x ∈ es.toList.map txtOf
  few : es.size < scanBound
  fit : t.fits es.size = true
  num : es.size = n
  ris : Ris t.place.toList
  led : w.params.followText "set-order" = true ∨ t.led = true
def SetS (P : Program) (w : World) (h : Heap) (a : Addr) (S : Str → Bool) (n : Nat) : Prop := ∃ o es ep t, SetT P w h a S n o es ep t
section
variable {P : Program} {w : World} {h h' : Heap} {a : Addr} {S : Str → Bool} {n : Nat}
theorem SetS.moved (R : SetS P w h a S n) (k : ∀ o, h.get? a = some o → h'.get? a = some o) : SetS P w h' a S n := by
  obtain ⟨o, es, ep, t, r⟩ := R
  exact ⟨o, es, ep, t, { r with ob := k o r.ob }⟩
theorem ok_elems {l : List (Int × Value)} (g : ∀ e ∈ l, OkE P w e) : ElemsOf (TK P w) l := fun e he => by
  obtain ⟨x, tk, h1, h2⟩ := g e he
  exact ⟨⟨x, by rw [h1]; exact strKind_is _ _ _ _, h2⟩, by rw [h1]; rfl⟩
theorem ok_is {e : Int × Value} (g : OkE P w e) (x : Str) : (TK P w).is x e.2 = true ↔ txtOf e = x := by
  obtain ⟨y, tk, h1, _⟩ := g
  unfold txtOf
  rw [h1]
  show ((y == x) = true) ↔ y = x
  exact beq_iff_eq
theorem ok_mem {l : List (Int × Value)} (g : ∀ e ∈ l, OkE P w e) (x : Str) : x ∈ l.map txtOf ↔ ∃ e ∈ l, (TK P w).is x e.2 = true := by
  rw [List.mem_map]
  exact ⟨fun ⟨e, he, q⟩ => ⟨e, he, (ok_is (g e he) x).mpr q⟩, fun ⟨e, he, q⟩ => ⟨e, he, (ok_is (g e he) x).mp q⟩⟩
end
section
variable {P : Program} {w : World} {A : Around} {E : Value → Shared → Prop} {s : Shared} {a : Addr} {S : Str → Bool} {n : Nat}
theorem stored {h : Heap} {o : Obj} {es es' : Array (Int × Value)} {ep : Nat} {t t' : SetTable} (ho : h.get? a = some o) (hd : o.data = .set es ep t) : (h.update a (Obj.putSet es' t')).get? a = some { o with data := .set es' (ep + 1) t' } := L2.store_at ho hd
theorem add_tail {g : Bool → Sem Unit} (hg : ∀ (b : Bool) (st : Shared) (Z : Unit → Shared → Prop), Z () st → wpAny (model P w) A (g b) Z E st) {o : Obj} {es : Array (Int × Value)} {ep : Nat} {t : SetTable} (ho : s.heap.get? a = some o) (hex : o.ExactSet) (hd : o.data = .set es ep t)
    {fs : Array (Int × Value)} {t2 : SetTable} {S' : Str → Bool} (g1 : ∀ e ∈ fs.toList, OkE P w e) (nd1 : (fs.toList.map txtOf).Nodup) (m1 : ∀ x, S' x = true ↔ x ∈ fs.toList.map txtOf) (hb1 : fs.size < scanBound) (hf2 : t2.fits fs.size = true) (hr : Ris t2.place.toList)
    (hl : w.params.followText "set-order" = true ∨ t2.led = true) {wasDummy : Bool} {R : Option Bool → Shared → Prop} (hR : ∀ hp, Heap.SameBut a s.heap hp → SetS P w hp a S' fs.size → R (some true) { s with heap := hp }) :
    wpAny (model P w) A (do
        storeSet a fs t2
        if (!wasDummy && t2.tooFull) = true then do
            g (relayAll t2 fs (SetTable.grown fs.size)).2.2
            storeSet a (relayAll t2 fs (SetTable.grown fs.size)).1 (relayAll t2 fs (SetTable.grown fs.size)).2.1
            pure (some true)
          else pure (some true)) R E s := by
  refine wpAny_bind (wpAny_storeSet_of ho hd (?_) (fits_of_scanBound hb1))
  have at1 := stored (es' := fs) (t' := t2) ho hd
  have sb := Heap.SameBut.update s.heap a (Obj.putSet fs t2)
  split
  · have p1 := relayAll_perm t2 fs (SetTable.grown fs.size) ; have p2 := relayAll_fits t2 fs (SetTable.grown fs.size)
    have p3 := relayAll_ris t2 fs (SetTable.grown fs.size) ; have p4 := relayAll_led t2 fs (SetTable.grown fs.size)
    generalize relayAll t2 fs (SetTable.grown fs.size) = Z at p1 p2 p3 p4 ⊢
    obtain ⟨gs, t3, gave⟩ := Z
    dsimp only at p1 p2 p3 p4 ⊢
    have sz : gs.size = fs.size := by rw [← Array.length_toList, p1.length_eq, Array.length_toList]
    have sb2 : gs.size < scanBound := by rw [sz]; exact hb1
    refine wpAny_bind (hg _ _ _ (wpAny_bind (wpAny_storeSet_of at1 rfl (?_) (fits_of_scanBound sb2))))
    have at2 := stored (es' := gs) (t' := t3) at1 rfl
    refine wpAny_pure (hR _ (sb.trans (Heap.SameBut.update _ a _)) ⟨_, gs, _, t3, at2, hex, rfl, fun e he => g1 e (p1.mem_iff.mp he), (p1.map txtOf).nodup_iff.mpr nd1, fun x => (m1 x).trans (p1.map txtOf).mem_iff.symm, sb2, p2, sz, p3, hl.imp id fun z => by rw [p4]; exact z⟩)
  · exact wpAny_pure (hR _ sb ⟨_, fs, _, t2, at1, hex, rfl, g1, nd1, m1, hb1, hf2, rfl, hr, hl⟩)
theorem gave_way : ∀ (b : Bool) (st : Shared) (Z : Unit → Shared → Prop), Z () st → wpAny (model P w) A (match b with | true => rule "set.scan.the-table-gave-way" | false => pure ()) Z E st := fun b st Z q => by
  cases b
  · exact wpAny_pure q
  · exact wpAny_rule q
theorem add_txt {x : Str} {tk : Tok} {Q : Bool → Shared → Prop} (R : SetS P w s.heap a S n) (room : n + 1 < scanBound)
    (hQ : ∀ hp, Heap.SameBut a s.heap hp → SetS P w hp a (fun y => S y || decide (y = x)) (if S x = true then n else n + 1) → Q (!S x) { s with heap := hp }) : wpAny (model P w) A (setAddHashed a (.str x tk) ((TK P w).hash x)) Q E s := by
  obtain ⟨o, es, ep, t, r⟩ := R
  have key : (TK P w).is x (.str x tk) = true := strKind_is _ _ _ _
  have scn : (Value.str x tk).scannable = true := rfl
  have el : ElemsOf (TK P w) es.toList := ok_elems r.ok
  unfold setAddHashed setAddHashedIn
  refine wpAny_holding (wpAny_bind (wpAny_setState_of r.ob r.dat r.fit (?_))) ; dsimp only
  rw [byScan_of scn r.few el] ; simp only [↓reduceIte]
  unfold setAddByScan
  refine wpAny_bind (wpAny_bind (wpAny_rule (wpAny_bind (wpAny_setScan_of key r.ob r.dat r.fit el (?_)))))
  cases hfi : List.findIdx? (fun e => (TK P w).is x e.2) es.toList with
  | some j =>
    dsimp only
    obtain ⟨hj, pj, _⟩ := List.findIdx?_eq_some_iff_getElem.mp hfi
    have Sx : S x = true := (r.mem x).mpr ((ok_mem (P := P) (w := w) r.ok x).mpr ⟨es.toList[j], List.getElem_mem hj, pj⟩)
    refine wpAny_pure (wpAny_pure (?_))
    have m2 : ∀ y, (S y || decide (y = x)) = true ↔ y ∈ es.toList.map txtOf := fun y => by
      rw [Bool.or_eq_true, decide_eq_true_eq, ← r.mem y]
      exact ⟨fun z => z.elim id (fun e => e ▸ Sx), .inl⟩
    have q := hQ s.heap (Heap.SameBut.refl a s.heap) ⟨o, es, ep, t, r.ob, r.ex, r.dat, r.ok, r.nd, m2, r.few, r.fit, by rw [if_pos Sx]; exact r.num, r.ris, r.led⟩
    rw [Sx] at q
    exact q
  | none =>
    dsimp only
    have nk : x ∉ es.toList.map txtOf := fun z => by
      obtain ⟨e, he, q⟩ := (ok_mem (P := P) (w := w) r.ok x).mp z
      have c := List.findIdx?_eq_none_iff.mp hfi e he
      rw [q] at c
      cases c
    have Sx : S x = false := by
      cases q : S x with
      | false => rfl
      | true => exact absurd ((r.mem x).mp q) nk
    have p1 := layNew_perm t es ((TK P w).hash x) (.str x tk) ; have p2 := layNew_fits t es ((TK P w).hash x) (.str x tk)
    have p3 := layNew_ris t es ((TK P w).hash x) (.str x tk) r.ris ; have p4 := layNew_led t es ((TK P w).hash x) (.str x tk)
    generalize layNew t es ((TK P w).hash x) (.str x tk) = Z at p1 p2 p3 p4 ⊢
    obtain ⟨fs, t1, wasDummy, gave⟩ := Z
    dsimp only at p1 p2 p3 p4 ⊢
    rw [Array.toList_push] at p1
    have pc : fs.toList.Perm (((TK P w).hash x, Value.str x tk) :: es.toList) := p1.trans (List.perm_append_singleton _ _)
    have pk : (fs.toList.map txtOf).Perm (x :: es.toList.map txtOf) := pc.map txtOf
    have g1 : ∀ e ∈ fs.toList, OkE P w e := fun e he => by
      rcases List.mem_cons.mp (pc.mem_iff.mp he) with z | z
      · rw [z]; exact ⟨x, tk, rfl, rfl⟩
      · exact r.ok e z
    have nd1 : (fs.toList.map txtOf).Nodup := pk.nodup_iff.mpr (List.nodup_cons.mpr ⟨nk, r.nd⟩)
    have m1 : ∀ y, (S y || decide (y = x)) = true ↔ y ∈ fs.toList.map txtOf := fun y => by
      rw [Bool.or_eq_true, decide_eq_true_eq, r.mem y, pk.mem_iff, List.mem_cons]
      exact Or.comm
    have sz : fs.size = n + 1 := by rw [← Array.length_toList, pc.length_eq, List.length_cons, Array.length_toList, r.num]
    have b1 : fs.size < scanBound := by rw [sz]; exact room
    have hled : w.params.followText "set-order" = true ∨ t1.led = true := r.led.imp id fun z => by rw [p4]; exact z
    have fin : ∀ hp, Heap.SameBut a s.heap hp → SetS P w hp a (fun y => S y || decide (y = x)) fs.size → Q true { s with heap := hp } := fun hp sb q => by
      have z := hQ hp sb
      rw [Sx] at z
      rw [sz] at q
      exact z q
    refine wpAny_bind (gave_way _ _ _ (?_))
    split
    · refine wpAny_bind (?_)
      rw [hashByValue_scannable 8 scn]
      refine wpAny_pure (add_tail (gave_way) r.ob r.ex r.dat g1 nd1 m1 b1 (?_) (?_) (?_) (?_))
      · first | (split <;> first | exact p2 | exact SetTable.fits_plain_off p2) | exact p2
      · first | (split <;> exact p3) | exact p3
      · first | (split <;> exact hled) | exact hled
      · intro hp sb q; dsimp only; exact wpAny_pure (fin hp sb q)
    · refine wpAny_bind (wpAny_pure (?_)) ; simp only [↓reduceIte]
      refine add_tail (gave_way) r.ob r.ex r.dat g1 nd1 m1 b1 p2 p3 hled (?_)
      intro hp sb q; dsimp only; exact wpAny_pure (fin hp sb q)
end
section
variable {prog : Program} {w : World} {A : Around} {R : Result → Shared → Prop} {It S : Addr} {fp wr : List Addr} {G : Array GenState → Array GenState → Prop} {m : Nat} {P : Nat → Value → Prop} {St : Nat → Shared → Prop}
theorem fill_txt (Wk : WalksS prog w A.in1 It fp wr G m P St) (off : S ∉ fp) (xs : List Str) (hm : xs.length = m) (hb : m + 1 < scanBound) (hv : ∀ i v, P i v → ∃ x tk, xs[i]? = some x ∧ v = .str x tk) : ∀ (k i : Nat) (cur : Shared), m - i = k → i ≤ m → St i cur →
      SetS prog w cur.heap S (fun y => decide (y ∈ onceT (xs.take i))) (onceT (xs.take i)).length → (∀ fin, Moved (S :: wr) G cur fin → SetS prog w fin.heap S (fun y => decide (y ∈ onceT xs)) (onceT xs).length → R (.ok (.ret .none)) fin) →
      codeAny (model prog w) A (.builtin "set.update.loop" ⟨[.ref S, .ref It], []⟩) R cur := by
  have offW : S ∉ wr := fun q => off (Wk.sub _ q)
  have up : ∀ b ∈ wr, b ∈ S :: wr := fun b q => List.mem_cons_of_mem _ q
  intro k
  induction k with
  | zero =>
    intro i cur hk hi hst hS hR
    have e : i = m := by omega
    subst e
    rw [← hm, List.take_length] at hS
    refine codeAny_builtin PyProof.Rows.F.entry_set_update_loop (?_)
    rw [Around.under_plainId PyProof.Rows.F.plain_set_update_loop _] ; show wpAny _ A.in1 (pyNext (.ref It) >>= _) _ _ cur
    refine wpAny_bind (Wk.done cur _ _ hst fun fin mv => ?_) ; show wpAny _ A.in1 (ret Value.none) _ _ fin
    exact wpAny_pure (hR fin (mv.mono up) (hS.moved fun o ho => mv.heap S _ offW ho))
  | succ k ih =>
    intro i cur hk hi hst hS hR
    have lt : i < m := by omega
    refine codeAny_builtin PyProof.Rows.F.entry_set_update_loop (?_)
    rw [Around.under_plainId PyProof.Rows.F.plain_set_update_loop _] ; show wpAny _ A.in1 (pyNext (.ref It) >>= _) _ _ cur
    refine wpAny_bind (Wk.item i cur _ _ lt hst fun v nxt hP hst' mv => ?_)
    obtain ⟨x, tk, hx, rfl⟩ := hv i v hP
    have hS' : SetS prog w nxt.heap S (fun y => decide (y ∈ onceT (xs.take i))) (onceT (xs.take i)).length := hS.moved fun o ho => mv.heap S _ offW ho
    show wpAny _ A.in1 (holding [Value.str x tk] (setAdd S (.str x tk)) >>= _) _ _ nxt
    refine wpAny_bind (wpAny_holding (?_)) ; unfold setAdd ; refine wpAny_holding (?_)
    refine wpAny_bind ((TK prog w).pyHash (k := x) (strKind_is _ _ _ _) ?_)
    have room : (onceT (xs.take i)).length + 1 < scanBound := by
      have h1 := once_len (xs.take i)
      rw [List.length_take] at h1
      omega
    refine add_txt (s := { nxt with toks := nxt.toks + 1 }) hS' room fun hp keep hS2 => ?_
    have hS3 : SetS prog w hp S (fun y => decide (y ∈ onceT (xs.take (i + 1)))) (onceT (xs.take (i + 1))).length := by
      have e1 : (fun y => decide (y ∈ onceT (xs.take i)) || decide (y = x)) = fun y => decide (y ∈ onceT (xs.take (i + 1))) := funext fun y => by
        rw [once_take hx, ← Bool.decide_or]
        exact decide_eq_decide.mpr (add_mem _ _ _).symm
      have e2 : (if (fun y => decide (y ∈ onceT (xs.take i))) x = true then (onceT (xs.take i)).length else (onceT (xs.take i)).length + 1) = (onceT (xs.take (i + 1))).length := by
        rw [once_take hx, add_len]
        by_cases q : x ∈ onceT (xs.take i)
        · rw [if_pos q, if_pos (decide_eq_true q)]
        · rw [if_neg q, if_neg (by show ¬ decide _ = true; rw [decide_eq_false q]; exact Bool.false_ne_true)]
      rw [← e1, ← e2]
      exact hS2
    refine wpAny_pure ⟨plainId_quiet PyProof.Rows.F.plain_set_update_loop _, ih (i + 1) _ (by omega) lt (Wk.frame _ nxt _ _ hst' (Nat.le_succ _) fun b hbf o e => ?_) hS3 fun fin mv' hSf => ?_⟩
    · rw [keep.2 b (fun q : b = S => off (q ▸ hbf))] ; exact e
    · refine hR fin (Moved.trans Wk.gtrans ((mv.mono up).then_heap (Nat.le_succ _) fun b o q e => ?_) mv') hSf
      rw [keep.2 b (fun z : b = S => q (z ▸ List.mem_cons_self))] ; exact e
theorem fresh_txt {h : Heap} {a : Addr} (ho : h.get? a = some (emptySet (!w.params.followText "set-order"))) : SetS prog w h a (fun y => decide (y ∈ onceT ([] : List Str))) 0 :=
  ⟨_, #[], 0, _, ho, ⟨rfl, rfl, rfl⟩, rfl, fun e he => by simp at he, by simp, fun y => by simp [onceT], by decide, by rfl, rfl, List.Pairwise.nil, by
    show _ ∨ (!w.params.followText "set-order") = true
    cases w.params.followText "set-order"
    · exact .inr rfl
    · exact .inl rfl⟩
end
section
variable {prog : Program} {w : World} {A : Around} {E : Value → Shared → Prop} {s : Shared}
/-- set(xs) of a list of texts, to be walked -/
theorem call_set_txts {l : Addr} {its : Array Value} {xs : List Str} {Q : Value → Shared → Prop} (calm : A.handled = none) (hl : s.heap.IsList l its) (hx : xs.length = its.size) (hv : ∀ (i : Nat) (v : Value), its[i]? = some v → ∃ x tk, xs[i]? = some x ∧ v = .str x tk)
    (hb : its.size + 1 < scanBound) (h : ∀ (hp : Heap) (tk : Nat), SetS prog w hp s.heap.objs.size (fun y => decide (y ∈ onceT xs)) (onceT xs).length → (∀ b o, b < s.heap.objs.size → s.heap.get? b = some o → hp.get? b = some o) → Q (.ref s.heap.objs.size) { s with heap := hp, toks := tk }) :
    wpAny (model prog w) A (call (.type "set") [.ref l]) Q E s := by
  obtain ⟨c, tl, mro⟩ := PySem.F.called_set.mro
  have made := PySem.F.called_set.made ; have sub := PySem.F.called_set.sub
  refine wpAny_call (codeAny_of_tree ?_) ; show wpAny _ _ (callAny (.type "set") _) _ _ _
  refine wpAny_pure ⟨Code.quiet_builtin _ (by decide +kernel), codeAny_builtin PySem.F.entry_type_call (?_)⟩
  rw [Around.under_plain (weight_type_call_type "set" [.ref l] []) rfl] ; have k1 := PySem.F.called_set.notType ; have k2 := PySem.F.called_set.canCreate ; have k3 := PySem.F.typeCall_set_1 (.ref l)
  repeat (any_goals (first | assumption | wp_step))
  refine codeAny_mono (code_set_led1 (.ref l) (E := E) (Q₁ := fun obj st => obj = .ref s.heap.objs.size ∧ st = { s with heap := s.heap.push (emptySet (!w.params.followText "set-order")) }) ⟨rfl, rfl⟩) fun r st hr => ?_
  cases r with
  | error e => exact hr
  | ok fl =>
    cases fl with
    | ret obj =>
      obtain ⟨rfl, rfl⟩ := hr
      generalize hled : (!w.params.followText "set-order") = led at *
      have at0 : (s.heap.push (emptySet led)).get? s.heap.objs.size = some (emptySet led) := Heap.get?_push_size _ rfl
      have ty : Shared.TypeIs { s with heap := s.heap.push (emptySet led) } (.ref s.heap.objs.size) "set" := ⟨_, at0, rfl⟩
      have k4 := PySem.F.called_set.init.lookup ; have k5 := PySem.F.called_set.init.bind (.ref s.heap.objs.size)
      repeat (any_goals (first | assumption | wp_step))
      refine codeAny_mono (codeAny_call_builtin (R := wants (fun r st2 => r = .none ∧ ∃ hp tk, st2 = { s with heap := hp, toks := tk } ∧ SetS prog w hp s.heap.objs.size (fun y => decide (y ∈ onceT xs)) (onceT xs).length ∧ (∀ b o, b < s.heap.objs.size → s.heap.get? b = some o → hp.get? b = some o)) E) PySem.F.called_set.init.plain PySem.F.entry_set_init (check_set_init_1 ty (?_))) fun r2 st2 hr2 => ?_
      · obtain ⟨ol, hol, hcl, nl, hdl⟩ := hl
        obtain ⟨ocls, odict, odata, oslots⟩ := ol
        simp only at hcl hdl ; subst hcl hdl
        have hol2 : (s.heap.push (emptySet led)).get? l = some { cls := .type "list", dict := odict, data := .seq its nl, slots := oslots } := Heap.get?_push_of_some _ hol
        have k6 := PySem.F.sub_list_set ; have k7 := PySem.F.sub_list_frozenset ; have k8 : (Value.type "list" == Value.type "dict") = false := by decide
        have il : (s.heap.push (emptySet led)).IsList l its := ⟨_, hol2, rfl, nl, rfl⟩
        unfold Builtin.«set.__init__» noKeywords Builtin.Frozenset.updateFrom ; generalize hIter : pyIter = iter0
        wp_walk
        subst hIter ; refine wpAny_pyIter_list il (wpAny_bind (wpAny_runValue (?_)))
        have lS : l < s.heap.objs.size := Heap.lt_size hol
        have cl3 : A.in1.in1.in1.handled = none := by simp [calm]
        have neI : l ≠ (s.heap.push (emptySet led)).objs.size := by rw [Heap.size_push] ; exact Nat.ne_of_lt (Nat.lt_succ_of_lt lS)
        have offS : s.heap.objs.size ∉ [(s.heap.push (emptySet led)).objs.size, l] := by
          rw [Heap.size_push] ; simp only [List.mem_cons, List.mem_singleton, List.not_mem_nil, or_false, not_or]
          exact ⟨Nat.ne_of_lt (Nat.lt_succ_self _), Nat.ne_of_gt lS⟩
        refine fill_txt ((Walks.list cl3 _ l neI its).toS) offS xs hx hb hv (its.size - 0) 0 _ (by omega) (Nat.zero_le _) ⟨⟨_, Heap.get?_push_size _ rfl, rfl, rfl⟩, (il.push _)⟩ ?start ?rest
        case start =>
          have got : ((s.heap.push (emptySet led)).push { cls := .type "list_iterator", data := .fields #[.ref l, .int 0 0] }).get? s.heap.objs.size = some (emptySet led) := Heap.get?_push_of_some _ at0
          exact fresh_txt (by rw [hled]; exact got)
        case rest =>
          intro fin mv hS
          obtain ⟨hp, gg, dd, tk, os⟩ := fin
          have eg : gg = s.gens := mv.gens ; have ed : dd = s.drawn := mv.drawn ; have eo : os = s.os := mv.os
          subst eg ed eo
          show wpAny _ _ _ _ _ _
          refine wpAny_pure (?_) ; show wpAny _ _ (ret Value.none) _ _ _
          refine wpAny_pure ⟨rfl, hp, tk, rfl, hS, fun b o lt e => ?_⟩
          have n1 : b ≠ s.heap.objs.size := Nat.ne_of_lt lt
          have n2 : b ≠ (s.heap.push (emptySet led)).objs.size := by rw [Heap.size_push] ; exact Nat.ne_of_lt (Nat.lt_succ_of_lt lt)
          refine mv.heap b o ?_ (Heap.get?_push_of_some _ (Heap.get?_push_of_some _ e))
          simp only [List.mem_cons, List.mem_singleton, List.not_mem_nil, or_false, not_or] ; exact ⟨n1, n2⟩
      · cases r2 with
        | error e => exact hr2
        | ok fl2 =>
          cases fl2 with
          | ret r =>
            obtain ⟨rfl, hp, tk, rfl, hS, hk⟩ := hr2
            repeat (any_goals (first | assumption | wp_step))
            exact h _ _ hS hk
          | _ => exact hr2.elim
    | _ => exact hr.elim
end
end DM

/-! sorted(set(texts)): each once, in order. -/
namespace DL
open PySem PySem.Spec PyProof.Rows L2 DM
section
variable {X : Cx} {pins : List (Addr × Obj)} {σ : L2.St} {H : Hp} {s : Shared}
theorem vals_txts : ∀ {us : List Value}, (∀ v ∈ us, ∃ x tk, v = Value.str x tk) → ∃ xs : List Str, Vals (xs.map V.str) us ∧ xs = us.map fun v => match v with | .str x _ => x | _ => Str.empty
  | [], _ => ⟨[], .nil, rfl⟩
  | v :: us, h => by
    obtain ⟨x, tk, rfl⟩ := h v List.mem_cons_self
    obtain ⟨xs, r, e⟩ := vals_txts fun u hu => h u (List.mem_cons_of_mem _ hu)
    exact ⟨x :: xs, .cons ⟨tk, rfl⟩ r, by rw [e]; rfl⟩
theorem txts_at : ∀ {ys : List Str} {us : List Value}, Vals (ys.map V.str) us → ∀ (i : Nat) (v : Value), us[i]? = some v → ∃ x tk, ys[i]? = some x ∧ v = .str x tk
  | [], _, .nil, i, v, h => by simp at h
  | y :: ys, _, .cons r t, 0, v, h => by
    obtain ⟨k, rfl⟩ := r
    simp only [List.getElem?_cons_zero, Option.some.injEq] at h
    exact ⟨y, k, rfl, h.symm⟩
  | y :: ys, _, .cons r t, i + 1, v, h => txts_at t i v (by simpa using h)
theorem txts_each {h : Heap} : ∀ {xs : List Str} {us : List Value}, Vals (xs.map V.str) us → PySem.W.EachIs (fun v k => ∃ as, Reads h v k as) us (xs.map PyData.str)
  | [], _, .nil => .nil
  | x :: xs, _, .cons r t => by
    obtain ⟨tk, rfl⟩ := r
    exact .cons ⟨_, Reads.str x tk⟩ (txts_each t)
variable [Tbs] [Bse]
/-- sorted of a set of texts -/
theorem set_sorted {Q : VK} {a : Addr} {S : Str → Bool} {n : Nat} (I : Inv X pins σ H s) (calm : X.A.handled = none) (hu : X.A.units + 2 < cLine) (R : SetS X.prog X.w s.heap a S n) (lay : ∀ x, S x = true → (PyData.str x).canLay0 = true)
    (q : ∀ (p : Addr) (xs : List Str) (ys : List V), H p = none → xs.Nodup → (∀ x, x ∈ xs ↔ S x = true) → xs.length = n → DpAll X.K H ys ((xs.map PyData.str).mergeSort (byRank (strRank (xs.map PyData.str)))) → Q (.ref p) (upd H p (.lst ys))) :
    wpAny (model X.prog X.w) X.A (call (.builtin "sorted") [.ref a]) (EP X pins σ Q) X.xe s := by
  obtain ⟨o, es, ep, t, r⟩ := R
  refine Calls.call_function_entry kind_sorted plain_sorted entry_sorted (args_sorted1 _) (?_)
  unfold Builtin.«sorted» ; refine wpAny_bind (m := checkCount "sorted" 1 1 _) (wpAny_pure (?_))
  refine wpAny_bind (collect_set (A := X.A.in1) calm ⟨o, r.ob, r.ex.1, r.dat⟩ r.fit r.few r.ris r.led fun s1 vs k1 z1 g1 o1 pm => ?_)
  have num : vs.length = n := by rw [pm.length_eq, List.length_map, Array.length_toList]; exact r.num
  have small : vs.length ≤ sizeLine := by rw [num, ← r.num]; exact fits_of_scanBound r.few
  obtain ⟨xs, rv, exs⟩ := vals_txts (us := vs) fun v hv => by
    obtain ⟨e, he, q1⟩ := List.mem_map.mp (pm.mem_iff.mp hv)
    obtain ⟨x, tk, h1, _⟩ := r.ok e he
    exact ⟨x, tk, by rw [← q1]; exact h1⟩
  have px : xs.Perm (es.toList.map txtOf) := by
    rw [exs]
    have z := pm.map fun v : Value => match v with | .str x _ => x | _ => Str.empty
    rw [List.map_map] at z
    exact z
  have mem : ∀ x, x ∈ xs ↔ S x = true := fun x => px.mem_iff.trans (r.mem x).symm
  have nd : xs.Nodup := px.nodup_iff.mpr r.nd
  refine wpAny_bind (wpAny_newList (?_) (by exact small))
  have at1 : (s1.heap.push (seqObj "list" vs.toArray 0)).get? s1.heap.objs.size = some (seqObj "list" vs.toArray 0) := Heap.get?_push_size _ rfl
  have es1 : s1 = { s with heap := s1.heap, gens := s1.gens, drawn := s1.drawn, toks := s1.toks } := by
    cases s1 ; cases s ; cases o1 ; rfl
  have hn : H s1.heap.objs.size = none := I.hok.fresh z1
  refine wpAny_bind (wpAny_holding (wpAny_call_entry slot_list_sort ⟨_, at1, rfl⟩ entry_list_sort (?_) (args_list_sort _)))
  have dv : DpAll X.K H (xs.map V.str) (xs.map PyData.str) := dpa_strs xs
  have lays : ∀ x ∈ xs, (PyData.str x).canLay0 = true := fun x hx => lay x ((mem x).mp hx)
  have hal := ranked_strs lays
  let hp := s1.heap.push (seqObj "list" vs.toArray 0)
  let hS := PySem.W.sortingHeap hp s1.heap.objs.size vs
  have hrd : PySem.W.EachIs (fun v k => ∃ as, Reads hS v k as) vs (xs.map PyData.str) := txts_each rv
  refine PySem.W.list_sort_vals (κ := rankKind hS (xs.map PyData.str) (strRank (xs.map PyData.str))) (s := { s1 with heap := hp }) at1 (ranked_sorts (s := { s1 with heap := hS }) hrd hal (kinded_strs xs) (fun d hd => ?_)) small ⟨_, rfl, wpAny_pure ⟨_, rfl, ?_⟩⟩
  · obtain ⟨x, _, rfl⟩ := List.mem_map.mp hd
    show X.A.units + 1 + 1 + 0 < cLine
    omega
  have hkz : PySem.W.EachIs (fun v d => (rankKind hS (xs.map PyData.str) (strRank (xs.map PyData.str))).keyOf v = some (strRank (xs.map PyData.str) d)) vs (xs.map PyData.str) := (PySem.W.each_mem hrd).mono fun v d ⟨⟨as, z⟩, hm⟩ => rankKind_some hal hm z
  have each := PySem.W.sortVals_each (rev := false) (κ := rankKind hS (xs.map PyData.str) (strRank (xs.map PyData.str))) (strRank (xs.map PyData.str)) (each_in (F := H) rv dv) hkz
  have e5 : PySem.W.sortLe (rankKind hS (xs.map PyData.str) (strRank (xs.map PyData.str))).toKeyOrd false (strRank (xs.map PyData.str)) = byRank (strRank (xs.map PyData.str)) := sortLe_rank _
  rw [e5] at each
  obtain ⟨ys, ry, dy⟩ := out_vals (h := s.heap) each
  obtain ⟨c, hout⟩ := sortedHeap_at (vs := vs) (out := (PySem.W.sortVals (rankKind hS (xs.map PyData.str) (strRank (xs.map PyData.str))) false vs vs).toArray) at1
  have kp : ∀ b u, s.heap.get? b = some u → (sortedHeap hp s1.heap.objs.size vs (PySem.W.sortVals (rankKind hS (xs.map PyData.str) (strRank (xs.map PyData.str))) false vs vs).toArray).get? b = some u := fun b u e => by
    have lt := Heap.lt_size (k1 b u e)
    rw [sortedHeap_old (Nat.ne_of_lt lt) (Nat.lt_trans lt (Heap.lt_size at1))]
    exact Heap.get?_push_of_some _ (k1 b u e)
  have len : ys.length ≤ sizeLine := by
    rw [dpa_len dy, List.length_mergeSort, List.length_map]
    have : xs.length = vs.length := by rw [← rv.length, List.length_map]
    omega
  have J : Inv X pins σ (upd H s1.heap.objs.size (.lst ys)) { s1 with heap := sortedHeap hp s1.heap.objs.size vs (PySem.W.sortVals (rankKind hS (xs.map PyData.str) (strRank (xs.map PyData.str))) false vs vs).toArray } :=
    I.call' (ch := []) o1 (Un.laid kp z1 hn) (I.hok.laid kp z1 ⟨len, _, c, ry, hout⟩) (by show AllBare s1.gens; rw [g1]; exact I.bare) (fun _ z => nomatch z)
  exact ⟨.ref s1.heap.objs.size, _, J, rfl, q _ xs ys hn nd mem (by rw [← num, ← rv.length, List.length_map]) dy⟩
end
/-- sorted(set(xs)) of a list of texts -/
def tSortSet (K : PySem.W.Frag) (ta : TE) : TE := fun σ H Q => ta σ H fun x H1 => ∃ l, ∃ xs : List Str, x = .ref l ∧ SqL K H1 l (xs.map V.str) ∧ xs.length ≤ 4000 ∧ (∀ x ∈ xs, (PyData.str x).canLay0 = true) ∧
  ∀ (p : Addr) (zs : List Str) (ys : List V), H1 p = none → zs.Nodup → (∀ z, z ∈ zs ↔ z ∈ xs) → DpAll K H1 ys ((zs.map PyData.str).mergeSort (byRank (strRank (zs.map PyData.str)))) → Q (.ref p) (upd H1 p (.lst ys))
section
variable {X : Cx} [Tbs] [Bse]
theorem pe_sortSet {a : Expr} {ta : TE} {k : Nat} {p p2 q pos : Pos} (hc : X.calm = true) (hr : Room k X.A) (hg : Gl X "sorted") (hm : X.mg "sorted" = none) (hg2 : Gl X "set") (hm2 : X.mg "set" = none) (ha : PE X a ta) (na : starEach [a] X.env = (false, eval a X.env) :: starEach [] X.env := by rfl) :
    PE X (.Call (.Name "sorted" p) [.Call (.Name "set" p2) [a] [] q] [] pos) (tSortSet X.K ta) := ⟨fun pins s σ H Q I h => by
  refine Call_ (ld_blt I hg hm boot_sorted (?_)) ; refine PyProof.Rows.callWith_builtin1 (PyProof.Rows.args_cons (?_) rfl) rfl rfl
  refine Call_ (ld_blt I hg2 hm2 boot_set (?_))
  refine PyProof.Rows.callWith_type1 (PyProof.Rows.args_cons (thn (ha.run pins s σ H _ I h) fun v s1 ⟨x, H1, I1, r1, z⟩ => PyProof.Rows.args_nil (?_)) na) na rfl
  obtain ⟨l, xs, rfl, hq, h1, lay, z⟩ := z
  cases r1
  obtain ⟨its, r, pl, hz⟩ := I1.list hq
  have len : xs.length = its.toArray.size := by rw [List.size_toArray, ← r.length, List.length_map]
  have vt : ∀ (i : Nat) (v : Value), its.toArray[i]? = some v → ∃ x tk, xs[i]? = some x ∧ v = .str x tk := fun i v e => txts_at r i v (by simpa using e)
  refine call_set_txts (xs := xs) (I1.ok.hd hc) pl.isList len vt (by rw [← len]; unfold scanBound; omega) fun hp tk hS hk => ?_
  refine PyProof.Rows.args_nil (?_)
  have I2 : Inv X pins σ H1 { s1 with heap := hp, toks := tk } := I1.kept fun b o e => hk b o (Heap.lt_size e) e
  refine set_sorted I2 (I2.ok.hd hc) (by have := hr.un; omega) hS (fun x hx => lay x ((once_mem xs x).mp (of_decide_eq_true hx))) fun p zs ys hn nd mem num dy => ?_
  exact z p zs ys hn nd (fun w => (mem w).trans ⟨fun q => (once_mem xs w).mp (of_decide_eq_true q), fun q => decide_eq_true ((once_mem xs w).mpr q)⟩) dy⟩
def lSortSet (T : TD) : TDA := fun ρ R => T ρ fun d ρ' => ∃ xs : List Str, d = .list (xs.map .str) ∧ xs.length ≤ 4000 ∧ (∀ x ∈ xs, (PyData.str x).canLay0 = true) ∧ ∀ zs : List Str, zs.Nodup → (∀ z, z ∈ zs ↔ z ∈ xs) → R ((zs.map PyData.str).mergeSort (byRank (strRank (zs.map PyData.str)))) ρ'
theorem dl_sortSet {a : Expr} {T : TD} {k : Nat} {p p2 q pos : Pos} (hc : X.calm = true) (hr : Room k X.A) (hg : Gl X "sorted") (hm : X.mg "sorted" = none) (hg2 : Gl X "set") (hm2 : X.mg "set" = none) (ha : DB X a T) (na : starEach [a] X.env = (false, eval a X.env) :: starEach [] X.env := by rfl) :
    DLs X (.Call (.Name "sorted" p) [.Call (.Name "set" p2) [a] [] q] [] pos) (lSortSet T) := PE.weak (pe_sortSet hc hr hg hm hg2 hm2 ha na) fun σ H Q ⟨b, f, ρ, R, S, t, qq⟩ => ⟨b, f, ρ, _, S, t, fun d ρ' v f' H' ⟨xs, hd, hl, lay, r⟩ S' n bo => by
    subst hd
    obtain ⟨l, vs, rfl, hq, dv⟩ := bo.lst S'.fs
    rw [strs_v dv] at hq
    refine ⟨l, xs, rfl, hq, hl, lay, fun p zs ys hp nd mem dy => ?_⟩
    have dy2 : DpAll X.K f'.F ys ((zs.map PyData.str).mergeSort (byRank (strRank (zs.map PyData.str)))) := by
      have : ∀ (ys : List V) (es : List D), (∀ e ∈ es, ∃ x, e = PyData.str x) → DpAll X.K H' ys es → DpAll X.K f'.F ys es := fun ys es => by
        induction es generalizing ys with
        | nil => intro _ h; cases h; exact .nil
        | cons e es ih =>
          intro he h
          cases h with
          | cons h1 h2 =>
            obtain ⟨x, rfl⟩ := he e List.mem_cons_self
            cases h1
            exact .cons (.str x) (ih _ (fun y hy => he y (List.mem_cons_of_mem _ hy)) h2)
      refine this ys _ (fun e he => ?_) dy
      obtain ⟨x, _, e1⟩ := List.mem_map.mp ((List.mergeSort_perm _ _).mem_iff.mp he)
      exact ⟨x, e1.symm⟩
    obtain ⟨S2, O2, n2⟩ := Own.new S' hp dy2
    exact qq _ ρ' p f' _ (r zs nd mem) S2 (n.trans S.pots n2) O2⟩
end
end DL

/-! exceptions of the program: a base class of the program names the builtin's __init__ -/
namespace DL
open PySem PySem.Spec PyProof.Rows L2
section
variable {X : Cx} {e : Expr} {es : List Expr} {ta : TA} {p1 p2 pos : Pos} {B : Addr} {x : Str} {mc : Value}
theorem pe_binit {pl : Sem Bool} (hg : Gl X x) (hm : X.mg x = some (.ref B)) (hdb : (x == ("__debug__" : Str)) = false) (hsp : PySem.W.specialIn X.K (.ref B) "__getattribute__" = some (some (.builtin "type.__getattribute__"))) (ht : PySem.W.typeIn X.K (.ref B) = some mc) (hr : PySem.W.readsIn X.K B mc = true)
    (hf : PySem.W.findCls X.K (.ref B) mc "__init__" = some (.val (.builtin "ValueError.__init__"))) (ha : PA X (e :: es) ta)
    (hc : eval (.Call (.Attribute (.Name x p1) "__init__" p2) (e :: es) [] pos) X.env = (do
      let who ← eval (.Name x p1) X.env
      standAt p2.atName
      let (g, me) ← holding [who] (getMethod who "__init__" pl)
      callWith pos g me (backTo pos (starEach (e :: es) X.env)) (backToKw pos (keywordEach [] X.env))) := by rfl)
    (hs : starEach (e :: es) X.env = (false, eval e X.env) :: starEach es X.env := by rfl) (hpl : (backTo pos (starEach es X.env)).any (·.1) = false := by rfl) :
    PE X (.Call (.Attribute (.Name x p1) "__init__" p2) (e :: es) [] pos) (tVeI X.K ta) := by
  refine ⟨fun pins s σ H Q I h => ?_⟩
  refine PySem.W.methodCall_KW (ld_glob (hd := hdb) I hg hm ?_) hc
  obtain ⟨m, fr⟩ := I.fr
  refine PySem.W.method_of_cls fr I.ok.mod.kin hsp (PySem.W.cls_val fr I.ok.mod.kin ht hr hf (by decide +kernel) ?_)
  refine PyProof.Rows.callWith_method1 (thn (ha.run pos pins _ σ H _ (I.tok _) h) fun us t ⟨vs, H1, J, r1, a, C, ws, ev, hl, T, ea, q⟩ => ?_) hs hpl
  subst ev
  cases r1 with
  | @cons _ u _ ur ru rs =>
    have eu : u = Value.ref a := ru
    subst eu
    exact oinit_ok T J ea (by rw [sizeLine_eq, ← Paired.length rs]; omega) fun s' L => ⟨.non, H1, L, rfl, q⟩
end
/-! ### what an exception of the program is: its class, its fields -/
abbrev ConX := List D → (D → Prop) → (Value → List (Str × D) → Prop) → Prop
variable [Tbs]
/-- a def that may raise: R of what it returns, S of class and fields of what it raises -/
def spX (K : PySem.W.Frag) (c : ConX) : Sp := fun vs H Q E => ∃ F ds R S, Tf F H ∧ Same F H ∧ DpAll K F vs ds ∧ c ds R S ∧ (∀ d v F' H', R d → Gr F H F' H' → Dp K F' v d → Q v H') ∧
  ∀ cls kvs d F' H', S cls kvs → Gr F H F' H' → XdO K F' kvs d → E cls d H'
/-- __init__ of an exception class with one field -/
def spIni (C : Addr) (fld : Str) : Sp := fun vs H Q _ => ∃ a v, vs = [.ref a, v] ∧ H a = some (exo a C none) ∧ ∀ dx, H dx = none → dx ≠ a → Q .non (upd (upd H dx (exd dx [(fld, v)])) a (exo a C (some dx)))
theorem xd_ntbl {fs : List (Str × V)} : Fzn (HO.xd fs) := True.intro
section
variable [Bse] {X : Cx} {e : Expr} {T : TD} {p pos pos' : Pos} {C fI : Addr} {x fld : Str} {k : Nat} {fd : FuncData} {ps : List Str}
def sRaise (cls : Value) (fld : Str) (T : TD) : TDS := fun _ ρ => T ρ fun d ρ' => Bse.XR cls [(fld, d)] ρ'
theorem ds_raise (hcalm : X.calm = true) (tk : Takes X Bse.W) (O : OexC X.K C) (iC : PySem.W.findIn X.K (.ref C) "__init__" = some (some (.ref fI))) (tI : PySem.W.typeIn X.K (.ref fI) = some (.type "function"))
    (F1 : FnOk X.prog X.w X.K X.mg X.base CX0 k fI fd ps (spIni C fld)) (hr : Room (k + 1) X.A) (hb : Binds X.K fd ps []) (hg : Gl X x) (hm : X.mg x = some (.ref C)) (he : DE X e T)
    (hdb : (x == ("__debug__" : Str)) = false := by decide) (hs : starEach [e] X.env = (false, eval e X.env) :: starEach [] X.env := by rfl) (hpl : (backTo pos (starEach [] X.env)).any (·.1) = false := by rfl) :
    DSt X (.Raise (some (.Call (.Name x p) [e] [] pos)) none pos') (sRaise (.ref C) fld T) :=
  PS.weak (ps_raise hcalm tk (pmk_oex (dvs := []) O iC tI F1 hr hb .nil pass0 hg hm (pa_cons he pa_nil hs) hdb hs hpl)) fun D σ H ⟨b, f, ρ, E, S, t, _⟩ =>
    ⟨b, f, ρ, _, S, t, fun d ρ1 v f1 H1 r S1 n1 dp => ⟨Nat.le_of_ble_eq_true rfl, fun a ha => ⟨a, v, rfl, upd_same, fun dx hdx ne => by
      have hd1 : H1 dx = none := by rw [upd_ne ne] at hdx; exact hdx
      refine ⟨rfl, dx, [(fld, v)], upd_same, by rw [upd_ne ne, upd_same], hd1, ?_⟩
      have eH : upd (del (upd (upd (upd H1 a (exo a C none)) dx (exd dx [(fld, v)])) a (exo a C (some dx))) a) dx (.xd [(fld, v)]) = upd H1 dx (.xd [(fld, v)]) := by
        funext c
        by_cases h1 : c = dx
        · rw [h1, upd_same, upd_same]
        · rw [upd_ne h1, upd_ne h1]
          by_cases h2 : c = a
          · rw [h2, del_same, ha]
          · rw [del_ne h2, upd_ne h2, upd_ne h1, upd_ne h2]
      rw [eH]
      have g : Gr f1.F H1 (upd f1.F dx (.xd [(fld, v)])) (upd H1 dx (.xd [(fld, v)])) := Gr.new S1.fs hd1 xd_ntbl
      exact b.2 _ _ ρ1 σ ⟨upd f1.F dx (.xd [(fld, v)]), f1.P⟩ _ (some dx) r (S1.grow g) ⟨fun z => (by cases z), [(fld, v)], upd_same, .cons (dp_mono g.ff d v dp) .nil⟩⟩⟩⟩
end
/-! ### a def that may raise -/
section
variable {P : Program} {w : World} {K : PySem.W.Frag} {mg : Str → Option Value} {base : Heap} {x qual : Str} {st : Stmt} {f : Addr} {fd : FuncData} {N ps : List Str} {k : Nat} {c : ConX} {T : Bse → TDS}
abbrev BodyX (P : Program) (w : World) (K : PySem.W.Frag) (mg : Str → Option Value) (base : Heap) (N : List Str) (qual : Str) (st : Stmt) (f : Addr) (k : Nat) (T : Bse → TDS) : Prop :=
  ∀ [B : Bse] (cdv : Value) (A : Around) (outer : List Env) (s : Shared) (H : Hp) (E : XK), Room k (A.deeper (envOfC qual (defScope st) s.heap.objs.size f cdv)) → (A.deeper (envOfC qual (defScope st) s.heap.objs.size f cdv)).guards = some [] →
    Takes (cxOf (L2.CX P w) P w K mg base N qual (defScope st) f cdv A outer s H E) B.W → DSs (cxOf (L2.CX P w) P w K mg base N qual (defScope st) f cdv A outer s H E) (defBody st) (T B)
theorem ok_X (F : Fun K x qual st f fd) (S : FnScope N ps (defScope st)) (hN : ps.length ≤ N.length) (hl : ∀ ds R Z, c ds R Z → ds.length = ps.length) (hb : BodyX P w K mg base N qual st f k T)
    (hq : ∀ ds R Z W, c ds R Z → T ⟨W, fun cls kvs _ => Z cls kvs⟩ (endsD R) (dstart ds N.length)) : FnG P w K mg base (L2.CX P w) (k + 1) f fd ps (spX K c) := by
  obtain ⟨oc, od, kV, doc, pm, an, cdv, ct, osl, rfl, lk, hcd⟩ := F.ex
  refine fnG_of lk hcd S (fun vs H Q E ⟨F0, ds, R, Z, _, _, h, hc, _⟩ => by rw [dpa_len h]; exact hl ds R Z hc) fun A outer s H vs Q E hr hgd ⟨F0, ds, R, Z, ht, hs, h, hc, q, qx⟩ => ?_
  let B : Bse := ⟨fun cls d _ H' => E cls d H', fun cls kvs _ => Z cls kvs⟩
  have lw : @ExL _ B K ⟨H, F0, []⟩ := fun cls kvs ρ σ f' H' d xr S' e => qx cls kvs d f'.F H' xr S'.gr e
  refine ⟨_, @hb B cdv A outer s H E hr hgd (takes_of rfl rfl rfl rfl), ⟨⟨H, F0, []⟩, lw⟩, ⟨F0, []⟩, _, endsD R, Sim.begin ht hs h (by rw [dpa_len h, hl ds R Z hc]; exact hN), hq ds R Z _ hc, ⟨?_, ?_, ?_, ?_, ?_⟩⟩
  · exact fun ρ σ f' H' r S' => q .none .non f'.F H' r S'.gr .non
  · exact fun d ρ v σ f' H' r S' dp => q d v f'.F H' r S'.gr dp
  · exact fun _ _ _ _ r _ => r.elim
  · exact fun _ _ _ _ r _ => r.elim
  · intro es ρ p σ f' H' r S' O
    obtain ⟨F', g, dp⟩ := O.froze S'
    exact q _ _ F' H' r g dp
end
/-! ### its call -/
theorem runX {X : Cx} {W : WX} {k : Nat} {f : Addr} {fd : FuncData} {ps : List Str} {sp : Sp} {pins : List (Addr × Obj)} {σ : L2.St} {H : Hp} {s : Shared} {Q : VK} {args : Args} {us : List Value} {vs : List V} (F : FnG X.prog X.w X.K X.mg X.base (L2.CX X.prog X.w) k f fd ps sp) (hr : Room k X.A) (hgd : X.A.guards = some []) (tk : Takes X W) (I : Inv X pins σ H s)
    (hb : us.length = ps.length → BindsTo s fd args (ps.zip us)) (r : Vals vs us) (h : sp vs H Q fun cls d H' => W cls d σ H') : codeAny (model X.prog X.w) X.A (.call (.ref f) args) (fun r s' => match r with | .ok (.ret u) => EP X pins σ Q u s' | .ok _ => False | .error e => X.xe e s') s := by
  have hl : us.length = ps.length := by rw [← r.length]; exact F.ln _ _ _ _ h
  refine codeAny_mono (F.go X.A X.stack s H args us vs Q _ hr hgd I.env0 (hb hl) r h) fun r s' hq => ?_
  cases r with
  | error e => exact tk _ _ (XE.of_call I (fun _ _ _ z => z) hq)
  | ok fl =>
    cases fl with
    | ret u => exact I.after hq
    | next => exact hq.elim
    | brk => exact hq.elim
    | cont => exact hq.elim
/-- a def of the top that may raise, by its name -/
structure CalX (P : Program) (w : World) (K : PySem.W.Frag) (mg : Str → Option Value) (base : Heap) (k : Nat) (x : Str) (st : Stmt) (ps : List Str) (sp : Sp) : Prop where
  ex : ∃ (f : Addr) (fd : FuncData), FnG P w K mg base (L2.CX P w) k f fd ps sp ∧ mg x = some (.ref f) ∧ PySem.W.keepIn K (.ref f) = true ∧
    ∃ (kV doc pm : Value) (an : Option Addr) (cdv ct : Value), fd = PySem.W.fnOf x x (defArgs st) (defBody st) (defScope st) .none kV doc pm an cdv ct
theorem CalX.mono {P : Program} {w : World} {K : PySem.W.Frag} {mg : Str → Option Value} {base : Heap} {j k : Nat} {x : Str} {st : Stmt} {ps : List Str} {sp : Sp} (c : CalX P w K mg base j x st ps sp) (h : j ≤ k) : CalX P w K mg base k x st ps sp := by
  obtain ⟨f, fd, F, q⟩ := c.ex
  exact ⟨f, fd, F.mono h, q⟩
theorem CalX.of {P : Program} {w : World} {K : PySem.W.Frag} {mg : Str → Option Value} {base : Heap} {k : Nat} {x : Str} {st : Stmt} {ps : List Str} {sp : Sp} {f : Addr} {fd : FuncData} (F : Fun K x x st f fd) (m : mg x = some (.ref f)) (G : FnG P w K mg base (L2.CX P w) k f fd ps sp) : CalX P w K mg base k x st ps sp := by
  obtain ⟨oc, od, kV, doc, pm, an, cdv, ct, osl, e, _, _⟩ := F.ex
  exact ⟨f, fd, G, m, F.kp, kV, doc, pm, an, cdv, ct, e⟩
def tCallX (W : WX) (sp : Sp) (t : TA) : TE := fun σ H Q => t σ H fun vs H1 => sp vs H1 Q fun cls d H' => W cls d σ H'
section
variable [Bse] {X : Cx} {j k : Nat} {x : Str} {st : Stmt} {ps ks : List Str} {ix : List Nat} {sp : Sp} {p pos : Pos} {e : Expr} {es : List Expr} {kws : List Keyword} {t tq : TA} {W : WX} {c : ConX} {Tr Tk : TDA}
theorem pe_cx (cx : CalX X.prog X.w X.K X.mg X.base k x st ps sp) (hr : Room j X.A) (hgd : X.A.guards = some []) (hk : k ≤ j) (tk : Takes X W) (hg : Gl X x) (hb : BindP x st ps ps.length) (ha : PA X (e :: es) t)
    (hdb : (x == ("__debug__" : Str)) = false := by decide) (he : starEach (e :: es) X.env = (false, eval e X.env) :: starEach es X.env := by rfl) (hpl : (backTo pos (starEach es X.env)).any (·.1) = false := by rfl) :
    PE X (.Call (.Name x p) (e :: es) [] pos) (tCallX W sp t) := by
  obtain ⟨f, fd, F, hm, kp, kV, doc, pm, an, cdv, ct, rfl⟩ := cx.ex
  refine ⟨fun pins s σ H Q I h => wpAny_Call_Name_kw (ld_glob I hg hm ?_ hdb)⟩
  refine PySem.W.callWith_K (h₀ := X.base) I.ok.mod.kin kp (thn (ha.run pos pins s σ H _ I h) fun us s1 ⟨vs, H1, I1, r, q⟩ => ⟨I1.kIn, ?_⟩) he hpl
  exact wpAny_call (runX F (hr.mono hk) hgd tk I1 (fun hl => .of_eq (hb kV doc pm an cdv ct us hl)) r q)
/-- a call that may raise: what it raises is told to XR -/
def dFnX (c : ConX) (T : TDA) : TD := fun ρ R => T ρ fun ds ρ' => c ds (fun d => R d ρ') fun cls kvs => Bse.XR cls kvs ρ'
theorem de_fnX (h : ∀ t, PA X (e :: es) t → PE X (.Call (.Name x p) (e :: es) [] pos) (tCallX Bse.W (spX X.K c) t)) (ha : DA X (e :: es) Tr) : DE X (.Call (.Name x p) (e :: es) [] pos) (dFnX c Tr) :=
  PE.weak (h _ ha) fun σ H Q ⟨b, f, ρ, R, S, t, q⟩ => ⟨b, f, ρ, _, S, t, fun ds ρ1 vs f1 H1 r1 S1 n1 dps =>
    ⟨f1.F, ds, _, _, S1.tb, S1.fs, dps, r1, fun d v F' H' rd g dp => q d ρ1 v ⟨F', f1.P⟩ H' rd (S1.grow g) (n1.trans S.pots (Nx.of_gr g)) dp,
      fun cls kvs d F' H' sx g xo => b.2 cls kvs ρ1 σ ⟨F', f1.P⟩ H' d sx (S1.grow g) xo⟩⟩
end
end DL

/-! try .. except C as e: the exception in its slot -/
namespace DL
open PySem PySem.Spec PyProof.Rows L2
variable [Tbs]
theorem pss_ex {ι : Type} {X : Cx} {ss : List Stmt} {t : ι → TS} (h : ∀ i, PSs X ss (t i)) : PSs X ss fun D σ H => ∃ i, t i D σ H := ⟨fun pins s σ H D I ⟨i, q⟩ => (h i).run pins s σ H D I q⟩
theorem pss_and {X : Cx} {ss : List Stmt} {t : TS} {p : Prop} (h : p → PSs X ss t) : PSs X ss fun D σ H => p ∧ t D σ H := ⟨fun pins s σ H D I ⟨q, r⟩ => (h q).run pins s σ H D I r⟩
section
variable [B0 : Bse] {X : Cx} {x n : Str} {c : Value} {i : Nat} {body suite : List Stmt} {b0 : Stmt} {np pos pos' : Pos} {Tb : Bse → TDS} {Ts : Addr → Addr → Value → TDS}
/-- what a clause does with an exception of the body; what it does not take goes on -/
def caught (K : PySem.W.Frag) (c : Value) (i : Nat) (Ts : Addr → Addr → Value → TDS) (E : DEnds) : Value → List (Str × D) → DS → Prop := fun cls kvs ρ =>
  ∃ b, PySem.W.exmOne K cls c = some b ∧ (b = true → kvs ≠ [] ∧ ∀ a dd, Ts a dd cls { nx := fun ρ2 => E.nx (ρ2.set i .no), rt := E.rt, bk := fun ρ2 => E.bk (ρ2.set i .no), ct := fun ρ2 => E.ct (ρ2.set i .no), rl := E.rl } (ρ.set i (.exc a dd cls kvs))) ∧ (b = false → Bse.XR cls kvs ρ)
def sTryAs (K : PySem.W.Frag) (c : Value) (i : Nat) (Tb : Bse → TDS) (Ts : Addr → Addr → Value → TDS) : TDS := fun E ρ => ∀ W, Tb ⟨W, caught K c i Ts E⟩ E ρ
def tBody (K : PySem.W.Frag) (Tb : Bse → TDS) (W : WX) : TS := fun D σ H => ∃ XR, @liftS _ ⟨W, XR⟩ K (Tb ⟨W, XR⟩) D σ H
def tSuite (K : PySem.W.Frag) (Ts : Addr → Addr → Value → TDS) (a : Addr) (cls : Value) (d : Option Addr) : TS := fun D σ H => ∃ dd, d = some dd ∧ liftS K (Ts a dd cls) D σ H
theorem ds_tryAs (hs : X.stack = X.env :: X.outer) (hf : X.env.frame = some X.env.locals) (hN : X.N.Nodup) (hi : X.N[i]? = some n) (hln : X.env.kindOf n = some .local) (hc : Names X x c) (tk : Takes X Bse.W)
    (hb : ∀ (B : Bse) (pn : List (Addr × Obj)) (xe : Value → Shared → Prop), Takes (X.tr pn xe) B.W → PassesOwn (model X.prog X.w) X.A X.env xe → @DSs _ B (X.tr pn xe) body (Tb B))
    (hsu : ∀ (a dd : Addr) (oe : Obj) (cls : Value) (pn : List (Addr × Obj)), Zc cls (some dd) oe → (∃ vs, oe.data = .fields vs) → DSs (X.suite a ((a, oe) :: pn)) (b0 :: suite) (Ts a dd cls)) :
    DSt X (.Try body [.ExceptHandler (some (.Name x np)) (some n) (b0 :: suite) pos'] [] [] pos) (sTryAs X.K c i Tb Ts) :=
  PS.weak (ps_try_as (tb := tBody X.K Tb) (ts := fun a cls d => tSuite X.K Ts a cls d) hs hf hN hi hln hc tk (fun W pn xe t p => pss_ex fun XR => hb ⟨W, XR⟩ pn xe t p)
    (fun a oe cls d pn z q => pss_ex fun dd => pss_and fun e => hsu a dd oe cls pn (e ▸ z) q)) fun D σ H ⟨b, f, ρ, E, S, t, k⟩ => by
    refine ⟨caught X.K c i Ts E, ⟨b.1, ?_⟩, f, ρ, E, S, t _, k⟩
    intro cls kvs ρ4 σ4 f4 H4 d4 ⟨y, h1, h2, h3⟩ S4 xo
    refine ⟨y, h1, fun hy a ha => ?_, fun hy => b.2 cls kvs ρ4 σ4 f4 H4 d4 (h3 hy) S4 xo⟩
    obtain ⟨hk, h2⟩ := h2 hy
    cases d4 with
    | none => exact absurd xo hk
    | some dd =>
    obtain ⟨_, fs, ed, xp⟩ := xo
    refine ⟨dd, rfl, b, f4, ρ4.set i (.exc a dd cls kvs), _, Sim.set S4 ⟨rfl, fs, ed, xp⟩ (fun z => by cases z), h2 a dd, ?_⟩
    exact ⟨fun ρ5 σ5 f5 H5 r S5 => k.nx _ _ f5 H5 r (S5.wipe [i]), k.rt, fun ρ5 σ5 f5 H5 r S5 => k.bk _ _ f5 H5 r (S5.wipe [i]), fun ρ5 σ5 f5 H5 r S5 => k.ct _ _ f5 H5 r (S5.wipe [i]), k.rl⟩
/-- e.f of the caught exception -/
def xField (i : Nat) (a dd : Addr) (cls : Value) (C : Addr) (fld : Str) : TD := fun ρ R => ∃ kvs d, ρ[i]? = some (.exc a dd cls kvs) ∧ cls = .ref C ∧ kvs.lookup fld = some d ∧ R d ρ
theorem xd_lookup {K : PySem.W.Frag} {F : Hp} {fld : Str} : ∀ {fs : List (Str × V)} {kvs : List (Str × D)} {d : D}, XdP K F fs kvs → kvs.lookup fld = some d → ∃ v, fs.lookup fld = some v ∧ Dp K F v d
  | _, _, _, .nil, h => by cases h
  | (y, v) :: fs, (_, e) :: kvs, d, .cons a r, h => by
    rw [List.lookup_cons] at h ⊢
    cases q : fld == y with
    | true =>
      rw [q] at h
      cases h
      exact ⟨v, rfl, a⟩
    | false =>
      rw [q] at h
      exact xd_lookup r h
theorem de_xf {a dd C : Addr} {oe : Obj} {cls : Value} {pn : List (Addr × Obj)} {fld : Str} {p : Pos} {nm : Str} (T : XfC X.K C) (hno : PySem.W.findIn X.K (.ref C) fld = some none) (hz : Zc cls (some dd) oe) (hf : ∃ vs, oe.data = .fields vs)
    (hv : PE (X.suite a ((a, oe) :: pn)) (.Name nm p) (tVar i)) (hb : attributeBase (.Name nm p) fld X.env (eval (.Name nm p) X.env) = eval (.Name nm p) X.env := by rfl) : DE (X.suite a ((a, oe) :: pn)) (.Attribute (.Name nm p) fld pos) (xField i a dd cls C fld) :=
  PE.weak (pe_xf T hno hz hf hv hb) fun σ H Q ⟨b, f, ρ, R, S, ⟨kvs, d, hi, ec, hl, r⟩, q⟩ => by
    obtain ⟨e1, fs, h1, h2⟩ := S.sl i _ hi
    obtain ⟨v, h3, h4⟩ := xd_lookup h2 hl
    exact ⟨.ref a, e1, rfl, ec, dd, fs, v, rfl, S.fs _ _ h1, h3, q d ρ v f H r S (Nx.refl f H) h4⟩
end
end DL

/-! a def that calls the lambda it is passed: try: return repr([w1, deed()]) / except C as e: return repr([w2, e.f]) -/
namespace DL
open PySem PySem.Spec PyProof.Rows L2 LamX
variable [Tbs]
/-- what it makes of the lambda: repr of what is returned, of what is raised -/
def toldOk (K : PySem.W.Frag) (w1 : Str) (Q : VK) : VK := fun v H' => [V.str w1, v].length ≤ sizeLine ∧ ∀ p, H' p = none → liftC K cRepr [.ref p] (upd H' p (.lst [.str w1, v])) Q
def toldNo (K : PySem.W.Frag) (C : Addr) (fld w2 : Str) (Q : VK) : XK := fun cls d H' => ∃ b, PySem.W.exmOne K cls (.ref C) = some b ∧ (b = true → cls = .ref C ∧ ∃ dd fs v, d = some dd ∧ H' dd = some (.xd fs) ∧ fs.lookup fld = some v ∧
  [V.str w2, v].length ≤ sizeLine ∧ ∀ p, H' p = none → liftC K cRepr [.ref p] (upd H' p (.lst [.str w2, v])) Q) ∧ (b = false → False)
def TTtold (K : PySem.W.Frag) (C : Addr) (fld w1 w2 : Str) : (XK → Hp → VK → Prop) → Hp → VK → Prop := fun tl H Q => tl (toldNo K C fld w2 Q) H (toldOk K w1 Q)
theorem repr_pair {K : PySem.W.Frag} {F H : Hp} {v : V} {d : D} {w : Str} {p : Addr} {Q : VK} (fs : Same F H) (dp : Dp K F v d) (hp : H p = none) (fit : fitD (.list [.str w, d])) (q : ∀ F2 H2, Gr F H F2 H2 → Q (.str (PyData.shown (.list [.str w, d]))) H2) :
    liftC K cRepr [.ref p] (upd H p (.lst [.str w, v])) Q := by
  have hh : Same H (upd H p (.lst [.str w, v])) := same_new hp
  have g0 : Gr F H F (upd H p (.lst [.str w, v])) := ⟨.of hh, Same.refl _, fs.trans hh, fun a o e => .inl ⟨o, e⟩, fun t => t.put (.inl hp)⟩
  refine ⟨⟨F, []⟩, [.list [.str w, d]], fun z => z = .str (PyData.shown (.list [.str w, d])), g0.fh, .cons (.inr ⟨p, _, .l [.str w, d], rfl, rfl, List.not_mem_nil, .inl upd_same, _, rfl, .cons (.str w) (.cons dp .nil)⟩) .nil, ⟨_, rfl, fit, rfl⟩, fun z u F' H' ez g dz => ?_⟩
  subst ez
  cases dz
  exact q F' H' (g0.trans g)
theorem takes_len {X : Cx} {W : WX} (t : Takes X W) : Takes X fun cls d σ H => σ.length = X.N.length → W cls d σ H := fun u s' ⟨a, B, sI, pins, σ, H, cls, d, e, I, r1, r2, r3, r4, r5, r6, w⟩ =>
  t u s' ⟨a, B, sI, pins, σ, H, cls, d, e, I, r1, r2, r3, r4, r5, r6, w I.len⟩
section
variable {X : Cx} {x a en ex q fld w1 w2 : Str} {sg : Scope} {g C : Addr} {cdg : Value} {j1 j2 : Nat} {p0 p1 p2 p3 p4 p5 p6 p7 p8 p9 q1 q2 q3 q4 q5 q6 q7 : Pos}
theorem told_givesD (hgd : X.A.guards = some []) (hu : X.A.units + 400 < cLine) (hne : (a == en) = false) (hge : sg.names.lookup ex = some .globalImplicit) (hgr : sg.names.lookup ("repr" : Str) = some .globalImplicit) (hle : sg.names.lookup en = some .local) (hme : X.mg ex = some (.ref C)) (hde : (ex == ("__debug__" : Str)) = false)
    (hmr : X.mg "repr" = none) (T : XfC X.K C) (hno : PySem.W.findIn X.K (.ref C) fld = some none) (hd1 : (en == ("__debug__" : Str)) = false) (hd2 : (en == ("__classdict__" : Str)) = false) :
    GivesTo X [a, en] x sg g cdg [.Try [.Return (some (.Call (.Name "repr" p0) [.List [.Constant (.str w1) j1 p1, .Call (.Name a p2) [] [] p3] p4] [] p5)) p6]
      [.ExceptHandler (some (.Name ex p7)) (some en) [.Return (some (.Call (.Name "repr" q1) [.List [.Constant (.str w2) j2 q2, .Attribute (.Name en q3) fld q4] q5] [] q6)) q7] p8] [] [] p9] a q (TTtold X.K C fld w1 w2) := by
  intro f c' s H Q tl act hc h
  have hgl : Gl (cxOf C8.CX0 X.prog X.w X.K X.mg X.base [a, en] x sg g cdg X.A X.stack s H C8.E0).nox ex := hge
  have hgR : Gl (cxOf C8.CX0 X.prog X.w X.K X.mg X.base [a, en] x sg g cdg X.A X.stack s H C8.E0).nox "repr" := hgr
  have nn : a ∉ [en] := fun z => by
    have e : a = en := List.mem_singleton.mp z
    rw [e, beq_self_eq_true] at hne
    cases hne
  have nd : [a, en].Nodup := List.nodup_cons.mpr ⟨nn, List.nodup_cons.mpr ⟨List.not_mem_nil, List.nodup_nil⟩⟩
  letI : Bse := noX
  have hu2 : (X.A.deeper (envOfC x sg s.heap.objs.size g cdg)).units + 200 < cLine := by
    show X.A.units + 3 + 200 < cLine
    omega
  refine ⟨_, pss_one (ps_try_as (X := (cxOf C8.CX0 X.prog X.w X.K X.mg X.base [a, en] x sg g cdg X.A X.stack s H C8.E0).nox) (n := en) (c := .ref C) (i := 1)
      (tb := fun W D σ H => ∃ Ech : XK, (∀ cls d (σ' : L2.St) H', Ech cls d H' → σ'.length = 2 → W cls d σ' H') ∧ σ[0]? = some (some (.ref f)) ∧ H c' = some (CodeO c' q) ∧ tl Ech H (toldOk X.K w1 D.rt))
      (ts := fun a' cls d => tRet (tCB (liftC X.K cRepr) (tCons (tLst (tCons (tC (.str w2)) (tCons (tXf a' cls d C fld (tVar 1)) tNil))) tNil))) (Wout := fun _ _ _ _ => False)
      rfl rfl nd rfl hle ⟨hgl, hde, .inl hme⟩ L2.takes0 (fun W pn xe tk _ => ?_)
      (fun a' oe cls d pn hz hf => pss_one (ps_ret (pe_callB (cd_reprU hgd (by exact hu2)) hgR hmr (by decide +kernel) (pa_cons (pe_lst (pa_cons pe_str (pa_cons (pe_xf T hno hz hf (pe_var (i := 1) rfl (.inl hle) hd1 hd2)) pa_nil))) pa_nil))))), ?_⟩
  · refine ⟨fun pins s' σ H' D I h' => ?_⟩
    obtain ⟨Ech, hW, h1, h2, h3⟩ := h'
    have hp := act (fun cls d σ H => σ.length = 2 → W cls d σ H) pn xe Ech p2 p3 (takes_len tk) hW
    have hq := pss_one (ps_ret (pos := p6) (pe_callB (p := p0) (pos := p5) (cd_reprU (X := (cxOf C8.CX0 X.prog X.w X.K X.mg X.base [a, en] x sg g cdg X.A X.stack s H C8.E0).nox.tr pn xe) hgd (by exact hu2)) hgR hmr (by decide +kernel) (pa_cons (pe_lst (pos := p4) (pa_cons (pe_str (x := w1) (pos := p1) (j := j1)) (pa_cons hp pa_nil))) pa_nil)))
    exact hq.run pins s' σ H' D I ⟨h1, h2, h3⟩
  · refine ⟨toldNo X.K C fld w2 Q, fun cls d σ' H' ⟨b, e1, e2, e3⟩ hl2 => ⟨b, e1, fun hb a' _ => ?_, fun hb => e3 hb⟩, rfl, hc, h⟩
    obtain ⟨ec, dd, fs, v, ed, hx, hl, hz, k⟩ := e2 hb
    have at1 : (σ'.set 1 (some (V.ref a')))[1]? = some (some (V.ref a')) := by rw [List.getElem?_set_self (by omega)]
    exact ⟨.ref a', at1, rfl, ec, dd, fs, v, ed, hx, hl, hz, k⟩
end
end DL

/-! defs that may raise, wherever they are run (no repr in them) -/
namespace DL
open PySem PySem.Spec PyProof.Rows L2
variable [Tbs]
section
variable {P : Program} {w : World} {K : PySem.W.Frag} {mg : Str → Option Value} {base : Heap} {x qual : Str} {st : Stmt} {f : Addr} {fd : FuncData} {N ps : List Str} {k : Nat} {c : ConX} {T : Bse → TDS}
abbrev BodyXK (P : Program) (w : World) (K : PySem.W.Frag) (mg : Str → Option Value) (base : Heap) (N : List Str) (qual : Str) (st : Stmt) (f : Addr) (k : Nat) (T : Bse → TDS) : Prop :=
  ∀ [B : Bse] (cdv : Value) (A : Around) (outer : List Env) (s : Shared) (H : Hp) (E : XK), Room k (A.deeper (envOfC qual (defScope st) s.heap.objs.size f cdv)) →
    Takes (cxOf (L2.CX P w) P w K mg base N qual (defScope st) f cdv A outer s H E) B.W → DSs (cxOf (L2.CX P w) P w K mg base N qual (defScope st) f cdv A outer s H E) (defBody st) (T B)
theorem ok_XK (F : Fun K x qual st f fd) (S : FnScope N ps (defScope st)) (hN : ps.length ≤ N.length) (hl : ∀ ds R Z, c ds R Z → ds.length = ps.length) (hb : BodyXK P w K mg base N qual st f k T)
    (hq : ∀ ds R Z W, c ds R Z → T ⟨W, fun cls kvs _ => Z cls kvs⟩ (endsD R) (dstart ds N.length)) : FnOk P w K mg base (L2.CX P w) (k + 1) f fd ps (spX K c) := by
  refine F.okX S (fun vs H Q E ⟨F0, ds, R, Z, _, _, h, hc, _⟩ => by rw [dpa_len h]; exact hl ds R Z hc) fun cdv A outer s H vs Q E hr ⟨F0, ds, R, Z, ht, hs, h, hc, q, qx⟩ => ?_
  let B : Bse := ⟨fun cls d _ H' => E cls d H', fun cls kvs _ => Z cls kvs⟩
  have lw : @ExL _ B K ⟨H, F0, []⟩ := fun cls kvs ρ σ f' H' d xr S' e => qx cls kvs d f'.F H' xr S'.gr e
  refine ⟨_, @hb B cdv A outer s H E hr (takes_of rfl rfl rfl rfl), ⟨⟨H, F0, []⟩, lw⟩, ⟨F0, []⟩, _, endsD R, Sim.begin ht hs h (by rw [dpa_len h, hl ds R Z hc]; exact hN), hq ds R Z _ hc, ⟨?_, ?_, ?_, ?_, ?_⟩⟩
  · exact fun ρ σ f' H' r S' => q .none .non f'.F H' r S'.gr .non
  · exact fun d ρ v σ f' H' r S' dp => q d v f'.F H' r S'.gr dp
  · exact fun _ _ _ _ r _ => r.elim
  · exact fun _ _ _ _ r _ => r.elim
  · intro es ρ p σ f' H' r S' O
    obtain ⟨F', g, dp⟩ := O.froze S'
    exact q _ _ F' H' r g dp
structure CalXK (P : Program) (w : World) (K : PySem.W.Frag) (mg : Str → Option Value) (base : Heap) (k : Nat) (x : Str) (st : Stmt) (ps : List Str) (sp : Sp) : Prop where
  ex : ∃ (f : Addr) (fd : FuncData), FnOk P w K mg base (L2.CX P w) k f fd ps sp ∧ mg x = some (.ref f) ∧ PySem.W.keepIn K (.ref f) = true ∧
    ∃ (kV doc pm : Value) (an : Option Addr) (cdv ct : Value), fd = PySem.W.fnOf x x (defArgs st) (defBody st) (defScope st) .none kV doc pm an cdv ct
theorem CalXK.toX {j : Nat} {sp : Sp} (cx : CalXK P w K mg base j x st ps sp) : CalX P w K mg base j x st ps sp := by
  obtain ⟨f, fd, F, q⟩ := cx.ex
  exact ⟨f, fd, FnG.of F, q⟩
end
theorem runXK {X : Cx} {W : WX} {k : Nat} {f : Addr} {fd : FuncData} {ps : List Str} {sp : Sp} {pins : List (Addr × Obj)} {σ : L2.St} {H : Hp} {s : Shared} {Q : VK} {args : Args} {us : List Value} {vs : List V} (F : FnOk X.prog X.w X.K X.mg X.base (L2.CX X.prog X.w) k f fd ps sp) (hr : Room k X.A) (tk : Takes X W) (I : Inv X pins σ H s)
    (hb : us.length = ps.length → BindsTo s fd args (ps.zip us)) (r : Vals vs us) (h : sp vs H Q fun cls d H' => W cls d σ H') : codeAny (model X.prog X.w) X.A (.call (.ref f) args) (fun r s' => match r with | .ok (.ret u) => EP X pins σ Q u s' | .ok _ => False | .error e => X.xe e s') s := by
  have hl : us.length = ps.length := by rw [← r.length]; exact F.len _ _ _ _ h
  refine codeAny_mono (F.run X.A X.stack s H args us vs Q _ hr I.env0 (hb hl) r h) fun r s' hq => ?_
  cases r with
  | error e => exact tk _ _ (XE.of_call I (fun _ _ _ z => z) hq)
  | ok fl =>
    cases fl with
    | ret u => exact I.after hq
    | next => exact hq.elim
    | brk => exact hq.elim
    | cont => exact hq.elim
section
variable {X : Cx} {j k : Nat} {x : Str} {st : Stmt} {ps : List Str} {sp : Sp} {p pos : Pos} {e : Expr} {es : List Expr} {t : TA} {W : WX}
theorem pe_cxk (cx : CalXK X.prog X.w X.K X.mg X.base k x st ps sp) (hr : Room j X.A) (hk : k ≤ j) (tk : Takes X W) (hg : Gl X x) (hb : BindP x st ps ps.length) (ha : PA X (e :: es) t)
    (hdb : (x == ("__debug__" : Str)) = false := by decide) (he : starEach (e :: es) X.env = (false, eval e X.env) :: starEach es X.env := by rfl) (hpl : (backTo pos (starEach es X.env)).any (·.1) = false := by rfl) :
    PE X (.Call (.Name x p) (e :: es) [] pos) (tCallX W sp t) := by
  obtain ⟨f, fd, F, hm, kp, kV, doc, pm, an, cdv, ct, rfl⟩ := cx.ex
  refine ⟨fun pins s σ H Q I h => wpAny_Call_Name_kw (ld_glob I hg hm ?_ hdb)⟩
  refine PySem.W.callWith_K (h₀ := X.base) I.ok.mod.kin kp (thn (ha.run pos pins s σ H _ I h) fun us s1 ⟨vs, H1, I1, r, q⟩ => ⟨I1.kIn, ?_⟩) he hpl
  exact wpAny_call (runXK F (hr.mono hk) tk I1 (fun hl => .of_eq (hb kV doc pm an cdv ct us hl)) r q)
end
end DL

/-! several clauses, each with the exception's name -/
namespace DL
open PySem PySem.Spec PyProof.Rows L2
/-- what the clauses make of an exception: the first one that takes it has it in slot i, which is empty behind it -/
def wEach (K : PySem.W.Frag) (i : Nat) (Wout : WX) (D : Ends) : List (Value × (Addr → Value → Option Addr → TS)) → WX
  | [] => Wout
  | (c, ts) :: r => fun cls d σ H => ∃ b, PySem.W.exmOne K cls c = some b ∧ (b = true → ∀ a, H a = none → ts a cls d { nx := fun σ2 H2 => D.nx (σ2.set i none) H2, rt := D.rt, bk := fun σ2 H2 => D.bk (σ2.set i none) H2, ct := fun σ2 H2 => D.ct (σ2.set i none) H2 } (σ.set i (some (.ref a))) H) ∧ (b = false → wEach K i Wout D r cls d σ H)
inductive HdsAs (X : Cx) (n : Str) : List ExceptHandler → List (Value × (Addr → Value → Option Addr → TS)) → Prop
  | nil : HdsAs X n [] []
  | cons {x : Str} {c : Value} {ts : Addr → Value → Option Addr → TS} {b0 : Stmt} {rows : List Stmt} {np hp : Pos} {hds : List ExceptHandler} {l : List (Value × (Addr → Value → Option Addr → TS))} (hc : Names X x c)
      (hsu : ∀ (a : Addr) (oe : Obj) (cls : Value) (d : Option Addr) (pn : List (Addr × Obj)), Zc cls d oe → (∃ vs, oe.data = .fields vs) → PSs (X.suite a ((a, oe) :: pn)) (b0 :: rows) (ts a cls d)) (r : HdsAs X n hds l) : HdsAs X n (.ExceptHandler (some (.Name x np)) (some n) (b0 :: rows) hp :: hds) ((c, ts) :: l)
section
variable {X : Cx} {n : Str} {i : Nat} {body : List Stmt} {hd0 : ExceptHandler} {hds : List ExceptHandler} {l : List (Value × (Addr → Value → Option Addr → TS))} {pos : Pos} {tb : WX → TS} {Wout : WX}
theorem ps_try_each (st : X.stack = X.env :: X.outer) (fr0 : X.env.frame = some X.env.locals) (hN : X.N.Nodup) (hi : X.N[i]? = some n) (hln : X.env.kindOf n = some .local) (tk : Takes X Wout)
    (hb : ∀ (W : WX) (pn : List (Addr × Obj)) (xe : Value → Shared → Prop), Takes (X.tr pn xe) W → PassesOwn (model X.prog X.w) X.A X.env xe → PSs (X.tr pn xe) body (tb W)) (hh : HdsAs X n (hd0 :: hds) l) : PS X (.Try body (hd0 :: hds) [] [] pos) (fun D σ H => tb (wEach X.K i Wout D l) D σ H) := by
  refine ⟨fun pins s σ H D I h => ?_⟩
  have ok := I.ok
  have fr1 : X.A.frames = some (X.env :: X.outer) := by rw [ok.frames, st]
  have loc : Loc X.env.scope n := .inl hln
  refine wpAny_Try_except (?_)
  refine wpAny_mono ((hb (wEach X.K i Wout D l) (X.pn ++ pins) (fun e t1 => wpAny (model X.prog X.w) X.A (noteFrame e X.env) (fun _ t2 => wpAny (model X.prog X.w) X.A (setFlight e none) (fun _ t3 => wpAny (model X.prog X.w) X.A (handleBy e X.env (hd0 :: hds)) (SP X pins D) X.xe t3) X.xe t2) X.xe t1) (fun u s' xx => ?_) PassesOwn.looking).run [] s σ H D (I.toTry _) h) (fun f s1 hsp => ?_) (fun e s1 he => he)
  · obtain ⟨a, B, sI, pins', σ', H', cls, d, rfl, J', nb, up, sky, na, os, ag, w⟩ := xx
    have J : Inv X pins σ' H' sI := J'.ofTry ok
    have sky2 : Sky B (X.env :: X.outer) a (Zc cls d) X.env.locals s'.heap := by rw [← st]; exact sky
    show wpAny _ X.A (noteFrame (.ref a) X.env) _ _ _
    refine Sky.land Zc.steady fr1 fr0 sky2 fun h3 fl3 up3 => ?_
    have J3 : Inv X pins σ' H' { s' with heap := h3 } := J.landed nb fl3.1 (up.trans up3) os ag
    obtain ⟨oe3, vs3, he3, hz3, hd3⟩ := fl3.there
    have offF : a ∉ frs (X.env :: X.outer) := fun hm => by
      obtain ⟨_, o2, e2, hnf⟩ := fl3.2.2.1.mem hm
      rw [he3] at e2 ; cases e2
      exact hnf _ hd3
    have nL : a ≠ X.env.locals := fun z => offF (List.mem_filterMap.mpr ⟨X.env, List.mem_cons_self, by rw [fr0, z]⟩)
    have nF : a ∉ X.fs := fun hm => by
      obtain ⟨e, he, q⟩ := List.mem_filterMap.mp hm
      exact offF (List.mem_filterMap.mpr ⟨e, List.mem_cons_of_mem _ he, q⟩)
    have S3 := J3.suite he3 hd3 na nL nF
    have go : ∀ {hs : List ExceptHandler} {ls : List (Value × (Addr → Value → Option Addr → TS))}, HdsAs X n hs ls → wEach X.K i Wout D ls cls d σ' H' → wpAny (model X.prog X.w) X.A (handleBy (.ref a) X.env hs) (SP X pins D) X.xe { s' with heap := h3 } := by
      intro hs ls hk
      induction hk with
      | nil =>
        intro w
        refine wpAny_handleBy_nil (?_)
        obtain ⟨k1, k2, k3, oe, vs, T, oT, ts', he, hz, hd, h1, hr⟩ := id fl3
        unfold PySem.passOn ; refine wpAny_bind (wpAny_field he hd h1 (?_))
        rw [if_neg (show ¬ ((Value.ref T == Value.none) = true) by simp)]
        have fin : wpAny (model X.prog X.w) X.A (setFlight (.ref a) X.env.frame) (fun _ t4 => wpAny (model X.prog X.w) X.A (throw (.ref a) : Sem Flow) (SP X pins D) X.xe t4) X.xe { s' with heap := h3 } := by
          rw [fr0] ; refine HandSPX.setFlight_upZ fl3 fun h4 hh4 up4 => wpAny_throw (tk _ _ ⟨a, B, sI, pins, σ', H', cls, d, rfl, J, nb, (up.trans up3).trans up4, .inr (.inr (by rw [st]; exact hh4)), na, os, ag, w⟩)
        first | exact wpAny_bind (wpAny_pure (wpAny_bind fin)) | exact wpAny_bind fin
      | @cons x c ts b0 rows np hp hds2 l2 hc hsu r ih =>
        intro w
        obtain ⟨b, hb1, yes, no⟩ := w
        refine wpAny_handleBy_cons (codeAny_handlers_test (?_)) (by intro q; cases q)
        have LT : PySem.W.Looks (model X.prog X.w) h3 (typeOf (.ref a)) cls := fun A Q E t k q => wpAny_typeOf_ref (k _ _ he3) (by rw [hz3.1]; exact q)
        have LM := PySem.W.exm_one (M := model X.prog X.w) (J3.kIn) LT hb1
        have test : ∀ {Q : Value → Shared → Prop} {E : Value → Shared → Prop}, Q c { s' with heap := h3 } → wpAny (model X.prog X.w) (X.A.mark (some (.ref a))) (eval (.Name x np) X.env) Q E { s' with heap := h3 } := fun {Q E} q => by
          obtain ⟨hg, hdbg, hm | ⟨hm, hv, hnn⟩⟩ := hc
          · exact ld_glob (X := X.suite a ((a, oe3) :: (X.pn ++ pins))) S3 hg hm q hdbg
          · exact ld_blt (X := X.suite a ((a, oe3) :: (X.pn ++ pins))) S3 hg hm hv q hnn hdbg
        refine test (LM.here (?_))
        cases b with
        | true =>
          refine codeAny_handlers_suite_as (HandSPX.lands_againZ fl3 fun h4 fl4 up4 => ?_)
          have J4 : Inv X pins σ' H' { s' with heap := h4 } := J.landed nb fl4.1 ((up.trans up3).trans up4) os ag
          obtain ⟨oe4, vs4, he4, hz4, hd4⟩ := fl4.there
          have S4 := J4.suite he4 hd4 na nL nF
          refine store_ok (X := X.suite a ((a, oe4) :: (X.pn ++ pins))) (v := .ref a) S4 hN hi loc rfl (fun s5 S5 => ?_) (.inr hln)
          refine wpAny_mono ((hsu a oe4 cls d (X.pn ++ pins) hz4 ⟨_, hd4⟩).run [] s5 _ H' _ S5 (yes rfl a na)) (fun f s6 hsp => ?_) (fun _ _ z => False.elim z)
          have gone : ∀ {σ6 : L2.St} {H6 : Hp} {Q : Shared → Prop}, Inv (X.suite a ((a, oe4) :: (X.pn ++ pins))) [] σ6 H6 s6 → (∀ s7, Inv X pins (σ6.set i none) H6 s7 → Q s7) → wpAny (model X.prog X.w) X.A (do bindName X.env n .none; unbindBehindTheSuite X.env n hp) (fun _ s7 => Q s7) X.xe s6 := fun {σ6 H6 Q} S6 hq => gone_ok (S6.unsuite ok) hN hi hln hq
          cases f with
          | next => obtain ⟨σ6, H6, S6, q6⟩ := hsp ; exact gone S6 fun s7 J7 => ⟨_, _, J7, q6⟩
          | brk => obtain ⟨σ6, H6, S6, q6⟩ := hsp ; exact gone S6 fun s7 J7 => ⟨_, _, J7, q6⟩
          | cont => obtain ⟨σ6, H6, S6, q6⟩ := hsp ; exact gone S6 fun s7 J7 => ⟨_, _, J7, q6⟩
          | ret u => obtain ⟨v6, σ6, H6, S6, r6, q6⟩ := hsp ; exact gone S6 fun s7 J7 => ⟨_, _, _, J7, r6, q6⟩
        | false =>
          show wpAny _ X.A (handleBy (.ref a) X.env hds2) _ _ _
          exact ih (no rfl)
    exact go hh w
  · cases f with
    | next => obtain ⟨σ', H', J', q⟩ := hsp ; exact wpAny_execs_nil ⟨σ', H', J'.ofTry ok, q⟩
    | brk => obtain ⟨σ', H', J', q⟩ := hsp ; exact ⟨σ', H', J'.ofTry ok, q⟩
    | cont => obtain ⟨σ', H', J', q⟩ := hsp ; exact ⟨σ', H', J'.ofTry ok, q⟩
    | ret u => obtain ⟨v, σ', H', J', r, q⟩ := hsp ; exact ⟨v, σ', H', J'.ofTry ok, r, q⟩
end
end DL

/-! a def that calls the lambda it is passed: try: found = (w, deed()) / except C as e: found = (w2, e.f) / .. ; return found -/
namespace DL
open PySem PySem.Spec PyProof.Rows L2 LamX
variable [Tbs] [Bse]
/-- the pair that is told -/
def pairK (w : Str) (Q : VK) : VK := fun v H' => ∀ (p : Addr) (o : Obj), H' p = none → o.dict = none → Q (.ref p) (upd H' p (.frz o (.tup [.str w, v])))
/-- the same, read off the name that holds it -/
def pairX (w : Str) (Q : VK) : VK := fun v H1 => [V.str w, v].length ≤ sizeLine ∧ ∀ (p : Addr) (o : Obj), H1 p = none → o.dict = none → ∃ v', some (some (V.ref p)) = some (some v') ∧ Q v' (upd H1 p (.frz o (.tup [.str w, v])))
theorem PairK.x {w : Str} {Q : VK} {v : V} {H : Hp} (h : pairK w Q v H) : pairX w Q v H := ⟨Nat.le_of_ble_eq_true rfl, fun p o hp ho => ⟨_, rfl, h p o hp ho⟩⟩
/-- a clause of the class C that tells a field -/
def ckF (K : PySem.W.Frag) (C : Addr) (fld w : Str) (Q : VK) (nxt : XK) : XK := fun cls d H' => ∃ b, PySem.W.exmOne K cls (.ref C) = some b ∧ (b = true → cls = .ref C ∧ ∃ dd fs v, d = some dd ∧ H' dd = some (.xd fs) ∧ fs.lookup fld = some v ∧ pairK w Q v H') ∧ (b = false → nxt cls d H')
/-- a clause that tells None -/
def ckN (K : PySem.W.Frag) (C : Addr) (w : Str) (Q : VK) (nxt : XK) : XK := fun cls d H' => ∃ b, PySem.W.exmOne K cls (.ref C) = some b ∧ (b = true → pairK w Q .non H') ∧ (b = false → nxt cls d H')
/-- a clause that tells whether it is of the class S -/
def ckI (K : PySem.W.Frag) (C S : Addr) (w : Str) (Q : VK) (nxt : XK) : XK := fun cls d H' => ∃ b, PySem.W.exmOne K cls (.ref C) = some b ∧ (b = true → cls = .ref C ∧ d = none ∧ ∃ t, PySem.W.kitOne K (.ref C) (.ref S) = some t ∧ pairK w Q (.bl t) H') ∧ (b = false → nxt cls d H')
theorem pe_cls {X : Cx} {x : Str} {c : Addr} {p : Pos} (hg : Gl X x) (hm : X.mg x = some (.ref c)) (hdb : (x == ("__debug__" : Str)) = false) : PE X (.Name x p) (tC (.ref c)) := ⟨fun pins s σ H Q I h => ld_glob I hg hm ⟨.ref c, H, I, rfl, h⟩ hdb⟩
section
variable {X : Cx} {n fd w x y fld : Str} {found : Nat} {C S : Addr} {np hp p1 p2 p3 p4 p5 p6 p7 p8 : Pos} {j1 j2 : Nat} {hds : List ExceptHandler} {l : List (Value × (Addr → Value → Option Addr → TS))} {k1 : Nat}
def suF (fld w : Str) (C : Addr) : Addr → Value → Option Addr → TS := fun a cls d => tAsg (tTupF (tCons (tC (.str w)) (tCons (tXf a cls d C fld (tVar 1)) tNil))) (gName 2)
def suN (w : Str) : Addr → Value → Option Addr → TS := fun _ _ _ => tAsg (tTupF (tCons (tC (.str w)) (tCons (tC .non) tNil))) (gName 2)
def suI (K : PySem.W.Frag) (C S : Addr) (w : Str) : Addr → Value → Option Addr → TS := fun a cls d D σ H => (cls = .ref C ∧ d = none) ∧ tAsg (tTupF (tCons (tC (.str w)) (tCons (tCB (rIsE K C a) (tCons (tVar 1) (tCons (tC (.ref S)) tNil))) tNil))) (gName 2) D σ H
theorem hd_F (hN : X.N.Nodup) (h1 : X.N[1]? = some n) (h2 : X.N[2]? = some fd) (hln : X.env.kindOf n = some .local) (hlf : X.env.kindOf fd = some .local) (hc : Names X x (.ref C)) (T : XfC X.K C) (hno : PySem.W.findIn X.K (.ref C) fld = some none) (hd1 : (n == ("__debug__" : Str)) = false) (hd2 : (n == ("__classdict__" : Str)) = false) (r : HdsAs X n hds l) :
    HdsAs X n (.ExceptHandler (some (.Name x np)) (some n) [.Assign [.Name fd p1] (.Tuple [.Constant (.str w) j1 p2, .Attribute (.Name n p3) fld p4] k1 p5) p6] hp :: hds) ((.ref C, suF fld w C) :: l) :=
  .cons hc (fun a oe cls d pn hz hf => pss_one (ps_asg (pe_tupF (pa_cons pe_str (pa_cons (pe_xf T hno hz hf (pe_var (i := 1) h1 (.inl hln) hd1 hd2)) pa_nil))) (pg_name (i := 2) hN h2 (.inl hlf) (.inr hlf)))) r
theorem hd_N (hN : X.N.Nodup) (h2 : X.N[2]? = some fd) (hlf : X.env.kindOf fd = some .local) (hc : Names X x (.ref C)) (r : HdsAs X n hds l) :
    HdsAs X n (.ExceptHandler (some (.Name x np)) (some n) [.Assign [.Name fd p1] (.Tuple [.Constant (.str w) j1 p2, .Constant .none j2 p4] k1 p5) p6] hp :: hds) ((.ref C, suN w) :: l) :=
  .cons hc (fun a oe cls d pn hz hf => pss_one (ps_asg (pe_tupF (pa_cons pe_str (pa_cons pe_non pa_nil))) (pg_name (i := 2) hN h2 (.inl hlf) (.inr hlf)))) r
theorem hd_I (hN : X.N.Nodup) (h1 : X.N[1]? = some n) (h2 : X.N[2]? = some fd) (hln : X.env.kindOf n = some .local) (hlf : X.env.kindOf fd = some .local) (hc : Names X x (.ref C)) (E : ExcC X.K C) (hgi : Gl X "isinstance") (hmi : X.mg "isinstance" = none) (hgs : Gl X y) (hms : X.mg y = some (.ref S)) (hds' : (y == ("__debug__" : Str)) = false)
    (hd1 : (n == ("__debug__" : Str)) = false) (hd2 : (n == ("__classdict__" : Str)) = false) (r : HdsAs X n hds l) :
    HdsAs X n (.ExceptHandler (some (.Name x np)) (some n) [.Assign [.Name fd p1] (.Tuple [.Constant (.str w) j1 p2, .Call (.Name "isinstance" p3) [.Name n p4, .Name y p7] [] p8] k1 p5) p6] hp :: hds) ((.ref C, suI X.K C S w) :: l) :=
  .cons hc (fun a oe cls d pn hz hf => ⟨fun pins s σ H D I ⟨⟨e1, e2⟩, q⟩ => by
    subst e1 e2
    exact (pss_one (ps_asg (X := X.suite a ((a, oe) :: pn)) (pos := p6) (pe_tupF (pos := p5) (x1 := k1) (pa_cons (pe_str (x := w) (pos := p2) (j := j1)) (pa_cons (pe_callB (p := p3) (pos := p8) (call_isE E hz hf) hgi hmi (by decide +kernel) (pa_cons (pe_var (i := 1) (pos := p4) h1 (.inl hln) hd1 hd2) (pa_cons (pe_cls (p := p7) hgs hms hds') pa_nil))) pa_nil))) (pg_name (i := 2) (pos := p1) hN h2 (.inl hlf) (.inr hlf)))).run pins s σ H D I q⟩) r
end
/-! ### the def, with five clauses -/
def TTpair5 (K : PySem.W.Frag) (C1 C2 C3 C4 C5 S : Addr) (f1 f2 f3 w0 w1 w2 w3 w4 w5 : Str) : (XK → Hp → VK → Prop) → Hp → VK → Prop := fun tl H Q =>
  tl (ckF K C1 f1 w1 Q (ckF K C2 f2 w2 Q (ckF K C3 f3 w3 Q (ckN K C4 w4 Q (ckI K C5 S w5 Q fun _ _ _ => False))))) H (pairK w0 Q)
section
variable {X : Cx} {x a en fd q f1 f2 f3 w0 w1 w2 w3 w4 w5 x1 x2 x3 x4 x5 y : Str} {sg : Scope} {g C1 C2 C3 C4 C5 S : Addr} {cdg : Value} {p0 : Pos} {k0 : Nat} {hds : List ExceptHandler} {hd0 : ExceptHandler}
theorem at2 {σ : L2.St} {u v : Option V} (hl : σ.length = 3) : (((σ.set 1 u).set 2 v).set 1 none)[2]? = some v := by
  rw [List.getElem?_set_ne (by decide), List.getElem?_set_self (by rw [List.length_set]; omega)]
theorem at1s {σ : L2.St} {u : Option V} (hl : σ.length = 3) : (σ.set 1 u)[1]? = some u := List.getElem?_set_self (by omega)
section
variable {K : PySem.W.Frag} {D : Ends} {Q : VK} {σ : L2.St} {H : Hp} {l : List (Value × (Addr → Value → Option Addr → TS))} {nxt : XK} {cls : Value} {d : Option Addr} {Wout : WX} {C S : Addr} {fld w : Str}
theorem we_F (hl : σ.length = 3) (hD : ∀ (σ' : L2.St) v H', σ'[2]? = some (some v) → Q v H' → D.nx σ' H') (r : nxt cls d H → wEach K 1 Wout D l cls d σ H) (h : ckF K C fld w Q nxt cls d H) : wEach K 1 Wout D ((.ref C, suF fld w C) :: l) cls d σ H := by
  obtain ⟨b, hb, yes, no⟩ := h
  refine ⟨b, hb, fun e a ha => ?_, fun e => r (no e)⟩
  obtain ⟨ec, dd, fs, v, ed, hx, hf, k⟩ := yes e
  exact ⟨.ref a, at1s hl, rfl, ec, dd, fs, v, ed, hx, hf, Nat.le_of_ble_eq_true rfl, fun p o hp ho => hD _ _ _ (at2 hl) (k p o hp ho)⟩
theorem we_N (hl : σ.length = 3) (hD : ∀ (σ' : L2.St) v H', σ'[2]? = some (some v) → Q v H' → D.nx σ' H') (r : nxt cls d H → wEach K 1 Wout D l cls d σ H) (h : ckN K C w Q nxt cls d H) : wEach K 1 Wout D ((.ref C, suN w) :: l) cls d σ H := by
  obtain ⟨b, hb, yes, no⟩ := h
  exact ⟨b, hb, fun e a ha => ⟨Nat.le_of_ble_eq_true rfl, fun p o hp ho => hD _ _ _ (at2 hl) (yes e p o hp ho)⟩, fun e => r (no e)⟩
theorem we_I (hl : σ.length = 3) (hD : ∀ (σ' : L2.St) v H', σ'[2]? = some (some v) → Q v H' → D.nx σ' H') (r : nxt cls d H → wEach K 1 Wout D l cls d σ H) (h : ckI K C S w Q nxt cls d H) : wEach K 1 Wout D ((.ref C, suI K C S w) :: l) cls d σ H := by
  obtain ⟨b, hb, yes, no⟩ := h
  refine ⟨b, hb, fun e a ha => ?_, fun e => r (no e)⟩
  obtain ⟨ec, ed, t, ht, k⟩ := yes e
  exact ⟨⟨ec, ed⟩, .ref a, at1s hl, _, _, t, rfl, fun u hu => hu, ht, Nat.le_of_ble_eq_true rfl, fun p o hp ho => hD _ _ _ (at2 hl) (k p o hp ho)⟩
end
theorem takes_len3 {X : Cx} {W : WX} (t : Takes X W) : Takes X fun cls d σ H => σ.length = X.N.length → W cls d σ H := fun u s' ⟨a, B, sI, pins, σ, H, cls, d, e, I, r1, r2, r3, r4, r5, r6, w⟩ =>
  t u s' ⟨a, B, sI, pins, σ, H, cls, d, e, I, r1, r2, r3, r4, r5, r6, w I.len⟩
/-- what a def of one word [a, en, fd] asks of its scope and of the clauses -/
structure PairS (X : Cx) (a en fd : Str) (sg : Scope) (hds : List ExceptHandler) (l : List (Value × (Addr → Value → Option Addr → TS))) : Prop where
  nd : [a, en, fd].Nodup
  he : sg.names.lookup en = some .local
  hf : sg.names.lookup fd = some .local
  d1 : (fd == ("__debug__" : Str)) = false
  d2 : (fd == ("__classdict__" : Str)) = false
  hh : ∀ (x : Str) (g : Addr) (cdg : Value) (s : Shared) (H : Hp), HdsAs (cxOf C8.CX0 X.prog X.w X.K X.mg X.base [a, en, fd] x sg g cdg X.A X.stack s H C8.E0).nox en hds l
theorem pair_gives {hd0 : ExceptHandler} {hds : List ExceptHandler} {l : List (Value × (Addr → Value → Option Addr → TS))} {p1 p2 p3 p4 p5 p6 p7 p8 p9 : Pos} {j1 k1 : Nat} (ek : VK → XK) (Z : PairS X a en fd sg (hd0 :: hds) l)
    (hw : ∀ (D : Ends) (Q : VK) (σ : L2.St) (H : Hp) (cls : Value) (d : Option Addr), σ.length = 3 → (∀ (σ' : L2.St) v H', σ'[2]? = some (some v) → Q v H' → D.nx σ' H') → ek Q cls d H → wEach X.K 1 (fun _ _ _ _ => False) D l cls d σ H) :
    GivesTo X [a, en, fd] x sg g cdg [.Try [.Assign [.Name fd p1] (.Tuple [.Constant (.str w0) j1 p2, .Call (.Name a p3) [] [] p4] k1 p5) p6] (hd0 :: hds) [] [] p7, .Return (some (.Name fd p8)) p9] a q (fun tl H Q => tl (ek Q) H (pairX w0 Q)) := by
  intro f c' s H Q tl act hc h
  letI : Bse := noX
  refine ⟨_, pss_cons (ps_try_each (X := (cxOf C8.CX0 X.prog X.w X.K X.mg X.base [a, en, fd] x sg g cdg X.A X.stack s H C8.E0).nox) (n := en) (i := 1) (Wout := fun _ _ _ _ => False)
      (tb := fun W D σ H => ∃ Ech : XK, (∀ cls d (σ' : L2.St) H', Ech cls d H' → σ'.length = 3 → W cls d σ' H') ∧ σ[0]? = some (some (.ref f)) ∧ σ.length = 3 ∧ H c' = some (CodeO c' q) ∧ tl Ech H fun v H1 => [V.str w0, v].length ≤ sizeLine ∧ ∀ (p : Addr) (o : Obj), H1 p = none → o.dict = none → D.nx (σ.set 2 (some (.ref p))) (upd H1 p (.frz o (.tup [.str w0, v]))))
      rfl rfl Z.nd rfl Z.he L2.takes0 (fun W pn xe tk _ => ?_) (Z.hh x g cdg s H)) (pss_one (ps_ret (pe_var (i := 2) rfl (.inl Z.hf) Z.d1 Z.d2))), ?_⟩
  · refine ⟨fun pins s' σ H' D I h' => ?_⟩
    obtain ⟨Ech, hW, h1, hl, h2, h3⟩ := h'
    have hp := act (fun cls d σ H => σ.length = 3 → W cls d σ H) pn xe Ech p3 p4 (takes_len3 tk) hW
    have hq := pss_one (ps_asg (pos := p6) (pe_tupF (pos := p5) (x1 := k1) (pa_cons (pe_str (x := w0) (pos := p2) (j := j1)) (pa_cons hp pa_nil))) (pg_name (X := (cxOf C8.CX0 X.prog X.w X.K X.mg X.base [a, en, fd] x sg g cdg X.A X.stack s H C8.E0).nox.tr pn xe) (i := 2) (pos := p1) Z.nd rfl (.inl Z.hf) (.inr Z.hf)))
    refine hq.run pins s' σ H' D I ⟨h1, h2, ?_⟩
    exact h3
  · refine ⟨ek Q, fun cls d σ' H' he hl => hw _ Q σ' H' cls d hl (fun σ2 v H2 e2 q2 => ⟨v, e2, q2⟩) he, rfl, rfl, hc, ?_⟩
    exact h
end
end DL

/-! x(lambda: body), the tables told as functions of the place; the lambda's body is read over the maker's slots -/
namespace DL
open PySem PySem.Spec PyProof.Rows L2 LamX NdefX
variable [Tbs]
section
variable {X : Cx} {pins : List (Addr × Obj)} {σ : L2.St} {H : Hp} {s : Shared}
theorem lm_make0 {nm : Nat → Nat → Str} {c P : Addr} {params : Arguments} {body : Expr} {scope : Scope} {pos : Pos} {E : Value → Shared → Prop} {Q : Value → Shared → Prop} (I : Inv X pins σ H s) (TB : TabB X.base X.mg c P) (hcode : X.env.code = .ref c)
    (hm : (P, nm) ∈ Tbs.T) (hn : nm pos.line pos.col = X.env.qual ++ "<lambda>") (hu : ∀ p ∈ Tbs.T, p.1 = P → p.2 = nm) (hT : Tab H) (hdef : defaultsOf params X.env = ([], [])) (hfree : ∀ y ∈ scope.names, y.2 = .free → ∃ c, X.env.cells.lookup y.1 = some c)
    (h : ∀ (f c' : Addr) (pm ctv : Value) (H1 : Hp) (s' : Shared), Inv X pins σ H1 s' → Kp H H1 → Tab H1 →
      s'.heap.get? f = some (PySem.W.kla_obj "<lambda>" (X.env.qual ++ "<lambda>") params body scope (cloFrom X.env.cells scope.names []) pm c' ctv) → H1 f = none → f ∉ frs X.stack → H1 c' = some (CodeO c' (X.env.qual ++ "<lambda>")) → Q (.ref f) s') :
    wpAny (model X.prog X.w) X.A (eval (.Lambda params body scope pos) X.env) Q E s := by
  obtain ⟨tab, tq, ht, hal⟩ := (show TabN H P nm from hT _ hm)
  refine PySem.W.kla_eval hdef ?_
  have bp : s.heap.BuiltinsAt X.mg P := TB.bm.keeps I.bk
  have tq2 : s.heap.get? P = some { cls := .none, data := .fields tab } := I.hok P _ tq
  have nofr : ∀ f, s.heap.objs.size ≤ f → f ∉ frs X.stack := fun f hf z => by
    rcases List.mem_cons.mp (I.stkSub _ z) with e | e
    · have h1 := I.lt
      rw [← e] at h1
      exact Nat.lt_irrefl _ (Nat.lt_of_lt_of_le h1 hf)
    · exact I.nofs hf e
  cases hc : codeAmong pos tab.toList with
  | none =>
    refine PySem.W.kla_makeFunction (mg := X.mg) (c := c) (P := P) (ps := tab) (closure_ok hfree) I.ok.glob (I.mod.glob.keeps I.bk) hcode (TB.code.keeps I.bk) tq2 ht hc TB.gP bp fun c' ctv h' tk hx1 ge1 lt1 rc1 tb1 => ?_
    obtain ⟨cc, oc, vs, t, q2, ho1, hd1, hv1⟩ := rc1
    cases q2
    have nc : H c' = none := I.hok.fresh ge1
    have hsz : s.heap.objs.size ≤ h'.objs.size := Nat.le_trans ge1 (Nat.le_of_lt lt1)
    have J1 := inv_table (t' := tk) (more := #[rawInt pos.line, rawInt pos.col, .ref c']) (h' := h'.push (PySem.W.kla_obj "<lambda>" (X.env.qual ++ "<lambda>") params body scope (cloFrom X.env.cells scope.names []) ((X.mg "__name__").getD .none) c' ctv)) I tq
      (fun b o hb1 e => Heap.get?_push_of_some _ (hx1 b o hb1 e)) (Heap.get?_push_of_some _ tb1) ge1 ⟨oc, vs, t, Heap.get?_push_of_some _ ho1, hd1, hv1⟩
    have hE : Kp H (upd (upd H P (.tbl (tab ++ #[rawInt pos.line, rawInt pos.col, .ref c']))) c' (CodeO c' (X.env.qual ++ "<lambda>"))) := fun b o e => by
      rw [upd_ne (ne_of_none e nc)]
      by_cases z : b = P
      · rw [z, tq] at e
        rw [z, upd_same]
        exact .inr ⟨tab, _, (Option.some.inj e).symm, rfl⟩
      · rw [upd_ne z]
        exact .inl e
    have hE2 : ∀ b o, H b = some o → b ≠ P → upd (upd H P (.tbl (tab ++ #[rawInt pos.line, rawInt pos.col, .ref c']))) c' (CodeO c' (X.env.qual ++ "<lambda>")) b = some o := fun b o e n => by
      rw [upd_ne (ne_of_none e nc), upd_ne n]
      exact e
    have ncp : ∀ cx q, H cx = some (CodeO cx q) → cx ≠ P := fun cx q e z => by
      rw [z, tq] at e
      exact codeO_ne tab (Option.some.inj e).symm
    have et : (tab ++ #[rawInt pos.line, rawInt pos.col, .ref c']).toList = tab.toList ++ [rawInt pos.line, rawInt pos.col, .ref c'] := by simp
    have TT : Tab (upd (upd H P (.tbl (tab ++ #[rawInt pos.line, rawInt pos.col, .ref c']))) c' (CodeO c' (X.env.qual ++ "<lambda>"))) := fun p hp => by
      by_cases hb1 : p.1 = P
      · rw [hu p hp hb1, hb1]
        refine ⟨_, by rw [upd_ne (ne_of_none tq nc), upd_same], by rw [et]; exact PySem.TriplesOk_snoc _ _ _ _ ht, fun p' cv qc => ?_⟩
        rw [et] at qc
        rcases among_app2 _ ht qc with z | ⟨z, y1, y2⟩
        · obtain ⟨cx, q1, q2⟩ := hal p' cv z
          exact ⟨cx, q1, hE2 _ _ q2 (ncp _ _ q2)⟩
        · refine ⟨c', z, ?_⟩
          rw [← y1, ← y2, hn]
          exact upd_same
      · obtain ⟨tab2, w1, w2, w3⟩ := hT p hp
        refine ⟨tab2, by rw [upd_ne (ne_of_none w1 nc), upd_ne hb1]; exact w1, w2, fun p' cv qc => ?_⟩
        obtain ⟨cx, q1, q2⟩ := w3 p' cv qc
        exact ⟨cx, q1, hE2 _ _ q2 (ncp _ _ q2)⟩
    refine h h'.objs.size c' ((X.mg "__name__").getD .none) ctv _ _ J1 hE TT (Heap.get?_push_size _ rfl) ?_ (nofr _ hsz) upd_same
    have n1 : h'.objs.size ≠ c' := Nat.ne_of_gt lt1
    have n2 : h'.objs.size ≠ P := Nat.ne_of_gt (Nat.lt_of_lt_of_le (Heap.lt_size tq2) hsz)
    rw [upd_ne n1, upd_ne n2]
    exact I.hok.fresh hsz
  | some cv =>
    obtain ⟨c', e, co1⟩ := hal pos cv hc
    subst e
    rw [hn] at co1
    refine PySem.W.kla_makeFunctionHit (mg := X.mg) (c := c) (P := P) (ps := tab) (closure_ok hfree) I.ok.glob (I.mod.glob.keeps I.bk) hcode (TB.code.keeps I.bk) tq2 ht hc bp fun ctv h' tk hx1 hsz => ?_
    have J1 : Inv X pins σ H { s with heap := h'.push (PySem.W.kla_obj "<lambda>" (X.env.qual ++ "<lambda>") params body scope (cloFrom X.env.cells scope.names []) ((X.mg "__name__").getD .none) c' ctv), toks := tk } := I.kept fun b o e => Heap.get?_push_of_some _ (hx1 b o e)
    exact h h'.objs.size c' ((X.mg "__name__").getD .none) ctv H _ J1 (Kp.refl H) hT (Heap.get?_push_size _ rfl) (I.hok.fresh hsz) (nofr _ hsz) co1
end
def tLamK (TT : (XK → Hp → VK → Prop) → Hp → VK → Prop) (t : XK → TE) : TE := fun σ H Q => Tab H ∧ ∀ H1, Kp H H1 → Tab H1 → TT (fun E H' Q' => t E σ H' Q') H1 Q
section
variable {X : Cx}
/-- x(lambda: body) -/
theorem pe_lamcallK {TT : (XK → Hp → VK → Prop) → Hp → VK → Prop} {nm : Nat → Nat → Str} {x a : Str} {g c P : Addr} {k : Nat} {pg : Arguments} {bg : List Stmt} {sg : Scope} {dV kV doc pm cdv ct oc : Value} {an od : Option Addr} {osl : Array (Option Value)} {Ng : List Str}
    {params : Arguments} {body : Expr} {scope : Scope} {t : XK → TE} {p lpos pos : Pos} (hg : Gl X x) (hm : X.mg x = some (.ref g)) (hk : PySem.W.keepIn X.K (.ref g) = true)
    (lk : X.K.lookup g = some ⟨oc, od, .func (PySem.W.fnOf x x pg bg sg dV kV doc pm an cdv ct), osl⟩) (hcg : PySem.W.codeIn X.K cdv x = true) (hb : L2.Binds X.K (PySem.W.fnOf x x pg bg sg dV kV doc pm an cdv ct) [a] []) (Sg : FnScope Ng [a] sg) (hNg : Ng[0]? = some a) (hva : Vis sg a)
    (hG : GivesTo X Ng x sg g cdv bg a (X.env.qual ++ "<lambda>") TT)
    (TB : TabB X.base X.mg c P) (hcode : X.env.code = .ref c) (hmT : (P, nm) ∈ Tbs.T) (hn : nm lpos.line lpos.col = X.env.qual ++ "<lambda>") (hu : ∀ p ∈ Tbs.T, p.1 = P → p.2 = nm) (hr : Room (k + 2) X.A) (L : LamS X.env.scope scope) (hdef : defaultsOf params X.env = ([], []))
    (hbind : ∀ (q : Str) (cl : List (Str × Addr)) (pm cv ctv : Value), bindArgs (PySem.W.kla_fn "<lambda>" q params body scope cl pm cv ctv) ⟨[], []⟩ = pure [])
    (hbody : ∀ (A : Around) (outer : List Env) (s : Shared) (H : Hp) (E : XK) (f c' : Addr), Room k (A.deeper (lamEnv X scope s.heap.objs.size f c')) → PE (lamCx X A outer s H E scope f c') body (t E))
    (hdb : (x == ("__debug__" : Str)) = false := by decide) (hd : (a == ("__debug__" : Str)) = false := by decide) (hcd : (a == ("__classdict__" : Str)) = false := by decide) :
    PE X (.Call (.Name x p) [.Lambda params body scope lpos] [] pos) (tLamK TT t) := by
  refine ⟨fun pins s σ H Q I h => ?_⟩
  obtain ⟨hT, h⟩ := h
  refine wpAny_Call_Name_kw (ld_glob I hg hm ?_ hdb)
  refine PySem.W.callWith_K (h₀ := X.base) I.ok.mod.kin hk ?_ (by rfl) (by rfl)
  show wpAny _ _ (spliced ((false, eval (.Lambda params body scope lpos) X.env) :: backTo pos (starEach [] X.env))) _ _ s
  refine Calls.spliced_cons (lm_make0 I TB hcode hmT hn hu hT hdef (L.has I.ok) fun f c' pm' ctv H1 s' I1 eN T1 hf hfn hfr hco => ?_)
  refine Calls.spliced_nil ⟨I1.kIn, ?_⟩
  have rc : codeAny (model X.prog X.w) X.A (.call (.ref g) ⟨[.ref f], []⟩) (CR C8.CX0 X.stack X.prog X.w H1 s' Q C8.E0) s' := by
    refine run_ofS (N := Ng) (ps := [a]) (us := [.ref f]) (vs := [.ref f]) lk hcg Sg hr I1.env0 (hb s' [.ref f] I1.kIn rfl) (.cons rfl .nil) rfl fun hr' => ?_
    obtain ⟨t', ht', hq'⟩ := hG f c' s' H1 Q (fun E H' Q' => t E σ H' Q') (fun W pn xe E p1 p2 tk hW => pe_act (i := 0) I1 L hf hfn hfr (hbind _ _ _ _ _) tk hW hr' (fun A outer s H hr2 => hbody A outer s H E f c' hr2) hNg hva hd hcd) hco (h H1 eN T1)
    exact ⟨t', ht'.nox, hq'⟩
  refine wpAny_call (codeAny_mono rc fun r s2 hq => ?_)
  cases r with
  | error e => exact (show False from hq).elim
  | ok fl =>
    cases fl with
    | ret u => exact I1.after hq
    | next => exact False.elim hq
    | brk => exact False.elim hq
    | cont => exact False.elim hq
end
end DL

/-! the told lambda, over data: x(lambda: body) where x tells a pair, a word first -/
namespace DL
open PySem PySem.Spec PyProof.Rows L2 LamX
variable [Tbs]
/-! ### a base that keeps all but the pots -/
open Classical in
/-- all of a heap but the pots -/
noncomputable def lessP (H : Hp) (P : List Addr) : Hp := fun a => if a ∈ P then none else H a
theorem lessP_in {H : Hp} {P : List Addr} {a : Addr} (h : a ∈ P) : lessP H P a = none := if_pos h
theorem lessP_out {H : Hp} {P : List Addr} {a : Addr} (h : a ∉ P) : lessP H P a = H a := if_neg h
theorem lessP_none {H : Hp} {P : List Addr} {a : Addr} (h : lessP H P a = none) : a ∈ P ∨ H a = none := by
  by_cases z : a ∈ P
  · exact .inl z
  · rw [lessP_out z] at h
    exact .inr h
theorem lessP_some {H : Hp} {P : List Addr} {a : Addr} {o : HO} (h : lessP H P a = some o) : a ∉ P ∧ H a = some o := by
  by_cases z : a ∈ P
  · rw [lessP_in z] at h; cases h
  · rw [lessP_out z] at h
    exact ⟨z, h⟩
noncomputable abbrev fastB (f : Fz) (H : Hp) : Bs := ⟨lessP H f.P, f.F, f.P⟩
section
variable {K : PySem.W.Frag} {b : Bs} {f f' : Fz} {ρ ρ' : DS} {σ σ' : L2.St} {H H' : Hp}
theorem Sim.fast (S : Sim K b f ρ σ H) (hn : ∀ (i : Nat) (c : Ct), ρ[i]? ≠ some (.obj c)) : Sim K (fastB f H) f ρ σ H where
  len := S.len
  bs := fun a o e => .inl (lessP_some e).2
  fs := S.fs
  f0 := Same.refl _
  fr := fun a o e => .inl ⟨o, e⟩
  p0 := fun p h => h
  pt := fun p hp => by
    obtain ⟨h1, h2, h3⟩ := S.pt p hp
    exact ⟨h1, lessP_in hp, h3⟩
  sl := fun i s e => by
    have q := S.sl i s e
    cases s with
    | obj c => exact absurd e (hn i c)
    | no => exact q
    | fz d => exact q
    | pot => exact q
    | exc a dd cls kvs => exact q
  sep := S.sep
  tb := S.tb
theorem Sim.slow_none (S : Sim K b f ρ σ H) {a : Addr} (h : lessP H f.P a = none) : b.B a = none := by
  rcases lessP_none h with z | z
  · exact (S.pt a z).2.1
  · exact S.bs.free z
theorem Sim.slow (S : Sim K b f ρ σ H) (S1 : Sim K (fastB f H) f' ρ' σ' H') : Sim K b f' ρ' σ' H' where
  len := S1.len
  bs := fun a o e => by
    have np : a ∉ f.P := fun z => by
      rw [(S.pt a z).2.1] at e
      cases e
    rcases S.bs a o e with r | ⟨ps, ps', rfl, r⟩
    · exact S1.bs a o (by show lessP H f.P a = _; rw [lessP_out np]; exact r)
    · rcases S1.bs a _ (show lessP H f.P a = some (.tbl ps') by rw [lessP_out np]; exact r) with q | ⟨_, qs, _, q⟩
      · exact .inr ⟨ps, ps', rfl, q⟩
      · exact .inr ⟨ps, qs, rfl, q⟩
  fs := S1.fs
  f0 := S.f0.trans S1.f0
  fr := fun a o e => by
    rcases S1.fr a o e with ⟨o', e'⟩ | e'
    · exact S.fr a o' e'
    · exact .inr (S.slow_none e')
  p0 := fun p h => S1.p0 p (S.p0 p h)
  pt := fun p hp => by
    obtain ⟨h1, h2, h3⟩ := S1.pt p hp
    exact ⟨h1, S.slow_none h2, h3⟩
  sl := fun i s e => by
    have q := S1.sl i s e
    cases s with
    | obj c =>
      obtain ⟨p, u, e1, h1, h2, h3, h4, h5⟩ := q
      exact ⟨p, u, e1, h1, S.slow_none h2, h3, h4, h5⟩
    | no => exact q
    | fz d => exact q
    | pot => exact q
    | exc a dd cls kvs => exact q
  sep := S1.sep
  tb := S1.tb
theorem Sim.nx (S1 : Sim K (fastB f H) f' ρ' σ' H') : Nx f H f' H' where
  ff := S1.f0
  kp := fun a o e n => Stays.mk (S1.bs a o (by show lessP H f.P a = _; rw [lessP_out n]; exact e))
  pp := S1.p0
  pn := fun p hp => lessP_none (S1.pt p hp).2.1
end
/-! ### all own objects frozen -/
def frzS : Sl → Sl
  | .obj c => .fz c.dat
  | s => s
def frzAll (ρ : DS) : DS := ρ.map frzS
theorem frzAll_set {ρ : DS} {i : Nat} {c : Ct} (h : ρ[i]? = some (.obj c)) : frzAll (ρ.set i (.fz c.dat)) = frzAll ρ := by
  unfold frzAll
  refine List.ext_getElem? fun j => ?_
  rw [List.getElem?_map, List.getElem?_map]
  by_cases z : i = j
  · subst z
    rw [h, List.getElem?_set_self (List.getElem?_eq_some_iff.mp h).1]
    rfl
  · rw [List.getElem?_set_ne z]
theorem frzAll_none {ρ : DS} (hn : ∀ (i : Nat) (c : Ct), ρ[i]? ≠ some (.obj c)) : frzAll ρ = ρ := by
  unfold frzAll
  refine List.ext_getElem? fun j => ?_
  rw [List.getElem?_map]
  cases q : ρ[j]? with
  | none => rfl
  | some s =>
    cases s with
    | obj c => exact absurd q (hn j c)
    | no => rfl
    | fz d => rfl
    | pot => rfl
    | exc a dd cls kvs => rfl
def nOwn (ρ : DS) : Nat := ρ.countP isOwn
theorem nOwn_set : ∀ {ρ : DS} {i : Nat} {c : Ct}, ρ[i]? = some (.obj c) → nOwn (ρ.set i (.fz c.dat)) < nOwn ρ
  | [], i, c, h => by simp at h
  | s :: r, 0, c, h => by
    have e : s = .obj c := by simpa using h
    subst e
    show (Sl.fz c.dat :: r).countP isOwn < (Sl.obj c :: r).countP isOwn
    rw [List.countP_cons_of_neg (by simp [isOwn]), List.countP_cons_of_pos (by rfl)]
    omega
  | s :: r, i + 1, c, h => by
    have q := nOwn_set (ρ := r) (i := i) (c := c) (by simpa using h)
    unfold nOwn at q ⊢
    rw [List.set_cons_succ, List.countP_cons, List.countP_cons]
    omega
theorem Sim.frzAll {K : PySem.W.Frag} {b : Bs} {σ : L2.St} {G : Hp → Prop} : ∀ (n : Nat) {f : Fz} {ρ : DS} {H : Hp}, nOwn ρ ≤ n → Sim K b f ρ σ H → (∀ f' H', Sim K b f' (DL.frzAll ρ) σ H' → Nx f H f' H' → f'.P = f.P → G H') → FrT G H := by
  intro n
  induction n with
  | zero =>
    intro f ρ H hn S q
    have z : ∀ (i : Nat) (c : Ct), ρ[i]? ≠ some (.obj c) := fun i c e => by
      have := nOwn_set e
      omega
    have q' := q f H
    rw [frzAll_none z] at q'
    exact .here (q' S (Nx.refl f H) rfl)
  | succ n ih =>
    intro f ρ H hn S q
    by_cases z : ∃ (i : Nat) (c : Ct), ρ[i]? = some (.obj c)
    · obtain ⟨i, c, e⟩ := z
      letI : Bse := noX
      obtain ⟨p, e1, fr⟩ := S.freeze e
      refine FrT.bind (fr (fun H' => FrT G H') fun F' H' S' n' dp => ?_) fun H h => h
      refine ih (f := ⟨F', f.P⟩) (ρ := ρ.set i (.fz c.dat)) (by have := nOwn_set e; omega) S' fun f2 H2 S2 n2 e2 => ?_
      rw [frzAll_set e] at S2
      exact q f2 H2 S2 (n'.trans S.pots n2) e2
    · have z2 : ∀ (i : Nat) (c : Ct), ρ[i]? ≠ some (.obj c) := fun i c e => z ⟨i, c, e⟩
      have q' := q f H
      rw [frzAll_none z2] at q'
      exact .here (q' S (Nx.refl f H) rfl)
theorem frzAll_no {ρ : DS} (i : Nat) (c : Ct) : (frzAll ρ)[i]? ≠ some (.obj c) := fun h => by
  unfold frzAll at h
  rw [List.getElem?_map] at h
  cases q : ρ[i]? with
  | none => rw [q] at h; cases h
  | some s =>
    rw [q] at h
    cases s <;> cases h
/-! ### clauses as data -/
inductive Cl where
  | F (C : Addr) (fld w : Str)
  | N (C : Addr) (w : Str)
  | I (C S : Addr) (w : Str)
def ekOf (K : PySem.W.Frag) : List Cl → VK → XK
  | [], _ => fun _ _ _ => False
  | .F C fld w :: r, Q => ckF K C fld w Q (ekOf K r Q)
  | .N C w :: r, Q => ckN K C w Q (ekOf K r Q)
  | .I C S w :: r, Q => ckI K C S w Q (ekOf K r Q)
def suOf [Bse] (K : PySem.W.Frag) : List Cl → List (Value × (Addr → Value → Option Addr → TS))
  | [] => []
  | .F C fld w :: r => (.ref C, suF fld w C) :: suOf K r
  | .N C w :: r => (.ref C, suN w) :: suOf K r
  | .I C S w :: r => (.ref C, suI K C S w) :: suOf K r
theorem ek_each [Bse] {K : PySem.W.Frag} {D : Ends} {Q : VK} {σ : L2.St} {H : Hp} {cls : Value} {d : Option Addr} (hl : σ.length = 3) (hD : ∀ (σ' : L2.St) v H', σ'[2]? = some (some v) → Q v H' → D.nx σ' H') :
    ∀ (cs : List Cl), ekOf K cs Q cls d H → wEach K 1 (fun _ _ _ _ => False) D (suOf K cs) cls d σ H
  | [], h => h
  | .F C fld w :: r, h => we_F hl hD (ek_each hl hD r) h
  | .N C w :: r, h => we_N hl hD (ek_each hl hD r) h
  | .I C S w :: r, h => we_I hl hD (ek_each hl hD r) h
/-- what an exception of the body comes to, over data -/
def xrOf (K : PySem.W.Frag) : List Cl → (D → Prop) → Value → List (Str × D) → Prop
  | [], _ => fun _ _ => False
  | .F C fld w :: r, R => fun cls kvs => ∃ b, PySem.W.exmOne K cls (.ref C) = some b ∧ (b = true → cls = .ref C ∧ ∃ d, kvs.lookup fld = some d ∧ R (.tuple [.str w, d])) ∧ (b = false → xrOf K r R cls kvs)
  | .N C w :: r, R => fun cls kvs => ∃ b, PySem.W.exmOne K cls (.ref C) = some b ∧ (b = true → R (.tuple [.str w, .none])) ∧ (b = false → xrOf K r R cls kvs)
  | .I C S w :: r, R => fun cls kvs => ∃ b, PySem.W.exmOne K cls (.ref C) = some b ∧ (b = true → cls = .ref C ∧ kvs = [] ∧ ∃ t, PySem.W.kitOne K (.ref C) (.ref S) = some t ∧ R (.tuple [.str w, .bool t])) ∧ (b = false → xrOf K r R cls kvs)
section
variable {K : PySem.W.Frag} {R : D → Prop} {Q : VK} {F H : Hp} {cls : Value} {kvs : List (Str × D)} {d : Option Addr}
theorem pair_q {w : Str} {v : V} {z : D} (fs : Same F H) (q : ∀ z v F2 H2, R z → Gr F H F2 H2 → Dp K F2 v z → Q v H2) (dp : Dp K F v z) (r : R (.tuple [.str w, z])) : pairK w Q v H := fun p o hp ho => by
  have g : Gr F H (upd F p (.frz o (.tup [V.str w, v]))) (upd H p (.frz o (.tup [V.str w, v]))) := Gr.new fs hp tup_ntbl
  exact q _ _ _ _ r g (.tup (.new upd_same ho) (.cons (.str w) (.cons (dp_mono g.ff z v dp) .nil)))
theorem xr_ek (fs : Same F H) (xo : XdO K F kvs d) (q : ∀ z v F2 H2, R z → Gr F H F2 H2 → Dp K F2 v z → Q v H2) : ∀ (cs : List Cl), xrOf K cs R cls kvs → ekOf K cs Q cls d H
  | [], h => h
  | .F C fld w :: r, ⟨b, e, yes, no⟩ => ⟨b, e, fun hb => by
      obtain ⟨ec, dv, hl, hr⟩ := yes hb
      cases d with
      | none =>
        rw [show kvs = [] from xo] at hl
        cases hl
      | some dd =>
        obtain ⟨_, fl, h1, h2⟩ := xo
        letI : Bse := noX
        obtain ⟨v, h3, h4⟩ := xd_lookup h2 hl
        exact ⟨ec, dd, fl, v, rfl, fs _ _ h1, h3, pair_q fs q h4 hr⟩, fun hb => xr_ek fs xo q r (no hb)⟩
  | .N C w :: r, ⟨b, e, yes, no⟩ => ⟨b, e, fun hb => pair_q fs q .non (yes hb), fun hb => xr_ek fs xo q r (no hb)⟩
  | .I C S w :: r, ⟨b, e, yes, no⟩ => ⟨b, e, fun hb => by
      obtain ⟨ec, ek, t, ht, hr⟩ := yes hb
      rw [ek] at xo
      exact ⟨ec, xo.nil, t, ht, pair_q fs q (.bl t) hr⟩, fun hb => xr_ek fs xo q r (no hb)⟩
end
theorem pe_ex {ι : Type} {X : Cx} {e : Expr} {t : ι → TE} (h : ∀ i, PE X e (t i)) : PE X e fun σ H Q => ∃ i, t i σ H Q := ⟨fun pins s σ H Q I ⟨i, q⟩ => (h i).run pins s σ H Q I q⟩
/-- the tables grow, all else stands -/
theorem gr_kp {F H H1 : Hp} (fs : Same F H) (n : ∀ a o, F a = some o → Fzn o) (kp : Kp H H1) (t1 : Tab H1) : Gr F H F H1 where
  hh := kp
  ff := Same.refl _
  fh := fun a o e => by
    rcases kp a o (fs a o e) with r | ⟨ps, _, z, _⟩
    · exact r
    · rw [z] at e
      exact (n a _ e).elim
  nw := fun a o e => .inl ⟨o, e⟩
  tb := fun t => ⟨t1, t.z, fun z => by
    obtain ⟨o', e⟩ := t.m z
    rcases kp _ _ e with r | ⟨ps, _, z, _⟩
    · exact ⟨o', r⟩
    · cases z⟩
/-- frozen slots stand through a run that may have raised -/
theorem Sim.again {K : PySem.W.Frag} {b : Bs} {f f' : Fz} {ρ ρ' : DS} {σ σ' : L2.St} {H H' : Hp} (S : Sim K b f ρ σ H) (hn : ∀ (i : Nat) (c : Ct), ρ[i]? ≠ some (.obj c)) (S1 : Sim K b f' ρ' σ' H') (n : Nx f H f' H') : Sim K b f' ρ σ H' where
  len := S.len
  bs := S1.bs
  fs := S1.fs
  f0 := S1.f0
  fr := S1.fr
  p0 := S1.p0
  pt := S1.pt
  sl := fun i s e => by
    have q := S.sl i s e
    cases s with
    | obj c => exact absurd e (hn i c)
    | no => exact q
    | fz d => obtain ⟨v, e1, h⟩ := q; exact ⟨v, e1, dp_mono n.ff d v h⟩
    | pot => obtain ⟨p, e1, h⟩ := q; exact ⟨p, e1, n.pp p h⟩
    | exc a dd cls kvs => obtain ⟨e1, fs, h1, h2⟩ := q; exact ⟨e1, fs, n.ff _ _ h1, xdp_mono n.ff h2⟩
  sep := fun i j s t p hi hj hs ht e1 e2 => by
    cases s with
    | obj c => exact absurd hi (hn i c)
    | no => cases hs
    | fz d => cases hs
    | pot => cases hs
    | exc a dd cls kvs => cases hs
  tb := S1.tb
/-- x(lambda: body): a pair of w0 and what body tells, or what the clauses tell -/
def dTold (K : PySem.W.Frag) (cs : List Cl) (w0 : Str) (T : Bse → TD) : TD := fun ρ R => ∀ W, T ⟨W, fun cls kvs _ => xrOf K cs (fun z => R z (frzAll ρ)) cls kvs⟩ (frzAll ρ) fun d ρ' => R (.tuple [.str w0, d]) ρ'
section
variable [B0 : Bse] {X : Cx} {e : Expr} {cs : List Cl} {w0 : Str} {T : Bse → TD}
def tB (K : PySem.W.Frag) (T : Bse → TD) (E : XK) : TE := fun σ H Q => ∃ XR, @lift _ ⟨fun cls d _ H' => E cls d H', XR⟩ K (T ⟨fun cls d _ H' => E cls d H', XR⟩) σ H Q
theorem de_told (h : PE X e (tLamK (fun tl H Q => tl (ekOf X.K cs Q) H (pairX w0 Q)) (tB X.K T))) : DE X e (dTold X.K cs w0 T) :=
  PE.weak (PE.pre h) fun σ H Q ⟨b, f, ρ, R, S, t, q⟩ => S.frzAll (nOwn ρ) (Nat.le_refl _) fun f0 H0 S0 n0 _ => ⟨S0.tb.t, fun H1 kp T1 => by
    have g := gr_kp S0.fs S0.tb.z kp T1
    have S2 := S0.grow g
    have S3 := S2.fast frzAll_no
    have n12 : Nx f H ⟨f0.F, f0.P⟩ H1 := n0.trans S.pots (Nx.of_gr g)
    have lw : @ExL _ ⟨fun cls d _ H' => ekOf X.K cs Q cls d H', fun cls kvs _ => xrOf X.K cs (fun z => R z (frzAll ρ)) cls kvs⟩ X.K (fastB ⟨f0.F, f0.P⟩ H1) := fun cls kvs ρ' σ' f' H' d xr S' xo =>
      xr_ek S'.fs xo (fun z v F2 H2 r g2 dp => by
        have S4 := S2.slow (S3.again frzAll_no S' S'.nx)
        exact q z (frzAll ρ) v ⟨F2, f'.P⟩ H2 r (S4.grow g2) ((n12.trans S.pots S'.nx).trans S.pots (Nx.of_gr g2)) dp) cs xr
    refine ⟨_, ⟨fastB ⟨f0.F, f0.P⟩ H1, lw⟩, ⟨f0.F, f0.P⟩, frzAll ρ, _, S3, t _, fun d ρ' v f' H' r S' n' dp => ?_⟩
    refine PairK.x fun p o hp ho => ?_
    have g2 : Gr f'.F H' (upd f'.F p (.frz o (.tup [V.str w0, v]))) (upd H' p (.frz o (.tup [V.str w0, v]))) := Gr.new S'.fs hp tup_ntbl
    exact q _ ρ' _ ⟨upd f'.F p (.frz o (.tup [V.str w0, v])), f'.P⟩ _ r ((S2.slow S').grow g2) ((n12.trans S.pots n').trans S.pots (Nx.of_gr g2)) (.tup (.new upd_same ho) (.cons (.str w0) (.cons (dp_mono g2.ff d v dp) .nil)))⟩
end
end DL

/-! an exception class of the program over any builtin base, its __init__ without fields; raise C() -/
namespace DL
open PySem PySem.Spec PyProof.Rows L2
/-- what the written part says of the class, over the base T -/
structure OexT (K : PySem.W.Frag) (T newId initId : String) (bmB : List Value) (C : Addr) : Prop where
  cls : ∃ nm q N bs bm sn sub ab col dd k0 k1 k2 k3 k5, K.lookup C = some (excClassObj nm q C N bs bm true sn sub ab col dd k0 k1 k2 k3 k5 newId) ∧ ∀ Y : String, (bm : List Value).contains (.type Y) = bmB.contains (.type Y)
  exC : PySem.W.subIn K (.ref C) (.type "BaseException") = some true
  tyC : PySem.W.typeIn K (.ref C) = some (.type "type")
  kC : PySem.W.keepIn K (.ref C) = true
section
variable {X : Cx} {pins : List (Addr × Obj)} {σ : L2.St} {H : Hp} {s : Shared} {a C : Addr} {T newId initId : String} {bmB : List Value} {A : Around} {E : Value → Shared → Prop}
theorem tinit_ok {us : List Value} {Q : Value → Shared → Prop} (F : ExcBaseFacts T newId initId bmB) (O : OexT X.K T newId initId bmB C) (I : Inv X pins σ H s) (e : H a = some (exo a C none)) (hl : us.length ≤ sizeLine) (h : ∀ s', Inv X pins σ H s' → Q .none s') :
    wpAny (model X.prog X.w) A (call (.builtin initId) (.ref a :: us)) Q E s := by
  obtain ⟨nm, q, N, bs, bm, sn, sub, ab, col, dd, k0, k1, k2, k3, k5, hC, hbm⟩ := O.cls
  obtain ⟨t1, ho⟩ := exo_at I.hok e
  obtain ⟨hp, g, d, t, os⟩ := s
  refine wpAny_call (PySem.HandSPX.init_base F hbm (I.kIn _ _ hC) ho hl fun h' t2 k hx => ?_)
  have J := I.write (t' := t) (x := a) (e := a) (o := exo a C none) (by rw [e]; exact True.intro) (.inl rfl) k ⟨_, hx⟩ (exo_ok hx)
  have eu : upd H a (exo a C none) = H := by
    funext b
    by_cases hb : b = a
    · rw [hb, upd_same, e]
    · rw [upd_ne hb]
  rw [eu] at J
  exact h _ J
end
/-- B.__init__(self, ..), B a class of the program that has T's __init__ -/
def tTI (K : PySem.W.Frag) (T newId initId : String) (bmB : List Value) (ta : TA) : TE := fun σ H Q => ta σ H fun vs H1 => ∃ (a C : Addr) (ws : List V), vs = .ref a :: ws ∧ ws.length ≤ 1000 ∧ OexT K T newId initId bmB C ∧ H1 a = some (exo a C none) ∧ Q .non H1
section
variable {X : Cx} {e : Expr} {es : List Expr} {ta : TA} {p1 p2 pos : Pos} {B : Addr} {x : Str} {mc : Value} {T newId initId : String} {bmB : List Value}
theorem pe_tinit {pl : Sem Bool} (F : ExcBaseFacts T newId initId bmB) (hg : Gl X x) (hm : X.mg x = some (.ref B)) (hdb : (x == ("__debug__" : Str)) = false) (hsp : PySem.W.specialIn X.K (.ref B) "__getattribute__" = some (some (.builtin "type.__getattribute__"))) (ht : PySem.W.typeIn X.K (.ref B) = some mc) (hr : PySem.W.readsIn X.K B mc = true)
    (hf : PySem.W.findCls X.K (.ref B) mc "__init__" = some (.val (.builtin initId))) (hfk : PySem.W.handedIn (.builtin initId) = true) (ha : PA X (e :: es) ta)
    (hc : eval (.Call (.Attribute (.Name x p1) "__init__" p2) (e :: es) [] pos) X.env = (do
      let who ← eval (.Name x p1) X.env
      standAt p2.atName
      let (g, me) ← holding [who] (getMethod who "__init__" pl)
      callWith pos g me (backTo pos (starEach (e :: es) X.env)) (backToKw pos (keywordEach [] X.env))) := by rfl)
    (hs : starEach (e :: es) X.env = (false, eval e X.env) :: starEach es X.env := by rfl) (hpl : (backTo pos (starEach es X.env)).any (·.1) = false := by rfl) :
    PE X (.Call (.Attribute (.Name x p1) "__init__" p2) (e :: es) [] pos) (tTI X.K T newId initId bmB ta) := by
  refine ⟨fun pins s σ H Q I h => ?_⟩
  refine PySem.W.methodCall_KW (ld_glob (hd := hdb) I hg hm ?_) hc
  obtain ⟨m, fr⟩ := I.fr
  refine PySem.W.method_of_cls fr I.ok.mod.kin hsp (PySem.W.cls_val fr I.ok.mod.kin ht hr hf hfk ?_)
  refine PyProof.Rows.callWith_method1 (thn (ha.run pos pins _ σ H _ (I.tok _) h) fun us t ⟨vs, H1, J, r1, a, C, ws, ev, hl, O, ea, q⟩ => ?_) hs hpl
  subst ev
  cases r1 with
  | @cons _ u _ ur ru rs =>
    have eu : u = Value.ref a := ru
    subst eu
    exact tinit_ok F O J ea (by rw [sizeLine_eq, ← Paired.length rs]; omega) fun s' L => ⟨.non, H1, L, rfl, q⟩
end
/-- C(): its __init__ keeps sp, which leaves the new exception without a dict -/
def tMkT (C : Addr) (sp : Sp) : L2.St → Hp → XK → Prop := fun σ H Q => ∀ a, H a = none → sp [.ref a] (upd H a (exo a C none)) (fun v H2 => v = .non ∧ H2 = upd H a (exo a C none) ∧ Q (.ref C) none H) (fun _ _ _ => False)
theorem mk_endT {X : Cx} {pins : List (Addr × Obj)} {σ : L2.St} {H1 : Hp} {Q : XK} {hp hp2 h2 : Heap} {g1 g2 : Array GenState} {d1 d2 : Drawn} {t1 t2 : Nat} {os1 os2 : OsState} {a C : Addr} (T : Raises X (.ref C)) (I1 : Inv X pins σ H1 ⟨hp, g1, d1, t1, os1⟩)
    (ha : hp.objs.size ≤ a) (k : ∀ b o, hp.get? b = some o → hp2.get? b = some o) (un : Un (frs X.stack) [] (upd H1 a (exo a C none)) (upd H1 a (exo a C none)) hp2 h2) (hok : HOk X.prog X.w (upd H1 a (exo a C none)) h2) (ho : os2 = os1) (hb : AllBare g2)
    (q : Q (.ref C) none H1) : MkP X pins σ Q (.ref a) ⟨h2, g2, d2, t2, os2⟩ := by
  have ea : (upd H1 a (exo a C none)) a = some (exo a C none) := upd_same
  obtain ⟨t0, hoe⟩ := exo_at hok ea
  have hn : H1 a = none := I1.hok.fresh ha
  obtain ⟨G, g1', g2'⟩ := restrict h2 fun b => decide (b ≠ a)
  have gk : ∀ b, b ≠ a → G.get? b = h2.get? b := fun b hb => g1' b (decide_eq_true hb)
  have ge : G.get? a = none := g2' a (by simp)
  have nha : ∀ {b : Addr} {o : Obj}, hp.get? b = some o → b ≠ a := fun {b o} z => Nat.ne_of_lt (Nat.lt_of_lt_of_le (Heap.lt_size z) ha)
  have up : ∀ {b : Addr}, b ≠ a → H1 b = none → upd H1 a (exo a C none) b = none := fun {b} hb n => by rw [upd_ne hb]; exact n
  have U : Un (frs X.stack) [] H1 H1 hp G := {
    keep := fun b o z n hf hx => by
      rw [gk b (nha z)]
      exact un.keep b o (k b o z) (up (nha z) n) hf hx
    slot := fun b o z n hf hx => by
      rw [gk b (nha z)]
      exact un.slot b o (k b o z) (up (nha z) n) hf hx
    free := fun b o z n hx => n
    there := fun b o z hx => by
      rw [gk b (nha z)]
      exact un.there b o (k b o z) hx
    tups := fun b xs z => z
    frzs := fun b o v z => z
    tbls := fun b ps z => ⟨#[], by simpa using z⟩ }
  have hok3 : HOk X.prog X.w H1 G := fun b o z => by
    have hba : b ≠ a := ne_of_none z hn
    have z2 : upd H1 a (exo a C none) b = some o := by rw [upd_ne hba]; exact z
    exact (hok b o z2).stay (fun c v hc y => by
        have hca : c ≠ a := by
          rcases hc with hc | hc
          · rw [hc]
            exact hba
          · exact at_ne ea hc exo_own
        rw [gk c hca]
        exact y)
      (fun c hc => by rw [upd_ne (at_ne ea hc exo_own)] at hc; exact hc) (fun c xs hc => by rw [upd_ne (at_ne ea hc exo_tup)] at hc; exact hc)
  have J : Inv X pins σ H1 ⟨G, g2, d2, t2, os2⟩ := I1.call' (ch := []) ho U hok3 hb (fun b z => absurd z (by simp))
  refine ⟨a, _, _, ⟨G, g2, d2, t2, os2⟩, _, .ref C, none, rfl, J, fun b o z => ?_, ge, hoe, ⟨rfl, rfl⟩, rfl, rfl, hn, rfl, hb, T, q⟩
  by_cases hba : b = a
  · rw [hba, ge] at z
    cases z
  · exact (gk b hba).symm.trans z
theorem pmk_oexT {X : Cx} {p pos : Pos} {CX : CXT} {x : Str} {C fI : Addr} {k : Nat} {fd : FuncData} {ps : List Str} {sp : Sp} {T newId initId : String} {bmB : List Value} (F : ExcBaseFacts T newId initId bmB) (O : OexT X.K T newId initId bmB C) (iC : PySem.W.findIn X.K (.ref C) "__init__" = some (some (.ref fI))) (tI : PySem.W.typeIn X.K (.ref fI) = some (.type "function"))
    (F1 : FnOk X.prog X.w X.K X.mg X.base CX k fI fd ps sp) (hr : Room (k + 1) X.A) (hb : Binds X.K fd ps []) (hx : Passes CX X (fun _ _ _ => False)) (hg : Gl X x) (hm : X.mg x = some (.ref C)) (hdb : (x == ("__debug__" : Str)) = false := by decide) :
    PMk X (.Call (.Name x p) [] [] pos) (tMkT C sp) := by
  intro pins s σ H Q I h
  obtain ⟨nm, q, N, bs, bm, sn, sub, ab, col, dd, k0, k1, k2, k3, k5, hC, hbm⟩ := O.cls
  refine wpAny_Call_Name_kw (ld_glob I hg hm ?_ hdb)
  refine PySem.W.callWith_K0 I.kIn O.kC ?_
  show wpAny _ _ (call (.ref C) []) _ _ _
  obtain ⟨hp, g, dr, tk, os⟩ := s
  have hsz : hp.objs.size ≤ hp.objs.size + 1 := Nat.le_succ _
  have hn : H (hp.objs.size + 1) = none := I.hok.fresh hsz
  have hq := h (hp.objs.size + 1) hn
  have kk : ∀ b o, hp.get? b = some o → ((hp.push (PySem.W.kdv_tup [])).push (PySem.HandSPX.excO C hp.objs.size)).get? b = some o := fun b o e => Heap.get?_push_of_some _ (Heap.get?_push_of_some _ e)
  have hget : ((hp.push (PySem.W.kdv_tup [])).push (PySem.HandSPX.excO C hp.objs.size)).get? (hp.objs.size + 1) = some (PySem.HandSPX.excO C hp.objs.size) := by heap_get
  have I2 : Inv X pins σ (upd H (hp.objs.size + 1) (exo (hp.objs.size + 1) C none)) ⟨(hp.push (PySem.W.kdv_tup [])).push (PySem.HandSPX.excO C hp.objs.size), g, dr, tk, os⟩ :=
    I.laid (t' := tk) (a := hp.objs.size + 1) (o := exo (hp.objs.size + 1) C none) (h' := (hp.push (PySem.W.kdv_tup [])).push (PySem.HandSPX.excO C hp.objs.size)) kk hsz (exo_ok hget)
  have r2 : Vals [V.ref (hp.objs.size + 1)] [Value.ref (hp.objs.size + 1)] := .cons rfl .nil
  have hl : [Value.ref (hp.objs.size + 1)].length = ps.length := by
    have e := r2.length
    rw [F1.len _ _ _ _ hq] at e
    exact e.symm
  refine wpAny_call (PySem.HandSPX.call_own F hbm (I.kIn _ _ hC) (PySem.W.looks_findIn I.kIn iC) (fun self => PySem.W.bind_fn I.kIn self tI) (by simp)
    (codeAny_mono (F1.run _ X.stack _ _ ⟨Value.ref (hp.objs.size + 1) :: [], []⟩ [Value.ref (hp.objs.size + 1)] _ _ (fun _ _ _ => False) (hr.make C [] []) (I2.env0.make C [] []) (hb _ [Value.ref (hp.objs.size + 1)] I2.kIn hl) r2 hq) fun r s' hq' => ?_))
  cases r with
  | error er => exact hx pins σ _ _ er s' I2 hq'
  | ok fl =>
    cases fl with
    | ret u =>
      obtain ⟨v, H2, os2, bare2, un2, hok2, rv, ev, eH, q2⟩ := hq'
      subst ev
      subst eH
      obtain ⟨h2, g2, d2, t2, os'⟩ := s'
      exact ⟨rv, mk_endT (raises_own O.exC O.tyC) I hsz kk un2 hok2 os2 bare2 q2⟩
    | next => exact False.elim hq'
    | brk => exact False.elim hq'
    | cont => exact False.elim hq'
/-- __init__ of an exception class without fields -/
def spIniT (C : Addr) : Sp := fun vs H Q _ => ∃ a, vs = [.ref a] ∧ H a = some (exo a C none) ∧ Q .non H
variable [Tbs]
def sRaiseT [Bse] (cls : Value) : TDS := fun _ ρ => Bse.XR cls [] ρ
theorem ds_raiseT [Bse] {X : Cx} {p pos pos' : Pos} {C fI : Addr} {x : Str} {k : Nat} {fd : FuncData} {ps : List Str} {T newId initId : String} {bmB : List Value} (hcalm : X.calm = true) (tk : Takes X Bse.W) (F : ExcBaseFacts T newId initId bmB) (O : OexT X.K T newId initId bmB C) (iC : PySem.W.findIn X.K (.ref C) "__init__" = some (some (.ref fI))) (tI : PySem.W.typeIn X.K (.ref fI) = some (.type "function"))
    (F1 : FnOk X.prog X.w X.K X.mg X.base CX0 k fI fd ps (spIniT C)) (hr : Room (k + 1) X.A) (hb : Binds X.K fd ps []) (hg : Gl X x) (hm : X.mg x = some (.ref C)) (hdb : (x == ("__debug__" : Str)) = false := by decide) :
    DSt X (.Raise (some (.Call (.Name x p) [] [] pos)) none pos') (sRaiseT (.ref C)) :=
  PS.weak (ps_raise hcalm tk (pmk_oexT F O iC tI F1 hr hb pass0 hg hm hdb)) fun D σ H ⟨b, f, ρ, E, S, t, _⟩ => fun a ha => ⟨a, rfl, upd_same, rfl, rfl, b.2 _ _ ρ σ f H none t S rfl⟩
end DL

/-! the told lambda, put together; raise C(e) of a short text or None; a call that may raise, as a statement -/
namespace DL
open PySem PySem.Spec PyProof.Rows L2 LamX NdefX
variable [Tbs]
theorem tB_body {X : Cx} {A : Around} {outer : List Env} {s : Shared} {H : Hp} {E : XK} {scope : Scope} {f c' : Addr} {body : Expr} {T : Bse → TD}
    (h : ∀ (B : Bse), Takes (lamCx X A outer s H E scope f c') B.W → @DE _ B (lamCx X A outer s H E scope f c') body (T B)) : PE (lamCx X A outer s H E scope f c') body (tB X.K T E) :=
  pe_ex fun XR => h ⟨fun cls d _ H' => E cls d H', XR⟩ (takes_of rfl rfl rfl rfl)
section
variable {X : Cx} {x a en fd q w0 : Str} {sg : Scope} {g c P : Addr} {cdg : Value} {cs : List Cl} {hd0 : ExceptHandler} {hds : List ExceptHandler} {p1 p2 p3 p4 p5 p6 p7 p8 p9 p lpos pos : Pos} {j1 k1 : Nat}
theorem told_gives5 (Z : PairS X a en fd sg (hd0 :: hds) (@suOf noX X.K cs)) :
    GivesTo X [a, en, fd] x sg g cdg [.Try [.Assign [.Name fd p1] (.Tuple [.Constant (.str w0) j1 p2, .Call (.Name a p3) [] [] p4] k1 p5) p6] (hd0 :: hds) [] [] p7, .Return (some (.Name fd p8)) p9] a q (fun tl H Q => tl (ekOf X.K cs Q) H (pairX w0 Q)) :=
  letI : Bse := noX
  pair_gives (ekOf X.K cs) Z fun D Q σ H cls d hl hD h => ek_each hl hD cs h
/-- x(lambda: body), where x tells pairs -/
theorem de_lam [Bse] {nm : Nat → Nat → Str} {k : Nat} {pg : Arguments} {dV kV doc pm cdv ct oc : Value} {an od : Option Addr} {osl : Array (Option Value)} {params : Arguments} {body : Expr} {scope : Scope} {T : Bse → TD}
    (hg : Gl X x) (hm : X.mg x = some (.ref g)) (hk : PySem.W.keepIn X.K (.ref g) = true)
    (lk : X.K.lookup g = some ⟨oc, od, .func (PySem.W.fnOf x x pg [.Try [.Assign [.Name fd p1] (.Tuple [.Constant (.str w0) j1 p2, .Call (.Name a p3) [] [] p4] k1 p5) p6] (hd0 :: hds) [] [] p7, .Return (some (.Name fd p8)) p9] sg dV kV doc pm an cdv ct), osl⟩) (hcg : PySem.W.codeIn X.K cdv x = true)
    (hb : L2.Binds X.K (PySem.W.fnOf x x pg [.Try [.Assign [.Name fd p1] (.Tuple [.Constant (.str w0) j1 p2, .Call (.Name a p3) [] [] p4] k1 p5) p6] (hd0 :: hds) [] [] p7, .Return (some (.Name fd p8)) p9] sg dV kV doc pm an cdv ct) [a] []) (Sg : FnScope [a, en, fd] [a] sg) (hva : Vis sg a)
    (Z : PairS X a en fd sg (hd0 :: hds) (@suOf noX X.K cs))
    (TB : TabB X.base X.mg c P) (hcode : X.env.code = .ref c) (hmT : (P, nm) ∈ Tbs.T) (hn : nm lpos.line lpos.col = X.env.qual ++ "<lambda>") (hu : ∀ p ∈ Tbs.T, p.1 = P → p.2 = nm) (hr : Room (k + 2) X.A) (L : LamS X.env.scope scope) (hdef : defaultsOf params X.env = ([], []))
    (hbind : ∀ (q : Str) (cl : List (Str × Addr)) (pm cv ctv : Value), bindArgs (PySem.W.kla_fn "<lambda>" q params body scope cl pm cv ctv) ⟨[], []⟩ = pure [])
    (hbody : ∀ (B : Bse) (A : Around) (outer : List Env) (s : Shared) (H : Hp) (E : XK) (f c' : Addr), Room k (A.deeper (lamEnv X scope s.heap.objs.size f c')) → Takes (lamCx X A outer s H E scope f c') B.W → @DE _ B (lamCx X A outer s H E scope f c') body (T B))
    (hdb : (x == ("__debug__" : Str)) = false := by decide) (hd : (a == ("__debug__" : Str)) = false := by decide) (hcd : (a == ("__classdict__" : Str)) = false := by decide) :
    DE X (.Call (.Name x p) [.Lambda params body scope lpos] [] pos) (dTold X.K cs w0 T) :=
  de_told (pe_lamcallK hg hm hk lk hcg hb Sg rfl hva (told_gives5 Z) TB hcode hmT hn hu hr L hdef hbind (fun A outer s H E f c' hr2 => tB_body fun B tk => hbody B A outer s H E f c' hr2 tk) hdb hd hcd)
end
/-! ### raise C(e), the value told of -/
section
variable [Bse] {X : Cx} {e : Expr} {T : TD} {p pos pos' : Pos} {C fI : Addr} {x fld : Str} {k : Nat} {fd : FuncData} {ps : List Str}
/-- as spIni, the field's value being one of V0 -/
def spIniV (V0 : V → Prop) (C : Addr) (fld : Str) : Sp := fun vs H Q _ => ∃ a v, vs = [.ref a, v] ∧ V0 v ∧ H a = some (exo a C none) ∧ ∀ dx, H dx = none → dx ≠ a → Q .non (upd (upd H dx (exd dx [(fld, v)])) a (exo a C (some dx)))
def sRaiseV (D0 : D → Prop) (cls : Value) (fld : Str) (T : TD) : TDS := fun _ ρ => T ρ fun d ρ' => D0 d ∧ Bse.XR cls [(fld, d)] ρ'
theorem ds_raiseV {V0 : V → Prop} {D0 : D → Prop} (hV : ∀ F v d, Dp X.K F v d → D0 d → V0 v) (hcalm : X.calm = true) (tk : Takes X Bse.W) (O : OexC X.K C) (iC : PySem.W.findIn X.K (.ref C) "__init__" = some (some (.ref fI))) (tI : PySem.W.typeIn X.K (.ref fI) = some (.type "function"))
    (F1 : FnOk X.prog X.w X.K X.mg X.base CX0 k fI fd ps (spIniV V0 C fld)) (hr : Room (k + 1) X.A) (hb : Binds X.K fd ps []) (hg : Gl X x) (hm : X.mg x = some (.ref C)) (he : DE X e T)
    (hdb : (x == ("__debug__" : Str)) = false := by decide) (hs : starEach [e] X.env = (false, eval e X.env) :: starEach [] X.env := by rfl) (hpl : (backTo pos (starEach [] X.env)).any (·.1) = false := by rfl) :
    DSt X (.Raise (some (.Call (.Name x p) [e] [] pos)) none pos') (sRaiseV D0 (.ref C) fld T) :=
  PS.weak (ps_raise hcalm tk (pmk_oex (dvs := []) O iC tI F1 hr hb .nil pass0 hg hm (pa_cons he pa_nil hs) hdb hs hpl)) fun D σ H ⟨b, f, ρ, E, S, t, _⟩ =>
    ⟨b, f, ρ, _, S, t, fun d ρ1 v f1 H1 ⟨hd, r⟩ S1 n1 dp => ⟨Nat.le_of_ble_eq_true rfl, fun a ha => ⟨a, v, rfl, hV _ _ _ dp hd, upd_same, fun dx hdx ne => by
      have hd1 : H1 dx = none := by rw [upd_ne ne] at hdx; exact hdx
      refine ⟨rfl, dx, [(fld, v)], upd_same, by rw [upd_ne ne, upd_same], hd1, ?_⟩
      have eH : upd (del (upd (upd (upd H1 a (exo a C none)) dx (exd dx [(fld, v)])) a (exo a C (some dx))) a) dx (.xd [(fld, v)]) = upd H1 dx (.xd [(fld, v)]) := by
        funext c
        by_cases h1 : c = dx
        · rw [h1, upd_same, upd_same]
        · rw [upd_ne h1, upd_ne h1]
          by_cases h2 : c = a
          · rw [h2, del_same, ha]
          · rw [del_ne h2, upd_ne h2, upd_ne h1, upd_ne h2]
      rw [eH]
      have g : Gr f1.F H1 (upd f1.F dx (.xd [(fld, v)])) (upd H1 dx (.xd [(fld, v)])) := Gr.new S1.fs hd1 xd_ntbl
      exact b.2 _ _ ρ1 σ ⟨upd f1.F dx (.xd [(fld, v)]), f1.P⟩ _ (some dx) r (S1.grow g) ⟨fun z => (by cases z), [(fld, v)], upd_same, .cons (dp_mono g.ff d v dp) .nil⟩⟩⟩⟩
end
end DL

/-! max, min of a list of ints; min(.., default=None); sorted(d), list(d); xs.extend; walks over frozen dicts -/
namespace DL
open PySem PySem.Spec PyProof.Rows L2
variable [Tbs] [Bse]
section
variable {X : Cx} {e a b c i tg : Expr} {es : List Expr} {T Ta Tb : TD} {Tr : TDA} {pos apos : Pos} {st : Stmt}
theorem out_ints {K : PySem.W.Frag} {F : Hp} : ∀ {vs : List V} {ns : List Int}, DpAll K F vs (ns.map PyData.int) → vs = ns.map V.int
  | _, [], h => by cases h; rfl
  | _, n :: ns, h => by
    cases h with
    | cons a b =>
      cases a
      rw [out_ints b]
      rfl
theorem out_strs {K : PySem.W.Frag} {F : Hp} : ∀ {vs : List V} {xs : List Str}, DpAll K F vs (xs.map PyData.str) → vs = xs.map V.str
  | _, [], h => by cases h; rfl
  | _, n :: ns, h => by
    cases h with
    | cons a b =>
      cases a
      rw [out_strs b]
      rfl
/-- max(xs), xs a list of ints -/
def cMaxL : List D → (D → Prop) → Prop := fun ds R => ∃ ns : List Int, ds = [.list (ns.map PyData.int)] ∧ ns ≠ [] ∧ ∀ m, m ∈ ns → (∀ y, y ∈ ns → y ≤ m) → R (.int m)
def cMinL : List D → (D → Prop) → Prop := fun ds R => ∃ ns : List Int, ds = [.list (ns.map PyData.int)] ∧ ns ≠ [] ∧ ∀ m, m ∈ ns → (∀ y, y ∈ ns → m ≤ y) → R (.int m)
theorem cd_maxL (hc : X.calm = true) : CallR X (.builtin "max") (liftC X.K cMaxL) := CallR.weak (cr_max hc) fun xs H Q q => by
  obtain ⟨f, ds, R, fs, ba, ⟨ns, rfl, hn, r⟩, q⟩ := q
  obtain ⟨v, rfl, bo⟩ := ba.one
  obtain ⟨p, vs, rfl, hl, dl⟩ := bo.lst fs
  have ev := out_ints dl
  subst ev
  exact ⟨p, ns, rfl, hl, List.length_pos_iff.mpr hn, fun m h1 h2 => flatC fs q (r m h1 h2) (.int _)⟩
theorem cd_minL (hc : X.calm = true) : CallR X (.builtin "min") (liftC X.K cMinL) := CallR.weak (cr_min hc) fun xs H Q q => by
  obtain ⟨f, ds, R, fs, ba, ⟨ns, rfl, hn, r⟩, q⟩ := q
  obtain ⟨v, rfl, bo⟩ := ba.one
  obtain ⟨p, vs, rfl, hl, dl⟩ := bo.lst fs
  have ev := out_ints dl
  subst ev
  exact ⟨p, ns, rfl, hl, List.length_pos_iff.mpr hn, fun m h1 h2 => flatC fs q (r m h1 h2) (.int _)⟩
/-- min(xs, default=None), xs a list of ints -/
def dMinN (Tr : TDA) : TD := fun ρ R => Tr ρ fun ds ρ' => ∃ ns : List Int, ds = [.list (ns.map PyData.int)] ∧ (ns = [] → R .none ρ') ∧ ∀ n ms, ns = n :: ms → R (.int (ms.foldl min n)) ρ'
theorem alike_ints (ns : List Int) : PySem.W.AlikeAll (ns.map PyData.int) := ⟨fun x hx y hy => by
  obtain ⟨i, _, rfl⟩ := List.mem_map.mp hx
  obtain ⟨j, _, rfl⟩ := List.mem_map.mp hy
  rfl, fun x hx => by
  obtain ⟨i, _, rfl⟩ := List.mem_map.mp hx
  intro z
  cases z⟩
theorem depth_ints (ns : List Int) : PyData.depthAll (ns.map PyData.int) ≤ 1 := by
  induction ns with
  | nil => exact Nat.zero_le _
  | cons n ns ih =>
    show max _ _ ≤ 1
    exact Nat.max_le.mpr ⟨by first | exact Nat.zero_le _ | exact Nat.le_refl _, ih⟩
def rMinN (X : Cx) : List V → List V → Hp → VK → Prop := fun vs zs H Q => ∃ (a : Addr) (ns : List Int), vs = [V.ref a] ∧ zs = [V.non] ∧ SqL X.K H a (ns.map V.int) ∧ (ns = [] → Q .non H) ∧ ∀ n ms, ns = n :: ms → Q (.int (ms.foldl min n)) H
theorem cr_minN (hc : X.calm = true) (hu : X.A.units + 4 < cLine) : CallRK X (.builtin "min") [Str.ofString "default"] (rMinN X) := by
  intro pins s σ H vs zs us ws Q I r1 r2 h
  obtain ⟨a, ns, rfl, rfl, hs, q0, q1⟩ := h
  obtain rfl := Vals.ref1 r1
  obtain ⟨w, rfl, rw_⟩ := vals1 r2
  cases rw_
  obtain ⟨its, rv, hl, hz⟩ := I.list hs
  have rd : ReadsAll s.heap its (ns.map PyData.int) [] := by
    clear hl hz q0 q1 hs
    induction ns generalizing its with
    | nil => cases rv; exact ReadsAll.nil
    | cons n ns ih =>
      cases rv with
      | cons u v =>
        obtain ⟨t, rfl⟩ := u
        exact ReadsAll.cons (as := []) (Reads.int n t) (ih _ v)
  refine PySem.W.min_list_default (xs := ns.map PyData.int) (I.ok.hd hc) hl.isList rd (alike_ints ns) (by have := depth_ints ns; omega) (fun e h' tk hk => ?_) (fun y ys i v h' tk bs e hv hr hk => ?_)
  · exact ⟨.non, H, I.kept hk, rfl, q0 (List.map_eq_nil_iff.mp e)⟩
  · cases ns with
    | nil => cases e
    | cons n ms =>
      cases e
      rw [PySem.W.minD_ints] at hr
      cases hr with
      | int _ t => exact ⟨.int _, H, I.kept hk, ⟨t, rfl⟩, q1 n ms rfl⟩
theorem de_minN {x : Expr} (ha : DBA X [x] Tr) (h : ∀ t, PA X [x] t → PE X e (tCKw (rMinN X) t (tCons (tC .non) tNil))) : DE X e (dMinN Tr) :=
  PE.weak (h _ ha) fun σ H Q ⟨bb, f, ρ, R, S, t, q⟩ => ⟨bb, f, ρ, _, S, t, fun ds ρ' vs f' H' ⟨ns, e1, r0, r1⟩ S' n ba => by
    subst e1
    obtain ⟨v, rfl, bo⟩ := ba.one
    obtain ⟨p, us, rfl, hl, dl⟩ := bo.lst S'.fs
    obtain rfl := out_ints dl
    exact ⟨p, ns, rfl, rfl, hl, fun z => q _ ρ' _ f' H' (r0 z) S' n .non, fun m ms z => q _ ρ' _ f' H' (r1 m ms z) S' n (.int _)⟩⟩
/-! ### keys of a dict: sorted(d), list(d) -/
theorem km_keys {K : PySem.W.Frag} {F : Hp} {vs : List (L2.Key × V)} {m : KvD} (h : KM K F vs m) : vs.map (·.1) = m.map (·.1) := by
  induction h with
  | nil => rfl
  | cons a _ ih => rw [List.map_cons, List.map_cons, ih, a.1]
/-- the keys as data -/
def keysD (m : KvD) : List D := m.map fun p => kD p.1
theorem dpa_keys {K : PySem.W.Frag} {F : Hp} {vs : List (L2.Key × V)} {m : KvD} (h : KM K F vs m) : DpAll K F (vs.map fun kv => kV kv.1) (keysD m) := by
  induction h with
  | nil => exact .nil
  | @cons p q ps qs a _ ih =>
    refine .cons ?_ ih
    show Dp K F (kV p.1) (kD q.1)
    rw [a.1]
    cases q.1 with
    | inl i => exact .int i
    | inr x => exact .str x
/-- sorted(d), the keys texts -/
def lSortKD (T : TDA) : TDA := fun ρ R => T ρ fun ds ρ' => ∃ (m : KvD) (ks : List Str), ds = [.dict (kvD m)] ∧ m.map (·.1) = ks.map Sum.inr ∧ ks.length < 64 ∧ ∀ ys : List Str, ys.Perm ks → sortedS ys = true → R (ys.map PyData.str) ρ'
theorem dpa_strsV {K : PySem.W.Frag} {F : Hp} : ∀ xs : List Str, DpAll K F (xs.map V.str) (xs.map PyData.str)
  | [] => .nil
  | x :: xs => .cons (.str x) (dpa_strsV xs)
theorem dl_sortKD {x : Expr} (hc : X.calm = true) (ha : DBA X [x] Tr) (h : ∀ (r' : List V → Hp → VK → Prop) (t' : TA), CallR X (.builtin "sorted") r' → PA X [x] t' → PE X e (tCB r' t')) : DLs X e (lSortKD Tr) :=
  PE.weak (h _ _ (call_sortedD hc) ha) fun σ H Q ⟨bb, f, ρ, R, S, t, q⟩ => ⟨bb, f, ρ, _, S, t, fun ds ρ' vs f' H' ⟨m, ks, e1, hk, hz, r⟩ S' n ba => by
    subst e1
    obtain ⟨v, rfl, bo⟩ := ba.one
    obtain ⟨p, us, rfl, hl, km⟩ := bo.km S'.fs
    refine ⟨p, us, ks, rfl, hl, by rw [km_keys km]; exact hk, hz, ?_⟩
    intro ys l
    intros
    first
      | (rename_i h1 h2 h3
         obtain ⟨S2, O, n2⟩ := Own.new S' h3 (dpa_strsV ys)
         exact q _ ρ' l f' _ (r ys h1 h2) S2 (n.trans S.pots n2) O)⟩
/-- list(d) -/
def lKeys (T : TDA) : TDA := fun ρ R => T ρ fun ds ρ' => ∃ m : KvD, ds = [.dict (kvD m)] ∧ R (keysD m) ρ'
theorem dl_keys {x : Expr} (hc : X.calm = true) (ha : DBA X [x] Tr) (h : ∀ (r' : List V → Hp → VK → Prop) (t' : TA), CallR X (.type "list") r' → PA X [x] t' → PE X e (tCB r' t')) : DLs X e (lKeys Tr) :=
  PE.weak (h _ _ (call_listD hc) ha) fun σ H Q ⟨bb, f, ρ, R, S, t, q⟩ => ⟨bb, f, ρ, _, S, t, fun ds ρ' vs f' H' ⟨m, e1, r⟩ S' n ba => by
    subst e1
    obtain ⟨v, rfl, bo⟩ := ba.one
    obtain ⟨p, us, rfl, hl, km⟩ := bo.km S'.fs
    refine ⟨p, us, rfl, hl, fun l hn => ?_⟩
    obtain ⟨S2, O, n2⟩ := Own.new S' hn (dpa_keys km)
    exact q _ ρ' l f' _ r S2 (n.trans S.pots n2) O⟩
end
end DL

/-! walks over frozen dicts; xs.extend; comprehensions of two clauses, of dicts -/
namespace DL
open PySem PySem.Spec PyProof.Rows L2
variable [Tbs] [Bse]
theorem km_at {K : PySem.W.Frag} {F : Hp} : ∀ {vs : List (L2.Key × V)} {m : KvD} {i : Nat} {k : L2.Key} {v : V}, KM K F vs m → vs[i]? = some (k, v) → ∃ d, m[i]? = some (k, d) ∧ Dp K F v d
  | _, _, _, _, _, .nil, h => by simp at h
  | _, (q :: _), 0, k, v, .cons a t, h => by
    have e := Option.some.inj (by simpa using h)
    subst e
    obtain ⟨k', d⟩ := q
    obtain ⟨e1, e2⟩ := a
    cases e1
    exact ⟨d, rfl, e2⟩
  | _, _, i + 1, _, _, .cons _ t, h => by
    obtain ⟨d, e, q⟩ := km_at (i := i) t (by simpa using h)
    exact ⟨d, by simpa using e, q⟩
/-- a frozen dict is locked -/
theorem Sim.locked {K : PySem.W.Frag} {b : Bs} {f : Fz} {ρ : DS} {σ : L2.St} {H : Hp} {v : V} {m : KvD} (S : Sim K b f ρ σ H) (dp : Dp K f.F v (.dict (kvD m))) : ∃ a o vs, v = .ref a ∧ f.F a = some (.frz o (.dK vs)) ∧ KM K f.F vs m := by
  generalize hx : PyData.dict (kvD m) = x at dp
  cases dp with
  | @dct a vs ds hs ha =>
    cases hx
    rcases hs with h | ⟨o, h⟩
    · exact (S.tb.z _ _ h).elim
    · exact ⟨_, o, _, rfl, h, km_of ha⟩
  | _ => cases hx
section
variable {X : Cx} {e a b c i tg : Expr} {es : List Expr} {T Ta Tb : TD} {Tr : TDA} {pos apos cpos : Pos} {st : Stmt}
def iKeysD (T : TD) : TDA := fun ρ R => T ρ fun d ρ' => ∃ m, d = .dict (kvD m) ∧ R (keysD m) ρ'
theorem keysD_at {m : KvD} {i : Nat} {k : L2.Key} {d : D} (h : m[i]? = some (k, d)) : (keysD m)[i]? = some (kD k) := by
  unfold keysD
  rw [List.getElem?_map, h]
  rfl
theorem keysD_len (m : KvD) : (keysD m).length = m.length := List.length_map _
/-- for k in d -/
theorem di_keys (h : DE X e T) : DI X tg e (iKeysD T) := PI.weak (pi_keys h) fun σ H R ⟨b, f, ρ, R', S, t, q⟩ => ⟨b, f, ρ, _, S, t, fun d ρ' v f' H' ⟨m, ed, r⟩ S' n dp => by
  subst ed
  obtain ⟨a, o, vs, rfl, ha, km⟩ := S'.locked dp
  have lv : vs.length = m.length := km_len km
  refine ⟨a, o, rfl, .inl ⟨vs, S'.fs _ _ ha, q _ ρ' f' H' _ r S' n ⟨fun i f2 H2 hi ff fs => ⟨fs _ _ (ff _ _ ha), ?_⟩, fun f2 H2 ff fs => ⟨fs _ _ (ff _ _ ha), ?_⟩, fun i f2 H2 x H3 hi ff fs y => ?_⟩⟩⟩
  · rw [keysD_len] at hi
    omega
  · rw [keysD_len]
    omega
  · obtain ⟨rfl, k, v, e, rfl⟩ := y
    obtain ⟨d, e2, _⟩ := km_at km e
    exact ⟨_, f2.F, keysD_at e2, Gr.refl fs, dp_key k⟩⟩
/-- for k, v in d.items() -/
def iItemsD (T : TD) : TDA := fun ρ R => T ρ fun d ρ' => ∃ m, d = .dict (kvD m) ∧ R (m.map prM) ρ'
theorem di_items {elts : List Expr} {kk : Nat} {tpos : Pos} (h : DE X e T) (hbase : attributeBase e "items" X.env (eval e X.env) = eval e X.env := by rfl) (hline : (apos.endLine == cpos.line) = true := by rfl) :
    DIw X (.Tuple elts kk tpos) (.Call (.Attribute e "items" apos) [] [] cpos) (iItemsD T) := PI.weak (pi_items h hbase hline) fun σ H R ⟨b, f, ρ, R', S, t, q⟩ => ⟨b, f, ρ, _, S, t, fun d ρ' v f' H' ⟨m, ed, r⟩ S' n dp => by
  subst ed
  obtain ⟨a, o, vs, rfl, ha, km⟩ := S'.locked dp
  have lv : vs.length = m.length := km_len km
  refine ⟨a, o, vs, rfl, S'.fs _ _ ha, q _ ρ' f' H' _ r S' n ⟨fun i f2 H2 hi ff fs => ⟨fs _ _ (ff _ _ ha), ?_⟩, fun f2 H2 ff fs => ⟨fs _ _ (ff _ _ ha), ?_⟩, fun i f2 H2 x H3 hi ff fs y => ?_⟩⟩
  · rw [List.length_map] at hi
    omega
  · rw [List.length_map]
    omega
  · obtain ⟨T, k, v, e, rfl, hT, rfl⟩ := y
    obtain ⟨d, e2, dv⟩ := km_at km e
    have g : Gr f2.F H2 (upd f2.F T (.tup [kV k, v])) (upd H2 T (.tup [kV k, v])) := Gr.new fs hT True.intro
    refine ⟨prM (k, d), _, by rw [List.getElem?_map, e2]; rfl, g, .inr ⟨T, [kV k, v], [kD k, d], rfl, rfl, .inl (.inl upd_same), .cons (dp_key k) (.cons (dp_mono (ff.trans g.ff) _ _ dv) .nil)⟩⟩⟩
/-- for v in d.values() -/
def iValsD (T : TD) : TDA := fun ρ R => T ρ fun d ρ' => ∃ m, d = .dict (kvD m) ∧ R (m.map (·.2)) ρ'
theorem di_vals (h : DE X e T) (hbase : attributeBase e "values" X.env (eval e X.env) = eval e X.env := by rfl) (hline : (apos.endLine == cpos.line) = true := by rfl) :
    DI X tg (.Call (.Attribute e "values" apos) [] [] cpos) (iValsD T) := PI.weak (pi_values h hbase hline) fun σ H R ⟨b, f, ρ, R', S, t, q⟩ => ⟨b, f, ρ, _, S, t, fun d ρ' v f' H' ⟨m, ed, r⟩ S' n dp => by
  subst ed
  obtain ⟨a, o, vs, rfl, ha, km⟩ := S'.locked dp
  have lv : vs.length = m.length := km_len km
  refine ⟨a, o, vs, rfl, S'.fs _ _ ha, q _ ρ' f' H' _ r S' n ⟨fun i f2 H2 hi ff fs => ⟨fs _ _ (ff _ _ ha), ?_⟩, fun f2 H2 ff fs => ⟨fs _ _ (ff _ _ ha), ?_⟩, fun i f2 H2 x H3 hi ff fs y => ?_⟩⟩
  · rw [List.length_map] at hi
    omega
  · rw [List.length_map]
    omega
  · obtain ⟨rfl, k, e⟩ := y
    obtain ⟨d, e2, dv⟩ := km_at km e
    exact ⟨d, f2.F, by rw [List.getElem?_map, e2]; rfl, Gr.refl fs, dp_mono ff _ _ dv⟩⟩
/-! ### xs.extend(e), xs an own list, e a new one -/
def sExt (i : Nat) (T : TDA) : TDS := fun E ρ => (∃ ds0, ρ[i]? = some (.own ds0)) ∧ T ρ fun es ρ' => ∃ ds, ρ'[i]? = some (.own ds) ∧ ds.length + es.length ≤ sizeLine ∧ E.nx (ρ'.set i (.own (ds ++ es)))
theorem ds_ext {i : Nat} (h : PS X st (tDrop (tBM X.K "list" rExtend (tVar i) (tCons (liftL X.K Tr) tNil)))) : DSt X st (sExt i Tr) := PS.weak h fun D σ H ⟨b, f, ρ, E, S, ⟨⟨ds0, h0⟩, t⟩, k⟩ => by
  obtain ⟨p, _, e0, _, _, _, h4, vs0, rfl, _⟩ := S.sl i _ h0
  refine ⟨.ref p, e0, .inl ⟨rfl, _, .inl (.inl h4)⟩, b, f, ρ, _, S, t, fun es ρ' b' f' H' ⟨ds, hi, hz, r⟩ S' n O => ?_⟩
  obtain ⟨q, _, e1, g1, g2, g3, g4, vs, rfl, g5⟩ := S'.sl i _ hi
  have eq : q = p := by
    rw [e0] at e1
    exact (V.ref.inj (Option.some.inj (Option.some.inj e1))).symm
  subst eq
  obtain ⟨_, h5, ws, rfl, h6⟩ := O.at_
  refine ⟨q, b', vs, ws, rfl, rfl, g4, h5, by rw [dpa_len g5, dpa_len h6]; exact hz, ?_⟩
  exact k.nx _ σ f' _ r (S'.own hi e1 (dpa_app g5 h6))
end
end DL

/-! comprehensions of two clauses; of dicts -/
namespace DL
open PySem PySem.Spec PyProof.Rows L2
variable [Tbs] [Bse]
/-- an own list is held with what stands; the slots of a block -/
noncomputable def heldB (b : Bs) (p : Addr) (o : HO) : Bs := ⟨upd b.B p o, b.F0, b.P0⟩
theorem heldB_same {b : Bs} {p : Addr} {o : HO} (h : b.B p = none) : Same b.B (heldB b p o).B := same_new h
theorem heldB_law {K : PySem.W.Frag} {b : BP K} {p : Addr} {o : HO} (h : b.1.B p = none) : ExL K (heldB b.1 p o) := fun cls kvs ρ4 σ4 f4 H4 d4 xr S4 => b.2 cls kvs ρ4 σ4 f4 H4 d4 xr (S4.loose (same_new h))
section
variable {K : PySem.W.Frag} {b : BP K} {f f2 : Fz} {ρ ρ2 : DS} {σ σ2 : L2.St} {H H2 : Hp} {p : Addr} {o : HO}
/-- what is seen of the held thing in a block -/
theorem held_at {F0 : Hp} (S : Sim K (heldB b.1 p o) f ρ σ H) (ho : ∀ ps, o ≠ .tbl ps) (h0 : b.1.F0 p = none) : H p = some o ∧ f.F p = none ∧ p ∉ f.P ∧ ∀ (i : Nat) (s : Sl), ρ[i]? = some s → isOwn s = true → σ[i]? ≠ some (some (V.ref p)) := by
  have eb : (heldB b.1 p o).B p = some o := upd_same
  refine ⟨?_, ?_, fun z => ?_, fun i s e hs z => ?_⟩
  · rcases S.bs p o eb with r | ⟨ps, _, z, _⟩
    · exact r
    · exact absurd z (ho ps)
  · cases r : f.F p with
    | none => rfl
    | some u =>
      rcases S.fr p u r with ⟨o', e'⟩ | e'
      · have z : b.1.F0 p = some o' := e'
        rw [h0] at z; cases z
      · rw [eb] at e'; cases e'
  · obtain ⟨_, k2, _⟩ := S.pt p z
    rw [eb] at k2; cases k2
  · have q := S.sl i s e
    cases s with
    | obj c =>
      obtain ⟨p', u, e1, h1, h2, _⟩ := q
      rw [z] at e1
      have ep : p = p' := V.ref.inj (Option.some.inj (Option.some.inj e1))
      subst ep
      rw [eb] at h2; cases h2
    | no => cases hs
    | fz d => cases hs
    | pot => cases hs
    | exc _ _ _ _ => cases hs
end
section
variable {X : Cx} {e c tg iter : Expr} {T Te Tk Tv : TD} {Tr T1 : TDA} {Tt Tt1 : TDT} {is js vs vs1 : List Nat} {G G1 : TDG} {ifs : List Expr} {DR DR1 : DRel}
/-- {k: v for ..} -/
def kDc (vs : List Nat) (T : TDA) (G : TDG) (Tt : TDT) (Tk Tv : TD) : TDK := fun ρ R => T ρ fun ds ρ1 => ds.length < sizeLine ∧ noOwn ρ1 vs ∧ ∃ W : Nat → KvD → Prop, W 0 [] ∧
  (∀ i d acc, ds[i]? = some d → W i acc → G d (wipeD ρ1 vs) fun ρ2 => Tt ρ2 fun c ρ3 => ρ3 = ρ2 ∧ if c = true then Tk ρ3 (fun y ρ4 => Tv ρ4 fun z ρ5 => ρ5 = ρ3 ∧ ∃ k, y = kD k ∧ W (i + 1) (putM acc k z)) else W (i + 1) acc) ∧
  ∀ acc, W ds.length acc → R (kvD acc) ρ1
theorem putM_len (m : KvD) (k : L2.Key) (d : D) : (putM m k d).length ≤ m.length + 1 := by
  unfold putM
  split
  · rw [List.length_map]; omega
  · rw [List.length_append]; exact Nat.le_refl _
theorem OwnC.putK {K : PySem.W.Frag} {b : Bs} {f : Fz} {ρ : DS} {σ : L2.St} {H : Hp} {p : Addr} {u w : HO} {c : Ct} (S : Sim K b f ρ σ H) (hl : H p = some u) (hu : Held u) (nf : f.F p = none) (nb : b.B p = none) (np : p ∉ f.P)
    (no : ∀ (i : Nat) (s : Sl), ρ[i]? = some s → isOwn s = true → σ[i]? ≠ some (some (V.ref p))) (hd : CtV K f.F w c) : Sim K b f ρ σ (upd H p w) ∧ OwnC K b f ρ σ (upd H p w) p c := by
  refine ⟨⟨S.len, fun a o e => ?_, fun a o e => ?_, S.f0, S.fr, S.p0, fun a ha => ?_, fun i s e => ?_, S.sep, S.tb.put (.inr ⟨u, hl, hu⟩)⟩, ⟨nf, nb, np, no, _, upd_same, hd⟩⟩
  · rw [upd_ne (fun z => by rw [z, nb] at e; cases e)]; exact S.bs a o e
  · rw [upd_ne (fun z => by rw [z, nf] at e; cases e)]; exact S.fs a o e
  · obtain ⟨k1, k2, x, y, k3, k4⟩ := S.pt a ha
    have z : a ≠ p := fun (z : a = p) => np (z ▸ ha)
    exact ⟨k1, k2, x, y, by rw [upd_ne z]; exact k3, k4⟩
  · refine (S.sl i s e).keep (f' := f) (Same.refl _) (fun _ => Iff.rfl) fun r u go g0 g1 g2 g3 g4 _ => ⟨g1, ?_⟩
    have z : r ≠ p := fun (z : r = p) => no i s e go (z ▸ g0)
    rw [upd_ne z]
    exact g4
theorem dc_weak (X : Cx) (hi : ∀ i ∈ is, i ∈ vs) : ∀ σ H Q, liftK X.K (kDc vs Tr G Tt Tk Tv) σ H Q → tDc (liftIBR DR X.K Tr) (liftGR DR X.K is G) (liftT X.K Tt) (lift X.K Tk) (lift X.K Tv) vs σ H Q := fun σ H Q ⟨b, f, ρ, R, S, t, q⟩ =>
  ⟨b, f, ρ, _, S, t, fun ds ρ1 f1 H1 J ⟨hz, hno, W, w0, turn, done⟩ S1 n1 J1 p hp => by
    obtain ⟨Sa, Oa, na⟩ := OwnC.new (u := .dK []) (c := .d []) S1 hp ⟨[], rfl, .nil⟩
    have k0 : b.1.F0 p = none := S1.f0.free (S1.fs.free hp)
    refine ⟨fun i m H' => m = ds.length - i ∧ i ≤ ds.length ∧ ∃ f' acc, Sim X.K b.1 f' ρ1 σ H' ∧ Nx f1 H1 f' H' ∧ W i acc ∧ acc.length ≤ i ∧ OwnC X.K b.1 f' ρ1 σ H' p (.d (kvD acc)), ⟨ds.length, by simp, Nat.zero_le _, f1, [], Sa, na, w0, Nat.le_refl _, Oa⟩, ?_⟩
    rintro i m H' ⟨rfl, hil, f', acc, S', n', w, hacc, O⟩
    by_cases hlt : i < ds.length
    · refine .inr ⟨J1.go i f' H' hlt n' S'.fs, fun H2 => ∃ f2 acc2, Sim X.K b.1 f2 ρ1 σ H2 ∧ Nx f1 H1 f2 H2 ∧ W (i + 1) acc2 ∧ acc2.length ≤ i + 1 ∧ OwnC X.K b.1 f2 ρ1 σ H2 p (.d (kvD acc2)), fun H2 z => ⟨ds.length - (i + 1), by omega, rfl, hlt, z⟩, fun x H2 y => ?_⟩
      obtain ⟨d, F2, e, g, dp⟩ := J1.yld i f' H' x H2 hlt n' S'.fs y
      obtain ⟨_, hw1, ws, rfl, hw2⟩ := O.at_
      have S2 : Sim X.K b.1 ⟨F2, f'.P⟩ ρ1 σ H2 := S'.grow g
      have n2 : Nx f1 H1 ⟨F2, f'.P⟩ H2 := n'.trans S1.pots (Nx.of_gr g)
      have hw3 : H2 p = some (.dK ws) := g.hh.c hw1 True.intro
      have hF2 : F2 p = none := by
        cases r : F2 p with
        | none => rfl
        | some u =>
          rcases g.nw p u r with ⟨o', e'⟩ | e'
          · rw [O.nf] at e'; cases e'
          · rw [hw1] at e'; cases e'
      have SG : Sim X.K (heldB b.1 p (.dK ws)) ⟨F2, f'.P⟩ (wipeD ρ1 vs) (wipe σ vs) H2 := (S2.guard hw3 hF2 O.np O.no).wipe vs
      have fin : ∀ (f5 : Fz) (ρ5 : DS) (σ5 : L2.St) (H5 : Hp), Sim X.K (heldB b.1 p (.dK ws)) f5 ρ5 σ5 H5 → Nx ⟨F2, f'.P⟩ H2 f5 H5 → Tgt is (wipeD ρ1 vs) ρ5 (wipe σ vs) σ5 →
          H5 p = some (.dK ws) ∧ Sim X.K b.1 f5 ρ1 σ H5 ∧ f5.F p = none ∧ p ∉ f5.P := fun f5 ρ5 σ5 H5 S5 n5 t5 => by
        obtain ⟨a1, a2, a3, _⟩ := held_at (F0 := b.1.F0) S5 (fun _ z => by cases z) k0
        refine ⟨a1, S2.back S5 (same_new O.nb) n5 fun j es hj => ?_, a2, a3⟩
        have jv : j ∉ vs := fun z => hno j z es hj
        have ji : j ∉ is := fun z => jv (hi j z)
        exact ⟨by rw [t5.rh j ji, wipeD_ne jv]; exact hj, by rw [t5.sg j ji, wipe_ne jv]⟩
      refine ⟨⟨heldB b.1 p (.dK ws), heldB_law O.nb⟩, ⟨F2, f'.P⟩, _, d, _, SG, dp, turn i d acc e w, fun ρ3 σ3 f3 H3 r3 S3 n3 t3 => ⟨wipe_eq t3.len t3.sg hi, ?_⟩⟩
      refine ⟨⟨heldB b.1 p (.dK ws), heldB_law O.nb⟩, f3, ρ3, _, S3, r3, fun c ρ4 f4 H4 ⟨e4, r4⟩ S4 n4 => ?_⟩
      subst e4
      have n34 : Nx ⟨F2, f'.P⟩ H2 f4 H4 := n3.trans SG.pots n4
      cases c with
      | false =>
        rw [if_neg Bool.false_ne_true] at r4 ⊢
        obtain ⟨k1, k2, k3, k4⟩ := fin f4 ρ4 σ3 H4 S4 n34 t3
        exact ⟨f4, acc, k2, n2.trans S1.pots n34, r4, by omega, ⟨k3, O.nb, k4, O.no, _, k1, ws, rfl, dpk_mono (g.ff.trans n34.ff) _ _ hw2⟩⟩
      | true =>
        rw [if_pos rfl] at r4 ⊢
        refine ⟨⟨heldB b.1 p (.dK ws), heldB_law O.nb⟩, f4, ρ4, _, S4, r4, fun y5 ρ5 v5 f5 H5 w5 S5 n5 dp5 => ?_⟩
        have n35 : Nx ⟨F2, f'.P⟩ H2 f5 H5 := n34.trans S2.pots n5
        refine ⟨⟨heldB b.1 p (.dK ws), heldB_law O.nb⟩, f5, ρ5, _, S5, w5, fun z6 ρ6 v6 f6 H6 ⟨e6, k, ek, w6⟩ S6 n6 dp6 => ?_⟩
        subst e6 ek
        have n36 : Nx ⟨F2, f'.P⟩ H2 f6 H6 := n35.trans S2.pots n6
        obtain ⟨k1, k2, k3, k4⟩ := fin f6 ρ6 σ3 H6 S6 n36 t3
        have km : KM X.K f6.F ws acc := km_mono (km_of hw2) (g.ff.trans n36.ff)
        have ev : v5 = kV k := bo_key (f := f5) (H := H5) (.inl dp5)
        refine ⟨ws, k, ev, k1, by rw [km_len km]; omega, f6, putM acc k z6, ?_⟩
        obtain ⟨P1, P2⟩ := OwnC.putK k2 k1 True.intro k3 O.nb k4 O.no (w := .dK (putK ws k v6)) (c := .d (kvD (putM acc k z6))) ⟨_, rfl, of_km (km_put km k dp6)⟩
        have nn : Nx f1 H1 f6 H6 := n2.trans S1.pots n36
        refine ⟨P1, ⟨nn.ff, fun a o e1 e2 => ?_, nn.pp, nn.pn⟩, w6, by have := putM_len acc k z6; omega, P2⟩
        rw [upd_ne (ne_of_none e1 hp)]
        exact nn.kp a o e1 e2
    · have e : i = ds.length := by omega
      subst e
      exact .inl ⟨J1.stop f' H' n' S'.fs, q (kvD acc) ρ1 p f' H' (done acc w) S' (n1.trans S.pots n') O⟩⟩
theorem dk_dc (h : PE X e (tDc (liftIBR DR X.K Tr) (liftGR DR X.K is G) (liftT X.K Tt) (lift X.K Tk) (lift X.K Tv) vs)) (hi : ∀ i ∈ is, i ∈ vs) : DKs X e (kDc vs Tr G Tt Tk Tv) := PE.weak h (dc_weak X hi)
end
end DL

/-! comprehensions of two clauses -/
namespace DL
open PySem PySem.Spec PyProof.Rows L2
variable [Tbs] [Bse]
section
variable {X : Cx} {e c tg iter : Expr} {T Te Tk Tv : TD} {Tr T1 : TDA} {Tt Tt1 : TDT} {is js vs vs1 : List Nat} {G G1 : TDG} {ifs : List Expr} {DR DR1 : DRel}
/-- [e for .. in .. if .. for .. in .. if ..], the second walk over frozen data -/
def lLc2 (vs vs1 : List Nat) (T : TDA) (G : TDG) (Tt : TDT) (T1 : TDA) (G1 : TDG) (Tt1 : TDT) (Te : TD) : TDA := fun ρ R => T ρ fun ds ρ1 => noOwn ρ1 vs ∧ ∃ W : Nat → List D → Prop, W 0 [] ∧
  (∀ i d acc, ds[i]? = some d → W i acc → G d (wipeD ρ1 vs) fun ρ2 => Tt ρ2 fun c ρ3 => ρ3 = ρ2 ∧ if c = true then
    T1 ρ3 (fun es ρ4 => ρ4 = ρ3 ∧ noOwn ρ3 vs1 ∧ ∃ W1 : Nat → List D → Prop, W1 0 acc ∧
      (∀ j d1 acc1, es[j]? = some d1 → W1 j acc1 → G1 d1 (wipeD ρ3 vs1) fun ρ5 => Tt1 ρ5 fun c1 ρ6 => ρ6 = ρ5 ∧ if c1 = true then Te ρ6 (fun y ρ7 => ρ7 = ρ6 ∧ acc1.length < sizeLine ∧ W1 (j + 1) (acc1 ++ [y])) else W1 (j + 1) acc1) ∧
      ∀ acc1, W1 es.length acc1 → W (i + 1) acc1) else W (i + 1) acc) ∧
  ∀ acc, W ds.length acc → R acc ρ1
/-- one turn's end: the slots are those before it -/
theorem turn_fin {K : PySem.W.Frag} {b : BP K} {f f5 : Fz} {ρ ρ5 : DS} {σ σ5 : L2.St} {H H5 : Hp} {p : Addr} {ws : List V} (S : Sim K b.1 f ρ σ H) (hno : noOwn ρ vs) (hi : ∀ i ∈ is, i ∈ vs) (nb : b.1.B p = none) (k0 : b.1.F0 p = none)
    (S5 : Sim K (heldB b.1 p (.lst ws)) f5 ρ5 σ5 H5) (n5 : Nx f H f5 H5) (t5 : Tgt is (wipeD ρ vs) ρ5 (wipe σ vs) σ5) : H5 p = some (.lst ws) ∧ Sim K b.1 f5 ρ σ H5 ∧ f5.F p = none ∧ p ∉ f5.P := by
  obtain ⟨a1, a2, a3, _⟩ := held_at (F0 := b.1.F0) S5 (fun _ z => by cases z) k0
  refine ⟨a1, S.back S5 (same_new nb) n5 fun j es hj => ?_, a2, a3⟩
  have jv : j ∉ vs := fun z => hno j z es hj
  have ji : j ∉ is := fun z => jv (hi j z)
  exact ⟨by rw [t5.rh j ji, wipeD_ne jv]; exact hj, by rw [t5.sg j ji, wipe_ne jv]⟩
theorem held_gr {f' : Fz} {F2 H' H2 : Hp} {p : Addr} {ws : List V} (nf : f'.F p = none) (hw1 : H' p = some (.lst ws)) (g : Gr f'.F H' F2 H2) : H2 p = some (.lst ws) ∧ F2 p = none := by
  refine ⟨g.hh.l hw1, ?_⟩
  cases r : F2 p with
  | none => rfl
  | some u =>
    rcases g.nw p u r with ⟨o', e'⟩ | e'
    · rw [nf] at e'; cases e'
    · rw [hw1] at e'; cases e'
theorem lc2_weak (X : Cx) (hi : ∀ i ∈ is, i ∈ vs) (hj : ∀ i ∈ js, i ∈ vs1) : ∀ σ H Q, liftL X.K (lLc2 vs vs1 Tr G Tt T1 G1 Tt1 Te) σ H Q →
    tLc2 (liftIBR DR X.K Tr) (liftGR DR X.K is G) (liftT X.K Tt) (liftIR DR1 X.K T1) (liftGR DR1 X.K js G1) (liftT X.K Tt1) (lift X.K Te) vs vs1 σ H Q := fun σ H Q ⟨b, f, ρ, R, S, t, q⟩ =>
  ⟨b, f, ρ, _, S, t, fun ds ρ1 f1 H1 J ⟨hno, W, w0, turn, done⟩ S1 n1 J1 p hp => by
    obtain ⟨Sa, Oa, na⟩ := Own.new (vs := []) (ds := []) S1 hp .nil
    have k0 : b.1.F0 p = none := S1.f0.free (S1.fs.free hp)
    have nxp : ∀ (f5 : Fz) (H5 : Hp) (u : HO), Nx f1 H1 f5 H5 → Nx f1 H1 f5 (upd H5 p u) := fun f5 H5 u nn => ⟨nn.ff, fun a o e1 e2 => by
      rw [upd_ne (ne_of_none e1 hp)]
      exact nn.kp a o e1 e2, nn.pp, nn.pn⟩
    refine ⟨fun i m H' => m = ds.length - i ∧ i ≤ ds.length ∧ ∃ f' acc, Sim X.K b.1 f' ρ1 σ H' ∧ Nx f1 H1 f' H' ∧ W i acc ∧ Own X.K b.1 f' ρ1 σ H' p acc, ⟨ds.length, by simp, Nat.zero_le _, f1, [], Sa, na, w0, Oa⟩, ?_⟩
    rintro i m H' ⟨rfl, hil, f', acc, S', n', w, O⟩
    by_cases hlt : i < ds.length
    · refine .inr ⟨J1.go i f' H' hlt n' S'.fs, fun H2 => ∃ f2 acc2, Sim X.K b.1 f2 ρ1 σ H2 ∧ Nx f1 H1 f2 H2 ∧ W (i + 1) acc2 ∧ Own X.K b.1 f2 ρ1 σ H2 p acc2, fun H2 z => ⟨ds.length - (i + 1), by omega, rfl, hlt, z⟩, fun x H2 y => ?_⟩
      obtain ⟨d, F2, e, g, dp⟩ := J1.yld i f' H' x H2 hlt n' S'.fs y
      obtain ⟨_, hw1, ws, rfl, hw2⟩ := O.at_
      have S2 : Sim X.K b.1 ⟨F2, f'.P⟩ ρ1 σ H2 := S'.grow g
      have n2 : Nx f1 H1 ⟨F2, f'.P⟩ H2 := n'.trans S1.pots (Nx.of_gr g)
      obtain ⟨hw3, hF2⟩ := held_gr O.nf hw1 g
      have SG : Sim X.K (heldB b.1 p (.lst ws)) ⟨F2, f'.P⟩ (wipeD ρ1 vs) (wipe σ vs) H2 := (S2.guard hw3 hF2 O.np O.no).wipe vs
      refine ⟨⟨heldB b.1 p (.lst ws), heldB_law O.nb⟩, ⟨F2, f'.P⟩, _, d, _, SG, dp, turn i d acc e w, fun ρ3 σ3 f3 H3 r3 S3 n3 t3 => ⟨wipe_eq t3.len t3.sg hi, ?_⟩⟩
      refine ⟨⟨heldB b.1 p (.lst ws), heldB_law O.nb⟩, f3, ρ3, _, S3, r3, fun c ρ4 f4 H4 ⟨e4, r4⟩ S4 n4 => ?_⟩
      subst e4
      have n34 : Nx ⟨F2, f'.P⟩ H2 f4 H4 := n3.trans SG.pots n4
      cases c with
      | false =>
        rw [if_neg Bool.false_ne_true] at r4 ⊢
        obtain ⟨k1, k2, k3, k4⟩ := turn_fin S2 hno hi O.nb k0 S4 n34 t3
        exact ⟨f4, acc, k2, n2.trans S1.pots n34, r4, ⟨k3, O.nb, k4, O.no, _, k1, ws, rfl, dpa_mono (g.ff.trans n34.ff) _ _ hw2⟩⟩
      | true =>
        rw [if_pos rfl] at r4 ⊢
        refine ⟨⟨heldB b.1 p (.lst ws), heldB_law O.nb⟩, f4, ρ4, _, S4, r4, fun es ρ5 f5 H5 J2 ⟨e5, hno1, W1, w10, turn1, done1⟩ S5 n5 J2F => ?_⟩
        subst e5
        have n25 : Nx ⟨F2, f'.P⟩ H2 f5 H5 := n34.trans S2.pots n5
        obtain ⟨a1, a2, a3, a4⟩ := held_at (F0 := b.1.F0) S5 (fun _ z => by cases z) k0
        have S5u : Sim X.K b.1 f5 ρ5 σ3 H5 := S5.loose (same_new O.nb)
        refine ⟨fun j k Hj => k = es.length - j ∧ j ≤ es.length ∧ ∃ f6 acc1, Sim X.K b.1 f6 ρ5 σ3 Hj ∧ Nx f1 H1 f6 Hj ∧ Same f5.F f6.F ∧ (∀ z, z ∈ f5.P → z ∈ f6.P) ∧ W1 j acc1 ∧ Own X.K b.1 f6 ρ5 σ3 Hj p acc1,
          ⟨es.length, by simp, Nat.zero_le _, f5, acc, S5u, n2.trans S1.pots n25, Same.refl _, fun _ z => z, w10, ⟨a2, O.nb, a3, a4, _, a1, ws, rfl, dpa_mono (g.ff.trans n25.ff) _ _ hw2⟩⟩, ?_⟩
        rintro j k Hj ⟨rfl, hjl, f6, acc1, S6, n6, ff6, pp6, w6, O6⟩
        by_cases hlj : j < es.length
        · refine .inr ⟨J2F.go j f6 Hj hlj ff6 S6.fs, fun H2 => ∃ f7 acc2, Sim X.K b.1 f7 ρ5 σ3 H2 ∧ Nx f1 H1 f7 H2 ∧ Same f5.F f7.F ∧ (∀ z, z ∈ f5.P → z ∈ f7.P) ∧ W1 (j + 1) acc2 ∧ Own X.K b.1 f7 ρ5 σ3 H2 p acc2, fun H2 z => ⟨es.length - (j + 1), by omega, rfl, hlj, z⟩, fun x7 H7 y7 => ?_⟩
          obtain ⟨d1, F7, e7, g7, dp7⟩ := J2F.yld j f6 Hj x7 H7 hlj ff6 S6.fs y7
          obtain ⟨_, hv1, us, rfl, hv2⟩ := O6.at_
          have S7 : Sim X.K b.1 ⟨F7, f6.P⟩ ρ5 σ3 H7 := S6.grow g7
          have n7 : Nx f1 H1 ⟨F7, f6.P⟩ H7 := n6.trans S1.pots (Nx.of_gr g7)
          obtain ⟨hv3, hF7⟩ := held_gr O6.nf hv1 g7
          have SG1 : Sim X.K (heldB b.1 p (.lst us)) ⟨F7, f6.P⟩ (wipeD ρ5 vs1) (wipe σ3 vs1) H7 := (S7.guard hv3 hF7 O6.np O6.no).wipe vs1
          refine ⟨⟨heldB b.1 p (.lst us), heldB_law O.nb⟩, ⟨F7, f6.P⟩, _, d1, _, SG1, dp7, turn1 j d1 acc1 e7 w6, fun ρ8 σ8 f8 H8 r8 S8 n8 t8 => ⟨wipe_eq t8.len t8.sg hj, ?_⟩⟩
          refine ⟨⟨heldB b.1 p (.lst us), heldB_law O.nb⟩, f8, ρ8, _, S8, r8, fun c1 ρ9 f9 H9 ⟨e9, r9⟩ S9 n9 => ?_⟩
          subst e9
          have n79 : Nx ⟨F7, f6.P⟩ H7 f9 H9 := n8.trans SG1.pots n9
          cases c1 with
          | false =>
            rw [if_neg Bool.false_ne_true] at r9 ⊢
            obtain ⟨k1, k2, k3, k4⟩ := turn_fin S7 hno1 hj O.nb k0 S9 n79 t8
            exact ⟨f9, acc1, k2, n7.trans S1.pots n79, (ff6.trans g7.ff).trans n79.ff, fun z hz => n79.pp z (pp6 z hz), r9, ⟨k3, O.nb, k4, O6.no, _, k1, us, rfl, dpa_mono (g7.ff.trans n79.ff) _ _ hv2⟩⟩
          | true =>
            rw [if_pos rfl] at r9 ⊢
            refine ⟨⟨heldB b.1 p (.lst us), heldB_law O.nb⟩, f9, ρ9, _, S9, r9, fun yd ρ10 v10 f10 H10 ⟨e10, hz10, w10'⟩ S10 n10 dp10 => ?_⟩
            subst e10
            have n710 : Nx ⟨F7, f6.P⟩ H7 f10 H10 := n79.trans S7.pots n10
            obtain ⟨k1, k2, k3, k4⟩ := turn_fin S7 hno1 hj O.nb k0 S10 n710 t8
            have hus : DpAll X.K f10.F us acc1 := dpa_mono (g7.ff.trans n710.ff) _ _ hv2
            refine ⟨us, k1, by rw [dpa_len hv2]; exact hz10, f10, acc1 ++ [yd], ?_⟩
            obtain ⟨P1, P2⟩ := Own.put k2 (.inr ⟨_, k1, True.intro⟩) k3 O.nb k4 O6.no (dpa_app hus (.cons dp10 .nil))
            exact ⟨P1, nxp _ _ _ (n7.trans S1.pots n710), (ff6.trans g7.ff).trans n710.ff, fun z hz => n710.pp z (pp6 z hz), w10', P2⟩
        · have ej : j = es.length := by omega
          subst ej
          refine .inl ⟨J2F.stop f6 Hj ff6 S6.fs, f6, acc1, ?_, n6, done1 acc1 w6, ?_⟩
          · refine Sim.back0 (B' := b.1.B) S2 S6 (Same.refl _) (n25.ff.trans ff6) (fun z hz => pp6 z (n25.pp z hz)) fun l es' hl => ?_
            have jv : l ∉ vs := fun z => hno l z es' hl
            have ji : l ∉ is := fun z => jv (hi l z)
            exact ⟨by rw [t3.rh l ji, wipeD_ne jv]; exact hl, by rw [t3.sg l ji, wipe_ne jv]⟩
          · exact ⟨O6.nf, O6.nb, O6.np, O.no, O6.at_⟩
    · have e : i = ds.length := by omega
      subst e
      exact .inl ⟨J1.stop f' H' n' S'.fs, q acc ρ1 p f' H' (done acc w) S' (n1.trans S.pots n') O⟩⟩
theorem dl_lc2 (h : PE X e (tLc2 (liftIBR DR X.K Tr) (liftGR DR X.K is G) (liftT X.K Tt) (liftIR DR1 X.K T1) (liftGR DR1 X.K js G1) (liftT X.K Tt1) (lift X.K Te) vs vs1)) (hi : ∀ i ∈ is, i ∈ vs) (hj : ∀ i ∈ js, i ∈ vs1) : DLs X e (lLc2 vs vs1 Tr G Tt T1 G1 Tt1 Te) := PE.weak h (lc2_weak X hi hj)
theorem ds_setLc2 {st : Stmt} {i : Nat} (h : PS X st (tAsg (tLc2 (liftIBR DR X.K Tr) (liftGR DR X.K is G) (liftT X.K Tt) (liftIR DR1 X.K T1) (liftGR DR1 X.K js G1) (liftT X.K Tt1) (lift X.K Te) vs vs1) (gName i))) (hi : ∀ i ∈ is, i ∈ vs) (hj : ∀ i ∈ js, i ∈ vs1) : DSt X st (sSetL i (lLc2 vs vs1 Tr G Tt T1 G1 Tt1 Te)) :=
  PS.weak h fun D σ H ⟨b, f, ρ, E, S, t, k⟩ => lc2_weak X hi hj _ _ _ ⟨b, f, ρ, _, S, t, fun ds ρ' p f' H' r S' n O => k.nx _ _ f' H' r (S'.setOwn O)⟩
end
end DL

/-! == and != of equal data, dicts among them -/
namespace PySem.SeqAt
open AutoSeq1 (wpAny_loadPart')
open MeetsSeq MeetsSeq2 MeetsSeq3 SeqRoads2
section
variable {P0 : Program} {w0 : World} {p q : Addr} {us ws : Array Value} {cu cw : Nat} {du dw : Option Addr} {fu fw : Array (Option Value)}
/-- where the two lists stand, their items equal -/
def SameAt (P0 : Program) (w0 : World) (A : Around) (s : Shared) (p q : Addr) (us ws : Array Value) (cu cw : Nat) (du dw : Option Addr) (fu fw : Array (Option Value)) : Prop :=
  s.heap.get? p = some ⟨.type "list", du, .seq us cu, fu⟩ ∧ s.heap.get? q = some ⟨.type "list", dw, .seq ws cw, fw⟩ ∧ ∀ j (a : j < us.size) (c : j < ws.size), EqP P0 w0 A.in1 s us[j] ws[j] true
theorem ne_same_loop (hz : us.size = ws.size) (m : Nat) : ∀ i : Nat, us.size - i = m → MeetsIn P0 w0 (Builtin.«list.__eq__.loop» ⟨[.ref p, .ref q, rawInt i, rawInt 3], []⟩) (fun A R s => SameAt P0 w0 A s p q us ws cu cw du dw fu fw ∧ R (.ok (.ret (.bool false))) s) := by
  induction m with
  | zero =>
    rintro i im A R ⟨h0, g0, d0, t0, o0⟩ ⟨⟨hp, hq, _⟩, r⟩
    wp_walk using wpAny_loadPart' hp, wpAny_loadPart' hq
    have eu : us[((i : Nat) : Int).toNat]? = none := by simp; omega
    have ew : ws[((i : Nat) : Int).toNat]? = none := by simp; omega
    rw [eu, ew]
    wp_walk using wpAny_loadPart' hp, wpAny_loadPart' hq
    show R (.ok (.ret (.bool (us.size != ws.size)))) _
    rw [hz, bne_self_eq_false]
    exact r
  | succ m ih =>
    rintro i im A R ⟨h0, g0, d0, t0, o0⟩ ⟨⟨hp, hq, he⟩, r⟩
    wp_walk using wpAny_loadPart' hp, wpAny_loadPart' hq
    have iu : i < us.size := by omega
    have iw : i < ws.size := by omega
    have eu : us[((i : Nat) : Int).toNat]? = some us[i] := by simp [iu]
    have ew : ws[((i : Nat) : Int).toNat]? = some ws[i] := by simp [iw]
    rw [eu, ew]
    refine wpAny_bind (he i iu iw _ _ ?_)
    wp_walk
    rw [show ((i : Int) + 1) = ((i + 1 : Nat) : Int) by push_cast; rfl]
    refine ⟨plainId_quiet plain_eq_loop _, codeAny_builtin entry_eq_loop ?_⟩
    rw [Around.under_plainId plain_eq_loop _]
    exact ih (i + 1) (by omega) A R _ ⟨⟨hp, hq, he⟩, r⟩
theorem ne_same_list (hz : us.size = ws.size) : MeetsIn P0 w0 (Builtin.«list.__ne__» ⟨[.ref p, .ref q], []⟩) (fun A R s => SameAt P0 w0 A s p q us ws cu cw du dw fu fw ∧ R (.ok (.ret (.bool false))) s) := by
  rintro A R ⟨h0, g0, d0, t0, o0⟩ ⟨⟨hp, hq, he⟩, r⟩
  have sub := AutoSeq1.sub_list_list
  have nz : ¬ (us.size != ws.size) = true := by simp [hz]
  wp_walk using wpAny_loadPart' hp, wpAny_loadPart' hq
  refine ⟨plainId_quiet plain_eq_loop _, codeAny_builtin entry_eq_loop ?_⟩
  rw [Around.under_plainId plain_eq_loop _]
  exact ne_same_loop hz _ 0 rfl A R _ ⟨⟨hp, hq, he⟩, r⟩
theorem ne_same {A : Around} {s : Shared} (hp : s.heap.IsList p us) (hq : s.heap.IsList q ws) (hz : us.size = ws.size) (hu : A.units < cLine) (he : ∀ j (a : j < us.size) (c : j < ws.size), EqP P0 w0 A.in1 s us[j] ws[j] true)
    (E Q : Value → Shared → Prop) (h : Q (.bool false) s) : wpAny (model P0 w0) A (richCompare .NotEq (.ref p) (.ref q)) Q E s := by
  obtain ⟨⟨c1, d1, t1, f1⟩, g1, e1, n1, k1⟩ := id hp
  obtain ⟨⟨c2, d2, t2, f2⟩, g2, e2, n2, k2⟩ := id hq
  simp only at e1 k1 e2 k2
  subst e1 k1 e2 k2
  have tp : s.TypeIs (.ref p) "list" := ⟨_, g1, rfl⟩
  refine wpAny_richCompare_same_room (op := .NotEq) tp ⟨_, g2, rfl⟩ F.slot_list_ne (call_meetsIn F.slot_list_ne tp F.entry_list_ne (F.args_list_ne_2 _ _) (ne_same_list hz) ⟨⟨g1, g2, he⟩, ?_⟩) hu
  exact ⟨(fun x => nomatch x), h⟩
end
end PySem.SeqAt
namespace DL
open PySem PySem.Spec PyProof.Rows L2
variable [Tbs] [Bse]
/-- data that may be compared with their like -/
def SmD : Nat → D → Prop
  | 0, _ => False
  | n + 1, d => (d.canLay0 = true ∧ d.depth ≤ n) ∨ (∃ ds, d = .list ds ∧ ∀ x ∈ ds, SmD n x) ∨ ∃ m, d = .dict (kvD m) ∧ (m.map (·.1)).Nodup ∧ ∀ p ∈ m, SmD n p.2
section
variable {X : Cx} {pins : List (Addr × Obj)} {σ : L2.St} {H : Hp} {s : Shared}
theorem paired_same {K : PySem.W.Frag} {R : V → V → Prop} : ∀ {ds : List D} {vs us : List V}, DpAll K H vs ds → DpAll K H us ds → (∀ d ∈ ds, ∀ x y, Dp K H x d → Dp K H y d → R x y) → Paired R vs us
  | [], _, _, h, k, _ => by cases h; cases k; exact .nil
  | d :: ds, _, _, h, k, q => by
    cases h with
    | cons a b =>
      cases k with
      | cons a' b' => exact .cons (q d List.mem_cons_self _ _ a a') (paired_same b b' fun z hz => q z (List.mem_cons_of_mem _ hz))
theorem km_same2 {K : PySem.W.Frag} {R : V → V → Prop} {vs ws : List (L2.Key × V)} {m : KvD} (h1 : KM K H vs m) (h2 : KM K H ws m) (nd : (m.map (·.1)).Nodup) (q : ∀ p ∈ m, ∀ x y, Dp K H x p.2 → Dp K H y p.2 → R x y) :
    ∀ p ∈ vs, ∃ u, valV ws p.1 = some u ∧ R p.2 u := by
  intro p hp
  obtain ⟨i, hi⟩ := List.mem_iff_getElem?.mp hp
  obtain ⟨k, v⟩ := p
  obtain ⟨d, e, dv⟩ := km_at h1 hi
  have hg : getM m k = some d := by
    unfold getM
    have hm : (k, d) ∈ m := List.mem_of_getElem? e
    clear h1 h2 hi hp q dv e i
    induction m with
    | nil => cases hm
    | cons c m ih =>
      rw [List.map_cons, List.nodup_cons] at nd
      rw [List.find?_cons]
      by_cases z : c.1 = k
      · rw [decide_eq_true z]
        rcases List.mem_cons.mp hm with rfl | hm
        · rfl
        · exact absurd (List.mem_map.mpr ⟨_, hm, rfl⟩) (by rw [← z] at *; exact nd.1)
      · rw [decide_eq_false z]
        rcases List.mem_cons.mp hm with rfl | hm
        · exact absurd rfl z
        · exact ih nd.2 hm
  rcases km_get h2 k with ⟨_, g⟩ | ⟨u, d', g1, g2, du⟩
  · rw [hg] at g; cases g
  · rw [hg] at g2
    cases g2
    exact ⟨u, g1, q (k, d) (List.mem_of_getElem? e) v u dv du⟩
theorem sm_refs {A : Around} {d : D} {n : Nat} (I : Inv X pins σ H s) (h : SmD (n + 1) d) (hu : A.units + n < cLine) (ih : ∀ (d : D), SmD n d → ∀ x y v u, Dp X.K H x d → Dp X.K H y d → RelV x v → RelV y u → SeqAt.EqP X.prog X.w A.in1 s v u true)
    {x y : V} {v u : Value} (hx : Dp X.K H x d) (hy : Dp X.K H y d) (rx : RelV x v) (ry : RelV y u) : SeqAt.EqP X.prog X.w A s v u true := by
  rcases h with ⟨hl, hd⟩ | ⟨ds, rfl, hds⟩ | ⟨m, rfl, nd, hm⟩
  · obtain ⟨as, r1⟩ := Dp.reads I d x v hx rx
    obtain ⟨bs, r2⟩ := Dp.reads I d y u hy ry
    have e := SeqAt.eqAt_reads d d A s v u as bs r1 r2 hl hl (by rw [Nat.min_self]; omega)
    rw [SeqAt.eqv_refl d hl] at e
    exact e.eqP
  · cases hx with
    | lst h1 a1 =>
      cases hy with
      | lst h2 a2 =>
        rename_i p vs q ws
        cases rx
        cases ry
        by_cases z : p = q
        · subst z
          exact (SeqAt.EqAt.same _).eqP
        obtain ⟨us, r1, p1, _⟩ := I.list h1
        obtain ⟨xs, r2, p2, _⟩ := I.list h2
        have hp := paired_same (R := fun x y => ∃ d ∈ ds, Dp X.K H x d ∧ Dp X.K H y d) a1 a2 fun d hd x y k1 k2 => ⟨d, hd, k1, k2⟩
        have hz : us.toArray.size = xs.toArray.size := by
          rw [List.size_toArray, List.size_toArray, ← r1.length, ← r2.length]
          exact Paired.length hp
        refine SeqAt.eqP_refs z fun E Q hq => SeqAt.rcP_lists (e := fun _ => true) p1.isList p2.isList hz (by omega) (fun j k1 k2 => ?_) E Q ?_
        · have := items_run (F := fun x y => ∃ d ∈ ds, Dp X.K H x d ∧ Dp X.K H y d) (fun x y v u ⟨d, hd, k1, k2⟩ rx ry => ih d (hds d hd) x y v u k1 k2 rx ry) hp r1 r2 j (by simpa using k1) (by simpa using k2)
          simpa using this
        · rw [show ((List.range us.toArray.size).all fun _ => true) = true from List.all_eq_true.mpr fun _ _ => rfl]
          exact hq
  · generalize hd : PyData.dict (kvD m) = dd at hx hy
    cases hx with
    | dct h1 a1 =>
      cases hy with
      | dct h2 a2 =>
        rename_i p vs _ q ws
        cases hd
        cases rx
        cases ry
        by_cases z : p = q
        · subst z
          exact (SeqAt.EqAt.same _).eqP
        have k1 := km_of a1
        have k2 := km_of a2
        obtain ⟨_, ya, va, ra, da⟩ := Rd.ok h1 I.hok
        obtain ⟨_, yb, vb, rb, db⟩ := Rd.ok h2 I.hok
        have hp := km_same2 (R := fun x y => ∃ d, SmD n d ∧ Dp X.K H x d ∧ Dp X.K H y d) k1 k2 nd fun p hp x y k1 k2 => (⟨p.2, hm p hp, k1, k2⟩ : ∃ d, SmD n d ∧ Dp X.K H x d ∧ Dp X.K H y d)
        refine SeqAt.eqP_refs z fun E Q hq => PySem.W.rcP_dicts (knd := mixKind X.prog X.w) (r := true) ya yb da db (by omega) (fun _ => hits_run (F := fun x y => ∃ d, SmD n d ∧ Dp X.K H x d ∧ Dp X.K H y d) (fun x y v u ⟨d, hd, k1, k2⟩ rx ry => ih d hd x y v u k1 k2 rx ry) rb ra hp) E Q ?_
        have e : va.length = vb.length := by rw [← ra.length, ← rb.length, km_len k1, km_len k2]
        rw [e, beq_self_eq_true]
        exact hq
    | _ => cases hd
theorem sm_run (I : Inv X pins σ H s) : ∀ (n : Nat) (A : Around), A.units + n < cLine → ∀ d, SmD n d → ∀ (x y : V) (v u : Value), Dp X.K H x d → Dp X.K H y d → RelV x v → RelV y u → SeqAt.EqP X.prog X.w A s v u true
  | 0, _, _, _, h, _, _, _, _, _, _, _, _ => h.elim
  | n + 1, A, hu, d, h, x, y, v, u, hx, hy, rx, ry => sm_refs I h (by omega) (fun d hd x y v u => sm_run I n A.in1 (by show A.units + 1 + n < cLine; omega) d hd x y v u) hx hy rx ry
/-- a == a' and a != a', lists of the same data -/
def rSame (neg : Bool) : D → D → (D → Prop) → Prop := fun d e R => ∃ ds, d = .list ds ∧ e = .list ds ∧ (∀ x ∈ ds, SmD 20 x) ∧ R (.bool !neg)
theorem od_eqS (hu : X.A.units + 64 < cLine) : OpR X (compareOp .Eq) (liftO X.K (rSame false)) := by
  intro pins s σ H x y v u Q I rx ry q
  obtain ⟨f, d, e, R, fs, bx, bY, ⟨ds, rfl, rfl, h, r⟩, q⟩ := q
  obtain ⟨p, vs, rfl, h1, a1⟩ := bx.lst fs
  obtain ⟨p', ws, rfl, h2, a2⟩ := bY.lst fs
  cases rx
  cases ry
  obtain ⟨us, r1, p1, _⟩ := I.list h1
  obtain ⟨xs, r2, p2, _⟩ := I.list h2
  have hp := paired_same (R := fun x y => ∃ d ∈ ds, Dp X.K H x d ∧ Dp X.K H y d) (dpa_mono fs _ _ a1) (dpa_mono fs _ _ a2) fun d hd x y k1 k2 => ⟨d, hd, k1, k2⟩
  have hz : us.toArray.size = xs.toArray.size := by
    rw [List.size_toArray, List.size_toArray, ← r1.length, ← r2.length]
    exact Paired.length hp
  show wpAny _ _ (richCompare .Eq _ _) _ _ _
  refine SeqAt.rcP_lists (e := fun _ => true) p1.isList p2.isList hz (by omega) (fun j k1 k2 => ?_) _ _ ?_
  · have := items_run (F := fun x y => ∃ d ∈ ds, Dp X.K H x d ∧ Dp X.K H y d) (fun x y v u ⟨d, hd, k1, k2⟩ rx ry => sm_run I 20 X.A.in1 (by show X.A.units + 1 + 20 < cLine; omega) d (h d hd) x y v u k1 k2 rx ry) hp r1 r2 j (by simpa using k1) (by simpa using k2)
    simpa using this
  · rw [show ((List.range us.toArray.size).all fun _ => true) = true from List.all_eq_true.mpr fun _ _ => rfl]
    exact ⟨.bl true, H, I, rfl, flatQ fs q r (.bl _)⟩
theorem od_neS (hu : X.A.units + 64 < cLine) : OpR X (compareOp .NotEq) (liftO X.K (rSame true)) := by
  intro pins s σ H x y v u Q I rx ry q
  obtain ⟨f, d, e, R, fs, bx, bY, ⟨ds, rfl, rfl, h, r⟩, q⟩ := q
  obtain ⟨p, vs, rfl, h1, a1⟩ := bx.lst fs
  obtain ⟨p', ws, rfl, h2, a2⟩ := bY.lst fs
  cases rx
  cases ry
  obtain ⟨us, r1, p1, _⟩ := I.list h1
  obtain ⟨xs, r2, p2, _⟩ := I.list h2
  have hp := paired_same (R := fun x y => ∃ d ∈ ds, Dp X.K H x d ∧ Dp X.K H y d) (dpa_mono fs _ _ a1) (dpa_mono fs _ _ a2) fun d hd x y k1 k2 => ⟨d, hd, k1, k2⟩
  have hz : us.toArray.size = xs.toArray.size := by
    rw [List.size_toArray, List.size_toArray, ← r1.length, ← r2.length]
    exact Paired.length hp
  show wpAny _ _ (richCompare .NotEq _ _) _ _ _
  refine SeqAt.ne_same p1.isList p2.isList hz (by omega) (fun j k1 k2 => ?_) _ _ ?_
  · have := items_run (F := fun x y => ∃ d ∈ ds, Dp X.K H x d ∧ Dp X.K H y d) (fun x y v u ⟨d, hd, k1, k2⟩ rx ry => sm_run I 20 X.A.in1 (by show X.A.units + 1 + 20 < cLine; omega) d (h d hd) x y v u k1 k2 rx ry) hp r1 r2 j (by simpa using k1) (by simpa using k2)
    simpa using this
  · exact ⟨.bl false, H, I, rfl, flatQ fs q r (.bl _)⟩
end
end DL

/-! the end with tables of code objects and the table of modules, the law's def known where no guard stands -/
namespace DL
open PySem PySem.Spec PyProof.Rows L2 LamX NdefX
section
variable {P : Program} {w : World} {K : PySem.W.Frag} {mg mb : Str → Option Value} {k : Nat} {fa a : Addr} {fd : FuncData} {x : Str} {sp : Sp} {s : Shared} {us : List Value} {ns : List Int} {cs : List (Addr × Addr)}
open Classical in
/-- what is told at first: the table of modules, the empty tables, the script -/
noncomputable def firstT (K : PySem.W.Frag) (so : Obj) (cs : List (Addr × Addr)) (a : Addr) (so2 : Obj) (ns : List Int) : Hp := fun c =>
  if c = sysModules then some (.frz so (.own 0)) else if c ∈ cs.map (·.2) then some (.tbl #[]) else if c = a ∧ K.lookup a = none then some (.frz so2 (.lst (ns.map V.int))) else none
theorem firstT_cases {so so2 : Obj} {c : Addr} {u : HO} (h : firstT K so cs a so2 ns c = some u) : (c = sysModules ∧ u = .frz so (.own 0)) ∨ (c ≠ sysModules ∧ c ∈ cs.map (·.2) ∧ u = .tbl #[]) ∨ (c ≠ sysModules ∧ c ∉ cs.map (·.2) ∧ c = a ∧ K.lookup a = none ∧ u = .frz so2 (.lst (ns.map V.int))) := by
  unfold firstT at h
  by_cases h1 : c = sysModules
  · rw [if_pos h1] at h
    exact .inl ⟨h1, (Option.some.inj h).symm⟩
  · rw [if_neg h1] at h
    by_cases h2 : c ∈ cs.map (·.2)
    · rw [if_pos h2] at h
      exact .inr (.inl ⟨h1, h2, (Option.some.inj h).symm⟩)
    · rw [if_neg h2] at h
      by_cases h3 : c = a ∧ K.lookup a = none
      · rw [if_pos h3] at h
        exact .inr (.inr ⟨h1, h2, h3.1, h3.2, (Option.some.inj h).symm⟩)
      · rw [if_neg h3] at h
        cases h
theorem top_runsT (inh : K.In s.heap) (glo : s.heap.Ns mainGlobals mg) (bl : s.heap.Ns builtinsNs mb) (boot : ∀ y : Str, y ≠ "__name__" → mb y = bootBuiltins y) (nol : s.heap.NoLimit) (nog : s.gens = #[])
    (tabs : ∀ p ∈ cs, s.heap.get? p.2 = some { cls := .none, data := .fields #[] }) (tabK : ∀ p ∈ cs, K.lookup p.2 = none) (codes : ∀ p ∈ cs, PySem.W.CodeHd s.heap p.1 p.2)
    (bmod : ∃ (bm : Addr) (ob : Obj), mg "__builtins__" = some (.ref bm) ∧ bm ≠ builtinsNs ∧ s.heap.get? bm = some ob ∧ ob.cls = .type "module" ∧ ob.dict = some builtinsNs ∧ ob.data = .plain)
    (sat : s.heap.get? a = some { cls := .type "list", data := .seq us.toArray }) (sin : IntsAre us ns) (szn : ns.length ≤ sizeLine) (rm : Room k callerA)
    (sy : ∃ o, s.heap.get? sysModules = some o ∧ (o.cls == .type "dict") = true) (nK : K.lookup sysModules = none)
    (go : ∀ b : Heap, K.In b → b.Ns mainGlobals mg → (∀ p ∈ cs, TabB b mg p.1 p.2) → FnG P w K mg b CX0 k fa fd [x] sp) (bd : ∀ (t : Shared) (u : Value), BindsTo t fd ⟨[u], []⟩ [(x, u)])
    (ask : ∀ H : Hp, (∃ o, H sysModules = some (.frz o (.own 0))) → (∀ p ∈ cs, H p.2 = some (.tbl #[])) → SqL K H a (ns.map V.int) → sp [.ref a] H (fun v _ => v = .bl true) fun _ _ _ => False) :
    codeAny (model P w) callerA (.call (.ref fa) ⟨[.ref a], []⟩) (fun r t => r = .ok (.ret (.bool true)) ∧ OldK s.heap t.heap ∧ t.os = s.os ∧ AllBare t.gens) s := by
  have same := vals_ints sin
  have lens := sin.length
  obtain ⟨so, sy1, sy2⟩ := sy
  have sy3 : so.cls = .type "dict" := by
    have := sy2
    revert this
    cases so.cls with
    | type n => intro z; simpa using z
    | _ => intro z; first | (cases z; done) | simpa using z
  have tab_get : ∀ c, c ∈ cs.map (·.2) → s.heap.get? c = some { cls := .none, data := .fields #[] } := fun c hc => by
    obtain ⟨p, hp, e⟩ := List.mem_map.mp hc
    rw [← e]
    exact tabs p hp
  have tab_mem : ∀ p ∈ cs, p.2 ∈ cs.map (·.2) := fun p hp => List.mem_map.mpr ⟨p, hp, rfl⟩
  have tab_sys : ∀ c, c ∈ cs.map (·.2) → c ≠ sysModules := fun c hc z => by
    have e := tab_get c hc
    rw [z, sy1] at e
    cases e
    exact absurd (show Value.none = Value.type "dict" from sy3) (by decide)
  have a_sys : a ≠ sysModules := fun z => by
    rw [z, sy1] at sat
    cases sat
    exact absurd (show Value.type "list" = Value.type "dict" from sy3) (by decide)
  have a_tab : a ∉ cs.map (·.2) := fun z => by
    have e := tab_get a z
    rw [sat] at e
    cases e
  generalize hT : firstT K so cs a { cls := .type "list", data := .seq us.toArray } ns = T
  have cas : ∀ c u, T c = some u → _ := fun c u e => by
    rw [← hT] at e
    exact firstT_cases e
  have Tsys : T sysModules = some (.frz so (.own 0)) := by
    rw [← hT]
    exact if_pos rfl
  have Ttab : ∀ p ∈ cs, T p.2 = some (.tbl #[]) := fun p hp => by
    rw [← hT]
    exact (if_neg (tab_sys _ (tab_mem p hp))).trans (if_pos (tab_mem p hp))
  -- what has other data than these is not told
  have un : ∀ {c : Addr} {o : Obj}, s.heap.get? c = some o → c ≠ sysModules → (∀ vs n, o.data ≠ .seq vs n) → o.data ≠ .fields #[] → T c = none := fun {c o} e n1 n2 n3 => by
    cases q : T c with
    | none => rfl
    | some u =>
      rcases cas c u q with ⟨z, _⟩ | ⟨_, z, _⟩ | ⟨_, _, z, _⟩
      · exact absurd z n1
      · rw [tab_get c z] at e
        cases e
        exact absurd rfl n3
      · rw [z, sat] at e
        cases e
        exact absurd rfl (n2 _ _)
  have k_in : K.In (hidT s.heap T) := fun c ob e => by
    refine hidT_get (inh c ob e) ?_
    cases q : T c with
    | none => rfl
    | some u =>
      rcases cas c u q with ⟨z, _⟩ | ⟨_, z, _⟩ | ⟨_, _, z, z2, _⟩
      · rw [z, nK] at e
        cases e
      · obtain ⟨p, hp, ep⟩ := List.mem_map.mp z
        rw [← ep, tabK p hp] at e
        cases e
      · rw [z, z2] at e
        cases e
  have ns_in : ∀ {c : Addr} {m : Str → Option Value}, c ≠ sysModules → s.heap.Ns c m → (hidT s.heap T).Ns c m := fun {c m} nc ⟨ob, es, ep, e, d, r⟩ =>
    ⟨ob, es, ep, hidT_get e (un e nc (fun vs n z => by rw [d] at z; cases z) fun z => by rw [d] at z; cases z), d, r⟩
  have TB : ∀ p ∈ cs, TabB (hidT s.heap T) mg p.1 p.2 := fun p hp => by
    refine ⟨?_, ?_, fun z => ?_⟩
    · obtain ⟨o, vs, file, tf, flags, tg, inF, text, tt, e1, r1, r2, r3, r4, r5, r6, r7, r8, hne⟩ := codes p hp
      refine ⟨o, vs, file, tf, flags, tg, inF, text, tt, hidT_get e1 (un e1 (fun z => ?_) (fun vs n z => ?_) fun z => ?_), r1, r2, r3, r4, r5, r6, r7, r8, hne⟩
      · rw [z, sy1] at e1
        cases e1
        rw [sy3] at r1
        exact absurd r1 (by decide)
      · rw [r2] at z
        cases z
      · rw [r2] at z
        cases z
        simp at r3
    · obtain ⟨bm, ob, b1, b2, b3, b4, b5, b6⟩ := bmod
      refine ⟨bm, ob, b1, b2, fun q => ?_, fun q => ?_, hidT_get b3 (un b3 (fun z => ?_) (fun vs n z => ?_) fun z => ?_), b4, b5, b6⟩
      · obtain ⟨o, es, ep, e, hd, _⟩ := glo
        rw [q, e] at b3
        cases b3
        rw [hd] at b6
        cases b6
      · rw [q, tabs p hp] at b3
        cases b3
        cases b6
      · rw [z, sy1] at b3
        cases b3
        rw [sy3] at b4
        exact absurd b4 (by decide)
      · rw [b6] at z
        cases z
      · rw [b6] at z
        cases z
    · obtain ⟨o, es, ep, e, hd, _⟩ := glo
      rw [z, tabs p hp] at e
      cases e
      cases hd
  have good : HOk P w T s.heap := fun c u e => by
    rcases cas c u e with ⟨z, eu⟩ | ⟨_, z, eu⟩ | ⟨_, _, z, _, eu⟩
    · rw [z, eu]
      exact ⟨sy1, _, sy1⟩
    · rw [eu]
      exact tab_get c z
    · rw [z, eu]
      refine ⟨sat, ?_, us, _, same, sat⟩
      rw [List.length_map]
      exact szn
  have sq : SqL K T a (ns.map V.int) := by
    cases lk : K.lookup a with
    | none =>
      refine .inl (.inr ⟨{ cls := .type "list", data := .seq us.toArray }, ?_⟩)
      rw [← hT]
      exact (if_neg a_sys).trans ((if_neg a_tab).trans (if_pos ⟨rfl, lk⟩))
    | some ob =>
      have there := inh a ob lk
      rw [sat] at there
      cases there
      refine .inr ⟨_, us.toArray, _, lk, rfl, rfl, rfl, ?_, ?_⟩
      · rw [List.size_toArray, lens]
        exact szn
      · simpa using same
  have env : Env0 P w K mg (hidT s.heap T) callerA [] s T := by
    obtain ⟨mc, n1, n2⟩ := nol
    exact { frames := rfl, mod := { kin := k_in, glob := ns_in (by decide) glo, blt := ⟨mb, ns_in (by decide) bl, boot⟩, nolimit := ⟨mc, ns_in (by decide) n1, n2⟩ }, bs := fun _ _ e => of_hidT e, bsz := by rw [hidT_size]; exact Nat.le_refl _,
            funs := trivial, frf := fun c hc => (List.not_mem_nil hc).elim, hok := good, bare := AllBare.of_eq nog }
  have ran := (go (hidT s.heap T) k_in (ns_in (by decide) glo) TB).go callerA [] s T ⟨[.ref a], []⟩ [.ref a] [.ref a] (fun v _ => v = .bl true) (fun _ _ _ => False) rm rfl env (bd s (.ref a)) (.cons rfl .nil) (ask T ⟨_, Tsys⟩ Ttab sq)
  refine codeAny_mono ran fun r t ht => ?_
  match r, ht with
  | .ok (.ret u), ⟨v, T', e1, e2, e3, e4, e5, e6⟩ =>
    have e6' : v = .bl true := e6
    rw [e6'] at e5
    have e5' : u = Value.bool true := e5
    have still : ∀ c o, c ∉ cs.map (·.2) → s.heap.get? c = some o → t.heap.get? c = some o := fun c o nc old => by
      cases q : T c with
      | none => exact e3.keep c o old q (fun z => absurd z List.not_mem_nil) (by simp)
      | some y =>
        obtain ⟨o1, l1, ey⟩ : ∃ o1 l1, y = .frz o1 l1 := by
          rcases cas c y q with ⟨_, z⟩ | ⟨_, z, _⟩ | ⟨_, _, _, _, z⟩
          · exact ⟨_, _, z⟩
          · exact absurd z nc
          · exact ⟨_, _, z⟩
        rw [ey] at q
        have a1 := (good c _ q).1
        rw [old] at a1
        cases a1
        exact (e4 c _ (e3.frzs c _ _ q)).1
    have grown : ∀ p ∈ cs, ∃ more : Array Value, t.heap.get? p.2 = some { cls := .none, data := .fields more } := fun p hp => by
      obtain ⟨more, z⟩ := e3.tbls p.2 #[] (Ttab p hp)
      exact ⟨_, e4 p.2 _ z⟩
    refine ⟨by rw [e5'], ⟨fun c o old => ?_, fun c o old => ?_⟩, e1, e2⟩
    · by_cases hc : c ∈ cs.map (·.2)
      · obtain ⟨p, hp, ep⟩ := List.mem_map.mp hc
        obtain ⟨more, hm⟩ := grown p hp
        rw [← ep] at old ⊢
        rw [tabs p hp] at old
        cases old
        exact .inr (.inl ⟨((codes p hp).tab (tabs p hp)).isCodeTable, rfl, #[], more, rfl, by rw [Array.empty_append]; exact hm⟩)
      · exact .inl (still c o hc old)
    · by_cases hc : c ∈ cs.map (·.2)
      · obtain ⟨p, hp, ep⟩ := List.mem_map.mp hc
        obtain ⟨more, hm⟩ := grown p hp
        rw [← ep]
        exact ⟨_, hm⟩
      · exact ⟨o, still c o hc old⟩
end
/-- a law's def over a head with tables; what is known of them at the head's heap -/
def LawTM (l : PySem.W.OpenLaw) (w : World) (K : PySem.W.Frag) (k most : Nat) (x : Str) (mg : Str → Option Value) (fa : Addr) (h : Heap) : Prop :=
  K.lookup sysModules = none ∧ ∃ (fd : FuncData) (sp : Sp) (cs : List (Addr × Addr)), (∀ p ∈ cs, h.get? p.2 = some { cls := .none, data := .fields #[] }) ∧ (∀ p ∈ cs, K.lookup p.2 = none) ∧ (∀ p ∈ cs, PySem.W.CodeHd h p.1 p.2) ∧
    (∀ (t : Shared) (u : Value), BindsTo t fd ⟨[u], []⟩ [(x, u)]) ∧
    (∀ (H : Hp) (a : Addr) (ns : List Int), (∃ o, H sysModules = some (.frz o (.own 0))) → (∀ p ∈ cs, H p.2 = some (.tbl #[])) → ns.length ≤ most → (∀ z ∈ ns, Builtin.Int.intBits z ≤ 1048576) → SqL K H a (ns.map V.int) → sp [.ref a] H (fun v _ => v = .bl true) fun _ _ _ => False) ∧
    ∀ b : Heap, K.In b → b.Ns mainGlobals mg → (∀ p ∈ cs, TabB b mg p.1 p.2) → FnG l.prog w K mg b CX0 k fa fd [x] sp
theorem walk_tm {l : PySem.W.OpenLaw} {most k : Nat} {q : Program} {loose : List Str} {XP : (Str → Option Value) → Heap → Prop} {YP : World → Heap → Prop} {d : DefRec} {K : Params → PySem.W.Frag} {x : Str} (hmost : l.most = some most) (hsz : most ≤ sizeLine)
    (hdef : d.params.defaults = []) (room : Room k callerA) (known : ∀ (w : World) (h : Heap), YP w h → (K w.params).In h ∧ ∃ o, h.get? sysModules = some o ∧ (o.cls == .type "dict") = true)
    (F : ∀ (w : World) (mg : Str → Option Value) (fa : Addr) (h : Heap), YP w h → (K w.params).In h → h.Ns mainGlobals mg → mg d.name = some (.ref fa) → TabAll q mg h → LawTM l w (K w.params) k most x mg fa h) :
    PySem.W.WalkO q loose XP YP l.row.toRowW d [] (fun f vs => PySem.call f vs) := by
  refine Att.attach_callB hmost hdef fun w s0 s1 mg mb fa ob pm cd doc a us ns top yy _ _ _ hmg hobj hints hlen hbits hgen => ?_
  obtain ⟨inh, sy⟩ := known w _ yy
  obtain ⟨nK, fd, sp, cs, t1, t2, t3, t4, t5, t6⟩ := F w mg fa _ yy inh top.T.g hmg top.T.tab
  exact top_runsT inh top.T.g top.T.b top.T.builtins top.T.nolimit hgen t1 t2 t3 top.T.bmain hobj hints (Nat.le_trans hlen hsz) room sy nK t6 t4 fun H hs ht sq => t5 H a ns hs ht hlen hbits sq
end DL

/-! what gen.py's printed derivations use: raising classes as facts, calls that may raise, defs that make lambdas -/
namespace DL
open PySem PySem.Spec PyProof.Rows L2 LamX NdefX
variable [Tbs]
section
variable {P : Program} {w : World} {K : PySem.W.Frag} {mg : Str → Option Value} {base : Heap}
theorem CalXK.mono {j k : Nat} {x : Str} {st : Stmt} {ps : List Str} {sp : Sp} (c : CalXK P w K mg base j x st ps sp) (h : j ≤ k) : CalXK P w K mg base k x st ps sp := by
  obtain ⟨f, fd, F, q⟩ := c.ex
  exact ⟨f, fd, F.mono h, q⟩
theorem CalXK.of {k : Nat} {x : Str} {st : Stmt} {ps : List Str} {sp : Sp} {f : Addr} {fd : FuncData} (F : Fun K x x st f fd) (m : mg x = some (.ref f)) (G : FnOk P w K mg base (L2.CX P w) k f fd ps sp) : CalXK P w K mg base k x st ps sp := by
  obtain ⟨oc, od, kV, doc, pm, an, cdv, ct, osl, e, _, _⟩ := F.ex
  exact ⟨f, fd, G, m, F.kp, kV, doc, pm, an, cdv, ct, e⟩
theorem CalD.of {k : Nat} {x : Str} {st : Stmt} {ps : List Str} {sp : Sp} {f : Addr} {fd : FuncData} (F : Fun K x x st f fd) (m : mg x = some (.ref f)) (hb : BindP x st ps ps.length) (G : FnOk P w K mg base CX0 k f fd ps sp) : CalD P w K mg base k x sp :=
  ⟨f, fd, ps, G, m, F.kp, F.binds fun kV doc pm an cd ct us hl => hb kV doc pm an cd ct us hl⟩
/-- an exception class with one field, its __init__ -/
structure ExI (P : Program) (w : World) (K : PySem.W.Frag) (mg : Str → Option Value) (base : Heap) (k : Nat) (x : Str) (C : Addr) (fld : Str) (V0 : V → Prop) : Prop where
  O : OexC K C
  ex : ∃ (fI : Addr) (fd : FuncData) (ps : List Str), PySem.W.findIn K (.ref C) "__init__" = some (some (.ref fI)) ∧ PySem.W.typeIn K (.ref fI) = some (.type "function") ∧ FnOk P w K mg base CX0 k fI fd ps (spIniV V0 C fld) ∧ Binds K fd ps []
  m : mg x = some (.ref C)
/-- .. without a field, over a base of the builtins -/
structure ExT (P : Program) (w : World) (K : PySem.W.Frag) (mg : Str → Option Value) (base : Heap) (k : Nat) (x : Str) (C : Addr) : Prop where
  ex : ∃ (T newId initId : String) (bmB : List Value) (fI : Addr) (fd : FuncData) (ps : List Str), ExcBaseFacts T newId initId bmB ∧ OexT K T newId initId bmB C ∧ PySem.W.findIn K (.ref C) "__init__" = some (some (.ref fI)) ∧ PySem.W.typeIn K (.ref fI) = some (.type "function") ∧ FnOk P w K mg base CX0 k fI fd ps (spIniT C) ∧ Binds K fd ps []
  m : mg x = some (.ref C)
theorem ExI.mono {j k : Nat} {x : Str} {C : Addr} {fld : Str} {V0 : V → Prop} (h : ExI P w K mg base j x C fld V0) (l : j ≤ k) : ExI P w K mg base k x C fld V0 := by
  obtain ⟨fI, fd, ps, a, b, c, d⟩ := h.ex
  exact ⟨h.O, ⟨fI, fd, ps, a, b, c.mono l, d⟩, h.m⟩
theorem ExT.mono {j k : Nat} {x : Str} {C : Addr} (h : ExT P w K mg base j x C) (l : j ≤ k) : ExT P w K mg base k x C := by
  obtain ⟨T, n, i, bm, fI, fd, ps, a0, a1, a, b, c, d⟩ := h.ex
  exact ⟨⟨T, n, i, bm, fI, fd, ps, a0, a1, a, b, c.mono l, d⟩, h.m⟩
end
section
variable [Bse] {X : Cx} {e : Expr} {es : List Expr} {T : TD} {Tr : TDA} {p pos pos' : Pos} {C : Addr} {x fld : Str} {k : Nat} {V0 : V → Prop} {D0 : D → Prop} {c : ConX}
theorem ds_raiseE (hV : ∀ F v d, Dp X.K F v d → D0 d → V0 v) (E : ExI X.prog X.w X.K X.mg X.base k x C fld V0) (hcalm : X.calm = true) (tk : Takes X Bse.W) (hr : Room (k + 1) X.A) (hg : Gl X x) (he : DE X e T)
    (hdb : (x == ("__debug__" : Str)) = false := by decide) (hs : starEach [e] X.env = (false, eval e X.env) :: starEach [] X.env := by rfl) (hpl : (backTo pos (starEach [] X.env)).any (·.1) = false := by rfl) :
    DSt X (.Raise (some (.Call (.Name x p) [e] [] pos)) none pos') (sRaiseV D0 (.ref C) fld T) := by
  obtain ⟨fI, fd, ps, a, b, F, d⟩ := E.ex
  exact ds_raiseV hV hcalm tk E.O a b F hr d hg E.m he hdb hs hpl
theorem ds_raiseTE (E : ExT X.prog X.w X.K X.mg X.base k x C) (hcalm : X.calm = true) (tk : Takes X Bse.W) (hr : Room (k + 1) X.A) (hg : Gl X x) (hdb : (x == ("__debug__" : Str)) = false := by decide) :
    DSt X (.Raise (some (.Call (.Name x p) [] [] pos)) none pos') (sRaiseT (.ref C)) := by
  obtain ⟨T, n, i, bm, fI, fd, ps, a0, a1, a, b, F, d⟩ := E.ex
  exact ds_raiseT hcalm tk a0 a1 a b F hr d hg E.m hdb
/-- a call that may raise, and does not -/
def dFnX0 (c : ConX) (T : TDA) : TD := fun ρ R => T ρ fun ds ρ' => c ds (fun d => R d ρ') fun _ _ => False
theorem de_fnX0 (h : ∀ t, PA X (e :: es) t → PE X (.Call (.Name x p) (e :: es) [] pos) (tCallX (fun _ _ _ _ => False) (spX X.K c) t)) (ha : DA X (e :: es) Tr) : DE X (.Call (.Name x p) (e :: es) [] pos) (dFnX0 c Tr) :=
  PE.weak (h _ ha) fun σ H Q ⟨b, f, ρ, R, S, t, q⟩ => ⟨b, f, ρ, _, S, t, fun ds ρ1 vs f1 H1 r1 S1 n1 dps =>
    ⟨f1.F, ds, _, _, S1.tb, S1.fs, dps, r1, fun d v F' H' rd g dp => q d ρ1 v ⟨F', f1.P⟩ H' rd (S1.grow g) (n1.trans S.pots (Nx.of_gr g)) dp, fun cls kvs d F' H' sx g xo => sx.elim⟩⟩
end
theorem od_fdivW [Bse] {X : Cx} : OpR X (binaryOp .FloorDiv) (liftO X.K (rIntsC CDivW fun i j => .int (i / j))) := od_intsC op_fdivW
theorem room4 {k : Nat} {A : Around} (r : Room k A) : A.units + 4 < cLine := by have := r.un; omega
/-! ### a def that makes lambdas, where no guard stands -/
section
variable [Bse] {P : Program} {w : World} {K : PySem.W.Frag} {mg : Str → Option Value} {base : Heap} {x qual : Str} {st : Stmt} {f c0 : Addr} {fd : FuncData} {N ps : List Str} {k : Nat} {c : Con} {T : TDS}
abbrev BodyGC (P : Program) (w : World) (K : PySem.W.Frag) (mg : Str → Option Value) (base : Heap) (N : List Str) (qual : Str) (st : Stmt) (f c0 : Addr) (k : Nat) (T : TDS) : Prop :=
  ∀ [Bse] (A : Around) (outer : List Env) (s : Shared) (H : Hp) (E : XK), Room k (A.deeper (envOfC qual (defScope st) s.heap.objs.size f (.ref c0))) → (A.deeper (envOfC qual (defScope st) s.heap.objs.size f (.ref c0))).guards = some [] →
    DSs (cxOf CX0 P w K mg base N qual (defScope st) f (.ref c0) A outer s H E).nox (defBody st) T
theorem ok_DGC (F : FunC K x qual st f fd c0) (S : FnScope N ps (defScope st)) (hN : ps.length ≤ N.length) (hl : ∀ ds R, c ds R → ds.length = ps.length) (hb : BodyGC P w K mg base N qual st f c0 k T)
    (hq : ∀ ds R, c ds R → T (endsD R) (dstart ds N.length)) : FnG P w K mg base CX0 (k + 1) f fd ps (spD K c) := by
  obtain ⟨oc, od, kV, doc, pm, an, ct, osl, rfl, lk, hcd⟩ := F.ex
  refine fnG_of lk hcd S (fun vs H Q E ⟨F0, ds, R, _, _, h, hc, _⟩ => by rw [dpa_len h]; exact hl ds R hc) fun A outer s H vs Q E hr hg ⟨F0, ds, R, ht, hs, h, hc, q⟩ => ?_
  refine ⟨_, (@hb noX A outer s H E hr hg).nox, ⟨⟨H, F0, []⟩, noX_law⟩, ⟨F0, []⟩, _, endsD R, Sim.begin ht hs h (by rw [dpa_len h, hl ds R hc]; exact hN), hq ds R hc, ⟨?_, ?_, ?_, ?_, ?_⟩⟩
  · exact fun ρ σ f' H' r S' => q .none .non f'.F H' r S'.gr .non
  · exact fun d ρ v σ f' H' r S' dp => q d v f'.F H' r S'.gr dp
  · exact fun _ _ _ _ r _ => r.elim
  · exact fun _ _ _ _ r _ => r.elim
  · intro es ρ p σ f' H' r S' O
    obtain ⟨F', g, dp⟩ := O.froze S'
    exact q _ _ F' H' r g dp
theorem CalG.ofC {f c0 : Addr} {fd : FuncData} {k : Nat} {x : Str} {st : Stmt} {ps : List Str} {sp : Sp} (F : FunC K x x st f fd c0) (m : mg x = some (.ref f)) (G : FnG P w K mg base CX0 k f fd ps sp) : CalG P w K mg base k x st ps sp := CalG.of F.fn m G
end
end DL

/-! draws from great numbers -/
namespace DL
open PySem PySem.Spec PyProof.Rows L2
variable [Tbs] [Bse]
def rDivW : List V → Hp → VK → Prop := fun xs H Q => ∃ i j, xs = [.int i, .int j] ∧ CDivP i j ∧ ∀ p, H p = none → Q (.ref p) (upd H p (.tup [.int (i / j), .int (i % j)]))
theorem div_w {i m : Int} (h0 : 0 < m) (h1 : m < 10 ^ 100) : CDivP i m := ⟨h0, PyProof.noPylong_of_log2 (Nat.lt_of_lt_of_le (PySem.Flt.log2_lt_of (k := 400) (by decide) (by
  have e : m.natAbs < 10 ^ 100 := by omega
  exact Nat.lt_of_lt_of_le e (by decide))) (by decide))⟩
def cDrawW : Con := fun ds R => ∃ m : Int, ds = [.int m] ∧ 0 < m ∧ m < 10 ^ 100 ∧ ∀ r : Int, 0 ≤ r → r < m → R (.int r)
def tDrawW (K : PySem.W.Frag) : TS := tSeq (tIfS (tTest (tOp (rI0 fun i j => .bl (decide (j < i))) (tCell K 0) (tC (.int 0))))
    (tSeq (tAsg (tCB rDivW (tCons (tCell K 0) (tCons (tVar 1) tNil))) (gTup K 2 (gCons (gSub (tVar 0) (tC (.int 0)) rSetL) (gCons (gName 2) gNil)))) (tRet (tVar 2))) tNext)
  (tSeq (tAsg (tOp (rI (fun _ j => 0 < j) fun i j => .int (i % j)) (tCB rIntC (tCons (tOp (rI0 fun i j => .int (i + j)) (tOp (rI CMul fun i j => .int (i * j)) (tCell K 1) (tC (.int 39373))) (tC (.int 12227))) tNil)) (tC (.int 2147483629))) (gSub (tVar 0) (tC (.int 1)) rSetL))
    (tRet (tOp (rI (fun _ j => 0 < j) fun i j => .int (i % j)) (tCB rIntC (tCons (tOp (rI CDiv fun i j => .int (i / j)) (tOp (rI (fun _ j => 0 < j) fun i j => .int (i % j)) (tCB rIntC (tCons (tOp (rI CMul fun i j => .int (i * j)) (tCell K 1) (tCell K 1)) tNil)) (tC (.int 2147483563))) (tC (.int 13))) tNil)) (tVar 1))))
theorem draw_mathW {K : PySem.W.Frag} {p : Addr} {H : Hp} {Q : VK} {m : Int} {N : List Str} (hN : N.length = 3) (pt : PotAt H p) (h0 : 0 < m) (h1 : m < 10 ^ 100)
    (q : ∀ (r : Int) (H' : Hp), 0 ≤ r → r < m → (∀ a o, a ≠ p → H a = some o → H' a = some o) → PotAt H' p → Q (.int r) H') : tDrawW K { nx := fun _ H' => Q .non H', rt := Q } (L2.start N [.ref p, .int m]) H := by
  have es : L2.start N [.ref p, .int m] = [some (.ref p), some (.int m), none] := by
    unfold L2.start
    rw [hN]
    rfl
  rw [es]
  obtain ⟨a, b, hp, ha, hb, hb2⟩ := pt
  have hq : SqL K H p [.int a, .int b] := .inl (.inl hp)
  refine ⟨.ref p, rfl, p, _, 0, _, rfl, rfl, hq, at0 _ _, a, 0, rfl, rfl, _, rfl, ite2 (fun hc => ?_) (fun hc => ?_)⟩
  · have hpos : 0 < a := of_decide_eq_true hc
    refine ⟨.ref p, rfl, p, _, 0, _, rfl, rfl, hq, at0 _ _, .int m, rfl, a, m, rfl, div_w h0 h1, fun t ht => ?_⟩
    refine ⟨t, _, rfl, .inl (.inl upd_same), rfl, .int (a / m), [.int (a % m)], rfl, .ref p, rfl, p, [.int a, .int b], 0, 0, rfl, rfl, ?_, rfl, .int (a % m), [], rfl, rfl, .int (a % m), rfl, ?_⟩
    · rw [upd_ne (ne_of_none hp ht)]; exact hp
    · refine q _ _ (Int.emod_nonneg a (by omega)) (Int.emod_lt_of_pos a h0) (fun x o nx e => ?_) ⟨a / m, b, upd_same, Int.ediv_nonneg ha (by omega), hb, hb2⟩
      rw [upd_ne nx, upd_ne (ne_of_none e ht)]
      exact e
  · refine ⟨.ref p, rfl, p, _, 1, _, rfl, rfl, hq, at1 _ _, b, 39373, rfl, rfl, .inl ⟨by omega, by omega⟩, b * 39373, 12227, rfl, rfl, .inl ⟨_, rfl, _, _, rfl, rfl, (show (0 : Int) < 2147483629 by decide), ?_⟩⟩
    refine ⟨.ref p, rfl, p, _, 1, 1, rfl, rfl, hp, rfl, ?_⟩
    have g0 : 0 ≤ (b * 39373 + 12227) % 2147483629 := Int.emod_nonneg _ (by decide)
    have g1 : (b * 39373 + 12227) % 2147483629 < 2147483629 := Int.emod_lt_of_pos _ (by decide)
    have hq2 : SqL K (upd H p (.lst [.int a, .int ((b * 39373 + 12227) % 2147483629)])) p [.int a, .int ((b * 39373 + 12227) % 2147483629)] := .inl (.inl upd_same)
    refine ⟨.ref p, rfl, p, _, 1, _, rfl, rfl, hq2, at1 _ _, .ref p, rfl, p, _, 1, _, rfl, rfl, hq2, at1 _ _, _, _, rfl, rfl, .inl ⟨by omega, by omega⟩, .inl ⟨_, rfl, _, _, rfl, rfl, (show (0 : Int) < 2147483563 by decide), _, _, rfl, rfl, ⟨by decide, by decide⟩, .inl ⟨_, rfl, .int m, rfl, _, _, rfl, rfl, h0, ?_⟩⟩⟩
    exact q _ _ (Int.emod_nonneg _ (by omega)) (Int.emod_lt_of_pos _ h0) (fun x o nx e => by rw [upd_ne nx]; exact e) ⟨a, _, upd_same, ha, g0, by omega⟩
section
variable {P : Program} {w : World} {K : PySem.W.Frag} {mg : Str → Option Value} {base : Heap} {x qual : Str} {st : Stmt} {f : Addr} {fd : FuncData} {N ps : List Str} {k : Nat}
theorem ok_drawW (F : Fun K x qual st f fd) (S : FnScope N ps (defScope st)) (hN : N.length = 3) (hp : ps.length = 2) (hb : BodyH P w K mg base N qual st f k (tDrawW K)) : FnOk P w K mg base CX0 (k + 1) f fd ps (spP K cDrawW) := by
  refine F.ok S (fun vs H Q E ⟨p, vs', F0, ds, R, e, _, _, _, _, h, ⟨m, hm, _⟩, _⟩ => by rw [e, List.length_cons, dpa_len h, hm, hp]; rfl) (fun cdv A outer s H vs Q E hr ⟨p, vs', F0, ds, R, e, ht, hpn, pt, hs, h, ⟨m, hm, m0, m1, mr⟩, q⟩ => ?_)
  subst e
  subst hm
  cases h with
  | cons d1 d2 =>
    cases d2
    cases d1
    refine ⟨_, hb cdv A outer s H E hr, draw_mathW hN pt m0 m1 fun r H' r0 r1 hh hpt => ?_⟩
    refine q (.int r) (.int r) F0 H' (mr r r0 r1) ⟨fun a o n e => .inl (hh a o n e), hpt, Same.refl _, fun a o e => hh a o (fun z => ?_) (hs a o e), fun a o e => .inl ⟨o, e⟩, fun t => ⟨t.t.potw pt hh, t.z, fun y => (t.m y).imp fun o' e1 => hh _ _ (fun x => by
      obtain ⟨a, b, e2, _⟩ := pt
      rw [x, e2] at e1
      cases e1) e1⟩⟩ (.int r)
    rw [z, hpn] at e
    cases e
end
end DL

/-! .. is None, as a value -/
namespace DL
open PySem PySem.Spec PyProof.Rows L2
variable [Tbs] [Bse] {X : Cx}
def isNonD : D → Bool
  | .none => true
  | _ => false
def rNonD (neg : Bool) : D → D → (D → Prop) → Prop := fun d e R => e = .none ∧ R (.bool (if neg then !isNonD d else isNonD d))
theorem Bo.nonv {K : PySem.W.Frag} {f : Fz} {H : Hp} {v : V} (h : Bo K f H v .none) : v = .non := by
  rcases h with h | ⟨p, u, c, rfl, e, _⟩
  · cases h; rfl
  · cases c <;> cases e
theorem Bo.nonb {K : PySem.W.Frag} {f : Fz} {H : Hp} {v : V} {d : D} (h : Bo K f H v d) : decide (v = .non) = isNonD d := by
  rcases h with h | ⟨p, u, c, rfl, rfl, _⟩
  · cases h <;> first | rfl | (exact decide_eq_false (fun z => by cases z))
  · cases c <;> exact decide_eq_false (fun z => by cases z)
theorem od_isN : OpR X (compareOp .Is) (liftO X.K (rNonD false)) := OpR.weak op_isN fun x y H Q q => by
  obtain ⟨f, d, e, R, fs, bx, bY, ⟨rfl, r⟩, q⟩ := q
  refine ⟨bY.nonv, ?_⟩
  rw [bx.nonb]
  exact flatQ fs q r (.bl _)
theorem od_notN : OpR X (compareOp .IsNot) (liftO X.K (rNonD true)) := OpR.weak op_notN fun x y H Q q => by
  obtain ⟨f, d, e, R, fs, bx, bY, ⟨rfl, r⟩, q⟩ := q
  refine ⟨bY.nonv, ?_⟩
  rw [bx.nonb]
  exact flatQ fs q r (.bl _)
end DL

/-! names, counts, lines as data; what the program's small defs say of them -/
namespace NL
open PySem PySem.Spec PyProof.Rows L2 DL FT
abbrev resBL : List Str := [("call" : Str), "do", "either", "else", "end", "endless", "form", "frame", "function", "handler", "house", "kind", "limit", "loop", "most", "now", "or", "returns", "room", "shut", "size", "stop", "take", "task", "times"]
def resB (x : Str) : Bool := resBL.contains x
def nameB (x : Str) : Bool := decide (x.length ≤ 8) && (!resB x && (Txt.isalpha x && (Txt.islower x && Txt.isascii x)))
/-- a short text of ASCII -/
def AsT (x : Str) : Prop := x.length ≤ 100 ∧ ∀ c ∈ x.cps.toList, c < 128
def asB (x : Str) : Bool := decide (x.length ≤ 100) && x.cps.toList.all fun c => decide (c < 128)
theorem as_of {x : Str} (h : asB x = true) : AsT x := by
  unfold asB at h
  rw [Bool.and_eq_true] at h
  exact ⟨of_decide_eq_true h.1, fun c hc => of_decide_eq_true (List.all_eq_true.mp h.2 c hc)⟩
def isNm : D → Bool
  | .str x => nameB x
  | _ => false
def cnt (m : Int) : D → Bool
  | .int n => decide (m ≤ n)
  | _ => false
def pairB : D → Bool
  | .tuple l => decide (l.length = 2)
  | _ => false
def tupN (n : Nat) : D → Bool
  | .tuple l => decide (l.length = n)
  | _ => false
def seqB : D → Bool
  | .tuple _ => true
  | .list _ => true
  | _ => false
def dctB : D → Bool
  | .dict _ => true
  | _ => false
def atD (i : Nat) : D → D
  | .tuple l => l.getD i .none
  | _ => .none
def txt : D → Str
  | .str x => x
  | _ => Str.empty
def countB (d : D) : Bool := pairB d && (isNm (atD 0 d) && cnt 1 (atD 1 d))
def nmS (d : D) : Str := txt (atD 0 d)
def ltT (x y : Str) : Prop := x.cps.toList < y.cps.toList
instance (x y : Str) : Decidable (ltT x y) := inferInstanceAs (Decidable (x.cps.toList < y.cps.toList))
def adjB (xs : List Str) : Bool := (List.range (xs.length - 1)).all fun i => decide (ltT (xs.getD i Str.empty) (xs.getD (i + 1) Str.empty))
def lineB : D → Bool
  | .tuple l => l.all countB && adjB (l.map nmS)
  | _ => false
/-- data by levels: atoms, and lists and tuples of at most n of the level below -/
def Atom (d : D) : Prop := d = .none ∨ (∃ b, d = .bool b) ∨ (∃ i : Int, d = .int i ∧ i.natAbs < 10 ^ 60) ∨ (∃ x, d = .str x ∧ AsT x) ∨ d = .dict [] ∨ d = .list [] ∨ d = .tuple []
def Lv (n : Nat) : Nat → D → Prop
  | 0, d => Atom d
  | k + 1, d => Lv n k d ∨ ∃ l : List D, (d = .list l ∨ d = .tuple l) ∧ l.length ≤ n ∧ ∀ x ∈ l, Lv n k x
/-- a text that stands in a datum is short -/
def Txt1 (d : D) : Prop := ∀ x, d = .str x → AsT x
def cCount : Con := fun ds R => ∃ (d : D) (m : Int), ds = [d, .int m] ∧ R (.bool (cnt m d))
def cIsList : Con := fun ds R => ∃ d : D, ds = [d] ∧ R (.bool (seqB d))
def cTupOf : Con := fun ds R => ∃ (d : D) (n : Nat), ds = [d, .int n] ∧ R (.bool (tupN n d))
def cName : Con := fun ds R => ∃ d, ds = [d] ∧ Txt1 d ∧ R (.bool (isNm d))
def cPart : Con := fun ds R => ∃ d, ds = [d] ∧ Txt1 (atD 0 d) ∧ R (.bool (countB d))
def cLine : Con := fun ds R => ∃ d, ds = [d] ∧ Lv 100 2 d ∧ R (.bool (lineB d))
def cPick : Con := fun ds R => ∃ (d : D) (l : List D), ds = [d] ∧ seqD d = some l ∧ 0 < l.length ∧ l.length ≤ 1000 ∧ ∀ z ∈ l, R z
def cWords : Con := fun ds R => ds = [] ∧ R (.list (resBL.map .str))
def cLaw : Con := fun ds R => ∃ ns : List Int, ds = [.list (ns.map .int)] ∧ ns.length ≤ 63 ∧ R (.bool true)
theorem de_negc {X : Cx} [Tbs] [Bse] {i : Int} {j : Tok} {p pos : Pos} : DE X (.UnaryOp .USub (.Constant (.int i) j p) pos) (dC (.int (-i))) := de_c (v := .int (-i)) (PE.weak (pe_un un_neg pe_int) fun σ H Q q => ⟨i, rfl, q⟩) fun _ => .int _
/-! ### lines -/
abbrev Ln := List (Str × Int)
def prD2 (p : Str × Int) : D := .tuple [.str p.1, .int p.2]
def lnD (l : Ln) : D := .tuple (l.map prD2)
def keyM (p : Str × Int) : L2.Key × D := (.inr p.1, .int p.2)
def tabD (t : Ln) : D := .dict (kvD (t.map keyM))
def getT (t : Ln) (x : Str) : Int := ((t.find? fun p => decide (p.1 = x)).map (·.2)).getD 0
def szL (t l : Ln) : Int := (l.map fun p => p.2 * getT t p.1).sum
/-- a good line -/
structure GL (l : Ln) : Prop where
  len : l.length ≤ 50
  nm : ∀ p ∈ l, nameB p.1 = true
  ct : ∀ p ∈ l, 1 ≤ p.2 ∧ p.2 < 10 ^ 40
  pw : (l.map (·.1)).Pairwise ltT
/-- a good table -/
structure GT (t : Ln) : Prop where
  len : t.length ≤ 50
  nm : ∀ p ∈ t, AsT p.1
  vl : ∀ p ∈ t, 0 ≤ p.2 ∧ p.2 < 10 ^ 40
  nd : (t.map (·.1)).Nodup
/-! ### raising -/
/-- where the program's exception classes stand -/
class ExA where
  InvalidLine : Addr
  InvalidSizes : Addr
  InvalidCount : Addr
  InvalidText : Addr
  NoneFits : Addr
  InputError : Addr
  StateError : Addr
def shortV : V → Prop := fun v => (∃ y : Str, v = .str y ∧ y.length ≤ 100) ∨ v = .non
def shortD : D → Prop := fun d => (∃ y : Str, d = .str y ∧ y.length ≤ 100) ∨ d = .none
theorem short_of {K : PySem.W.Frag} : ∀ F v d, DL.Dp K F v d → shortD d → shortV v := fun F v d h k => by
  rcases k with ⟨y, rfl, hy⟩ | rfl
  · cases h; exact .inl ⟨y, rfl, hy⟩
  · cases h; exact .inr rfl
section
variable [ExA]
def cChkLine : ConX := fun ds R S => ∃ d, ds = [d] ∧ Lv 100 2 d ∧ (lineB d = true → R .none) ∧ (lineB d = false → S (.ref ExA.InvalidLine) [("value", d)])
/-- the first thing of a list that is no line; the thing itself, where it is no list -/
def badOf (d : D) : Option D := match seqD d with
  | some ds => ds.find? fun x => !lineB x
  | none => some d
def cChkLines : ConX := fun ds R S => ∃ d, ds = [d] ∧ (∀ l, seqD d = some l → ∀ x ∈ l, Lv 100 2 x) ∧ (badOf d = none → R .none) ∧ ∀ b, badOf d = some b → S (.ref ExA.InvalidLine) [("value", b)]
/-- the first frame without a size -/
def szBad (fs : List Str) (m : KvD) : Option Str := fs.find? fun x => !cnt 1 ((getM m (.inr x)).getD .none)
def cChkSizes : ConX := fun ds R S => ∃ (fs : List Str) (d : D), ds = [.list (fs.map .str), d] ∧ (∀ x ∈ fs, x.length ≤ 100) ∧
  ((dctB d = false ∧ S (.ref ExA.InvalidSizes) [("name", .none)]) ∨ ∃ m, d = .dict (kvD m) ∧ (szBad fs m = none → R .none) ∧ ∀ x, szBad fs m = some x → S (.ref ExA.InvalidSizes) [("name", .str x)])
def cChkLimit : ConX := fun ds R S => ∃ d, ds = [d] ∧ (cnt 0 d = true → R .none) ∧ (cnt 0 d = false → S (.ref ExA.InvalidCount) [("value", d)])
end
def cSizeOf : Con := fun ds R => ∃ l t, ds = [lnD l, tabD t] ∧ l.length ≤ 100 ∧ GT t ∧ (∀ p ∈ l, p.1 ∈ t.map (·.1) ∧ 0 ≤ p.2 ∧ p.2 < 10 ^ 40) ∧ R (.int (szL t l))
def cFrames : Con := fun ds R => ∃ (d : D) (ls : List Ln), ds = [d] ∧ seqD d = some (ls.map lnD) ∧ ls.length ≤ 50 ∧ (∀ l ∈ ls, l.length ≤ 50 ∧ ∀ p ∈ l, AsT p.1) ∧
  ∀ fs : List Str, fs.Pairwise ltT → (∀ z, z ∈ fs ↔ ∃ l ∈ ls, z ∈ l.map (·.1)) → R (.list (fs.map .str))
end NL

/-! the small defs of the program, proved once: the readings as gen2 prints them -/
namespace NL
open PySem PySem.Spec PyProof.Rows L2 DL FT
abbrev resB2 := NL.resB
section
variable [Tbs] [Bse] [ExA]
abbrev Ris_count : TDS := (sCons (sRet (dAndV (dIsi "int" (bVar 0)) (dAndV (dNotV (dIsi "bool" (bVar 0))) (dBin (rCmpS (fun i j => decide (j ≤ i)) fun x y => !decide (x.cps.toList < y.cps.toList)) (bVar 0) (bVar 1))))) sNil)
abbrev Ris_list : TDS := (sCons (sRet (dIsi2 "list" "tuple" (bVar 0))) sNil)
abbrev Ris_tuple_of : TDS := (sCons (sRet (dAndV (dIsi "tuple" (bVar 0)) (dBin (rEqDD false) (dCall cLen (dCons (bVar 0) dNil)) (bVar 1)))) sNil)
abbrev Ris_name : TDS := (sCons (sIf (tOrD (tNotD (tVal (dIsi "str" (bVar 0)))) (tOrD (tVal (dBin (rCmpS (fun i j => decide (j < i)) fun x y => decide (y.cps.toList < x.cps.toList)) (dCall cLen (dCons (bVar 0) dNil)) (dC (.int 8)))) (tVal (dInK NL.resB (bVar 0))))) (sCons (sRet (dC (.bool false))) sNil) sNil) (sCons (sRet (dAndV (dM0 (mBool Txt.isalpha) (bVar 0)) (dAndV (dM0 (mBool Txt.islower) (bVar 0)) (dM0 (mBool Txt.isascii) (bVar 0))))) sNil))
abbrev R_is_part : TDS := (sCons (sRet (dAndV (dFn cTupOf (dCons (dVar 0) (dCons (dC (.int 2)) dNil))) (dAndV (dFn cName (dCons (dBin rIxD (bVar 0) (dC (.int 0))) dNil)) (dFn cCount (dCons (dBin rIxD (bVar 0) (dC (.int 1))) (dCons (dC (.int 1)) dNil)))))) sNil)
abbrev Ris_line : TDS := (sCons (sIf (tOrD (tNotD (tVal (dIsi "tuple" (bVar 0)))) (tNotD (tVal (dCall cAll (dCons (dOf (lLc [1] (iSeq (bVar 0)) (gNm 1) tYesD (dFn cPart (dCons (dVar 1) dNil)))) dNil))))) (sCons (sRet (dC (.bool false))) sNil) sNil) (sCons (sRet (dCall cAll (dCons (dOf (lLc [2] (iRg1 (dCons (dBin (rInts fun i j => .int (i - j)) (dCall cLen (dCons (bVar 0) dNil)) (dC (.int 1))) dNil)) (gNm 2) tYesD (dBin (rCmpS (fun i j => decide (i < j)) fun x y => decide (x.cps.toList < y.cps.toList)) (dBin rIxD (dBin rIxD (bVar 0) (bVar 2)) (dC (.int 0))) (dBin rIxD (dBin rIxD (bVar 0) (dBin rAddD (bVar 2) (dC (.int 1)))) (dC (.int 0)))))) dNil))) sNil))
abbrev Rsize_of : TDS := (sCons (sRet (dCall cSum (dCons (dOf (lLc [2, 3] (iSeq (bVar 0)) (gTp 2 (gsCons (gNm 2) (gsCons (gNm 3) gsNil))) tYesD (dBin (rIntsC CMulW fun i j => .int (i * j)) (bVar 3) (dGet (bVar 1) (bVar 2))))) dNil))) sNil)
abbrev R_law_pick : TDS := (sCons (sRet (dBin rIxD (bVar 1) (dFnP (pVar 0) cDrawW (dCons (dCall cLen (dCons (bVar 1) dNil)) dNil)))) sNil)
abbrev Rcheck_sizes (B : Bse) : TDS := (sCons (sIf (tNotD (tVal (dIsi "dict" (bVar 1)))) (sCons (sRaiseV shortD (.ref ExA.InvalidSizes) "name" (dC .none)) sNil) sNil) (sCons (sFor (iSeq (dVar 0)) (gNm 2) (sCons (sIf (tNotD (tVal (dFn cCount (dCons (dGet1 (bVar 1) (bVar 2)) (dCons (dC (.int 1)) dNil))))) (sCons (sRaiseV shortD (.ref ExA.InvalidSizes) "name" (dVar 2)) sNil) sNil) sNil)) sNil))
abbrev Rcheck_limit (B : Bse) : TDS := (sCons (sIf (tNotD (tVal (dFn cCount (dCons (dVar 0) (dCons (dC (.int 0)) dNil))))) (sCons (sRaiseV (fun _ => True) (.ref ExA.InvalidCount) "value" (dVar 0)) sNil) sNil) sNil)
abbrev Rcheck_line (B : Bse) : TDS := (sCons (sIf (tNotD (tVal (dFn cLine (dCons (dVar 0) dNil)))) (sCons (sRaiseV (fun _ => True) (.ref ExA.InvalidLine) "value" (dVar 0)) sNil) sNil) sNil)
abbrev Rcheck_lines (B : Bse) : TDS := (sCons (sIf (tNotD (tVal (dFn cIsList (dCons (dVar 0) dNil)))) (sCons (sRaiseV (fun _ => True) (.ref ExA.InvalidLine) "value" (dVar 0)) sNil) sNil) (sCons (sFor (iSeq (dVar 0)) (gNm 1) (sCons (sExpr (dFnX cChkLine (dCons (dVar 1) dNil))) sNil)) sNil))
end
section
variable [Tbs] [Bse] {ds : List D} {R : D → Prop}
theorem len_dec (a b : Nat) : decide ((a : Int) = (b : Int)) = decide (a = b) := decide_eq_decide.mpr Int.ofNat_inj
theorem q_is_count (h : cCount ds R) : Ris_count (endsD R) (dstart ds 2) := by
  obtain ⟨d, m, rfl, r⟩ := h
  refine ⟨isIntD d, kit_int d, isIntD d, rfl, ?_⟩
  cases d with
  | int n => exact iteT ⟨false, kit_bool _, false, rfl, true, rfl, iteT r⟩
  | bool b => exact iteT ⟨true, kit_bool _, true, rfl, false, rfl, iteF r⟩
  | _ => exact iteF r
theorem q_is_list (h : cIsList ds R) : Ris_list (endsD R) (dstart ds 1) := by
  obtain ⟨d, rfl, r⟩ := h
  refine ⟨isLstD d, isTupD d, kit_list d, kit_tuple d, ?_⟩
  cases d <;> exact r
theorem q_is_tuple_of (h : cTupOf ds R) : Ris_tuple_of (endsD R) (dstart ds 2) := by
  obtain ⟨d, n, rfl, r⟩ := h
  refine ⟨isTupD d, kit_tuple d, isTupD d, rfl, ?_⟩
  cases d with
  | tuple l =>
    refine iteT ⟨_, rfl, .inl ⟨l, rfl, shp_int _, shp_int _, ?_⟩⟩
    show R (.bool (PyData.eqv (.int l.length) (.int n)))
    rw [eqv_int, len_dec]
    exact r
  | _ => exact iteF r
theorem pair_cases {d : D} (h : pairB d = true) : ∃ a b, d = .tuple [a, b] := by
  cases d with
  | tuple l =>
    have e : l.length = 2 := of_decide_eq_true h
    match l, e with
    | [a, b], _ => exact ⟨a, b, rfl⟩
  | _ => cases h
theorem q_is_name (h : cName ds R) : Ris_name (endsD R) (dstart ds 1) := by
  obtain ⟨d, rfl, ht, r⟩ := h
  cases d with
  | str x =>
    have hl := (ht x rfl).1
    have r : R (.bool (nameB x)) := r
    refine ⟨true, kit_str _, true, rfl, iteF ⟨_, rfl, .inr ⟨x, rfl, by rw [sizeLine_eq]; omega, _, rfl, ite2 (fun h8 => ?_) (fun h8 => ?_)⟩⟩⟩
    · have h8' : (8 : Int) < x.length := of_decide_eq_true h8
      have e : nameB x = false := by
        unfold nameB
        rw [decide_eq_false (by omega)]
        rfl
      rw [e] at r
      exact r
    · have h8' : ¬ (8 : Int) < x.length := fun z => h8 (decide_eq_true z)
      have e8 : decide (x.length ≤ 8) = true := decide_eq_true (by omega)
      unfold nameB at r
      rw [e8, Bool.true_and] at r
      refine ⟨x, rfl, _, rfl, ite2 (fun hr => ?_) (fun hr => ?_)⟩
      · rw [hr] at r
        exact r
      · have hr' : NL.resB x = false := Bool.eq_false_iff.mpr hr
        rw [hr'] at r
        refine ⟨x, rfl, _, rfl, ite2 (fun h1 => ⟨x, rfl, _, rfl, ite2 (fun h2 => ⟨x, rfl, ?_⟩) (fun h2 => ?_)⟩) (fun h1 => ?_)⟩
        · rw [h1, h2] at r; exact r
        · have h2' : Txt.islower x = false := Bool.eq_false_iff.mpr h2
          rw [h1, h2'] at r
          exact r
        · have h1' : Txt.isalpha x = false := Bool.eq_false_iff.mpr h1
          rw [h1'] at r
          exact r
  | _ => exact ⟨false, kit_str _, false, rfl, iteT (iteT r)⟩
/-! ### levels -/
theorem atom_tup {l : List D} (h : Atom (.tuple l)) : l = [] := by
  rcases h with h | ⟨_, h⟩ | ⟨_, h, _⟩ | ⟨_, h, _⟩ | h | h | h <;> cases h
  rfl
theorem Lv.tup {n : Nat} : ∀ {k : Nat} {l : List D}, Lv n (k + 1) (.tuple l) → l.length ≤ n ∧ ∀ x ∈ l, Lv n k x
  | 0, l, h => by
    rcases h with h | ⟨l', h | h, hl, hx⟩
    · rw [atom_tup h]
      exact ⟨Nat.zero_le _, fun x hx => nomatch hx⟩
    · cases h
    · cases h
      exact ⟨hl, hx⟩
  | k + 1, l, h => by
    rcases h with h | ⟨l', h | h, hl, hx⟩
    · obtain ⟨a, b⟩ := Lv.tup h
      exact ⟨a, fun x hx => .inl (b x hx)⟩
    · cases h
    · cases h
      exact ⟨hl, hx⟩
theorem Lv.txt {n : Nat} : ∀ {k : Nat} {d : D}, Lv n k d → Txt1 d
  | 0, d, h => fun x e => by
    subst e
    rcases h with h | ⟨_, h⟩ | ⟨_, h, _⟩ | ⟨y, h, hy⟩ | h | h | h
    · cases h
    · cases h
    · cases h
    · cases h
      exact hy
    · cases h
    · cases h
    · cases h
  | k + 1, d, h => fun x e => by
    subst e
    rcases h with h | ⟨l', h | h, _⟩
    · exact Lv.txt h x rfl
    · cases h
    · cases h
theorem Lv.mono {n m : Nat} (hn : n ≤ m) : ∀ {k : Nat} {d : D}, Lv n k d → Lv m k d
  | 0, _, h => h
  | k + 1, _, h => by
    rcases h with h | ⟨l, h, hl, hx⟩
    · exact .inl (h.mono hn)
    · exact .inr ⟨l, h, Nat.le_trans hl hn, fun x q => (hx x q).mono hn⟩
theorem Lv.ofTup {n k : Nat} {l : List D} (hl : l.length ≤ n) (h : ∀ x ∈ l, Lv n k x) : Lv n (k + 1) (.tuple l) := .inr ⟨l, .inr rfl, hl, h⟩
theorem Lv.ofLst {n k : Nat} {l : List D} (hl : l.length ≤ n) (h : ∀ x ∈ l, Lv n k x) : Lv n (k + 1) (.list l) := .inr ⟨l, .inl rfl, hl, h⟩
/-! ### texts in order -/
theorem getD_map {f : D → Str} (l : List D) (i : Nat) (hi : i < l.length) : (l.map f).getD i Str.empty = f (l.getD i .none) := by
  rw [List.getD_eq_getElem?_getD, List.getD_eq_getElem?_getD, List.getElem?_map, List.getElem?_eq_getElem hi]
  rfl
theorem adj_iff (xs : List Str) : adjB xs = true ↔ xs.Pairwise ltT := by
  have tr : ∀ {a b c : Str}, ltT a b → ltT b c → ltT a c := fun h g => List.lt_trans h g
  unfold adjB
  rw [List.all_eq_true]
  induction xs with
  | nil => exact ⟨fun _ => .nil, fun _ i hi => absurd (List.mem_range.mp hi) (by simp)⟩
  | cons x xs ih =>
    cases xs with
    | nil => exact ⟨fun _ => .cons (fun _ z => nomatch z) .nil, fun _ i hi => absurd (List.mem_range.mp hi) (by simp)⟩
    | cons y ys =>
      constructor
      · intro h
        have h1 : (y :: ys).Pairwise ltT := ih.mp fun i hi => by
          have := h (i + 1) (List.mem_range.mpr (by have := List.mem_range.mp hi; simp only [List.length_cons] at this ⊢; omega))
          exact this
        have h0 : ltT x y := of_decide_eq_true (h 0 (List.mem_range.mpr (by simp)))
        refine .cons (fun z hz => ?_) h1
        rcases List.mem_cons.mp hz with rfl | hz
        · exact h0
        · exact tr h0 ((List.pairwise_cons.mp h1).1 z hz)
      · intro h i hi
        obtain ⟨h0, h1⟩ := List.pairwise_cons.mp h
        cases i with
        | zero => exact decide_eq_true (h0 y List.mem_cons_self)
        | succ i => exact ih.mpr h1 i (List.mem_range.mpr (by have := List.mem_range.mp hi; simp only [List.length_cons] at this ⊢; omega))
/-! ### counts by names: the program -/
theorem q_is_part (h : cPart ds R) : R_is_part (endsD R) (dstart ds 1) := by
  obtain ⟨d, rfl, ht, w⟩ := h
  refine ⟨d, 2, rfl, pairB d, rfl, ?_⟩
  unfold countB at w
  by_cases q : pairB d = true
  · obtain ⟨a, b, rfl⟩ := pair_cases q
    have w1 : R (.bool (isNm a && cnt 1 b)) := w
    refine iteT ⟨0, rfl, .inl ⟨[a, b], a, rfl, rfl, a, rfl, ht, isNm a, rfl, ?_⟩⟩
    cases hb : isNm a with
    | true =>
      rw [hb] at w1
      exact iteT ⟨1, rfl, .inl ⟨[a, b], b, rfl, rfl, b, 1, rfl, w1⟩⟩
    | false =>
      rw [hb] at w1
      exact iteF w1
  · have q' : pairB d = false := Bool.eq_false_iff.mpr q
    rw [q'] at w
    show if pairB d = true then _ else _
    rw [q']
    exact iteF w
theorem all_id {α : Type} (l : List α) (f : α → Bool) : (l.map f).all id = l.all f := by
  rw [List.all_map]
  rfl
theorem count_cases {p : D} (h : countB p = true) : ∃ x n, p = .tuple [.str x, .int n] ∧ nameB x = true ∧ 1 ≤ n := by
  unfold countB at h
  rw [Bool.and_eq_true, Bool.and_eq_true] at h
  obtain ⟨h1, h2, h3⟩ := h
  obtain ⟨a, b, rfl⟩ := pair_cases h1
  have h2 : isNm a = true := h2
  have h3 : cnt 1 b = true := h3
  cases a with
  | str x =>
    cases b with
    | int n => exact ⟨x, n, rfl, h2, of_decide_eq_true h3⟩
    | _ => cases h3
  | _ => cases h2
theorem at0_txt {n k : Nat} {p : D} (h : Lv n (k + 1) p) : Txt1 (atD 0 p) := by
  cases p with
  | tuple l =>
    cases l with
    | nil => exact fun x e => by cases e
    | cons a r => exact (h.tup.2 a List.mem_cons_self).txt
  | _ => exact fun x e => by cases e
theorem q_is_line (h : cLine ds R) : Ris_line (endsD R) (dstart ds 3) := by
  obtain ⟨d, rfl, lv, r⟩ := h
  refine ⟨isTupD d, kit_tuple d, _, rfl, ?_⟩
  cases d with
  | tuple l =>
    obtain ⟨hlen, hit⟩ := lv.tup
    have r : R (.bool (l.all countB && adjB (l.map nmS))) := r
    refine iteF ⟨l, rfl, lc_map (by rw [sizeLine_eq]; omega) (noOwn_of rfl) (fun p => .bool (countB p)) (fun p hp W1 w => ?_) ?_⟩
    · exact ⟨p, rfl, at0_txt (hit p hp), rfl, w⟩
    · refine ⟨l.map countB, by rw [List.map_map]; rfl, _, rfl, ?_⟩
      rw [all_id]
      by_cases q : l.all countB = true
      · rw [q] at r ⊢
        rw [Bool.true_and] at r
        refine iteF ⟨_, rfl, .inl ⟨l, rfl, _, _, rfl, rfl, _, rfl, ?_, ?_, ?_⟩⟩
        · omega
        · omega
        · have en : ((l.length : Int) - 1).toNat = l.length - 1 := by omega
          rw [en]
          refine lc_mapOf (List.range (l.length - 1)) (fun i => PyData.int (0 + (i : Int))) (fun i => .bool (decide (ltT ((l.map nmS).getD i Str.empty) ((l.map nmS).getD (i + 1) Str.empty)))) (by rw [List.length_range, sizeLine_eq]; omega) (noOwn_of rfl) (fun i hi W1 w => ?_) ?_
          · have hi' := List.mem_range.mp hi
            rw [getD_map l i (by omega), getD_map l (i + 1) (by omega)] at w
            have g1 : l[i]? = some (l.getD i .none) := by rw [List.getD_eq_getElem?_getD, List.getElem?_eq_getElem (by omega)]; rfl
            have g2 : l[i + 1]? = some (l.getD (i + 1) .none) := by rw [List.getD_eq_getElem?_getD, List.getElem?_eq_getElem (by omega)]; rfl
            obtain ⟨x, n, e1, _⟩ := count_cases (List.all_eq_true.mp q _ (List.mem_of_getElem? g1))
            obtain ⟨y, m, e2, _⟩ := count_cases (List.all_eq_true.mp q _ (List.mem_of_getElem? g2))
            rw [e1] at g1 w
            rw [e2] at g2 w
            refine ⟨0 + (i : Int), rfl, .inl ⟨l, _, rfl, by rw [Int.zero_add]; exact atI_nat g1, 0, rfl, .inl ⟨_, .str x, rfl, atI_nat (j := 0) rfl, ?_⟩⟩⟩
            refine ⟨0 + (i : Int) + 1, rfl, .inl ⟨l, _, rfl, by rw [Int.zero_add]; exact atI_nat (j := i + 1) g2, 0, rfl, .inl ⟨_, .str y, rfl, atI_nat (j := 0) rfl, rfl, w⟩⟩⟩
          · refine ⟨(List.range (l.length - 1)).map fun i => decide (ltT ((l.map nmS).getD i Str.empty) ((l.map nmS).getD (i + 1) Str.empty)), by rw [List.map_map]; rfl, ?_⟩
            rw [all_id]
            have e : adjB (l.map nmS) = (List.range (l.length - 1)).all fun i => decide (ltT ((l.map nmS).getD i Str.empty) ((l.map nmS).getD (i + 1) Str.empty)) := by
              unfold adjB
              rw [List.length_map]
            rw [e] at r
            exact r
      · have q' : l.all countB = false := Bool.eq_false_iff.mpr q
        rw [q'] at r ⊢
        exact iteT r
  | _ => exact iteT r
end
end NL

namespace NL
open PySem PySem.Spec PyProof.Rows L2 DL FT
variable [Tbs] [Bse]
theorem small_lt {n : Nat} (h : n ≤ 4000) : n < sizeLine := by rw [sizeLine_eq]; omega
theorem small_sz {n : Nat} (h : n ≤ 4000) : n ≤ sizeLine := by rw [sizeLine_eq]; omega
/-! ### tables -/
theorem getM_map {t : Ln} {x : Str} : getM (t.map keyM) (.inr x) = (t.find? fun p => decide (p.1 = x)).map fun p => .int p.2 := by
  unfold getM
  induction t with
  | nil => rfl
  | cons p t ih =>
    rw [List.map_cons, List.find?_cons, List.find?_cons]
    have e : decide ((keyM p).1 = .inr x) = decide (p.1 = x) := by
      by_cases h : p.1 = x
      · rw [decide_eq_true h, decide_eq_true (by show (Sum.inr p.1 : L2.Key) = .inr x; rw [h])]
      · rw [decide_eq_false h, decide_eq_false fun z => h (by injection z)]
    rw [e]
    by_cases h : p.1 = x
    · rw [decide_eq_true h]; rfl
    · rw [decide_eq_false h]; exact ih
theorem find_some {t : Ln} {x : Str} (h : x ∈ t.map (·.1)) : ∃ p, (t.find? fun p => decide (p.1 = x)) = some p ∧ p ∈ t ∧ p.1 = x := by
  obtain ⟨p, hp, e⟩ := List.mem_map.mp h
  cases q : t.find? fun p => decide (p.1 = x) with
  | none => exact absurd (decide_eq_true e) (List.find?_eq_none.mp q p hp)
  | some p' => exact ⟨p', rfl, List.mem_of_find?_eq_some q, of_decide_eq_true (List.find?_some (p := fun p : Str × Int => decide (p.1 = x)) q)⟩
theorem getT_in {t : Ln} {x : Str} (h : x ∈ t.map (·.1)) : getM (t.map keyM) (.inr x) = some (.int (getT t x)) ∧ ∃ p ∈ t, p.1 = x ∧ p.2 = getT t x := by
  obtain ⟨p, e, hp, hx⟩ := find_some h
  refine ⟨by rw [getM_map, e]; unfold getT; rw [e]; rfl, p, hp, hx, ?_⟩
  unfold getT
  rw [e]
  rfl
theorem getT_bd {t : Ln} {x : Str} (g : GT t) (h : x ∈ t.map (·.1)) : 0 ≤ getT t x ∧ getT t x < 10 ^ 40 := by
  obtain ⟨p, hp, _, e⟩ := (getT_in h).2
  rw [← e]
  exact g.vl p hp
theorem mul40 {i j : Int} (h1 : 0 ≤ i) (h2 : i < 10 ^ 40) (h3 : 0 ≤ j) (h4 : j < 10 ^ 40) : CMulW i j := mul_ok h1 (Int.lt_trans h2 (by decide)) h3 (Int.lt_trans h4 (by decide))
section
variable {ds : List D} {R : D → Prop}
theorem q_size_of (h : cSizeOf ds R) : Rsize_of (endsD R) (dstart ds 4) := by
  obtain ⟨l, t, rfl, hl, gt, hp, r⟩ := h
  refine ⟨l.map prD2, rfl, lc_mapOf l prD2 (fun p => .int (p.2 * getT t p.1)) (small_lt (by omega)) (noOwn_of rfl) (fun p hm W1 w => ?_) ?_⟩
  · obtain ⟨h1, h2, h3⟩ := hp p hm
    have b := getT_bd gt h1
    exact ⟨_, rfl, rfl, _, _, rfl, _, _, rfl, rfl, t.map keyM, .inr p.1, _, rfl, rfl, (getT_in h1).1, _, _, rfl, rfl, mul40 h2 h3 b.1 b.2, rfl, w⟩
  · exact ⟨l.map fun (p : Str × Int) => p.2 * getT t p.1, by rw [List.map_map]; rfl, r⟩
theorem q_law_pick (h : cPick ds R) : R_law_pick (endsP R) (pstart ds 2) := by
  obtain ⟨d, l, rfl, hs, h0, h1, r⟩ := h
  refine ⟨rfl, _, rfl, .inl ⟨l, hs, l.length, rfl, by omega, Int.lt_trans (by omega : (l.length : Int) < 1001) (by decide), fun i i0 i1 => ?_⟩⟩
  obtain ⟨j, rfl⟩ : ∃ j : Nat, i = j := ⟨i.toNat, by omega⟩
  have hj : j < l.length := by omega
  exact ⟨j, rfl, .inl ⟨l, l[j], hs, atI_nat (List.getElem?_eq_getElem hj), r _ (List.getElem_mem hj)⟩⟩
end
section
variable [ExA] {ds : List D} {R : D → Prop} {S : Value → List (Str × D) → Prop} {W : L2.WX}
theorem q_check_limit (h : cChkLimit ds R S) : Rcheck_limit ⟨W, fun cls kvs _ => S cls kvs⟩ (endsD R) (dstart ds 1) := by
  obtain ⟨d, rfl, h1, h2⟩ := h
  refine ⟨d, 0, rfl, cnt 0 d, rfl, ?_⟩
  cases q : cnt 0 d with
  | true => exact iteF (h1 q)
  | false => exact iteT ⟨True.intro, h2 q⟩
theorem q_check_line (h : cChkLine ds R S) : Rcheck_line ⟨W, fun cls kvs _ => S cls kvs⟩ (endsD R) (dstart ds 1) := by
  obtain ⟨d, rfl, lv, h1, h2⟩ := h
  refine ⟨d, rfl, lv, lineB d, rfl, ?_⟩
  cases q : lineB d with
  | true => exact iteF (h1 q)
  | false => exact iteT ⟨True.intro, h2 q⟩
theorem q_check_lines (h : cChkLines ds R S) : Rcheck_lines ⟨W, fun cls kvs _ => S cls kvs⟩ (endsD R) (dstart ds 2) := by
  obtain ⟨d, rfl, lv, h1, h2⟩ := h
  refine ⟨d, rfl, seqB d, rfl, ?_⟩
  cases hs : seqD d with
  | none =>
    have e : seqB d = false := by cases d <;> first | rfl | cases hs
    rw [e]
    refine iteT ⟨True.intro, h2 d ?_⟩
    unfold badOf
    rw [hs]
  | some l =>
    have e : seqB d = true := by cases d <;> first | rfl | cases hs
    have eb : badOf d = l.find? fun x => !lineB x := by
      unfold badOf
      rw [hs]
    rw [e]
    refine iteF ⟨l, seq_iter hs, fun i ρ => (∃ s, ρ = [.fz d, s]) ∧ ∀ x ∈ l.take i, lineB x = true, ⟨⟨_, rfl⟩, fun x hx => nomatch hx⟩, fun i x ρ hi w => ?_, fun ρ w => ?_⟩
    · obtain ⟨⟨s, rfl⟩, w⟩ := w
      refine ⟨x, rfl, lv l hs x (List.mem_of_getElem? hi), fun hb => ⟨⟨_, rfl⟩, fun y hy => ?_⟩, fun hb => h2 x ?_⟩
      · rw [FT.take_snoc hi] at hy
        rcases List.mem_append.mp hy with hy | hy
        · exact w y hy
        · rw [List.mem_singleton.mp hy]; exact hb
      · rw [eb]
        refine List.find?_eq_some_iff_append.mpr ⟨by rw [hb]; rfl, l.take i, l.drop (i + 1), ?_, fun y hy => by rw [w y hy]; rfl⟩
        rw [← List.singleton_append, ← List.append_assoc, ← FT.take_snoc hi, List.take_append_drop]
    · obtain ⟨_, w⟩ := w
      rw [List.take_length] at w
      refine h1 ?_
      rw [eb]
      exact List.find?_eq_none.mpr fun x hx => by rw [w x hx]; exact Bool.false_ne_true
theorem q_check_sizes (h : cChkSizes ds R S) : Rcheck_sizes ⟨W, fun cls kvs _ => S cls kvs⟩ (endsD R) (dstart ds 3) := by
  obtain ⟨fs, d, rfl, hl, h⟩ := h
  refine ⟨isDicD d, kit_dict d, isDicD d, rfl, ?_⟩
  rcases h with ⟨hd, s⟩ | ⟨m, rfl, h1, h2⟩
  · have e : isDicD d = false := by cases d <;> first | rfl | cases hd
    rw [e]
    exact iteT ⟨.inr rfl, s⟩
  · refine iteF ⟨fs.map .str, rfl, fun i ρ => (∃ s, ρ = [.fz (.list (fs.map .str)), .fz (.dict (kvD m)), s]) ∧ ∀ x ∈ fs.take i, cnt 1 ((getM m (.inr x)).getD .none) = true, ⟨⟨_, rfl⟩, fun x hx => nomatch hx⟩, fun i z ρ hi w => ?_, fun ρ w => ?_⟩
    · obtain ⟨⟨s, rfl⟩, w⟩ := w
      obtain ⟨x, hx, rfl⟩ := map_at hi
      refine ⟨⟨m, rfl⟩, m, .inr x, rfl, rfl, _, 1, rfl, _, rfl, ?_⟩
      cases q : cnt 1 ((getM m (.inr x)).getD .none) with
      | true =>
        refine iteF ⟨⟨_, rfl⟩, fun y hy => ?_⟩
        rw [FT.take_snoc hx] at hy
        rcases List.mem_append.mp hy with hy | hy
        · exact w y hy
        · rw [List.mem_singleton.mp hy]; exact q
      | false =>
        refine iteT ⟨.inl ⟨x, rfl, hl x (List.mem_of_getElem? hx)⟩, h2 x ?_⟩
        refine List.find?_eq_some_iff_append.mpr ⟨by rw [q]; rfl, fs.take i, fs.drop (i + 1), ?_, fun y hy => by rw [w y hy]; rfl⟩
        rw [← List.singleton_append, ← List.append_assoc, ← FT.take_snoc hx, List.take_append_drop]
    · obtain ⟨_, w⟩ := w
      rw [List.length_map, List.take_length] at w
      exact h1 (List.find?_eq_none.mpr fun x hx => by rw [w x hx]; exact Bool.false_ne_true)
end
end NL

/-! sorted names; comprehensions of two clauses as functions -/
namespace NL
open PySem PySem.Spec PyProof.Rows L2 DL FT
variable [Tbs] [Bse]
def leS (x y : Str) : Bool := !decide (y.cps.toList < x.cps.toList)
theorem leS_iff {x y : Str} : leS x y = true ↔ ¬ ltT y x := by
  unfold leS ltT
  by_cases h : y.cps.toList < x.cps.toList
  · rw [decide_eq_true h]; exact ⟨fun z => absurd z (by decide), fun z => absurd h z⟩
  · rw [decide_eq_false h]; exact ⟨fun _ => h, fun _ => rfl⟩
theorem ltT_tri {x y : Str} (h1 : ¬ ltT x y) (h2 : ¬ ltT y x) : x = y := TX.cl_ext (List.le_antisymm (List.not_lt.mp h2) (List.not_lt.mp h1))
theorem leS_trans (a b c : Str) (h1 : leS a b = true) (h2 : leS b c = true) : leS a c = true := by
  rw [leS_iff] at *
  exact List.not_lt.mpr (List.le_trans (List.not_lt.mp h1) (List.not_lt.mp h2))
theorem leS_total (a b : Str) : (leS a b || leS b a) = true := by
  by_cases h : leS a b = true
  · rw [h]; rfl
  · have h' : ltT b a := Classical.not_not.mp fun z => h (leS_iff.mpr z)
    rw [leS_iff.mpr (fun z => List.lt_irrefl _ (List.lt_trans h' z) : ¬ ltT a b), Bool.or_true]
theorem lt_of {x y : Str} (h : leS x y = true) (n : x ≠ y) : ltT x y := Classical.not_not.mp fun z => n (ltT_tri z (leS_iff.mp h))
theorem sort_names {xs : List Str} (h : ∀ x ∈ xs, (PyData.str x).canLay0 = true) : (xs.map PyData.str).mergeSort (byRank (strRank (xs.map PyData.str))) = (xs.mergeSort leS).map PyData.str := by
  refine (List.map_mergeSort fun a ha b hb => ?_).symm
  have e : some (decide (b.cps.toList < a.cps.toList)) = some (decide (strRank (xs.map PyData.str) (.str b) < strRank (xs.map PyData.str) (.str a))) := (ranked_strs h (.str b) (List.mem_map.mpr ⟨b, hb, rfl⟩)).2 (.str a) (List.mem_map.mpr ⟨a, ha, rfl⟩)
  have e := Option.some.inj e
  show (!decide (b.cps.toList < a.cps.toList)) = decide (strRank (xs.map PyData.str) (.str a) ≤ strRank (xs.map PyData.str) (.str b))
  rw [e]
  by_cases q : strRank (xs.map PyData.str) (.str b) < strRank (xs.map PyData.str) (.str a)
  · rw [decide_eq_true q, decide_eq_false (by omega)]; rfl
  · rw [decide_eq_false q, decide_eq_true (by omega)]; rfl
theorem eqv_strs : ∀ xs ys : List Str, PyData.eqv (.list (xs.map .str)) (.list (ys.map .str)) = decide (xs = ys) := fun xs ys => by
  show PyData.eqvAll (xs.map .str) (ys.map .str) = decide (xs = ys)
  induction xs generalizing ys with
  | nil =>
    cases ys with
    | nil => rfl
    | cons y ys => rfl
  | cons x xs ih =>
    cases ys with
    | nil => rfl
    | cons y ys =>
      show (decide (x = y) && PyData.eqvAll (xs.map .str) (ys.map .str)) = _
      rw [ih, ← Bool.decide_and]
      exact decide_eq_decide.mpr ⟨fun ⟨a, b⟩ => by rw [a, b], fun z => by cases z; exact ⟨rfl, rfl⟩⟩
theorem sort_strict {zs : List Str} (nd : zs.Nodup) : (zs.mergeSort leS).Pairwise ltT := by
  have pw := List.pairwise_mergeSort leS_trans leS_total zs
  have nd2 : (zs.mergeSort leS).Nodup := (List.mergeSort_perm zs leS).nodup_iff.mpr nd
  exact (pw.and nd2).imp fun {a b} q => lt_of q.1 q.2
theorem as_lay {x : Str} (h : AsT x) : (PyData.str x).canLay0 = true := by
  simp only [PyData.canLay0]
  exact ok_ascii h.2
/-- what sorted(set(xs)) gives -/
theorem sort_set {xs : List Str} {R : List D → Prop} (hx : ∀ x ∈ xs, AsT x) (r : ∀ fs : List Str, fs.Pairwise ltT → (∀ z, z ∈ fs ↔ z ∈ xs) → R (fs.map PyData.str)) :
    ∀ zs : List Str, zs.Nodup → (∀ z, z ∈ zs ↔ z ∈ xs) → R ((zs.map PyData.str).mergeSort (byRank (strRank (zs.map PyData.str)))) := fun zs nd hm => by
  rw [sort_names fun x hxx => as_lay (hx x ((hm x).mp hxx))]
  exact r _ (sort_strict nd) fun z => (List.mergeSort_perm zs leS).mem_iff.trans (hm z)
theorem strict_uniq {xs ys : List Str} (hx : xs.Pairwise ltT) (hy : ys.Pairwise ltT) (h : ∀ z, z ∈ xs ↔ z ∈ ys) : xs = ys := by
  have nd : ∀ {l : List Str}, l.Pairwise ltT → l.Nodup := fun h => h.imp fun {a b} (q : ltT a b) (z : a = b) => by
    subst z
    exact List.lt_irrefl _ q
  refine List.Perm.eq_of_pairwise (le := ltT) (fun a b _ _ h1 h2 => absurd (List.lt_trans h1 h2) (List.lt_irrefl _)) hx hy ((List.perm_ext_iff_of_nodup (nd hx) (nd hy)).mpr h)
/-! ### comprehensions of two clauses -/
def Inner {β : Type} (vs1 : List Nat) (G1 : TDG) (Te : TD) (l : List β) (g f : β → D) (ρ2 : DS) : Prop := noOwn ρ2 vs1 ∧ ∀ b ∈ l, ∀ W1 : D → Prop, W1 (f b) → G1 (g b) (wipeD ρ2 vs1) fun ρ5 => Te ρ5 fun y ρ7 => ρ7 = ρ5 ∧ W1 y
theorem lc2_mapOf {α β : Type} {vs vs1 : List Nat} {G G1 : TDG} {T1 : TDA} {Te : TD} {ρ : DS} {R : List D → DS → Prop} (ls : List α) (e : α → D) (sub : α → List β) (g f : β → D) (hz : (ls.flatMap sub).length < sizeLine) (hno : noOwn ρ vs)
    (step : ∀ a ∈ ls, ∀ (K : List D → DS → Prop), (∀ ρ2, Inner vs1 G1 Te (sub a) g f ρ2 → K ((sub a).map g) ρ2) → G (e a) (wipeD ρ vs) fun ρ2 => T1 ρ2 fun es ρ4 => ρ4 = ρ2 ∧ K es ρ2) (fin : R ((ls.flatMap sub).map f) ρ) :
    noOwn ρ vs ∧ ∃ W : Nat → List D → Prop, W 0 [] ∧
      (∀ i d acc, (ls.map e)[i]? = some d → W i acc → G d (wipeD ρ vs) fun ρ2 => tYesD ρ2 fun c ρ3 => ρ3 = ρ2 ∧ if c = true then
        T1 ρ3 (fun es ρ4 => ρ4 = ρ3 ∧ noOwn ρ3 vs1 ∧ ∃ W1 : Nat → List D → Prop, W1 0 acc ∧
          (∀ j d1 acc1, es[j]? = some d1 → W1 j acc1 → G1 d1 (wipeD ρ3 vs1) fun ρ5 => tYesD ρ5 fun c1 ρ6 => ρ6 = ρ5 ∧ if c1 = true then Te ρ6 (fun y ρ7 => ρ7 = ρ6 ∧ acc1.length < sizeLine ∧ W1 (j + 1) (acc1 ++ [y])) else W1 (j + 1) acc1) ∧
          ∀ acc1, W1 es.length acc1 → W (i + 1) acc1) else W (i + 1) acc) ∧
      ∀ acc, W (ls.map e).length acc → R acc ρ := by
  refine ⟨hno, fun i acc => acc = ((ls.take i).flatMap sub).map f, rfl, fun i d acc hi ea => ?_, fun acc ea => ?_⟩
  · obtain ⟨a, ha, rfl⟩ := map_at hi
    have lenb : ∀ j, ((ls.take i).flatMap sub ++ (sub a).take j).length ≤ (ls.flatMap sub).length := fun j => by
      have e1 : ls = ls.take i ++ [a] ++ ls.drop (i + 1) := by
        rw [← FT.take_snoc ha, List.take_append_drop]
      have e2 : (ls.flatMap sub).length = ((ls.take i).flatMap sub).length + (sub a).length + ((ls.drop (i + 1)).flatMap sub).length := by
        conv => lhs; rw [e1]
        rw [List.flatMap_append, List.flatMap_append, List.length_append, List.length_append, List.flatMap_singleton]
      rw [List.length_append, List.length_take, e2]
      have := Nat.min_le_right j (sub a).length
      omega
    have h := step a (List.mem_of_getElem? ha) (fun es ρ3 => noOwn ρ3 vs1 ∧ ∃ W1 : Nat → List D → Prop, W1 0 acc ∧
          (∀ j d1 acc1, es[j]? = some d1 → W1 j acc1 → G1 d1 (wipeD ρ3 vs1) fun ρ5 => tYesD ρ5 fun c1 ρ6 => ρ6 = ρ5 ∧ if c1 = true then Te ρ6 (fun y ρ7 => ρ7 = ρ6 ∧ acc1.length < sizeLine ∧ W1 (j + 1) (acc1 ++ [y])) else W1 (j + 1) acc1) ∧
          ∀ acc1, W1 es.length acc1 → acc1 = ((ls.take (i + 1)).flatMap sub).map f) fun ρ2 ⟨hn, hin⟩ => ?_
    · unfold tYesD
      simp only [if_true, true_and]
      unfold tYesD at h
      simp only [if_true, true_and] at h
      exact h
    · refine ⟨hn, fun j acc1 => acc1 = ((ls.take i).flatMap sub ++ (sub a).take j).map f, by
        show acc = ((ls.take i).flatMap sub ++ (sub a).take 0).map f
        rw [ea, List.take_zero, List.append_nil], fun j d1 acc1 hj e1 => ?_, fun acc1 e1 => ?_⟩
      · obtain ⟨b, hb, rfl⟩ := map_at hj
        have k := hin b (List.mem_of_getElem? hb) (fun y => acc1.length < sizeLine ∧ acc1 ++ [y] = ((ls.take i).flatMap sub ++ (sub a).take (j + 1)).map f) ⟨by
          rw [e1, List.length_map]
          exact Nat.lt_of_le_of_lt (lenb j) hz, by
          rw [e1, FT.take_snoc hb, ← List.append_assoc, List.map_append, List.map_append, List.map_append]
          rfl⟩
        unfold tYesD
        simp only [if_true, true_and]
        exact k
      · rw [List.length_map] at e1
        have e1 : acc1 = ((ls.take i).flatMap sub ++ (sub a).take (sub a).length).map f := e1
        rw [e1, List.take_length, FT.take_snoc ha, List.flatMap_append, List.flatMap_singleton]
  · rw [List.length_map] at ea
    have ea : acc = ((ls.take ls.length).flatMap sub).map f := ea
    rw [ea, List.take_length]
    exact fin
end NL

/-! tables that grow; dict comprehensions as functions; sorted texts -/
namespace NL
open PySem PySem.Spec PyProof.Rows L2 DL FT
variable [Tbs] [Bse]
theorem risingS_pw : ∀ (r : List Str) (x : Str), risingS x r = true → (x :: r).Pairwise fun a b => ¬ ltT b a
  | [], x, _ => .cons (fun _ h => nomatch h) .nil
  | y :: r, x, h => by
    unfold risingS at h
    rw [Bool.and_eq_true] at h
    have h1 : ¬ ltT y x := by
      have z := h.1
      rw [ltCps_eq] at z
      intro q
      have q : y.cps.toList < x.cps.toList := q
      rw [decide_eq_true q] at z
      exact Bool.noConfusion z
    have ih := risingS_pw r y h.2
    refine .cons (fun z hz => ?_) ih
    rcases List.mem_cons.mp hz with rfl | hz
    · exact h1
    · exact List.not_lt.mpr (List.le_trans (List.not_lt.mp h1) (List.not_lt.mp ((List.pairwise_cons.mp ih).1 z hz)))
theorem sortedS_pw {ys : List Str} (h : sortedS ys = true) (nd : ys.Nodup) : ys.Pairwise ltT := by
  have p : ys.Pairwise fun a b => ¬ ltT b a := by
    cases ys with
    | nil => exact .nil
    | cons x r => exact risingS_pw r x h
  exact (p.and nd).imp fun {a b} q => Classical.not_not.mp fun z => q.2 (ltT_tri z q.1)
/-! ### a table gets a value -/
def lkT (t : Ln) (x : Str) : Option Int := (t.find? fun p => decide (p.1 = x)).map (·.2)
def putT (t : Ln) (x : Str) (v : Int) : Ln := if (t.any fun p => decide (p.1 = x)) = true then t.map (fun p => if p.1 = x then (p.1, v) else p) else t ++ [(x, v)]
theorem key_dec (p : Str × Int) (x : Str) : decide ((keyM p).1 = .inr x) = decide (p.1 = x) := by
  by_cases h : p.1 = x
  · rw [decide_eq_true h, decide_eq_true (by show (Sum.inr p.1 : L2.Key) = .inr x; rw [h])]
  · rw [decide_eq_false h, decide_eq_false fun z => h (by injection z)]
theorem getM_lk (t : Ln) (x : Str) : getM (t.map keyM) (.inr x) = (lkT t x).map PyData.int := by
  rw [getM_map]
  unfold lkT
  cases t.find? fun p => decide (p.1 = x) <;> rfl
theorem putM_put (t : Ln) (x : Str) (v : Int) : putM (t.map keyM) (.inr x) (.int v) = (putT t x v).map keyM := by
  unfold putM putT
  have e : ((t.map keyM).any fun p => decide (p.1 = .inr x)) = t.any fun p => decide (p.1 = x) := by
    rw [List.any_map]
    congr 1
    funext p
    exact key_dec p x
  rw [e]
  split
  · rw [List.map_map, List.map_map]
    refine List.map_congr_left fun p _ => ?_
    show (if (keyM p).1 = .inr x then ((keyM p).1, .int v) else keyM p) = keyM (if p.1 = x then (p.1, v) else p)
    by_cases h : p.1 = x
    · rw [if_pos h, if_pos (by show (Sum.inr p.1 : L2.Key) = .inr x; rw [h])]
      rfl
    · rw [if_neg h, if_neg fun z => h (by injection z)]
  · rw [List.map_append]
    rfl
theorem any_mem {t : Ln} {x : Str} : (t.any fun p => decide (p.1 = x)) = true ↔ x ∈ t.map (·.1) := by
  rw [List.any_eq_true, List.mem_map]
  exact ⟨fun ⟨p, h, e⟩ => ⟨p, h, of_decide_eq_true e⟩, fun ⟨p, h, e⟩ => ⟨p, h, decide_eq_true e⟩⟩
theorem putT_names (t : Ln) (x : Str) (v : Int) : (putT t x v).map (·.1) = if x ∈ t.map (·.1) then t.map (·.1) else t.map (·.1) ++ [x] := by
  unfold putT
  by_cases h : x ∈ t.map (·.1)
  · rw [if_pos h, if_pos (any_mem.mpr h), List.map_map]
    refine List.map_congr_left fun p _ => ?_
    show (if p.1 = x then (p.1, v) else p).1 = p.1
    split <;> rfl
  · rw [if_neg h, if_neg fun z => h (any_mem.mp z), List.map_append]
    rfl
theorem putT_nd {t : Ln} {x : Str} {v : Int} (h : (t.map (·.1)).Nodup) : ((putT t x v).map (·.1)).Nodup := by
  rw [putT_names]
  by_cases z : x ∈ t.map (·.1)
  · rw [if_pos z]; exact h
  · rw [if_neg z]
    exact List.nodup_append.mpr ⟨h, List.nodup_cons.mpr ⟨List.not_mem_nil, .nil⟩, fun a ha b hb e => z (by rw [List.mem_singleton.mp hb] at e; rw [← e]; exact ha)⟩
theorem putT_mem {t : Ln} {x : Str} {v : Int} {p : Str × Int} : p ∈ putT t x v ↔ p = (x, v) ∨ (p ∈ t ∧ p.1 ≠ x) := by
  unfold putT
  by_cases h : (t.any fun p => decide (p.1 = x)) = true
  · rw [if_pos h, List.mem_map]
    constructor
    · rintro ⟨q, hq, e⟩
      by_cases z : q.1 = x
      · rw [if_pos z, z] at e; exact .inl e.symm
      · rw [if_neg z] at e; exact .inr ⟨e ▸ hq, e ▸ z⟩
    · rintro (e | ⟨hp, n⟩)
      · obtain ⟨q, hq, hx⟩ := List.any_eq_true.mp h
        have hx := of_decide_eq_true hx
        exact ⟨q, hq, by rw [if_pos hx, e, hx]⟩
      · exact ⟨p, hp, if_neg n⟩
  · rw [if_neg h, List.mem_append, List.mem_singleton]
    have nx : ∀ q ∈ t, q.1 ≠ x := fun q hq z => h (List.any_eq_true.mpr ⟨q, hq, decide_eq_true z⟩)
    constructor
    · rintro (hp | hp)
      · exact .inr ⟨hp, nx p hp⟩
      · exact .inl hp
    · rintro (hp | ⟨hp, _⟩)
      · exact .inr hp
      · exact .inl hp
theorem lkT_mem {t : Ln} {x : Str} {v : Int} (h : lkT t x = some v) : (x, v) ∈ t := by
  unfold lkT at h
  cases q : t.find? fun p => decide (p.1 = x) with
  | none => rw [q] at h; cases h
  | some p =>
    rw [q] at h
    cases h
    have e := of_decide_eq_true (List.find?_some (p := fun p : Str × Int => decide (p.1 = x)) q)
    have m := List.mem_of_find?_eq_some q
    rw [← e]
    exact m
theorem lkT_none {t : Ln} {x : Str} (h : lkT t x = none) : x ∉ t.map (·.1) := fun hx => by
  obtain ⟨p, e, _⟩ := find_some hx
  unfold lkT at h
  rw [e] at h
  cases h
theorem nd_uniq {t : Ln} (nd : (t.map (·.1)).Nodup) {p q : Str × Int} (hp : p ∈ t) (hq : q ∈ t) (e : p.1 = q.1) : p = q := by
  induction t with
  | nil => cases hp
  | cons a t ih =>
    rw [List.map_cons, List.nodup_cons] at nd
    rcases List.mem_cons.mp hp with h1 | h1 <;> rcases List.mem_cons.mp hq with h2 | h2
    · rw [h1, h2]
    · exact absurd (List.mem_map.mpr ⟨q, h2, by rw [← e, h1]⟩) nd.1
    · exact absurd (List.mem_map.mpr ⟨p, h1, by rw [e, h2]⟩) nd.1
    · exact ih nd.2 h1 h2
theorem getT_mem {t : Ln} (nd : (t.map (·.1)).Nodup) {x : Str} {v : Int} (h : (x, v) ∈ t) : getT t x = v := by
  obtain ⟨p, hp, hx, e⟩ := (getT_in (List.mem_map.mpr ⟨_, h, rfl⟩ : x ∈ t.map (·.1))).2
  rw [← e]
  exact congrArg (·.2) (nd_uniq nd hp h hx)
/-! ### a dict comprehension whose keys are unlike -/
theorem putM_new {m : KvD} {k : L2.Key} {d : D} (h : k ∉ m.map (·.1)) : putM m k d = m ++ [(k, d)] := by
  unfold putM
  rw [if_neg]
  intro z
  obtain ⟨p, hp, e⟩ := List.any_eq_true.mp z
  exact h (List.mem_map.mpr ⟨p, hp, of_decide_eq_true e⟩)
theorem kdc_mapOf {α : Type} {vs : List Nat} {G : TDG} {Tk Tv : TD} {ρ : DS} {R : List (D × D) → DS → Prop} (l : List α) (e : α → D) (k : α → L2.Key) (f : α → D) (hz : l.length < sizeLine) (hno : noOwn ρ vs) (nd : (l.map k).Nodup)
    (step : ∀ a ∈ l, ∀ W1 : L2.Key → D → Prop, W1 (k a) (f a) → G (e a) (wipeD ρ vs) fun ρ2 => Tk ρ2 fun y ρ4 => Tv ρ4 fun z ρ5 => ρ5 = ρ2 ∧ ∃ kk, y = kD kk ∧ W1 kk z) (fin : R (kvD (l.map fun a => (k a, f a))) ρ) :
    (l.map e).length < sizeLine ∧ noOwn ρ vs ∧ ∃ W : Nat → KvD → Prop, W 0 [] ∧
      (∀ i d acc, (l.map e)[i]? = some d → W i acc → G d (wipeD ρ vs) fun ρ2 => tYesD ρ2 fun c ρ3 => ρ3 = ρ2 ∧ if c = true then Tk ρ3 (fun y ρ4 => Tv ρ4 fun z ρ5 => ρ5 = ρ3 ∧ ∃ k, y = kD k ∧ W (i + 1) (putM acc k z)) else W (i + 1) acc) ∧
      ∀ acc, W (l.map e).length acc → R (kvD acc) ρ := by
  refine ⟨by rw [List.length_map]; exact hz, hno, fun i acc => acc = (l.take i).map fun a => (k a, f a), rfl, fun i d acc hi ea => ?_, fun acc ea => ?_⟩
  · obtain ⟨a, ha, rfl⟩ := map_at hi
    have h := step a (List.mem_of_getElem? ha) (fun kk z => putM acc kk z = (l.take (i + 1)).map fun a => (k a, f a)) (by
      have hk : k a ∉ acc.map (·.1) := by
        rw [ea, List.map_map]
        intro z
        have z : k a ∈ (l.take i).map k := z
        have nd2 : ((l.take (i + 1)).map k).Nodup := by
          rw [List.map_take]
          exact nd.sublist (List.take_sublist _ _)
        rw [FT.take_snoc ha, List.map_append] at nd2
        exact (List.nodup_append.mp nd2).2.2 _ z _ (List.mem_singleton.mpr rfl) rfl
      rw [putM_new hk, ea, FT.take_snoc ha, List.map_append]
      rfl)
    unfold tYesD
    simp only [if_true, true_and]
    exact h
  · rw [List.length_map] at ea
    have ea : acc = (l.take l.length).map fun a => (k a, f a) := ea
    rw [ea, List.take_length]
    exact fin
/-! ### comprehensions whose end does not look at the state -/
theorem lc_mapP {α : Type} {vs : List Nat} {G : TDG} {Te : TD} {ρ : DS} {R : List D → Prop} (l : List α) (e f : α → D) (hz : l.length < sizeLine) (hno : noOwn ρ vs)
    (step : ∀ p ∈ l, ∀ (W1 : D → Prop), W1 (f p) → G (e p) (wipeD ρ vs) fun ρ2 => Te ρ2 (fun y ρ4 => ρ4 = ρ2 ∧ W1 y)) (fin : R (l.map f)) :
    (l.map e).length < sizeLine ∧ noOwn ρ vs ∧ ∃ W : Nat → List D → Prop, W 0 [] ∧
      (∀ i d acc, (l.map e)[i]? = some d → W i acc → G d (wipeD ρ vs) fun ρ2 => tYesD ρ2 fun c ρ3 => ρ3 = ρ2 ∧ if c = true then Te ρ3 (fun y ρ4 => ρ4 = ρ3 ∧ W (i + 1) (acc ++ [y])) else W (i + 1) acc) ∧
      ∀ acc, W (l.map e).length acc → R acc := lc_mapOf (R := fun a _ => R a) l e f hz hno step fin
theorem kdc_mapP {α : Type} {vs : List Nat} {G : TDG} {Tk Tv : TD} {ρ : DS} {R : List (D × D) → Prop} (l : List α) (e : α → D) (k : α → L2.Key) (f : α → D) (hz : l.length < sizeLine) (hno : noOwn ρ vs) (nd : (l.map k).Nodup)
    (step : ∀ a ∈ l, ∀ W1 : L2.Key → D → Prop, W1 (k a) (f a) → G (e a) (wipeD ρ vs) fun ρ2 => Tk ρ2 fun y ρ4 => Tv ρ4 fun z ρ5 => ρ5 = ρ2 ∧ ∃ kk, y = kD kk ∧ W1 kk z) (fin : R (kvD (l.map fun a => (k a, f a)))) :
    (l.map e).length < sizeLine ∧ noOwn ρ vs ∧ ∃ W : Nat → KvD → Prop, W 0 [] ∧
      (∀ i d acc, (l.map e)[i]? = some d → W i acc → G d (wipeD ρ vs) fun ρ2 => tYesD ρ2 fun c ρ3 => ρ3 = ρ2 ∧ if c = true then Tk ρ3 (fun y ρ4 => Tv ρ4 fun z ρ5 => ρ5 = ρ3 ∧ ∃ k, y = kD k ∧ W (i + 1) (putM acc k z)) else W (i + 1) acc) ∧
      ∀ acc, W (l.map e).length acc → R (kvD acc) := kdc_mapOf (R := fun a _ => R a) l e k f hz hno nd step fin
theorem lc_filterP {α : Type} {vs : List Nat} {G : TDG} {Tt : TDT} {Te : TD} {ρ : DS} {R : List D → Prop} (l : List α) (e f : α → D) (p : α → Bool) (hz : l.length < sizeLine) (hno : noOwn ρ vs)
    (step : ∀ x ∈ l, ∀ (W1 : D → Prop) (W0 : Prop), (p x = true → W1 (f x)) → (p x = false → W0) → G (e x) (wipeD ρ vs) fun ρ2 => Tt ρ2 fun c ρ3 => ρ3 = ρ2 ∧ if c = true then Te ρ3 (fun y ρ4 => ρ4 = ρ3 ∧ W1 y) else W0)
    (fin : R ((l.filter p).map f)) :
    (l.map e).length < sizeLine ∧ noOwn ρ vs ∧ ∃ W : Nat → List D → Prop, W 0 [] ∧
      (∀ i d acc, (l.map e)[i]? = some d → W i acc → G d (wipeD ρ vs) fun ρ2 => Tt ρ2 fun c ρ3 => ρ3 = ρ2 ∧ if c = true then Te ρ3 (fun y ρ4 => ρ4 = ρ3 ∧ W (i + 1) (acc ++ [y])) else W (i + 1) acc) ∧
      ∀ acc, W (l.map e).length acc → R acc := lc_filterOf (R := fun a _ => R a) l e f p hz hno step fin
def NoO (s : Sl) : Prop := ∀ c, s ≠ .obj c
theorem noOwn1 {ρ : DS} {i : Nat} {s : Sl} (h : NoO s) (e : ρ[i]? = some s) : noOwn ρ [i] := fun j hj c z => by
  rw [List.mem_singleton.mp hj, e] at z
  exact h c (Option.some.inj z)
theorem noO_fz {d : D} : NoO (.fz d) := fun c e => by cases e
theorem noO_no : NoO .no := fun c e => by cases e
end NL

/-! slices; dicts of pairs; comprehensions whose parts are drawn -/
namespace NL
open PySem PySem.Spec PyProof.Rows L2 DL FT
variable [Tbs] [Bse]
theorem cut_to (l : List D) (i : Nat) : DL.cutD l none (some (i : Int)) = l.take i := by
  unfold DL.cutD
  rw [HT.sIx_none, HT.sIx_nat, List.drop_zero, Nat.sub_zero]
  by_cases h : i ≤ l.length
  · rw [Nat.min_eq_left h]
  · rw [Nat.min_eq_right (by omega), List.take_length, List.take_of_length_le (by omega)]
theorem cut_from (l : List D) (i : Nat) : DL.cutD l (some (i : Int)) none = l.drop i := by
  unfold DL.cutD
  rw [HT.sIx_none, HT.sIx_nat]
  by_cases h : i ≤ l.length
  · rw [Nat.min_eq_left h, List.take_of_length_le (by rw [List.length_drop]; omega)]
  · rw [Nat.min_eq_right (by omega), Nat.sub_self, List.take_zero, List.drop_eq_nil_of_le (by omega)]
theorem cut_mid (l : List D) (i j : Nat) : DL.cutD l (some (i : Int)) (some (j : Int)) = (l.drop i).take (j - i) := by
  unfold DL.cutD
  rw [HT.sIx_nat, HT.sIx_nat]
  by_cases h : i ≤ l.length
  · rw [Nat.min_eq_left h]
    by_cases g : j ≤ l.length
    · rw [Nat.min_eq_left g]
    · rw [Nat.min_eq_right (by omega), List.take_of_length_le (by rw [List.length_drop]; omega), List.take_of_length_le (by rw [List.length_drop]; omega)]
  · rw [Nat.min_eq_right (show l.length ≤ i by omega), List.drop_eq_nil_of_le (Nat.le_refl _), List.drop_eq_nil_of_le (show l.length ≤ i by omega), List.take_nil, List.take_nil]
theorem mergeM_nd : ∀ (m acc : KvD), ((acc ++ m).map (·.1)).Nodup → mergeM acc m = acc ++ m
  | [], acc, _ => by rw [List.append_nil]; rfl
  | p :: m, acc, h => by
    have e : mergeM acc (p :: m) = mergeM (putM acc p.1 p.2) m := rfl
    have hn : p.1 ∉ acc.map (·.1) := fun z => by
      rw [List.map_append] at h
      exact (List.nodup_append.mp h).2.2 _ z _ (by rw [List.map_cons]; exact List.mem_cons_self) rfl
    have e2 : acc ++ p :: m = (acc ++ [(p.1, p.2)]) ++ m := by rw [List.append_assoc]; rfl
    rw [e, putM_new hn, mergeM_nd m _ (by rw [← e2]; exact h), ← e2]
theorem merge_nd {m : KvD} (h : (m.map (·.1)).Nodup) : mergeM [] m = m := mergeM_nd m [] h
theorem keys_tab (t : Ln) : keysD (t.map keyM) = t.map fun p => .str p.1 := by
  unfold keysD
  rw [List.map_map]
  rfl
theorem nd_keys {t : Ln} (h : (t.map (·.1)).Nodup) : ((t.map keyM).map (·.1)).Nodup := by
  rw [List.map_map]
  have e : ((fun x : L2.Key × D => x.1) ∘ keyM) = (fun x : Str => (Sum.inr x : L2.Key)) ∘ (fun p : Str × Int => p.1) := rfl
  rw [e, ← List.map_map]
  exact List.pairwise_map.mpr (h.imp fun h e => h (by injection e))
theorem prm_tab (t : Ln) : (t.map keyM).map prM = t.map prD2 := by
  rw [List.map_map]
  rfl
/-- one beside another -/
inductive Two {α β : Type} (Q : α → β → Prop) : List α → List β → Prop
  | nil : Two Q [] []
  | cons {a : α} {b : β} {l : List α} {r : List β} : Q a b → Two Q l r → Two Q (a :: l) (b :: r)
theorem Two.snoc {α β : Type} {Q : α → β → Prop} {l : List α} {r : List β} (h : Two Q l r) {a : α} {b : β} (q : Q a b) : Two Q (l ++ [a]) (r ++ [b]) := by
  induction h with
  | nil => exact .cons q .nil
  | cons h _ ih => exact .cons h ih
theorem Two.len {α β : Type} {Q : α → β → Prop} {l : List α} {r : List β} (h : Two Q l r) : l.length = r.length := by
  induction h with
  | nil => rfl
  | cons _ _ ih => rw [List.length_cons, List.length_cons, ih]
theorem Two.map {α β γ : Type} {Q : α → β → Prop} {l : List α} {r : List β} (h : Two Q l r) {f : α → γ} {g : β → γ} (q : ∀ a b, Q a b → g b = f a) : r.map g = l.map f := by
  induction h with
  | nil => rfl
  | cons h _ ih => rw [List.map_cons, List.map_cons, ih, q _ _ h]
theorem Two.right {α β : Type} {Q : α → β → Prop} {l : List α} {r : List β} (h : Two Q l r) : ∀ b ∈ r, ∃ a ∈ l, Q a b := by
  induction h with
  | nil => exact fun b hb => nomatch hb
  | cons h _ ih =>
    intro b hb
    rcases List.mem_cons.mp hb with rfl | hb
    · exact ⟨_, List.mem_cons_self, h⟩
    · obtain ⟨a, ha, q⟩ := ih b hb
      exact ⟨a, List.mem_cons_of_mem _ ha, q⟩
theorem lc_someP {α β : Type} (Q : α → β → Prop) {vs : List Nat} {G : TDG} {Te : TD} {ρ : DS} {R : List D → Prop} (l : List α) (e : α → D) (f : β → D) (hz : l.length < sizeLine) (hno : noOwn ρ vs)
    (step : ∀ p ∈ l, ∀ (W1 : D → Prop), (∀ b, Q p b → W1 (f b)) → G (e p) (wipeD ρ vs) fun ρ2 => Te ρ2 (fun y ρ4 => ρ4 = ρ2 ∧ W1 y)) (fin : ∀ bs, Two Q l bs → R (bs.map f)) :
    (l.map e).length < sizeLine ∧ noOwn ρ vs ∧ ∃ W : Nat → List D → Prop, W 0 [] ∧
      (∀ i d acc, (l.map e)[i]? = some d → W i acc → G d (wipeD ρ vs) fun ρ2 => tYesD ρ2 fun c ρ3 => ρ3 = ρ2 ∧ if c = true then Te ρ3 (fun y ρ4 => ρ4 = ρ3 ∧ W (i + 1) (acc ++ [y])) else W (i + 1) acc) ∧
      ∀ acc, W (l.map e).length acc → R acc := by
  refine ⟨by rw [List.length_map]; exact hz, hno, fun i acc => ∃ bs, acc = bs.map f ∧ Two Q (l.take i) bs, ⟨[], rfl, by rw [List.take_zero]; exact .nil⟩, fun i d acc hi ea => ?_, fun acc ea => ?_⟩
  · obtain ⟨a, ha, rfl⟩ := map_at hi
    obtain ⟨bs, rfl, tw⟩ := ea
    have h := step a (List.mem_of_getElem? ha) (fun y => ∃ bs', bs.map f ++ [y] = bs'.map f ∧ Two Q (l.take (i + 1)) bs') fun b qb => ⟨bs ++ [b], by rw [List.map_append]; rfl, by rw [FT.take_snoc ha]; exact tw.snoc qb⟩
    unfold tYesD
    simp only [if_true, true_and]
    exact h
  · rw [List.length_map] at ea
    obtain ⟨bs, rfl, tw⟩ := ea
    rw [List.take_length] at tw
    exact fin bs tw
theorem as_shp {x : Str} (h : AsT x) : shp (.str x) = true := shp_str h.2
theorem any_str {ns : List Str} {x : Str} : ((ns.map PyData.str).any fun z => PyData.eqv z (.str x)) = decide (x ∈ ns) := by
  rw [List.any_map]
  by_cases h : x ∈ ns
  · rw [decide_eq_true h]
    exact List.any_eq_true.mpr ⟨x, h, eqv_text x⟩
  · rw [decide_eq_false h]
    refine Bool.eq_false_iff.mpr fun z => ?_
    obtain ⟨y, hy, e⟩ := List.any_eq_true.mp z
    have e : decide (y = x) = true := e
    exact h (of_decide_eq_true e ▸ hy)
theorem shp_strs {ns : List Str} (h : ∀ x ∈ ns, AsT x) : shp (.list (ns.map .str)) = true := shp_texts fun t ht => (h t ht).2
end NL

namespace P81
open PySem PySem.Spec PyProof.Rows L2 DL
def topS (i : Nat) : Stmt := PySem.Challenge.pw_nestdeep_k81_slack.main.body.getD i (.Pass ⟨0, 0, 0, 0⟩)
def inCls (s : Stmt) (j : Nat) : Stmt := match s with
  | .ClassDef _ _ _ b _ _ _ _ _ _ _ => b.getD j (.Pass ⟨0, 0, 0, 0⟩)
  | _ => .Pass ⟨0, 0, 0, 0⟩
abbrev sIL : Stmt := inCls (topS 2) 0
abbrev sIS : Stmt := inCls (topS 3) 0
abbrev sIC : Stmt := inCls (topS 4) 0
abbrev sNF : Stmt := inCls (topS 6) 0
theorem scIL : FnScope ["self", "value"] ["self", "value"] (defScope sIL) := ⟨rfl, rfl, rfl, by decide +kernel, rfl, by decide +kernel, by decide +kernel⟩
theorem scIS : FnScope ["self", "name"] ["self", "name"] (defScope sIS) := ⟨rfl, rfl, rfl, by decide +kernel, rfl, by decide +kernel, by decide +kernel⟩
theorem scIC : FnScope ["self", "value"] ["self", "value"] (defScope sIC) := ⟨rfl, rfl, rfl, by decide +kernel, rfl, by decide +kernel, by decide +kernel⟩
theorem scNF : FnScope ["self"] ["self"] (defScope sNF) := ⟨rfl, rfl, rfl, by decide +kernel, rfl, by decide +kernel, by decide +kernel⟩
/-- {x}: a short text or None -/
def tFmtN (te : TE) : TE := fun σ H Q => te σ H fun x H1 => (∃ y : Str, x = .str y ∧ y.length ≤ sizeLine ∧ Q (.str y) H1) ∨ x = .non ∧ Q (.str "None") H1
theorem pe_fmtN {X : Cx} {e : Expr} {te : TE} {pos : Pos} (he : PE X e te) : PE X (.FormattedValue e (-1) none pos) (tFmtN te) := by
  refine ⟨fun pins s σ H Q I h => ?_⟩
  refine wpAny_FormattedValue_plain (thn (he.run pins s σ H _ I h) fun v s1 hv => ?_)
  obtain ⟨x, H1, I1, r1, q⟩ := hv
  rcases q with ⟨y, rfl, hz, q⟩ | ⟨rfl, q⟩
  · obtain ⟨t, rfl⟩ := r1
    exact wpAny_formatField_str ⟨.str y, H1, I1, ⟨t, rfl⟩, q⟩ ⟨.str y, H1, I1.tok _, ⟨_, rfl⟩, q⟩ hz
  · cases r1
    exact wpAny_formatField_none ⟨.str "None", H1, I1.tok _, ⟨_, rfl⟩, q⟩
/-- as spIni, the field a text of at most a hundred signs or None -/
def shortV : V → Prop := fun v => (∃ y : Str, v = .str y ∧ y.length ≤ 100) ∨ v = .non
def spIniS (C : Addr) (fld : Str) : Sp := fun vs H Q _ => ∃ a v, vs = [.ref a, v] ∧ shortV v ∧ H a = some (exo a C none) ∧ ∀ dx, H dx = none → dx ≠ a → Q .non (upd (upd H dx (exd dx [(fld, v)])) a (exo a C (some dx)))
section
variable {P : Program} {w : World} {K : PySem.W.Frag} {mg : Str → Option Value} {base : Heap} {f C B : Addr} {fd : FuncData} {k : Nat} {mc : Value}
theorem ok_IL (F : Fun K "__init__" "InvalidLine.__init__" sIL f fd) (O : OexC K C) (hv : PySem.W.findIn K (.ref C) "value" = some none) (hm : mg "InputError" = some (.ref B))
    (h1 : PySem.W.specialIn K (.ref B) "__getattribute__" = some (some (.builtin "type.__getattribute__"))) (h2 : PySem.W.typeIn K (.ref B) = some mc) (h3 : PySem.W.readsIn K B mc = true) (h4 : PySem.W.findCls K (.ref B) mc "__init__" = some (.val (.builtin "ValueError.__init__"))) :
    FnOk P w K mg base CX0 (k + 1) f fd ["self", "value"] (spIni C "value") :=
  F.ok scIL (fun vs H Q E ⟨a, v, e, _⟩ => by rw [e]; rfl) fun cdv A outer s H vs Q E hr ⟨a, v, e, ha, q⟩ => ⟨_, pss_cons (ps_expr (pe_binit (by rfl) hm (by decide) h1 h2 h3 h4 (pa_cons (pv 0) (pa_cons pe_str pa_nil)))) (pss_one (ps_ost (pv 0) (pv 1))), by
    subst e
    refine ⟨_, rfl, a, C, [V.str "a value is no line"], rfl, Nat.le_of_ble_eq_true rfl, O, ha, ?_⟩
    exact ⟨v, rfl, _, rfl, a, C, rfl, O, hv, .inl ⟨ha, fun dx n ne => q dx n ne⟩⟩⟩
theorem ok_IC (F : Fun K "__init__" "InvalidCount.__init__" sIC f fd) (O : OexC K C) (hv : PySem.W.findIn K (.ref C) "value" = some none) (hm : mg "InputError" = some (.ref B))
    (h1 : PySem.W.specialIn K (.ref B) "__getattribute__" = some (some (.builtin "type.__getattribute__"))) (h2 : PySem.W.typeIn K (.ref B) = some mc) (h3 : PySem.W.readsIn K B mc = true) (h4 : PySem.W.findCls K (.ref B) mc "__init__" = some (.val (.builtin "ValueError.__init__"))) :
    FnOk P w K mg base CX0 (k + 1) f fd ["self", "value"] (spIni C "value") :=
  F.ok scIC (fun vs H Q E ⟨a, v, e, _⟩ => by rw [e]; rfl) fun cdv A outer s H vs Q E hr ⟨a, v, e, ha, q⟩ => ⟨_, pss_cons (ps_expr (pe_binit (by rfl) hm (by decide) h1 h2 h3 h4 (pa_cons (pv 0) (pa_cons pe_str pa_nil)))) (pss_one (ps_ost (pv 0) (pv 1))), by
    subst e
    refine ⟨_, rfl, a, C, [V.str "a number is none, or out of its range"], rfl, Nat.le_of_ble_eq_true rfl, O, ha, ?_⟩
    exact ⟨v, rfl, _, rfl, a, C, rfl, O, hv, .inl ⟨ha, fun dx n ne => q dx n ne⟩⟩⟩
theorem len_msg (y : Str) (h : y.length ≤ 100) : (Str.empty ++ "no size for the frame " ++ y : Str).length ≤ sizeLine := by
  rw [Str.length_append]
  have e : (Str.empty ++ "no size for the frame " : Str).length = 22 := by decide +kernel
  rw [e, sizeLine_eq]
  omega
theorem ok_IS (F : Fun K "__init__" "InvalidSizes.__init__" sIS f fd) (O : OexC K C) (hv : PySem.W.findIn K (.ref C) "name" = some none) (hm : mg "InputError" = some (.ref B))
    (h1 : PySem.W.specialIn K (.ref B) "__getattribute__" = some (some (.builtin "type.__getattribute__"))) (h2 : PySem.W.typeIn K (.ref B) = some mc) (h3 : PySem.W.readsIn K B mc = true) (h4 : PySem.W.findCls K (.ref B) mc "__init__" = some (.val (.builtin "ValueError.__init__"))) :
    FnOk P w K mg base CX0 (k + 1) f fd ["self", "name"] (spIniS C "name") :=
  F.ok scIS (fun vs H Q E ⟨a, v, e, _⟩ => by rw [e]; rfl) fun cdv A outer s H vs Q E hr ⟨a, v, e, sv, ha, q⟩ => ⟨_, pss_cons (ps_expr (pe_binit (by rfl) hm (by decide) h1 h2 h3 h4 (pa_cons (pv 0) (pa_cons (pe_joined (.cons pe_str (.cons (pe_fmtN (pv 1)) .nil))) pa_nil)))) (pss_one (ps_ost (pv 0) (pv 1))), by
    subst e
    have fin : ∀ m : Str, ∃ (a' C' : Addr) (ws : List V), [V.ref a, V.str m] = .ref a' :: ws ∧ ws.length ≤ 1000 ∧ OexC K C' ∧ H a' = some (exo a' C' none) ∧ True := fun m => ⟨a, C, [V.str m], rfl, Nat.le_of_ble_eq_true rfl, O, ha, True.intro⟩
    refine ⟨.ref a, rfl, "no size for the frame ", rfl, by decide +kernel, v, rfl, ?_⟩
    rcases sv with ⟨y, rfl, hy⟩ | rfl
    · refine .inl ⟨y, rfl, Nat.le_trans hy (by rw [sizeLine_eq]; omega), y, rfl, len_msg y hy, a, C, [V.str _], rfl, Nat.le_of_ble_eq_true rfl, O, ha, ?_⟩
      exact ⟨.str y, rfl, _, rfl, a, C, rfl, O, hv, .inl ⟨ha, fun dx n ne => q dx n ne⟩⟩
    · refine .inr ⟨rfl, "None", rfl, by decide +kernel, a, C, [V.str _], rfl, Nat.le_of_ble_eq_true rfl, O, ha, ?_⟩
      exact ⟨.non, rfl, _, rfl, a, C, rfl, O, hv, .inl ⟨ha, fun dx n ne => q dx n ne⟩⟩⟩
theorem ok_NF {newId : String} {bmB : List Value} (F : Fun K "__init__" "NoneFits.__init__" sNF f fd) (F0 : ExcBaseFacts "RuntimeError" newId "RuntimeError.__init__" bmB) (O : OexT K "RuntimeError" newId "RuntimeError.__init__" bmB C) (hm : mg "StateError" = some (.ref B))
    (h1 : PySem.W.specialIn K (.ref B) "__getattribute__" = some (some (.builtin "type.__getattribute__"))) (h2 : PySem.W.typeIn K (.ref B) = some mc) (h3 : PySem.W.readsIn K B mc = true) (h4 : PySem.W.findCls K (.ref B) mc "__init__" = some (.val (.builtin "RuntimeError.__init__"))) :
    FnOk P w K mg base CX0 (k + 1) f fd ["self"] (spIniT C) :=
  F.ok scNF (fun vs H Q E ⟨a, e, _⟩ => by rw [e]; rfl) fun cdv A outer s H vs Q E hr ⟨a, e, ha, q⟩ => ⟨_, pss_one (ps_expr (pe_tinit F0 (by rfl) hm (by decide) h1 h2 h3 h4 (by decide +kernel) (pa_cons (pv 0) (pa_cons pe_str pa_nil)))), by
    subst e
    exact ⟨.ref a, rfl, a, C, [V.str "nothing fits under the limit"], rfl, Nat.le_of_ble_eq_true rfl, O, ha, q⟩⟩
end
end P81

namespace P81
open PySem PySem.Spec PyProof.Rows L2 DL FT NL
section
variable [ExA]
/-- lines, sizes, a limit: what is wrong first, or that nothing fits, or that all is right -/
def cCheckR (ls : List Ln) (t : Ln) (n : Int) (R : Prop) (S : Value → List (Str × D) → Prop) : Prop := ((∀ l ∈ ls, szL t l ≤ n) → R) ∧ ((∃ l ∈ ls, n < szL t l) → S (.ref ExA.NoneFits) [])
/-- the sizes that are passed: what is wrong with them, or a table -/
def SzArg (ls : List Ln) (d : D) (good : Ln → Prop) (bad : D → Prop) : Prop := (dctB d = false ∧ bad .none) ∨
  (∃ m, d = .dict (kvD m) ∧ ∃ x : Str, x.length ≤ 100 ∧ (∀ fs : List Str, fs.Pairwise ltT → (∀ z, z ∈ fs ↔ ∃ l ∈ ls, z ∈ l.map (·.1)) → szBad fs m = some x) ∧ bad (.str x)) ∨
  ∃ t, d = tabD t ∧ GT t ∧ (∀ l ∈ ls, ∀ p ∈ l, p.1 ∈ t.map (·.1) ∧ 1 ≤ getT t p.1) ∧ good t
def Args (good : List Ln → Ln → Int → Prop) (S : Value → List (Str × D) → Prop) (a b c : D) : Prop :=
  (∃ v, (badOf a = some v ∨ (seqD a = some [] ∧ v = a)) ∧ (∀ l, seqD a = some l → ∀ x ∈ l, Lv 100 2 x) ∧ S (.ref ExA.InvalidLine) [("value", v)]) ∨
  ∃ ls : List Ln, ls ≠ [] ∧ ls.length ≤ 50 ∧ seqD a = some (ls.map lnD) ∧ (∀ l ∈ ls, GL l) ∧
    SzArg ls b (fun t => (cnt 0 c = false ∧ S (.ref ExA.InvalidCount) [("value", c)]) ∨ ∃ n : Int, c = .int n ∧ 0 ≤ n ∧ n < 10 ^ 90 ∧ good ls t n) fun v => S (.ref ExA.InvalidSizes) [("name", v)]
def cCheck : ConX := fun ds R S => ∃ a b c, ds = [a, b, c] ∧ Args (fun ls t n => cCheckR ls t n (R .none) S) S a b c
/-- v is the least of what is left of the lines that hold x, by their counts -/
def IsSlack (ls : List Ln) (t : Ln) (n : Int) (x : Str) (v : Int) : Prop := (∀ l ∈ ls, ∀ p ∈ l, p.1 = x → v ≤ (n - szL t l) / p.2) ∧ ∃ l ∈ ls, ∃ p ∈ l, p.1 = x ∧ v = (n - szL t l) / p.2
def slackD (fs : List Str) (v : Str → Int) : D := .dict (kvD (fs.map fun x => (.inr x, .int (v x))))
def cSlack : ConX := fun ds R S => ∃ a b c, ds = [a, b, c] ∧ Args (fun ls t n => cCheckR ls t n (∀ (fs : List Str) (v : Str → Int), fs.Pairwise ltT → (∀ z, z ∈ fs ↔ ∃ l ∈ ls, z ∈ l.map (·.1)) → (∀ x ∈ fs, IsSlack ls t n x (v x)) → R (slackD fs v)) S) S a b c
def cntL (l : Ln) : Int := (l.map (·.2)).sum
def IsCommon (ls : List Ln) (t : Ln) (n : Int) (v : Int) : Prop := (∀ l ∈ ls, 0 < cntL l → v ≤ (n - szL t l) / cntL l) ∧ ∃ l ∈ ls, 0 < cntL l ∧ v = (n - szL t l) / cntL l
structure CommonI (ds : List D) (R : D → Prop) (S : Value → List (Str × D) → Prop) : Prop where
  h : ∃ a b c, ds = [a, b, c] ∧ Args (fun ls t n => cCheckR ls t n (((∀ l ∈ ls, cntL l ≤ 0) → R .none) ∧ ∀ v, IsCommon ls t n v → R (.int v)) S) S a b c
def cCommon : ConX := fun ds R S => CommonI ds R S
end
/-! ### the law's own -/
abbrev N6 : List Str := [("a" : Str), "ab", "b", "heap", "k", "zz"]
def cLFrames : Con := fun ds R => ∃ m : Nat, ds = [.int m] ∧ 0 < m ∧ m ≤ 10 ∧ ∀ fs : List Str, fs ≠ [] → fs.Sublist N6 → R (.list (fs.map .str))
def cLLine : Con := fun ds R => ∃ (fs : List Str) (u : Int), ds = [.list (fs.map .str), .int u] ∧ fs.length ≤ 10 ∧ 0 ≤ u ∧ u < 100 ∧ ∀ l : Ln, (l.map (·.1)).Sublist fs → (∀ p ∈ l, 1 ≤ p.2 ∧ p.2 ≤ u) → R (lnD l)
def cLLines : Con := fun ds R => ∃ (fs : List Str) (m : Nat), ds = [.list (fs.map .str), .int m] ∧ fs.Sublist N6 ∧ 0 < m ∧ m ≤ 10 ∧ ∀ ls : List Ln, ls.length = m → (∀ l ∈ ls, (l.map (·.1)).Sublist fs ∧ ∀ p ∈ l, 1 ≤ p.2 ∧ p.2 < 10 ^ 22) → R (.list (ls.map lnD))
/-- lines over a table -/
structure Over (ls : List Ln) (t : Ln) : Prop where
  ne : ls ≠ []
  len : ls.length ≤ 20
  gl : ∀ l ∈ ls, GL l
  gt : GT t
  fr : ∀ l ∈ ls, ∀ p ∈ l, p.1 ∈ t.map (·.1)
def cDeep : Con := fun ds R => ∃ ls t, ds = [.list (ls.map lnD), tabD t] ∧ Over ls t ∧ ∀ m, (∃ l ∈ ls, m = szL t l) → (∀ l ∈ ls, szL t l ≤ m) → R (.int m)
def moreT (t : Ln) (ns : List Str) (m : Int) : Ln := t.map fun p => (p.1, p.2 + if p.1 ∈ ns then m else 0)
def cMore : Con := fun ds R => ∃ t ns m, ds = [tabD t, .list (ns.map .str), .int m] ∧ GT t ∧ ns.length ≤ 50 ∧ (∀ x ∈ ns, AsT x) ∧ R (tabD (moreT t ns m))
def cJust : Con := fun ds R => ∃ ls t ns m n, ds = [.list (ls.map lnD), tabD t, .list (ns.map .str), .int m, .int n] ∧ Over ls t ∧ ns.length ≤ 50 ∧ (∀ x ∈ ns, AsT x) ∧ 0 ≤ m ∧ m < 10 ^ 35 ∧ (∀ p ∈ t, p.2 < 10 ^ 30) ∧
  (∀ l ∈ ls, szL (moreT t ns m) l ≤ n) ∧ (∃ l ∈ ls, n < szL (moreT t ns (m + 1)) l) ∧ R (.bool true)
/-- .. and a limit that they keep -/
structure Kept (ls : List Ln) (t : Ln) (n : Int) : Prop extends Over ls t where
  ps : ∀ p ∈ t, 1 ≤ p.2 ∧ p.2 < 10 ^ 30
  n1 : n < 10 ^ 34
def cRight : Con := fun ds R => ∃ ls t n, ds = [.list (ls.map lnD), tabD t, .int n] ∧ Kept ls t n ∧ (∀ l ∈ ls, szL t l ≤ n) ∧ R (.bool true)
def cExceeded : Con := fun ds R => ∃ ls t n, ds = [.list (ls.map lnD), tabD t, .int n] ∧ Kept ls t n ∧ 0 ≤ n ∧ (∃ l ∈ ls, n < szL t l) ∧ R (.bool true)
/-- what is passed wrongly, and the answer that is due -/
def Spoilt (a b c : D) (w : Str) (v : D) : Prop := fitM (.tuple [.str w, v]) ∧ (PyData.shown (.tuple [.str w, v])).length ≤ 100000 ∧ (∀ z ∈ (PyData.shown (.tuple [.str w, v])).cps.toList, z < 128) ∧
  ∀ [ExA] (S : Value → List (Str × D) → Prop), (w = "line" → S (.ref ExA.InvalidLine) [("value", v)]) → (w = "sizes" → S (.ref ExA.InvalidSizes) [("name", v)]) → (w = "count" → S (.ref ExA.InvalidCount) [("value", v)]) → Args (fun _ _ _ => False) S a b c
def cSpoilt : Con := fun ds R => ∃ ls t n, ds = [.list (ls.map lnD), tabD t, .int n] ∧ Kept ls t n ∧ (∀ l ∈ ls, ∀ p ∈ l, p.1 ∈ N6) ∧ 0 ≤ n ∧ ∀ a b c w v, Spoilt a b c w v → R (.tuple [a, b, c, .tuple [.str w, v]])
end P81

namespace P81
open PySem PySem.Spec PyProof.Rows L2 DL FT NL LamX NdefX
variable [Tbs] [ExA]
abbrev s_law_told : Stmt := topS 41
def toldCs : List Cl := [.F ExA.InvalidLine "value" "line", .F ExA.InvalidSizes "name" "sizes", .F ExA.InvalidCount "value" "count", .N ExA.InputError "input", .I ExA.NoneFits ExA.StateError "none"]
/-- what is known of _law_told and of the classes that it names -/
structure ToldF (K : PySem.W.Frag) (mg : Str → Option Value) : Prop where
  ex : ∃ (g : Addr) (oc : Value) (od : Option Addr) (osl : Array (Option Value)) (kV doc pm : Value) (an : Option Addr) (cdv ct : Value), mg "_law_told" = some (.ref g) ∧ PySem.W.keepIn K (.ref g) = true ∧
    K.lookup g = some ⟨oc, od, .func (PySem.W.fnOf "_law_told" "_law_told" (defArgs s_law_told) (defBody s_law_told) (defScope s_law_told) .none kV doc pm an cdv ct), osl⟩ ∧ PySem.W.codeIn K cdv "_law_told" = true
  m1 : mg "InvalidLine" = some (.ref ExA.InvalidLine)
  x1 : XfC K ExA.InvalidLine
  n1 : PySem.W.findIn K (.ref ExA.InvalidLine) "value" = some none
  m2 : mg "InvalidSizes" = some (.ref ExA.InvalidSizes)
  x2 : XfC K ExA.InvalidSizes
  n2 : PySem.W.findIn K (.ref ExA.InvalidSizes) "name" = some none
  m3 : mg "InvalidCount" = some (.ref ExA.InvalidCount)
  x3 : XfC K ExA.InvalidCount
  n3 : PySem.W.findIn K (.ref ExA.InvalidCount) "value" = some none
  m4 : mg "InputError" = some (.ref ExA.InputError)
  m5 : mg "NoneFits" = some (.ref ExA.NoneFits)
  x5 : ExcC K ExA.NoneFits
  m6 : mg "StateError" = some (.ref ExA.StateError)
  mi : mg "isinstance" = none
theorem sc_law_told : FnScope ["_law_call", "e", "_law_found"] ["_law_call"] (defScope s_law_told) := ⟨rfl, rfl, rfl, by decide +kernel, rfl, by decide +kernel, by decide +kernel⟩
/-- _law_told(lambda: body) -/
theorem lam_told [Bse] {X : Cx} {c P : Addr} {nm : Nat → Nat → Str} {k : Nat} {params : Arguments} {body : Expr} {scope : Scope} {T : Bse → TD} {p lpos pos : Pos} (F : ToldF X.K X.mg) (TB : TabB X.base X.mg c P) (hcode : X.env.code = .ref c) (hmT : (P, nm) ∈ Tbs.T)
    (hn : nm lpos.line lpos.col = X.env.qual ++ "<lambda>") (hu : ∀ p ∈ Tbs.T, p.1 = P → p.2 = nm) (hr : Room (k + 2) X.A) (L : LamS X.env.scope scope) (hdef : defaultsOf params X.env = ([], []))
    (hbind : ∀ (q : Str) (cl : List (Str × Addr)) (pm cv ctv : Value), bindArgs (PySem.W.kla_fn "<lambda>" q params body scope cl pm cv ctv) ⟨[], []⟩ = pure [])
    (hbody : ∀ (B : Bse) (A : Around) (outer : List Env) (s : Shared) (H : Hp) (E : XK) (f c' : Addr), Room k (A.deeper (lamEnv X scope s.heap.objs.size f c')) → Takes (lamCx X A outer s H E scope f c') B.W → @DE _ B (lamCx X A outer s H E scope f c') body (T B)) (hg : Gl X "_law_told" := by rfl) :
    DE X (.Call (.Name "_law_told" p) [.Lambda params body scope lpos] [] pos) (dTold X.K toldCs "told" T) := by
  obtain ⟨g, oc, od, osl, kV, doc, pm, an, cdv, ct, hm, hk, lk, hcg⟩ := F.ex
  refine de_lam hg hm hk lk hcg (fun s us ks hl => by
    match us, hl with
    | [u], _ => exact .of_eq rfl) sc_law_told (.inl rfl) ⟨by decide, rfl, rfl, by decide, by decide, fun x g cdg s H => ?_⟩ TB hcode hmT hn hu hr L hdef hbind hbody
  letI : Bse := noX
  have nd : [("_law_call" : Str), "e", "_law_found"].Nodup := by decide
  refine hd_F nd rfl rfl rfl rfl ⟨rfl, by decide, .inl F.m1⟩ F.x1 F.n1 (by decide) (by decide) ?_
  refine hd_F nd rfl rfl rfl rfl ⟨rfl, by decide, .inl F.m2⟩ F.x2 F.n2 (by decide) (by decide) ?_
  refine hd_F nd rfl rfl rfl rfl ⟨rfl, by decide, .inl F.m3⟩ F.x3 F.n3 (by decide) (by decide) ?_
  refine hd_N nd rfl rfl ⟨rfl, by decide, .inl F.m4⟩ ?_
  exact hd_I nd rfl rfl rfl rfl ⟨rfl, by decide, .inl F.m5⟩ F.x5 rfl F.mi rfl F.m6 (by decide) (by decide) (by decide) .nil
end P81

namespace P81
open PySem PySem.Spec PyProof.Rows L2 DL FT NL LamX
variable [Tbs] [Bse] [ExA]
abbrev s_law_pot : Stmt := topS 30
abbrev s_law_draw : Stmt := topS 31
abbrev sis_count : Stmt := topS 8
theorem scis_count : FnScope ["value", "least"] ["value", "least"] (defScope sis_count) := ⟨rfl, rfl, rfl, by decide +kernel, rfl, by decide +kernel, by decide +kernel⟩
theorem bpis_count : BindP "is_count" sis_count ["value", "least"] 2 := fun _ _ _ _ _ _ us hl => match us, hl with | [_, _], _ => rfl
abbrev sis_list : Stmt := topS 9
theorem scis_list : FnScope ["value"] ["value"] (defScope sis_list) := ⟨rfl, rfl, rfl, by decide +kernel, rfl, by decide +kernel, by decide +kernel⟩
theorem bpis_list : BindP "is_list" sis_list ["value"] 1 := fun _ _ _ _ _ _ us hl => match us, hl with | [_], _ => rfl
abbrev sis_tuple_of : Stmt := topS 10
theorem scis_tuple_of : FnScope ["value", "length"] ["value", "length"] (defScope sis_tuple_of) := ⟨rfl, rfl, rfl, by decide +kernel, rfl, by decide +kernel, by decide +kernel⟩
theorem bpis_tuple_of : BindP "is_tuple_of" sis_tuple_of ["value", "length"] 2 := fun _ _ _ _ _ _ us hl => match us, hl with | [_, _], _ => rfl
abbrev ssize_of : Stmt := topS 12
theorem scsize_of : FnScope ["line", "sizes", "frame", "count"] ["line", "sizes"] (defScope ssize_of) := ⟨rfl, rfl, rfl, by decide +kernel, rfl, by decide +kernel, by decide +kernel⟩
theorem bpsize_of : BindP "size_of" ssize_of ["line", "sizes"] 2 := fun _ _ _ _ _ _ us hl => match us, hl with | [_, _], _ => rfl
abbrev sframes_in : Stmt := topS 13
theorem scframes_in : FnScope ["lines", "line", "frame", "_"] ["lines"] (defScope sframes_in) := ⟨rfl, rfl, rfl, by decide +kernel, rfl, by decide +kernel, by decide +kernel⟩
theorem bpframes_in : BindP "frames_in" sframes_in ["lines"] 1 := fun _ _ _ _ _ _ us hl => match us, hl with | [_], _ => rfl
abbrev scheck_sizes : Stmt := topS 14
theorem sccheck_sizes : FnScope ["frames", "sizes", "frame"] ["frames", "sizes"] (defScope scheck_sizes) := ⟨rfl, rfl, rfl, by decide +kernel, rfl, by decide +kernel, by decide +kernel⟩
theorem bpcheck_sizes : BindP "check_sizes" scheck_sizes ["frames", "sizes"] 2 := fun _ _ _ _ _ _ us hl => match us, hl with | [_, _], _ => rfl
abbrev scheck_limit : Stmt := topS 15
theorem sccheck_limit : FnScope ["limit"] ["limit"] (defScope scheck_limit) := ⟨rfl, rfl, rfl, by decide +kernel, rfl, by decide +kernel, by decide +kernel⟩
theorem bpcheck_limit : BindP "check_limit" scheck_limit ["limit"] 1 := fun _ _ _ _ _ _ us hl => match us, hl with | [_], _ => rfl
abbrev sis_name : Stmt := topS 19
theorem scis_name : FnScope ["value"] ["value"] (defScope sis_name) := ⟨rfl, rfl, rfl, by decide +kernel, rfl, by decide +kernel, by decide +kernel⟩
theorem bpis_name : BindP "is_name" sis_name ["value"] 1 := fun _ _ _ _ _ _ us hl => match us, hl with | [_], _ => rfl
abbrev s_is_part : Stmt := topS 21
theorem sc_is_part : FnScope ["value"] ["value"] (defScope s_is_part) := ⟨rfl, rfl, rfl, by decide +kernel, rfl, by decide +kernel, by decide +kernel⟩
theorem bp_is_part : BindP "_is_part" s_is_part ["value"] 1 := fun _ _ _ _ _ _ us hl => match us, hl with | [_], _ => rfl
abbrev sis_line : Stmt := topS 22
theorem scis_line : FnScope ["value", "part", "at"] ["value"] (defScope sis_line) := ⟨rfl, rfl, rfl, by decide +kernel, rfl, by decide +kernel, by decide +kernel⟩
theorem bpis_line : BindP "is_line" sis_line ["value"] 1 := fun _ _ _ _ _ _ us hl => match us, hl with | [_], _ => rfl
abbrev scheck_line : Stmt := topS 23
theorem sccheck_line : FnScope ["line"] ["line"] (defScope scheck_line) := ⟨rfl, rfl, rfl, by decide +kernel, rfl, by decide +kernel, by decide +kernel⟩
theorem bpcheck_line : BindP "check_line" scheck_line ["line"] 1 := fun _ _ _ _ _ _ us hl => match us, hl with | [_], _ => rfl
abbrev scheck_lines : Stmt := topS 24
theorem sccheck_lines : FnScope ["lines", "line"] ["lines"] (defScope scheck_lines) := ⟨rfl, rfl, rfl, by decide +kernel, rfl, by decide +kernel, by decide +kernel⟩
theorem bpcheck_lines : BindP "check_lines" scheck_lines ["lines"] 1 := fun _ _ _ _ _ _ us hl => match us, hl with | [_], _ => rfl
abbrev s_check : Stmt := topS 26
theorem sc_check : FnScope ["lines", "sizes", "limit", "line"] ["lines", "sizes", "limit"] (defScope s_check) := ⟨rfl, rfl, rfl, by decide +kernel, rfl, by decide +kernel, by decide +kernel⟩
theorem bp_check : BindP "_check" s_check ["lines", "sizes", "limit"] 3 := fun _ _ _ _ _ _ us hl => match us, hl with | [_, _, _], _ => rfl
abbrev sslack : Stmt := topS 27
theorem scslack : FnScope ["lines", "sizes", "limit", "found", "line", "left", "frame", "count"] ["lines", "sizes", "limit"] (defScope sslack) := ⟨rfl, rfl, rfl, by decide +kernel, rfl, by decide +kernel, by decide +kernel⟩
theorem bpslack : BindP "slack" sslack ["lines", "sizes", "limit"] 3 := fun _ _ _ _ _ _ us hl => match us, hl with | [_, _, _], _ => rfl
abbrev scommon_slack : Stmt := topS 28
theorem sccommon_slack : FnScope ["lines", "sizes", "limit", "counted", "line", "_", "count", "left"] ["lines", "sizes", "limit"] (defScope scommon_slack) := ⟨rfl, rfl, rfl, by decide +kernel, rfl, by decide +kernel, by decide +kernel⟩
theorem bpcommon_slack : BindP "common_slack" scommon_slack ["lines", "sizes", "limit"] 3 := fun _ _ _ _ _ _ us hl => match us, hl with | [_, _, _], _ => rfl
abbrev s_law_pick : Stmt := topS 32
theorem sc_law_pick : FnScope ["_law_pot_here", "_law_some"] ["_law_pot_here", "_law_some"] (defScope s_law_pick) := ⟨rfl, rfl, rfl, by decide +kernel, rfl, by decide +kernel, by decide +kernel⟩
theorem bp_law_pick : BindP "_law_pick" s_law_pick ["_law_pot_here", "_law_some"] 2 := fun _ _ _ _ _ _ us hl => match us, hl with | [_, _], _ => rfl
abbrev s_law_frames : Stmt := topS 33
theorem sc_law_frames : FnScope ["_law_pot_here", "_law_upper", "_law_names", "_law_first"] ["_law_pot_here", "_law_upper"] (defScope s_law_frames) := ⟨rfl, rfl, rfl, by decide +kernel, rfl, by decide +kernel, by decide +kernel⟩
theorem bp_law_frames : BindP "_law_frames" s_law_frames ["_law_pot_here", "_law_upper"] 2 := fun _ _ _ _ _ _ us hl => match us, hl with | [_, _], _ => rfl
abbrev s_law_line : Stmt := topS 34
theorem sc_law_line : FnScope ["_law_pot_here", "_law_frames_here", "_law_upper", "_law_counts", "_law_frame", "_law_pair"] ["_law_pot_here", "_law_frames_here", "_law_upper"] (defScope s_law_line) := ⟨rfl, rfl, rfl, by decide +kernel, rfl, by decide +kernel, by decide +kernel⟩
theorem bp_law_line : BindP "_law_line" s_law_line ["_law_pot_here", "_law_frames_here", "_law_upper"] 3 := fun _ _ _ _ _ _ us hl => match us, hl with | [_, _, _], _ => rfl
abbrev s_law_lines : Stmt := topS 35
theorem sc_law_lines : FnScope ["_law_pot_here", "_law_frames_here", "_law_many", "_law_scale", "_law_found", "_law_turn", "_law_line_here", "_law_frame", "_law_count"] ["_law_pot_here", "_law_frames_here", "_law_many"] (defScope s_law_lines) := ⟨rfl, rfl, rfl, by decide +kernel, rfl, by decide +kernel, by decide +kernel⟩
theorem bp_law_lines : BindP "_law_lines" s_law_lines ["_law_pot_here", "_law_frames_here", "_law_many"] 3 := fun _ _ _ _ _ _ us hl => match us, hl with | [_, _, _], _ => rfl
abbrev s_law_deep : Stmt := topS 36
theorem sc_law_deep : FnScope ["_law_lines_here", "_law_table", "_law_line_here", "_law_frame", "_law_count"] ["_law_lines_here", "_law_table"] (defScope s_law_deep) := ⟨rfl, rfl, rfl, by decide +kernel, rfl, by decide +kernel, by decide +kernel⟩
theorem bp_law_deep : BindP "_law_deep" s_law_deep ["_law_lines_here", "_law_table"] 2 := fun _ _ _ _ _ _ us hl => match us, hl with | [_, _], _ => rfl
abbrev s_law_more : Stmt := topS 37
theorem sc_law_more : FnScope ["_law_table", "_law_names", "_law_many", "_law_name"] ["_law_table", "_law_names", "_law_many"] (defScope s_law_more) := ⟨rfl, rfl, rfl, by decide +kernel, rfl, by decide +kernel, by decide +kernel⟩
theorem bp_law_more : BindP "_law_more" s_law_more ["_law_table", "_law_names", "_law_many"] 3 := fun _ _ _ _ _ _ us hl => match us, hl with | [_, _, _], _ => rfl
abbrev s_law_held : Stmt := topS 38
theorem sc_law_held : FnScope ["_law_lines_here", "_law_found", "_law_line_here", "_law_frame", "_law_count"] ["_law_lines_here"] (defScope s_law_held) := ⟨rfl, rfl, rfl, by decide +kernel, rfl, by decide +kernel, by decide +kernel⟩
theorem bp_law_held : BindP "_law_held" s_law_held ["_law_lines_here"] 1 := fun _ _ _ _ _ _ us hl => match us, hl with | [_], _ => rfl
abbrev s_law_just : Stmt := topS 39
theorem sc_law_just : FnScope ["_law_lines_here", "_law_table", "_law_names", "_law_many", "_law_limit"] ["_law_lines_here", "_law_table", "_law_names", "_law_many", "_law_limit"] (defScope s_law_just) := ⟨rfl, rfl, rfl, by decide +kernel, rfl, by decide +kernel, by decide +kernel⟩
theorem bp_law_just : BindP "_law_just" s_law_just ["_law_lines_here", "_law_table", "_law_names", "_law_many", "_law_limit"] 5 := fun _ _ _ _ _ _ us hl => match us, hl with | [_, _, _, _, _], _ => rfl
abbrev s_law_right : Stmt := topS 40
theorem sc_law_right : FnScope ["_law_lines_here", "_law_table", "_law_limit", "_law_held_here", "_law_told_here", "_law_shared", "_law_name"] ["_law_lines_here", "_law_table", "_law_limit"] (defScope s_law_right) := ⟨rfl, rfl, rfl, by decide +kernel, rfl, by decide +kernel, by decide +kernel⟩
theorem bp_law_right : BindP "_law_right" s_law_right ["_law_lines_here", "_law_table", "_law_limit"] 3 := fun _ _ _ _ _ _ us hl => match us, hl with | [_, _, _], _ => rfl
abbrev s_law_exceeded : Stmt := topS 42
theorem sc_law_exceeded : FnScope ["_law_lines_here", "_law_table", "_law_limit"] ["_law_lines_here", "_law_table", "_law_limit"] (defScope s_law_exceeded) := ⟨rfl, rfl, rfl, by decide +kernel, rfl, by decide +kernel, by decide +kernel⟩
theorem bp_law_exceeded : BindP "_law_exceeded" s_law_exceeded ["_law_lines_here", "_law_table", "_law_limit"] 3 := fun _ _ _ _ _ _ us hl => match us, hl with | [_, _, _], _ => rfl
abbrev s_law_spoilt : Stmt := topS 43
theorem sc_law_spoilt : FnScope ["_law_pot_here", "_law_lines_here", "_law_table", "_law_limit", "_law_way", "_law_held_here", "_law_bad", "_law_whole", "_law_at", "_law_other", "_law_name"] ["_law_pot_here", "_law_lines_here", "_law_table", "_law_limit"] (defScope s_law_spoilt) := ⟨rfl, rfl, rfl, by decide +kernel, rfl, by decide +kernel, by decide +kernel⟩
theorem bp_law_spoilt : BindP "_law_spoilt" s_law_spoilt ["_law_pot_here", "_law_lines_here", "_law_table", "_law_limit"] 4 := fun _ _ _ _ _ _ us hl => match us, hl with | [_, _, _, _], _ => rfl
abbrev slaw : Stmt := topS 44
theorem sclaw : FnScope ["_law_script", "_law_k", "_law_pot_here", "_law_frames_here", "_law_lines_here", "_law_upper", "_law_table", "_law_kept", "_law_deep_here", "_law_limit", "_law_less", "_law_some", "_law_sizing", "_law_due", "_law_frame"] ["_law_script"] (defScope slaw) := ⟨rfl, rfl, rfl, by decide +kernel, rfl, by decide +kernel, by decide +kernel⟩
theorem bplaw : BindP "law" slaw ["_law_script"] 1 := fun _ _ _ _ _ _ us hl => match us, hl with | [_], _ => rfl
theorem sc_law_pot : FnScope ["_law_script", "_law_index", "_law_cell"] ["_law_script", "_law_index"] (defScope s_law_pot) := ⟨rfl, rfl, rfl, by decide +kernel, rfl, by decide +kernel, by decide +kernel⟩
theorem bp_law_pot : BindP "_law_pot" s_law_pot ["_law_script", "_law_index"] 2 := fun _ _ _ _ _ _ us hl => match us, hl with | [_, _], _ => rfl
theorem sc_law_draw : FnScope ["_law_pot_here", "_law_many", "_law_digit"] ["_law_pot_here", "_law_many"] (defScope s_law_draw) := ⟨rfl, rfl, rfl, by decide +kernel, rfl, by decide +kernel, by decide +kernel⟩
theorem bp_law_draw : BindP "_law_draw" s_law_draw ["_law_pot_here", "_law_many"] 2 := fun _ _ _ _ _ _ us hl => match us, hl with | [_, _], _ => rfl
def Tis_count : TDS := (sCons (sRet (dAndV (dIsi "int" (bVar 0)) (dAndV (dNotV (dIsi "bool" (bVar 0))) (dBin (rCmpS (fun i j => decide (j ≤ i)) fun x y => !decide (x.cps.toList < y.cps.toList)) (bVar 0) (bVar 1))))) sNil)
theorem bis_count {P : Program} {w : World} {K : PySem.W.Frag} {mg : Str → Option Value} {base : Heap} {fa : Addr} {k : Nat} (m_isinstance : mg "isinstance" = none) (m_int : mg "int" = none) (m_bool : mg "bool" = none) : Body P w K mg base ["value", "least"] "is_count" sis_count fa k Tis_count := fun cdv A outer s H E hr =>
  (ds_cons (ds_ret (de_and (de_isi (pe_callB call_isi (by rfl) m_isinstance (by decide +kernel) (pa_cons (db_var (pv 0)) (pa_cons (pe_bltn (v := .ty "int") (by rfl) m_int (by decide +kernel) rfl) pa_nil)))) (de_and (de_not (de_isi (pe_callB call_isi (by rfl) m_isinstance (by decide +kernel) (pa_cons (db_var (pv 0)) (pa_cons (pe_bltn (v := .ty "bool") (by rfl) m_bool (by decide +kernel) rfl) pa_nil))))) (de_one (de_cmp od_ge (db_var (pv 0)) (db_var (pv 1)) rfl))))) ds_nil)
def Tis_list : TDS := (sCons (sRet (dIsi2 "list" "tuple" (bVar 0))) sNil)
theorem bis_list {P : Program} {w : World} {K : PySem.W.Frag} {mg : Str → Option Value} {base : Heap} {fa : Addr} {k : Nat} (m_isinstance : mg "isinstance" = none) (m_list : mg "list" = none) (m_tuple : mg "tuple" = none) : Body P w K mg base ["value"] "is_list" sis_list fa k Tis_list := fun cdv A outer s H E hr =>
  (ds_cons (ds_ret (de_isi2 (pe_callB call_isiT (by rfl) m_isinstance (by decide +kernel) (pa_cons (db_var (pv 0)) (pa_cons (pe_tup (pa_cons (pe_bltn (v := .ty "list") (by rfl) m_list (by decide +kernel) rfl) (pa_cons (pe_bltn (v := .ty "tuple") (by rfl) m_tuple (by decide +kernel) rfl) pa_nil))) pa_nil))))) ds_nil)
def Tis_tuple_of : TDS := (sCons (sRet (dAndV (dIsi "tuple" (bVar 0)) (dBin (rEqDD false) (dCall cLen (dCons (bVar 0) dNil)) (bVar 1)))) sNil)
theorem bis_tuple_of {P : Program} {w : World} {K : PySem.W.Frag} {mg : Str → Option Value} {base : Heap} {fa : Addr} {k : Nat} (m_isinstance : mg "isinstance" = none) (m_tuple : mg "tuple" = none) (m_len : mg "len" = none) : Body P w K mg base ["value", "length"] "is_tuple_of" sis_tuple_of fa k Tis_tuple_of := fun cdv A outer s H E hr =>
  (ds_cons (ds_ret (de_and (de_isi (pe_callB call_isi (by rfl) m_isinstance (by decide +kernel) (pa_cons (db_var (pv 0)) (pa_cons (pe_bltn (v := .ty "tuple") (by rfl) m_tuple (by decide +kernel) rfl) pa_nil)))) (de_one (de_cmp (od_eq (room64 hr)) (db_of (de_cb cd_len (dba_cons (db_var (pv 0)) dba_nil) (fun _ _ hc ha => pe_callB hc (by rfl) m_len (by decide +kernel) ha))) (db_var (pv 1)) rfl)))) ds_nil)
def Tsize_of : TDS := (sCons (sRet (dCall cSum (dCons (dOf (lLc [2, 3] (iSeq (bVar 0)) (gTp 2 (gsCons (gNm 2) (gsCons (gNm 3) gsNil))) tYesD (dBin (rIntsC CMulW fun i j => .int (i * j)) (bVar 3) (dGet (bVar 1) (bVar 2))))) dNil))) sNil)
theorem bsize_of {P : Program} {w : World} {K : PySem.W.Frag} {mg : Str → Option Value} {base : Heap} {fa : Addr} {k : Nat} (m_sum : mg "sum" = none) : Body P w K mg base ["line", "sizes", "frame", "count"] "size_of" ssize_of fa k Tsize_of := fun cdv A outer s H E hr =>
  (ds_cons (ds_ret (de_cb (cd_sum rfl) (dba_cons (db_of (de_own (dl_lc (pe_lc rfl scsize_of.nd (dib_own (db_var (pv 0))) (own := [("frame", 2), ("count", 3)]) (blkOk_by (N := ["line", "sizes", "frame", "count"]) (sc := defScope ssize_of) (by decide +kernel)) (fun _ _ _ _ _ => (dg_tup rfl (dgs_cons (dg_name (pg_name (i := 2) scsize_of.nd rfl (.inl rfl))) (dgs_cons (dg_name (pg_name (i := 3) scsize_of.nd rfl (.inl rfl))) dgs_nil)))) (fun _ _ _ _ _ => dts_nil) (fun _ _ _ _ _ => (de_bin od_mulW (db_var (pv 3)) (db_of (de_get (hu_of hr) (db_var (pv 1)) (db_var (pv 2)) (fun _ _ => rfl)))))) (by decide)))) dba_nil) (fun _ _ hc ha => pe_callB hc (by rfl) m_sum (by decide +kernel) ha))) ds_nil)
def Tframes_in : TDS := (sCons (sRet (dOf (lSortSet (dOf (lLc2 [1, 2, 3] [2, 3] (iSeq (bVar 0)) (gNm 1) tYesD (iSeq (dVar 1)) (gTp 2 (gsCons (gNm 2) (gsCons (gNm 3) gsNil))) tYesD (dVar 2)))))) sNil)
theorem bframes_in {P : Program} {w : World} {K : PySem.W.Frag} {mg : Str → Option Value} {base : Heap} {fa : Addr} {k : Nat} (m_sorted : mg "sorted" = none) (m_set : mg "set" = none) : Body P w K mg base ["lines", "line", "frame", "_"] "frames_in" sframes_in fa k Tframes_in := fun cdv A outer s H E hr =>
  (ds_cons (ds_ret (de_own (dl_sortSet rfl hr (by rfl) m_sorted (by rfl) m_set (db_of (de_own (dl_lc2 (DR1 := DL.Dp K) (pe_lc2 rfl scframes_in.nd (dib_own (db_var (pv 0))) (own := [("line", 1), ("frame", 2), ("_", 3)]) (vs1 := [2, 3]) (blkOk_by (N := ["lines", "line", "frame", "_"]) (sc := defScope sframes_in) (by decide +kernel)) (by decide) (fun _ _ _ _ _ => (dg_name (pg_name (i := 1) scframes_in.nd rfl (.inl rfl)))) (fun _ _ _ _ _ => dts_nil) (fun _ _ _ _ _ => (di_seq (de_var (pv 1)))) (fun _ _ _ _ _ => (dg_tup rfl (dgs_cons (dg_name (pg_name (i := 2) scframes_in.nd rfl (.inl rfl))) (dgs_cons (dg_name (pg_name (i := 3) scframes_in.nd rfl (.inl rfl))) dgs_nil)))) (fun _ _ _ _ _ => dts_nil) (fun _ _ _ _ _ => (de_var (pv 2)))) (by decide) (by decide))))))) ds_nil)
def Tcheck_sizes (B : Bse) : TDS := (sCons (sIf (tNotD (tVal (dIsi "dict" (bVar 1)))) (sCons (sRaiseV shortD (.ref ExA.InvalidSizes) "name" (dC .none)) sNil) sNil) (sCons (sFor (iSeq (dVar 0)) (gNm 2) (sCons (sIf (tNotD (tVal (dFn cCount (dCons (dGet1 (bVar 1) (bVar 2)) (dCons (dC (.int 1)) dNil))))) (sCons (sRaiseV shortD (.ref ExA.InvalidSizes) "name" (dVar 2)) sNil) sNil) sNil)) sNil))
theorem bcheck_sizes {P : Program} {w : World} {K : PySem.W.Frag} {mg : Str → Option Value} {base : Heap} {fa : Addr} {k : Nat} (Cis_count : CalD P w K mg base k "is_count" (spD K cCount)) (E_InvalidSizes : ExI P w K mg base k "InvalidSizes" ExA.InvalidSizes "name" shortV) (m_isinstance : mg "isinstance" = none) (m_dict : mg "dict" = none) : BodyXK P w K mg base ["frames", "sizes", "frame"] "check_sizes" scheck_sizes fa (k + 1) Tcheck_sizes := fun {B} cdv A outer s H E hr tk =>
  (ds_cons (ds_if (dt_not (dt_val (de_isi (pe_callB call_isi (by rfl) m_isinstance (by decide +kernel) (pa_cons (db_var (pv 1)) (pa_cons (pe_bltn (v := .ty "dict") (by rfl) m_dict (by decide +kernel) rfl) pa_nil)))))) (ds_cons (ds_raiseE short_of E_InvalidSizes rfl tk hr (by rfl) de_non) ds_nil) ds_nil) (ds_cons (ds_for (ps_for (passes_of rfl) rfl (di_seq (de_var (pv 0))) (dg_name (pg_name (i := 2) sccheck_sizes.nd rfl (.inl rfl))) (ds_cons (ds_if (dt_not (dt_val (de_fn (pe_cd Cis_count hr (Nat.le_succ _) (by rfl) (da_cons (de_get1 (hu_of hr) (db_var (pv 1)) (db_var (pv 2)) ⟨rfl, rfl, rfl, rfl⟩) (da_cons de_int da_nil)))))) (ds_cons (ds_raiseE short_of E_InvalidSizes rfl tk hr (by rfl) (de_var (pv 2))) ds_nil) ds_nil) ds_nil))) ds_nil))
def Tcheck_limit (B : Bse) : TDS := (sCons (sIf (tNotD (tVal (dFn cCount (dCons (dVar 0) (dCons (dC (.int 0)) dNil))))) (sCons (sRaiseV (fun _ => True) (.ref ExA.InvalidCount) "value" (dVar 0)) sNil) sNil) sNil)
theorem bcheck_limit {P : Program} {w : World} {K : PySem.W.Frag} {mg : Str → Option Value} {base : Heap} {fa : Addr} {k : Nat} (Cis_count : CalD P w K mg base k "is_count" (spD K cCount)) (E_InvalidCount : ExI P w K mg base k "InvalidCount" ExA.InvalidCount "value" (fun _ => True)) : BodyXK P w K mg base ["limit"] "check_limit" scheck_limit fa (k + 1) Tcheck_limit := fun {B} cdv A outer s H E hr tk =>
  (ds_cons (ds_if (dt_not (dt_val (de_fn (pe_cd Cis_count hr (Nat.le_succ _) (by rfl) (da_cons (de_var (pv 0)) (da_cons de_int da_nil)))))) (ds_cons (ds_raiseE (fun _ _ _ _ _ => True.intro) E_InvalidCount rfl tk hr (by rfl) (de_var (pv 0))) ds_nil) ds_nil) ds_nil)
def Tis_name : TDS := (sCons (sIf (tOrD (tNotD (tVal (dIsi "str" (bVar 0)))) (tOrD (tVal (dBin (rCmpS (fun i j => decide (j < i)) fun x y => decide (y.cps.toList < x.cps.toList)) (dCall cLen (dCons (bVar 0) dNil)) (dC (.int 8)))) (tVal (dInK NL.resB (bVar 0))))) (sCons (sRet (dC (.bool false))) sNil) sNil) (sCons (sRet (dAndV (dM0 (mBool Txt.isalpha) (bVar 0)) (dAndV (dM0 (mBool Txt.islower) (bVar 0)) (dM0 (mBool Txt.isascii) (bVar 0))))) sNil))
theorem bis_name {P : Program} {w : World} {K : PySem.W.Frag} {mg : Str → Option Value} {base : Heap} {fa : Addr} {k : Nat} (m_isinstance : mg "isinstance" = none) (m_str : mg "str" = none) (m_len : mg "len" = none) {t_LONGEST_NAME : Tok} (m_LONGEST_NAME : mg "LONGEST_NAME" = some (.int 8 t_LONGEST_NAME)) {a_IS_RESERVED : Addr} {es_IS_RESERVED : Array DictEntry} {n_IS_RESERVED : Nat} (m_IS_RESERVED : mg "IS_RESERVED" = some (.ref a_IS_RESERVED)) (KD_IS_RESERVED : KDict K w a_IS_RESERVED es_IS_RESERVED n_IS_RESERVED) (hKD_IS_RESERVED : ∀ z, ∃ r, PySem.W.nsIn K a_IS_RESERVED z = some r ∧ r.isSome = NL.resB z) : Body P w K mg base ["value"] "is_name" sis_name fa k Tis_name := fun cdv A outer s H E hr =>
  (ds_cons (ds_if (dt_w (dw_or (dt_not (dt_val (de_isi (pe_callB call_isi (by rfl) m_isinstance (by decide +kernel) (pa_cons (db_var (pv 0)) (pa_cons (pe_bltn (v := .ty "str") (by rfl) m_str (by decide +kernel) rfl) pa_nil)))))) (dw_or (dt_cmp od_gt (db_of (de_cb cd_len (dba_cons (db_var (pv 0)) dba_nil) (fun _ _ hc ha => pe_callB hc (by rfl) m_len (by decide +kernel) ha))) (db_of (de_c (pe_glob (v := .int 8) (by rfl) m_LONGEST_NAME ⟨_, rfl⟩) fun _ => .int _)) rfl) (dw_or1 (dt_inK KD_IS_RESERVED hKD_IS_RESERVED (db_var (pv 0)) (pe_glob (by rfl) m_IS_RESERVED rfl) rfl))))) (ds_cons (ds_ret de_bl) ds_nil) ds_nil) (ds_cons (ds_ret (de_and (de_m0 PySem.F.slot_str_isalpha PySem.F.type_str_isalpha md_isalpha (db_var (pv 0))) (de_and (de_m0 PySem.F.slot_str_islower PySem.F.type_str_islower md_islower (db_var (pv 0))) (de_one (de_m0 PySem.F.slot_str_isascii PySem.F.type_str_isascii md_isascii (db_var (pv 0))))))) ds_nil))
def T_is_part : TDS := (sCons (sRet (dAndV (dFn cTupOf (dCons (dVar 0) (dCons (dC (.int 2)) dNil))) (dAndV (dFn cName (dCons (dBin rIxD (bVar 0) (dC (.int 0))) dNil)) (dFn cCount (dCons (dBin rIxD (bVar 0) (dC (.int 1))) (dCons (dC (.int 1)) dNil)))))) sNil)
theorem b_is_part {P : Program} {w : World} {K : PySem.W.Frag} {mg : Str → Option Value} {base : Heap} {fa : Addr} {k : Nat} (Cis_tuple_of : CalD P w K mg base k "is_tuple_of" (spD K cTupOf)) (Cis_name : CalD P w K mg base k "is_name" (spD K cName)) (Cis_count : CalD P w K mg base k "is_count" (spD K cCount)) : Body P w K mg base ["value"] "_is_part" s_is_part fa k T_is_part := fun cdv A outer s H E hr =>
  (ds_cons (ds_ret (de_and (de_fn (pe_cd Cis_tuple_of hr (Nat.le_refl _) (by rfl) (da_cons (de_var (pv 0)) (da_cons de_int da_nil)))) (de_and (de_fn (pe_cd Cis_name hr (Nat.le_refl _) (by rfl) (da_cons (de_ix od_ix (db_var (pv 0)) (db_of de_int) (fun _ _ => rfl)) da_nil))) (de_one (de_fn (pe_cd Cis_count hr (Nat.le_refl _) (by rfl) (da_cons (de_ix od_ix (db_var (pv 0)) (db_of de_int) (fun _ _ => rfl)) (da_cons de_int da_nil)))))))) ds_nil)
def Tis_line : TDS := (sCons (sIf (tOrD (tNotD (tVal (dIsi "tuple" (bVar 0)))) (tNotD (tVal (dCall cAll (dCons (dOf (lLc [1] (iSeq (bVar 0)) (gNm 1) tYesD (dFn cPart (dCons (dVar 1) dNil)))) dNil))))) (sCons (sRet (dC (.bool false))) sNil) sNil) (sCons (sRet (dCall cAll (dCons (dOf (lLc [2] (iRg1 (dCons (dBin (rInts fun i j => .int (i - j)) (dCall cLen (dCons (bVar 0) dNil)) (dC (.int 1))) dNil)) (gNm 2) tYesD (dBin (rCmpS (fun i j => decide (i < j)) fun x y => decide (x.cps.toList < y.cps.toList)) (dBin rIxD (dBin rIxD (bVar 0) (bVar 2)) (dC (.int 0))) (dBin rIxD (dBin rIxD (bVar 0) (dBin rAddD (bVar 2) (dC (.int 1)))) (dC (.int 0)))))) dNil))) sNil))
theorem bis_line {P : Program} {w : World} {K : PySem.W.Frag} {mg : Str → Option Value} {base : Heap} {fa : Addr} {k : Nat} (C_is_part : CalD P w K mg base k "_is_part" (spD K cPart)) (m_all : mg "all" = none) (m_range : mg "range" = none) (m_len : mg "len" = none) (m_isinstance : mg "isinstance" = none) (m_tuple : mg "tuple" = none) : Body P w K mg base ["value", "part", "at"] "is_line" sis_line fa k Tis_line := fun cdv A outer s H E hr =>
  (ds_cons (ds_if (dt_w (dw_or (dt_not (dt_val (de_isi (pe_callB call_isi (by rfl) m_isinstance (by decide +kernel) (pa_cons (db_var (pv 0)) (pa_cons (pe_bltn (v := .ty "tuple") (by rfl) m_tuple (by decide +kernel) rfl) pa_nil)))))) (dw_or1 (dt_not (dt_val (de_cb (cd_all rfl) (dba_cons (db_of (de_own (dl_lc (pe_lc rfl scis_line.nd (dib_own (db_var (pv 0))) (own := [("part", 1)]) (blkOk_by (N := ["value", "part", "at"]) (sc := defScope sis_line) (by decide +kernel)) (fun _ _ _ _ _ => (dg_name (pg_name (i := 1) scis_line.nd rfl (.inl rfl)))) (fun _ _ _ _ _ => dts_nil) (fun _ _ _ _ _ => (de_fn (pe_cd C_is_part hr (Nat.le_refl _) (by rfl) (da_cons (de_var (pv 1)) da_nil))))) (by decide)))) dba_nil) (fun _ _ hc ha => pe_callB hc (by rfl) m_all (by decide +kernel) ha))))))) (ds_cons (ds_ret de_bl) ds_nil) ds_nil) (ds_cons (ds_ret (de_cb (cd_all rfl) (dba_cons (db_of (de_own (dl_lc (pe_lc rfl scis_line.nd (dibr_of (di_range1 (pi_range1 (by rfl) m_range (dba_cons (db_of (de_bin od_sub (db_of (de_cb cd_len (dba_cons (db_var (pv 0)) dba_nil) (fun _ _ hc ha => pe_callB hc (by rfl) m_len (by decide +kernel) ha))) (db_of de_int))) dba_nil)))) (own := [("at", 2)]) (blkOk_by (N := ["value", "part", "at"]) (sc := defScope sis_line) (by decide +kernel)) (fun _ _ _ _ _ => (dg_name (pg_name (i := 2) scis_line.nd rfl (.inl rfl)))) (fun _ _ _ _ _ => dts_nil) (fun _ _ _ _ _ => (de_cmp od_lt (db_of (de_ix od_ix (db_of (de_ix od_ix (db_var (pv 0)) (db_var (pv 2)) (fun _ _ => rfl))) (db_of de_int) (fun _ _ => rfl))) (db_of (de_ix od_ix (db_of (de_ix od_ix (db_var (pv 0)) (db_of (de_bin od_add (db_var (pv 2)) (db_of de_int))) (fun _ _ => rfl))) (db_of de_int) (fun _ _ => rfl))) rfl))) (by decide)))) dba_nil) (fun _ _ hc ha => pe_callB hc (by rfl) m_all (by decide +kernel) ha))) ds_nil))
def Tcheck_line (B : Bse) : TDS := (sCons (sIf (tNotD (tVal (dFn cLine (dCons (dVar 0) dNil)))) (sCons (sRaiseV (fun _ => True) (.ref ExA.InvalidLine) "value" (dVar 0)) sNil) sNil) sNil)
theorem bcheck_line {P : Program} {w : World} {K : PySem.W.Frag} {mg : Str → Option Value} {base : Heap} {fa : Addr} {k : Nat} (Cis_line : CalD P w K mg base k "is_line" (spD K cLine)) (E_InvalidLine : ExI P w K mg base k "InvalidLine" ExA.InvalidLine "value" (fun _ => True)) : BodyXK P w K mg base ["line"] "check_line" scheck_line fa (k + 1) Tcheck_line := fun {B} cdv A outer s H E hr tk =>
  (ds_cons (ds_if (dt_not (dt_val (de_fn (pe_cd Cis_line hr (Nat.le_succ _) (by rfl) (da_cons (de_var (pv 0)) da_nil))))) (ds_cons (ds_raiseE (fun _ _ _ _ _ => True.intro) E_InvalidLine rfl tk hr (by rfl) (de_var (pv 0))) ds_nil) ds_nil) ds_nil)
def Tcheck_lines (B : Bse) : TDS := (sCons (sIf (tNotD (tVal (dFn cIsList (dCons (dVar 0) dNil)))) (sCons (sRaiseV (fun _ => True) (.ref ExA.InvalidLine) "value" (dVar 0)) sNil) sNil) (sCons (sFor (iSeq (dVar 0)) (gNm 1) (sCons (sExpr (dFnX cChkLine (dCons (dVar 1) dNil))) sNil)) sNil))
theorem bcheck_lines {P : Program} {w : World} {K : PySem.W.Frag} {mg : Str → Option Value} {base : Heap} {fa : Addr} {k : Nat} (Xcheck_line : CalXK P w K mg base k "check_line" scheck_line ["line"] (spX K cChkLine)) (Cis_list : CalD P w K mg base k "is_list" (spD K cIsList)) (E_InvalidLine : ExI P w K mg base k "InvalidLine" ExA.InvalidLine "value" (fun _ => True)) : BodyXK P w K mg base ["lines", "line"] "check_lines" scheck_lines fa (k + 1) Tcheck_lines := fun {B} cdv A outer s H E hr tk =>
  (ds_cons (ds_if (dt_not (dt_val (de_fn (pe_cd Cis_list hr (Nat.le_succ _) (by rfl) (da_cons (de_var (pv 0)) da_nil))))) (ds_cons (ds_raiseE (fun _ _ _ _ _ => True.intro) E_InvalidLine rfl tk hr (by rfl) (de_var (pv 0))) ds_nil) ds_nil) (ds_cons (ds_for (ps_for (passes_of rfl) rfl (di_seq (de_var (pv 0))) (dg_name (pg_name (i := 1) sccheck_lines.nd rfl (.inl rfl))) (ds_cons (ds_expr (ps_expr (de_fnX (fun t ht => pe_cxk Xcheck_line hr (Nat.le_succ _) tk (by rfl) bpcheck_line ht) (da_cons (de_var (pv 1)) da_nil)))) ds_nil))) ds_nil))
def T_check (B : Bse) : TDS := (sCons (sIf (tOrD (tNotD (tVal (dFn cIsList (dCons (dVar 0) dNil)))) (tNotD (tTru (bVar 0)))) (sCons (sRaiseV (fun _ => True) (.ref ExA.InvalidLine) "value" (dVar 0)) sNil) sNil) (sCons (sExpr (dFnX cChkLines (dCons (dVar 0) dNil))) (sCons (sExpr (dFnX cChkSizes (dCons (dFn cFrames (dCons (dVar 0) dNil)) (dCons (dVar 1) dNil)))) (sCons (sExpr (dFnX cChkLimit (dCons (dVar 2) dNil))) (sCons (sIf (tVal (dBin (rCmpS (fun i j => decide (j < i)) fun x y => decide (y.cps.toList < x.cps.toList)) (dCall cMaxL (dCons (dOf (lLc [3] (iSeq (bVar 0)) (gNm 3) tYesD (dFn cSizeOf (dCons (dVar 3) (dCons (dVar 1) dNil))))) dNil)) (bVar 2))) (sCons (sRaiseT (.ref ExA.NoneFits)) sNil) sNil) sNil)))))
theorem b_check {P : Program} {w : World} {K : PySem.W.Frag} {mg : Str → Option Value} {base : Heap} {fa : Addr} {k : Nat} (Csize_of : CalD P w K mg base k "size_of" (spD K cSizeOf)) (Xcheck_limit : CalXK P w K mg base k "check_limit" scheck_limit ["limit"] (spX K cChkLimit)) (Xcheck_sizes : CalXK P w K mg base k "check_sizes" scheck_sizes ["frames", "sizes"] (spX K cChkSizes)) (Cframes_in : CalD P w K mg base k "frames_in" (spD K cFrames)) (Xcheck_lines : CalXK P w K mg base k "check_lines" scheck_lines ["lines"] (spX K cChkLines)) (Cis_list : CalD P w K mg base k "is_list" (spD K cIsList)) (E_NoneFits : ExT P w K mg base k "NoneFits" ExA.NoneFits) (E_InvalidLine : ExI P w K mg base k "InvalidLine" ExA.InvalidLine "value" (fun _ => True)) (m_max : mg "max" = none) : BodyXK P w K mg base ["lines", "sizes", "limit", "line"] "_check" s_check fa (k + 1) T_check := fun {B} cdv A outer s H E hr tk =>
  (ds_cons (ds_if (dt_w (dw_or (dt_not (dt_val (de_fn (pe_cd Cis_list hr (Nat.le_succ _) (by rfl) (da_cons (de_var (pv 0)) da_nil))))) (dw_or1 (dt_not (dt_tru (db_var (pv 0))))))) (ds_cons (ds_raiseE (fun _ _ _ _ _ => True.intro) E_InvalidLine rfl tk hr (by rfl) (de_var (pv 0))) ds_nil) ds_nil) (ds_cons (ds_expr (ps_expr (de_fnX (fun t ht => pe_cxk Xcheck_lines hr (Nat.le_succ _) tk (by rfl) bpcheck_lines ht) (da_cons (de_var (pv 0)) da_nil)))) (ds_cons (ds_expr (ps_expr (de_fnX (fun t ht => pe_cxk Xcheck_sizes hr (Nat.le_succ _) tk (by rfl) bpcheck_sizes ht) (da_cons (de_fn (pe_cd Cframes_in hr (Nat.le_succ _) (by rfl) (da_cons (de_var (pv 0)) da_nil))) (da_cons (de_var (pv 1)) da_nil))))) (ds_cons (ds_expr (ps_expr (de_fnX (fun t ht => pe_cxk Xcheck_limit hr (Nat.le_succ _) tk (by rfl) bpcheck_limit ht) (da_cons (de_var (pv 2)) da_nil)))) (ds_cons (ds_if (dt_cmp od_gt (db_of (de_cb (cd_maxL rfl) (dba_cons (db_of (de_own (dl_lc (pe_lc rfl sc_check.nd (dib_own (db_var (pv 0))) (own := [("line", 3)]) (blkOk_by (N := ["lines", "sizes", "limit", "line"]) (sc := defScope s_check) (by decide +kernel)) (fun _ _ _ _ _ => (dg_name (pg_name (i := 3) sc_check.nd rfl (.inl rfl)))) (fun _ _ _ _ _ => dts_nil) (fun _ _ _ _ _ => (de_fn (pe_cd Csize_of hr (Nat.le_succ _) (by rfl) (da_cons (de_var (pv 3)) (da_cons (de_var (pv 1)) da_nil)))))) (by decide)))) dba_nil) (fun _ _ hc ha => pe_callB hc (by rfl) m_max (by decide +kernel) ha))) (db_var (pv 2)) rfl) (ds_cons (ds_raiseTE E_NoneFits rfl tk hr (by rfl)) ds_nil) ds_nil) ds_nil)))))
def Tslack (B : Bse) : TDS := (sCons (sExpr (dFnX cCheck (dCons (dVar 0) (dCons (dVar 1) (dCons (dVar 2) dNil))))) (sCons (sSetK 3 kNew) (sCons (sFor (iSeq (dVar 0)) (gNm 4) (sCons (sSet 5 (dBin (rInts fun i j => .int (i - j)) (bVar 2) (dFn cSizeOf (dCons (dVar 4) (dCons (dVar 1) dNil))))) (sCons (sFor (iSeq (dVar 4)) (gTp 2 (gsCons (gNm 6) (gsCons (gNm 7) gsNil))) (sCons (sPut 3 (bVar 6) (dCall cMin2 (dCons (dGet2 (bVar 3) (bVar 6) (dBin (rIntsC CDivW fun i j => .int (i / j)) (bVar 5) (bVar 7))) (dCons (dBin (rIntsC CDivW fun i j => .int (i / j)) (bVar 5) (bVar 7)) dNil)))) sNil)) sNil))) (sCons (sRet (dOfK (kDc [6] (iSeq (dOf (lSortKD (dCons (bVar 3) dNil)))) (gNm 6) tYesD (dVar 6) (dGet (bVar 3) (bVar 6))))) sNil))))
theorem bslack {P : Program} {w : World} {K : PySem.W.Frag} {mg : Str → Option Value} {base : Heap} {fa : Addr} {k : Nat} (Csize_of : CalD P w K mg base k "size_of" (spD K cSizeOf)) (X_check : CalXK P w K mg base k "_check" s_check ["lines", "sizes", "limit"] (spX K cCheck)) (m_sorted : mg "sorted" = none) (m_min : mg "min" = none) : BodyXK P w K mg base ["lines", "sizes", "limit", "found", "line", "left", "frame", "count"] "slack" sslack fa (k + 1) Tslack := fun {B} cdv A outer s H E hr tk =>
  (ds_cons (ds_expr (ps_expr (de_fnX (fun t ht => pe_cxk X_check hr (Nat.le_succ _) tk (by rfl) bp_check ht) (da_cons (de_var (pv 0)) (da_cons (de_var (pv 1)) (da_cons (de_var (pv 2)) da_nil)))))) (ds_cons (ds_setK (ps_set (i := 3) scslack.nd rfl (.inr rfl) dk_new)) (ds_cons (ds_for (ps_for (passes_of rfl) rfl (di_seq (de_var (pv 0))) (dg_name (pg_name (i := 4) scslack.nd rfl (.inl rfl))) (ds_cons (ds_set (ps_set (i := 5) scslack.nd rfl (.inl rfl) (de_bin od_sub (db_var (pv 2)) (db_of (de_fn (pe_cd Csize_of hr (Nat.le_succ _) (by rfl) (da_cons (de_var (pv 4)) (da_cons (de_var (pv 1)) da_nil)))))))) (ds_cons (ds_for (ps_for (passes_of rfl) rfl (di_seq (de_var (pv 4))) (dg_tup rfl (dgs_cons (dg_name (pg_name (i := 6) scslack.nd rfl (.inl rfl))) (dgs_cons (dg_name (pg_name (i := 7) scslack.nd rfl (.inl rfl))) dgs_nil))) (ds_cons (ds_put (ps_dput (hu_of hr) (pv 3) (db_var (pv 6)) (de_cb (cd_min2 rfl) (dba_cons (db_of (de_get2 (hu_of hr) (db_var (pv 3)) (db_var (pv 6)) (de_bin od_fdivW (db_var (pv 5)) (db_var (pv 7))) ⟨rfl, rfl, rfl, rfl⟩)) (dba_cons (db_of (de_bin od_fdivW (db_var (pv 5)) (db_var (pv 7)))) dba_nil)) (fun _ _ hc ha => pe_callB hc (by rfl) m_min (by decide +kernel) ha)) rfl)) ds_nil))) ds_nil)))) (ds_cons (ds_ret (de_ownK (dk_dc (pe_dc rfl scslack.nd (dib_own (db_of (de_own (dl_sortKD rfl (dba_cons (db_var (pv 3)) dba_nil) (fun _ _ hc ha => pe_callB hc (by rfl) m_sorted (by decide +kernel) ha))))) (own := [("frame", 6)]) (blkOk_by (N := ["lines", "sizes", "limit", "found", "line", "left", "frame", "count"]) (sc := defScope sslack) (by decide +kernel)) (fun _ _ _ _ _ => (dg_name (pg_name (i := 6) scslack.nd rfl (.inl rfl)))) (fun _ _ _ _ _ => dts_nil) (fun _ _ _ _ _ => (de_var (pv 6))) (fun _ _ _ _ _ => (de_get (hu_of hr) (db_var (pv 3)) (db_var (pv 6)) (fun _ _ => rfl)))) (by decide)))) ds_nil))))
def Tcommon_slack (B : Bse) : TDS := (sCons (sExpr (dFnX cCheck (dCons (dVar 0) (dCons (dVar 1) (dCons (dVar 2) dNil))))) (sCons (sSetL 3 (lLc [4] (iSeq (bVar 0)) (gNm 4) tYesD (dTup (dCons (dBin (rInts fun i j => .int (i - j)) (bVar 2) (dFn cSizeOf (dCons (dVar 4) (dCons (dVar 1) dNil)))) (dCons (dCall cSum (dCons (dOf (lLc [5, 6] (iSeq (bVar 4)) (gTp 2 (gsCons (gNm 5) (gsCons (gNm 6) gsNil))) tYesD (dVar 6))) dNil)) dNil))))) (sCons (sRet (dMinN (dCons (dOf (lLc [7, 6] (iSeq (bVar 3)) (gTp 2 (gsCons (gNm 7) (gsCons (gNm 6) gsNil))) (tVal (dBin (rCmpS (fun i j => decide (j < i)) fun x y => decide (y.cps.toList < x.cps.toList)) (bVar 6) (dC (.int 0)))) (dBin (rIntsC CDivW fun i j => .int (i / j)) (bVar 7) (bVar 6)))) dNil))) sNil)))
theorem bcommon_slack {P : Program} {w : World} {K : PySem.W.Frag} {mg : Str → Option Value} {base : Heap} {fa : Addr} {k : Nat} (Csize_of : CalD P w K mg base k "size_of" (spD K cSizeOf)) (X_check : CalXK P w K mg base k "_check" s_check ["lines", "sizes", "limit"] (spX K cCheck)) (m_min : mg "min" = none) (m_sum : mg "sum" = none) : BodyXK P w K mg base ["lines", "sizes", "limit", "counted", "line", "_", "count", "left"] "common_slack" scommon_slack fa (k + 1) Tcommon_slack := fun {B} cdv A outer s H E hr tk =>
  (ds_cons (ds_expr (ps_expr (de_fnX (fun t ht => pe_cxk X_check hr (Nat.le_succ _) tk (by rfl) bp_check ht) (da_cons (de_var (pv 0)) (da_cons (de_var (pv 1)) (da_cons (de_var (pv 2)) da_nil)))))) (ds_cons (ds_setLc (ps_setLc (i := 3) rfl sccommon_slack.nd rfl rfl (sw_true rfl rfl rfl rfl) (dib_own (db_var (pv 0))) (own := [("line", 4)]) (blkOk_by (N := ["lines", "sizes", "limit", "counted", "line", "_", "count", "left"]) (sc := defScope scommon_slack) (by decide +kernel)) (fun _ _ _ _ _ => (dg_name (pg_name (i := 4) sccommon_slack.nd rfl (.inl rfl)))) (fun _ _ _ _ _ => dts_nil) (fun _ _ _ _ _ => (de_tup (da_cons (de_bin od_sub (db_var (pv 2)) (db_of (de_fn (pe_cd Csize_of hr (Nat.le_succ _) (by rfl) (da_cons (de_var (pv 4)) (da_cons (de_var (pv 1)) da_nil)))))) (da_cons (de_cb (cd_sum rfl) (dba_cons (db_of (de_own (dl_lc (pe_lc rfl sccommon_slack.nd (dib_own (db_var (pv 4))) (own := [("_", 5), ("count", 6)]) (blkOk_by (N := ["lines", "sizes", "limit", "counted", "line", "_", "count", "left"]) (sc := _) (by rfl)) (fun _ _ _ _ _ => (dg_tup rfl (dgs_cons (dg_name (pg_name (i := 5) sccommon_slack.nd rfl (.inl rfl))) (dgs_cons (dg_name (pg_name (i := 6) sccommon_slack.nd rfl (.inl rfl))) dgs_nil)))) (fun _ _ _ _ _ => dts_nil) (fun _ _ _ _ _ => (de_var (pv 6)))) (by decide)))) dba_nil) (fun _ _ hc ha => pe_callB hc (by rfl) m_sum (by decide +kernel) ha)) da_nil))))) (by decide)) (ds_cons (ds_ret (de_minN (dba_cons (db_of (de_own (dl_lc (pe_lc rfl sccommon_slack.nd (dib_own (db_var (pv 3))) (own := [("left", 7), ("count", 6)]) (blkOk_by (N := ["lines", "sizes", "limit", "counted", "line", "_", "count", "left"]) (sc := defScope scommon_slack) (by decide +kernel)) (fun _ _ _ _ _ => (dg_tup rfl (dgs_cons (dg_name (pg_name (i := 7) sccommon_slack.nd rfl (.inl rfl))) (dgs_cons (dg_name (pg_name (i := 6) sccommon_slack.nd rfl (.inl rfl))) dgs_nil)))) (fun _ _ _ _ _ => (dts_one (dt_cmp od_gt (db_var (pv 6)) (db_of de_int) rfl))) (fun _ _ _ _ _ => (de_bin od_fdivW (db_var (pv 7)) (db_var (pv 6))))) (by decide)))) dba_nil) (fun _ ha => pe_callBK (cr_minN rfl (room4 hr)) (by rfl) m_min (by decide +kernel) ha (pk_cons pe_non pk_nil)))) ds_nil)))
def T_law_pick : TDS := (sCons (sRet (dBin rIxD (bVar 1) (dFnP (pVar 0) cDrawW (dCons (dCall cLen (dCons (bVar 1) dNil)) dNil)))) sNil)
theorem b_law_pick {P : Program} {w : World} {K : PySem.W.Frag} {mg : Str → Option Value} {base : Heap} {fa : Addr} {k : Nat} (G_law_draw : CalG P w K mg base k "_law_draw" s_law_draw ["_law_pot_here", "_law_many"] (spP K cDrawW)) (m_len : mg "len" = none) : BodyG P w K mg base ["_law_pot_here", "_law_some"] "_law_pick" s_law_pick fa k T_law_pick := fun cdv A outer s H E hr hgd =>
  (ds_cons (ds_ret (de_ix od_ix (db_var (pv 1)) (db_of (de_fnP (pe_cg G_law_draw hr hgd (Nat.le_refl _) (by rfl) bp_law_draw (dpa_cons (dp_var (pv 0)) (da_cons (de_cb cd_len (dba_cons (db_var (pv 1)) dba_nil) (fun _ _ hc ha => pe_callB hc (by rfl) m_len (by decide +kernel) ha)) da_nil))))) (fun _ _ => rfl))) ds_nil)
def T_law_frames : TDS := (sCons (sSet 2 (dOf (dLst (dCons (dC (.str ("a" : Str))) (dCons (dC (.str ("ab" : Str))) (dCons (dC (.str ("b" : Str))) (dCons (dC (.str ("heap" : Str))) (dCons (dC (.str ("k" : Str))) (dCons (dC (.str ("zz" : Str))) dNil))))))))) (sCons (sSet 3 (dFnP (pVar 0) cDrawW (dCons (dC (.int 3)) dNil))) (sCons (sRet (dSl (bVar 2) (oSome (dVar 3)) (oSome (dBin rAddD (dBin rAddD (bVar 3) (dC (.int 1))) (dFnP (pVar 0) cDrawW (dCons (dVar 1) dNil)))))) sNil)))
theorem b_law_frames {P : Program} {w : World} {K : PySem.W.Frag} {mg : Str → Option Value} {base : Heap} {fa : Addr} {k : Nat} (G_law_draw : CalG P w K mg base k "_law_draw" s_law_draw ["_law_pot_here", "_law_many"] (spP K cDrawW)) : BodyG P w K mg base ["_law_pot_here", "_law_upper", "_law_names", "_law_first"] "_law_frames" s_law_frames fa k T_law_frames := fun cdv A outer s H E hr hgd =>
  (ds_cons (ds_set (ps_set (i := 2) sc_law_frames.nd rfl (.inl rfl) (de_own (dl_lst (da_cons de_str (da_cons de_str (da_cons de_str (da_cons de_str (da_cons de_str (da_cons de_str da_nil)))))))))) (ds_cons (ds_set (ps_set (i := 3) sc_law_frames.nd rfl (.inl rfl) (de_fnP (pe_cg G_law_draw hr hgd (Nat.le_refl _) (by rfl) bp_law_draw (dpa_cons (dp_var (pv 0)) (da_cons de_int da_nil)))))) (ds_cons (ds_ret (de_slice (db_var (pv 2)) (do_some (de_var (pv 3))) (do_some (de_bin od_add (db_of (de_bin od_add (db_var (pv 3)) (db_of de_int))) (db_of (de_fnP (pe_cg G_law_draw hr hgd (Nat.le_refl _) (by rfl) bp_law_draw (dpa_cons (dp_var (pv 0)) (da_cons (de_var (pv 1)) da_nil))))))))) ds_nil)))
def T_law_line : TDS := (sCons (sSetL 3 (lLc [4] (iSeq (bVar 1)) (gNm 4) tYesD (dTup (dCons (dVar 4) (dCons (dFnP (pVar 0) cDrawW (dCons (dBin rAddD (bVar 2) (dC (.int 1))) dNil)) dNil))))) (sCons (sRet (dCall cTuple (dCons (dOf (lLc [5] (iSeq (bVar 3)) (gNm 5) (tVal (dBin (rCmpS (fun i j => decide (j < i)) fun x y => decide (y.cps.toList < x.cps.toList)) (dBin rIxD (bVar 5) (dC (.int 1))) (dC (.int 0)))) (dVar 5))) dNil))) sNil))
theorem b_law_line {P : Program} {w : World} {K : PySem.W.Frag} {mg : Str → Option Value} {base : Heap} {fa : Addr} {k : Nat} (G_law_draw : CalG P w K mg base k "_law_draw" s_law_draw ["_law_pot_here", "_law_many"] (spP K cDrawW)) (m_tuple : mg "tuple" = none) : BodyG P w K mg base ["_law_pot_here", "_law_frames_here", "_law_upper", "_law_counts", "_law_frame", "_law_pair"] "_law_line" s_law_line fa k T_law_line := fun cdv A outer s H E hr hgd =>
  (ds_cons (ds_setLc (ps_setLc (i := 3) rfl sc_law_line.nd rfl rfl (sw_true rfl rfl rfl rfl) (dib_own (db_var (pv 1))) (own := [("_law_frame", 4)]) (blkOk_by (N := ["_law_pot_here", "_law_frames_here", "_law_upper", "_law_counts", "_law_frame", "_law_pair"]) (sc := defScope s_law_line) (by decide +kernel)) (fun _ _ _ _ _ => (dg_name (pg_name (i := 4) sc_law_line.nd rfl (.inl rfl)))) (fun _ _ _ _ _ => dts_nil) (fun _ _ _ _ _ => (de_tup (da_cons (de_var (pv 4)) (da_cons (de_fnP (pe_cg G_law_draw hr hgd (Nat.le_refl _) (by rfl) bp_law_draw (dpa_cons (dp_var (pv 0)) (da_cons (de_bin od_add (db_var (pv 2)) (db_of de_int)) da_nil)))) da_nil))))) (by decide)) (ds_cons (ds_ret (de_callTy cd_tuple (dba_cons (db_of (de_own (dl_lc (pe_lc rfl sc_law_line.nd (dib_own (db_var (pv 3))) (own := [("_law_pair", 5)]) (blkOk_by (N := ["_law_pot_here", "_law_frames_here", "_law_upper", "_law_counts", "_law_frame", "_law_pair"]) (sc := defScope s_law_line) (by decide +kernel)) (fun _ _ _ _ _ => (dg_name (pg_name (i := 5) sc_law_line.nd rfl (.inl rfl)))) (fun _ _ _ _ _ => (dts_one (dt_cmp od_gt (db_of (de_ix od_ix (db_var (pv 5)) (db_of de_int) (fun _ _ => rfl))) (db_of de_int) rfl))) (fun _ _ _ _ _ => (de_var (pv 5)))) (by decide)))) dba_nil) (fun _ _ hc ha => pe_callTy hc (by rfl) m_tuple (by decide +kernel) ha))) ds_nil))
def T_law_lines : TDS := (sCons (sSet 3 (dFnP (pVar 0) cPick (dCons (dOf (dLst (dCons (dC (.int 1)) (dCons (dC (.int 1)) (dCons (dC (.int 1)) (dCons (dC (.int 7)) (dCons (dBin rAddD (dBin (rIntsC CPow fun i j => .int (i ^ j.toNat)) (dC (.int 10)) (dC (.int 9))) (dFnP (pVar 0) cDrawW (dCons (dC (.int 100)) dNil))) (dCons (dBin rAddD (dBin (rIntsC CPow fun i j => .int (i ^ j.toNat)) (dC (.int 10)) (dC (.int 19))) (dFnP (pVar 0) cDrawW (dCons (dBin (rIntsC CPow fun i j => .int (i ^ j.toNat)) (dC (.int 10)) (dC (.int 6))) dNil))) dNil)))))))) dNil))) (sCons (sSetL 4 (dLst dNil)) (sCons (sFor (iRg1 (dCons (bVar 2) dNil)) (gNm 5) (sCons (sSet 6 (dFnP (pVar 0) cLLine (dCons (dVar 1) (dCons (dFnP (pVar 0) cPick (dCons (dOf (dLst (dCons (dC (.int 2)) (dCons (dC (.int 4)) (dCons (dC (.int 9)) dNil))))) dNil)) dNil)))) (sCons (sApp 4 (dCall cTuple (dCons (dOf (lLc [7, 8] (iSeq (bVar 6)) (gTp 2 (gsCons (gNm 7) (gsCons (gNm 8) gsNil))) tYesD (dTup (dCons (dVar 7) (dCons (dBin rAddD (dBin (rIntsC CMulW fun i j => .int (i * j)) (bVar 8) (bVar 3)) (dFnP (pVar 0) cDrawW (dCons (dC (.int 3)) dNil))) dNil))))) dNil))) sNil))) (sCons (sRet (dVar 4)) sNil))))
theorem b_law_lines {P : Program} {w : World} {K : PySem.W.Frag} {mg : Str → Option Value} {base : Heap} {fa : Addr} {k : Nat} (G_law_draw : CalG P w K mg base k "_law_draw" s_law_draw ["_law_pot_here", "_law_many"] (spP K cDrawW)) (G_law_line : CalG P w K mg base k "_law_line" s_law_line ["_law_pot_here", "_law_frames_here", "_law_upper"] (spP K cLLine)) (G_law_pick : CalG P w K mg base k "_law_pick" s_law_pick ["_law_pot_here", "_law_some"] (spP K cPick)) (m_range : mg "range" = none) (m_tuple : mg "tuple" = none) : BodyG P w K mg base ["_law_pot_here", "_law_frames_here", "_law_many", "_law_scale", "_law_found", "_law_turn", "_law_line_here", "_law_frame", "_law_count"] "_law_lines" s_law_lines fa k T_law_lines := fun cdv A outer s H E hr hgd =>
  (ds_cons (ds_set (ps_set (i := 3) sc_law_lines.nd rfl (.inr rfl) (de_fnP (pe_cg G_law_pick hr hgd (Nat.le_refl _) (by rfl) bp_law_pick (dpa_cons (dp_var (pv 0)) (da_cons (de_own (dl_lst (da_cons de_int (da_cons de_int (da_cons de_int (da_cons de_int (da_cons (de_bin od_add (db_of (de_bin od_pow (db_of de_int) (db_of de_int))) (db_of (de_fnP (pe_cg G_law_draw hr hgd (Nat.le_refl _) (by rfl) bp_law_draw (dpa_cons (dp_var (pv 0)) (da_cons de_int da_nil)))))) (da_cons (de_bin od_add (db_of (de_bin od_pow (db_of de_int) (db_of de_int))) (db_of (de_fnP (pe_cg G_law_draw hr hgd (Nat.le_refl _) (by rfl) bp_law_draw (dpa_cons (dp_var (pv 0)) (da_cons (de_bin od_pow (db_of de_int) (db_of de_int)) da_nil)))))) da_nil)))))))) da_nil)))))) (ds_cons (ds_setL (ps_set (i := 4) sc_law_lines.nd rfl (.inl rfl) (dl_lst da_nil))) (ds_cons (ds_for (ps_for PassesOwn.never rfl (di_range1 (pi_range1 (by rfl) m_range (dba_cons (db_var (pv 2)) dba_nil))) (dg_name (pg_name (i := 5) sc_law_lines.nd rfl (.inl rfl))) (ds_cons (ds_set (ps_set (i := 6) sc_law_lines.nd rfl (.inl rfl) (de_fnP (pe_cg G_law_line hr hgd (Nat.le_refl _) (by rfl) bp_law_line (dpa_cons (dp_var (pv 0)) (da_cons (de_var (pv 1)) (da_cons (de_fnP (pe_cg G_law_pick hr hgd (Nat.le_refl _) (by rfl) bp_law_pick (dpa_cons (dp_var (pv 0)) (da_cons (de_own (dl_lst (da_cons de_int (da_cons de_int (da_cons de_int da_nil))))) da_nil)))) da_nil))))))) (ds_cons (ds_app (ps_expr (pe_bm PySem.F.plainAttrs_list PySem.F.slot_list_append PySem.F.type_list_append mt_append (pv 4) (pa_cons (de_callTy cd_tuple (dba_cons (db_of (de_own (dl_lc (pe_lc rfl sc_law_lines.nd (dib_own (db_var (pv 6))) (own := [("_law_frame", 7), ("_law_count", 8)]) (blkOk_by (N := ["_law_pot_here", "_law_frames_here", "_law_many", "_law_scale", "_law_found", "_law_turn", "_law_line_here", "_law_frame", "_law_count"]) (sc := defScope s_law_lines) (by decide +kernel)) (fun _ _ _ _ _ => (dg_tup rfl (dgs_cons (dg_name (pg_name (i := 7) sc_law_lines.nd rfl (.inl rfl))) (dgs_cons (dg_name (pg_name (i := 8) sc_law_lines.nd rfl (.inl rfl))) dgs_nil)))) (fun _ _ _ _ _ => dts_nil) (fun _ _ _ _ _ => (de_tup (da_cons (de_var (pv 7)) (da_cons (de_bin od_add (db_of (de_bin od_mulW (db_var (pv 8)) (db_var (pv 3)))) (db_of (de_fnP (pe_cg G_law_draw hr hgd (Nat.le_refl _) (by rfl) bp_law_draw (dpa_cons (dp_var (pv 0)) (da_cons de_int da_nil)))))) da_nil))))) (by decide)))) dba_nil) (fun _ _ hc ha => pe_callTy hc (by rfl) m_tuple (by decide +kernel) ha)) pa_nil)))) ds_nil)))) (ds_cons (ds_ret (de_var (pv 4))) ds_nil))))
def T_law_deep : TDS := (sCons (sRet (dCall cMaxL (dCons (dOf (lLc [2] (iSeq (bVar 0)) (gNm 2) tYesD (dCall cSum (dCons (dOf (lLc [3, 4] (iSeq (bVar 2)) (gTp 2 (gsCons (gNm 3) (gsCons (gNm 4) gsNil))) tYesD (dBin (rIntsC CMulW fun i j => .int (i * j)) (bVar 4) (dGet (bVar 1) (bVar 3))))) dNil)))) dNil))) sNil)
theorem b_law_deep {P : Program} {w : World} {K : PySem.W.Frag} {mg : Str → Option Value} {base : Heap} {fa : Addr} {k : Nat} (m_max : mg "max" = none) (m_sum : mg "sum" = none) : BodyG P w K mg base ["_law_lines_here", "_law_table", "_law_line_here", "_law_frame", "_law_count"] "_law_deep" s_law_deep fa k T_law_deep := fun cdv A outer s H E hr hgd =>
  (ds_cons (ds_ret (de_cb (cd_maxL rfl) (dba_cons (db_of (de_own (dl_lc (pe_lc rfl sc_law_deep.nd (dib_own (db_var (pv 0))) (own := [("_law_line_here", 2)]) (blkOk_by (N := ["_law_lines_here", "_law_table", "_law_line_here", "_law_frame", "_law_count"]) (sc := defScope s_law_deep) (by decide +kernel)) (fun _ _ _ _ _ => (dg_name (pg_name (i := 2) sc_law_deep.nd rfl (.inl rfl)))) (fun _ _ _ _ _ => dts_nil) (fun _ _ _ _ _ => (de_cb (cd_sum rfl) (dba_cons (db_of (de_own (dl_lc (pe_lc rfl sc_law_deep.nd (dib_own (db_var (pv 2))) (own := [("_law_frame", 3), ("_law_count", 4)]) (blkOk_by (N := ["_law_lines_here", "_law_table", "_law_line_here", "_law_frame", "_law_count"]) (sc := _) (by rfl)) (fun _ _ _ _ _ => (dg_tup rfl (dgs_cons (dg_name (pg_name (i := 3) sc_law_deep.nd rfl (.inl rfl))) (dgs_cons (dg_name (pg_name (i := 4) sc_law_deep.nd rfl (.inl rfl))) dgs_nil)))) (fun _ _ _ _ _ => dts_nil) (fun _ _ _ _ _ => (de_bin od_mulW (db_var (pv 4)) (db_of (de_get (hu_of hr) (db_var (pv 1)) (db_var (pv 3)) (fun _ _ => rfl)))))) (by decide)))) dba_nil) (fun _ _ hc ha => pe_callB hc (by rfl) m_sum (by decide +kernel) ha)))) (by decide)))) dba_nil) (fun _ _ hc ha => pe_callB hc (by rfl) m_max (by decide +kernel) ha))) ds_nil)
def T_law_more : TDS := (sCons (sRet (dOfK (kDict (dCons (dOf (lLc [3] (iKeysD (dVar 0)) (gNm 3) tYesD (dTup (dCons (dVar 3) (dCons (dBin rAddD (dGet (bVar 0) (bVar 3)) (dIf (tVal (dBin (rInDD false) (bVar 3) (bVar 1))) (dVar 2) (dC (.int 0)))) dNil))))) dNil)))) sNil)
theorem b_law_more {P : Program} {w : World} {K : PySem.W.Frag} {mg : Str → Option Value} {base : Heap} {fa : Addr} {k : Nat} (m_dict : mg "dict" = none) : BodyG P w K mg base ["_law_table", "_law_names", "_law_many", "_law_name"] "_law_more" s_law_more fa k T_law_more := fun cdv A outer s H E hr hgd =>
  (ds_cons (ds_ret (de_ownK (dk_dict rfl (dba_cons (db_of (de_own (dl_lc (pe_lc rfl sc_law_more.nd (dibr_of (di_keys (de_var (pv 0)))) (own := [("_law_name", 3)]) (blkOk_by (N := ["_law_table", "_law_names", "_law_many", "_law_name"]) (sc := defScope s_law_more) (by decide +kernel)) (fun _ _ _ _ _ => (dg_name (pg_name (i := 3) sc_law_more.nd rfl (.inl rfl)))) (fun _ _ _ _ _ => dts_nil) (fun _ _ _ _ _ => (de_tup (da_cons (de_var (pv 3)) (da_cons (de_bin od_add (db_of (de_get (hu_of hr) (db_var (pv 0)) (db_var (pv 3)) (fun _ _ => rfl))) (db_of (de_if (dt_cmp (od_in (room65 hr)) (db_var (pv 3)) (db_var (pv 1)) rfl) (de_var (pv 2)) de_int))) da_nil))))) (by decide)))) dba_nil) (fun _ _ hc ha => pe_callTy hc (by rfl) m_dict (by decide +kernel) ha)))) ds_nil)
def T_law_held : TDS := (sCons (sSetL 1 (dLst dNil)) (sCons (sFor (iSeq (dVar 0)) (gNm 2) (sCons (sExt 1 (lLc [3, 4] (iSeq (bVar 2)) (gTp 2 (gsCons (gNm 3) (gsCons (gNm 4) gsNil))) tYesD (dVar 3))) sNil)) (sCons (sRet (dOf (lSortSet (bVar 1)))) sNil)))
theorem b_law_held {P : Program} {w : World} {K : PySem.W.Frag} {mg : Str → Option Value} {base : Heap} {fa : Addr} {k : Nat} (m_sorted : mg "sorted" = none) (m_set : mg "set" = none) : BodyG P w K mg base ["_law_lines_here", "_law_found", "_law_line_here", "_law_frame", "_law_count"] "_law_held" s_law_held fa k T_law_held := fun cdv A outer s H E hr hgd =>
  (ds_cons (ds_setL (ps_set (i := 1) sc_law_held.nd rfl (.inl rfl) (dl_lst da_nil))) (ds_cons (ds_for (ps_for PassesOwn.never rfl (di_seq (de_var (pv 0))) (dg_name (pg_name (i := 2) sc_law_held.nd rfl (.inl rfl))) (ds_cons (ds_ext (ps_expr (pe_bm PySem.F.plainAttrs_list PySem.F.slot_list_extend PySem.F.type_list_extend mt_extend (pv 1) (pa_cons (dl_lc (pe_lc rfl sc_law_held.nd (dib_own (db_var (pv 2))) (own := [("_law_frame", 3), ("_law_count", 4)]) (blkOk_by (N := ["_law_lines_here", "_law_found", "_law_line_here", "_law_frame", "_law_count"]) (sc := defScope s_law_held) (by decide +kernel)) (fun _ _ _ _ _ => (dg_tup rfl (dgs_cons (dg_name (pg_name (i := 3) sc_law_held.nd rfl (.inl rfl))) (dgs_cons (dg_name (pg_name (i := 4) sc_law_held.nd rfl (.inl rfl))) dgs_nil)))) (fun _ _ _ _ _ => dts_nil) (fun _ _ _ _ _ => (de_var (pv 3)))) (by decide)) pa_nil)))) ds_nil))) (ds_cons (ds_ret (de_own (dl_sortSet rfl hr (by rfl) m_sorted (by rfl) m_set (db_var (pv 1))))) ds_nil)))
def T_law_just : TDS := (sCons (sIf (tVal (dBin (rCmpS (fun i j => decide (j < i)) fun x y => decide (y.cps.toList < x.cps.toList)) (dFn cDeep (dCons (dVar 0) (dCons (dFn cMore (dCons (dVar 1) (dCons (dVar 2) (dCons (dVar 3) dNil)))) dNil))) (bVar 4))) (sCons (sRet (dC (.bool false))) sNil) sNil) (sCons (sRet (dBin (rCmpS (fun i j => decide (j < i)) fun x y => decide (y.cps.toList < x.cps.toList)) (dFn cDeep (dCons (dVar 0) (dCons (dFn cMore (dCons (dVar 1) (dCons (dVar 2) (dCons (dBin rAddD (bVar 3) (dC (.int 1))) dNil)))) dNil))) (bVar 4))) sNil))
theorem b_law_just {P : Program} {w : World} {K : PySem.W.Frag} {mg : Str → Option Value} {base : Heap} {fa : Addr} {k : Nat} (G_law_deep : CalG P w K mg base k "_law_deep" s_law_deep ["_law_lines_here", "_law_table"] (spD K cDeep)) (G_law_more : CalG P w K mg base k "_law_more" s_law_more ["_law_table", "_law_names", "_law_many"] (spD K cMore)) : BodyG P w K mg base ["_law_lines_here", "_law_table", "_law_names", "_law_many", "_law_limit"] "_law_just" s_law_just fa k T_law_just := fun cdv A outer s H E hr hgd =>
  (ds_cons (ds_if (dt_cmp od_gt (db_of (de_fn (pe_cg G_law_deep hr hgd (Nat.le_refl _) (by rfl) bp_law_deep (da_cons (de_var (pv 0)) (da_cons (de_fn (pe_cg G_law_more hr hgd (Nat.le_refl _) (by rfl) bp_law_more (da_cons (de_var (pv 1)) (da_cons (de_var (pv 2)) (da_cons (de_var (pv 3)) da_nil))))) da_nil))))) (db_var (pv 4)) rfl) (ds_cons (ds_ret de_bl) ds_nil) ds_nil) (ds_cons (ds_ret (de_cmp od_gt (db_of (de_fn (pe_cg G_law_deep hr hgd (Nat.le_refl _) (by rfl) bp_law_deep (da_cons (de_var (pv 0)) (da_cons (de_fn (pe_cg G_law_more hr hgd (Nat.le_refl _) (by rfl) bp_law_more (da_cons (de_var (pv 1)) (da_cons (de_var (pv 2)) (da_cons (de_bin od_add (db_var (pv 3)) (db_of de_int)) da_nil))))) da_nil))))) (db_var (pv 4)) rfl)) ds_nil))
def T_law_right : TDS := (sCons (sSet 3 (dFn cFrames (dCons (dVar 0) dNil))) (sCons (sAsg (dTup (dCons (dFnX0 cSlack (dCons (dVar 0) (dCons (dVar 1) (dCons (dVar 2) dNil)))) (dCons (dFnX0 cCommon (dCons (dCall cTuple (dCons (bVar 0) dNil)) (dCons (dVar 1) (dCons (dVar 2) dNil)))) dNil))) (gTp 2 (gsCons (gNm 4) (gsCons (gNm 5) gsNil)))) (sCons (sIf (tOrD (tVal (dBin (rEqDD true) (dOf (lSortKD (dCons (bVar 4) dNil))) (bVar 3))) (tVal (dBin (rEqDD true) (dBin (rNonD false) (bVar 5) (dC .none)) (dBin (rEqDD false) (bVar 3) (dOf (dLst dNil)))))) (sCons (sRet (dC (.bool false))) sNil) sNil) (sCons (sIf (tNotD (tVal (dCall cAll (dCons (dOf (lLc [6] (iSeq (bVar 3)) (gNm 6) tYesD (dFn cJust (dCons (dVar 0) (dCons (dVar 1) (dCons (dOf (dLst (dCons (dVar 6) dNil))) (dCons (dGet (bVar 4) (bVar 6)) (dCons (dVar 2) dNil)))))))) dNil)))) (sCons (sRet (dC (.bool false))) sNil) sNil) (sCons (sRet (dOrV (dBin (rNonD false) (bVar 5) (dC .none)) (dFn cJust (dCons (dVar 0) (dCons (dVar 1) (dCons (dOf (lKeys (dCons (bVar 1) dNil))) (dCons (dVar 5) (dCons (dVar 2) dNil)))))))) sNil)))))
theorem b_law_right {P : Program} {w : World} {K : PySem.W.Frag} {mg : Str → Option Value} {base : Heap} {fa : Addr} {k : Nat} (G_law_just : CalG P w K mg base k "_law_just" s_law_just ["_law_lines_here", "_law_table", "_law_names", "_law_many", "_law_limit"] (spD K cJust)) (Xcommon_slack : CalXK P w K mg base k "common_slack" scommon_slack ["lines", "sizes", "limit"] (spX K cCommon)) (Xslack : CalXK P w K mg base k "slack" sslack ["lines", "sizes", "limit"] (spX K cSlack)) (G_law_held : CalG P w K mg base k "_law_held" s_law_held ["_law_lines_here"] (spD K cFrames)) (m_list : mg "list" = none) (m_all : mg "all" = none) (m_sorted : mg "sorted" = none) (m_tuple : mg "tuple" = none) : BodyG P w K mg base ["_law_lines_here", "_law_table", "_law_limit", "_law_held_here", "_law_told_here", "_law_shared", "_law_name"] "_law_right" s_law_right fa k T_law_right := fun cdv A outer s H E hr hgd =>
  (ds_cons (ds_set (ps_set (i := 3) sc_law_right.nd rfl (.inl rfl) (de_fn (pe_cg G_law_held hr hgd (Nat.le_refl _) (by rfl) bp_law_held (da_cons (de_var (pv 0)) da_nil))))) (ds_cons (ds_asg (ps_asg (de_tup (da_cons (de_fnX0 (fun t ht => pe_cxk (W := fun _ _ _ _ => False) Xslack hr (Nat.le_refl _) L2.takes0 (by rfl) bpslack ht) (da_cons (de_var (pv 0)) (da_cons (de_var (pv 1)) (da_cons (de_var (pv 2)) da_nil)))) (da_cons (de_fnX0 (fun t ht => pe_cxk (W := fun _ _ _ _ => False) Xcommon_slack hr (Nat.le_refl _) L2.takes0 (by rfl) bpcommon_slack ht) (da_cons (de_callTy cd_tuple (dba_cons (db_var (pv 0)) dba_nil) (fun _ _ hc ha => pe_callTy hc (by rfl) m_tuple (by decide +kernel) ha)) (da_cons (de_var (pv 1)) (da_cons (de_var (pv 2)) da_nil)))) da_nil))) (dg_tup rfl (dgs_cons (dg_name (pg_name (i := 4) sc_law_right.nd rfl (.inr rfl))) (dgs_cons (dg_name (pg_name (i := 5) sc_law_right.nd rfl (.inl rfl))) dgs_nil))))) (ds_cons (ds_if (dt_w (dw_or (dt_cmp (od_ne (room64 hr)) (db_of (de_own (dl_sortKD rfl (dba_cons (db_var (pv 4)) dba_nil) (fun _ _ hc ha => pe_callB hc (by rfl) m_sorted (by decide +kernel) ha)))) (db_var (pv 3)) rfl) (dw_or1 (dt_cmp (od_ne (room64 hr)) (db_of (de_cmp od_isN (db_var (pv 5)) (db_of de_non) rfl)) (db_of (de_cmp (od_eq (room64 hr)) (db_var (pv 3)) (db_of (de_own (dl_lst da_nil))) rfl)) rfl)))) (ds_cons (ds_ret de_bl) ds_nil) ds_nil) (ds_cons (ds_if (dt_not (dt_val (de_cb (cd_all rfl) (dba_cons (db_of (de_own (dl_lc (pe_lc rfl sc_law_right.nd (dib_own (db_var (pv 3))) (own := [("_law_name", 6)]) (blkOk_by (N := ["_law_lines_here", "_law_table", "_law_limit", "_law_held_here", "_law_told_here", "_law_shared", "_law_name"]) (sc := defScope s_law_right) (by decide +kernel)) (fun _ _ _ _ _ => (dg_name (pg_name (i := 6) sc_law_right.nd rfl (.inl rfl)))) (fun _ _ _ _ _ => dts_nil) (fun _ _ _ _ _ => (de_fn (pe_cg G_law_just hr hgd (Nat.le_refl _) (by rfl) bp_law_just (da_cons (de_var (pv 0)) (da_cons (de_var (pv 1)) (da_cons (de_own (dl_lst (da_cons (de_var (pv 6)) da_nil))) (da_cons (de_get (hu_of hr) (db_var (pv 4)) (db_var (pv 6)) (fun _ _ => rfl)) (da_cons (de_var (pv 2)) da_nil))))))))) (by decide)))) dba_nil) (fun _ _ hc ha => pe_callB hc (by rfl) m_all (by decide +kernel) ha)))) (ds_cons (ds_ret de_bl) ds_nil) ds_nil) (ds_cons (ds_ret (de_or (de_cmp od_isN (db_var (pv 5)) (db_of de_non) rfl) (de_one (de_fn (pe_cg G_law_just hr hgd (Nat.le_refl _) (by rfl) bp_law_just (da_cons (de_var (pv 0)) (da_cons (de_var (pv 1)) (da_cons (de_own (dl_keys rfl (dba_cons (db_var (pv 1)) dba_nil) (fun _ _ hc ha => pe_callTy hc (by rfl) m_list (by decide +kernel) ha))) (da_cons (de_var (pv 5)) (da_cons (de_var (pv 2)) da_nil)))))))))) ds_nil)))))
def T_law_exceeded (K : PySem.W.Frag) : TDS := (sCons (sIf (tVal (dBin (rEqDD true) (dTold K toldCs "told" fun B => (dFnX cSlack (dCons (dVar 0) (dCons (dVar 1) (dCons (dVar 2) dNil))))) (dTup (dCons (dC (.str ("none" : Str))) (dCons (dC (.bool true)) dNil))))) (sCons (sRet (dC (.bool false))) sNil) sNil) (sCons (sRet (dBin (rEqDD false) (dTold K toldCs "told" fun B => (dFnX cCommon (dCons (dVar 0) (dCons (dVar 1) (dCons (dVar 2) dNil))))) (dTup (dCons (dC (.str ("none" : Str))) (dCons (dC (.bool true)) dNil))))) sNil))
theorem b_law_exceeded {P : Program} {w : World} {K : PySem.W.Frag} {mg : Str → Option Value} {base : Heap} {fa : Addr} {k : Nat} {kl : Nat} (hlam : kl + 2 ≤ k) (Xcommon_slack : CalXK P w K mg base kl "common_slack" scommon_slack ["lines", "sizes", "limit"] (spX K cCommon)) (Xslack : CalXK P w K mg base kl "slack" sslack ["lines", "sizes", "limit"] (spX K cSlack)) (TF__law_told : ToldF K mg) {c_ P_ : Addr} (TB : LamX.TabB base mg c_ P_) (hmT : (P_, fun _ _ => ("_law_exceeded.<locals>.<lambda>" : Str)) ∈ Tbs.T) (hu : ∀ p ∈ Tbs.T, p.1 = P_ → p.2 = fun _ _ => ("_law_exceeded.<locals>.<lambda>" : Str)) : BodyGC P w K mg base ["_law_lines_here", "_law_table", "_law_limit"] "_law_exceeded" s_law_exceeded fa c_ k (T_law_exceeded K) := fun A outer s H E hr hgd =>
  have hrl := hr.mono hlam
  (ds_cons (ds_if (dt_cmp (od_ne (room64 hr)) (db_of (lam_told TF__law_told TB rfl hmT (by rfl) hu hrl (lamS_by (sc := defScope s_law_exceeded) (by decide +kernel)) (by rfl) (fun _ _ _ _ _ => rfl) (fun B A outer s H E f c' hr2 tk => (de_fnX (fun t ht => pe_cxk Xslack hr2 (Nat.le_refl _) tk (by rfl) bpslack ht) (da_cons (de_var (pv 0)) (da_cons (de_var (pv 1)) (da_cons (de_var (pv 2)) da_nil))))))) (db_of (de_tup (da_cons de_str (da_cons de_bl da_nil)))) rfl) (ds_cons (ds_ret de_bl) ds_nil) ds_nil) (ds_cons (ds_ret (de_cmp (od_eq (room64 hr)) (db_of (lam_told TF__law_told TB rfl hmT (by rfl) hu hrl (lamS_by (sc := defScope s_law_exceeded) (by decide +kernel)) (by rfl) (fun _ _ _ _ _ => rfl) (fun B A outer s H E f c' hr2 tk => (de_fnX (fun t ht => pe_cxk Xcommon_slack hr2 (Nat.le_refl _) tk (by rfl) bpcommon_slack ht) (da_cons (de_var (pv 0)) (da_cons (de_var (pv 1)) (da_cons (de_var (pv 2)) da_nil))))))) (db_of (de_tup (da_cons de_str (da_cons de_bl da_nil)))) rfl)) ds_nil))
def T_law_spoilt : TDS := (sCons (sPar 4 5 (dCons (dFnP (pVar 0) cDrawW (dCons (dC (.int 5)) dNil)) (dCons (dFn cFrames (dCons (dVar 1) dNil)) dNil))) (sCons (sSet 6 (dFnP (pVar 0) cPick (dCons (dOf (dLst (dCons (dC (.int (-1))) (dCons (dC (.bool true)) (dCons (dC .none) (dCons (dC (.str ("3" : Str))) (dCons (dOf (dLst dNil)) (dCons (dTup (dCons (dC (.int 5)) dNil)) dNil)))))))) dNil))) (sCons (sIf (tVal (dBin (rEqDD false) (bVar 4) (dC (.int 0)))) (sCons (sSet 7 (dFnP (pVar 0) cPick (dCons (dOf (dLst (dCons (dOf (dLst dNil)) (dCons (dTup dNil) (dCons (dC .none) (dCons (dC (.str ("a" : Str))) (dCons (dOfK kNew) (dCons (dC (.int 7)) dNil)))))))) dNil))) (sCons (sRet (dTup (dCons (dVar 7) (dCons (dFnP (pVar 0) cPick (dCons (dOf (dLst (dCons (dVar 2) (dCons (dC .none) dNil)))) dNil)) (dCons (dFnP (pVar 0) cPick (dCons (dOf (dLst (dCons (dVar 3) (dCons (dVar 6) dNil)))) dNil)) (dCons (dTup (dCons (dC (.str ("line" : Str))) (dCons (dVar 7) dNil))) dNil)))))) sNil)) sNil) (sCons (sIf (tVal (dBin (rEqDD false) (bVar 4) (dC (.int 1)))) (sCons (sSet 6 (dFnP (pVar 0) cPick (dCons (dOf (dLst (dCons (dC .none) (dCons (dOf (dLst (dCons (dTup (dCons (dC (.str ("a" : Str))) (dCons (dC (.int 1)) dNil))) dNil))) (dCons (dTup (dCons (dTup (dCons (dC (.str ("a" : Str))) (dCons (dC (.int 0)) dNil))) dNil)) (dCons (dTup (dCons (dTup (dCons (dC (.str ("b" : Str))) (dCons (dC (.int 1)) dNil))) (dCons (dTup (dCons (dC (.str ("a" : Str))) (dCons (dC (.int 1)) dNil))) dNil))) (dCons (dTup (dCons (dTup (dCons (dC (.str ("A" : Str))) (dCons (dC (.int 1)) dNil))) dNil)) (dCons (dC (.int 3)) (dCons (dTup (dCons (dC (.str ("a" : Str))) (dCons (dC (.int 1)) dNil))) dNil))))))))) dNil))) (sCons (sSet 8 (dFnP (pVar 0) cDrawW (dCons (dBin rAddD (dCall cLen (dCons (bVar 1) dNil)) (dC (.int 1))) dNil))) (sCons (sRet (dTup (dCons (dBin rAddD (dBin rAddD (dSl (bVar 1) oNone (oSome (dVar 8))) (dOf (dLst (dCons (dVar 6) dNil)))) (dSl (bVar 1) (oSome (dVar 8)) oNone)) (dCons (dFnP (pVar 0) cPick (dCons (dOf (dLst (dCons (dVar 2) (dCons (dOfK kNew) dNil)))) dNil)) (dCons (dVar 3) (dCons (dTup (dCons (dC (.str ("line" : Str))) (dCons (dVar 6) dNil))) dNil)))))) sNil))) sNil) (sCons (sIf (tVal (dBin (rEqDD false) (bVar 4) (dC (.int 2)))) (sCons (sSet 9 (dFnP (pVar 0) cPick (dCons (dOf (dLst (dCons (dC .none) (dCons (dOf (dLst dNil)) (dCons (dC (.str ("a" : Str))) (dCons (dC (.int 3)) dNil)))))) dNil))) (sCons (sRet (dTup (dCons (dVar 1) (dCons (dVar 9) (dCons (dFnP (pVar 0) cPick (dCons (dOf (dLst (dCons (dVar 3) (dCons (dVar 6) dNil)))) dNil)) (dCons (dTup (dCons (dC (.str ("sizes" : Str))) (dCons (dC .none) dNil))) dNil)))))) sNil)) sNil) (sCons (sIf (tAndD (tVal (dBin (rEqDD false) (bVar 4) (dC (.int 3)))) (tVal (dBin (rEqDD true) (bVar 5) (dOf (dLst dNil))))) (sCons (sSet 10 (dFnP (pVar 0) cPick (dCons (dVar 5) dNil))) (sCons (sSetK 9 (kDict (dCons (bVar 2) dNil))) (sCons (sPut 9 (bVar 10) (dFnP (pVar 0) cPick (dCons (dOf (dLst (dCons (dC (.int 0)) (dCons (dC (.bool true)) (dCons (dC .none) (dCons (dC (.int (-2))) (dCons (dC (.str ("1" : Str))) dNil))))))) dNil))) (sCons (sRet (dTup (dCons (dVar 1) (dCons (dVar 9) (dCons (dFnP (pVar 0) cPick (dCons (dOf (dLst (dCons (dVar 3) (dCons (dVar 6) dNil)))) dNil)) (dCons (dTup (dCons (dC (.str ("sizes" : Str))) (dCons (dVar 10) dNil))) dNil)))))) sNil)))) sNil) (sCons (sRet (dTup (dCons (dVar 1) (dCons (dVar 2) (dCons (dVar 6) (dCons (dTup (dCons (dC (.str ("count" : Str))) (dCons (dVar 6) dNil))) dNil)))))) sNil)))))))
theorem b_law_spoilt {P : Program} {w : World} {K : PySem.W.Frag} {mg : Str → Option Value} {base : Heap} {fa : Addr} {k : Nat} (G_law_pick : CalG P w K mg base k "_law_pick" s_law_pick ["_law_pot_here", "_law_some"] (spP K cPick)) (G_law_draw : CalG P w K mg base k "_law_draw" s_law_draw ["_law_pot_here", "_law_many"] (spP K cDrawW)) (G_law_held : CalG P w K mg base k "_law_held" s_law_held ["_law_lines_here"] (spD K cFrames)) (m_dict : mg "dict" = none) (m_len : mg "len" = none) : BodyG P w K mg base ["_law_pot_here", "_law_lines_here", "_law_table", "_law_limit", "_law_way", "_law_held_here", "_law_bad", "_law_whole", "_law_at", "_law_other", "_law_name"] "_law_spoilt" s_law_spoilt fa k T_law_spoilt := fun cdv A outer s H E hr hgd =>
  (ds_cons (ds_par (ps_par (i := 4) (j := 5) rfl sc_law_spoilt.nd rfl rfl (by decide) rfl rfl (da_cons (de_fnP (pe_cg G_law_draw hr hgd (Nat.le_refl _) (by rfl) bp_law_draw (dpa_cons (dp_var (pv 0)) (da_cons de_int da_nil)))) (da_cons (de_fn (pe_cg G_law_held hr hgd (Nat.le_refl _) (by rfl) bp_law_held (da_cons (de_var (pv 1)) da_nil))) da_nil)) rfl)) (ds_cons (ds_set (ps_set (i := 6) sc_law_spoilt.nd rfl (.inl rfl) (de_fnP (pe_cg G_law_pick hr hgd (Nat.le_refl _) (by rfl) bp_law_pick (dpa_cons (dp_var (pv 0)) (da_cons (de_own (dl_lst (da_cons de_negc (da_cons de_bl (da_cons de_non (da_cons de_str (da_cons (de_own (dl_lst da_nil)) (da_cons (de_tup (da_cons de_int da_nil)) da_nil)))))))) da_nil)))))) (ds_cons (ds_if (dt_cmp (od_eq (room64 hr)) (db_var (pv 4)) (db_of de_int) rfl) (ds_cons (ds_set (ps_set (i := 7) sc_law_spoilt.nd rfl (.inl rfl) (de_fnP (pe_cg G_law_pick hr hgd (Nat.le_refl _) (by rfl) bp_law_pick (dpa_cons (dp_var (pv 0)) (da_cons (de_own (dl_lst (da_cons (de_own (dl_lst da_nil)) (da_cons (de_tup da_nil) (da_cons de_non (da_cons de_str (da_cons (de_ownK dk_new) (da_cons de_int da_nil)))))))) da_nil)))))) (ds_cons (ds_ret (de_tup (da_cons (de_var (pv 7)) (da_cons (de_fnP (pe_cg G_law_pick hr hgd (Nat.le_refl _) (by rfl) bp_law_pick (dpa_cons (dp_var (pv 0)) (da_cons (de_own (dl_lst (da_cons (de_var (pv 2)) (da_cons de_non da_nil)))) da_nil)))) (da_cons (de_fnP (pe_cg G_law_pick hr hgd (Nat.le_refl _) (by rfl) bp_law_pick (dpa_cons (dp_var (pv 0)) (da_cons (de_own (dl_lst (da_cons (de_var (pv 3)) (da_cons (de_var (pv 6)) da_nil)))) da_nil)))) (da_cons (de_tup (da_cons de_str (da_cons (de_var (pv 7)) da_nil))) da_nil)))))) ds_nil)) ds_nil) (ds_cons (ds_if (dt_cmp (od_eq (room64 hr)) (db_var (pv 4)) (db_of de_int) rfl) (ds_cons (ds_set (ps_set (i := 6) sc_law_spoilt.nd rfl (.inl rfl) (de_fnP (pe_cg G_law_pick hr hgd (Nat.le_refl _) (by rfl) bp_law_pick (dpa_cons (dp_var (pv 0)) (da_cons (de_own (dl_lst (da_cons de_non (da_cons (de_own (dl_lst (da_cons (de_tup (da_cons de_str (da_cons de_int da_nil))) da_nil))) (da_cons (de_tup (da_cons (de_tup (da_cons de_str (da_cons de_int da_nil))) da_nil)) (da_cons (de_tup (da_cons (de_tup (da_cons de_str (da_cons de_int da_nil))) (da_cons (de_tup (da_cons de_str (da_cons de_int da_nil))) da_nil))) (da_cons (de_tup (da_cons (de_tup (da_cons de_str (da_cons de_int da_nil))) da_nil)) (da_cons de_int (da_cons (de_tup (da_cons de_str (da_cons de_int da_nil))) da_nil))))))))) da_nil)))))) (ds_cons (ds_set (ps_set (i := 8) sc_law_spoilt.nd rfl (.inl rfl) (de_fnP (pe_cg G_law_draw hr hgd (Nat.le_refl _) (by rfl) bp_law_draw (dpa_cons (dp_var (pv 0)) (da_cons (de_bin od_add (db_of (de_cb cd_len (dba_cons (db_var (pv 1)) dba_nil) (fun _ _ hc ha => pe_callB hc (by rfl) m_len (by decide +kernel) ha))) (db_of de_int)) da_nil)))))) (ds_cons (ds_ret (de_tup (da_cons (de_bin od_add (db_of (de_bin od_add (db_of (de_slice (db_var (pv 1)) do_none (do_some (de_var (pv 8))))) (db_of (de_own (dl_lst (da_cons (de_var (pv 6)) da_nil)))))) (db_of (de_slice (db_var (pv 1)) (do_some (de_var (pv 8))) do_none))) (da_cons (de_fnP (pe_cg G_law_pick hr hgd (Nat.le_refl _) (by rfl) bp_law_pick (dpa_cons (dp_var (pv 0)) (da_cons (de_own (dl_lst (da_cons (de_var (pv 2)) (da_cons (de_ownK dk_new) da_nil)))) da_nil)))) (da_cons (de_var (pv 3)) (da_cons (de_tup (da_cons de_str (da_cons (de_var (pv 6)) da_nil))) da_nil)))))) ds_nil))) ds_nil) (ds_cons (ds_if (dt_cmp (od_eq (room64 hr)) (db_var (pv 4)) (db_of de_int) rfl) (ds_cons (ds_set (ps_set (i := 9) sc_law_spoilt.nd rfl (.inl rfl) (de_fnP (pe_cg G_law_pick hr hgd (Nat.le_refl _) (by rfl) bp_law_pick (dpa_cons (dp_var (pv 0)) (da_cons (de_own (dl_lst (da_cons de_non (da_cons (de_own (dl_lst da_nil)) (da_cons de_str (da_cons de_int da_nil)))))) da_nil)))))) (ds_cons (ds_ret (de_tup (da_cons (de_var (pv 1)) (da_cons (de_var (pv 9)) (da_cons (de_fnP (pe_cg G_law_pick hr hgd (Nat.le_refl _) (by rfl) bp_law_pick (dpa_cons (dp_var (pv 0)) (da_cons (de_own (dl_lst (da_cons (de_var (pv 3)) (da_cons (de_var (pv 6)) da_nil)))) da_nil)))) (da_cons (de_tup (da_cons de_str (da_cons de_non da_nil))) da_nil)))))) ds_nil)) ds_nil) (ds_cons (ds_if (dt_w (dw_and (dt_cmp (od_eq (room64 hr)) (db_var (pv 4)) (db_of de_int) rfl) (dw_and1 (dt_cmp (od_ne (room64 hr)) (db_var (pv 5)) (db_of (de_own (dl_lst da_nil))) rfl)))) (ds_cons (ds_set (ps_set (i := 10) sc_law_spoilt.nd rfl (.inl rfl) (de_fnP (pe_cg G_law_pick hr hgd (Nat.le_refl _) (by rfl) bp_law_pick (dpa_cons (dp_var (pv 0)) (da_cons (de_var (pv 5)) da_nil)))))) (ds_cons (ds_setK (ps_set (i := 9) sc_law_spoilt.nd rfl (.inl rfl) (dk_dict rfl (dba_cons (db_var (pv 2)) dba_nil) (fun _ _ hc ha => pe_callTy hc (by rfl) m_dict (by decide +kernel) ha)))) (ds_cons (ds_put (ps_dput (hu_of hr) (pv 9) (db_var (pv 10)) (de_fnP (pe_cg G_law_pick hr hgd (Nat.le_refl _) (by rfl) bp_law_pick (dpa_cons (dp_var (pv 0)) (da_cons (de_own (dl_lst (da_cons de_int (da_cons de_bl (da_cons de_non (da_cons de_negc (da_cons de_str da_nil))))))) da_nil)))) rfl)) (ds_cons (ds_ret (de_tup (da_cons (de_var (pv 1)) (da_cons (de_var (pv 9)) (da_cons (de_fnP (pe_cg G_law_pick hr hgd (Nat.le_refl _) (by rfl) bp_law_pick (dpa_cons (dp_var (pv 0)) (da_cons (de_own (dl_lst (da_cons (de_var (pv 3)) (da_cons (de_var (pv 6)) da_nil)))) da_nil)))) (da_cons (de_tup (da_cons de_str (da_cons (de_var (pv 10)) da_nil))) da_nil)))))) ds_nil)))) ds_nil) (ds_cons (ds_ret (de_tup (da_cons (de_var (pv 1)) (da_cons (de_var (pv 2)) (da_cons (de_var (pv 6)) (da_cons (de_tup (da_cons de_str (da_cons (de_var (pv 6)) da_nil))) da_nil)))))) ds_nil)))))))
def Tlaw (K : PySem.W.Frag) : TDS := (sCons (sFor (iRg1 (dCons (dCall cMax2 (dCons (dC (.int 1)) (dCons (dCall cMin2 (dCons (dC (.int 6)) (dCons (dCall cLen (dCons (bVar 0) dNil)) dNil))) dNil))) dNil)) (gNm 1) (sCons (sSetP 2 (pNew cPot (dCons (dVar 0) (dCons (dVar 1) dNil)))) (sCons (sSet 3 (dFnP (pVar 2) cLFrames (dCons (dC (.int 4)) dNil))) (sCons (sSet 4 (dFnP (pVar 2) cLLines (dCons (dVar 3) (dCons (dBin rAddD (dC (.int 1)) (dFnP (pVar 2) cDrawW (dCons (dC (.int 6)) dNil))) dNil)))) (sCons (sSet 5 (dFnP (pVar 2) cPick (dCons (dOf (dLst (dCons (dC (.int 3)) (dCons (dBin (rIntsC CPow fun i j => .int (i ^ j.toNat)) (dC (.int 10)) (dC (.int 6))) dNil)))) dNil))) (sCons (sSetK 6 (kDict (dCons (dOf (lLc [14] (iSeq (bVar 3)) (gNm 14) tYesD (dTup (dCons (dVar 14) (dCons (dBin rAddD (dC (.int 1)) (dFnP (pVar 2) cDrawW (dCons (dVar 5) dNil))) dNil))))) dNil))) (sCons (sPut 6 (dC (.str ("other" : Str))) (dC (.int 5))) (sCons (sPar 7 8 (dCons (dOf (dLst (dCons (dOf (dListOf (dCons (bVar 4) dNil))) (dCons (dOfK (kDict (dCons (bVar 6) dNil))) dNil)))) (dCons (dFn cDeep (dCons (dVar 4) (dCons (dVar 6) dNil))) dNil))) (sCons (sSet 9 (dBin rAddD (bVar 8) (dFnP (pVar 2) cPick (dCons (dOf (dLst (dCons (dC (.int 0)) (dCons (dC (.int 0)) (dCons (dC (.int 1)) (dCons (dC (.int 5)) (dCons (dC (.int 100)) (dCons (dVar 8) (dCons (dBin (rIntsC CPow fun i j => .int (i ^ j.toNat)) (dC (.int 10)) (dC (.int 25))) dNil))))))))) dNil)))) (sCons (sIf (tNotD (tVal (dFn cRight (dCons (dVar 4) (dCons (dVar 6) (dCons (dVar 9) dNil)))))) (sCons (sRet (dC (.bool false))) sNil) sNil) (sCons (sSet 10 (dFnP (pVar 2) cPick (dCons (dOf (dLst (dCons (dBin (rInts fun i j => .int (i - j)) (bVar 8) (dC (.int 1))) (dCons (dFnP (pVar 2) cDrawW (dCons (dCall cMax2 (dCons (dC (.int 1)) (dCons (bVar 8) dNil))) dNil)) dNil)))) dNil))) (sCons (sIf (tAndD (tVal (dBin (rCmpS (fun i j => decide (j < i)) fun x y => decide (y.cps.toList < x.cps.toList)) (bVar 8) (dC (.int 0)))) (tNotD (tVal (dFn cExceeded (dCons (dVar 4) (dCons (dVar 6) (dCons (dVar 10) dNil))))))) (sCons (sRet (dC (.bool false))) sNil) sNil) (sCons (sAsg (dFnP (pVar 2) cSpoilt (dCons (dVar 4) (dCons (dVar 6) (dCons (dVar 9) dNil)))) (gTp 4 (gsCons (gNm 11) (gsCons (gNm 12) (gsCons (gNm 5) (gsCons (gNm 13) gsNil)))))) (sCons (sIf (tVal (dBin (rEqDD true) (dReprM (dTold K toldCs "told" fun B => (dFnX cSlack (dCons (dVar 11) (dCons (dVar 12) (dCons (dVar 5) dNil)))))) (dReprM (bVar 13)))) (sCons (sRet (dC (.bool false))) sNil) sNil) (sCons (sIf (tVal (dBin (rEqDD true) (dReprM (dTold K toldCs "told" fun B => (dFnX cCommon (dCons (dVar 11) (dCons (dVar 12) (dCons (dVar 5) dNil)))))) (dReprM (bVar 13)))) (sCons (sRet (dC (.bool false))) sNil) sNil) (sCons (sIf (tVal (dBin (rSame true) (dOf (dLst (dCons (dVar 4) (dCons (dVar 6) dNil)))) (bVar 7))) (sCons (sRet (dC (.bool false))) sNil) sNil) sNil)))))))))))))))) (sCons (sRet (dC (.bool true))) sNil))
theorem blaw {P : Program} {w : World} {K : PySem.W.Frag} {mg : Str → Option Value} {base : Heap} {fa : Addr} {k : Nat} {kl : Nat} (hlam : kl + 2 ≤ k) (Xcommon_slack : CalXK P w K mg base kl "common_slack" scommon_slack ["lines", "sizes", "limit"] (spX K cCommon)) (Xslack : CalXK P w K mg base kl "slack" sslack ["lines", "sizes", "limit"] (spX K cSlack)) (G_law_spoilt : CalG P w K mg base k "_law_spoilt" s_law_spoilt ["_law_pot_here", "_law_lines_here", "_law_table", "_law_limit"] (spP K cSpoilt)) (G_law_exceeded : CalG P w K mg base k "_law_exceeded" s_law_exceeded ["_law_lines_here", "_law_table", "_law_limit"] (spD K cExceeded)) (G_law_pick : CalG P w K mg base k "_law_pick" s_law_pick ["_law_pot_here", "_law_some"] (spP K cPick)) (G_law_draw : CalG P w K mg base k "_law_draw" s_law_draw ["_law_pot_here", "_law_many"] (spP K cDrawW)) (G_law_right : CalG P w K mg base k "_law_right" s_law_right ["_law_lines_here", "_law_table", "_law_limit"] (spD K cRight)) (G_law_deep : CalG P w K mg base k "_law_deep" s_law_deep ["_law_lines_here", "_law_table"] (spD K cDeep)) (G_law_lines : CalG P w K mg base k "_law_lines" s_law_lines ["_law_pot_here", "_law_frames_here", "_law_many"] (spP K cLLines)) (G_law_frames : CalG P w K mg base k "_law_frames" s_law_frames ["_law_pot_here", "_law_upper"] (spP K cLFrames)) (G_law_pot : CalG P w K mg base k "_law_pot" s_law_pot ["_law_script", "_law_index"] (spNewP K cPot)) (TF__law_told : ToldF K mg) {c_ P_ : Addr} (TB : LamX.TabB base mg c_ P_) (hmT : (P_, fun _ _ => ("law.<locals>.<lambda>" : Str)) ∈ Tbs.T) (hu : ∀ p ∈ Tbs.T, p.1 = P_ → p.2 = fun _ _ => ("law.<locals>.<lambda>" : Str)) (m_range : mg "range" = none) (m_max : mg "max" = none) (m_min : mg "min" = none) (m_len : mg "len" = none) (m_repr : mg "repr" = none) (h_S : Tbs.S = true) (h_K : K.lookup sysModules = none) (m_dict : mg "dict" = none) (m_list : mg "list" = none) : BodyGC P w K mg base ["_law_script", "_law_k", "_law_pot_here", "_law_frames_here", "_law_lines_here", "_law_upper", "_law_table", "_law_kept", "_law_deep_here", "_law_limit", "_law_less", "_law_some", "_law_sizing", "_law_due", "_law_frame"] "law" slaw fa c_ k (Tlaw K) := fun A outer s H E hr hgd =>
  have hrl := hr.mono hlam
  (ds_cons (ds_for (ps_for PassesOwn.never rfl (di_range1 (pi_range1 (by rfl) m_range (dba_cons (db_of (de_cb (cd_max2 rfl) (dba_cons (db_of de_int) (dba_cons (db_of (de_cb (cd_min2 rfl) (dba_cons (db_of de_int) (dba_cons (db_of (de_cb cd_len (dba_cons (db_var (pv 0)) dba_nil) (fun _ _ hc ha => pe_callB hc (by rfl) m_len (by decide +kernel) ha))) dba_nil)) (fun _ _ hc ha => pe_callB hc (by rfl) m_min (by decide +kernel) ha))) dba_nil)) (fun _ _ hc ha => pe_callB hc (by rfl) m_max (by decide +kernel) ha))) dba_nil))) (dg_name (pg_name (i := 1) sclaw.nd rfl (.inl rfl))) (ds_cons (ds_setP (ps_set (i := 2) sclaw.nd rfl (.inr rfl) (dp_new (pe_cg G_law_pot hr hgd (Nat.le_refl _) (by rfl) bp_law_pot (da_cons (de_var (pv 0)) (da_cons (de_var (pv 1)) da_nil)))))) (ds_cons (ds_set (ps_set (i := 3) sclaw.nd rfl (.inl rfl) (de_fnP (pe_cg G_law_frames hr hgd (Nat.le_refl _) (by rfl) bp_law_frames (dpa_cons (dp_var (pv 2)) (da_cons de_int da_nil)))))) (ds_cons (ds_set (ps_set (i := 4) sclaw.nd rfl (.inl rfl) (de_fnP (pe_cg G_law_lines hr hgd (Nat.le_refl _) (by rfl) bp_law_lines (dpa_cons (dp_var (pv 2)) (da_cons (de_var (pv 3)) (da_cons (de_bin od_add (db_of de_int) (db_of (de_fnP (pe_cg G_law_draw hr hgd (Nat.le_refl _) (by rfl) bp_law_draw (dpa_cons (dp_var (pv 2)) (da_cons de_int da_nil)))))) da_nil))))))) (ds_cons (ds_set (ps_set (i := 5) sclaw.nd rfl (.inr rfl) (de_fnP (pe_cg G_law_pick hr hgd (Nat.le_refl _) (by rfl) bp_law_pick (dpa_cons (dp_var (pv 2)) (da_cons (de_own (dl_lst (da_cons de_int (da_cons (de_bin od_pow (db_of de_int) (db_of de_int)) da_nil)))) da_nil)))))) (ds_cons (ds_setK (ps_set (i := 6) sclaw.nd rfl (.inl rfl) (dk_dict rfl (dba_cons (db_of (de_own (dl_lc (pe_lc rfl sclaw.nd (dib_own (db_var (pv 3))) (own := [("_law_frame", 14)]) (blkOk_by (N := ["_law_script", "_law_k", "_law_pot_here", "_law_frames_here", "_law_lines_here", "_law_upper", "_law_table", "_law_kept", "_law_deep_here", "_law_limit", "_law_less", "_law_some", "_law_sizing", "_law_due", "_law_frame"]) (sc := defScope slaw) (by decide +kernel)) (fun _ _ _ _ _ => (dg_name (pg_name (i := 14) sclaw.nd rfl (.inl rfl)))) (fun _ _ _ _ _ => dts_nil) (fun _ _ _ _ _ => (de_tup (da_cons (de_var (pv 14)) (da_cons (de_bin od_add (db_of de_int) (db_of (de_fnP (pe_cg G_law_draw hr hgd (Nat.le_refl _) (by rfl) bp_law_draw (dpa_cons (dp_var (pv 2)) (da_cons (de_var (pv 5)) da_nil)))))) da_nil))))) (by decide)))) dba_nil) (fun _ _ hc ha => pe_callTy hc (by rfl) m_dict (by decide +kernel) ha)))) (ds_cons (ds_put (ps_dput (hu_of hr) (pv 6) (db_of de_str) de_int rfl)) (ds_cons (ds_par (ps_par (i := 7) (j := 8) rfl sclaw.nd rfl rfl (by decide) rfl rfl (da_cons (de_own (dl_lst (da_cons (de_own (dl_list (dba_cons (db_var (pv 4)) dba_nil) (fun _ _ hc ha => pe_callTy hc (by rfl) m_list (by decide +kernel) ha))) (da_cons (de_ownK (dk_dict rfl (dba_cons (db_var (pv 6)) dba_nil) (fun _ _ hc ha => pe_callTy hc (by rfl) m_dict (by decide +kernel) ha))) da_nil)))) (da_cons (de_fn (pe_cg G_law_deep hr hgd (Nat.le_refl _) (by rfl) bp_law_deep (da_cons (de_var (pv 4)) (da_cons (de_var (pv 6)) da_nil)))) da_nil)) rfl)) (ds_cons (ds_set (ps_set (i := 9) sclaw.nd rfl (.inl rfl) (de_bin od_add (db_var (pv 8)) (db_of (de_fnP (pe_cg G_law_pick hr hgd (Nat.le_refl _) (by rfl) bp_law_pick (dpa_cons (dp_var (pv 2)) (da_cons (de_own (dl_lst (da_cons de_int (da_cons de_int (da_cons de_int (da_cons de_int (da_cons de_int (da_cons (de_var (pv 8)) (da_cons (de_bin od_pow (db_of de_int) (db_of de_int)) da_nil))))))))) da_nil)))))))) (ds_cons (ds_if (dt_not (dt_val (de_fn (pe_cg G_law_right hr hgd (Nat.le_refl _) (by rfl) bp_law_right (da_cons (de_var (pv 4)) (da_cons (de_var (pv 6)) (da_cons (de_var (pv 9)) da_nil))))))) (ds_cons (ds_ret de_bl) ds_nil) ds_nil) (ds_cons (ds_set (ps_set (i := 10) sclaw.nd rfl (.inl rfl) (de_fnP (pe_cg G_law_pick hr hgd (Nat.le_refl _) (by rfl) bp_law_pick (dpa_cons (dp_var (pv 2)) (da_cons (de_own (dl_lst (da_cons (de_bin od_sub (db_var (pv 8)) (db_of de_int)) (da_cons (de_fnP (pe_cg G_law_draw hr hgd (Nat.le_refl _) (by rfl) bp_law_draw (dpa_cons (dp_var (pv 2)) (da_cons (de_cb (cd_max2 rfl) (dba_cons (db_of de_int) (dba_cons (db_var (pv 8)) dba_nil)) (fun _ _ hc ha => pe_callB hc (by rfl) m_max (by decide +kernel) ha)) da_nil)))) da_nil)))) da_nil)))))) (ds_cons (ds_if (dt_w (dw_and (dt_cmp od_gt (db_var (pv 8)) (db_of de_int) rfl) (dw_and1 (dt_not (dt_val (de_fn (pe_cg G_law_exceeded hr hgd (Nat.le_refl _) (by rfl) bp_law_exceeded (da_cons (de_var (pv 4)) (da_cons (de_var (pv 6)) (da_cons (de_var (pv 10)) da_nil)))))))))) (ds_cons (ds_ret de_bl) ds_nil) ds_nil) (ds_cons (ds_asg (ps_asg (de_fnP (pe_cg G_law_spoilt hr hgd (Nat.le_refl _) (by rfl) bp_law_spoilt (dpa_cons (dp_var (pv 2)) (da_cons (de_var (pv 4)) (da_cons (de_var (pv 6)) (da_cons (de_var (pv 9)) da_nil)))))) (dg_tup rfl (dgs_cons (dg_name (pg_name (i := 11) sclaw.nd rfl (.inr rfl))) (dgs_cons (dg_name (pg_name (i := 12) sclaw.nd rfl (.inr rfl))) (dgs_cons (dg_name (pg_name (i := 5) sclaw.nd rfl (.inr rfl))) (dgs_cons (dg_name (pg_name (i := 13) sclaw.nd rfl (.inl rfl))) dgs_nil))))))) (ds_cons (ds_if (dt_cmp (od_ne (room64 hr)) (db_of (de_reprM h_S h_K hgd hr (db_of (lam_told TF__law_told TB rfl hmT (by rfl) hu hrl (lamS_by (sc := defScope slaw) (by decide +kernel)) (by rfl) (fun _ _ _ _ _ => rfl) (fun B A outer s H E f c' hr2 tk => (de_fnX (fun t ht => pe_cxk Xslack hr2 (Nat.le_refl _) tk (by rfl) bpslack ht) (da_cons (de_var (pv 11)) (da_cons (de_var (pv 12)) (da_cons (de_var (pv 5)) da_nil))))))) (fun _ _ hc ha => pe_callB hc (by rfl) m_repr (by decide +kernel) ha))) (db_of (de_reprM h_S h_K hgd hr (db_var (pv 13)) (fun _ _ hc ha => pe_callB hc (by rfl) m_repr (by decide +kernel) ha))) rfl) (ds_cons (ds_ret de_bl) ds_nil) ds_nil) (ds_cons (ds_if (dt_cmp (od_ne (room64 hr)) (db_of (de_reprM h_S h_K hgd hr (db_of (lam_told TF__law_told TB rfl hmT (by rfl) hu hrl (lamS_by (sc := defScope slaw) (by decide +kernel)) (by rfl) (fun _ _ _ _ _ => rfl) (fun B A outer s H E f c' hr2 tk => (de_fnX (fun t ht => pe_cxk Xcommon_slack hr2 (Nat.le_refl _) tk (by rfl) bpcommon_slack ht) (da_cons (de_var (pv 11)) (da_cons (de_var (pv 12)) (da_cons (de_var (pv 5)) da_nil))))))) (fun _ _ hc ha => pe_callB hc (by rfl) m_repr (by decide +kernel) ha))) (db_of (de_reprM h_S h_K hgd hr (db_var (pv 13)) (fun _ _ hc ha => pe_callB hc (by rfl) m_repr (by decide +kernel) ha))) rfl) (ds_cons (ds_ret de_bl) ds_nil) ds_nil) (ds_cons (ds_if (dt_cmp (od_neS (room64 hr)) (db_of (de_own (dl_lst (da_cons (de_var (pv 4)) (da_cons (de_var (pv 6)) da_nil))))) (db_var (pv 7)) rfl) (ds_cons (ds_ret de_bl) ds_nil) ds_nil) ds_nil))))))))))))))))) (ds_cons (ds_ret de_bl) ds_nil))
end P81

namespace P81
open PySem PySem.Spec PyProof.Rows L2 DL FT NL
variable [Tbs] [Bse]
/-- all names of some lines -/
def allN (ls : List Ln) : List Str := ls.flatMap fun l => l.map (·.1)
theorem allN_mem {ls : List Ln} {z : Str} : z ∈ allN ls ↔ ∃ l ∈ ls, z ∈ l.map (·.1) := List.mem_flatMap
theorem flat_len {α β : Type} {ls : List α} {f : α → List β} {n m : Nat} (h1 : ls.length ≤ n) (h2 : ∀ l ∈ ls, (f l).length ≤ m) : (ls.flatMap f).length ≤ n * m := by
  induction ls generalizing n with
  | nil => simp
  | cons l ls ih =>
    rw [List.flatMap_cons, List.length_append]
    cases n with
    | zero => simp at h1
    | succ n =>
      have a := ih (n := n) (by simpa using h1) fun l hl => h2 l (List.mem_cons_of_mem _ hl)
      have b := h2 l List.mem_cons_self
      rw [Nat.succ_mul]
      omega
section
variable {ds : List D} {R : D → Prop}
theorem flat_names (ls : List Ln) : (ls.flatMap fun l => l).map (fun p : Str × Int => PyData.str p.1) = (allN ls).map .str := by
  unfold allN
  rw [List.map_flatMap, List.map_flatMap]
  simp only [List.map_map]
  rfl
theorem q_frames_in (h : cFrames ds R) : Tframes_in (endsD R) (dstart ds 4) := by
  obtain ⟨d, ls, rfl, hs, hl, hn, r⟩ := h
  refine ⟨ls.map lnD, seq_iter hs, lc2_mapOf (β := Str × Int) ls lnD (fun l => l) prD2 (fun p => .str p.1) (small_lt (Nat.le_trans (flat_len hl fun l hl => (hn l hl).1) (by decide))) (noOwn_of rfl) (fun l hlm K k => ?_) ?_⟩
  · exact ⟨_, rfl, rfl, k _ ⟨noOwn_of rfl, fun p hp W1 w => ⟨_, rfl, rfl, _, _, rfl, _, _, rfl, rfl, rfl, w⟩⟩⟩
  · refine ⟨allN ls, by rw [flat_names], ?_, fun x hx => ?_, sort_set (R := fun l => R (.list l)) (fun x hx => ?_) fun fs pw hm => r fs pw fun z => (hm z).trans allN_mem⟩
    · exact Nat.le_trans (flat_len hl fun l hl => by rw [List.length_map]; exact (hn l hl).1) (by decide)
    · obtain ⟨l, hl, hx⟩ := allN_mem.mp hx
      obtain ⟨p, hp, rfl⟩ := List.mem_map.mp hx
      exact as_lay ((hn l hl).2 p hp)
    · obtain ⟨l, hl, hx⟩ := allN_mem.mp hx
      obtain ⟨p, hp, rfl⟩ := List.mem_map.mp hx
      exact (hn l hl).2 p hp
theorem q_law_held (h : cFrames ds R) : T_law_held (endsD R) (dstart ds 5) := by
  obtain ⟨d, ls, rfl, hs, hl, hn, r⟩ := h
  refine ⟨small_sz (by simp), ls.map lnD, seq_iter hs, fun i ρ => ∃ s, ρ = [.fz d, .own ((allN (ls.take i)).map .str), s, .no, .no], ⟨_, rfl⟩, fun i z ρ hi w => ?_, fun ρ w => ?_⟩
  · obtain ⟨s, rfl⟩ := w
    obtain ⟨l, hl', rfl⟩ := map_at hi
    refine ⟨⟨_, rfl⟩, l.map prD2, rfl, ?_⟩
    refine lc_mapOf (vs := [3, 4]) (ρ := [.fz d, .own ((allN (ls.take i)).map .str), .fz (lnD l), .no, .no]) (R := fun es ρ' => ∃ ds, ρ'[1]? = some (.own ds) ∧ ds.length + es.length ≤ sizeLine ∧ ∃ s, ρ'.set 1 (.own (ds ++ es)) = [.fz d, .own ((allN (ls.take (i + 1))).map .str), s, .no, .no]) l prD2 (fun p => .str p.1) (small_lt (Nat.le_trans (hn l (List.mem_of_getElem? hl')).1 (by decide))) (noOwn_of rfl) (fun p hp W1 w => ?_) ?_
    · exact ⟨_, rfl, rfl, _, _, rfl, _, _, rfl, rfl, rfl, w⟩
    refine ⟨_, rfl, ?_, .fz (lnD l), ?_⟩
    · rw [List.length_map, List.length_map]
      have a : (allN (ls.take i)).length ≤ 50 * 50 := flat_len (by rw [List.length_take]; omega) fun l hl => by rw [List.length_map]; exact (hn l (List.mem_of_mem_take hl)).1
      have b := (hn l (List.mem_of_getElem? hl')).1
      exact small_sz (by omega)
    · show _ = _
      have e : (allN (ls.take (i + 1))).map PyData.str = (allN (ls.take i)).map .str ++ l.map fun p => .str p.1 := by
        unfold allN
        rw [FT.take_snoc hl', List.flatMap_append, List.flatMap_singleton, List.map_append, List.map_map]
        rfl
      rw [e]
      rfl
  · obtain ⟨s, rfl⟩ := w
    have e : ls.take (ls.map lnD).length = ls := by rw [List.length_map, List.take_length]
    refine ⟨allN ls, ?_, ?_, fun x hx => ?_, sort_set (R := fun l => R (.list l)) (fun x hx => ?_) fun fs pw hm => r fs pw fun z => (hm z).trans allN_mem⟩
    · show PyData.list _ = _
      rw [e]
    · exact Nat.le_trans (flat_len hl fun l hl => by rw [List.length_map]; exact (hn l hl).1) (by decide)
    · obtain ⟨l, hl, hx⟩ := allN_mem.mp hx
      obtain ⟨p, hp, rfl⟩ := List.mem_map.mp hx
      exact as_lay ((hn l hl).2 p hp)
    · obtain ⟨l, hl, hx⟩ := allN_mem.mp hx
      obtain ⟨p, hp, rfl⟩ := List.mem_map.mp hx
      exact (hn l hl).2 p hp
end
end P81

namespace P81
open PySem PySem.Spec PyProof.Rows L2 DL FT NL
variable [Tbs] [Bse]
theorem name_as {x : Str} (h : nameB x = true) : AsT x := by
  unfold nameB at h
  rw [Bool.and_eq_true, Bool.and_eq_true, Bool.and_eq_true, Bool.and_eq_true] at h
  obtain ⟨h1, _, _, _, h2⟩ := h
  refine ⟨by have := of_decide_eq_true h1; omega, fun c hc => ?_⟩
  have h3 : x.cps.all (fun c => decide (c < 128)) = true := h2
  rw [← Array.all_toList] at h3
  exact of_decide_eq_true (List.all_eq_true.mp h3 c hc)
theorem gl_as {l : Ln} (g : GL l) : ∀ p ∈ l, AsT p.1 := fun p hp => name_as (g.nm p hp)
theorem gl_line {l : Ln} (g : GL l) : lineB (lnD l) = true := by
  show ((l.map prD2).all countB && adjB ((l.map prD2).map nmS)) = true
  rw [Bool.and_eq_true, List.map_map]
  refine ⟨List.all_eq_true.mpr fun d hd => ?_, ?_⟩
  · obtain ⟨p, hp, rfl⟩ := List.mem_map.mp hd
    show (decide (2 = 2) && (nameB p.1 && decide (1 ≤ p.2))) = true
    rw [g.nm p hp, decide_eq_true (g.ct p hp).1]
    rfl
  · exact (adj_iff _).mpr g.pw
theorem gl_lv {l : Ln} (g : GL l) : Lv 100 2 (lnD l) := .ofTup (by rw [List.length_map]; have := g.len; omega) fun d hd => by
  obtain ⟨p, hp, rfl⟩ := List.mem_map.mp hd
  refine .ofTup (Nat.le_of_ble_eq_true rfl) fun e he => ?_
  rcases List.mem_cons.mp he with rfl | he
  · exact .inr (.inr (.inr (.inl ⟨_, rfl, gl_as g p hp⟩)))
  · rw [List.mem_singleton.mp he]
    have b := (g.ct p hp)
    exact .inr (.inr (.inl ⟨_, rfl, by omega⟩))
section
variable [ExA] {ds : List D} {R : D → Prop} {S : Value → List (Str × D) → Prop} {W : L2.WX}
theorem bad_good {d : D} {ls : List Ln} (hs : seqD d = some (ls.map lnD)) (g : ∀ l ∈ ls, GL l) : badOf d = none := by
  unfold badOf
  rw [hs]
  refine List.find?_eq_none.mpr fun x hx => ?_
  obtain ⟨l, hl, rfl⟩ := List.mem_map.mp hx
  rw [gl_line (g l hl)]
  exact Bool.false_ne_true
theorem q_check (h : cCheck ds R S) : T_check ⟨W, fun cls kvs _ => S cls kvs⟩ (endsD R) (dstart ds 4) := by
  obtain ⟨a, b, c, rfl, h⟩ := h
  refine ⟨a, rfl, seqB a, rfl, ?_⟩
  rcases h with ⟨v, hv, lv, s⟩ | ⟨ls, hne, hl, hs, hg, h⟩
  · cases hs : seqD a with
    | none =>
      have e : seqB a = false := by cases a <;> first | rfl | cases hs
      have ev : v = a := by
        rcases hv with hv | ⟨hv, _⟩
        · unfold badOf at hv
          rw [hs] at hv
          exact (Option.some.inj hv).symm
        · rw [hs] at hv; cases hv
      subst ev
      rw [e]
      exact iteT (iteT ⟨True.intro, s⟩)
    | some l =>
      have e : seqB a = true := by cases a <;> first | rfl | cases hs
      have et : truD a = some !l.isEmpty := by
        rcases seqD_cases hs with rfl | rfl <;> rfl
      rw [e]
      refine iteF ⟨_, et, ?_⟩
      cases l with
      | nil =>
        have ev : v = a := by
          rcases hv with hv | ⟨_, e⟩
          · unfold badOf at hv
            rw [hs] at hv
            cases hv
          · exact e
        subst ev
        exact iteT ⟨True.intro, s⟩
      | cons x l =>
        refine iteF ⟨a, rfl, lv, fun hb => ?_, fun b' hb => ?_⟩
        · rcases hv with hv | ⟨hv, _⟩
          · rw [hb] at hv; cases hv
          · rw [hs] at hv; cases hv
        · rcases hv with hv | ⟨hv, _⟩
          · rw [hb] at hv
            cases hv
            exact s
          · rw [hs] at hv; cases hv
  · have e : seqB a = true := by cases a <;> first | rfl | cases hs
    have et : truD a = some !(ls.map lnD).isEmpty := by
      rcases seqD_cases hs with rfl | rfl <;> rfl
    have en : (ls.map lnD).isEmpty = false := by
      cases ls with
      | nil => exact absurd rfl hne
      | cons _ _ => rfl
    rw [e]
    refine iteF ⟨_, et, ?_⟩
    rw [en]
    refine iteF ⟨a, rfl, fun l hl' x hx => ?_, fun _ => ?_, fun b' hb => ?_⟩
    · rw [hs] at hl'
      cases hl'
      obtain ⟨l, hl, rfl⟩ := List.mem_map.mp hx
      exact gl_lv (hg l hl)
    · refine ⟨a, ls, rfl, hs, hl, fun l hl => ⟨(hg l hl).len, gl_as (hg l hl)⟩, fun fs pw hm => ?_⟩
      have sh : ∀ x ∈ fs, x.length ≤ 100 := fun x hx => by
        obtain ⟨l, hl, hx⟩ := (hm x).mp hx
        obtain ⟨p, hp, rfl⟩ := List.mem_map.mp hx
        exact (gl_as (hg l hl) p hp).1
      refine ⟨fs, b, rfl, sh, ?_⟩
      rcases h with ⟨hd, s⟩ | ⟨m, rfl, x, hx, hb, s⟩ | ⟨t, rfl, gt, ht, h⟩
      · exact .inl ⟨hd, s⟩
      · refine .inr ⟨m, rfl, fun z => ?_, fun y hy => ?_⟩
        · rw [hb fs pw hm] at z; cases z
        · rw [hb fs pw hm] at hy
          cases hy
          exact s
      · have ok : szBad fs (t.map keyM) = none := List.find?_eq_none.mpr fun x hx => by
          obtain ⟨l, hl, hx⟩ := (hm x).mp hx
          obtain ⟨p, hp, rfl⟩ := List.mem_map.mp hx
          obtain ⟨h1, h2⟩ := ht l hl p hp
          rw [(getT_in h1).1]
          show ¬ (!decide (1 ≤ getT t p.1)) = true
          rw [decide_eq_true h2]
          decide
        refine .inr ⟨t.map keyM, rfl, fun _ => ?_, fun y hy => ?_⟩
        · refine ⟨c, rfl, fun hc => ?_, fun hc => ?_⟩
          · rcases h with ⟨hc', _⟩ | ⟨n, rfl, n0, n1, h⟩
            · rw [hc] at hc'; cases hc'
            refine ⟨ls.map lnD, seq_iter hs, ?_⟩
            refine lc_mapOf (vs := [3]) (ρ := [.fz a, .fz (tabD t), .fz (.int n), .no]) ls lnD (fun l => .int (szL t l)) (small_lt (by omega)) (noOwn_of rfl) (fun l hlm W1 w => ?_) ?_
            · exact ⟨l, t, rfl, by have := (hg l hlm).len; omega, gt, fun p hp => ⟨(ht l hlm p hp).1, by have := (hg l hlm).ct p hp; exact ⟨by omega, this.2⟩⟩, rfl, w⟩
            · refine ⟨ls.map fun l => szL t l, by rw [List.map_map]; rfl, fun z => hne (List.map_eq_nil_iff.mp z), fun m hm1 hm2 => ?_⟩
              refine ⟨_, rfl, ite2 (fun hq => ?_) (fun hq => ?_)⟩
              · have hq : n < m := of_decide_eq_true hq
                obtain ⟨l, hlm, rfl⟩ := List.mem_map.mp hm1
                exact h.2 ⟨l, hlm, hq⟩
              · have hq : ¬ n < m := fun z => hq (decide_eq_true z)
                refine h.1 fun l hlm => ?_
                have := hm2 (szL t l) (List.mem_map.mpr ⟨l, hlm, rfl⟩)
                omega
          · rcases h with ⟨_, s⟩ | ⟨n, rfl, n0, _⟩
            · exact s
            · have z : decide (0 ≤ n) = false := hc
              rw [decide_eq_true n0] at z
              cases z
        · rw [ok] at hy; cases hy
    · rw [bad_good hs hg] at hb; cases hb
end
end P81

set_option exponentiation.threshold 400
namespace P81
open PySem PySem.Spec PyProof.Rows L2 DL FT NL
variable [Tbs] [Bse]
section
variable [ExA] {S : Value → List (Str × D) → Prop} {a b c : D}
/-- all that is known where lines, sizes and limit are right -/
structure Good (a b c : D) (ls : List Ln) (t : Ln) (n : Int) : Prop where
  ne : ls ≠ []
  len : ls.length ≤ 50
  sq : seqD a = some (ls.map lnD)
  gl : ∀ l ∈ ls, GL l
  eb : b = tabD t
  gt : GT t
  cv : ∀ l ∈ ls, ∀ p ∈ l, p.1 ∈ t.map (·.1) ∧ 1 ≤ getT t p.1
  ec : c = .int n
  n0 : 0 ≤ n
  n1 : n < 10 ^ 90
theorem Args.mono {good good' : List Ln → Ln → Int → Prop} (h : Args good S a b c) (f : ∀ ls t n, Good a b c ls t n → good ls t n → good' ls t n) : Args good' S a b c := by
  rcases h with h | ⟨ls, h1, h2, h3, h4, h5⟩
  · exact .inl h
  · refine .inr ⟨ls, h1, h2, h3, h4, ?_⟩
    rcases h5 with h5 | h5 | ⟨t, h5, h6, h7, h8⟩
    · exact .inl h5
    · exact .inr (.inl h5)
    · refine .inr (.inr ⟨t, h5, h6, h7, ?_⟩)
      rcases h8 with h8 | ⟨n, h8, h9, h10, h11⟩
      · exact .inl h8
      · exact .inr ⟨n, h8, h9, h10, f ls t n ⟨h1, h2, h3, h4, h5, h6, h7, h8, h9, h10⟩ h11⟩
end
/-! ### the least of what is put -/
structure Mins (vals f : Ln) : Prop where
  nd : (f.map (·.1)).Nodup
  nm : ∀ x, x ∈ f.map (·.1) ↔ x ∈ vals.map (·.1)
  mn : ∀ p ∈ f, (∀ q ∈ vals, q.1 = p.1 → p.2 ≤ q.2) ∧ p ∈ vals
theorem mins_nil : Mins [] [] := ⟨.nil, fun x => Iff.rfl, fun p hp => nomatch hp⟩
def putMin (f : Ln) (x : Str) (v : Int) : Ln := putT f x (if v < (lkT f x).getD v then v else (lkT f x).getD v)
theorem mins_step {vals f : Ln} (h : Mins vals f) (x : Str) (v : Int) : Mins (vals ++ [(x, v)]) (putMin f x v) := by
  have mem : ∀ q, q ∈ vals ++ [(x, v)] ↔ q ∈ vals ∨ q = (x, v) := fun q => by rw [List.mem_append, List.mem_singleton]
  refine ⟨putT_nd h.nd, fun y => ?_, fun p hp => ?_⟩
  · unfold putMin
    rw [putT_names, List.map_append, List.mem_append]
    have e : y ∈ [(x, v)].map (·.1) ↔ y = x := List.mem_singleton
    rw [e]
    by_cases hx : x ∈ f.map (·.1)
    · rw [if_pos hx, h.nm]
      exact ⟨.inl, fun z => z.elim id fun z => by rw [z]; exact (h.nm x).mp hx⟩
    · rw [if_neg hx, List.mem_append, h.nm, List.mem_singleton]
  · unfold putMin at hp
    rcases putT_mem.mp hp with rfl | ⟨hp, n⟩
    · cases hl : lkT f x with
      | none =>
        have no : ∀ q ∈ vals, q.1 ≠ x := fun q hq e => lkT_none hl ((h.nm x).mpr (List.mem_map.mpr ⟨q, hq, e⟩))
        have e : (if v < (none : Option Int).getD v then v else (none : Option Int).getD v) = v := by
          show (if v < v then v else v) = v
          split <;> rfl
        rw [e]
        refine ⟨fun q hq e => ?_, (mem _).mpr (.inr rfl)⟩
        rcases (mem q).mp hq with hq | rfl
        · exact absurd e (no q hq)
        · exact Int.le_refl _
      | some u =>
        have hu := lkT_mem hl
        obtain ⟨m1, m2⟩ := h.mn _ hu
        show (∀ q ∈ vals ++ [(x, v)], q.1 = x → (if v < u then v else u) ≤ q.2) ∧ (x, if v < u then v else u) ∈ vals ++ [(x, v)]
        by_cases hv : v < u
        · rw [if_pos hv]
          refine ⟨fun q hq e => ?_, (mem _).mpr (.inr rfl)⟩
          rcases (mem q).mp hq with hq | rfl
          · have := m1 q hq e
            exact Int.le_of_lt (Int.lt_of_lt_of_le hv this)
          · exact Int.le_refl _
        · rw [if_neg hv]
          refine ⟨fun q hq e => ?_, (mem _).mpr (.inl m2)⟩
          rcases (mem q).mp hq with hq | rfl
          · exact m1 q hq e
          · exact Int.not_lt.mp hv
    · obtain ⟨m1, m2⟩ := h.mn p hp
      refine ⟨fun q hq e => ?_, (mem _).mpr (.inl m2)⟩
      rcases (mem q).mp hq with hq | rfl
      · exact m1 q hq e
      · exact absurd e.symm n
theorem nd_len {xs ys : List Str} (nd : xs.Nodup) (h : ∀ x ∈ xs, x ∈ ys) : xs.length ≤ ys.length := List.Nodup.length_le_of_subset nd fun x hx => h x hx
theorem div_ok {i j : Int} (h0 : 0 < j) (h1 : j < 10 ^ 90) : CDivW i j := wide_div (b := 300) h0 (by
  have h2 : (10 : Int) ^ 90 < 2 ^ 300 := by decide
  have h3 : (2 : Int) ^ 300 = ((2 ^ 300 : Nat) : Int) := by decide
  omega) (by decide) (by decide)
section
variable [ExA] {ds : List D} {R : D → Prop} {S : Value → List (Str × D) → Prop} {W : L2.WX}
/-- what is put, line by line -/
def valsL (t : Ln) (n : Int) (l : Ln) : Ln := l.map fun p => (p.1, (n - szL t l) / p.2)
theorem q_slack (h : cSlack ds R S) : Tslack ⟨W, fun cls kvs _ => S cls kvs⟩ (endsD R) (dstart ds 8) := by
  obtain ⟨a, b, c, rfl, h⟩ := h
  refine ⟨a, b, c, rfl, h.mono fun ls t n g hk => ⟨fun hall => ?_, hk.2⟩⟩
  have r := hk.1 hall
  obtain ⟨hne, hlen, hs, hg, rfl, gt, cv, rfl, n0, n1⟩ := g
  have cvM : ∀ l ∈ ls, ∀ x ∈ l.map (·.1), x ∈ t.map (·.1) := fun l hl x hx => by
    obtain ⟨p, hp, rfl⟩ := List.mem_map.mp hx
    exact (cv l hl p hp).1
  have namesT : ∀ {i j : Nat} {l : Ln} {f : Ln}, ls[i]? = some l → Mins ((ls.take i).flatMap (valsL t n) ++ (valsL t n l).take j) f → f.length ≤ 50 := fun {i j l f} hi m => by
    have h1 : ∀ x ∈ f.map (·.1), x ∈ t.map (·.1) := fun x hx => by
      obtain ⟨q, hq, rfl⟩ := List.mem_map.mp ((m.nm x).mp hx)
      rcases List.mem_append.mp hq with hq | hq
      · obtain ⟨l', hl', hq⟩ := List.mem_flatMap.mp hq
        obtain ⟨p, hp, rfl⟩ := List.mem_map.mp hq
        exact cvM l' (List.mem_of_mem_take hl') _ (List.mem_map.mpr ⟨p, hp, rfl⟩)
      · obtain ⟨p, hp, rfl⟩ := List.mem_map.mp (List.mem_of_mem_take hq)
        exact cvM l (List.mem_of_getElem? hi) _ (List.mem_map.mpr ⟨p, hp, rfl⟩)
    have := nd_len m.nd h1
    rw [List.length_map, List.length_map] at this
    exact Nat.le_trans this gt.len
  refine ⟨ls.map lnD, seq_iter hs, fun i ρ => ∃ s4 s5 s6 s7 f, ρ = [.fz a, .fz (tabD t), .fz (.int n), .dct (kvD (f.map keyM)), s4, s5, s6, s7] ∧ NoO s6 ∧ Mins ((ls.take i).flatMap (valsL t n)) f, ⟨_, _, _, _, [], rfl, noO_no, mins_nil⟩, fun i z ρ hi w => ?_, fun ρ w => ?_⟩
  · obtain ⟨s4, s5, s6, s7, f, rfl, hno, m⟩ := w
    obtain ⟨l, hl', rfl⟩ := map_at hi
    have hl := List.mem_of_getElem? hl'
    refine ⟨l, t, rfl, by have := (hg l hl).len; omega, gt, fun p hp => ⟨(cv l hl p hp).1, by have := (hg l hl).ct p hp; omega, ((hg l hl).ct p hp).2⟩, n, szL t l, rfl, rfl, ?_⟩
    refine ⟨l.map prD2, rfl, fun j ρ => ∃ s6 s7 f, ρ = [.fz a, .fz (tabD t), .fz (.int n), .dct (kvD (f.map keyM)), .fz (lnD l), .fz (.int (n - szL t l)), s6, s7] ∧ NoO s6 ∧ Mins ((ls.take i).flatMap (valsL t n) ++ (valsL t n l).take j) f, ⟨s6, s7, f, rfl, hno, by rw [List.take_zero, List.append_nil]; exact m⟩, fun j z ρ hj w => ?_, fun ρ w => ?_⟩
    · obtain ⟨s6, s7, f, rfl, hno, m⟩ := w
      obtain ⟨p, hp, rfl⟩ := map_at hj
      have hc := (hg l hl).ct p (List.mem_of_getElem? hp)
      have dv : CDivW (n - szL t l) p.2 := div_ok (by omega) (Int.lt_trans hc.2 (by decide))
      refine ⟨_, rfl, rfl, _, _, rfl, _, _, rfl, rfl, ?_⟩
      refine ⟨⟨_, rfl⟩, n - szL t l, p.2, rfl, rfl, dv, f.map keyM, .inr p.1, rfl, rfl, n - szL t l, p.2, rfl, rfl, dv, (lkT f p.1).getD ((n - szL t l) / p.2), (n - szL t l) / p.2, ?_, ⟨_, rfl⟩, f.map keyM, .inr p.1, rfl, rfl, small_lt (by rw [List.length_map]; have := namesT hl' m; omega), ?_⟩
      · rw [getM_lk]
        cases lkT f p.1 <;> rfl
      · rw [putM_put]
        refine ⟨_, _, putMin f p.1 ((n - szL t l) / p.2), rfl, noO_fz, ?_⟩
        have e : (valsL t n l).take (j + 1) = (valsL t n l).take j ++ [(p.1, (n - szL t l) / p.2)] := FT.take_snoc (by
          unfold valsL
          rw [List.getElem?_map, hp]
          rfl)
        rw [e, ← List.append_assoc]
        exact mins_step m _ _
    · obtain ⟨s6, s7, f, rfl, hno, m⟩ := w
      refine ⟨_, _, _, _, f, rfl, hno, ?_⟩
      have e : (l.map prD2).length = (valsL t n l).length := by unfold valsL; rw [List.length_map, List.length_map]
      rw [e, List.take_length] at m
      rw [FT.take_snoc hl', List.flatMap_append, List.flatMap_singleton]
      exact m
  · obtain ⟨s4, s5, s6, s7, f, rfl, hno, m⟩ := w
    rw [List.length_map, List.take_length] at m
    have nmf : ∀ x, x ∈ f.map (·.1) ↔ ∃ l ∈ ls, x ∈ l.map (·.1) := fun x => by
      rw [m.nm x]
      constructor
      · intro hx
        obtain ⟨q, hq, rfl⟩ := List.mem_map.mp hx
        obtain ⟨l, hl, hq⟩ := List.mem_flatMap.mp hq
        obtain ⟨p, hp, rfl⟩ := List.mem_map.mp hq
        exact ⟨l, hl, List.mem_map.mpr ⟨p, hp, rfl⟩⟩
      · rintro ⟨l, hl, hx⟩
        obtain ⟨p, hp, rfl⟩ := List.mem_map.mp hx
        exact List.mem_map.mpr ⟨(p.1, (n - szL t l) / p.2), List.mem_flatMap.mpr ⟨l, hl, List.mem_map.mpr ⟨p, hp, rfl⟩⟩, rfl⟩
    have flen : f.length ≤ 50 := by
      have := nd_len m.nd (ys := t.map (·.1)) fun x hx => by
        obtain ⟨l, hl, hx⟩ := (nmf x).mp hx
        exact cvM l hl x hx
      rw [List.length_map, List.length_map] at this
      exact Nat.le_trans this gt.len
    refine ⟨f.map keyM, f.map (·.1), rfl, by rw [List.map_map, List.map_map]; rfl, by rw [List.length_map]; omega, fun ys hp hsrt => ?_⟩
    have ynd : ys.Nodup := hp.nodup_iff.mpr m.nd
    have ymem : ∀ z, z ∈ ys ↔ z ∈ f.map (·.1) := fun z => hp.mem_iff
    have ylen : ys.length ≤ 50 := by rw [hp.length_eq, List.length_map]; exact flen
    refine ⟨ys.map .str, rfl, kdc_mapP (R := fun es => R (.dict es)) (k := fun x => .inr x) (f := fun x => .int (getT f x)) ys .str (small_lt (by omega)) (noOwn1 hno rfl) ?_ (fun x hx W1 w => ?_) ?_⟩
    · exact List.pairwise_map.mpr (ynd.imp fun h e => h (by injection e))
    · have hx' := (ymem x).mp hx
      exact ⟨f.map keyM, .inr x, _, rfl, rfl, (getT_in hx').1, rfl, .inr x, rfl, w⟩
    · refine r ys (getT f) (sortedS_pw hsrt ynd) (fun z => (ymem z).trans (nmf z)) fun x hx => ?_
      obtain ⟨p, hp', hx1, hx2⟩ := (getT_in ((ymem x).mp hx)).2
      obtain ⟨m1, m2⟩ := m.mn p hp'
      rw [← hx2]
      refine ⟨fun l hl q hq e => m1 (q.1, (n - szL t l) / q.2) (List.mem_flatMap.mpr ⟨l, hl, List.mem_map.mpr ⟨q, hq, rfl⟩⟩) (e.trans hx1.symm), ?_⟩
      obtain ⟨l, hl, m2⟩ := List.mem_flatMap.mp m2
      obtain ⟨q, hq, rfl⟩ := List.mem_map.mp m2
      exact ⟨l, hl, q, hq, hx1, rfl⟩
theorem min_fold : ∀ (ms : List Int) (n : Int), (∀ m ∈ n :: ms, ms.foldl min n ≤ m) ∧ ms.foldl min n ∈ n :: ms
  | [], n => ⟨fun m hm => by rw [List.mem_singleton.mp hm]; exact Int.le_refl _, List.mem_singleton.mpr rfl⟩
  | k :: ms, n => by
    obtain ⟨h1, h2⟩ := min_fold ms (min n k)
    have e : (k :: ms).foldl min n = ms.foldl min (min n k) := rfl
    rw [e]
    have h0 := h1 (min n k) List.mem_cons_self
    refine ⟨fun m hm => ?_, ?_⟩
    · rcases List.mem_cons.mp hm with rfl | hm
      · omega
      · rcases List.mem_cons.mp hm with rfl | hm
        · omega
        · exact h1 m (List.mem_cons_of_mem _ hm)
    · rcases List.mem_cons.mp h2 with h2 | h2
      · rw [h2]
        by_cases q : n ≤ k
        · rw [Int.min_eq_left q]; exact List.mem_cons_self
        · rw [Int.min_eq_right (by omega)]; exact List.mem_cons_of_mem _ List.mem_cons_self
      · exact List.mem_cons_of_mem _ (List.mem_cons_of_mem _ h2)
theorem cnt_bd {l : Ln} (g : GL l) : cntL l < 10 ^ 90 := by
  have : ∀ (l : Ln), (∀ p ∈ l, p.2 < 10 ^ 40) → cntL l ≤ l.length * 10 ^ 40 := fun l => by
    induction l with
    | nil => intro _; exact Int.le_refl _
    | cons p l ih =>
      intro h
      have a := ih fun q hq => h q (List.mem_cons_of_mem _ hq)
      have b := h p List.mem_cons_self
      have e : cntL (p :: l) = p.2 + cntL l := rfl
      rw [e, List.length_cons]
      have e2 : (((l.length + 1 : Nat) : Int)) * 10 ^ 40 = (l.length : Int) * 10 ^ 40 + 10 ^ 40 := by rw [Int.natCast_add, Int.add_mul]; rfl
      rw [e2]
      omega
  have h := this l fun p hp => (g.ct p hp).2
  have h2 := g.len
  have h3 : (l.length : Int) * 10 ^ 40 ≤ 50 * 10 ^ 40 := Int.mul_le_mul_of_nonneg_right (by omega) (by decide)
  exact Int.lt_of_le_of_lt (Int.le_trans h h3) (by decide)
theorem q_common_slack (h : cCommon ds R S) : Tcommon_slack ⟨W, fun cls kvs _ => S cls kvs⟩ (endsD R) (dstart ds 8) := by
  obtain ⟨a, b, c, rfl, h⟩ := h
  refine ⟨a, b, c, rfl, h.mono fun ls t n g hk => ⟨fun hall => ?_, hk.2⟩⟩
  obtain ⟨r0, r1⟩ := hk.1 hall
  obtain ⟨hne, hlen, hs, hg, rfl, gt, cv, rfl, n0, n1⟩ := g
  refine ⟨ls.map lnD, seq_iter hs, lc_mapP ls lnD (fun l => .tuple [.int (n - szL t l), .int (cntL l)]) (small_lt (by omega)) (noOwn_of rfl) (fun l hl W1 w => ?_) ?_⟩
  · refine ⟨l, t, rfl, by have := (hg l hl).len; omega, gt, fun p hp => ⟨(cv l hl p hp).1, by have := (hg l hl).ct p hp; omega, ((hg l hl).ct p hp).2⟩, n, szL t l, rfl, rfl, ?_⟩
    refine ⟨l.map prD2, rfl, lc_mapP l prD2 (fun p => .int p.2) (small_lt (by have := (hg l hl).len; omega)) (noOwn_of rfl) (fun p hp W1 w => ?_) ?_⟩
    · exact ⟨_, rfl, rfl, _, _, rfl, _, _, rfl, rfl, rfl, w⟩
    · exact ⟨l.map fun p : Str × Int => p.2, by rw [List.map_map]; rfl, small_sz (Nat.le_of_ble_eq_true rfl), rfl, w⟩
  · refine ⟨ls.map fun l => .tuple [.int (n - szL t l), .int (cntL l)], rfl, ?_⟩
    refine lc_filterP ls (fun l => .tuple [.int (n - szL t l), .int (cntL l)]) (fun l => .int ((n - szL t l) / cntL l)) (fun l => decide (0 < cntL l)) (small_lt (by omega)) (noOwn_of rfl) (fun l hl W1 W0 w1 w0 => ?_) ?_
    · refine ⟨_, rfl, rfl, _, _, rfl, _, _, rfl, rfl, ?_⟩
      refine ⟨_, rfl, rfl, ite2 (fun q => ?_) (fun q => ?_)⟩
      · have q' : 0 < cntL l := of_decide_eq_true q
        exact ⟨_, _, rfl, rfl, div_ok q' (cnt_bd (hg l hl)), rfl, w1 (decide_eq_true q')⟩
      · have q' : ¬ 0 < cntL l := fun z => q (decide_eq_true z)
        exact w0 (decide_eq_false q')
    · refine ⟨(ls.filter fun l => decide (0 < cntL l)).map fun l => (n - szL t l) / cntL l, by rw [List.map_map]; rfl, fun e => r0 fun l hl => ?_, fun k ms e => r1 _ ?_⟩
      · refine Int.not_lt.mp fun z => ?_
        have := List.map_eq_nil_iff.mp e
        have hm : l ∈ ls.filter fun l => decide (0 < cntL l) := List.mem_filter.mpr ⟨hl, decide_eq_true z⟩
        rw [this] at hm
        cases hm
      · obtain ⟨m1, m2⟩ := min_fold ms k
        rw [← e] at m1 m2
        refine ⟨fun l hl z => m1 _ (List.mem_map.mpr ⟨l, List.mem_filter.mpr ⟨hl, decide_eq_true z⟩, rfl⟩), ?_⟩
        obtain ⟨l, hl, e⟩ := List.mem_map.mp m2
        obtain ⟨hl, z⟩ := List.mem_filter.mp hl
        exact ⟨l, hl, of_decide_eq_true z, e.symm⟩
end
end P81

namespace P81
open PySem PySem.Spec PyProof.Rows L2 DL FT NL
variable [Tbs] [Bse]
section
variable {ds : List D} {R : D → Prop}
theorem q_law_frames (h : cLFrames ds R) : T_law_frames (endsP R) (pstart ds 4) := by
  obtain ⟨m, rfl, m0, m1, r⟩ := h
  refine ⟨small_sz (Nat.le_of_ble_eq_true rfl), rfl, 3, rfl, by decide, by decide, fun i i0 i1 => ?_⟩
  obtain ⟨i, rfl⟩ : ∃ j : Nat, i = j := ⟨i.toNat, by omega⟩
  refine ⟨(i : Int), rfl, rfl, m, rfl, by omega, Int.lt_trans (by omega : (m : Int) < 11) (by decide), fun j j0 j1 => ?_⟩
  obtain ⟨j, rfl⟩ : ∃ k : Nat, j = k := ⟨j.toNat, by omega⟩
  refine ⟨(i : Int) + 1 + (j : Int), rfl, .inl ⟨N6.map .str, rfl, ?_⟩⟩
  have e : DL.cutD (N6.map PyData.str) (some (i : Int)) (some ((i : Int) + 1 + (j : Int))) = ((N6.drop i).take (1 + j)).map .str := by
    have e := cut_mid (N6.map PyData.str) i (i + 1 + j)
    rw [show i + 1 + j - i = 1 + j by omega, ← List.map_drop, ← List.map_take] at e
    exact e
  rw [e]
  refine r _ (fun z => ?_) ((List.take_sublist _ _).trans (List.drop_sublist _ _))
  have h1 : ((N6.drop i).take (1 + j)).length = 0 := by rw [z]; rfl
  rw [List.length_take, List.length_drop] at h1
  have h2 : N6.length = 6 := rfl
  omega
theorem q_law_line (h : cLLine ds R) : T_law_line (endsP R) (pstart ds 6) := by
  obtain ⟨fs, u, rfl, hl, u0, u1, r⟩ := h
  refine ⟨fs.map .str, rfl, lc_someP (fun (x : Str) (p : Str × Int) => p.1 = x ∧ 0 ≤ p.2 ∧ p.2 ≤ u) fs .str prD2 (small_lt (by omega)) (noOwn_of rfl) (fun x hx W1 w => ?_) fun bs tw => ?_⟩
  · refine ⟨rfl, u + 1, rfl, by omega, Int.lt_trans (by omega : u + 1 < 101) (by decide), fun k k0 k1 => ⟨small_sz (Nat.le_of_ble_eq_true rfl), rfl, w (x, k) ⟨rfl, k0, by show k ≤ u; omega⟩⟩⟩
  · have blen := tw.len
    refine ⟨bs.map prD2, rfl, lc_filterP bs prD2 prD2 (fun p => decide (0 < p.2)) (small_lt (by omega)) (noOwn_of rfl) (fun p hp W1 W0 w1 w0 => ?_) ?_⟩
    · refine ⟨1, rfl, .inl ⟨_, .int p.2, rfl, atI_nat (j := 1) rfl, _, rfl, rfl, ite2 (fun q => ?_) (fun q => ?_)⟩⟩
      · exact ⟨rfl, w1 q⟩
      · exact w0 (Bool.eq_false_iff.mpr q)
    · refine ⟨_, _, rfl, rfl, r (bs.filter fun p => decide (0 < p.2)) ?_ fun p hp => ?_⟩
      · have e : bs.map (·.1) = fs := by
          have := tw.map (f := id) (g := (·.1)) fun a b q => q.1
          rw [this, List.map_id]
        have := (List.filter_sublist (p := fun p : Str × Int => decide (0 < p.2)) (l := bs)).map (·.1)
        rw [e] at this
        exact this
      · obtain ⟨hp, q⟩ := List.mem_filter.mp hp
        obtain ⟨a, _, _, _, b⟩ := tw.right p hp
        have := of_decide_eq_true q
        exact ⟨by omega, b⟩
theorem q_law_lines (h : cLLines ds R) : T_law_lines (endsP R) (pstart ds 9) := by
  obtain ⟨fs, m, rfl, hfs, m0, m1, r⟩ := h
  have flen : fs.length ≤ 6 := hfs.length_le
  have p9 : CPow 10 9 := ⟨by decide, by decide, by decide⟩
  have p19 : CPow 10 19 := ⟨by decide, by decide, by decide⟩
  have p6 : CPow 10 6 := ⟨by decide, by decide, by decide⟩
  refine ⟨rfl, _, _, rfl, rfl, p9, rfl, 100, rfl, by decide, by decide, fun i i0 i1 => ?_⟩
  refine ⟨_, _, rfl, rfl, p19, rfl, _, _, rfl, rfl, p6, _, rfl, by decide, by decide, fun j j0 j1 => ?_⟩
  refine ⟨small_sz (Nat.le_of_ble_eq_true rfl), _, _, rfl, rfl, Nat.le_of_ble_eq_true rfl, Nat.le_of_ble_eq_true rfl, fun z hz => ?_⟩
  obtain ⟨s, rfl, s0, s1⟩ : ∃ s : Int, z = .int s ∧ 1 ≤ s ∧ s < 10 ^ 21 := by
    have e9 : (10 : Int) ^ (9 : Int).toNat = 1000000000 := by decide
    have e19 : (10 : Int) ^ (19 : Int).toNat = 10000000000000000000 := by decide
    have e6 : (10 : Int) ^ (6 : Int).toNat = 1000000 := by decide
    have j1 : j < 1000000 := by rw [← e6]; exact j1
    rcases List.mem_cons.mp hz with rfl | hz
    · exact ⟨1, rfl, by decide, by decide⟩
    rcases List.mem_cons.mp hz with rfl | hz
    · exact ⟨1, rfl, by decide, by decide⟩
    rcases List.mem_cons.mp hz with rfl | hz
    · exact ⟨1, rfl, by decide, by decide⟩
    rcases List.mem_cons.mp hz with rfl | hz
    · exact ⟨7, rfl, by decide, by decide⟩
    rcases List.mem_cons.mp hz with rfl | hz
    · exact ⟨_, rfl, by rw [e9]; omega, by rw [e9]; exact Int.lt_trans (by omega : 1000000000 + i < 1000000101) (by decide)⟩
    rcases List.mem_cons.mp hz with rfl | hz
    · exact ⟨_, rfl, by rw [e19]; omega, by rw [e19]; exact Int.lt_trans (by omega : 10000000000000000000 + j < 10000000000001000001) (by decide)⟩
    · cases hz
  refine ⟨small_sz (Nat.zero_le _), m, rfl, by omega, Int.lt_trans (by omega : (m : Int) < 11) (by decide), fun i ρ => ∃ (ls : List Ln) (s5 s6 s7 s8 : Sl), ρ = [.pot, .fz (.list (fs.map .str)), .fz (.int m), .fz (.int s), .own (ls.map lnD), s5, s6, s7, s8] ∧ NoO s7 ∧ NoO s8 ∧ ls.length = i ∧ ∀ l ∈ ls, (l.map (·.1)).Sublist fs ∧ ∀ p ∈ l, 1 ≤ p.2 ∧ p.2 < 10 ^ 22, ⟨[], _, _, _, _, rfl, noO_no, noO_no, rfl, fun l hl => nomatch hl⟩, fun i z ρ hi w => ?_, fun ρ w => ?_⟩
  · obtain ⟨ls, s5, s6, s7, s8, rfl, n7, n8, hi', hls⟩ := w
    obtain ⟨k, hk, rfl, hkm⟩ : ∃ k : Nat, True ∧ z = .int k ∧ i < m := by
      have := List.getElem?_eq_some_iff.mp hi
      obtain ⟨hlt, e⟩ := this
      have hlt2 : i < m := by simpa [intsTo] using hlt
      exact ⟨i, trivial, by rw [← e]; simp [intsTo], hlt2⟩
    refine ⟨rfl, rfl, small_sz (Nat.le_of_ble_eq_true rfl), _, [.int 2, .int 4, .int 9], rfl, rfl, Nat.le_of_ble_eq_true rfl, Nat.le_of_ble_eq_true rfl, fun z hz => ?_⟩
    obtain ⟨u, rfl, u0, u1⟩ : ∃ u : Int, z = .int u ∧ 0 ≤ u ∧ u < 10 := by
      rcases List.mem_cons.mp hz with rfl | hz
      · exact ⟨2, rfl, by decide, by decide⟩
      rcases List.mem_cons.mp hz with rfl | hz
      · exact ⟨4, rfl, by decide, by decide⟩
      rcases List.mem_cons.mp hz with rfl | hz
      · exact ⟨9, rfl, by decide, by decide⟩
      · cases hz
    refine ⟨fs, u, rfl, by omega, u0, by omega, fun l hl hp => ⟨⟨_, rfl⟩, ?_⟩⟩
    have llen : l.length ≤ 6 := by
      have := hl.length_le
      rw [List.length_map] at this
      omega
    refine ⟨l.map prD2, rfl, lc_someP (fun (p q : Str × Int) => q.1 = p.1 ∧ 1 ≤ q.2 ∧ q.2 < 10 ^ 22) l prD2 prD2 (small_lt (by omega)) (fun j hj c e => ?_) (fun p hpl W1 w => ?_) fun bs tw => ?_⟩
    · rcases List.mem_cons.mp hj with rfl | hj
      · exact n7 c (Option.some.inj e)
      · rw [List.mem_singleton.mp hj] at e
        exact n8 c (Option.some.inj e)
    · obtain ⟨c1, c2⟩ := hp p hpl
      have cs : p.2 * s ≤ 9 * 10 ^ 21 := Int.le_trans (Int.mul_le_mul_of_nonneg_right (by omega : p.2 ≤ 9) (by omega)) (Int.mul_le_mul_of_nonneg_left (by omega) (by decide))
      have cs0 : 1 ≤ p.2 * s := Int.mul_pos (by omega) (by omega)
      refine ⟨_, rfl, rfl, _, _, rfl, _, _, rfl, rfl, p.2, s, rfl, rfl, mul_ok (by omega) (Int.lt_trans (by omega : p.2 < 10) (by decide)) (by omega) (Int.lt_trans s1 (by decide)), rfl, 3, rfl, by decide, by decide, fun k k0 k1 => ?_⟩
      refine ⟨small_sz (Nat.le_of_ble_eq_true rfl), rfl, w (p.1, p.2 * s + k) ⟨rfl, by show 1 ≤ p.2 * s + k; omega, ?_⟩⟩
      show p.2 * s + k < 10 ^ 22
      exact Int.lt_of_lt_of_le (by omega : p.2 * s + k < 9 * 10 ^ 21 + 4) (by decide)
    · refine ⟨_, bs.map prD2, rfl, rfl, ls.map lnD, rfl, small_lt (by rw [List.length_map]; omega), ls ++ [bs], .fz (.int k), .fz (lnD l), s7, s8, ?_, n7, n8, by rw [List.length_append, hi']; rfl, fun l' hl' => ?_⟩
      · rw [List.map_append]
        rfl
      · rcases List.mem_append.mp hl' with hl' | hl'
        · exact hls l' hl'
        · rw [List.mem_singleton.mp hl']
          have e := tw.map (f := fun p : Str × Int => p.1) (g := fun p : Str × Int => p.1) fun a b q => q.1
          refine ⟨?_, fun q hq => ?_⟩
          · show (bs.map fun p : Str × Int => p.1).Sublist fs
            rw [e]
            exact hl
          · obtain ⟨_, _, _, b1, b2⟩ := tw.right q hq
            exact ⟨b1, b2⟩
  · obtain ⟨ls, s5, s6, s7, s8, rfl, n7, n8, hi', hls⟩ := w
    refine r ls ?_ hls
    rw [hi']
    simp [intsTo]
theorem q_law_deep (h : cDeep ds R) : T_law_deep (endsD R) (dstart ds 5) := by
  obtain ⟨ls, t, rfl, g, r⟩ := h
  refine ⟨ls.map lnD, rfl, lc_mapP ls lnD (fun l => .int (szL t l)) (small_lt (by have := g.len; omega)) (noOwn_of rfl) (fun l hl W1 w => ?_) ?_⟩
  · refine ⟨l.map prD2, rfl, lc_mapP l prD2 (fun p => .int (p.2 * getT t p.1)) (small_lt (by have := (g.gl l hl).len; omega)) (noOwn_of rfl) (fun p hp W1 w => ?_) ?_⟩
    · have h1 := g.fr l hl p hp
      have b := getT_bd g.gt h1
      have c := (g.gl l hl).ct p hp
      exact ⟨_, rfl, rfl, _, _, rfl, _, _, rfl, rfl, t.map keyM, .inr p.1, _, rfl, rfl, (getT_in h1).1, _, _, rfl, rfl, mul40 (by omega) c.2 b.1 b.2, rfl, w⟩
    · exact ⟨l.map fun (p : Str × Int) => p.2 * getT t p.1, by rw [List.map_map]; rfl, rfl, w⟩
  · refine ⟨ls.map fun l => szL t l, by rw [List.map_map]; rfl, fun z => g.ne (List.map_eq_nil_iff.mp z), fun m hm hx => r m ?_ fun l hl => hx _ (List.mem_map.mpr ⟨l, hl, rfl⟩)⟩
    obtain ⟨l, hl, e⟩ := List.mem_map.mp hm
    exact ⟨l, hl, e.symm⟩
theorem more_nm (t : Ln) (ns : List Str) (m : Int) : (moreT t ns m).map (·.1) = t.map (·.1) := by
  unfold moreT
  rw [List.map_map]
  rfl
theorem q_law_more (h : cMore ds R) : T_law_more (endsD R) (dstart ds 4) := by
  obtain ⟨t, ns, m, rfl, g, hn, hns, r⟩ := h
  refine ⟨t.map keyM, rfl, ?_⟩
  rw [keys_tab]
  refine lc_mapP t (fun p => .str p.1) (fun p => prD2 (p.1, p.2 + if p.1 ∈ ns then m else 0)) (small_lt (by have := g.len; omega)) (noOwn_of rfl) (fun p hp W1 w => ?_) ?_
  · have hin : p.1 ∈ t.map (·.1) := List.mem_map.mpr ⟨p, hp, rfl⟩
    have e : getT t p.1 = p.2 := getT_mem g.nd hp
    refine ⟨t.map keyM, .inr p.1, _, rfl, rfl, (getT_in hin).1, ns.map .str, rfl, as_shp (g.nm p hp), shp_strs hns, _, rfl, ?_⟩
    rw [any_str, e]
    show if decide (p.1 ∈ ns) = true then _ else _
    by_cases q : p.1 ∈ ns
    · rw [if_pos q] at w
      rw [if_pos (decide_eq_true q)]
      exact ⟨small_sz (Nat.le_of_ble_eq_true rfl), rfl, w⟩
    · rw [if_neg q] at w
      rw [if_neg (by rw [decide_eq_false q]; exact Bool.false_ne_true)]
      exact ⟨small_sz (Nat.le_of_ble_eq_true rfl), rfl, w⟩
  · have e : (t.map fun p => prD2 (p.1, p.2 + if p.1 ∈ ns then m else 0)) = ((moreT t ns m).map keyM).map prM := by
      rw [prm_tab]
      unfold moreT
      rw [List.map_map]
      rfl
    refine ⟨_, rfl, .inl ⟨(moreT t ns m).map keyM, ?_, ?_⟩⟩
    · rw [e]; rfl
    · rw [merge_nd (nd_keys (by rw [more_nm]; exact g.nd))]
      exact r
theorem over_more {ls : List Ln} {t : Ln} {ns : List Str} {m : Int} (g : Over ls t) (m0 : 0 ≤ m) (m1 : m ≤ 10 ^ 35) (ht : ∀ p ∈ t, p.2 < 10 ^ 30) : Over ls (moreT t ns m) where
  ne := g.ne
  len := g.len
  gl := g.gl
  gt := {
    len := by unfold moreT; rw [List.length_map]; exact g.gt.len
    nm := fun p hp => by
      obtain ⟨q, hq, rfl⟩ := List.mem_map.mp hp
      exact g.gt.nm q hq
    vl := fun p hp => by
      obtain ⟨q, hq, rfl⟩ := List.mem_map.mp hp
      have a := (g.gt.vl q hq).1
      have b := ht q hq
      show 0 ≤ q.2 + _ ∧ q.2 + _ < 10 ^ 40
      split
      · exact ⟨by omega, by omega⟩
      · exact ⟨by omega, by omega⟩
    nd := by rw [more_nm]; exact g.gt.nd }
  fr := fun l hl p hp => by rw [more_nm]; exact g.fr l hl p hp
theorem q_law_just (h : cJust ds R) : T_law_just (endsD R) (dstart ds 5) := by
  obtain ⟨ls, t, ns, m, n, rfl, g, hn, hns, m0, m1, ht, h1, ⟨l, hl, h2⟩, r⟩ := h
  refine ⟨t, ns, m, rfl, g.gt, hn, hns, ls, moreT t ns m, rfl, over_more g m0 (Int.le_of_lt m1) ht, fun a ha _ => ⟨_, rfl, ?_⟩⟩
  obtain ⟨l', hl', rfl⟩ := ha
  refine ite2 (fun q => absurd (of_decide_eq_true (q : decide (n < szL (moreT t ns m) l') = true)) (Int.not_lt.mpr (h1 l' hl'))) fun _ => ?_
  refine ⟨t, ns, m + 1, rfl, g.gt, hn, hns, ls, moreT t ns (m + 1), rfl, over_more g (by omega) (by omega) ht, fun a _ ha => ?_⟩
  show R (.bool (decide (n < a)))
  rw [decide_eq_true (by have := ha l hl; omega : n < a)]
  exact r
end
end P81

namespace P81
open PySem PySem.Spec PyProof.Rows L2 DL FT NL
variable [Tbs] [Bse]
/-! ### sizes of a table that grew -/
def cntIn (ns : List Str) (l : Ln) : Int := (l.map fun p => if p.1 ∈ ns then p.2 else 0).sum
theorem getT_more {t : Ln} {ns : List Str} {m : Int} (nd : (t.map (·.1)).Nodup) {x : Str} (h : x ∈ t.map (·.1)) : getT (moreT t ns m) x = getT t x + if x ∈ ns then m else 0 := by
  obtain ⟨p, hp, rfl⟩ := List.mem_map.mp h
  have e : (p.1, p.2 + if p.1 ∈ ns then m else 0) ∈ moreT t ns m := List.mem_map.mpr ⟨p, hp, rfl⟩
  rw [getT_mem (by rw [more_nm]; exact nd) e, getT_mem nd hp]
theorem sz_more {t : Ln} {ns : List Str} {m : Int} (nd : (t.map (·.1)).Nodup) : ∀ l : Ln, (∀ p ∈ l, p.1 ∈ t.map (·.1)) → szL (moreT t ns m) l = szL t l + m * cntIn ns l
  | [], _ => by show (0 : Int) = 0 + m * 0; omega
  | p :: l, h => by
    have ih := sz_more (ns := ns) (m := m) nd l fun q hq => h q (List.mem_cons_of_mem _ hq)
    have e1 : szL (moreT t ns m) (p :: l) = p.2 * getT (moreT t ns m) p.1 + szL (moreT t ns m) l := rfl
    have e2 : szL t (p :: l) = p.2 * getT t p.1 + szL t l := rfl
    have e3 : cntIn ns (p :: l) = (if p.1 ∈ ns then p.2 else 0) + cntIn ns l := rfl
    rw [e1, e2, e3, ih, getT_more nd (h p List.mem_cons_self), Int.mul_add, Int.mul_add]
    by_cases q : p.1 ∈ ns
    · rw [if_pos q, if_pos q, Int.mul_comm p.2 m]; omega
    · rw [if_neg q, if_neg q]; omega
theorem cnt_all {ns : List Str} : ∀ l : Ln, (∀ p ∈ l, p.1 ∈ ns) → cntIn ns l = cntL l
  | [], _ => rfl
  | p :: l, h => by
    have e1 : cntIn ns (p :: l) = (if p.1 ∈ ns then p.2 else 0) + cntIn ns l := rfl
    have e2 : cntL (p :: l) = p.2 + cntL l := rfl
    rw [e1, e2, if_pos (h p List.mem_cons_self), cnt_all l fun q hq => h q (List.mem_cons_of_mem _ hq)]
theorem cnt_none {ns : List Str} : ∀ l : Ln, (∀ p ∈ l, p.1 ∉ ns) → cntIn ns l = 0
  | [], _ => rfl
  | p :: l, h => by
    have e1 : cntIn ns (p :: l) = (if p.1 ∈ ns then p.2 else 0) + cntIn ns l := rfl
    rw [e1, if_neg (h p List.mem_cons_self), cnt_none l fun q hq => h q (List.mem_cons_of_mem _ hq)]
    rfl
theorem cnt_one : ∀ {l : Ln}, (l.map (·.1)).Nodup → ∀ p ∈ l, cntIn [p.1] l = p.2
  | q :: l, nd, p, hp => by
    rw [List.map_cons, List.nodup_cons] at nd
    have e1 : cntIn [p.1] (q :: l) = (if q.1 ∈ [p.1] then q.2 else 0) + cntIn [p.1] l := rfl
    rw [e1]
    rcases List.mem_cons.mp hp with h | h
    · subst h
      rw [if_pos (List.mem_singleton.mpr rfl), cnt_none l fun r hr z => nd.1 (List.mem_map.mpr ⟨r, hr, List.mem_singleton.mp z⟩)]
      omega
    · have ne : q.1 ∉ [p.1] := fun z => nd.1 (List.mem_map.mpr ⟨p, h, (List.mem_singleton.mp z).symm⟩)
      rw [if_neg ne, cnt_one nd.2 p h]
      omega
theorem pw_nd {fs : List Str} (h : fs.Pairwise ltT) : fs.Nodup := h.imp fun {a b} (q : ltT a b) (z : a = b) => by
  subst z
  exact List.lt_irrefl _ q
theorem sz_nn {t : Ln} : ∀ l : Ln, (∀ p ∈ l, 0 ≤ p.2 ∧ 0 ≤ getT t p.1) → 0 ≤ szL t l
  | [], _ => Int.le_refl _
  | p :: l, h => by
    have e : szL t (p :: l) = p.2 * getT t p.1 + szL t l := rfl
    have a := sz_nn l fun q hq => h q (List.mem_cons_of_mem _ hq)
    have b := Int.mul_nonneg (h p List.mem_cons_self).1 (h p List.mem_cons_self).2
    omega
theorem over_nn {ls : List Ln} {t : Ln} (g : Over ls t) {l : Ln} (hl : l ∈ ls) : 0 ≤ szL t l := sz_nn l fun p hp => ⟨by have := (g.gl l hl).ct p hp; omega, (getT_bd g.gt (g.fr l hl p hp)).1⟩
theorem kept_pos {ls : List Ln} {t : Ln} {n : Int} (k : Kept ls t n) : ∀ l ∈ ls, ∀ p ∈ l, p.1 ∈ t.map (·.1) ∧ 1 ≤ getT t p.1 := fun l hl p hp => by
  have h := k.fr l hl p hp
  refine ⟨h, ?_⟩
  obtain ⟨q, hq, _, e⟩ := (getT_in h).2
  rw [← e]
  exact (k.ps q hq).1
theorem cnt_nn {l : Ln} (h : ∀ p ∈ l, 1 ≤ p.2) : 0 ≤ cntL l ∧ (l ≠ [] → 0 < cntL l) := by
  induction l with
  | nil => exact ⟨Int.le_refl _, fun z => absurd rfl z⟩
  | cons p l ih =>
    have a := (ih fun q hq => h q (List.mem_cons_of_mem _ hq)).1
    have b := h p List.mem_cons_self
    have e : cntL (p :: l) = p.2 + cntL l := rfl
    rw [e]
    exact ⟨by omega, fun _ => by omega⟩
/-- so much more is just right -/
theorem just_one {ls : List Ln} {t : Ln} {n : Int} (g : Over ls t) (hall : ∀ l ∈ ls, szL t l ≤ n) {x : Str} {v : Int} (h : IsSlack ls t n x v) : 0 ≤ v ∧ v ≤ n ∧ (∀ l ∈ ls, szL (moreT t [x] v) l ≤ n) ∧ ∃ l ∈ ls, n < szL (moreT t [x] (v + 1)) l := by
  obtain ⟨h1, l, hl, p, hp, hx, hv⟩ := h
  have c := ((g.gl l hl).ct p hp).1
  have s0 := hall l hl
  have sn := over_nn g hl
  have nd : ∀ l ∈ ls, (l.map (·.1)).Nodup := fun l hl => pw_nd (g.gl l hl).pw
  have v0 : 0 ≤ v := by rw [hv]; exact Int.ediv_nonneg (by omega) (by omega)
  have vn : v ≤ n := by
    rw [hv]
    have : (n - szL t l) / p.2 ≤ n - szL t l := Int.ediv_le_self _ (by omega)
    omega
  refine ⟨v0, vn, fun l' hl' => ?_, l, hl, ?_⟩
  · rw [sz_more g.gt.nd l' (g.fr l' hl')]
    by_cases q : x ∈ l'.map (·.1)
    · obtain ⟨p', hp', rfl⟩ := List.mem_map.mp q
      have c' := ((g.gl l' hl').ct p' hp').1
      rw [cnt_one (nd l' hl') p' hp']
      have := Int.mul_le_of_le_ediv (by omega) (h1 l' hl' p' hp' rfl)
      omega
    · rw [cnt_none l' fun p' hp' z => q (List.mem_map.mpr ⟨p', hp', List.mem_singleton.mp z⟩)]
      have := hall l' hl'
      omega
  · rw [sz_more g.gt.nd l (g.fr l hl), ← hx, cnt_one (nd l hl) p hp, hv]
    have := Int.lt_ediv_add_one_mul_self (n - szL t l) (show 0 < p.2 by omega)
    omega
theorem just_all {ls : List Ln} {t : Ln} {n : Int} (g : Over ls t) (hall : ∀ l ∈ ls, szL t l ≤ n) {v : Int} (h : IsCommon ls t n v) : 0 ≤ v ∧ v ≤ n ∧ (∀ l ∈ ls, szL (moreT t (t.map (·.1)) v) l ≤ n) ∧ ∃ l ∈ ls, n < szL (moreT t (t.map (·.1)) (v + 1)) l := by
  obtain ⟨h1, l, hl, c, hv⟩ := h
  have s0 := hall l hl
  have sn := over_nn g hl
  have v0 : 0 ≤ v := by rw [hv]; exact Int.ediv_nonneg (by omega) (by omega)
  have vn : v ≤ n := by
    rw [hv]
    have : (n - szL t l) / cntL l ≤ n - szL t l := Int.ediv_le_self _ (by omega)
    omega
  have all : ∀ l ∈ ls, cntIn (t.map (·.1)) l = cntL l := fun l hl => cnt_all l (g.fr l hl)
  refine ⟨v0, vn, fun l' hl' => ?_, l, hl, ?_⟩
  · rw [sz_more g.gt.nd l' (g.fr l' hl'), all l' hl']
    by_cases q : 0 < cntL l'
    · have := Int.mul_le_of_le_ediv q (h1 l' hl' q)
      omega
    · have z := (cnt_nn fun p hp => ((g.gl l' hl').ct p hp).1).1
      have e : cntL l' = 0 := by omega
      rw [e]
      have := hall l' hl'
      omega
  · rw [sz_more g.gt.nd l (g.fr l hl), all l hl, hv]
    have := Int.lt_ediv_add_one_mul_self (n - szL t l) c
    omega
theorem common_fits [ExA] {a : D} {ls : List Ln} {t : Ln} {n : Int} {R : D → Prop} {S : Value → List (Str × D) → Prop} (k : Kept ls t n) (n0 : 0 ≤ n) (hall : ∀ l ∈ ls, szL t l ≤ n) (ha : seqD a = some (ls.map lnD))
    (h : ∀ d, ((d = .none ∧ ∀ l ∈ ls, cntL l ≤ 0) ∨ ∃ u, d = .int u ∧ IsCommon ls t n u) → R d) : CommonI [a, tabD t, .int n] R S :=
  ⟨_, _, _, rfl, .inr ⟨ls, k.ne, by have := k.len; omega, ha, k.gl, .inr (.inr ⟨t, rfl, k.gt, kept_pos k, .inr ⟨n, rfl, n0, Int.lt_trans k.n1 (by decide), fun _ => ⟨fun hz => h _ (.inl ⟨rfl, hz⟩), fun u hu => h _ (.inr ⟨u, rfl, hu⟩)⟩, fun ⟨l, hl, z⟩ => absurd z (Int.not_lt.mpr (hall l hl))⟩⟩)⟩⟩
section
variable {ds : List D} {R : D → Prop}
theorem eqv_bool (a b : Bool) : PyData.eqv (.bool a) (.bool b) = decide (a = b) := by cases a <;> cases b <;> rfl
theorem q_law_right [ExA] (h : cRight ds R) : T_law_right (endsD R) (dstart ds 7) := by
  obtain ⟨ls, t, n, rfl, k, hall, r⟩ := h
  have g := k.toOver
  have n0 : 0 ≤ n := by
    cases e : ls with
    | nil => exact absurd e k.ne
    | cons l r =>
      have hl : l ∈ ls := by rw [e]; exact List.mem_cons_self
      have a := over_nn g hl
      have b := hall l hl
      omega
  have tb : ∀ p ∈ t, p.2 < 10 ^ 30 := fun p hp => (k.ps p hp).2
  have n90 : n < 10 ^ 90 := Int.lt_trans k.n1 (by decide)
  have hno : ¬ ∃ l ∈ ls, n < szL t l := fun ⟨l, hl, z⟩ => absurd z (Int.not_lt.mpr (hall l hl))
  refine ⟨_, ls, rfl, rfl, by have := k.len; omega, fun l hl => ⟨(k.gl l hl).len, gl_as (k.gl l hl)⟩, fun fs pw hm => ?_⟩
  refine ⟨_, _, _, rfl, .inr ⟨ls, k.ne, by have := k.len; omega, rfl, k.gl, .inr (.inr ⟨t, rfl, k.gt, kept_pos k, .inr ⟨n, rfl, n0, n90, fun _ => fun fs' v pw' hm' hv => ?_, fun z => absurd z hno⟩⟩)⟩⟩
  have ef : fs' = fs := strict_uniq pw' pw fun z => (hm' z).trans (hm z).symm
  subst ef
  have flen : fs'.length ≤ 50 := by
    have := nd_len (pw_nd pw) (ys := t.map (·.1)) fun x hx => by
      obtain ⟨l, hl, hx⟩ := (hm x).mp hx
      obtain ⟨p, hp, rfl⟩ := List.mem_map.mp hx
      exact k.fr l hl p hp
    rw [List.length_map] at this
    exact Nat.le_trans this k.gt.len
  have fas : ∀ x ∈ fs', AsT x := fun x hx => by
    obtain ⟨l, hl, hx⟩ := (hm x).mp hx
    obtain ⟨p, hp, rfl⟩ := List.mem_map.mp hx
    exact gl_as (k.gl l hl) p hp
  have shf : shp (.list (fs'.map .str)) = true := shp_strs fas
  refine ⟨_, _, rfl, rfl, ?_⟩
  refine common_fits (a := .tuple (ls.map lnD)) k n0 hall rfl fun d hc => ?_
  have hd : isNonD d = decide (fs' = []) := by
    rcases hc with ⟨rfl, hz⟩ | ⟨u, rfl, hu⟩
    · refine (decide_eq_true ?_).symm
      refine List.eq_nil_iff_forall_not_mem.mpr fun x hx => ?_
      obtain ⟨l, hl, hx⟩ := (hm x).mp hx
      have c := hz l hl
      have := (cnt_nn fun p hp => ((k.gl l hl).ct p hp).1).2
      cases e : l with
      | nil => rw [e] at hx; cases hx
      | cons p q =>
        have := this (by rw [e]; exact List.cons_ne_nil _ _)
        omega
    · refine (decide_eq_false fun z => ?_).symm
      obtain ⟨_, l, hl, c, _⟩ := hu
      cases e : l with
      | nil => rw [e] at c; exact absurd c (by decide)
      | cons p q =>
        have : p.1 ∈ fs' := (hm p.1).mpr ⟨l, hl, by rw [e]; exact List.mem_map.mpr ⟨p, List.mem_cons_self, rfl⟩⟩
        rw [z] at this
        cases this
  refine ⟨small_sz (Nat.le_of_ble_eq_true rfl), _, rfl, rfl, _, _, rfl, _, _, rfl, rfl, ?_⟩
  refine ⟨fs'.map fun x => (.inr x, .int (v x)), fs', rfl, by rw [List.map_map]; rfl, by omega, fun ys hp hs => ?_⟩
  have ynd : ys.Nodup := hp.nodup_iff.mpr (pw_nd pw)
  have ey : ys = fs' := strict_uniq (sortedS_pw hs ynd) pw fun z => hp.mem_iff
  subst ey
  refine ⟨shf, shf, _, rfl, ?_⟩
  have e1 : PyData.eqv (.list (ys.map .str)) (.list (ys.map .str)) = true := eqv_texts ys
  show if (!PyData.eqv (.list (ys.map .str)) (.list (ys.map .str))) = true then _ else _
  rw [e1]
  refine iteF ⟨rfl, small_sz (Nat.zero_le _), shf, rfl, rfl, rfl, _, rfl, ?_⟩
  have e2 : PyData.eqv (.list (ys.map .str)) (.list []) = decide (ys = []) := eqv_strs ys []
  show if (!PyData.eqv (.bool (isNonD d)) (.bool (PyData.eqv (.list (ys.map .str)) (.list [])))) = true then _ else _
  rw [e2, hd, eqv_bool, decide_eq_true rfl]
  refine iteF ⟨ys.map .str, rfl, lc_mapP ys .str (fun _ => .bool true) (small_lt (by omega)) (noOwn_of rfl) (fun x hx W1 w => ?_) ?_⟩
  · obtain ⟨v0, vn, a1, a2⟩ := just_one g hall (hv x hx)
    refine ⟨small_sz (Nat.le_of_ble_eq_true rfl), ys.map fun x => (.inr x, .int (v x)), .inr x, .int (v x), rfl, rfl, ?_, ls, t, [x], v x, n, rfl, g, Nat.le_of_ble_eq_true rfl, fun y hy => by rw [List.mem_singleton.mp hy]; exact fas x hx, v0, Int.lt_of_le_of_lt vn (Int.lt_trans k.n1 (by decide)), tb, a1, a2, rfl, w⟩
    have e : (ys.map fun x => ((.inr x, .int (v x)) : L2.Key × D)) = (ys.map fun x => (x, v x)).map keyM := by rw [List.map_map]; rfl
    rw [e, getM_lk]
    have nd : ((ys.map fun x => (x, v x)).map (·.1)).Nodup := by
      rw [List.map_map]
      have e : ((fun p : Str × Int => p.1) ∘ fun x => (x, v x)) = id := rfl
      rw [e, List.map_id]
      exact ynd
    have hm : (x, v x) ∈ ys.map fun x => (x, v x) := List.mem_map.mpr ⟨x, hx, rfl⟩
    cases q : lkT (ys.map fun x => (x, v x)) x with
    | none => exact absurd (List.mem_map.mpr ⟨_, hm, rfl⟩) (lkT_none q)
    | some u =>
      have := nd_uniq nd (lkT_mem q) hm rfl
      injection this with _ e
      rw [e]
      rfl
  · refine ⟨ys.map fun _ => true, by rw [List.map_map]; rfl, _, rfl, ?_⟩
    have e3 : (ys.map fun _ => true).all id = true := by rw [List.all_map]; exact List.all_eq_true.mpr fun _ _ => rfl
    rw [e3]
    refine iteF ⟨rfl, isNonD d, rfl, ?_⟩
    rcases hc with ⟨rfl, _⟩ | ⟨u, rfl, hu⟩
    · exact iteT r
    · obtain ⟨v0, vn, a1, a2⟩ := just_all g hall hu
      refine iteF ⟨t.map keyM, rfl, ?_⟩
      rw [keys_tab]
      have e : (t.map fun p => PyData.str p.1) = (t.map (·.1)).map .str := by rw [List.map_map]; rfl
      rw [e]
      have b35 : u < 10 ^ 35 := Int.lt_of_le_of_lt vn (Int.lt_trans k.n1 (by decide))
      have l50 : (t.map (·.1)).length ≤ 50 := by rw [List.length_map]; exact k.gt.len
      have tas : ∀ x ∈ t.map (·.1), AsT x := fun x hx => by
        obtain ⟨p, hp, rfl⟩ := List.mem_map.mp hx
        exact k.gt.nm p hp
      refine ⟨ls, t, t.map (·.1), u, n, ?_, g, l50, tas, v0, b35, tb, ?_, ?_, ?_⟩
      · rfl
      · exact a1
      · exact a2
      · exact r
end
end P81

namespace P81
open PySem PySem.Spec PyProof.Rows L2 DL FT NL
variable [Tbs]
/-- what the machine knows of the classes -/
structure ExK (K : PySem.W.Frag) [ExA] : Prop where
  e11 : PySem.W.exmOne K (.ref ExA.InvalidLine) (.ref ExA.InvalidLine) = some true
  e21 : PySem.W.exmOne K (.ref ExA.InvalidSizes) (.ref ExA.InvalidLine) = some false
  e22 : PySem.W.exmOne K (.ref ExA.InvalidSizes) (.ref ExA.InvalidSizes) = some true
  e31 : PySem.W.exmOne K (.ref ExA.InvalidCount) (.ref ExA.InvalidLine) = some false
  e32 : PySem.W.exmOne K (.ref ExA.InvalidCount) (.ref ExA.InvalidSizes) = some false
  e33 : PySem.W.exmOne K (.ref ExA.InvalidCount) (.ref ExA.InvalidCount) = some true
  e51 : PySem.W.exmOne K (.ref ExA.NoneFits) (.ref ExA.InvalidLine) = some false
  e52 : PySem.W.exmOne K (.ref ExA.NoneFits) (.ref ExA.InvalidSizes) = some false
  e53 : PySem.W.exmOne K (.ref ExA.NoneFits) (.ref ExA.InvalidCount) = some false
  e54 : PySem.W.exmOne K (.ref ExA.NoneFits) (.ref ExA.InputError) = some false
  e55 : PySem.W.exmOne K (.ref ExA.NoneFits) (.ref ExA.NoneFits) = some true
  k56 : PySem.W.kitOne K (.ref ExA.NoneFits) (.ref ExA.StateError) = some true
section
variable [ExA] {K : PySem.W.Frag} {R : D → Prop}
theorem xr_line (F : ExK K) {v : D} (r : R (.tuple [.str "line", v])) : xrOf K toldCs R (.ref ExA.InvalidLine) [("value", v)] :=
  ⟨true, F.e11, fun _ => ⟨rfl, v, rfl, r⟩, (fun h => nomatch h)⟩
theorem xr_sizes (F : ExK K) {v : D} (r : R (.tuple [.str "sizes", v])) : xrOf K toldCs R (.ref ExA.InvalidSizes) [("name", v)] :=
  ⟨false, F.e21, (fun h => nomatch h), fun _ => ⟨true, F.e22, fun _ => ⟨rfl, v, rfl, r⟩, (fun h => nomatch h)⟩⟩
theorem xr_count (F : ExK K) {v : D} (r : R (.tuple [.str "count", v])) : xrOf K toldCs R (.ref ExA.InvalidCount) [("value", v)] :=
  ⟨false, F.e31, (fun h => nomatch h), fun _ => ⟨false, F.e32, (fun h => nomatch h), fun _ => ⟨true, F.e33, fun _ => ⟨rfl, v, rfl, r⟩, (fun h => nomatch h)⟩⟩⟩
theorem xr_none (F : ExK K) (r : R (.tuple [.str "none", .bool true])) : xrOf K toldCs R (.ref ExA.NoneFits) [] :=
  ⟨false, F.e51, (fun h => nomatch h), fun _ => ⟨false, F.e52, (fun h => nomatch h), fun _ => ⟨false, F.e53, (fun h => nomatch h), fun _ => ⟨false, F.e54, (fun h => nomatch h), fun _ => ⟨true, F.e55, fun _ => ⟨rfl, rfl, true, F.k56, r⟩, (fun h => nomatch h)⟩⟩⟩⟩⟩
end
variable [Bse] [ExA] {ds : List D} {R : D → Prop}
theorem args_over {ls : List Ln} {t : Ln} {n : Int} {S : Value → List (Str × D) → Prop} {good : List Ln → Ln → Int → Prop} (k : Kept ls t n) (n0 : 0 ≤ n) (h : good ls t n) : Args good S (.list (ls.map lnD)) (tabD t) (.int n) :=
  .inr ⟨ls, k.ne, by have := k.len; omega, rfl, k.gl, .inr (.inr ⟨t, rfl, k.gt, kept_pos k, .inr ⟨n, rfl, n0, Int.lt_trans k.n1 (by decide), h⟩⟩)⟩
theorem q_law_exceeded {K : PySem.W.Frag} (F : ExK K) (h : cExceeded ds R) : T_law_exceeded K (endsD R) (dstart ds 3) := by
  obtain ⟨ls, t, n, rfl, k, n0, ⟨l, hl, hz⟩, r⟩ := h
  have no : ¬ ∀ l ∈ ls, szL t l ≤ n := fun z => absurd hz (Int.not_lt.mpr (z l hl))
  have e : PyData.eqv (.tuple [.str "none", .bool true]) (.tuple [.str "none", .bool true]) = true := SeqAt.eqv_refl _ (by decide +kernel)
  have sh : shp (.tuple [.str "none", .bool true]) = true := shp_of (by decide +kernel) (by decide +kernel)
  refine fun W => ⟨_, _, _, rfl, args_over k n0 ⟨fun z => absurd z no, fun _ => xr_none F ?_⟩⟩
  refine ⟨small_sz (Nat.le_of_ble_eq_true rfl), sh, sh, _, rfl, ?_⟩
  show if (!PyData.eqv (.tuple [.str "none", .bool true]) (.tuple [.str "none", .bool true])) = true then _ else _
  rw [e]
  refine iteF fun W => ⟨_, _, _, rfl, args_over k n0 ⟨fun z => absurd z no, fun _ => xr_none F ?_⟩⟩
  refine ⟨small_sz (Nat.le_of_ble_eq_true rfl), sh, sh, ?_⟩
  show R (.bool (PyData.eqv (.tuple [.str "none", .bool true]) (.tuple [.str "none", .bool true])))
  rw [e]
  exact r
end P81

namespace P81
open PySem PySem.Spec PyProof.Rows L2 DL FT NL
variable [Tbs] [Bse]
def atomB : D → Bool
  | .none => true
  | .bool _ => true
  | .int i => decide (i.natAbs < 10 ^ 60)
  | .str x => asB x
  | .dict [] => true
  | .list [] => true
  | .tuple [] => true
  | _ => false
def rowB (f : D → Bool) : D → Bool
  | .list l => decide (l.length ≤ 4) && l.all f
  | .tuple l => decide (l.length ≤ 4) && l.all f
  | _ => false
def lvB : Nat → D → Bool
  | 0 => atomB
  | k + 1 => fun d => lvB k d || rowB (lvB k) d
theorem atom_of {d : D} (h : atomB d = true) : Atom d := by
  cases d with
  | none => exact .inl rfl
  | bool b => exact .inr (.inl ⟨b, rfl⟩)
  | int i =>
    have h : decide (i.natAbs < 10 ^ 60) = true := h
    exact .inr (.inr (.inl ⟨i, rfl, of_decide_eq_true h⟩))
  | str x => exact .inr (.inr (.inr (.inl ⟨x, rfl, as_of h⟩)))
  | dict l =>
    cases l with
    | nil => exact .inr (.inr (.inr (.inr (.inl rfl))))
    | cons a b => cases h
  | list l =>
    cases l with
    | nil => exact .inr (.inr (.inr (.inr (.inr (.inl rfl)))))
    | cons a b => cases h
  | tuple l =>
    cases l with
    | nil => exact .inr (.inr (.inr (.inr (.inr (.inr rfl)))))
    | cons a b => cases h
theorem lv_of {n : Nat} (hn : 4 ≤ n) : ∀ {k : Nat} {d : D}, lvB k d = true → Lv n k d
  | 0, d, h => atom_of h
  | k + 1, d, h => by
    have h : (lvB k d || rowB (lvB k) d) = true := h
    rw [Bool.or_eq_true] at h
    rcases h with h | h
    · exact .inl (lv_of hn h)
    · cases d with
      | list l =>
        have h : (decide (l.length ≤ 4) && l.all (lvB k)) = true := h
        rw [Bool.and_eq_true] at h
        exact .ofLst (Nat.le_trans (of_decide_eq_true h.1) hn) fun x hx => lv_of hn (List.all_eq_true.mp h.2 x hx)
      | tuple l =>
        have h : (decide (l.length ≤ 4) && l.all (lvB k)) = true := h
        rw [Bool.and_eq_true] at h
        exact .ofTup (Nat.le_trans (of_decide_eq_true h.1) hn) fun x hx => lv_of hn (List.all_eq_true.mp h.2 x hx)
      | _ => cases h
theorem picked {n k : Nat} (hn : 4 ≤ n) {l : List D} (h : l.all (lvB k) = true) : ∀ z ∈ l, Lv n k z := fun z hz => lv_of hn (List.all_eq_true.mp h z hz)
/-! ### what is spoilt, and told of -/
def okP (w : Str) (v : D) : Bool := (PyData.tuple [.str w, v]).showable && (decide ((PyData.tuple [.str w, v]).depth ≤ 60) && (decide ((PyData.shown (.tuple [.str w, v])).length ≤ 100) && (PyData.shown (.tuple [.str w, v])).cps.toList.all fun z => decide (z < 128)))
abbrev B0 : List D := [.list [], .tuple [], .none, .str ("a" : Str), .dict [], .int 7]
abbrev B1 : List D := [.none, .list [.tuple [.str ("a" : Str), .int 1]], .tuple [.tuple [.str ("a" : Str), .int 0]], .tuple [.tuple [.str ("b" : Str), .int 1], .tuple [.str ("a" : Str), .int 1]], .tuple [.tuple [.str ("A" : Str), .int 1]], .int 3, .tuple [.str ("a" : Str), .int 1]]
abbrev B2 : List D := [.none, .list [], .str ("a" : Str), .int 3]
abbrev B3 : List D := [.int 0, .bool true, .none, .int (-2), .str ("1" : Str)]
abbrev B4 : List D := [.int (-1), .bool true, .none, .str ("3" : Str), .list [], .tuple [.int 5]]
theorem ok0 : B0.all (okP "line") = true := by decide +kernel
theorem ok1 : B1.all (okP "line") = true := by decide +kernel
theorem ok2 : okP "sizes" .none = true := by decide +kernel
theorem ok3 : (N6.map PyData.str).all (okP "sizes") = true := by decide +kernel
theorem ok4 : B4.all (okP "count") = true := by decide +kernel
theorem spoilt_of {a b c : D} {w : Str} {v : D} (h : okP w v = true) (r : ∀ [ExA] (S : Value → List (Str × D) → Prop), (w = "line" → S (.ref ExA.InvalidLine) [("value", v)]) → (w = "sizes" → S (.ref ExA.InvalidSizes) [("name", v)]) → (w = "count" → S (.ref ExA.InvalidCount) [("value", v)]) → Args (fun _ _ _ => False) S a b c) : Spoilt a b c w v := by
  unfold okP at h
  rw [Bool.and_eq_true, Bool.and_eq_true, Bool.and_eq_true] at h
  obtain ⟨h1, h2, h3, h4⟩ := h
  have h2 := of_decide_eq_true h2
  have h3 := of_decide_eq_true h3
  exact ⟨⟨h1, h2, small_sz (by omega)⟩, by omega, fun z hz => of_decide_eq_true (List.all_eq_true.mp h4 z hz), @r⟩
theorem line1 : B1.all (fun v => !lineB v && lvB 2 v) = true := by decide +kernel
theorem b0_bad : ∀ v ∈ B0, (badOf v = some v ∨ (seqD v = some [] ∧ v = v)) ∧ ∀ l, seqD v = some l → l = [] := fun v hv => by
  rcases List.mem_cons.mp hv with rfl | hv
  · exact ⟨.inr ⟨rfl, rfl⟩, fun l h => by cases h; rfl⟩
  rcases List.mem_cons.mp hv with rfl | hv
  · exact ⟨.inr ⟨rfl, rfl⟩, fun l h => by cases h; rfl⟩
  rcases List.mem_cons.mp hv with rfl | hv
  · exact ⟨.inl rfl, fun l h => by cases h⟩
  rcases List.mem_cons.mp hv with rfl | hv
  · exact ⟨.inl rfl, fun l h => by cases h⟩
  rcases List.mem_cons.mp hv with rfl | hv
  · exact ⟨.inl rfl, fun l h => by cases h⟩
  rcases List.mem_cons.mp hv with rfl | hv
  · exact ⟨.inl rfl, fun l h => by cases h⟩
  · cases hv
theorem sp0 {v b c : D} (hv : v ∈ B0) : Spoilt v b c "line" v := spoilt_of (List.all_eq_true.mp ok0 v hv) fun S h1 h2 h3 => by
  obtain ⟨p, q⟩ := b0_bad v hv
  exact .inl ⟨v, p, fun l hl x hx => (by rw [q l hl] at hx; cases hx), h1 rfl⟩
theorem sp1 {ls : List Ln} {t : Ln} {n : Int} {v b c : D} {i : Nat} (k : Kept ls t n) (hv : v ∈ B1) : Spoilt (.list ((ls.map lnD).take i ++ [v] ++ (ls.map lnD).drop i)) b c "line" v := spoilt_of (List.all_eq_true.mp ok1 v hv) fun S h1 h2 h3 => by
  have z := List.all_eq_true.mp line1 v hv
  rw [Bool.and_eq_true] at z
  obtain ⟨z1, z2⟩ := z
  refine .inl ⟨v, .inl ?_, fun l hl x hx => ?_, h1 rfl⟩
  · show ((ls.map lnD).take i ++ [v] ++ (ls.map lnD).drop i).find? (fun x => !lineB x) = some v
    rw [List.append_assoc, List.find?_append]
    have e : ((ls.map lnD).take i).find? (fun x => !lineB x) = none := List.find?_eq_none.mpr fun x hx => by
      obtain ⟨l, hl, rfl⟩ := List.mem_map.mp (List.mem_of_mem_take hx)
      rw [gl_line (k.gl l hl)]
      exact Bool.false_ne_true
    rw [e]
    show ((v :: (ls.map lnD).drop i).find? fun x => !lineB x) = some v
    rw [List.find?_cons, z1]
  · cases hl
    have good : ∀ x ∈ ls.map lnD, Lv 100 2 x := fun x hx => by
      obtain ⟨l, hl, rfl⟩ := List.mem_map.mp hx
      exact gl_lv (k.gl l hl)
    rcases List.mem_append.mp hx with hx | hx
    · rcases List.mem_append.mp hx with hx | hx
      · exact good x (List.mem_of_mem_take hx)
      · rw [List.mem_singleton.mp hx]; exact lv_of (by decide) z2
    · exact good x (List.mem_of_mem_drop hx)
theorem sp2 {ls : List Ln} {t : Ln} {n : Int} {v c : D} (k : Kept ls t n) (hv : v ∈ B2) : Spoilt (.list (ls.map lnD)) v c "sizes" .none := spoilt_of ok2 fun S h1 h2 h3 => by
  have e : dctB v = false := by
    rcases List.mem_cons.mp hv with rfl | hv
    · rfl
    rcases List.mem_cons.mp hv with rfl | hv
    · rfl
    rcases List.mem_cons.mp hv with rfl | hv
    · rfl
    rw [List.mem_singleton.mp hv]
    rfl
  exact .inr ⟨ls, k.ne, by have := k.len; omega, rfl, k.gl, .inl ⟨e, h2 rfl⟩⟩
theorem getM_put {m : KvD} {k k' : L2.Key} {z : D} : getM (putM m k z) k' = if k' = k then some z else getM m k' := by
  unfold getM putM
  by_cases h : (m.any fun p => decide (p.1 = k)) = true
  · rw [if_pos h, List.find?_map]
    have e : ((fun p : L2.Key × D => decide (p.1 = k')) ∘ fun p => if p.1 = k then (p.1, z) else p) = fun p => decide (p.1 = k') := by
      funext p
      show decide ((if p.1 = k then (p.1, z) else p).1 = k') = decide (p.1 = k')
      split <;> rfl
    rw [e]
    cases q : m.find? fun p => decide (p.1 = k') with
    | none =>
      have hk : k' ≠ k := fun e => by
        subst e
        obtain ⟨p, hp, z⟩ := List.any_eq_true.mp h
        exact absurd z (List.find?_eq_none.mp q p hp)
      rw [if_neg hk]
      rfl
    | some p =>
      have e1 := of_decide_eq_true (List.find?_some (p := fun p : L2.Key × D => decide (p.1 = k')) q)
      show some (if p.1 = k then (p.1, z) else p).2 = if k' = k then some z else some p.2
      by_cases hk : k' = k
      · rw [if_pos hk, if_pos (e1.trans hk)]
      · rw [if_neg hk, if_neg fun w => hk (e1.symm.trans w)]
  · rw [if_neg h, List.find?_append]
    by_cases hk : k' = k
    · subst hk
      have q : (m.find? fun p => decide (p.1 = k')) = none := List.find?_eq_none.mpr fun p hp w => h (List.any_eq_true.mpr ⟨p, hp, w⟩)
      rw [if_pos rfl, q]
      show ([(k', z)].find? fun p => decide (p.1 = k')).map (·.2) = some z
      rw [List.find?_cons, decide_eq_true rfl]
      rfl
    · rw [if_neg hk]
      have q : ([(k, z)].find? fun p : L2.Key × D => decide (p.1 = k')) = none := by
        rw [List.find?_cons, decide_eq_false fun w => hk w.symm]
        rfl
      rw [q, Option.or_none]
theorem find_one {fs : List Str} (nd : fs.Nodup) {x : Str} (hx : x ∈ fs) {p : Str → Bool} (h1 : p x = true) (h2 : ∀ y ∈ fs, y ≠ x → p y = false) : fs.find? p = some x := by
  induction fs with
  | nil => cases hx
  | cons y fs ih =>
    rw [List.nodup_cons] at nd
    rw [List.find?_cons]
    by_cases e : y = x
    · rw [e, h1]
    · rw [h2 y List.mem_cons_self e]
      rcases List.mem_cons.mp hx with z | z
      · exact absurd z.symm e
      · exact ih nd.2 z fun y hy => h2 y (List.mem_cons_of_mem _ hy)
theorem sp3 {ls : List Ln} {t : Ln} {n : Int} {x : Str} {z c : D} (k : Kept ls t n) (hN : x ∈ N6) (hx : ∃ l ∈ ls, x ∈ l.map (·.1)) (hz : z ∈ B3) : Spoilt (.list (ls.map lnD)) (.dict (kvD (putM (t.map keyM) (.inr x) z))) c "sizes" (.str x) := spoilt_of (List.all_eq_true.mp ok3 _ (List.mem_map.mpr ⟨x, hN, rfl⟩)) fun S h1 h2 h3 => by
  have bad : cnt 1 z = false := by
    rcases List.mem_cons.mp hz with rfl | hz
    · rfl
    rcases List.mem_cons.mp hz with rfl | hz
    · rfl
    rcases List.mem_cons.mp hz with rfl | hz
    · rfl
    rcases List.mem_cons.mp hz with rfl | hz
    · rfl
    rw [List.mem_singleton.mp hz]
    rfl
  have xs : x.length ≤ 100 := by
    obtain ⟨l, hl, hx⟩ := hx
    obtain ⟨p, hp, rfl⟩ := List.mem_map.mp hx
    exact (gl_as (k.gl l hl) p hp).1
  refine .inr ⟨ls, k.ne, by have := k.len; omega, rfl, k.gl, .inr (.inl ⟨_, rfl, x, xs, fun fs pw hm => find_one (pw_nd pw) ((hm x).mpr hx) ?_ fun y hy ne => ?_, h2 rfl⟩)⟩
  · rw [getM_put, if_pos rfl]
    show (!cnt 1 z) = true
    rw [bad]
    rfl
  · rw [getM_put, if_neg fun e => ne (by injection e)]
    obtain ⟨l, hl, hy⟩ := (hm y).mp hy
    obtain ⟨p, hp, rfl⟩ := List.mem_map.mp hy
    obtain ⟨a, b⟩ := kept_pos k l hl p hp
    rw [(getT_in a).1]
    show (!decide (1 ≤ getT t p.1)) = false
    rw [decide_eq_true b]
    rfl
theorem sp4 {ls : List Ln} {t : Ln} {n : Int} {v : D} (k : Kept ls t n) (hv : v ∈ B4) : Spoilt (.list (ls.map lnD)) (tabD t) v "count" v := spoilt_of (List.all_eq_true.mp ok4 v hv) fun S h1 h2 h3 => by
  have e : cnt 0 v = false := by
    rcases List.mem_cons.mp hv with rfl | hv
    · rfl
    rcases List.mem_cons.mp hv with rfl | hv
    · rfl
    rcases List.mem_cons.mp hv with rfl | hv
    · rfl
    rcases List.mem_cons.mp hv with rfl | hv
    · rfl
    rcases List.mem_cons.mp hv with rfl | hv
    · rfl
    rw [List.mem_singleton.mp hv]
    rfl
  exact .inr ⟨ls, k.ne, by have := k.len; omega, rfl, k.gl, .inr (.inr ⟨t, rfl, k.gt, kept_pos k, .inl ⟨e, h3 rfl⟩⟩)⟩
section
variable {ds : List D} {R : D → Prop}
theorem q_law_spoilt (h : cSpoilt ds R) : T_law_spoilt (endsP R) (pstart ds 11) := by
  obtain ⟨ls, t, n, rfl, k, hN, n0, r⟩ := h
  have l20 := k.len
  refine ⟨rfl, 5, rfl, by decide, by decide, fun w w0 w1 => ⟨_, ls, rfl, rfl, by omega, fun l hl => ⟨(k.gl l hl).len, gl_as (k.gl l hl)⟩, fun fs pw hm => ⟨_, _, rfl, ?_⟩⟩⟩
  have fas : ∀ x ∈ fs, AsT x := fun x hx => by
    obtain ⟨l, hl, hx⟩ := (hm x).mp hx
    obtain ⟨p, hp, rfl⟩ := List.mem_map.mp hx
    exact gl_as (k.gl l hl) p hp
  have flen : fs.length ≤ 50 := by
    have := nd_len (pw_nd pw) (ys := t.map (·.1)) fun x hx => by
      obtain ⟨l, hl, hx⟩ := (hm x).mp hx
      obtain ⟨p, hp, rfl⟩ := List.mem_map.mp hx
      exact k.fr l hl p hp
    rw [List.length_map] at this
    exact Nat.le_trans this k.gt.len
  refine ⟨rfl, small_sz (Nat.le_of_ble_eq_true rfl), small_sz (Nat.le_of_ble_eq_true rfl), small_sz (Nat.le_of_ble_eq_true rfl), _, B4, rfl, rfl, Nat.le_of_ble_eq_true rfl, Nat.le_of_ble_eq_true rfl, fun bad hb => ?_⟩
  refine ⟨rfl, rfl, _, rfl, ?_⟩
  show if PyData.eqv (.int w) (.int 0) = true then _ else _
  rw [eqv_int]
  refine ite2 (fun q => ?_) fun q => ?_
  · refine ⟨rfl, small_sz (Nat.le_of_ble_eq_true rfl), small_sz (Nat.le_of_ble_eq_true rfl), small_sz (Nat.le_of_ble_eq_true rfl), _, B0, rfl, rfl, Nat.le_of_ble_eq_true rfl, Nat.le_of_ble_eq_true rfl, fun v hv => ?_⟩
    refine ⟨rfl, small_sz (Nat.le_of_ble_eq_true rfl), _, _, rfl, rfl, Nat.le_of_ble_eq_true rfl, Nat.le_of_ble_eq_true rfl, fun b _ => ?_⟩
    refine ⟨rfl, small_sz (Nat.le_of_ble_eq_true rfl), _, _, rfl, rfl, Nat.le_of_ble_eq_true rfl, Nat.le_of_ble_eq_true rfl, fun c _ => ?_⟩
    exact ⟨small_sz (Nat.le_of_ble_eq_true rfl), small_sz (Nat.le_of_ble_eq_true rfl), r _ _ _ _ _ (sp0 hv)⟩
  refine ⟨rfl, rfl, _, rfl, ?_⟩
  show if PyData.eqv (.int w) (.int 1) = true then _ else _
  rw [eqv_int]
  refine ite2 (fun q => ?_) fun q => ?_
  · refine ⟨rfl, small_sz (Nat.le_of_ble_eq_true rfl), small_sz (Nat.le_of_ble_eq_true rfl), small_sz (Nat.le_of_ble_eq_true rfl), small_sz (Nat.le_of_ble_eq_true rfl), small_sz (Nat.le_of_ble_eq_true rfl), small_sz (Nat.le_of_ble_eq_true rfl), small_sz (Nat.le_of_ble_eq_true rfl), small_sz (Nat.le_of_ble_eq_true rfl), small_sz (Nat.le_of_ble_eq_true rfl), small_sz (Nat.le_of_ble_eq_true rfl), small_sz (Nat.le_of_ble_eq_true rfl), _, B1, rfl, rfl, Nat.le_of_ble_eq_true rfl, Nat.le_of_ble_eq_true rfl, fun v hv => ?_⟩
    refine ⟨rfl, _, rfl, .inl ⟨ls.map lnD, rfl, _, rfl, by omega, Int.lt_trans (by rw [List.length_map]; omega : (((ls.map lnD).length : Int) + 1) < 100) (by decide), fun i i0 i1 => ?_⟩⟩
    obtain ⟨i, rfl⟩ : ∃ j : Nat, i = j := ⟨i.toNat, by omega⟩
    have hi : i ≤ 20 := by rw [List.length_map] at i1; omega
    have c1 := cut_to (ls.map lnD) i
    have c2 := cut_from (ls.map lnD) i
    have n1 : (DL.cutD (ls.map lnD) none (some (i : Int))).length ≤ 20 := by rw [c1, List.length_take, List.length_map]; omega
    have n2 : (DL.cutD (ls.map lnD) (some (i : Int)) none).length ≤ 20 := by rw [c2, List.length_drop, List.length_map]; omega
    refine ⟨(i : Int), rfl, .inl ⟨ls.map lnD, rfl, small_sz (Nat.le_of_ble_eq_true rfl), small_sz ?_, (i : Int), rfl, .inl ⟨ls.map lnD, rfl, small_sz ?_, ?_⟩⟩⟩
    · show (DL.cutD (ls.map lnD) none (some (i : Int))).length + 1 ≤ 4000
      omega
    · rw [List.length_append]
      show (DL.cutD (ls.map lnD) none (some (i : Int))).length + 1 + (DL.cutD (ls.map lnD) (some (i : Int)) none).length ≤ 4000
      omega
    · refine ⟨rfl, small_sz (Nat.le_of_ble_eq_true rfl), _, _, rfl, rfl, Nat.le_of_ble_eq_true rfl, Nat.le_of_ble_eq_true rfl, fun b _ => ⟨small_sz (Nat.le_of_ble_eq_true rfl), small_sz (Nat.le_of_ble_eq_true rfl), ?_⟩⟩
      refine r _ _ _ _ _ ?_
      rw [c1, c2]
      exact sp1 k hv
  refine ⟨rfl, rfl, _, rfl, ?_⟩
  show if PyData.eqv (.int w) (.int 2) = true then _ else _
  rw [eqv_int]
  refine ite2 (fun q => ?_) fun q => ?_
  · refine ⟨rfl, small_sz (Nat.le_of_ble_eq_true rfl), small_sz (Nat.le_of_ble_eq_true rfl), _, B2, rfl, rfl, Nat.le_of_ble_eq_true rfl, Nat.le_of_ble_eq_true rfl, fun v hv => ?_⟩
    refine ⟨rfl, small_sz (Nat.le_of_ble_eq_true rfl), _, _, rfl, rfl, Nat.le_of_ble_eq_true rfl, Nat.le_of_ble_eq_true rfl, fun c _ => ?_⟩
    exact ⟨small_sz (Nat.le_of_ble_eq_true rfl), small_sz (Nat.le_of_ble_eq_true rfl), r _ _ _ _ _ (sp2 k hv)⟩
  have last : R (.tuple [.list (ls.map lnD), tabD t, bad, .tuple [.str "count", bad]]) := r _ _ _ _ _ (sp4 k hb)
  refine ⟨rfl, rfl, _, rfl, ?_⟩
  show if PyData.eqv (.int w) (.int 3) = true then _ else _
  rw [eqv_int]
  refine ite2 (fun q => ?_) fun q => ?_
  · refine ⟨small_sz (Nat.le_of_ble_eq_true rfl), shp_strs fas, rfl, _, rfl, ?_⟩
    have e2 : PyData.eqv (.list (fs.map .str)) (.list []) = decide (fs = []) := eqv_strs fs []
    show if (!PyData.eqv (.list (fs.map .str)) (.list [])) = true then _ else _
    rw [e2]
    refine ite2 (fun q => ?_) fun q => ?_
    · have ne : fs ≠ [] := fun z => by rw [decide_eq_true z] at q; exact absurd q (by decide)
      refine ⟨rfl, _, fs.map .str, rfl, rfl, by rw [List.length_map]; exact List.length_pos_iff.mpr ne, by rw [List.length_map]; omega, fun z hz => ?_⟩
      obtain ⟨x, hx, rfl⟩ := List.mem_map.mp hz
      have hx' := (hm x).mp hx
      have xN : x ∈ N6 := by
        obtain ⟨l, hl, hx⟩ := hx'
        obtain ⟨p, hp, rfl⟩ := List.mem_map.mp hx
        exact hN l hl p hp
      refine ⟨_, rfl, .inr ⟨t.map keyM, rfl, ?_⟩⟩
      refine ⟨rfl, small_sz (Nat.le_of_ble_eq_true rfl), _, B3, rfl, rfl, Nat.le_of_ble_eq_true rfl, Nat.le_of_ble_eq_true rfl, fun z hz => ⟨⟨_, rfl⟩, t.map keyM, .inr x, rfl, rfl, small_lt (by rw [List.length_map]; have := k.gt.len; omega), ?_⟩⟩
      refine ⟨rfl, small_sz (Nat.le_of_ble_eq_true rfl), _, _, rfl, rfl, Nat.le_of_ble_eq_true rfl, Nat.le_of_ble_eq_true rfl, fun c _ => ?_⟩
      exact ⟨small_sz (Nat.le_of_ble_eq_true rfl), small_sz (Nat.le_of_ble_eq_true rfl), r _ _ _ _ _ (sp3 k xN hx' hz)⟩
    · exact ⟨small_sz (Nat.le_of_ble_eq_true rfl), small_sz (Nat.le_of_ble_eq_true rfl), last⟩
  · exact ⟨small_sz (Nat.le_of_ble_eq_true rfl), small_sz (Nat.le_of_ble_eq_true rfl), last⟩
end
end P81

namespace P81
open PySem PySem.Spec PyProof.Rows L2 DL FT NL
variable [Tbs] [Bse]
theorem depth_all {n : Nat} : ∀ {l : List D}, (∀ d ∈ l, d.depth ≤ n) → PyData.depthAll l ≤ n
  | [], _ => by simp [PyData.depthAll]
  | d :: l, h => by
    have a := h d List.mem_cons_self
    have b := depth_all fun x hx => h x (List.mem_cons_of_mem _ hx)
    simp only [PyData.depthAll]
    omega
theorem lay_all : ∀ {l : List D}, (∀ d ∈ l, d.canLay0 = true) → PyData.canLayAll0 l = true
  | [], _ => by simp [PyData.canLayAll0]
  | d :: l, h => by
    have a := h d List.mem_cons_self
    have b := lay_all fun x hx => h x (List.mem_cons_of_mem _ hx)
    simp only [PyData.canLayAll0, a, b, Bool.and_self]
theorem lay_pr {p : Str × Int} (h : AsT p.1) : (prD2 p).canLay0 = true ∧ (prD2 p).depth ≤ 2 := by
  unfold prD2
  have a := as_lay h
  simp only [PyData.canLay0] at a
  refine ⟨?_, ?_⟩
  · simp only [PyData.canLay0, PyData.canLayAll0, a, Bool.and_self]
  · simp only [PyData.depth, PyData.depthAll]
    omega
theorem sm_ln {l : Ln} (g : GL l) : SmD 19 (lnD l) := by
  refine .inl ⟨?_, ?_⟩
  · unfold lnD
    simp only [PyData.canLay0]
    exact lay_all fun d hd => by
      obtain ⟨p, hp, rfl⟩ := List.mem_map.mp hd
      exact (lay_pr (gl_as g p hp)).1
  · unfold lnD
    simp only [PyData.depth]
    have := depth_all (n := 2) (l := l.map prD2) fun d hd => by
      obtain ⟨p, hp, rfl⟩ := List.mem_map.mp hd
      exact (lay_pr (gl_as g p hp)).2
    omega
theorem sm_tab {t : Ln} (g : GT t) : SmD 20 (tabD t) := by
  refine .inr (.inr ⟨t.map keyM, rfl, nd_keys g.nd, fun p hp => ?_⟩)
  obtain ⟨q, hq, rfl⟩ := List.mem_map.mp hp
  refine .inl ⟨?_, ?_⟩
  · show (PyData.int q.2).canLay0 = true
    simp only [PyData.canLay0]
  · show (PyData.int q.2).depth ≤ 18
    simp [PyData.depth]
theorem N6_pw : N6.Pairwise ltT := by decide +kernel
theorem N6_nm : N6.all nameB = true := by decide +kernel
theorem told_args [ExA] {K : PySem.W.Frag} (F : ExK K) {a b c : D} {w : Str} {v : D} {Rz : D → Prop} {good : List Ln → Ln → Int → Prop} (sp : Spoilt a b c w v) (r : Rz (.tuple [.str w, v])) : Args good (xrOf K toldCs Rz) a b c :=
  (sp.2.2.2 (xrOf K toldCs Rz) (fun e => xr_line F (by subst e; exact r)) (fun e => xr_sizes F (by subst e; exact r)) (fun e => xr_count F (by subst e; exact r))).mono fun _ _ _ _ h => h.elim
theorem sz_bd {t : Ln} {c d : Int} (hd : ∀ x ∈ t.map (·.1), getT t x ≤ d) (c0 : 0 ≤ c) (d0 : 0 ≤ d) : ∀ l : Ln, (∀ p ∈ l, p.1 ∈ t.map (·.1) ∧ 0 ≤ p.2 ∧ p.2 ≤ c) → szL t l ≤ l.length * (c * d)
  | [], _ => by show (0 : Int) ≤ ((0 : Nat) : Int) * (c * d); rw [Int.natCast_zero, Int.zero_mul]; exact Int.le_refl _
  | p :: l, h => by
    have ih := sz_bd hd c0 d0 l fun q hq => h q (List.mem_cons_of_mem _ hq)
    obtain ⟨h1, h2, h3⟩ := h p List.mem_cons_self
    have e : szL t (p :: l) = p.2 * getT t p.1 + szL t l := rfl
    have m : p.2 * getT t p.1 ≤ c * d := Int.le_trans (Int.mul_le_mul_of_nonneg_left (hd _ h1) h2) (Int.mul_le_mul_of_nonneg_right h3 d0)
    have e2 : (((p :: l).length : Nat) : Int) * (c * d) = (l.length : Int) * (c * d) + c * d := by
      rw [List.length_cons, Int.natCast_add, Int.add_mul]
      show _ = _ + _
      rw [show ((1 : Nat) : Int) = 1 from rfl, Int.one_mul]
    rw [e, e2]
    omega
/-- what the law draws -/
structure Drawn (fs : List Str) (ls : List Ln) (bs : Ln) : Prop where
  sub : fs.Sublist N6
  len : ls.length ≤ 6
  ne : ls ≠ []
  lk : ∀ l ∈ ls, (l.map (·.1)).Sublist fs ∧ ∀ p ∈ l, 1 ≤ p.2 ∧ p.2 < 10 ^ 22
  nb : bs.map (·.1) = fs
  vs : ∀ p ∈ bs, 1 ≤ p.2 ∧ p.2 ≤ 10 ^ 7
section
variable {fs : List Str} {ls : List Ln} {bs : Ln}
abbrev tOf (bs : Ln) : Ln := putT bs ("other" : Str) 5
theorem Drawn.nd (h : Drawn fs ls bs) : (bs.map (·.1)).Nodup := by rw [h.nb]; exact pw_nd (N6_pw.sublist h.sub)
theorem Drawn.inN (h : Drawn fs ls bs) : ∀ l ∈ ls, ∀ p ∈ l, p.1 ∈ N6 := fun l hl p hp => h.sub.subset ((h.lk l hl).1.subset (List.mem_map.mpr ⟨p, hp, rfl⟩))
theorem Drawn.gl (h : Drawn fs ls bs) : ∀ l ∈ ls, GL l := fun l hl => by
  have sb := (h.lk l hl).1.trans h.sub
  refine ⟨?_, fun p hp => List.all_eq_true.mp N6_nm _ (h.inN l hl p hp), fun p hp => ⟨((h.lk l hl).2 p hp).1, Int.lt_trans ((h.lk l hl).2 p hp).2 (by decide)⟩, N6_pw.sublist sb⟩
  have := sb.length_le
  rw [List.length_map] at this
  exact Nat.le_trans this (by decide)
theorem Drawn.tv (h : Drawn fs ls bs) : ∀ p ∈ tOf bs, 1 ≤ p.2 ∧ p.2 ≤ 10 ^ 7 := fun p hp => by
  rcases putT_mem.mp hp with rfl | ⟨hp, _⟩
  · exact ⟨by decide, by decide⟩
  · exact h.vs p hp
theorem Drawn.names (h : Drawn fs ls bs) : ∀ x, x ∈ (tOf bs).map (·.1) ↔ x ∈ fs ∨ x = ("other" : Str) := fun x => by
  rw [putT_names, h.nb]
  split
  · rename_i q
    exact ⟨.inl, fun z => z.elim id fun e => by rw [e]; exact q⟩
  · rw [List.mem_append, List.mem_singleton]
theorem Drawn.over (h : Drawn fs ls bs) : Over ls (tOf bs) where
  ne := h.ne
  len := by have := h.len; omega
  gl := h.gl
  gt := {
    len := by
      have a : (tOf bs).length = ((tOf bs).map (·.1)).length := by rw [List.length_map]
      rw [a, putT_names, h.nb]
      have := h.sub.length_le
      have e : N6.length = 6 := rfl
      split
      · omega
      · rw [List.length_append]; show fs.length + 1 ≤ 50; omega
    nm := fun p hp => by
      rcases (h.names p.1).mp (List.mem_map.mpr ⟨p, hp, rfl⟩) with z | z
      · exact name_as (List.all_eq_true.mp N6_nm _ (h.sub.subset z))
      · rw [z]; exact as_of rfl
    vl := fun p hp => by have := h.tv p hp; exact ⟨by omega, Int.lt_of_le_of_lt this.2 (by decide)⟩
    nd := putT_nd h.nd }
  fr := fun l hl p hp => (h.names p.1).mpr (.inl ((h.lk l hl).1.subset (List.mem_map.mpr ⟨p, hp, rfl⟩)))
theorem Drawn.size (h : Drawn fs ls bs) : ∀ l ∈ ls, szL (tOf bs) l < 10 ^ 31 := fun l hl => by
  have o := h.over
  have b := sz_bd (t := tOf bs) (c := 10 ^ 22) (d := 10 ^ 7) (fun x hx => by
    obtain ⟨p, hp, _, e⟩ := (getT_in hx).2
    rw [← e]
    exact (h.tv p hp).2) (by decide) (by decide) l fun p hp => ⟨o.fr l hl p hp, by have := ((h.lk l hl).2 p hp).1; omega, Int.le_of_lt ((h.lk l hl).2 p hp).2⟩
  have c := ((h.lk l hl).1.trans h.sub).length_le
  rw [List.length_map] at c
  have e : N6.length = 6 := rfl
  have d : (l.length : Int) * (10 ^ 22 * 10 ^ 7) ≤ 6 * (10 ^ 22 * 10 ^ 7) := Int.mul_le_mul_of_nonneg_right (by omega) (by decide)
  exact Int.lt_of_le_of_lt (Int.le_trans b d) (by decide)
theorem Drawn.kept (h : Drawn fs ls bs) {n : Int} (hn : n < 10 ^ 34) : Kept ls (tOf bs) n where
  toOver := h.over
  ps := fun p hp => ⟨(h.tv p hp).1, Int.lt_of_le_of_lt (h.tv p hp).2 (by decide)⟩
  n1 := hn
end
end P81

namespace P81
open PySem PySem.Spec PyProof.Rows L2 DL FT NL
variable [Tbs] [Bse] [ExA] {ds : List D} {R : D → Prop}
theorem q_law {K : PySem.W.Frag} (F : ExK K) (h : cLaw ds R) : Tlaw K (endsD R) (dstart ds 15) := by
  obtain ⟨ns, rfl, hl, r⟩ := h
  have p6 : CPow 10 6 := ⟨by decide, by decide, by decide⟩
  have p25 : CPow 10 25 := ⟨by decide, by decide, by decide⟩
  have e6 : (10 : Int) ^ (6 : Int).toNat = 1000000 := by decide
  have e25 : (10 : Int) ^ (25 : Int).toNat = 10000000000000000000000000 := by decide
  refine ⟨_, rfl, .inl ⟨ns.map .int, rfl, ?_⟩⟩
  rw [List.length_map]
  refine ⟨_, _, rfl, _, _, rfl, _, rfl, ?_⟩
  have hb : ∃ j : Nat, (if (if ((ns.length : Int) < (6 : Int)) then (ns.length : Int) else 6) > 1 then (if ((ns.length : Int) < (6 : Int)) then (ns.length : Int) else 6) else 1) = (j : Int) ∧ j ≤ 6 := by
    by_cases q : (ns.length : Int) < 6
    · rw [if_pos q]
      by_cases q2 : (ns.length : Int) > 1
      · rw [if_pos q2]; exact ⟨ns.length, rfl, by omega⟩
      · rw [if_neg q2]; exact ⟨1, rfl, by decide⟩
    · rw [if_neg q]
      exact ⟨6, by decide, by decide⟩
  obtain ⟨j, ej, hj⟩ := hb
  rw [ej]
  refine ⟨by omega, by omega, fun i ρ => ∃ s1 s2 s3 s4 s5 s6 s7 s8 s9 s10 s11 s12 s13 : Sl, ρ = [.fz (.list (ns.map .int)), s1, s2, s3, s4, s5, s6, s7, s8, s9, s10, s11, s12, s13, .no], ⟨_, _, _, _, _, _, _, _, _, _, _, _, _, rfl⟩, fun i z ρ hi w => ?_, fun ρ w => r⟩
  obtain ⟨s1, s2, s3, s4, s5, s6, s7, s8, s9, s10, s11, s12, s13, rfl⟩ := w
  obtain ⟨k, rfl⟩ : ∃ k : Nat, z = .int k := by
    obtain ⟨hlt, e⟩ := List.getElem?_eq_some_iff.mp hi
    exact ⟨i, by rw [← e]; simp [intsTo]⟩
  refine ⟨⟨ns, k, rfl, by omega⟩, rfl, 4, rfl, by decide, by decide, fun fs hne hsub => ?_⟩
  try simp only [List.set_cons_succ, List.set_cons_zero]
  refine ⟨rfl, rfl, 6, rfl, by decide, by decide, fun m m0 m1 => ?_⟩
  obtain ⟨m, rfl⟩ : ∃ k : Nat, m = k := ⟨m.toNat, by omega⟩
  refine ⟨fs, 1 + m, by rw [Int.natCast_add]; rfl, hsub, by omega, by omega, fun ls hlen hls => ?_⟩
  try simp only [List.set_cons_succ, List.set_cons_zero]
  refine ⟨rfl, _, _, rfl, rfl, p6, small_sz (Nat.le_of_ble_eq_true rfl), _, _, rfl, rfl, Nat.le_of_ble_eq_true rfl, Nat.le_of_ble_eq_true rfl, fun z hz => ?_⟩
  obtain ⟨u, rfl, u0, u1⟩ : ∃ u : Int, z = .int u ∧ 0 < u ∧ u ≤ 1000000 := by
    rcases List.mem_cons.mp hz with rfl | hz
    · exact ⟨3, rfl, by decide, by decide⟩
    · rw [List.mem_singleton.mp hz]
      exact ⟨_, rfl, by rw [e6]; decide, by rw [e6]; decide⟩
  have flen : fs.length ≤ 6 := hsub.length_le
  try simp only [List.set_cons_succ, List.set_cons_zero]
  refine ⟨fs.map .str, rfl, lc_someP (fun (x : Str) (p : Str × Int) => p.1 = x ∧ 1 ≤ p.2 ∧ p.2 ≤ 10 ^ 7) fs .str prD2 (small_lt (by omega)) (noOwn_of rfl) (fun x hx W1 w => ?_) fun bs tw => ?_⟩
  · exact ⟨rfl, u, rfl, u0, Int.lt_of_le_of_lt u1 (by decide), fun k k0 k1 => ⟨small_sz (Nat.le_of_ble_eq_true rfl), rfl, w (x, 1 + k) ⟨rfl, by show 1 ≤ 1 + k; omega, by show 1 + k ≤ 10 ^ 7; exact Int.le_trans (by omega : 1 + k ≤ 1000001) (by decide)⟩⟩⟩
  have dr : Drawn fs ls bs := by
    refine ⟨hsub, by omega, fun z => by rw [z] at hlen; have : (0 : Nat) = 1 + m := hlen; omega, hls, ?_, fun p hp => ?_⟩
    · have := tw.map (f := fun x : Str => x) (g := fun p : Str × Int => p.1) fun a b q => q.1
      rw [this]
      exact List.map_id _
    · obtain ⟨_, _, _, a, b⟩ := tw.right p hp
      exact ⟨a, b⟩
  have blen : bs.length ≤ 6 := by have := tw.len; omega
  refine ⟨_, rfl, .inl ⟨bs.map keyM, by rw [prm_tab]; rfl, ?_⟩⟩
  rw [merge_nd (nd_keys dr.nd)]
  try simp only [List.set_cons_succ, List.set_cons_zero]
  refine ⟨⟨_, rfl⟩, bs.map keyM, .inr "other", rfl, rfl, small_lt (by rw [List.length_map]; omega), ?_⟩
  rw [putM_put]
  try simp only [List.set_cons_succ, List.set_cons_zero]
  have o := dr.over
  refine ⟨_, _, rfl, rfl, _, rfl, .inr ⟨(tOf bs).map keyM, rfl, small_sz (Nat.le_of_ble_eq_true rfl), ls, tOf bs, rfl, o, fun d hd hmax => ⟨_, _, rfl, ?_⟩⟩⟩
  obtain ⟨l0, hl0, ed⟩ := hd
  try simp only [List.set_cons_succ, List.set_cons_zero]
  have d0 : 0 ≤ d := by rw [ed]; exact over_nn o hl0
  have d1 : d < 10 ^ 31 := by rw [ed]; exact dr.size l0 hl0
  refine ⟨rfl, _, _, rfl, rfl, p25, small_sz (Nat.le_of_ble_eq_true rfl), _, _, rfl, rfl, Nat.le_of_ble_eq_true rfl, Nat.le_of_ble_eq_true rfl, fun z hz => ?_⟩
  obtain ⟨q, rfl, q0, q1⟩ : ∃ q : Int, z = .int q ∧ 0 ≤ q ∧ q < 10 ^ 31 := by
    rcases List.mem_cons.mp hz with rfl | hz
    · exact ⟨0, rfl, by decide, by decide⟩
    rcases List.mem_cons.mp hz with rfl | hz
    · exact ⟨0, rfl, by decide, by decide⟩
    rcases List.mem_cons.mp hz with rfl | hz
    · exact ⟨1, rfl, by decide, by decide⟩
    rcases List.mem_cons.mp hz with rfl | hz
    · exact ⟨5, rfl, by decide, by decide⟩
    rcases List.mem_cons.mp hz with rfl | hz
    · exact ⟨100, rfl, by decide, by decide⟩
    rcases List.mem_cons.mp hz with rfl | hz
    · exact ⟨d, rfl, d0, d1⟩
    · rw [List.mem_singleton.mp hz]
      exact ⟨_, rfl, by rw [e25]; decide, by rw [e25]; decide⟩
  try simp only [List.set_cons_succ, List.set_cons_zero]
  have n34 : d + q < 10 ^ 34 := Int.lt_trans (by omega : d + q < 2 * 10 ^ 31) (by decide)
  have n0 : 0 ≤ d + q := by omega
  have kp := dr.kept n34
  refine ⟨ls, tOf bs, d + q, rfl, kp, fun l hl => by have := hmax l hl; omega, true, rfl, iteF ?_⟩
  refine ⟨rfl, _, _, rfl, rfl, rfl, _, _, rfl, _, rfl, ?_⟩
  have mx : 0 < (if d > 1 then d else 1) ∧ (if d > 1 then d else 1) ≤ d + 1 ∧ (0 < d → (if d > 1 then d else 1) ≤ d) := by
    split
    · exact ⟨by omega, by omega, fun _ => by omega⟩
    · exact ⟨by omega, by omega, fun _ => by omega⟩
  refine ⟨mx.1, Int.lt_of_le_of_lt mx.2.1 (Int.lt_trans (by omega : d + 1 < 10 ^ 31 + 1) (by decide)), fun x x0 x1 => ?_⟩
  refine ⟨small_sz (Nat.le_of_ble_eq_true rfl), _, _, rfl, rfl, Nat.le_of_ble_eq_true rfl, Nat.le_of_ble_eq_true rfl, fun z hz => ?_⟩
  obtain ⟨le, rfl, lq⟩ : ∃ le : Int, z = .int le ∧ (0 < d → 0 ≤ le ∧ le < d) := by
    rcases List.mem_cons.mp hz with rfl | hz
    · exact ⟨_, rfl, fun h => by omega⟩
    · rw [List.mem_singleton.mp hz]
      exact ⟨_, rfl, fun h => ⟨x0, by have := mx.2.2 h; omega⟩⟩
  try simp only [List.set_cons_succ, List.set_cons_zero]
  refine ⟨_, rfl, ?_⟩
  have exq : 0 < d → le < 10 ^ 34 ∧ 0 ≤ le ∧ ∃ l ∈ ls, le < szL (tOf bs) l := fun h => ⟨by have := (lq h).2; omega, (lq h).1, l0, hl0, by have := (lq h).2; omega⟩
  refine (fun rest => ite2 (fun c => ⟨ls, tOf bs, le, rfl, dr.kept (exq (of_decide_eq_true c)).1, (exq (of_decide_eq_true c)).2.1, (exq (of_decide_eq_true c)).2.2, true, rfl, iteF rest⟩) (fun c => iteF rest)) ?_
  refine ⟨rfl, ls, tOf bs, d + q, rfl, kp, dr.inN, n0, fun a b c w v sp => ⟨_, rfl, rfl, _, _, rfl, _, _, rfl, _, _, rfl, _, _, rfl, rfl, ?_⟩⟩
  try simp only [List.set_cons_succ, List.set_cons_zero]
  have ev : ∀ (x : Str), (!PyData.eqv (.str x) (.str x)) = false := fun x => by rw [eqv_text]; rfl
  have sh : shp (.str (PyData.shown (.tuple [.str w, v]))) = true := shp_str sp.2.2.1
  refine fun W => ?_
  try simp only [frzAll, List.map_cons, List.map_nil, frzS, List.set_cons_succ, List.set_cons_zero]
  refine ⟨a, b, c, rfl, told_args F sp ⟨sp.1, sp.1, sh, sh, _, rfl, ?_⟩⟩
  show if (!PyData.eqv (.str (PyData.shown (.tuple [.str w, v]))) (.str (PyData.shown (.tuple [.str w, v])))) = true then _ else _
  rw [ev]
  refine iteF fun W => ?_
  try simp only [frzAll, List.map_cons, List.map_nil, frzS, List.set_cons_succ, List.set_cons_zero]
  refine ⟨a, b, c, rfl, told_args F sp ⟨sp.1, sp.1, sh, sh, _, rfl, ?_⟩⟩
  show if (!PyData.eqv (.str (PyData.shown (.tuple [.str w, v]))) (.str (PyData.shown (.tuple [.str w, v])))) = true then _ else _
  rw [ev]
  refine iteF ⟨small_sz (Nat.le_of_ble_eq_true rfl), _, rfl, rfl, fun x hx => ?_, false, rfl, iteF ⟨_, _, _, _, _, _, _, _, _, _, _, _, _, rfl⟩⟩
  rcases List.mem_cons.mp hx with rfl | hx
  · exact .inr (.inl ⟨_, rfl, fun x hx => by
      obtain ⟨l, hl, rfl⟩ := List.mem_map.mp hx
      exact sm_ln (o.gl l hl)⟩)
  · rw [List.mem_singleton.mp hx]
    exact sm_tab o.gt
end P81

namespace P81
open PySem PySem.Spec PyProof.Rows L2 DL FT NL LamX NdefX
theorem exm_b {K : PySem.W.Frag} {C D : Addr} {b : Bool} (h1 : PySem.W.subIn K (.ref D) (.type "BaseException") = some true) (h2 : PySem.W.isClsIn K D = true) (h3 : PySem.W.typeIn K (.ref D) = some (.type "type")) (h4 : PySem.W.subIn K (.ref C) (.ref D) = some b) : PySem.W.exmOne K (.ref C) (.ref D) = some b := by
  have e1 : (PySem.W.subIn K (.ref D) (.type "BaseException") == some true) = true := by rw [h1] <;> rfl
  have e2 : ((PySem.W.clsIn K D).isSome && PySem.W.typeIn K (.ref D) == some (.type "type")) = true := by
    have h2' : (PySem.W.clsIn K D).isSome = true := h2
    rw [h2', h3] <;> rfl
  show (if (PySem.W.subIn K (.ref D) (.type "BaseException") == some true) = true then (if ((PySem.W.clsIn K D).isSome && PySem.W.typeIn K (.ref D) == some (.type "type")) = true then PySem.W.subIn K (.ref C) (.ref D) else none) else none) = some b
  rw [if_pos e1, if_pos e2]
  exact h4
theorem kit_b {K : PySem.W.Frag} {C D : Addr} (h2 : PySem.W.isClsIn K D = true) (h3 : PySem.W.typeIn K (.ref D) = some (.type "type")) (h4 : PySem.W.subIn K (.ref C) (.ref D) = some true) : PySem.W.kitOne K (.ref C) (.ref D) = some true := by
  have e2 : ((PySem.W.clsIn K D).isSome && PySem.W.typeIn K (.ref D) == some (.type "type")) = true := by
    have h2' : (PySem.W.clsIn K D).isSome = true := h2
    rw [h2', h3] <;> rfl
  show (if (Value.ref C == Value.ref D) = true then some true else (if ((PySem.W.clsIn K D).isSome && PySem.W.typeIn K (.ref D) == some (.type "type")) = true then PySem.W.subIn K (.ref C) (.ref D) else none)) = some true
  by_cases h : (Value.ref C == Value.ref D) = true
  · rw [if_pos h]
  · rw [if_neg h, if_pos e2]
    exact h4
section
variable [Tbs] [Bse] [ExA]
variable {P : Program} {w : World} {K : PySem.W.Frag} {mg : Str → Option Value} {base : Heap} {f : Addr} {fd : FuncData} {k : Nat}
theorem c_law_draw (F : Fun K "_law_draw" "_law_draw" s_law_draw f fd) (bn : mg "_law_draw" = some (.ref f)) (md : mg "divmod" = none) (mi : mg "int" = none) : CalG P w K mg base (k + 1) "_law_draw" s_law_draw ["_law_pot_here", "_law_many"] (spP K cDrawW) :=
  CalG.of F bn (FnG.of (ok_drawW F sc_law_draw rfl rfl fun cdv A outer s H E hr => (pss_cons (ps_if (pt_cmpR op_gt (pe_ix ix_list (pv 0) pe_int (fun _ _ => rfl)) pe_int (nomark _))
      (pss_cons (ps_asg (pe_callB call_divmodW (by rfl) md (by decide +kernel) (pa_cons (pe_ix ix_list (pv 0) pe_int (fun _ _ => rfl)) (pa_cons (pv 1) pa_nil)))
        (pg_tup rfl (pgs_cons (pg_sub (pv 0) pe_int set_list) (pgs_cons (pg_name (i := 2) sc_law_draw.nd rfl (.inl rfl)) pgs_nil)))) (pss_one (ps_ret (pv 2)))) pss_nil)
      (pss_cons (ps_asg (pe_op op_mod (pe_callTy call_int1 (by rfl) mi (by decide +kernel) (pa_cons (pe_op op_add (pe_op op_mul (pe_ix ix_list (pv 0) pe_int (fun _ _ => rfl)) pe_int) pe_int) pa_nil)) pe_int) (pg_sub (pv 0) pe_int set_list))
      (pss_one (ps_ret (pe_op op_mod (pe_callTy call_int1 (by rfl) mi (by decide +kernel) (pa_cons (pe_op op_fdiv (pe_op op_mod (pe_callTy call_int1 (by rfl) mi (by decide +kernel) (pa_cons (pe_op op_mul (pe_ix ix_list (pv 0) pe_int (fun _ _ => rfl)) (pe_ix ix_list (pv 0) pe_int (fun _ _ => rfl))) pa_nil)) pe_int) pe_int) pa_nil)) (pv 1))))))))
theorem c_law_pot (F : Fun K "_law_pot" "_law_pot" s_law_pot f fd) (bn : mg "_law_pot" = some (.ref f)) (ml : mg "len" = none) (ma : mg "abs" = none) (mm : mg "max" = none) (mi : mg "int" = none) : CalG P w K mg base (k + 1) "_law_pot" s_law_pot ["_law_script", "_law_index"] (spNewP K cPot) :=
  CalG.of F bn (FnG.of (ok_pot F sc_law_pot rfl rfl fun cdv A outer s H E hr => pss_cons (ps_set (i := 2) sc_law_pot.nd rfl (.inl rfl) (pe_ifExp (pt_cmpR op_lt (pv 1) (pe_callB call_len_seq (by rfl) ml (by decide +kernel) (pa_cons (pv 0) pa_nil)) (nomark _))
        (pe_callB call_abs (by rfl) ma (by decide +kernel) (pa_cons (pe_ix ix_list (pv 0) (pv 1) (fun _ _ => rfl)) pa_nil)) (pe_op op_add (pe_op op_mul pe_int (pv 1)) pe_int)))
      (pss_one (ps_ret (pe_lst (pa_cons (pe_callB (call_max2 rfl) (by rfl) mm (by decide +kernel) (pa_cons pe_int (pa_cons (pe_op op_sub (pv 2) (pe_op op_pow pe_int pe_int)) pa_nil)))
        (pa_cons (pe_op op_mod (pe_callTy call_int1 (by rfl) mi (by decide +kernel) (pa_cons (pe_op op_add (pe_op op_add (pe_op op_mul (pe_op op_mod (pe_callTy call_int1 (by rfl) mi (by decide +kernel) (pa_cons (pv 2) pa_nil)) pe_int) pe_int) (pe_op op_mul pe_int (pv 1))) pe_int) pa_nil)) pe_int) pa_nil)))))))
theorem cis_count (F : Fun K "is_count" "is_count" sis_count f fd) (bn : mg "is_count" = some (.ref f)) (m_isinstance : mg "isinstance" = none) (m_int : mg "int" = none) (m_bool : mg "bool" = none) : CalD P w K mg base (k + 1) "is_count" (spD K cCount) :=
  CalD.of F bn bpis_count (ok_D F scis_count (by decide) (fun ds R h => (by first | (obtain ⟨e, _⟩ := h; rw [e]; rfl) | (obtain ⟨_, e, _⟩ := h; rw [e]; rfl) | (obtain ⟨_, _, e, _⟩ := h; rw [e]; rfl) | (obtain ⟨_, _, _, e, _⟩ := h; rw [e]; rfl) | (obtain ⟨_, _, _, _, e, _⟩ := h; rw [e]; rfl) | (obtain ⟨_, _, _, _, _, e, _⟩ := h; rw [e]; rfl))) (bis_count m_isinstance m_int m_bool) fun ds R h => q_is_count h)
theorem cis_list (F : Fun K "is_list" "is_list" sis_list f fd) (bn : mg "is_list" = some (.ref f)) (m_isinstance : mg "isinstance" = none) (m_list : mg "list" = none) (m_tuple : mg "tuple" = none) : CalD P w K mg base (k + 1) "is_list" (spD K cIsList) :=
  CalD.of F bn bpis_list (ok_D F scis_list (by decide) (fun ds R h => (by first | (obtain ⟨e, _⟩ := h; rw [e]; rfl) | (obtain ⟨_, e, _⟩ := h; rw [e]; rfl) | (obtain ⟨_, _, e, _⟩ := h; rw [e]; rfl) | (obtain ⟨_, _, _, e, _⟩ := h; rw [e]; rfl) | (obtain ⟨_, _, _, _, e, _⟩ := h; rw [e]; rfl) | (obtain ⟨_, _, _, _, _, e, _⟩ := h; rw [e]; rfl))) (bis_list m_isinstance m_list m_tuple) fun ds R h => q_is_list h)
theorem cis_tuple_of (F : Fun K "is_tuple_of" "is_tuple_of" sis_tuple_of f fd) (bn : mg "is_tuple_of" = some (.ref f)) (m_isinstance : mg "isinstance" = none) (m_tuple : mg "tuple" = none) (m_len : mg "len" = none) : CalD P w K mg base (k + 1) "is_tuple_of" (spD K cTupOf) :=
  CalD.of F bn bpis_tuple_of (ok_D F scis_tuple_of (by decide) (fun ds R h => (by first | (obtain ⟨e, _⟩ := h; rw [e]; rfl) | (obtain ⟨_, e, _⟩ := h; rw [e]; rfl) | (obtain ⟨_, _, e, _⟩ := h; rw [e]; rfl) | (obtain ⟨_, _, _, e, _⟩ := h; rw [e]; rfl) | (obtain ⟨_, _, _, _, e, _⟩ := h; rw [e]; rfl) | (obtain ⟨_, _, _, _, _, e, _⟩ := h; rw [e]; rfl))) (bis_tuple_of m_isinstance m_tuple m_len) fun ds R h => q_is_tuple_of h)
theorem csize_of (F : Fun K "size_of" "size_of" ssize_of f fd) (bn : mg "size_of" = some (.ref f)) (m_sum : mg "sum" = none) : CalD P w K mg base (k + 1) "size_of" (spD K cSizeOf) :=
  CalD.of F bn bpsize_of (ok_D F scsize_of (by decide) (fun ds R h => (by first | (obtain ⟨e, _⟩ := h; rw [e]; rfl) | (obtain ⟨_, e, _⟩ := h; rw [e]; rfl) | (obtain ⟨_, _, e, _⟩ := h; rw [e]; rfl) | (obtain ⟨_, _, _, e, _⟩ := h; rw [e]; rfl) | (obtain ⟨_, _, _, _, e, _⟩ := h; rw [e]; rfl) | (obtain ⟨_, _, _, _, _, e, _⟩ := h; rw [e]; rfl))) (bsize_of m_sum) fun ds R h => q_size_of h)
theorem cframes_in (F : Fun K "frames_in" "frames_in" sframes_in f fd) (bn : mg "frames_in" = some (.ref f)) (m_sorted : mg "sorted" = none) (m_set : mg "set" = none) : CalD P w K mg base (k + 1) "frames_in" (spD K cFrames) :=
  CalD.of F bn bpframes_in (ok_D F scframes_in (by decide) (fun ds R h => (by first | (obtain ⟨e, _⟩ := h; rw [e]; rfl) | (obtain ⟨_, e, _⟩ := h; rw [e]; rfl) | (obtain ⟨_, _, e, _⟩ := h; rw [e]; rfl) | (obtain ⟨_, _, _, e, _⟩ := h; rw [e]; rfl) | (obtain ⟨_, _, _, _, e, _⟩ := h; rw [e]; rfl) | (obtain ⟨_, _, _, _, _, e, _⟩ := h; rw [e]; rfl))) (bframes_in m_sorted m_set) fun ds R h => q_frames_in h)
theorem ccheck_sizes (F : Fun K "check_sizes" "check_sizes" scheck_sizes f fd) (bn : mg "check_sizes" = some (.ref f)) (Cis_count : CalD P w K mg base k "is_count" (spD K cCount)) (E_InvalidSizes : ExI P w K mg base k "InvalidSizes" ExA.InvalidSizes "name" shortV) (m_isinstance : mg "isinstance" = none) (m_dict : mg "dict" = none) : CalXK P w K mg base (k + 2) "check_sizes" scheck_sizes ["frames", "sizes"] (spX K cChkSizes) :=
  CalXK.of F bn (ok_XK F sccheck_sizes (by decide) (fun ds R Z h => (by first | (obtain ⟨e, _⟩ := h; rw [e]; rfl) | (obtain ⟨_, e, _⟩ := h; rw [e]; rfl) | (obtain ⟨_, _, e, _⟩ := h; rw [e]; rfl) | (obtain ⟨_, _, _, e, _⟩ := h; rw [e]; rfl) | (obtain ⟨_, _, _, _, e, _⟩ := h; rw [e]; rfl) | (obtain ⟨_, _, _, _, _, e, _⟩ := h; rw [e]; rfl))) (bcheck_sizes Cis_count E_InvalidSizes m_isinstance m_dict) fun ds R Z W h => q_check_sizes h)
theorem ccheck_limit (F : Fun K "check_limit" "check_limit" scheck_limit f fd) (bn : mg "check_limit" = some (.ref f)) (Cis_count : CalD P w K mg base k "is_count" (spD K cCount)) (E_InvalidCount : ExI P w K mg base k "InvalidCount" ExA.InvalidCount "value" (fun _ => True)) : CalXK P w K mg base (k + 2) "check_limit" scheck_limit ["limit"] (spX K cChkLimit) :=
  CalXK.of F bn (ok_XK F sccheck_limit (by decide) (fun ds R Z h => (by first | (obtain ⟨e, _⟩ := h; rw [e]; rfl) | (obtain ⟨_, e, _⟩ := h; rw [e]; rfl) | (obtain ⟨_, _, e, _⟩ := h; rw [e]; rfl) | (obtain ⟨_, _, _, e, _⟩ := h; rw [e]; rfl) | (obtain ⟨_, _, _, _, e, _⟩ := h; rw [e]; rfl) | (obtain ⟨_, _, _, _, _, e, _⟩ := h; rw [e]; rfl))) (bcheck_limit Cis_count E_InvalidCount) fun ds R Z W h => q_check_limit h)
theorem cis_name (F : Fun K "is_name" "is_name" sis_name f fd) (bn : mg "is_name" = some (.ref f)) (m_isinstance : mg "isinstance" = none) (m_str : mg "str" = none) (m_len : mg "len" = none) {t_LONGEST_NAME : Tok} (m_LONGEST_NAME : mg "LONGEST_NAME" = some (.int 8 t_LONGEST_NAME)) {a_IS_RESERVED : Addr} {es_IS_RESERVED : Array DictEntry} {n_IS_RESERVED : Nat} (m_IS_RESERVED : mg "IS_RESERVED" = some (.ref a_IS_RESERVED)) (KD_IS_RESERVED : KDict K w a_IS_RESERVED es_IS_RESERVED n_IS_RESERVED) (hKD_IS_RESERVED : ∀ z, ∃ r, PySem.W.nsIn K a_IS_RESERVED z = some r ∧ r.isSome = NL.resB z) : CalD P w K mg base (k + 1) "is_name" (spD K cName) :=
  CalD.of F bn bpis_name (ok_D F scis_name (by decide) (fun ds R h => (by first | (obtain ⟨e, _⟩ := h; rw [e]; rfl) | (obtain ⟨_, e, _⟩ := h; rw [e]; rfl) | (obtain ⟨_, _, e, _⟩ := h; rw [e]; rfl) | (obtain ⟨_, _, _, e, _⟩ := h; rw [e]; rfl) | (obtain ⟨_, _, _, _, e, _⟩ := h; rw [e]; rfl) | (obtain ⟨_, _, _, _, _, e, _⟩ := h; rw [e]; rfl))) (bis_name m_isinstance m_str m_len m_LONGEST_NAME m_IS_RESERVED KD_IS_RESERVED hKD_IS_RESERVED) fun ds R h => q_is_name h)
theorem c_is_part (F : Fun K "_is_part" "_is_part" s_is_part f fd) (bn : mg "_is_part" = some (.ref f)) (Cis_tuple_of : CalD P w K mg base k "is_tuple_of" (spD K cTupOf)) (Cis_name : CalD P w K mg base k "is_name" (spD K cName)) (Cis_count : CalD P w K mg base k "is_count" (spD K cCount)) : CalD P w K mg base (k + 1) "_is_part" (spD K cPart) :=
  CalD.of F bn bp_is_part (ok_D F sc_is_part (by decide) (fun ds R h => (by first | (obtain ⟨e, _⟩ := h; rw [e]; rfl) | (obtain ⟨_, e, _⟩ := h; rw [e]; rfl) | (obtain ⟨_, _, e, _⟩ := h; rw [e]; rfl) | (obtain ⟨_, _, _, e, _⟩ := h; rw [e]; rfl) | (obtain ⟨_, _, _, _, e, _⟩ := h; rw [e]; rfl) | (obtain ⟨_, _, _, _, _, e, _⟩ := h; rw [e]; rfl))) (b_is_part Cis_tuple_of Cis_name Cis_count) fun ds R h => q_is_part h)
theorem cis_line (F : Fun K "is_line" "is_line" sis_line f fd) (bn : mg "is_line" = some (.ref f)) (C_is_part : CalD P w K mg base k "_is_part" (spD K cPart)) (m_all : mg "all" = none) (m_range : mg "range" = none) (m_len : mg "len" = none) (m_isinstance : mg "isinstance" = none) (m_tuple : mg "tuple" = none) : CalD P w K mg base (k + 1) "is_line" (spD K cLine) :=
  CalD.of F bn bpis_line (ok_D F scis_line (by decide) (fun ds R h => (by first | (obtain ⟨e, _⟩ := h; rw [e]; rfl) | (obtain ⟨_, e, _⟩ := h; rw [e]; rfl) | (obtain ⟨_, _, e, _⟩ := h; rw [e]; rfl) | (obtain ⟨_, _, _, e, _⟩ := h; rw [e]; rfl) | (obtain ⟨_, _, _, _, e, _⟩ := h; rw [e]; rfl) | (obtain ⟨_, _, _, _, _, e, _⟩ := h; rw [e]; rfl))) (bis_line C_is_part m_all m_range m_len m_isinstance m_tuple) fun ds R h => q_is_line h)
theorem ccheck_line (F : Fun K "check_line" "check_line" scheck_line f fd) (bn : mg "check_line" = some (.ref f)) (Cis_line : CalD P w K mg base k "is_line" (spD K cLine)) (E_InvalidLine : ExI P w K mg base k "InvalidLine" ExA.InvalidLine "value" (fun _ => True)) : CalXK P w K mg base (k + 2) "check_line" scheck_line ["line"] (spX K cChkLine) :=
  CalXK.of F bn (ok_XK F sccheck_line (by decide) (fun ds R Z h => (by first | (obtain ⟨e, _⟩ := h; rw [e]; rfl) | (obtain ⟨_, e, _⟩ := h; rw [e]; rfl) | (obtain ⟨_, _, e, _⟩ := h; rw [e]; rfl) | (obtain ⟨_, _, _, e, _⟩ := h; rw [e]; rfl) | (obtain ⟨_, _, _, _, e, _⟩ := h; rw [e]; rfl) | (obtain ⟨_, _, _, _, _, e, _⟩ := h; rw [e]; rfl))) (bcheck_line Cis_line E_InvalidLine) fun ds R Z W h => q_check_line h)
theorem ccheck_lines (F : Fun K "check_lines" "check_lines" scheck_lines f fd) (bn : mg "check_lines" = some (.ref f)) (Xcheck_line : CalXK P w K mg base k "check_line" scheck_line ["line"] (spX K cChkLine)) (Cis_list : CalD P w K mg base k "is_list" (spD K cIsList)) (E_InvalidLine : ExI P w K mg base k "InvalidLine" ExA.InvalidLine "value" (fun _ => True)) : CalXK P w K mg base (k + 2) "check_lines" scheck_lines ["lines"] (spX K cChkLines) :=
  CalXK.of F bn (ok_XK F sccheck_lines (by decide) (fun ds R Z h => (by first | (obtain ⟨e, _⟩ := h; rw [e]; rfl) | (obtain ⟨_, e, _⟩ := h; rw [e]; rfl) | (obtain ⟨_, _, e, _⟩ := h; rw [e]; rfl) | (obtain ⟨_, _, _, e, _⟩ := h; rw [e]; rfl) | (obtain ⟨_, _, _, _, e, _⟩ := h; rw [e]; rfl) | (obtain ⟨_, _, _, _, _, e, _⟩ := h; rw [e]; rfl))) (bcheck_lines Xcheck_line Cis_list E_InvalidLine) fun ds R Z W h => q_check_lines h)
theorem c_check (F : Fun K "_check" "_check" s_check f fd) (bn : mg "_check" = some (.ref f)) (Csize_of : CalD P w K mg base k "size_of" (spD K cSizeOf)) (Xcheck_limit : CalXK P w K mg base k "check_limit" scheck_limit ["limit"] (spX K cChkLimit)) (Xcheck_sizes : CalXK P w K mg base k "check_sizes" scheck_sizes ["frames", "sizes"] (spX K cChkSizes)) (Cframes_in : CalD P w K mg base k "frames_in" (spD K cFrames)) (Xcheck_lines : CalXK P w K mg base k "check_lines" scheck_lines ["lines"] (spX K cChkLines)) (Cis_list : CalD P w K mg base k "is_list" (spD K cIsList)) (E_NoneFits : ExT P w K mg base k "NoneFits" ExA.NoneFits) (E_InvalidLine : ExI P w K mg base k "InvalidLine" ExA.InvalidLine "value" (fun _ => True)) (m_max : mg "max" = none) : CalXK P w K mg base (k + 2) "_check" s_check ["lines", "sizes", "limit"] (spX K cCheck) :=
  CalXK.of F bn (ok_XK F sc_check (by decide) (fun ds R Z h => (by first | (obtain ⟨e, _⟩ := h; rw [e]; rfl) | (obtain ⟨_, e, _⟩ := h; rw [e]; rfl) | (obtain ⟨_, _, e, _⟩ := h; rw [e]; rfl) | (obtain ⟨_, _, _, e, _⟩ := h; rw [e]; rfl) | (obtain ⟨_, _, _, _, e, _⟩ := h; rw [e]; rfl) | (obtain ⟨_, _, _, _, _, e, _⟩ := h; rw [e]; rfl))) (b_check Csize_of Xcheck_limit Xcheck_sizes Cframes_in Xcheck_lines Cis_list E_NoneFits E_InvalidLine m_max) fun ds R Z W h => q_check h)
theorem cslack (F : Fun K "slack" "slack" sslack f fd) (bn : mg "slack" = some (.ref f)) (Csize_of : CalD P w K mg base k "size_of" (spD K cSizeOf)) (X_check : CalXK P w K mg base k "_check" s_check ["lines", "sizes", "limit"] (spX K cCheck)) (m_sorted : mg "sorted" = none) (m_min : mg "min" = none) : CalXK P w K mg base (k + 2) "slack" sslack ["lines", "sizes", "limit"] (spX K cSlack) :=
  CalXK.of F bn (ok_XK F scslack (by decide) (fun ds R Z h => (by first | (obtain ⟨e, _⟩ := h; rw [e]; rfl) | (obtain ⟨_, e, _⟩ := h; rw [e]; rfl) | (obtain ⟨_, _, e, _⟩ := h; rw [e]; rfl) | (obtain ⟨_, _, _, e, _⟩ := h; rw [e]; rfl) | (obtain ⟨_, _, _, _, e, _⟩ := h; rw [e]; rfl) | (obtain ⟨_, _, _, _, _, e, _⟩ := h; rw [e]; rfl))) (bslack Csize_of X_check m_sorted m_min) fun ds R Z W h => q_slack h)
theorem ccommon_slack (F : Fun K "common_slack" "common_slack" scommon_slack f fd) (bn : mg "common_slack" = some (.ref f)) (Csize_of : CalD P w K mg base k "size_of" (spD K cSizeOf)) (X_check : CalXK P w K mg base k "_check" s_check ["lines", "sizes", "limit"] (spX K cCheck)) (m_min : mg "min" = none) (m_sum : mg "sum" = none) : CalXK P w K mg base (k + 2) "common_slack" scommon_slack ["lines", "sizes", "limit"] (spX K cCommon) :=
  CalXK.of F bn (ok_XK F sccommon_slack (by decide) (fun ds R Z h => (by first | (obtain ⟨e, _⟩ := h; rw [e]; rfl) | (obtain ⟨_, e, _⟩ := h; rw [e]; rfl) | (obtain ⟨_, _, e, _⟩ := h; rw [e]; rfl) | (obtain ⟨_, _, _, e, _⟩ := h; rw [e]; rfl) | (obtain ⟨_, _, _, _, e, _⟩ := h; rw [e]; rfl) | (obtain ⟨_, _, _, _, _, e, _⟩ := h; rw [e]; rfl))) (bcommon_slack Csize_of X_check m_min m_sum) fun ds R Z W h => q_common_slack h)
theorem c_law_pick (F : Fun K "_law_pick" "_law_pick" s_law_pick f fd) (bn : mg "_law_pick" = some (.ref f)) (G_law_draw : CalG P w K mg base k "_law_draw" s_law_draw ["_law_pot_here", "_law_many"] (spP K cDrawW)) (m_len : mg "len" = none) : CalG P w K mg base (k + 1) "_law_pick" s_law_pick ["_law_pot_here", "_law_some"] (spP K cPick) :=
  CalG.of F bn (ok_PG F sc_law_pick (by decide) (fun ds R h => (by first | (obtain ⟨e, _⟩ := h; rw [e]; rfl) | (obtain ⟨_, e, _⟩ := h; rw [e]; rfl) | (obtain ⟨_, _, e, _⟩ := h; rw [e]; rfl) | (obtain ⟨_, _, _, e, _⟩ := h; rw [e]; rfl) | (obtain ⟨_, _, _, _, e, _⟩ := h; rw [e]; rfl) | (obtain ⟨_, _, _, _, _, e, _⟩ := h; rw [e]; rfl))) (b_law_pick G_law_draw m_len) fun ds R h => q_law_pick h)
theorem c_law_frames (F : Fun K "_law_frames" "_law_frames" s_law_frames f fd) (bn : mg "_law_frames" = some (.ref f)) (G_law_draw : CalG P w K mg base k "_law_draw" s_law_draw ["_law_pot_here", "_law_many"] (spP K cDrawW)) : CalG P w K mg base (k + 1) "_law_frames" s_law_frames ["_law_pot_here", "_law_upper"] (spP K cLFrames) :=
  CalG.of F bn (ok_PG F sc_law_frames (by decide) (fun ds R h => (by first | (obtain ⟨e, _⟩ := h; rw [e]; rfl) | (obtain ⟨_, e, _⟩ := h; rw [e]; rfl) | (obtain ⟨_, _, e, _⟩ := h; rw [e]; rfl) | (obtain ⟨_, _, _, e, _⟩ := h; rw [e]; rfl) | (obtain ⟨_, _, _, _, e, _⟩ := h; rw [e]; rfl) | (obtain ⟨_, _, _, _, _, e, _⟩ := h; rw [e]; rfl))) (b_law_frames G_law_draw) fun ds R h => q_law_frames h)
theorem c_law_line (F : Fun K "_law_line" "_law_line" s_law_line f fd) (bn : mg "_law_line" = some (.ref f)) (G_law_draw : CalG P w K mg base k "_law_draw" s_law_draw ["_law_pot_here", "_law_many"] (spP K cDrawW)) (m_tuple : mg "tuple" = none) : CalG P w K mg base (k + 1) "_law_line" s_law_line ["_law_pot_here", "_law_frames_here", "_law_upper"] (spP K cLLine) :=
  CalG.of F bn (ok_PG F sc_law_line (by decide) (fun ds R h => (by first | (obtain ⟨e, _⟩ := h; rw [e]; rfl) | (obtain ⟨_, e, _⟩ := h; rw [e]; rfl) | (obtain ⟨_, _, e, _⟩ := h; rw [e]; rfl) | (obtain ⟨_, _, _, e, _⟩ := h; rw [e]; rfl) | (obtain ⟨_, _, _, _, e, _⟩ := h; rw [e]; rfl) | (obtain ⟨_, _, _, _, _, e, _⟩ := h; rw [e]; rfl))) (b_law_line G_law_draw m_tuple) fun ds R h => q_law_line h)
theorem c_law_lines (F : Fun K "_law_lines" "_law_lines" s_law_lines f fd) (bn : mg "_law_lines" = some (.ref f)) (G_law_draw : CalG P w K mg base k "_law_draw" s_law_draw ["_law_pot_here", "_law_many"] (spP K cDrawW)) (G_law_line : CalG P w K mg base k "_law_line" s_law_line ["_law_pot_here", "_law_frames_here", "_law_upper"] (spP K cLLine)) (G_law_pick : CalG P w K mg base k "_law_pick" s_law_pick ["_law_pot_here", "_law_some"] (spP K cPick)) (m_range : mg "range" = none) (m_tuple : mg "tuple" = none) : CalG P w K mg base (k + 1) "_law_lines" s_law_lines ["_law_pot_here", "_law_frames_here", "_law_many"] (spP K cLLines) :=
  CalG.of F bn (ok_PG F sc_law_lines (by decide) (fun ds R h => (by first | (obtain ⟨e, _⟩ := h; rw [e]; rfl) | (obtain ⟨_, e, _⟩ := h; rw [e]; rfl) | (obtain ⟨_, _, e, _⟩ := h; rw [e]; rfl) | (obtain ⟨_, _, _, e, _⟩ := h; rw [e]; rfl) | (obtain ⟨_, _, _, _, e, _⟩ := h; rw [e]; rfl) | (obtain ⟨_, _, _, _, _, e, _⟩ := h; rw [e]; rfl))) (b_law_lines G_law_draw G_law_line G_law_pick m_range m_tuple) fun ds R h => q_law_lines h)
theorem c_law_deep (F : Fun K "_law_deep" "_law_deep" s_law_deep f fd) (bn : mg "_law_deep" = some (.ref f)) (m_max : mg "max" = none) (m_sum : mg "sum" = none) : CalG P w K mg base (k + 1) "_law_deep" s_law_deep ["_law_lines_here", "_law_table"] (spD K cDeep) :=
  CalG.of F bn (ok_DG F sc_law_deep (by decide) (fun ds R h => (by first | (obtain ⟨e, _⟩ := h; rw [e]; rfl) | (obtain ⟨_, e, _⟩ := h; rw [e]; rfl) | (obtain ⟨_, _, e, _⟩ := h; rw [e]; rfl) | (obtain ⟨_, _, _, e, _⟩ := h; rw [e]; rfl) | (obtain ⟨_, _, _, _, e, _⟩ := h; rw [e]; rfl) | (obtain ⟨_, _, _, _, _, e, _⟩ := h; rw [e]; rfl))) (b_law_deep m_max m_sum) fun ds R h => q_law_deep h)
theorem c_law_more (F : Fun K "_law_more" "_law_more" s_law_more f fd) (bn : mg "_law_more" = some (.ref f)) (m_dict : mg "dict" = none) : CalG P w K mg base (k + 1) "_law_more" s_law_more ["_law_table", "_law_names", "_law_many"] (spD K cMore) :=
  CalG.of F bn (ok_DG F sc_law_more (by decide) (fun ds R h => (by first | (obtain ⟨e, _⟩ := h; rw [e]; rfl) | (obtain ⟨_, e, _⟩ := h; rw [e]; rfl) | (obtain ⟨_, _, e, _⟩ := h; rw [e]; rfl) | (obtain ⟨_, _, _, e, _⟩ := h; rw [e]; rfl) | (obtain ⟨_, _, _, _, e, _⟩ := h; rw [e]; rfl) | (obtain ⟨_, _, _, _, _, e, _⟩ := h; rw [e]; rfl))) (b_law_more m_dict) fun ds R h => q_law_more h)
theorem c_law_held (F : Fun K "_law_held" "_law_held" s_law_held f fd) (bn : mg "_law_held" = some (.ref f)) (m_sorted : mg "sorted" = none) (m_set : mg "set" = none) : CalG P w K mg base (k + 1) "_law_held" s_law_held ["_law_lines_here"] (spD K cFrames) :=
  CalG.of F bn (ok_DG F sc_law_held (by decide) (fun ds R h => (by first | (obtain ⟨e, _⟩ := h; rw [e]; rfl) | (obtain ⟨_, e, _⟩ := h; rw [e]; rfl) | (obtain ⟨_, _, e, _⟩ := h; rw [e]; rfl) | (obtain ⟨_, _, _, e, _⟩ := h; rw [e]; rfl) | (obtain ⟨_, _, _, _, e, _⟩ := h; rw [e]; rfl) | (obtain ⟨_, _, _, _, _, e, _⟩ := h; rw [e]; rfl))) (b_law_held m_sorted m_set) fun ds R h => q_law_held h)
theorem c_law_just (F : Fun K "_law_just" "_law_just" s_law_just f fd) (bn : mg "_law_just" = some (.ref f)) (G_law_deep : CalG P w K mg base k "_law_deep" s_law_deep ["_law_lines_here", "_law_table"] (spD K cDeep)) (G_law_more : CalG P w K mg base k "_law_more" s_law_more ["_law_table", "_law_names", "_law_many"] (spD K cMore)) : CalG P w K mg base (k + 1) "_law_just" s_law_just ["_law_lines_here", "_law_table", "_law_names", "_law_many", "_law_limit"] (spD K cJust) :=
  CalG.of F bn (ok_DG F sc_law_just (by decide) (fun ds R h => (by first | (obtain ⟨e, _⟩ := h; rw [e]; rfl) | (obtain ⟨_, e, _⟩ := h; rw [e]; rfl) | (obtain ⟨_, _, e, _⟩ := h; rw [e]; rfl) | (obtain ⟨_, _, _, e, _⟩ := h; rw [e]; rfl) | (obtain ⟨_, _, _, _, e, _⟩ := h; rw [e]; rfl) | (obtain ⟨_, _, _, _, _, e, _⟩ := h; rw [e]; rfl))) (b_law_just G_law_deep G_law_more) fun ds R h => q_law_just h)
theorem c_law_right (F : Fun K "_law_right" "_law_right" s_law_right f fd) (bn : mg "_law_right" = some (.ref f)) (G_law_just : CalG P w K mg base k "_law_just" s_law_just ["_law_lines_here", "_law_table", "_law_names", "_law_many", "_law_limit"] (spD K cJust)) (Xcommon_slack : CalXK P w K mg base k "common_slack" scommon_slack ["lines", "sizes", "limit"] (spX K cCommon)) (Xslack : CalXK P w K mg base k "slack" sslack ["lines", "sizes", "limit"] (spX K cSlack)) (G_law_held : CalG P w K mg base k "_law_held" s_law_held ["_law_lines_here"] (spD K cFrames)) (m_list : mg "list" = none) (m_all : mg "all" = none) (m_sorted : mg "sorted" = none) (m_tuple : mg "tuple" = none) : CalG P w K mg base (k + 1) "_law_right" s_law_right ["_law_lines_here", "_law_table", "_law_limit"] (spD K cRight) :=
  CalG.of F bn (ok_DG F sc_law_right (by decide) (fun ds R h => (by first | (obtain ⟨e, _⟩ := h; rw [e]; rfl) | (obtain ⟨_, e, _⟩ := h; rw [e]; rfl) | (obtain ⟨_, _, e, _⟩ := h; rw [e]; rfl) | (obtain ⟨_, _, _, e, _⟩ := h; rw [e]; rfl) | (obtain ⟨_, _, _, _, e, _⟩ := h; rw [e]; rfl) | (obtain ⟨_, _, _, _, _, e, _⟩ := h; rw [e]; rfl))) (b_law_right G_law_just Xcommon_slack Xslack G_law_held m_list m_all m_sorted m_tuple) fun ds R h => q_law_right h)
theorem c_law_exceeded {c_ : Addr} (F : FunC K "_law_exceeded" "_law_exceeded" s_law_exceeded f fd c_) (bn : mg "_law_exceeded" = some (.ref f)) (XK : ExK K) {kl : Nat} (hlam : kl + 2 ≤ k) (Xcommon_slack : CalXK P w K mg base kl "common_slack" scommon_slack ["lines", "sizes", "limit"] (spX K cCommon)) (Xslack : CalXK P w K mg base kl "slack" sslack ["lines", "sizes", "limit"] (spX K cSlack)) (TF__law_told : ToldF K mg) {P_ : Addr} (TB : LamX.TabB base mg c_ P_) (hmT : (P_, fun _ _ => ("_law_exceeded.<locals>.<lambda>" : Str)) ∈ Tbs.T) (hu : ∀ p ∈ Tbs.T, p.1 = P_ → p.2 = fun _ _ => ("_law_exceeded.<locals>.<lambda>" : Str)) : CalG P w K mg base (k + 1) "_law_exceeded" s_law_exceeded ["_law_lines_here", "_law_table", "_law_limit"] (spD K cExceeded) :=
  CalG.ofC F bn (ok_DGC F sc_law_exceeded (by decide) (fun ds R h => (by first | (obtain ⟨e, _⟩ := h; rw [e]; rfl) | (obtain ⟨_, e, _⟩ := h; rw [e]; rfl) | (obtain ⟨_, _, e, _⟩ := h; rw [e]; rfl) | (obtain ⟨_, _, _, e, _⟩ := h; rw [e]; rfl) | (obtain ⟨_, _, _, _, e, _⟩ := h; rw [e]; rfl) | (obtain ⟨_, _, _, _, _, e, _⟩ := h; rw [e]; rfl))) (b_law_exceeded hlam Xcommon_slack Xslack TF__law_told TB hmT hu) fun ds R h => q_law_exceeded XK h)
theorem c_law_spoilt (F : Fun K "_law_spoilt" "_law_spoilt" s_law_spoilt f fd) (bn : mg "_law_spoilt" = some (.ref f)) (G_law_pick : CalG P w K mg base k "_law_pick" s_law_pick ["_law_pot_here", "_law_some"] (spP K cPick)) (G_law_draw : CalG P w K mg base k "_law_draw" s_law_draw ["_law_pot_here", "_law_many"] (spP K cDrawW)) (G_law_held : CalG P w K mg base k "_law_held" s_law_held ["_law_lines_here"] (spD K cFrames)) (m_dict : mg "dict" = none) (m_len : mg "len" = none) : CalG P w K mg base (k + 1) "_law_spoilt" s_law_spoilt ["_law_pot_here", "_law_lines_here", "_law_table", "_law_limit"] (spP K cSpoilt) :=
  CalG.of F bn (ok_PG F sc_law_spoilt (by decide) (fun ds R h => (by first | (obtain ⟨e, _⟩ := h; rw [e]; rfl) | (obtain ⟨_, e, _⟩ := h; rw [e]; rfl) | (obtain ⟨_, _, e, _⟩ := h; rw [e]; rfl) | (obtain ⟨_, _, _, e, _⟩ := h; rw [e]; rfl) | (obtain ⟨_, _, _, _, e, _⟩ := h; rw [e]; rfl) | (obtain ⟨_, _, _, _, _, e, _⟩ := h; rw [e]; rfl))) (b_law_spoilt G_law_pick G_law_draw G_law_held m_dict m_len) fun ds R h => q_law_spoilt h)
theorem claw {c_ : Addr} (F : FunC K "law" "law" slaw f fd c_) (bn : mg "law" = some (.ref f)) (XK : ExK K) {kl : Nat} (hlam : kl + 2 ≤ k) (Xcommon_slack : CalXK P w K mg base kl "common_slack" scommon_slack ["lines", "sizes", "limit"] (spX K cCommon)) (Xslack : CalXK P w K mg base kl "slack" sslack ["lines", "sizes", "limit"] (spX K cSlack)) (G_law_spoilt : CalG P w K mg base k "_law_spoilt" s_law_spoilt ["_law_pot_here", "_law_lines_here", "_law_table", "_law_limit"] (spP K cSpoilt)) (G_law_exceeded : CalG P w K mg base k "_law_exceeded" s_law_exceeded ["_law_lines_here", "_law_table", "_law_limit"] (spD K cExceeded)) (G_law_pick : CalG P w K mg base k "_law_pick" s_law_pick ["_law_pot_here", "_law_some"] (spP K cPick)) (G_law_draw : CalG P w K mg base k "_law_draw" s_law_draw ["_law_pot_here", "_law_many"] (spP K cDrawW)) (G_law_right : CalG P w K mg base k "_law_right" s_law_right ["_law_lines_here", "_law_table", "_law_limit"] (spD K cRight)) (G_law_deep : CalG P w K mg base k "_law_deep" s_law_deep ["_law_lines_here", "_law_table"] (spD K cDeep)) (G_law_lines : CalG P w K mg base k "_law_lines" s_law_lines ["_law_pot_here", "_law_frames_here", "_law_many"] (spP K cLLines)) (G_law_frames : CalG P w K mg base k "_law_frames" s_law_frames ["_law_pot_here", "_law_upper"] (spP K cLFrames)) (G_law_pot : CalG P w K mg base k "_law_pot" s_law_pot ["_law_script", "_law_index"] (spNewP K cPot)) (TF__law_told : ToldF K mg) {P_ : Addr} (TB : LamX.TabB base mg c_ P_) (hmT : (P_, fun _ _ => ("law.<locals>.<lambda>" : Str)) ∈ Tbs.T) (hu : ∀ p ∈ Tbs.T, p.1 = P_ → p.2 = fun _ _ => ("law.<locals>.<lambda>" : Str)) (m_range : mg "range" = none) (m_max : mg "max" = none) (m_min : mg "min" = none) (m_len : mg "len" = none) (m_repr : mg "repr" = none) (h_S : Tbs.S = true) (h_K : K.lookup sysModules = none) (m_dict : mg "dict" = none) (m_list : mg "list" = none) : FnG P w K mg base CX0 (k + 1) f fd ["_law_script"] (spD K cLaw) :=
  ok_DGC F sclaw (by decide) (fun ds R h => (by first | (obtain ⟨e, _⟩ := h; rw [e]; rfl) | (obtain ⟨_, e, _⟩ := h; rw [e]; rfl) | (obtain ⟨_, _, e, _⟩ := h; rw [e]; rfl) | (obtain ⟨_, _, _, e, _⟩ := h; rw [e]; rfl) | (obtain ⟨_, _, _, _, e, _⟩ := h; rw [e]; rfl) | (obtain ⟨_, _, _, _, _, e, _⟩ := h; rw [e]; rfl))) (blaw hlam Xcommon_slack Xslack G_law_spoilt G_law_exceeded G_law_pick G_law_draw G_law_right G_law_deep G_law_lines G_law_frames G_law_pot TF__law_told TB hmT hu m_range m_max m_min m_len m_repr h_S h_K m_dict m_list) fun ds R h => q_law XK h
end
end P81

namespace DL
open PySem PySem.Spec PyProof.Rows L2
def sysHook2 (K : PySem.Params → PySem.W.Frag) (as : List Addr) (e : ∀ P, as = (K P).map (·.1)) (u _v : Unit) : PySem.W.Hook := sysHook K as e u
theorem sys_of2 {K : PySem.Params → PySem.W.Frag} {as : List Addr} {e : ∀ P, as = (K P).map (·.1)} {u v : Unit} {w : World} {h : Heap} (y : (sysHook2 K as e u v).says w h) : (K w.params).In h ∧ ∃ o, h.get? sysModules = some o ∧ (o.cls == .type "dict") = true := sys_of (u := u) (e := e) y
end DL
namespace P81
open PySem PySem.Spec PyProof.Rows L2 DL FT NL LamX NdefX
theorem all {q : Program} {w : World} {K : PySem.W.Frag} {h : Heap} {mg : Str → Option Value} {fa : Addr} (inh : K.In h) (G : h.Ns mainGlobals mg) (hfa : mg "law" = some (.ref fa)) (t : TabAll q mg h)
    {f1 : Addr} {od1 an1 : Option Addr} {sl1 : Array (Option Value)} {oc1 kV1 dc1 pm1 ct1 : Value} {cd1 : Value}
    (a1 : PySem.W.nsIn K mainGlobals "_law_pot" = some (some (.ref f1))) (l1 : K.lookup f1 = some ⟨oc1, od1, .func (PySem.W.fnOf "_law_pot" "_law_pot" (defArgs s_law_pot) (defBody s_law_pot) (defScope s_law_pot) .none kV1 dc1 pm1 an1 cd1 ct1), sl1⟩) (g1 : PySem.W.codeIn K cd1 "_law_pot" = true) (k1 : PySem.W.keepIn K (.ref f1) = true)
    {f2 : Addr} {od2 an2 : Option Addr} {sl2 : Array (Option Value)} {oc2 kV2 dc2 pm2 ct2 : Value} {cd2 : Value}
    (a2 : PySem.W.nsIn K mainGlobals "_law_draw" = some (some (.ref f2))) (l2 : K.lookup f2 = some ⟨oc2, od2, .func (PySem.W.fnOf "_law_draw" "_law_draw" (defArgs s_law_draw) (defBody s_law_draw) (defScope s_law_draw) .none kV2 dc2 pm2 an2 cd2 ct2), sl2⟩) (g2 : PySem.W.codeIn K cd2 "_law_draw" = true) (k2 : PySem.W.keepIn K (.ref f2) = true)
    {f3 : Addr} {od3 an3 : Option Addr} {sl3 : Array (Option Value)} {oc3 kV3 dc3 pm3 ct3 : Value} {cd3 : Value}
    (a3 : PySem.W.nsIn K mainGlobals "is_count" = some (some (.ref f3))) (l3 : K.lookup f3 = some ⟨oc3, od3, .func (PySem.W.fnOf "is_count" "is_count" (defArgs sis_count) (defBody sis_count) (defScope sis_count) .none kV3 dc3 pm3 an3 cd3 ct3), sl3⟩) (g3 : PySem.W.codeIn K cd3 "is_count" = true) (k3 : PySem.W.keepIn K (.ref f3) = true)
    {f4 : Addr} {od4 an4 : Option Addr} {sl4 : Array (Option Value)} {oc4 kV4 dc4 pm4 ct4 : Value} {cd4 : Value}
    (a4 : PySem.W.nsIn K mainGlobals "is_list" = some (some (.ref f4))) (l4 : K.lookup f4 = some ⟨oc4, od4, .func (PySem.W.fnOf "is_list" "is_list" (defArgs sis_list) (defBody sis_list) (defScope sis_list) .none kV4 dc4 pm4 an4 cd4 ct4), sl4⟩) (g4 : PySem.W.codeIn K cd4 "is_list" = true) (k4 : PySem.W.keepIn K (.ref f4) = true)
    {f5 : Addr} {od5 an5 : Option Addr} {sl5 : Array (Option Value)} {oc5 kV5 dc5 pm5 ct5 : Value} {cd5 : Value}
    (a5 : PySem.W.nsIn K mainGlobals "is_tuple_of" = some (some (.ref f5))) (l5 : K.lookup f5 = some ⟨oc5, od5, .func (PySem.W.fnOf "is_tuple_of" "is_tuple_of" (defArgs sis_tuple_of) (defBody sis_tuple_of) (defScope sis_tuple_of) .none kV5 dc5 pm5 an5 cd5 ct5), sl5⟩) (g5 : PySem.W.codeIn K cd5 "is_tuple_of" = true) (k5 : PySem.W.keepIn K (.ref f5) = true)
    {f6 : Addr} {od6 an6 : Option Addr} {sl6 : Array (Option Value)} {oc6 kV6 dc6 pm6 ct6 : Value} {cd6 : Value}
    (a6 : PySem.W.nsIn K mainGlobals "size_of" = some (some (.ref f6))) (l6 : K.lookup f6 = some ⟨oc6, od6, .func (PySem.W.fnOf "size_of" "size_of" (defArgs ssize_of) (defBody ssize_of) (defScope ssize_of) .none kV6 dc6 pm6 an6 cd6 ct6), sl6⟩) (g6 : PySem.W.codeIn K cd6 "size_of" = true) (k6 : PySem.W.keepIn K (.ref f6) = true)
    {f7 : Addr} {od7 an7 : Option Addr} {sl7 : Array (Option Value)} {oc7 kV7 dc7 pm7 ct7 : Value} {cd7 : Value}
    (a7 : PySem.W.nsIn K mainGlobals "frames_in" = some (some (.ref f7))) (l7 : K.lookup f7 = some ⟨oc7, od7, .func (PySem.W.fnOf "frames_in" "frames_in" (defArgs sframes_in) (defBody sframes_in) (defScope sframes_in) .none kV7 dc7 pm7 an7 cd7 ct7), sl7⟩) (g7 : PySem.W.codeIn K cd7 "frames_in" = true) (k7 : PySem.W.keepIn K (.ref f7) = true)
    {f8 : Addr} {od8 an8 : Option Addr} {sl8 : Array (Option Value)} {oc8 kV8 dc8 pm8 ct8 : Value} {cd8 : Value}
    (a8 : PySem.W.nsIn K mainGlobals "check_sizes" = some (some (.ref f8))) (l8 : K.lookup f8 = some ⟨oc8, od8, .func (PySem.W.fnOf "check_sizes" "check_sizes" (defArgs scheck_sizes) (defBody scheck_sizes) (defScope scheck_sizes) .none kV8 dc8 pm8 an8 cd8 ct8), sl8⟩) (g8 : PySem.W.codeIn K cd8 "check_sizes" = true) (k8 : PySem.W.keepIn K (.ref f8) = true)
    {f9 : Addr} {od9 an9 : Option Addr} {sl9 : Array (Option Value)} {oc9 kV9 dc9 pm9 ct9 : Value} {cd9 : Value}
    (a9 : PySem.W.nsIn K mainGlobals "check_limit" = some (some (.ref f9))) (l9 : K.lookup f9 = some ⟨oc9, od9, .func (PySem.W.fnOf "check_limit" "check_limit" (defArgs scheck_limit) (defBody scheck_limit) (defScope scheck_limit) .none kV9 dc9 pm9 an9 cd9 ct9), sl9⟩) (g9 : PySem.W.codeIn K cd9 "check_limit" = true) (k9 : PySem.W.keepIn K (.ref f9) = true)
    {f10 : Addr} {od10 an10 : Option Addr} {sl10 : Array (Option Value)} {oc10 kV10 dc10 pm10 ct10 : Value} {cd10 : Value}
    (a10 : PySem.W.nsIn K mainGlobals "is_name" = some (some (.ref f10))) (l10 : K.lookup f10 = some ⟨oc10, od10, .func (PySem.W.fnOf "is_name" "is_name" (defArgs sis_name) (defBody sis_name) (defScope sis_name) .none kV10 dc10 pm10 an10 cd10 ct10), sl10⟩) (g10 : PySem.W.codeIn K cd10 "is_name" = true) (k10 : PySem.W.keepIn K (.ref f10) = true)
    {f11 : Addr} {od11 an11 : Option Addr} {sl11 : Array (Option Value)} {oc11 kV11 dc11 pm11 ct11 : Value} {cd11 : Value}
    (a11 : PySem.W.nsIn K mainGlobals "_is_part" = some (some (.ref f11))) (l11 : K.lookup f11 = some ⟨oc11, od11, .func (PySem.W.fnOf "_is_part" "_is_part" (defArgs s_is_part) (defBody s_is_part) (defScope s_is_part) .none kV11 dc11 pm11 an11 cd11 ct11), sl11⟩) (g11 : PySem.W.codeIn K cd11 "_is_part" = true) (k11 : PySem.W.keepIn K (.ref f11) = true)
    {f12 : Addr} {od12 an12 : Option Addr} {sl12 : Array (Option Value)} {oc12 kV12 dc12 pm12 ct12 : Value} {cd12 : Value}
    (a12 : PySem.W.nsIn K mainGlobals "is_line" = some (some (.ref f12))) (l12 : K.lookup f12 = some ⟨oc12, od12, .func (PySem.W.fnOf "is_line" "is_line" (defArgs sis_line) (defBody sis_line) (defScope sis_line) .none kV12 dc12 pm12 an12 cd12 ct12), sl12⟩) (g12 : PySem.W.codeIn K cd12 "is_line" = true) (k12 : PySem.W.keepIn K (.ref f12) = true)
    {f13 : Addr} {od13 an13 : Option Addr} {sl13 : Array (Option Value)} {oc13 kV13 dc13 pm13 ct13 : Value} {cd13 : Value}
    (a13 : PySem.W.nsIn K mainGlobals "check_line" = some (some (.ref f13))) (l13 : K.lookup f13 = some ⟨oc13, od13, .func (PySem.W.fnOf "check_line" "check_line" (defArgs scheck_line) (defBody scheck_line) (defScope scheck_line) .none kV13 dc13 pm13 an13 cd13 ct13), sl13⟩) (g13 : PySem.W.codeIn K cd13 "check_line" = true) (k13 : PySem.W.keepIn K (.ref f13) = true)
    {f14 : Addr} {od14 an14 : Option Addr} {sl14 : Array (Option Value)} {oc14 kV14 dc14 pm14 ct14 : Value} {cd14 : Value}
    (a14 : PySem.W.nsIn K mainGlobals "check_lines" = some (some (.ref f14))) (l14 : K.lookup f14 = some ⟨oc14, od14, .func (PySem.W.fnOf "check_lines" "check_lines" (defArgs scheck_lines) (defBody scheck_lines) (defScope scheck_lines) .none kV14 dc14 pm14 an14 cd14 ct14), sl14⟩) (g14 : PySem.W.codeIn K cd14 "check_lines" = true) (k14 : PySem.W.keepIn K (.ref f14) = true)
    {f15 : Addr} {od15 an15 : Option Addr} {sl15 : Array (Option Value)} {oc15 kV15 dc15 pm15 ct15 : Value} {cd15 : Value}
    (a15 : PySem.W.nsIn K mainGlobals "_check" = some (some (.ref f15))) (l15 : K.lookup f15 = some ⟨oc15, od15, .func (PySem.W.fnOf "_check" "_check" (defArgs s_check) (defBody s_check) (defScope s_check) .none kV15 dc15 pm15 an15 cd15 ct15), sl15⟩) (g15 : PySem.W.codeIn K cd15 "_check" = true) (k15 : PySem.W.keepIn K (.ref f15) = true)
    {f16 : Addr} {od16 an16 : Option Addr} {sl16 : Array (Option Value)} {oc16 kV16 dc16 pm16 ct16 : Value} {cd16 : Value}
    (a16 : PySem.W.nsIn K mainGlobals "slack" = some (some (.ref f16))) (l16 : K.lookup f16 = some ⟨oc16, od16, .func (PySem.W.fnOf "slack" "slack" (defArgs sslack) (defBody sslack) (defScope sslack) .none kV16 dc16 pm16 an16 cd16 ct16), sl16⟩) (g16 : PySem.W.codeIn K cd16 "slack" = true) (k16 : PySem.W.keepIn K (.ref f16) = true)
    {f17 : Addr} {od17 an17 : Option Addr} {sl17 : Array (Option Value)} {oc17 kV17 dc17 pm17 ct17 : Value} {cd17 : Value}
    (a17 : PySem.W.nsIn K mainGlobals "common_slack" = some (some (.ref f17))) (l17 : K.lookup f17 = some ⟨oc17, od17, .func (PySem.W.fnOf "common_slack" "common_slack" (defArgs scommon_slack) (defBody scommon_slack) (defScope scommon_slack) .none kV17 dc17 pm17 an17 cd17 ct17), sl17⟩) (g17 : PySem.W.codeIn K cd17 "common_slack" = true) (k17 : PySem.W.keepIn K (.ref f17) = true)
    {f18 : Addr} {od18 an18 : Option Addr} {sl18 : Array (Option Value)} {oc18 kV18 dc18 pm18 ct18 : Value} {cd18 : Value}
    (a18 : PySem.W.nsIn K mainGlobals "_law_pick" = some (some (.ref f18))) (l18 : K.lookup f18 = some ⟨oc18, od18, .func (PySem.W.fnOf "_law_pick" "_law_pick" (defArgs s_law_pick) (defBody s_law_pick) (defScope s_law_pick) .none kV18 dc18 pm18 an18 cd18 ct18), sl18⟩) (g18 : PySem.W.codeIn K cd18 "_law_pick" = true) (k18 : PySem.W.keepIn K (.ref f18) = true)
    {f19 : Addr} {od19 an19 : Option Addr} {sl19 : Array (Option Value)} {oc19 kV19 dc19 pm19 ct19 : Value} {cd19 : Value}
    (a19 : PySem.W.nsIn K mainGlobals "_law_frames" = some (some (.ref f19))) (l19 : K.lookup f19 = some ⟨oc19, od19, .func (PySem.W.fnOf "_law_frames" "_law_frames" (defArgs s_law_frames) (defBody s_law_frames) (defScope s_law_frames) .none kV19 dc19 pm19 an19 cd19 ct19), sl19⟩) (g19 : PySem.W.codeIn K cd19 "_law_frames" = true) (k19 : PySem.W.keepIn K (.ref f19) = true)
    {f20 : Addr} {od20 an20 : Option Addr} {sl20 : Array (Option Value)} {oc20 kV20 dc20 pm20 ct20 : Value} {cd20 : Value}
    (a20 : PySem.W.nsIn K mainGlobals "_law_line" = some (some (.ref f20))) (l20 : K.lookup f20 = some ⟨oc20, od20, .func (PySem.W.fnOf "_law_line" "_law_line" (defArgs s_law_line) (defBody s_law_line) (defScope s_law_line) .none kV20 dc20 pm20 an20 cd20 ct20), sl20⟩) (g20 : PySem.W.codeIn K cd20 "_law_line" = true) (k20 : PySem.W.keepIn K (.ref f20) = true)
    {f21 : Addr} {od21 an21 : Option Addr} {sl21 : Array (Option Value)} {oc21 kV21 dc21 pm21 ct21 : Value} {cd21 : Value}
    (a21 : PySem.W.nsIn K mainGlobals "_law_lines" = some (some (.ref f21))) (l21 : K.lookup f21 = some ⟨oc21, od21, .func (PySem.W.fnOf "_law_lines" "_law_lines" (defArgs s_law_lines) (defBody s_law_lines) (defScope s_law_lines) .none kV21 dc21 pm21 an21 cd21 ct21), sl21⟩) (g21 : PySem.W.codeIn K cd21 "_law_lines" = true) (k21 : PySem.W.keepIn K (.ref f21) = true)
    {f22 : Addr} {od22 an22 : Option Addr} {sl22 : Array (Option Value)} {oc22 kV22 dc22 pm22 ct22 : Value} {cd22 : Value}
    (a22 : PySem.W.nsIn K mainGlobals "_law_deep" = some (some (.ref f22))) (l22 : K.lookup f22 = some ⟨oc22, od22, .func (PySem.W.fnOf "_law_deep" "_law_deep" (defArgs s_law_deep) (defBody s_law_deep) (defScope s_law_deep) .none kV22 dc22 pm22 an22 cd22 ct22), sl22⟩) (g22 : PySem.W.codeIn K cd22 "_law_deep" = true) (k22 : PySem.W.keepIn K (.ref f22) = true)
    {f23 : Addr} {od23 an23 : Option Addr} {sl23 : Array (Option Value)} {oc23 kV23 dc23 pm23 ct23 : Value} {cd23 : Value}
    (a23 : PySem.W.nsIn K mainGlobals "_law_more" = some (some (.ref f23))) (l23 : K.lookup f23 = some ⟨oc23, od23, .func (PySem.W.fnOf "_law_more" "_law_more" (defArgs s_law_more) (defBody s_law_more) (defScope s_law_more) .none kV23 dc23 pm23 an23 cd23 ct23), sl23⟩) (g23 : PySem.W.codeIn K cd23 "_law_more" = true) (k23 : PySem.W.keepIn K (.ref f23) = true)
    {f24 : Addr} {od24 an24 : Option Addr} {sl24 : Array (Option Value)} {oc24 kV24 dc24 pm24 ct24 : Value} {cd24 : Value}
    (a24 : PySem.W.nsIn K mainGlobals "_law_held" = some (some (.ref f24))) (l24 : K.lookup f24 = some ⟨oc24, od24, .func (PySem.W.fnOf "_law_held" "_law_held" (defArgs s_law_held) (defBody s_law_held) (defScope s_law_held) .none kV24 dc24 pm24 an24 cd24 ct24), sl24⟩) (g24 : PySem.W.codeIn K cd24 "_law_held" = true) (k24 : PySem.W.keepIn K (.ref f24) = true)
    {f25 : Addr} {od25 an25 : Option Addr} {sl25 : Array (Option Value)} {oc25 kV25 dc25 pm25 ct25 : Value} {cd25 : Value}
    (a25 : PySem.W.nsIn K mainGlobals "_law_just" = some (some (.ref f25))) (l25 : K.lookup f25 = some ⟨oc25, od25, .func (PySem.W.fnOf "_law_just" "_law_just" (defArgs s_law_just) (defBody s_law_just) (defScope s_law_just) .none kV25 dc25 pm25 an25 cd25 ct25), sl25⟩) (g25 : PySem.W.codeIn K cd25 "_law_just" = true) (k25 : PySem.W.keepIn K (.ref f25) = true)
    {f26 : Addr} {od26 an26 : Option Addr} {sl26 : Array (Option Value)} {oc26 kV26 dc26 pm26 ct26 : Value} {cd26 : Value}
    (a26 : PySem.W.nsIn K mainGlobals "_law_right" = some (some (.ref f26))) (l26 : K.lookup f26 = some ⟨oc26, od26, .func (PySem.W.fnOf "_law_right" "_law_right" (defArgs s_law_right) (defBody s_law_right) (defScope s_law_right) .none kV26 dc26 pm26 an26 cd26 ct26), sl26⟩) (g26 : PySem.W.codeIn K cd26 "_law_right" = true) (k26 : PySem.W.keepIn K (.ref f26) = true)
    {f27 : Addr} {od27 an27 : Option Addr} {sl27 : Array (Option Value)} {oc27 kV27 dc27 pm27 ct27 : Value} {c27 : Addr}
    (a27 : PySem.W.nsIn K mainGlobals "_law_exceeded" = some (some (.ref f27))) (l27 : K.lookup f27 = some ⟨oc27, od27, .func (PySem.W.fnOf "_law_exceeded" "_law_exceeded" (defArgs s_law_exceeded) (defBody s_law_exceeded) (defScope s_law_exceeded) .none kV27 dc27 pm27 an27 (.ref c27) ct27), sl27⟩) (g27 : PySem.W.codeIn K (.ref c27) "_law_exceeded" = true) (k27 : PySem.W.keepIn K (.ref f27) = true)
    {f28 : Addr} {od28 an28 : Option Addr} {sl28 : Array (Option Value)} {oc28 kV28 dc28 pm28 ct28 : Value} {cd28 : Value}
    (a28 : PySem.W.nsIn K mainGlobals "_law_spoilt" = some (some (.ref f28))) (l28 : K.lookup f28 = some ⟨oc28, od28, .func (PySem.W.fnOf "_law_spoilt" "_law_spoilt" (defArgs s_law_spoilt) (defBody s_law_spoilt) (defScope s_law_spoilt) .none kV28 dc28 pm28 an28 cd28 ct28), sl28⟩) (g28 : PySem.W.codeIn K cd28 "_law_spoilt" = true) (k28 : PySem.W.keepIn K (.ref f28) = true)
    {f29 : Addr} {od29 an29 : Option Addr} {sl29 : Array (Option Value)} {oc29 kV29 dc29 pm29 ct29 : Value} {c29 : Addr}
    (a29 : PySem.W.nsIn K mainGlobals "law" = some (some (.ref f29))) (l29 : K.lookup f29 = some ⟨oc29, od29, .func (PySem.W.fnOf "law" "law" (defArgs slaw) (defBody slaw) (defScope slaw) .none kV29 dc29 pm29 an29 (.ref c29) ct29), sl29⟩) (g29 : PySem.W.codeIn K (.ref c29) "law" = true) (k29 : PySem.W.keepIn K (.ref f29) = true)
    {f30 : Addr} {od30 an30 : Option Addr} {sl30 : Array (Option Value)} {oc30 kV30 dc30 pm30 ct30 : Value} {cd30 : Value}
    (a30 : PySem.W.nsIn K mainGlobals "_law_told" = some (some (.ref f30))) (l30 : K.lookup f30 = some ⟨oc30, od30, .func (PySem.W.fnOf "_law_told" "_law_told" (defArgs s_law_told) (defBody s_law_told) (defScope s_law_told) .none kV30 dc30 pm30 an30 cd30 ct30), sl30⟩) (g30 : PySem.W.codeIn K cd30 "_law_told" = true) (k30 : PySem.W.keepIn K (.ref f30) = true)
    {e27 : Value} {dd27 : Option Addr} {vs27 : Array Value} {cs27 : Array (Option Value)} {P27 : Addr} (m27 : K.lookup c27 = some ⟨e27, dd27, .fields vs27, cs27⟩) (v27 : vs27[11]? = some (.ref P27)) (n27 : K.lookup P27 = none) (r27 : ((recsOf q).any fun r => r.name == ("_law_exceeded" : Str)) = true)
    {e29 : Value} {dd29 : Option Addr} {vs29 : Array Value} {cs29 : Array (Option Value)} {P29 : Addr} (m29 : K.lookup c29 = some ⟨e29, dd29, .fields vs29, cs29⟩) (v29 : vs29[11]? = some (.ref P29)) (n29 : K.lookup P29 = none) (r29 : ((recsOf q).any fun r => r.name == ("law" : Str)) = true)
    (ne27_29 : (decide (P27 = P29)) = false)
    {B_InputError : Addr}
    (aB_InputError : PySem.W.nsIn K mainGlobals "InputError" = some (some (.ref B_InputError)))
    (h1_InputError : PySem.W.specialIn K (.ref B_InputError) "__getattribute__" = some (some (.builtin "type.__getattribute__")))
    (h2_InputError : PySem.W.typeIn K (.ref B_InputError) = some (.type "type"))
    (h3_InputError : PySem.W.readsIn K B_InputError (.type "type") = true)
    (h4_InputError : PySem.W.findCls K (.ref B_InputError) (.type "type") "__init__" = some (.val (.builtin "ValueError.__init__")))
    (eB_InputError : PySem.W.subIn K (.ref B_InputError) (.type "BaseException") = some true)
    (iB_InputError : PySem.W.isClsIn K B_InputError = true)
    {B_StateError : Addr}
    (aB_StateError : PySem.W.nsIn K mainGlobals "StateError" = some (some (.ref B_StateError)))
    (h1_StateError : PySem.W.specialIn K (.ref B_StateError) "__getattribute__" = some (some (.builtin "type.__getattribute__")))
    (h2_StateError : PySem.W.typeIn K (.ref B_StateError) = some (.type "type"))
    (h3_StateError : PySem.W.readsIn K B_StateError (.type "type") = true)
    (h4_StateError : PySem.W.findCls K (.ref B_StateError) (.type "type") "__init__" = some (.val (.builtin "RuntimeError.__init__")))
    (eB_StateError : PySem.W.subIn K (.ref B_StateError) (.type "BaseException") = some true)
    (iB_StateError : PySem.W.isClsIn K B_StateError = true)
    {C_InvalidLine f_InvalidLine : Addr} {nm_InvalidLine q_InvalidLine : Str} {N_InvalidLine : Addr} {bs_InvalidLine : List Value} {sn_InvalidLine : List Str} {sub_InvalidLine : List Value} {ab_InvalidLine : Bool} {col_InvalidLine : Option Bool} {dd_InvalidLine : Option Addr} {m0_InvalidLine m1_InvalidLine m2_InvalidLine m3_InvalidLine m5_InvalidLine : Option Value} {od_InvalidLine an_InvalidLine : Option Addr} {sl_InvalidLine : Array (Option Value)} {oc_InvalidLine kV_InvalidLine dc_InvalidLine pm_InvalidLine cd_InvalidLine ct_InvalidLine : Value}
    (aC_InvalidLine : PySem.W.nsIn K mainGlobals "InvalidLine" = some (some (.ref C_InvalidLine)))
    (xL_InvalidLine : K.lookup C_InvalidLine = some (excClassObj nm_InvalidLine q_InvalidLine C_InvalidLine N_InvalidLine bs_InvalidLine [.ref B_InputError, .type "ValueError", .type "Exception", .type "BaseException", .type "object"] true sn_InvalidLine sub_InvalidLine ab_InvalidLine col_InvalidLine dd_InvalidLine m0_InvalidLine m1_InvalidLine m2_InvalidLine m3_InvalidLine m5_InvalidLine "ValueError.__new__"))
    (ga_InvalidLine : PySem.W.findIn K (.ref C_InvalidLine) "__getattribute__" = some (some (.builtin "BaseException.__getattribute__")))
    (gg_InvalidLine : PySem.W.findIn K (.ref C_InvalidLine) "__getattr__" = some none)
    (hD_InvalidLine : PySem.W.hasDictIn K C_InvalidLine = true)
    (kC_InvalidLine : PySem.W.keepIn K (.ref C_InvalidLine) = true)
    (eC_InvalidLine : PySem.W.subIn K (.ref C_InvalidLine) (.type "BaseException") = some true)
    (tC_InvalidLine : PySem.W.typeIn K (.ref C_InvalidLine) = some (.type "type"))
    (iC_InvalidLine : PySem.W.isClsIn K C_InvalidLine = true)
    (a1_InvalidLine : PySem.W.findIn K (.ref C_InvalidLine) "__init__" = some (some (.ref f_InvalidLine)))
    (t1_InvalidLine : PySem.W.typeIn K (.ref f_InvalidLine) = some (.type "function"))
    (l1_InvalidLine : K.lookup f_InvalidLine = some ⟨oc_InvalidLine, od_InvalidLine, .func (PySem.W.fnOf "__init__" "InvalidLine.__init__" (defArgs sIL) (defBody sIL) (defScope sIL) .none kV_InvalidLine dc_InvalidLine pm_InvalidLine an_InvalidLine cd_InvalidLine ct_InvalidLine), sl_InvalidLine⟩)
    (g1_InvalidLine : PySem.W.codeIn K cd_InvalidLine "InvalidLine.__init__" = true)
    (k1_InvalidLine : PySem.W.keepIn K (.ref f_InvalidLine) = true)
    (sa_InvalidLine : PySem.W.findIn K (.ref C_InvalidLine) "__setattr__" = some (some (.builtin "object.__setattr__")))
    (nb_InvalidLine : PySem.W.findIn K (.ref C_InvalidLine) "value" = some none)
    {C_InvalidSizes f_InvalidSizes : Addr} {nm_InvalidSizes q_InvalidSizes : Str} {N_InvalidSizes : Addr} {bs_InvalidSizes : List Value} {sn_InvalidSizes : List Str} {sub_InvalidSizes : List Value} {ab_InvalidSizes : Bool} {col_InvalidSizes : Option Bool} {dd_InvalidSizes : Option Addr} {m0_InvalidSizes m1_InvalidSizes m2_InvalidSizes m3_InvalidSizes m5_InvalidSizes : Option Value} {od_InvalidSizes an_InvalidSizes : Option Addr} {sl_InvalidSizes : Array (Option Value)} {oc_InvalidSizes kV_InvalidSizes dc_InvalidSizes pm_InvalidSizes cd_InvalidSizes ct_InvalidSizes : Value}
    (aC_InvalidSizes : PySem.W.nsIn K mainGlobals "InvalidSizes" = some (some (.ref C_InvalidSizes)))
    (xL_InvalidSizes : K.lookup C_InvalidSizes = some (excClassObj nm_InvalidSizes q_InvalidSizes C_InvalidSizes N_InvalidSizes bs_InvalidSizes [.ref B_InputError, .type "ValueError", .type "Exception", .type "BaseException", .type "object"] true sn_InvalidSizes sub_InvalidSizes ab_InvalidSizes col_InvalidSizes dd_InvalidSizes m0_InvalidSizes m1_InvalidSizes m2_InvalidSizes m3_InvalidSizes m5_InvalidSizes "ValueError.__new__"))
    (ga_InvalidSizes : PySem.W.findIn K (.ref C_InvalidSizes) "__getattribute__" = some (some (.builtin "BaseException.__getattribute__")))
    (gg_InvalidSizes : PySem.W.findIn K (.ref C_InvalidSizes) "__getattr__" = some none)
    (hD_InvalidSizes : PySem.W.hasDictIn K C_InvalidSizes = true)
    (kC_InvalidSizes : PySem.W.keepIn K (.ref C_InvalidSizes) = true)
    (eC_InvalidSizes : PySem.W.subIn K (.ref C_InvalidSizes) (.type "BaseException") = some true)
    (tC_InvalidSizes : PySem.W.typeIn K (.ref C_InvalidSizes) = some (.type "type"))
    (iC_InvalidSizes : PySem.W.isClsIn K C_InvalidSizes = true)
    (a1_InvalidSizes : PySem.W.findIn K (.ref C_InvalidSizes) "__init__" = some (some (.ref f_InvalidSizes)))
    (t1_InvalidSizes : PySem.W.typeIn K (.ref f_InvalidSizes) = some (.type "function"))
    (l1_InvalidSizes : K.lookup f_InvalidSizes = some ⟨oc_InvalidSizes, od_InvalidSizes, .func (PySem.W.fnOf "__init__" "InvalidSizes.__init__" (defArgs sIS) (defBody sIS) (defScope sIS) .none kV_InvalidSizes dc_InvalidSizes pm_InvalidSizes an_InvalidSizes cd_InvalidSizes ct_InvalidSizes), sl_InvalidSizes⟩)
    (g1_InvalidSizes : PySem.W.codeIn K cd_InvalidSizes "InvalidSizes.__init__" = true)
    (k1_InvalidSizes : PySem.W.keepIn K (.ref f_InvalidSizes) = true)
    (sa_InvalidSizes : PySem.W.findIn K (.ref C_InvalidSizes) "__setattr__" = some (some (.builtin "object.__setattr__")))
    (nb_InvalidSizes : PySem.W.findIn K (.ref C_InvalidSizes) "name" = some none)
    {C_InvalidCount f_InvalidCount : Addr} {nm_InvalidCount q_InvalidCount : Str} {N_InvalidCount : Addr} {bs_InvalidCount : List Value} {sn_InvalidCount : List Str} {sub_InvalidCount : List Value} {ab_InvalidCount : Bool} {col_InvalidCount : Option Bool} {dd_InvalidCount : Option Addr} {m0_InvalidCount m1_InvalidCount m2_InvalidCount m3_InvalidCount m5_InvalidCount : Option Value} {od_InvalidCount an_InvalidCount : Option Addr} {sl_InvalidCount : Array (Option Value)} {oc_InvalidCount kV_InvalidCount dc_InvalidCount pm_InvalidCount cd_InvalidCount ct_InvalidCount : Value}
    (aC_InvalidCount : PySem.W.nsIn K mainGlobals "InvalidCount" = some (some (.ref C_InvalidCount)))
    (xL_InvalidCount : K.lookup C_InvalidCount = some (excClassObj nm_InvalidCount q_InvalidCount C_InvalidCount N_InvalidCount bs_InvalidCount [.ref B_InputError, .type "ValueError", .type "Exception", .type "BaseException", .type "object"] true sn_InvalidCount sub_InvalidCount ab_InvalidCount col_InvalidCount dd_InvalidCount m0_InvalidCount m1_InvalidCount m2_InvalidCount m3_InvalidCount m5_InvalidCount "ValueError.__new__"))
    (ga_InvalidCount : PySem.W.findIn K (.ref C_InvalidCount) "__getattribute__" = some (some (.builtin "BaseException.__getattribute__")))
    (gg_InvalidCount : PySem.W.findIn K (.ref C_InvalidCount) "__getattr__" = some none)
    (hD_InvalidCount : PySem.W.hasDictIn K C_InvalidCount = true)
    (kC_InvalidCount : PySem.W.keepIn K (.ref C_InvalidCount) = true)
    (eC_InvalidCount : PySem.W.subIn K (.ref C_InvalidCount) (.type "BaseException") = some true)
    (tC_InvalidCount : PySem.W.typeIn K (.ref C_InvalidCount) = some (.type "type"))
    (iC_InvalidCount : PySem.W.isClsIn K C_InvalidCount = true)
    (a1_InvalidCount : PySem.W.findIn K (.ref C_InvalidCount) "__init__" = some (some (.ref f_InvalidCount)))
    (t1_InvalidCount : PySem.W.typeIn K (.ref f_InvalidCount) = some (.type "function"))
    (l1_InvalidCount : K.lookup f_InvalidCount = some ⟨oc_InvalidCount, od_InvalidCount, .func (PySem.W.fnOf "__init__" "InvalidCount.__init__" (defArgs sIC) (defBody sIC) (defScope sIC) .none kV_InvalidCount dc_InvalidCount pm_InvalidCount an_InvalidCount cd_InvalidCount ct_InvalidCount), sl_InvalidCount⟩)
    (g1_InvalidCount : PySem.W.codeIn K cd_InvalidCount "InvalidCount.__init__" = true)
    (k1_InvalidCount : PySem.W.keepIn K (.ref f_InvalidCount) = true)
    (sa_InvalidCount : PySem.W.findIn K (.ref C_InvalidCount) "__setattr__" = some (some (.builtin "object.__setattr__")))
    (nb_InvalidCount : PySem.W.findIn K (.ref C_InvalidCount) "value" = some none)
    {C_NoneFits f_NoneFits : Addr} {nm_NoneFits q_NoneFits : Str} {N_NoneFits : Addr} {bs_NoneFits : List Value} {sn_NoneFits : List Str} {sub_NoneFits : List Value} {ab_NoneFits : Bool} {col_NoneFits : Option Bool} {dd_NoneFits : Option Addr} {m0_NoneFits m1_NoneFits m2_NoneFits m3_NoneFits m5_NoneFits : Option Value} {od_NoneFits an_NoneFits : Option Addr} {sl_NoneFits : Array (Option Value)} {oc_NoneFits kV_NoneFits dc_NoneFits pm_NoneFits cd_NoneFits ct_NoneFits : Value}
    (aC_NoneFits : PySem.W.nsIn K mainGlobals "NoneFits" = some (some (.ref C_NoneFits)))
    (xL_NoneFits : K.lookup C_NoneFits = some (excClassObj nm_NoneFits q_NoneFits C_NoneFits N_NoneFits bs_NoneFits [.ref B_StateError, .type "RuntimeError", .type "Exception", .type "BaseException", .type "object"] true sn_NoneFits sub_NoneFits ab_NoneFits col_NoneFits dd_NoneFits m0_NoneFits m1_NoneFits m2_NoneFits m3_NoneFits m5_NoneFits "RuntimeError.__new__"))
    (ga_NoneFits : PySem.W.findIn K (.ref C_NoneFits) "__getattribute__" = some (some (.builtin "BaseException.__getattribute__")))
    (gg_NoneFits : PySem.W.findIn K (.ref C_NoneFits) "__getattr__" = some none)
    (hD_NoneFits : PySem.W.hasDictIn K C_NoneFits = true)
    (kC_NoneFits : PySem.W.keepIn K (.ref C_NoneFits) = true)
    (eC_NoneFits : PySem.W.subIn K (.ref C_NoneFits) (.type "BaseException") = some true)
    (tC_NoneFits : PySem.W.typeIn K (.ref C_NoneFits) = some (.type "type"))
    (iC_NoneFits : PySem.W.isClsIn K C_NoneFits = true)
    (a1_NoneFits : PySem.W.findIn K (.ref C_NoneFits) "__init__" = some (some (.ref f_NoneFits)))
    (t1_NoneFits : PySem.W.typeIn K (.ref f_NoneFits) = some (.type "function"))
    (l1_NoneFits : K.lookup f_NoneFits = some ⟨oc_NoneFits, od_NoneFits, .func (PySem.W.fnOf "__init__" "NoneFits.__init__" (defArgs sNF) (defBody sNF) (defScope sNF) .none kV_NoneFits dc_NoneFits pm_NoneFits an_NoneFits cd_NoneFits ct_NoneFits), sl_NoneFits⟩)
    (g1_NoneFits : PySem.W.codeIn K cd_NoneFits "NoneFits.__init__" = true)
    (k1_NoneFits : PySem.W.keepIn K (.ref f_NoneFits) = true)
    (ha_NoneFits : PySem.W.findIn K (.ref C_NoneFits) "__class__" = some (some (.builtin "object.__class__")))
    (hm_NoneFits : PySem.W.mroIn K C_NoneFits (.type "object") = some true)
    (hn_oc : PySem.W.specialIn K (.builtin "object.__class__") "__get__" = some (some (.builtin "getset_descriptor.__get__")))
    (ht_oc : PySem.W.takesIn K (.builtin "object.__class__") = some true)
    (s_InvalidLine_InvalidLine : PySem.W.subIn K (.ref C_InvalidLine) (.ref C_InvalidLine) = some true)
    (s_InvalidSizes_InvalidLine : PySem.W.subIn K (.ref C_InvalidSizes) (.ref C_InvalidLine) = some false)
    (s_InvalidSizes_InvalidSizes : PySem.W.subIn K (.ref C_InvalidSizes) (.ref C_InvalidSizes) = some true)
    (s_InvalidCount_InvalidLine : PySem.W.subIn K (.ref C_InvalidCount) (.ref C_InvalidLine) = some false)
    (s_InvalidCount_InvalidSizes : PySem.W.subIn K (.ref C_InvalidCount) (.ref C_InvalidSizes) = some false)
    (s_InvalidCount_InvalidCount : PySem.W.subIn K (.ref C_InvalidCount) (.ref C_InvalidCount) = some true)
    (s_NoneFits_InvalidLine : PySem.W.subIn K (.ref C_NoneFits) (.ref C_InvalidLine) = some false)
    (s_NoneFits_InvalidSizes : PySem.W.subIn K (.ref C_NoneFits) (.ref C_InvalidSizes) = some false)
    (s_NoneFits_InvalidCount : PySem.W.subIn K (.ref C_NoneFits) (.ref C_InvalidCount) = some false)
    (s_NoneFits_InputError : PySem.W.subIn K (.ref C_NoneFits) (.ref B_InputError) = some false)
    (s_NoneFits_NoneFits : PySem.W.subIn K (.ref C_NoneFits) (.ref C_NoneFits) = some true)
    (s_NoneFits_StateError : PySem.W.subIn K (.ref C_NoneFits) (.ref B_StateError) = some true)
    (z_isinstance : PySem.W.nsIn K mainGlobals "isinstance" = some none)
    (z_int : PySem.W.nsIn K mainGlobals "int" = some none)
    (z_bool : PySem.W.nsIn K mainGlobals "bool" = some none)
    (z_list : PySem.W.nsIn K mainGlobals "list" = some none)
    (z_tuple : PySem.W.nsIn K mainGlobals "tuple" = some none)
    (z_len : PySem.W.nsIn K mainGlobals "len" = some none)
    (z_sum : PySem.W.nsIn K mainGlobals "sum" = some none)
    (z_sorted : PySem.W.nsIn K mainGlobals "sorted" = some none)
    (z_set : PySem.W.nsIn K mainGlobals "set" = some none)
    (z_dict : PySem.W.nsIn K mainGlobals "dict" = some none)
    (z_str : PySem.W.nsIn K mainGlobals "str" = some none)
    {t_LONGEST_NAME : Tok}
    (z_LONGEST_NAME : PySem.W.nsIn K mainGlobals "LONGEST_NAME" = some (some (.int 8 t_LONGEST_NAME)))
    {a_IS_RESERVED : Addr} {es_IS_RESERVED : Array DictEntry} {n_IS_RESERVED : Nat}
    (z_IS_RESERVED : PySem.W.nsIn K mainGlobals "IS_RESERVED" = some (some (.ref a_IS_RESERVED)))
    (d_IS_RESERVED : K.lookup a_IS_RESERVED = some ⟨.type "dict", none, .dict es_IS_RESERVED n_IS_RESERVED, #[]⟩)
    (e_IS_RESERVED : PySem.W.KeysLit w.params es_IS_RESERVED.toList)
    (x_IS_RESERVED : KeysAre es_IS_RESERVED.toList NL.resBL)
    (y_IS_RESERVED : (a_IS_RESERVED == sysModules) = false)
    (z_all : PySem.W.nsIn K mainGlobals "all" = some none)
    (z_range : PySem.W.nsIn K mainGlobals "range" = some none)
    (z_max : PySem.W.nsIn K mainGlobals "max" = some none)
    (z_min : PySem.W.nsIn K mainGlobals "min" = some none)
    (z_repr : PySem.W.nsIn K mainGlobals "repr" = some none)
    (h_K : K.lookup sysModules = none)
    (z_abs : PySem.W.nsIn K mainGlobals "abs" = some none)
    (z_divmod : PySem.W.nsIn K mainGlobals "divmod" = some none)
    : LawTM PySem.Challenge.rw_nestdeep_k81_slack w K 15 63 "_law_script" mg fa h := by
  have b1 := PySem.W.mg_of inh G a1
  have b2 := PySem.W.mg_of inh G a2
  have b3 := PySem.W.mg_of inh G a3
  have b4 := PySem.W.mg_of inh G a4
  have b5 := PySem.W.mg_of inh G a5
  have b6 := PySem.W.mg_of inh G a6
  have b7 := PySem.W.mg_of inh G a7
  have b8 := PySem.W.mg_of inh G a8
  have b9 := PySem.W.mg_of inh G a9
  have b10 := PySem.W.mg_of inh G a10
  have b11 := PySem.W.mg_of inh G a11
  have b12 := PySem.W.mg_of inh G a12
  have b13 := PySem.W.mg_of inh G a13
  have b14 := PySem.W.mg_of inh G a14
  have b15 := PySem.W.mg_of inh G a15
  have b16 := PySem.W.mg_of inh G a16
  have b17 := PySem.W.mg_of inh G a17
  have b18 := PySem.W.mg_of inh G a18
  have b19 := PySem.W.mg_of inh G a19
  have b20 := PySem.W.mg_of inh G a20
  have b21 := PySem.W.mg_of inh G a21
  have b22 := PySem.W.mg_of inh G a22
  have b23 := PySem.W.mg_of inh G a23
  have b24 := PySem.W.mg_of inh G a24
  have b25 := PySem.W.mg_of inh G a25
  have b26 := PySem.W.mg_of inh G a26
  have b27 := PySem.W.mg_of inh G a27
  have b28 := PySem.W.mg_of inh G a28
  have b29 := PySem.W.mg_of inh G a29
  have b30 := PySem.W.mg_of inh G a30
  have m_isinstance := PySem.W.mg_none_of inh G z_isinstance
  have m_int := PySem.W.mg_none_of inh G z_int
  have m_bool := PySem.W.mg_none_of inh G z_bool
  have m_list := PySem.W.mg_none_of inh G z_list
  have m_tuple := PySem.W.mg_none_of inh G z_tuple
  have m_len := PySem.W.mg_none_of inh G z_len
  have m_sum := PySem.W.mg_none_of inh G z_sum
  have m_sorted := PySem.W.mg_none_of inh G z_sorted
  have m_set := PySem.W.mg_none_of inh G z_set
  have m_dict := PySem.W.mg_none_of inh G z_dict
  have m_str := PySem.W.mg_none_of inh G z_str
  have m_LONGEST_NAME := PySem.W.mg_of inh G z_LONGEST_NAME
  have m_IS_RESERVED := PySem.W.mg_of inh G z_IS_RESERVED
  have KD_IS_RESERVED : KDict K w a_IS_RESERVED es_IS_RESERVED n_IS_RESERVED := ⟨d_IS_RESERVED, e_IS_RESERVED, y_IS_RESERVED⟩
  have hKD_IS_RESERVED := keys_look d_IS_RESERVED x_IS_RESERVED
  have m_all := PySem.W.mg_none_of inh G z_all
  have m_range := PySem.W.mg_none_of inh G z_range
  have m_max := PySem.W.mg_none_of inh G z_max
  have m_min := PySem.W.mg_none_of inh G z_min
  have m_repr := PySem.W.mg_none_of inh G z_repr
  have m_abs := PySem.W.mg_none_of inh G z_abs
  have m_divmod := PySem.W.mg_none_of inh G z_divmod
  have ef := hfa.symm.trans b29
  cases ef
  have nP27_29 : P27 ≠ P29 := of_decide_eq_false ne27_29
  obtain ⟨h27, t27⟩ := tab_at t inh r27 b27 l27 rfl rfl m27 v27
  obtain ⟨h29, t29⟩ := tab_at t inh r29 b29 l29 rfl rfl m29 v29
  let T : List NTab := [(P27, fun _ _ => ("_law_exceeded.<locals>.<lambda>" : Str)), (P29, fun _ _ => ("law.<locals>.<lambda>" : Str))]
  letI : Tbs := ⟨T, true⟩
  have h_S : Tbs.S = true := rfl
  letI : Bse := noX
  letI : ExA := ⟨C_InvalidLine, C_InvalidSizes, C_InvalidCount, C_InvalidLine, C_NoneFits, B_InputError, B_StateError⟩
  have F1 := fun_mk (st := s_law_pot) l1 g1 k1
  have F2 := fun_mk (st := s_law_draw) l2 g2 k2
  have F3 := fun_mk (st := sis_count) l3 g3 k3
  have F4 := fun_mk (st := sis_list) l4 g4 k4
  have F5 := fun_mk (st := sis_tuple_of) l5 g5 k5
  have F6 := fun_mk (st := ssize_of) l6 g6 k6
  have F7 := fun_mk (st := sframes_in) l7 g7 k7
  have F8 := fun_mk (st := scheck_sizes) l8 g8 k8
  have F9 := fun_mk (st := scheck_limit) l9 g9 k9
  have F10 := fun_mk (st := sis_name) l10 g10 k10
  have F11 := fun_mk (st := s_is_part) l11 g11 k11
  have F12 := fun_mk (st := sis_line) l12 g12 k12
  have F13 := fun_mk (st := scheck_line) l13 g13 k13
  have F14 := fun_mk (st := scheck_lines) l14 g14 k14
  have F15 := fun_mk (st := s_check) l15 g15 k15
  have F16 := fun_mk (st := sslack) l16 g16 k16
  have F17 := fun_mk (st := scommon_slack) l17 g17 k17
  have F18 := fun_mk (st := s_law_pick) l18 g18 k18
  have F19 := fun_mk (st := s_law_frames) l19 g19 k19
  have F20 := fun_mk (st := s_law_line) l20 g20 k20
  have F21 := fun_mk (st := s_law_lines) l21 g21 k21
  have F22 := fun_mk (st := s_law_deep) l22 g22 k22
  have F23 := fun_mk (st := s_law_more) l23 g23 k23
  have F24 := fun_mk (st := s_law_held) l24 g24 k24
  have F25 := fun_mk (st := s_law_just) l25 g25 k25
  have F26 := fun_mk (st := s_law_right) l26 g26 k26
  have F27 : FunC K "_law_exceeded" "_law_exceeded" s_law_exceeded f27 _ c27 := ⟨⟨_, _, _, _, _, _, _, _, rfl, l27, g27⟩, k27⟩
  have F28 := fun_mk (st := s_law_spoilt) l28 g28 k28
  have F29 : FunC K "law" "law" slaw fa _ c29 := ⟨⟨_, _, _, _, _, _, _, _, rfl, l29, g29⟩, k29⟩
  have u27 : ∀ p ∈ Tbs.T, p.1 = P27 → p.2 = fun _ _ => ("_law_exceeded.<locals>.<lambda>" : Str) := fun p hp e => by
    rcases List.mem_cons.mp hp with z | hp
    · rw [z]
    rcases List.mem_cons.mp hp with z | hp
    · rw [z] at e
      exact absurd e (Ne.symm nP27_29)
    · cases hp
  have u29 : ∀ p ∈ Tbs.T, p.1 = P29 → p.2 = fun _ _ => ("law.<locals>.<lambda>" : Str) := fun p hp e => by
    rcases List.mem_cons.mp hp with z | hp
    · rw [z] at e
      exact absurd e nP27_29
    rcases List.mem_cons.mp hp with z | hp
    · rw [z]
    · cases hp
  have mB_InputError := PySem.W.mg_of inh G aB_InputError
  have mB_StateError := PySem.W.mg_of inh G aB_StateError
  have O_InvalidLine : OexC K C_InvalidLine := ⟨⟨nm_InvalidLine, q_InvalidLine, N_InvalidLine, bs_InvalidLine, _, sn_InvalidLine, sub_InvalidLine, ab_InvalidLine, col_InvalidLine, dd_InvalidLine, m0_InvalidLine, m1_InvalidLine, m2_InvalidLine, m3_InvalidLine, m5_InvalidLine, xL_InvalidLine, rfl⟩, sa_InvalidLine, eC_InvalidLine, tC_InvalidLine, kC_InvalidLine⟩
  have mC_InvalidLine := PySem.W.mg_of inh G aC_InvalidLine
  have FI_InvalidLine := fun_mk (st := sIL) l1_InvalidLine g1_InvalidLine k1_InvalidLine
  have XF_InvalidLine : XfC K C_InvalidLine := ⟨ga_InvalidLine, gg_InvalidLine, eC_InvalidLine, hD_InvalidLine⟩
  have O_InvalidSizes : OexC K C_InvalidSizes := ⟨⟨nm_InvalidSizes, q_InvalidSizes, N_InvalidSizes, bs_InvalidSizes, _, sn_InvalidSizes, sub_InvalidSizes, ab_InvalidSizes, col_InvalidSizes, dd_InvalidSizes, m0_InvalidSizes, m1_InvalidSizes, m2_InvalidSizes, m3_InvalidSizes, m5_InvalidSizes, xL_InvalidSizes, rfl⟩, sa_InvalidSizes, eC_InvalidSizes, tC_InvalidSizes, kC_InvalidSizes⟩
  have mC_InvalidSizes := PySem.W.mg_of inh G aC_InvalidSizes
  have FI_InvalidSizes := fun_mk (st := sIS) l1_InvalidSizes g1_InvalidSizes k1_InvalidSizes
  have XF_InvalidSizes : XfC K C_InvalidSizes := ⟨ga_InvalidSizes, gg_InvalidSizes, eC_InvalidSizes, hD_InvalidSizes⟩
  have O_InvalidCount : OexC K C_InvalidCount := ⟨⟨nm_InvalidCount, q_InvalidCount, N_InvalidCount, bs_InvalidCount, _, sn_InvalidCount, sub_InvalidCount, ab_InvalidCount, col_InvalidCount, dd_InvalidCount, m0_InvalidCount, m1_InvalidCount, m2_InvalidCount, m3_InvalidCount, m5_InvalidCount, xL_InvalidCount, rfl⟩, sa_InvalidCount, eC_InvalidCount, tC_InvalidCount, kC_InvalidCount⟩
  have mC_InvalidCount := PySem.W.mg_of inh G aC_InvalidCount
  have FI_InvalidCount := fun_mk (st := sIC) l1_InvalidCount g1_InvalidCount k1_InvalidCount
  have XF_InvalidCount : XfC K C_InvalidCount := ⟨ga_InvalidCount, gg_InvalidCount, eC_InvalidCount, hD_InvalidCount⟩
  have O_NoneFits : OexT K "RuntimeError" "RuntimeError.__new__" "RuntimeError.__init__" [.type "RuntimeError", .type "Exception", .type "BaseException", .type "object"] C_NoneFits := ⟨⟨nm_NoneFits, q_NoneFits, N_NoneFits, bs_NoneFits, _, sn_NoneFits, sub_NoneFits, ab_NoneFits, col_NoneFits, dd_NoneFits, m0_NoneFits, m1_NoneFits, m2_NoneFits, m3_NoneFits, m5_NoneFits, xL_NoneFits, fun Y => rfl⟩, eC_NoneFits, tC_NoneFits, kC_NoneFits⟩
  have mC_NoneFits := PySem.W.mg_of inh G aC_NoneFits
  have FI_NoneFits := fun_mk (st := sNF) l1_NoneFits g1_NoneFits k1_NoneFits
  have XC_NoneFits : ExcC K C_NoneFits := ⟨ga_NoneFits, gg_NoneFits, eC_NoneFits, hD_NoneFits, ha_NoneFits, hn_oc, ht_oc, hm_NoneFits⟩
  have TF__law_told : ToldF K mg := { ex := ⟨f30, oc30, od30, sl30, kV30, dc30, pm30, an30, cd30, ct30, b30, k30, l30, g30⟩, m1 := mC_InvalidLine, x1 := XF_InvalidLine, n1 := nb_InvalidLine, m2 := mC_InvalidSizes, x2 := XF_InvalidSizes, n2 := nb_InvalidSizes, m3 := mC_InvalidCount, x3 := XF_InvalidCount, n3 := nb_InvalidCount, m4 := mB_InputError, m5 := mC_NoneFits, x5 := XC_NoneFits, m6 := mB_StateError, mi := m_isinstance }
  have XK : ExK K := { e11 := exm_b eC_InvalidLine iC_InvalidLine tC_InvalidLine s_InvalidLine_InvalidLine, e21 := exm_b eC_InvalidLine iC_InvalidLine tC_InvalidLine s_InvalidSizes_InvalidLine, e22 := exm_b eC_InvalidSizes iC_InvalidSizes tC_InvalidSizes s_InvalidSizes_InvalidSizes, e31 := exm_b eC_InvalidLine iC_InvalidLine tC_InvalidLine s_InvalidCount_InvalidLine, e32 := exm_b eC_InvalidSizes iC_InvalidSizes tC_InvalidSizes s_InvalidCount_InvalidSizes, e33 := exm_b eC_InvalidCount iC_InvalidCount tC_InvalidCount s_InvalidCount_InvalidCount, e51 := exm_b eC_InvalidLine iC_InvalidLine tC_InvalidLine s_NoneFits_InvalidLine, e52 := exm_b eC_InvalidSizes iC_InvalidSizes tC_InvalidSizes s_NoneFits_InvalidSizes, e53 := exm_b eC_InvalidCount iC_InvalidCount tC_InvalidCount s_NoneFits_InvalidCount, e54 := exm_b eB_InputError iB_InputError h2_InputError s_NoneFits_InputError, e55 := exm_b eC_NoneFits iC_NoneFits tC_NoneFits s_NoneFits_NoneFits, k56 := kit_b iB_StateError h2_StateError s_NoneFits_StateError }
  refine ⟨h_K, PySem.W.fnOf "law" "law" (defArgs slaw) (defBody slaw) (defScope slaw) .none kV29 dc29 pm29 an29 (.ref c29) ct29, spD K cLaw, [(c27, P27), (c29, P29)], fun p hp => ?_, fun p hp => ?_, fun p hp => ?_, fun t u => .of_eq rfl, fun H a ns hM hT hn _ hS => law_in (fun _ => hM) (fun p hp => ?_) hS ⟨ns, rfl, hn, rfl⟩, fun base inb nsb tb => ?_⟩
  · rcases List.mem_cons.mp hp with z | hp
    · rw [z]; exact t27
    rcases List.mem_cons.mp hp with z | hp
    · rw [z]; exact t29
    · cases hp
  · rcases List.mem_cons.mp hp with z | hp
    · rw [z]; exact n27
    rcases List.mem_cons.mp hp with z | hp
    · rw [z]; exact n29
    · cases hp
  · rcases List.mem_cons.mp hp with z | hp
    · rw [z]; exact h27
    rcases List.mem_cons.mp hp with z | hp
    · rw [z]; exact h29
    · cases hp
  · rcases List.mem_cons.mp hp with z | hp
    · rw [z]; exact hT (c27, P27) List.mem_cons_self
    rcases List.mem_cons.mp hp with z | hp
    · rw [z]; exact hT (c29, P29) (List.mem_cons_of_mem _ List.mem_cons_self)
    · cases hp
  · have tb27 := tb (c27, P27) List.mem_cons_self
    have tb29 := tb (c29, P29) (List.mem_cons_of_mem _ List.mem_cons_self)
    have E_InvalidLine : ExI PySem.Challenge.rw_nestdeep_k81_slack.prog w K mg base 1 "InvalidLine" ExA.InvalidLine "value" (fun _ => True) := ⟨O_InvalidLine, ⟨f_InvalidLine, _, ["self", "value"], a1_InvalidLine, t1_InvalidLine, (ok_IL (k := 0) FI_InvalidLine O_InvalidLine nb_InvalidLine mB_InputError h1_InputError h2_InputError h3_InputError h4_InputError).imp (fun vs H Q E hh => by obtain ⟨a, v, e, _, z⟩ := hh; exact ⟨a, v, e, z⟩), FI_InvalidLine.binds (ps := ["self", "value"]) fun _ _ _ _ _ _ us hl => match us, hl with | [_, _], _ => rfl⟩, mC_InvalidLine⟩
    have E_InvalidSizes : ExI PySem.Challenge.rw_nestdeep_k81_slack.prog w K mg base 1 "InvalidSizes" ExA.InvalidSizes "name" shortV := ⟨O_InvalidSizes, ⟨f_InvalidSizes, _, ["self", "name"], a1_InvalidSizes, t1_InvalidSizes, (ok_IS (k := 0) FI_InvalidSizes O_InvalidSizes nb_InvalidSizes mB_InputError h1_InputError h2_InputError h3_InputError h4_InputError).imp (fun vs H Q E hh => hh), FI_InvalidSizes.binds (ps := ["self", "name"]) fun _ _ _ _ _ _ us hl => match us, hl with | [_, _], _ => rfl⟩, mC_InvalidSizes⟩
    have E_InvalidCount : ExI PySem.Challenge.rw_nestdeep_k81_slack.prog w K mg base 1 "InvalidCount" ExA.InvalidCount "value" (fun _ => True) := ⟨O_InvalidCount, ⟨f_InvalidCount, _, ["self", "value"], a1_InvalidCount, t1_InvalidCount, (ok_IC (k := 0) FI_InvalidCount O_InvalidCount nb_InvalidCount mB_InputError h1_InputError h2_InputError h3_InputError h4_InputError).imp (fun vs H Q E hh => by obtain ⟨a, v, e, _, z⟩ := hh; exact ⟨a, v, e, z⟩), FI_InvalidCount.binds (ps := ["self", "value"]) fun _ _ _ _ _ _ us hl => match us, hl with | [_, _], _ => rfl⟩, mC_InvalidCount⟩
    have E_NoneFits : ExT PySem.Challenge.rw_nestdeep_k81_slack.prog w K mg base 1 "NoneFits" ExA.NoneFits := ⟨⟨_, _, _, _, f_NoneFits, _, ["self"], PySem.F.excBase_RuntimeError, O_NoneFits, a1_NoneFits, t1_NoneFits, ok_NF (k := 0) FI_NoneFits PySem.F.excBase_RuntimeError O_NoneFits mB_StateError h1_StateError h2_StateError h3_StateError h4_StateError, FI_NoneFits.binds (ps := ["self"]) fun _ _ _ _ _ _ us hl => match us, hl with | [_], _ => rfl⟩, mC_NoneFits⟩
    have G_law_pot : CalG PySem.Challenge.rw_nestdeep_k81_slack.prog w K mg base 1 "_law_pot" s_law_pot ["_law_script", "_law_index"] (spNewP K cPot) := c_law_pot (k := 0) F1 b1 m_len m_abs m_max m_int
    have G_law_draw : CalG PySem.Challenge.rw_nestdeep_k81_slack.prog w K mg base 1 "_law_draw" s_law_draw ["_law_pot_here", "_law_many"] (spP K cDrawW) := c_law_draw (k := 0) F2 b2 m_divmod m_int
    have Cis_count : CalD PySem.Challenge.rw_nestdeep_k81_slack.prog w K mg base 1 "is_count" (spD K cCount) := cis_count (k := 0) F3 b3 m_isinstance m_int m_bool
    have Cis_list : CalD PySem.Challenge.rw_nestdeep_k81_slack.prog w K mg base 1 "is_list" (spD K cIsList) := cis_list (k := 0) F4 b4 m_isinstance m_list m_tuple
    have Cis_tuple_of : CalD PySem.Challenge.rw_nestdeep_k81_slack.prog w K mg base 1 "is_tuple_of" (spD K cTupOf) := cis_tuple_of (k := 0) F5 b5 m_isinstance m_tuple m_len
    have Csize_of : CalD PySem.Challenge.rw_nestdeep_k81_slack.prog w K mg base 1 "size_of" (spD K cSizeOf) := csize_of (k := 0) F6 b6 m_sum
    have Cframes_in : CalD PySem.Challenge.rw_nestdeep_k81_slack.prog w K mg base 1 "frames_in" (spD K cFrames) := cframes_in (k := 0) F7 b7 m_sorted m_set
    have Xcheck_sizes : CalXK PySem.Challenge.rw_nestdeep_k81_slack.prog w K mg base 3 "check_sizes" scheck_sizes ["frames", "sizes"] (spX K cChkSizes) := ccheck_sizes (k := 1) F8 b8 (Cis_count.mono (by decide)) (E_InvalidSizes.mono (by decide)) m_isinstance m_dict
    have Xcheck_limit : CalXK PySem.Challenge.rw_nestdeep_k81_slack.prog w K mg base 3 "check_limit" scheck_limit ["limit"] (spX K cChkLimit) := ccheck_limit (k := 1) F9 b9 (Cis_count.mono (by decide)) (E_InvalidCount.mono (by decide))
    have Cis_name : CalD PySem.Challenge.rw_nestdeep_k81_slack.prog w K mg base 1 "is_name" (spD K cName) := cis_name (k := 0) F10 b10 m_isinstance m_str m_len m_LONGEST_NAME m_IS_RESERVED KD_IS_RESERVED hKD_IS_RESERVED
    have C_is_part : CalD PySem.Challenge.rw_nestdeep_k81_slack.prog w K mg base 2 "_is_part" (spD K cPart) := c_is_part (k := 1) F11 b11 (Cis_tuple_of.mono (by decide)) (Cis_name.mono (by decide)) (Cis_count.mono (by decide))
    have Cis_line : CalD PySem.Challenge.rw_nestdeep_k81_slack.prog w K mg base 3 "is_line" (spD K cLine) := cis_line (k := 2) F12 b12 (C_is_part.mono (by decide)) m_all m_range m_len m_isinstance m_tuple
    have Xcheck_line : CalXK PySem.Challenge.rw_nestdeep_k81_slack.prog w K mg base 5 "check_line" scheck_line ["line"] (spX K cChkLine) := ccheck_line (k := 3) F13 b13 (Cis_line.mono (by decide)) (E_InvalidLine.mono (by decide))
    have Xcheck_lines : CalXK PySem.Challenge.rw_nestdeep_k81_slack.prog w K mg base 7 "check_lines" scheck_lines ["lines"] (spX K cChkLines) := ccheck_lines (k := 5) F14 b14 (Xcheck_line.mono (by decide)) (Cis_list.mono (by decide)) (E_InvalidLine.mono (by decide))
    have X_check : CalXK PySem.Challenge.rw_nestdeep_k81_slack.prog w K mg base 9 "_check" s_check ["lines", "sizes", "limit"] (spX K cCheck) := c_check (k := 7) F15 b15 (Csize_of.mono (by decide)) (Xcheck_limit.mono (by decide)) (Xcheck_sizes.mono (by decide)) (Cframes_in.mono (by decide)) (Xcheck_lines.mono (by decide)) (Cis_list.mono (by decide)) (E_NoneFits.mono (by decide)) (E_InvalidLine.mono (by decide)) m_max
    have Xslack : CalXK PySem.Challenge.rw_nestdeep_k81_slack.prog w K mg base 11 "slack" sslack ["lines", "sizes", "limit"] (spX K cSlack) := cslack (k := 9) F16 b16 (Csize_of.mono (by decide)) (X_check.mono (by decide)) m_sorted m_min
    have Xcommon_slack : CalXK PySem.Challenge.rw_nestdeep_k81_slack.prog w K mg base 11 "common_slack" scommon_slack ["lines", "sizes", "limit"] (spX K cCommon) := ccommon_slack (k := 9) F17 b17 (Csize_of.mono (by decide)) (X_check.mono (by decide)) m_min m_sum
    have G_law_pick : CalG PySem.Challenge.rw_nestdeep_k81_slack.prog w K mg base 2 "_law_pick" s_law_pick ["_law_pot_here", "_law_some"] (spP K cPick) := c_law_pick (k := 1) F18 b18 (G_law_draw.mono (by decide)) m_len
    have G_law_frames : CalG PySem.Challenge.rw_nestdeep_k81_slack.prog w K mg base 2 "_law_frames" s_law_frames ["_law_pot_here", "_law_upper"] (spP K cLFrames) := c_law_frames (k := 1) F19 b19 (G_law_draw.mono (by decide))
    have G_law_line : CalG PySem.Challenge.rw_nestdeep_k81_slack.prog w K mg base 2 "_law_line" s_law_line ["_law_pot_here", "_law_frames_here", "_law_upper"] (spP K cLLine) := c_law_line (k := 1) F20 b20 (G_law_draw.mono (by decide)) m_tuple
    have G_law_lines : CalG PySem.Challenge.rw_nestdeep_k81_slack.prog w K mg base 3 "_law_lines" s_law_lines ["_law_pot_here", "_law_frames_here", "_law_many"] (spP K cLLines) := c_law_lines (k := 2) F21 b21 (G_law_draw.mono (by decide)) (G_law_line.mono (by decide)) (G_law_pick.mono (by decide)) m_range m_tuple
    have G_law_deep : CalG PySem.Challenge.rw_nestdeep_k81_slack.prog w K mg base 1 "_law_deep" s_law_deep ["_law_lines_here", "_law_table"] (spD K cDeep) := c_law_deep (k := 0) F22 b22 m_max m_sum
    have G_law_more : CalG PySem.Challenge.rw_nestdeep_k81_slack.prog w K mg base 1 "_law_more" s_law_more ["_law_table", "_law_names", "_law_many"] (spD K cMore) := c_law_more (k := 0) F23 b23 m_dict
    have G_law_held : CalG PySem.Challenge.rw_nestdeep_k81_slack.prog w K mg base 1 "_law_held" s_law_held ["_law_lines_here"] (spD K cFrames) := c_law_held (k := 0) F24 b24 m_sorted m_set
    have G_law_just : CalG PySem.Challenge.rw_nestdeep_k81_slack.prog w K mg base 2 "_law_just" s_law_just ["_law_lines_here", "_law_table", "_law_names", "_law_many", "_law_limit"] (spD K cJust) := c_law_just (k := 1) F25 b25 (G_law_deep.mono (by decide)) (G_law_more.mono (by decide))
    have G_law_right : CalG PySem.Challenge.rw_nestdeep_k81_slack.prog w K mg base 12 "_law_right" s_law_right ["_law_lines_here", "_law_table", "_law_limit"] (spD K cRight) := c_law_right (k := 11) F26 b26 (G_law_just.mono (by decide)) (Xcommon_slack.mono (by decide)) (Xslack.mono (by decide)) (G_law_held.mono (by decide)) m_list m_all m_sorted m_tuple
    have G_law_exceeded : CalG PySem.Challenge.rw_nestdeep_k81_slack.prog w K mg base 14 "_law_exceeded" s_law_exceeded ["_law_lines_here", "_law_table", "_law_limit"] (spD K cExceeded) := c_law_exceeded (k := 13) F27 b27 XK (kl := 11) (by decide) (Xcommon_slack.mono (by decide)) (Xslack.mono (by decide)) TF__law_told tb27 List.mem_cons_self u27
    have G_law_spoilt : CalG PySem.Challenge.rw_nestdeep_k81_slack.prog w K mg base 3 "_law_spoilt" s_law_spoilt ["_law_pot_here", "_law_lines_here", "_law_table", "_law_limit"] (spP K cSpoilt) := c_law_spoilt (k := 2) F28 b28 (G_law_pick.mono (by decide)) (G_law_draw.mono (by decide)) (G_law_held.mono (by decide)) m_dict m_len
    exact claw (k := 14) F29 b29 XK (kl := 11) (by decide) (Xcommon_slack.mono (by decide)) (Xslack.mono (by decide)) (G_law_spoilt.mono (by decide)) (G_law_exceeded.mono (by decide)) (G_law_pick.mono (by decide)) (G_law_draw.mono (by decide)) (G_law_right.mono (by decide)) (G_law_deep.mono (by decide)) (G_law_lines.mono (by decide)) (G_law_frames.mono (by decide)) (G_law_pot.mono (by decide)) TF__law_told tb29 (List.mem_cons_of_mem _ List.mem_cons_self) u29 m_range m_max m_min m_len m_repr h_S h_K m_dict m_list
end P81

open PySem PySem.W PyProof.Rows
local macro_rules | `(tactic| o_head ($_ $k $a $e $_)) => `(tactic| o_head (DL.sysHook2 $k $a $e () ()))
set_option maxHeartbeats 0 in
theorem PySem.Challenge.cw_nestdeep_k81_slack_holds : PySem.Challenge.rw_nestdeep_k81_slack.Holds := by
  w_on; o_law; k_head; (case hw => w_witness2)
  k_fill
  refine DL.walk_tm (l := PySem.Challenge.rw_nestdeep_k81_slack) (most := 63) (k := 15) (x := "_law_script") rfl (by decide) rfl ⟨rfl, by decide, by decide⟩ (fun w h Y => DL.sys_of2 Y) ?F
  case F =>
    intro w mg fa h _ inh G hmg tab
    refine' P81.all inh G hmg tab ?a1 ?l1 ?g1 ?k1 ?a2 ?l2 ?g2 ?k2 ?a3 ?l3 ?g3 ?k3 ?a4 ?l4 ?g4 ?k4 ?a5 ?l5 ?g5 ?k5 ?a6 ?l6 ?g6 ?k6 ?a7 ?l7 ?g7 ?k7 ?a8 ?l8 ?g8 ?k8 ?a9 ?l9 ?g9 ?k9 ?a10 ?l10 ?g10 ?k10 ?a11 ?l11 ?g11 ?k11 ?a12 ?l12 ?g12 ?k12 ?a13 ?l13 ?g13 ?k13 ?a14 ?l14 ?g14 ?k14 ?a15 ?l15 ?g15 ?k15 ?a16 ?l16 ?g16 ?k16 ?a17 ?l17 ?g17 ?k17 ?a18 ?l18 ?g18 ?k18 ?a19 ?l19 ?g19 ?k19 ?a20 ?l20 ?g20 ?k20 ?a21 ?l21 ?g21 ?k21 ?a22 ?l22 ?g22 ?k22 ?a23 ?l23 ?g23 ?k23 ?a24 ?l24 ?g24 ?k24 ?a25 ?l25 ?g25 ?k25 ?a26 ?l26 ?g26 ?k26 ?a27 ?l27 ?g27 ?k27 ?a28 ?l28 ?g28 ?k28 ?a29 ?l29 ?g29 ?k29 ?a30 ?l30 ?g30 ?k30 ?m27 ?v27 ?n27 ?r27 ?m29 ?v29 ?n29 ?r29 ?ne27_29 ?aB_InputError ?h1_InputError ?h2_InputError ?h3_InputError ?h4_InputError ?eB_InputError ?iB_InputError ?aB_StateError ?h1_StateError ?h2_StateError ?h3_StateError ?h4_StateError ?eB_StateError ?iB_StateError ?aC_InvalidLine ?xL_InvalidLine ?ga_InvalidLine ?gg_InvalidLine ?hD_InvalidLine ?kC_InvalidLine ?eC_InvalidLine ?tC_InvalidLine ?iC_InvalidLine ?a1_InvalidLine ?t1_InvalidLine ?l1_InvalidLine ?g1_InvalidLine ?k1_InvalidLine ?sa_InvalidLine ?nb_InvalidLine ?aC_InvalidSizes ?xL_InvalidSizes ?ga_InvalidSizes ?gg_InvalidSizes ?hD_InvalidSizes ?kC_InvalidSizes ?eC_InvalidSizes ?tC_InvalidSizes ?iC_InvalidSizes ?a1_InvalidSizes ?t1_InvalidSizes ?l1_InvalidSizes ?g1_InvalidSizes ?k1_InvalidSizes ?sa_InvalidSizes ?nb_InvalidSizes ?aC_InvalidCount ?xL_InvalidCount ?ga_InvalidCount ?gg_InvalidCount ?hD_InvalidCount ?kC_InvalidCount ?eC_InvalidCount ?tC_InvalidCount ?iC_InvalidCount ?a1_InvalidCount ?t1_InvalidCount ?l1_InvalidCount ?g1_InvalidCount ?k1_InvalidCount ?sa_InvalidCount ?nb_InvalidCount ?aC_NoneFits ?xL_NoneFits ?ga_NoneFits ?gg_NoneFits ?hD_NoneFits ?kC_NoneFits ?eC_NoneFits ?tC_NoneFits ?iC_NoneFits ?a1_NoneFits ?t1_NoneFits ?l1_NoneFits ?g1_NoneFits ?k1_NoneFits ?ha_NoneFits ?hm_NoneFits ?hn_oc ?ht_oc ?s_InvalidLine_InvalidLine ?s_InvalidSizes_InvalidLine ?s_InvalidSizes_InvalidSizes ?s_InvalidCount_InvalidLine ?s_InvalidCount_InvalidSizes ?s_InvalidCount_InvalidCount ?s_NoneFits_InvalidLine ?s_NoneFits_InvalidSizes ?s_NoneFits_InvalidCount ?s_NoneFits_InputError ?s_NoneFits_NoneFits ?s_NoneFits_StateError ?z_isinstance ?z_int ?z_bool ?z_list ?z_tuple ?z_len ?z_sum ?z_sorted ?z_set ?z_dict ?z_str ?z_LONGEST_NAME ?z_IS_RESERVED ?d_IS_RESERVED ?e_IS_RESERVED ?x_IS_RESERVED ?y_IS_RESERVED ?z_all ?z_range ?z_max ?z_min ?z_repr ?h_K ?z_abs ?z_divmod
    (case a1 => k_is)
    (case l1 => k_is)
    (case g1 => k_is)
    (case k1 => k_is)
    (case a2 => k_is)
    (case l2 => k_is)
    (case g2 => k_is)
    (case k2 => k_is)
    (case a3 => k_is)
    (case l3 => k_is)
    (case g3 => k_is)
    (case k3 => k_is)
    (case a4 => k_is)
    (case l4 => k_is)
    (case g4 => k_is)
    (case k4 => k_is)
    (case a5 => k_is)
    (case l5 => k_is)
    (case g5 => k_is)
    (case k5 => k_is)
    (case a6 => k_is)
    (case l6 => k_is)
    (case g6 => k_is)
    (case k6 => k_is)
    (case a7 => k_is)
    (case l7 => k_is)
    (case g7 => k_is)
    (case k7 => k_is)
    (case a8 => k_is)
    (case l8 => k_is)
    (case g8 => k_is)
    (case k8 => k_is)
    (case a9 => k_is)
    (case l9 => k_is)
    (case g9 => k_is)
    (case k9 => k_is)
    (case a10 => k_is)
    (case l10 => k_is)
    (case g10 => k_is)
    (case k10 => k_is)
    (case a11 => k_is)
    (case l11 => k_is)
    (case g11 => k_is)
    (case k11 => k_is)
    (case a12 => k_is)
    (case l12 => k_is)
    (case g12 => k_is)
    (case k12 => k_is)
    (case a13 => k_is)
    (case l13 => k_is)
    (case g13 => k_is)
    (case k13 => k_is)
    (case a14 => k_is)
    (case l14 => k_is)
    (case g14 => k_is)
    (case k14 => k_is)
    (case a15 => k_is)
    (case l15 => k_is)
    (case g15 => k_is)
    (case k15 => k_is)
    (case a16 => k_is)
    (case l16 => k_is)
    (case g16 => k_is)
    (case k16 => k_is)
    (case a17 => k_is)
    (case l17 => k_is)
    (case g17 => k_is)
    (case k17 => k_is)
    (case a18 => k_is)
    (case l18 => k_is)
    (case g18 => k_is)
    (case k18 => k_is)
    (case a19 => k_is)
    (case l19 => k_is)
    (case g19 => k_is)
    (case k19 => k_is)
    (case a20 => k_is)
    (case l20 => k_is)
    (case g20 => k_is)
    (case k20 => k_is)
    (case a21 => k_is)
    (case l21 => k_is)
    (case g21 => k_is)
    (case k21 => k_is)
    (case a22 => k_is)
    (case l22 => k_is)
    (case g22 => k_is)
    (case k22 => k_is)
    (case a23 => k_is)
    (case l23 => k_is)
    (case g23 => k_is)
    (case k23 => k_is)
    (case a24 => k_is)
    (case l24 => k_is)
    (case g24 => k_is)
    (case k24 => k_is)
    (case a25 => k_is)
    (case l25 => k_is)
    (case g25 => k_is)
    (case k25 => k_is)
    (case a26 => k_is)
    (case l26 => k_is)
    (case g26 => k_is)
    (case k26 => k_is)
    (case a27 => k_is)
    (case l27 => k_is)
    (case g27 => k_is)
    (case k27 => k_is)
    (case a28 => k_is)
    (case l28 => k_is)
    (case g28 => k_is)
    (case k28 => k_is)
    (case a29 => k_is)
    (case l29 => k_is)
    (case g29 => k_is)
    (case k29 => k_is)
    (case a30 => k_is)
    (case l30 => k_is)
    (case g30 => k_is)
    (case k30 => k_is)
    (case m27 => k_is)
    (case v27 => rfl)
    (case n27 => rfl)
    (case r27 => decide +kernel)
    (case m29 => k_is)
    (case v29 => rfl)
    (case n29 => rfl)
    (case r29 => decide +kernel)
    (case ne27_29 => decide)
    (case aB_InputError => k_is)
    (case h1_InputError => k_is)
    (case h2_InputError => k_is)
    (case h3_InputError => k_is)
    (case h4_InputError => k_is)
    (case eB_InputError => k_is)
    (case iB_InputError => k_is)
    (case aB_StateError => k_is)
    (case h1_StateError => k_is)
    (case h2_StateError => k_is)
    (case h3_StateError => k_is)
    (case h4_StateError => k_is)
    (case eB_StateError => k_is)
    (case iB_StateError => k_is)
    (case aC_InvalidLine => k_is)
    (case xL_InvalidLine => k_is)
    (case ga_InvalidLine => k_is)
    (case gg_InvalidLine => k_is)
    (case hD_InvalidLine => k_is)
    (case kC_InvalidLine => k_is)
    (case eC_InvalidLine => k_is)
    (case tC_InvalidLine => k_is)
    (case iC_InvalidLine => k_is)
    (case a1_InvalidLine => k_is)
    (case t1_InvalidLine => k_is)
    (case l1_InvalidLine => k_is)
    (case g1_InvalidLine => k_is)
    (case k1_InvalidLine => k_is)
    (case sa_InvalidLine => k_is)
    (case nb_InvalidLine => k_is)
    (case aC_InvalidSizes => k_is)
    (case xL_InvalidSizes => k_is)
    (case ga_InvalidSizes => k_is)
    (case gg_InvalidSizes => k_is)
    (case hD_InvalidSizes => k_is)
    (case kC_InvalidSizes => k_is)
    (case eC_InvalidSizes => k_is)
    (case tC_InvalidSizes => k_is)
    (case iC_InvalidSizes => k_is)
    (case a1_InvalidSizes => k_is)
    (case t1_InvalidSizes => k_is)
    (case l1_InvalidSizes => k_is)
    (case g1_InvalidSizes => k_is)
    (case k1_InvalidSizes => k_is)
    (case sa_InvalidSizes => k_is)
    (case nb_InvalidSizes => k_is)
    (case aC_InvalidCount => k_is)
    (case xL_InvalidCount => k_is)
    (case ga_InvalidCount => k_is)
    (case gg_InvalidCount => k_is)
    (case hD_InvalidCount => k_is)
    (case kC_InvalidCount => k_is)
    (case eC_InvalidCount => k_is)
    (case tC_InvalidCount => k_is)
    (case iC_InvalidCount => k_is)
    (case a1_InvalidCount => k_is)
    (case t1_InvalidCount => k_is)
    (case l1_InvalidCount => k_is)
    (case g1_InvalidCount => k_is)
    (case k1_InvalidCount => k_is)
    (case sa_InvalidCount => k_is)
    (case nb_InvalidCount => k_is)
    (case aC_NoneFits => k_is)
    (case xL_NoneFits => k_is)
    (case ga_NoneFits => k_is)
    (case gg_NoneFits => k_is)
    (case hD_NoneFits => k_is)
    (case kC_NoneFits => k_is)
    (case eC_NoneFits => k_is)
    (case tC_NoneFits => k_is)
    (case iC_NoneFits => k_is)
    (case a1_NoneFits => k_is)
    (case t1_NoneFits => k_is)
    (case l1_NoneFits => k_is)
    (case g1_NoneFits => k_is)
    (case k1_NoneFits => k_is)
    (case ha_NoneFits => k_is)
    (case hm_NoneFits => k_is)
    (case hn_oc => k_is)
    (case ht_oc => k_is)
    (case s_InvalidLine_InvalidLine => first | rfl | k_is)
    (case s_InvalidSizes_InvalidLine => first | rfl | k_is)
    (case s_InvalidSizes_InvalidSizes => first | rfl | k_is)
    (case s_InvalidCount_InvalidLine => first | rfl | k_is)
    (case s_InvalidCount_InvalidSizes => first | rfl | k_is)
    (case s_InvalidCount_InvalidCount => first | rfl | k_is)
    (case s_NoneFits_InvalidLine => first | rfl | k_is)
    (case s_NoneFits_InvalidSizes => first | rfl | k_is)
    (case s_NoneFits_InvalidCount => first | rfl | k_is)
    (case s_NoneFits_InputError => first | rfl | k_is)
    (case s_NoneFits_NoneFits => first | rfl | k_is)
    (case s_NoneFits_StateError => first | rfl | k_is)
    (case z_isinstance => k_is)
    (case z_int => k_is)
    (case z_bool => k_is)
    (case z_list => k_is)
    (case z_tuple => k_is)
    (case z_len => k_is)
    (case z_sum => k_is)
    (case z_sorted => k_is)
    (case z_set => k_is)
    (case z_dict => k_is)
    (case z_str => k_is)
    (case z_LONGEST_NAME => k_is)
    (case z_IS_RESERVED => k_is)
    (case d_IS_RESERVED => k_is)
    (case e_IS_RESERVED => repeat (first | exact trivial | refine ⟨⟨_, _, rfl, rfl⟩, ?_⟩))
    (case x_IS_RESERVED => repeat (first | exact trivial | refine ⟨⟨_, rfl⟩, ?_⟩))
    (case y_IS_RESERVED => rfl)
    (case z_all => k_is)
    (case z_range => k_is)
    (case z_max => k_is)
    (case z_min => k_is)
    (case z_repr => k_is)
    (case h_K => rfl)
    (case z_abs => k_is)
    (case z_divmod => k_is)
