import PyProof.Rows.All
import Wide.All
import OpenK.AllK
import Wide.FinOn
import HandS.ForMost
import HandS.More
import HandS.Wide
import HandS.Gcd
import HandS.TupMul
import HandS.TupAny
import HandS.Zip
import HandS.Style
import HandS.Walk
import PyProof.ReprLen
import PySem.Challenge.RW_heldthrough_k03_fractions_and_vectors_re
set_option Elab.async false
set_option linter.all false
set_option maxRecDepth 100000
set_option maxHeartbeats 4000000
/-! A layer of data over the hand layer: what stands in a slot is told by its data; G is the part of the heap that nothing changes. -/
namespace Dl
open PySem L2

/-- from (G, H) to (G', H'): G the still part, M what may be written -/
structure Grow (M : Addr → Prop) (G H G' H' : Hp) : Prop where
  g : Same G G'
  gh : Same G' H'
  dom : ∀ b, H' b = none → H b = none
  keep : ∀ b o, H b = some o → ¬ M b → H' b = some o
  new : ∀ b o, G' b = some o → G b = some o ∨ H b = none
theorem Grow.refl {M : Addr → Prop} {G H : Hp} (s : Same G H) : Grow M G H G H :=
  ⟨Same.refl _, s, fun _ e => e, fun _ _ e _ => e, fun _ _ e => .inl e⟩
theorem Grow.trans {M : Addr → Prop} {G H G1 H1 G2 H2 : Hp} (a : Grow M G H G1 H1) (b : Grow M G1 H1 G2 H2) : Grow M G H G2 H2 :=
  ⟨a.g.trans b.g, b.gh, fun c e => a.dom c (b.dom c e), fun c o e m => b.keep c o (a.keep c o e m) m, fun c o e => by
    rcases b.new c o e with z | z
    · exact a.new c o z
    · exact .inr (a.dom c z)⟩
theorem Grow.wide {M M' : Addr → Prop} {G H G' H' : Hp} (a : Grow M G H G' H') (h : ∀ b, M b → M' b) : Grow M' G H G' H' :=
  ⟨a.g, a.gh, a.dom, fun b o e m => a.keep b o e fun z => m (h b z), a.new⟩
abbrev No : Addr → Prop := fun _ => False
theorem Grow.no {M : Addr → Prop} {G H G' H' : Hp} (a : Grow No G H G' H') : Grow M G H G' H' := a.wide fun _ z => z.elim
/-- a new object, still from now on -/
theorem Grow.lay {M : Addr → Prop} {G H : Hp} {p : Addr} {o : HO} (s : Same G H) (h : H p = none) : Grow M G H (upd G p o) (upd H p o) := by
  have gp : G p = none := s.free h
  refine ⟨fun b u e => by rw [upd_ne (ne_of_none e gp)]; exact e, fun b u e => ?_, fun b e => ?_, fun b u e _ => by rw [upd_ne (ne_of_none e h)]; exact e, fun b u e => ?_⟩
  · by_cases q : b = p
    · subst q; rw [upd_same] at e ⊢; exact e
    · rw [upd_ne q] at e ⊢; exact s b u e
  · by_cases q : b = p
    · subst q; exact h
    · rw [upd_ne q] at e; exact e
  · by_cases q : b = p
    · subst q; exact .inr h
    · rw [upd_ne q] at e; exact .inl e
/-- a new object that may yet change -/
theorem Grow.lay0 {M : Addr → Prop} {G H : Hp} {p : Addr} {o : HO} (s : Same G H) (h : H p = none) : Grow M G H G (upd H p o) := by
  have gp : G p = none := s.free h
  refine ⟨Same.refl _, fun b u e => by rw [upd_ne (ne_of_none e gp)]; exact s b u e, fun b e => ?_, fun b u e _ => by rw [upd_ne (ne_of_none e h)]; exact e, fun b u e => .inl e⟩
  by_cases q : b = p
  · subst q; exact h
  · rw [upd_ne q] at e; exact e
/-- from now on p is still -/
theorem Grow.still {M : Addr → Prop} {G0 H0 G H : Hp} {p : Addr} {o : HO} (a : Grow M G0 H0 G H) (h : H p = some o) (n : H0 p = none) (gp : G p = none) : Grow M G0 H0 (upd G p o) H := by
  refine ⟨a.g.trans fun b u e => by rw [upd_ne (ne_of_none e gp)]; exact e, fun b u e => ?_, a.dom, a.keep, fun b u e => ?_⟩
  · by_cases q : b = p
    · subst q; rw [upd_same] at e; cases e; exact h
    · rw [upd_ne q] at e; exact a.gh b u e
  · by_cases q : b = p
    · subst q; exact .inr n
    · rw [upd_ne q] at e; exact a.new b u e

section
variable {K : PySem.W.Frag}
theorem sqt_mono {G G' : Hp} {a : Addr} {xs : List V} (e : Same G G') (h : SqT K G a xs) : SqT K G' a xs := by
  rcases h with (h | ⟨o, h⟩) | h
  · exact .inl (.inl (e _ _ h))
  · exact .inl (.inr ⟨o, e _ _ h⟩)
  · exact .inr h
mutual
theorem dp_mono {G G' : Hp} (e : Same G G') : ∀ (d : PyData) (v : V), Dp K G v d → Dp K G' v d
  | .none, _, h => by cases h; exact .non
  | .bool b, _, h => by cases h; exact .bl b
  | .int i, _, h => by cases h; exact .int i
  | .str x, _, h => by cases h; exact .str x
  | .list ds, _, h => by
    cases h with
    | lst a b => exact .lst (e.seq a) (dpa_mono e ds _ b)
  | .tuple ds, _, h => by
    cases h with
    | tup a b => exact .tup (sqt_mono e a) (dpa_mono e ds _ b)
  | .dict _, _, h => by cases h
theorem dpa_mono {G G' : Hp} (e : Same G G') : ∀ (ds : List PyData) (vs : List V), DpAll K G vs ds → DpAll K G' vs ds
  | [], _, h => by cases h; exact .nil
  | d :: ds, _, h => by
    cases h with
    | cons a b => exact .cons (dp_mono e d _ a) (dpa_mono e ds _ b)
end
theorem dpa_len {G : Hp} : ∀ {vs : List V} {ds : List PyData}, DpAll K G vs ds → vs.length = ds.length
  | _, _, .nil => rfl
  | _, _, .cons _ t => congrArg (· + 1) (dpa_len t)
theorem dpa_get {G : Hp} : ∀ {vs : List V} {ds : List PyData} {i : Nat} {d : PyData}, DpAll K G vs ds → ds[i]? = some d → ∃ v, vs[i]? = some v ∧ Dp K G v d
  | _, _, _, _, .nil, e => by simp at e
  | _, _, 0, _, .cons r _, e => by simp at e; subst e; exact ⟨_, rfl, r⟩
  | _, _, i + 1, d, .cons _ t, e => by
    obtain ⟨v, h1, h2⟩ := dpa_get (i := i) (d := d) t (by simpa using e)
    exact ⟨v, by simpa using h1, h2⟩
theorem dpa_getV {G : Hp} : ∀ {vs : List V} {ds : List PyData} {i : Nat} {v : V}, DpAll K G vs ds → vs[i]? = some v → ∃ d, ds[i]? = some d ∧ Dp K G v d
  | _, _, _, _, .nil, e => by simp at e
  | _, _, 0, _, .cons r _, e => by simp at e; subst e; exact ⟨_, rfl, r⟩
  | _, _, i + 1, d, .cons _ t, e => by
    obtain ⟨v, h1, h2⟩ := dpa_getV (i := i) (v := d) t (by simpa using e)
    exact ⟨v, by simpa using h1, h2⟩
theorem dpa_app {G : Hp} : ∀ {vs ws : List V} {ds es : List PyData}, DpAll K G vs ds → DpAll K G ws es → DpAll K G (vs ++ ws) (ds ++ es)
  | _, _, _, _, .nil, b => b
  | _, _, _, _, .cons r t, b => .cons r (dpa_app t b)
theorem dpa_take {G : Hp} : ∀ {vs : List V} {ds : List PyData} (n : Nat), DpAll K G vs ds → DpAll K G (vs.take n) (ds.take n)
  | _, _, 0, _ => .nil
  | _, _, _ + 1, .nil => .nil
  | _, _, n + 1, .cons r t => .cons r (dpa_take n t)
theorem dpa_drop {G : Hp} : ∀ {vs : List V} {ds : List PyData} (n : Nat), DpAll K G vs ds → DpAll K G (vs.drop n) (ds.drop n)
  | _, _, 0, r => r
  | _, _, _ + 1, .nil => .nil
  | _, _, n + 1, .cons _ t => dpa_drop n t
theorem dpa_ints {G : Hp} : ∀ ns : List Int, DpAll K G (ns.map V.int) (ns.map PyData.int)
  | [] => .nil
  | n :: r => .cons (.int n) (dpa_ints r)
theorem dpa_ints_inv {G : Hp} : ∀ {ns : List Int} {vs : List V}, DpAll K G vs (ns.map PyData.int) → vs = ns.map V.int
  | [], _, h => by cases h; rfl
  | n :: r, _, h => by
    cases h with
    | cons a b => cases a; rw [dpa_ints_inv b]; rfl
end

/-- what a slot is known to hold: nothing known, data, a very address -/
inductive Sl where
  | un | d (x : PyData) | a (r : Addr)
def SlotOk (K : PySem.W.Frag) (G : Hp) (s : Option V) : Sl → Prop
  | .un => True
  | .d x => ∃ v, s = some v ∧ Dp K G v x
  | .a r => s = some (.ref r)
def EnvOk (K : PySem.W.Frag) (G : Hp) (σ : L2.St) (env : List Sl) : Prop := σ.length = env.length ∧ ∀ (i : Nat) (e : Sl), env[i]? = some e → ∃ s : Option V, σ[i]? = some s ∧ SlotOk K G s e
section
variable {K : PySem.W.Frag} {G G' : Hp} {σ : L2.St} {env : List Sl}
theorem SlotOk.mono {s : Option V} {e : Sl} (h : SlotOk K G s e) (x : Same G G') : SlotOk K G' s e := by
  cases e with
  | un => trivial
  | d y => obtain ⟨v, e1, e2⟩ := h; exact ⟨v, e1, dp_mono x _ _ e2⟩
  | a r => exact h
theorem EnvOk.mono (h : EnvOk K G σ env) (x : Same G G') : EnvOk K G' σ env := ⟨h.1, fun i e q => by
  obtain ⟨s, e1, e2⟩ := h.2 i e q
  exact ⟨s, e1, e2.mono x⟩⟩
theorem EnvOk.get {i : Nat} {d : PyData} (h : EnvOk K G σ env) (e : env[i]? = some (.d d)) : ∃ v, σ[i]? = some (some v) ∧ Dp K G v d := by
  obtain ⟨s, e1, v, rfl, e2⟩ := h.2 i _ e
  exact ⟨v, e1, e2⟩
theorem EnvOk.addr {i : Nat} {r : Addr} (h : EnvOk K G σ env) (e : env[i]? = some (.a r)) : σ[i]? = some (some (.ref r)) := by
  obtain ⟨s, e1, e2⟩ := h.2 i _ e
  rw [e1]; exact congrArg some e2
theorem EnvOk.nil : EnvOk K G [] [] := ⟨rfl, fun i e q => by simp at q⟩
theorem EnvOk.cons {s : Option V} {e : Sl} (h : SlotOk K G s e) (t : EnvOk K G σ env) : EnvOk K G (s :: σ) (e :: env) := ⟨by simp [t.1], fun i e' q => by
  cases i with
  | zero => simp at q; subst q; exact ⟨s, rfl, h⟩
  | succ i => exact t.2 i e' (by simpa using q)⟩
theorem EnvOk.set {i : Nat} {v : V} {e : Sl} (h : EnvOk K G σ env) (r : SlotOk K G (some v) e) : EnvOk K G (σ.set i (some v)) (env.set i e) := ⟨by simp [h.1], fun j e' q => by
  by_cases hj : i = j
  · subst hj
    by_cases hl : i < env.length
    · rw [List.getElem?_set_self hl] at q
      cases q
      exact ⟨some v, List.getElem?_set_self (by rw [h.1]; exact hl), r⟩
    · rw [List.getElem?_eq_none (by simpa using hl)] at q; cases q
  · rw [List.getElem?_set_ne hj] at q ⊢
    exact h.2 j e' q⟩
theorem EnvOk.setN {i : Nat} (h : EnvOk K G σ env) : EnvOk K G (σ.set i none) (env.set i .un) := ⟨by simp [h.1], fun j e' q => by
  by_cases hj : i = j
  · subst hj
    by_cases hl : i < env.length
    · rw [List.getElem?_set_self hl] at q
      cases q
      exact ⟨none, List.getElem?_set_self (by rw [h.1]; exact hl), trivial⟩
    · rw [List.getElem?_eq_none (by simpa using hl)] at q; cases q
  · rw [List.getElem?_set_ne hj] at q ⊢
    exact h.2 j e' q⟩
def wipeE (env : List Sl) : List Nat → List Sl
  | [] => env
  | v :: vs => (wipeE env vs).set v .un
theorem EnvOk.wipe (h : EnvOk K G σ env) : ∀ vs : List Nat, EnvOk K G (L2.wipe σ vs) (wipeE env vs)
  | [] => h
  | v :: vs => EnvOk.setN (EnvOk.wipe h vs)
end

/-- the drawing bag of a law: three whole numbers that change, and the list of the script's numbers, which doesn't -/
def BagAt (K : PySem.W.Frag) (b : Addr) (G H : Hp) : Prop :=
  G b = none ∧ ∃ (z0 z1 z2 : Int) (l : Addr) (cs : List Int), H b = some (.lst [.int z0, .int z1, .int z2, .ref l]) ∧ SqL K G l (cs.map V.int) ∧ 0 ≤ z0 ∧ 0 ≤ z1 ∧ z1 < 2147483647 ∧ 0 ≤ z2 ∧ (∀ c ∈ cs, 0 ≤ c) ∧ cs.length ≤ 1000
theorem bag_grow {K : PySem.W.Frag} {b : Addr} {G H G' H' : Hp} (h : BagAt K b G H) (a : Grow No G H G' H') : BagAt K b G' H' := by
  obtain ⟨g, z0, z1, z2, l, cs, e, sq, r⟩ := h
  refine ⟨?_, z0, z1, z2, l, cs, a.keep _ _ e (fun z => z), a.g.seq sq, r⟩
  cases q : G' b with
  | none => rfl
  | some o =>
    rcases a.new b o q with z | z
    · rw [g] at z; cases z
    · rw [e] at z; cases z

/-- the lists that may yet change, each with what it is known to hold; b: the bag, if there is one -/
abbrev Ms := List (Addr × List Sl)
structure JB (K : PySem.W.Frag) (b : Option Addr) (ms : Ms) (G H : Hp) : Prop where
  bag : ∀ x, b = some x → BagAt K x G H
  mu : ∀ p ∈ ms, G p.1 = none ∧ b ≠ some p.1 ∧ ∃ xs : List V, H p.1 = some (.lst xs) ∧ EnvOk K G (xs.map some) p.2
abbrev Mb (b : Option Addr) : Addr → Prop := fun c => b = some c
section
variable {K : PySem.W.Frag} {b : Option Addr} {ms : Ms} {G H G' H' : Hp}
theorem JB.growB (j : JB K b ms G H) (a : Grow (Mb b) G H G' H') (hb : ∀ x, b = some x → BagAt K x G' H') : JB K b ms G' H' := by
  refine ⟨hb, fun p hp => ?_⟩
  obtain ⟨g, n, xs, e, q⟩ := j.mu p hp
  refine ⟨?_, n, xs, a.keep _ _ e n, q.mono a.g⟩
  cases r : G' p.1 with
  | none => rfl
  | some o =>
    rcases a.new _ o r with z | z
    · rw [g] at z; cases z
    · rw [e] at z; cases z
theorem JB.grow (j : JB K b ms G H) (a : Grow No G H G' H') : JB K b ms G' H' := j.growB a.no fun x e => bag_grow (j.bag x e) a
end

/-! ### what evaluates to what -/
/-- the reading te gives data with P, whatever slots and heap are so -/
def EvP (K : PySem.W.Frag) (env : List Sl) (b : Option Addr) (ms : Ms) (te : TE) (P : PyData → Prop) : Prop :=
  ∀ (σ : L2.St) (G H : Hp), EnvOk K G σ env → Same G H → JB K b ms G H → ∀ Q : VK, (∀ v d G2 H2, Grow (Mb b) G H G2 H2 → JB K b ms G2 H2 → Dp K G2 v d → P d → Q v H2) → te σ H Q
def EaP (K : PySem.W.Frag) (env : List Sl) (b : Option Addr) (ms : Ms) (ta : TA) (P : List PyData → Prop) : Prop :=
  ∀ (σ : L2.St) (G H : Hp), EnvOk K G σ env → Same G H → JB K b ms G H → ∀ Q : List V → Hp → Prop, (∀ vs ds G2 H2, Grow (Mb b) G H G2 H2 → JB K b ms G2 H2 → DpAll K G2 vs ds → P ds → Q vs H2) → ta σ H Q
def EtP (K : PySem.W.Frag) (env : List Sl) (b : Option Addr) (ms : Ms) (tt : TT) (P : Bool → Prop) : Prop :=
  ∀ (σ : L2.St) (G H : Hp), EnvOk K G σ env → Same G H → JB K b ms G H → ∀ Q : Bool → Hp → Prop, (∀ c G2 H2, Grow (Mb b) G H G2 H2 → JB K b ms G2 H2 → P c → Q c H2) → tt σ H Q
/-- a new list, still free to change -/
def EvN (K : PySem.W.Frag) (env : List Sl) (b : Option Addr) (ms : Ms) (te : TE) (P : List PyData → Prop) : Prop :=
  ∀ (σ : L2.St) (G H : Hp), EnvOk K G σ env → Same G H → JB K b ms G H → ∀ Q : VK, (∀ p xs ds G2 H2, Grow (Mb b) G H G2 H2 → JB K b ms G2 H2 → H p = none → G2 p = none → H2 p = some (.lst xs) → DpAll K G2 xs ds → P ds → Q (.ref p) H2) → te σ H Q
def RvP (K : PySem.W.Frag) (b : Option Addr) (ms : Ms) (r : R2) (d1 d2 : PyData) (P : PyData → Prop) : Prop :=
  ∀ (x y : V) (G H : Hp), Dp K G x d1 → Dp K G y d2 → Same G H → JB K b ms G H → ∀ Q : VK, (∀ v d G2 H2, Grow (Mb b) G H G2 H2 → JB K b ms G2 H2 → Dp K G2 v d → P d → Q v H2) → r x y H Q
def RcP (K : PySem.W.Frag) (b : Option Addr) (ms : Ms) (r : List V → Hp → VK → Prop) (ds : List PyData) (P : PyData → Prop) : Prop :=
  ∀ (xs : List V) (G H : Hp), DpAll K G xs ds → Same G H → JB K b ms G H → ∀ Q : VK, (∀ v d G2 H2, Grow (Mb b) G H G2 H2 → JB K b ms G2 H2 → Dp K G2 v d → P d → Q v H2) → r xs H Q
abbrev Is {α : Type} (d : α) : α → Prop := fun x => x = d
section
variable {K : PySem.W.Frag} {env : List Sl} {b : Option Addr} {ms : Ms} {te ta tb : TE} {P Pa Pb : PyData → Prop} {tt tu : TT} {Pt Pu : Bool → Prop}
theorem ev_imp {P' : PyData → Prop} (h : EvP K env b ms te P) (i : ∀ d, P d → P' d) : EvP K env b ms te P' := fun σ G H e s j Q k =>
  h σ G H e s j Q fun v d G2 H2 g j2 dp p => k v d G2 H2 g j2 dp (i d p)
theorem ev_is {x y : PyData} (h : EvP K env b ms te (Is x)) (i : x = y) : EvP K env b ms te (Is y) := i ▸ h
theorem et_imp {P' : Bool → Prop} (h : EtP K env b ms tt Pt) (i : ∀ d, Pt d → P' d) : EtP K env b ms tt P' := fun σ G H e s j Q k =>
  h σ G H e s j Q fun v G2 H2 g j2 p => k v G2 H2 g j2 (i v p)
theorem ev_var {i : Nat} {d : PyData} (h : env[i]? = some (.d d)) : EvP K env b ms (tVar i) (Is d) := fun σ G H e s j Q k => by
  obtain ⟨v, e1, e2⟩ := e.get h
  exact ⟨v, e1, k v d G H (Grow.refl s) j e2 rfl⟩
theorem ev_int {i : Int} : EvP K env b ms (tC (.int i)) (Is (.int i)) := fun σ G H e s j Q k => k _ _ G H (Grow.refl s) j (.int i) rfl
theorem ev_bl {i : Bool} : EvP K env b ms (tC (.bl i)) (Is (.bool i)) := fun σ G H e s j Q k => k _ _ G H (Grow.refl s) j (.bl i) rfl
theorem ev_str {i : Str} : EvP K env b ms (tC (.str i)) (Is (.str i)) := fun σ G H e s j Q k => k _ _ G H (Grow.refl s) j (.str i) rfl
theorem ev_non : EvP K env b ms (tC .non) (Is .none) := fun σ G H e s j Q k => k _ _ G H (Grow.refl s) j .non rfl
theorem ev_op {r : R2} (ha : EvP K env b ms ta Pa) (hb : EvP K env b ms tb Pb) (hr : ∀ d1 d2, Pa d1 → Pb d2 → RvP K b ms r d1 d2 P) : EvP K env b ms (tOp r ta tb) P := fun σ G H e s j Q k =>
  ha σ G H e s j _ fun x d1 G1 H1 g1 j1 p1 q1 => hb σ G1 H1 (e.mono g1.g) g1.gh j1 _ fun y d2 G2 H2 g2 j2 p2 q2 =>
    hr d1 d2 q1 q2 x y G2 H2 (dp_mono g2.g _ _ p1) p2 g2.gh j2 Q fun v d G3 H3 g3 j3 p3 q3 => k v d G3 H3 ((g1.trans g2).trans g3) j3 p3 q3
theorem rv_I0 {g : Int → Int → Int} {i j : Int} : RvP K b ms (rI0 fun i j => .int (g i j)) (.int i) (.int j) (Is (.int (g i j))) := fun x y G H p1 p2 s jb Q k => by
  cases p1; cases p2
  exact ⟨i, j, rfl, rfl, k _ _ G H (Grow.refl s) jb (.int _) rfl⟩
theorem rv_I {C : Int → Int → Prop} {g : Int → Int → Int} {i j : Int} (c : C i j) : RvP K b ms (rI C fun i j => .int (g i j)) (.int i) (.int j) (Is (.int (g i j))) := fun x y G H p1 p2 s jb Q k => by
  cases p1; cases p2
  exact ⟨i, j, rfl, rfl, c, k _ _ G H (Grow.refl s) jb (.int _) rfl⟩
theorem rv_B0 {g : Int → Int → Bool} {i j : Int} : RvP K b ms (rI0 fun i j => .bl (g i j)) (.int i) (.int j) (Is (.bool (g i j))) := fun x y G H p1 p2 s jb Q k => by
  cases p1; cases p2
  exact ⟨i, j, rfl, rfl, k _ _ G H (Grow.refl s) jb (.bl _) rfl⟩
theorem rv_eqI {i j : Int} : RvP K b ms rEq (.int i) (.int j) (Is (.bool (decide (i = j)))) := fun x y G H p1 p2 s jb Q k => by
  cases p1; cases p2
  have e : decide (V.int i = V.int j) = decide (i = j) := by by_cases h : i = j <;> simp [h]
  refine ⟨rfl, ?_⟩
  rw [e]
  exact k _ _ G H (Grow.refl s) jb (.bl _) rfl
theorem rv_neI {i j : Int} : RvP K b ms rNe (.int i) (.int j) (Is (.bool (!decide (i = j)))) := fun x y G H p1 p2 s jb Q k => by
  cases p1; cases p2
  have e : decide (V.int i = V.int j) = decide (i = j) := by by_cases h : i = j <;> simp [h]
  refine ⟨rfl, ?_⟩
  rw [e]
  exact k _ _ G H (Grow.refl s) jb (.bl _) rfl
/-- two ints, known -/
theorem ev_I0 {g : Int → Int → Int} {i j : Int} (ha : EvP K env b ms ta (Is (.int i))) (hb : EvP K env b ms tb (Is (.int j))) : EvP K env b ms (tOp (rI0 fun i j => .int (g i j)) ta tb) (Is (.int (g i j))) :=
  ev_op ha hb fun d1 d2 e1 e2 => by rw [e1, e2]; exact rv_I0
theorem ev_I {C : Int → Int → Prop} {g : Int → Int → Int} {i j : Int} (ha : EvP K env b ms ta (Is (.int i))) (hb : EvP K env b ms tb (Is (.int j))) (c : C i j) : EvP K env b ms (tOp (rI C fun i j => .int (g i j)) ta tb) (Is (.int (g i j))) :=
  ev_op ha hb fun d1 d2 e1 e2 => by rw [e1, e2]; exact rv_I c
theorem ev_B0 {g : Int → Int → Bool} {i j : Int} (ha : EvP K env b ms ta (Is (.int i))) (hb : EvP K env b ms tb (Is (.int j))) : EvP K env b ms (tOp (rI0 fun i j => .bl (g i j)) ta tb) (Is (.bool (g i j))) :=
  ev_op ha hb fun d1 d2 e1 e2 => by rw [e1, e2]; exact rv_B0
theorem ev_eqI {i j : Int} (ha : EvP K env b ms ta (Is (.int i))) (hb : EvP K env b ms tb (Is (.int j))) : EvP K env b ms (tOp rEq ta tb) (Is (.bool (decide (i = j)))) :=
  ev_op ha hb fun d1 d2 e1 e2 => by rw [e1, e2]; exact rv_eqI
theorem ev_neI {i j : Int} (ha : EvP K env b ms ta (Is (.int i))) (hb : EvP K env b ms tb (Is (.int j))) : EvP K env b ms (tOp rNe ta tb) (Is (.bool (!decide (i = j)))) :=
  ev_op ha hb fun d1 d2 e1 e2 => by rw [e1, e2]; exact rv_neI
theorem ev_un {g : Int → Int} {i : Int} (ha : EvP K env b ms ta (Is (.int i))) : EvP K env b ms (tUn (rU fun i => .int (g i)) ta) (Is (.int (g i))) := fun σ G H e s j Q k =>
  ha σ G H e s j _ fun x d G1 H1 g1 j1 p1 q1 => by
    cases q1; cases p1
    exact ⟨i, rfl, k _ _ G1 H1 g1 j1 (.int _) rfl⟩
/-- tests -/
theorem et_B {c : Bool} (h : EvP K env b ms te (Is (.bool c))) : EtP K env b ms (tB te) (Is c) := fun σ G H e s j Q k => h σ G H e s j _ fun x d G1 H1 g1 j1 p1 q1 => by
  cases q1; cases p1
  exact ⟨c, rfl, k c G1 H1 g1 j1 rfl⟩
theorem et_BP (h : EvP K env b ms te (fun d => ∃ c, d = .bool c ∧ Pt c)) : EtP K env b ms (tB te) Pt := fun σ G H e s j Q k => h σ G H e s j _ fun x d G1 H1 g1 j1 p1 ⟨c, q1, q2⟩ => by
  cases q1; cases p1
  exact ⟨c, rfl, k c G1 H1 g1 j1 q2⟩
theorem et_not {c : Bool} (h : EtP K env b ms tt (Is c)) : EtP K env b ms (tNot tt) (Is (!c)) := fun σ G H e s j Q k => h σ G H e s j _ fun d G1 H1 g1 j1 q1 => k _ G1 H1 g1 j1 (by rw [q1])
theorem et_and {c d : Bool} (h1 : EtP K env b ms tt (Is c)) (h2 : c = true → EtP K env b ms tu (Is d)) : EtP K env b ms (tAnd tt tu) (Is (c && d)) := fun σ G H e s j Q k => h1 σ G H e s j _ fun x G1 H1 g1 j1 q1 => by
  subst q1
  cases x with
  | true => exact h2 rfl σ G1 H1 (e.mono g1.g) g1.gh j1 Q fun y G2 H2 g2 j2 q2 => k y G2 H2 (g1.trans g2) j2 (by rw [q2]; rfl)
  | false => exact k false G1 H1 g1 j1 rfl
theorem et_or {c d : Bool} (h1 : EtP K env b ms tt (Is c)) (h2 : c = false → EtP K env b ms tu (Is d)) : EtP K env b ms (tOr tt tu) (Is (c || d)) := fun σ G H e s j Q k => h1 σ G H e s j _ fun x G1 H1 g1 j1 q1 => by
  subst q1
  cases x with
  | true => exact k true G1 H1 g1 j1 rfl
  | false => exact h2 rfl σ G1 H1 (e.mono g1.g) g1.gh j1 Q fun y G2 H2 g2 j2 q2 => k y G2 H2 (g1.trans g2) j2 (by rw [q2]; rfl)
/-- and, whatever the first says -/
theorem et_andP (h1 : EtP K env b ms tt Pt) (h2 : Pt true → EtP K env b ms tu Pu) (h3 : Pt false → Pu false) : EtP K env b ms (tAnd tt tu) Pu := fun σ G H e s j Q k => h1 σ G H e s j _ fun x G1 H1 g1 j1 q1 => by
  cases x with
  | true => exact h2 q1 σ G1 H1 (e.mono g1.g) g1.gh j1 Q fun y G2 H2 g2 j2 q2 => k y G2 H2 (g1.trans g2) j2 q2
  | false => exact k false G1 H1 g1 j1 (h3 q1)
theorem ev_if (h : EtP K env b ms tt Pt) (h1 : Pt true → EvP K env b ms ta P) (h2 : Pt false → EvP K env b ms tb P) : EvP K env b ms (tIf tt ta tb) P := fun σ G H e s j Q k => h σ G H e s j _ fun x G1 H1 g1 j1 q1 => by
  cases x with
  | true => exact h1 q1 σ G1 H1 (e.mono g1.g) g1.gh j1 Q fun v d G2 H2 g2 j2 p q => k v d G2 H2 (g1.trans g2) j2 p q
  | false => exact h2 q1 σ G1 H1 (e.mono g1.g) g1.gh j1 Q fun v d G2 H2 g2 j2 p q => k v d G2 H2 (g1.trans g2) j2 p q
theorem ev_andV {c d : Bool} (h1 : EvP K env b ms ta (Is (.bool c))) (h2 : c = true → EvP K env b ms tb (Is (.bool d))) : EvP K env b ms (tAndV ta tb) (Is (.bool (c && d))) := fun σ G H e s j Q k => h1 σ G H e s j _ fun x dd G1 H1 g1 j1 p1 q1 => by
  cases q1; cases p1
  refine ⟨c, rfl, ?_⟩
  cases c with
  | true => exact h2 rfl σ G1 H1 (e.mono g1.g) g1.gh j1 Q fun v d G2 H2 g2 j2 p q => k v d G2 H2 (g1.trans g2) j2 p q
  | false => exact k _ _ G1 H1 g1 j1 (.bl false) rfl
theorem ev_orV {c d : Bool} (h1 : EvP K env b ms ta (Is (.bool c))) (h2 : c = false → EvP K env b ms tb (Is (.bool d))) : EvP K env b ms (tOrV ta tb) (Is (.bool (c || d))) := fun σ G H e s j Q k => h1 σ G H e s j _ fun x dd G1 H1 g1 j1 p1 q1 => by
  cases q1; cases p1
  refine ⟨c, rfl, ?_⟩
  cases c with
  | false => exact h2 rfl σ G1 H1 (e.mono g1.g) g1.gh j1 Q fun v d G2 H2 g2 j2 p q => k v d G2 H2 (g1.trans g2) j2 p q
  | true => exact k _ _ G1 H1 g1 j1 (.bl true) rfl
theorem ev_notV {c : Bool} (h1 : EvP K env b ms ta (Is (.bool c))) : EvP K env b ms (tNotV ta) (Is (.bool (!c))) := fun σ G H e s j Q k => h1 σ G H e s j _ fun x dd G1 H1 g1 j1 p1 q1 => by
  cases q1; cases p1
  exact ⟨c, rfl, k _ _ G1 H1 g1 j1 (.bl _) rfl⟩
/-- arguments -/
theorem ea_nil : EaP K env b ms tNil (Is []) := fun σ G H e s j Q k => k [] [] G H (Grow.refl s) j .nil rfl
theorem ea_consP {tr : TA} {Pr : List PyData → Prop} (h : EvP K env b ms te P) (hr : EaP K env b ms tr Pr) : EaP K env b ms (tCons te tr) (fun l => ∃ d ds, l = d :: ds ∧ P d ∧ Pr ds) := fun σ G H e s j Q k =>
  h σ G H e s j _ fun v d G1 H1 g1 j1 p1 q1 => hr σ G1 H1 (e.mono g1.g) g1.gh j1 _ fun vs ds G2 H2 g2 j2 p2 q2 => k _ _ G2 H2 (g1.trans g2) j2 (.cons (dp_mono g2.g _ _ p1) p2) ⟨d, ds, rfl, q1, q2⟩
theorem ea_imp {tr : TA} {Pr Pr' : List PyData → Prop} (hr : EaP K env b ms tr Pr) (i : ∀ l, Pr l → Pr' l) : EaP K env b ms tr Pr' := fun σ G H e s j Q k => hr σ G H e s j Q fun vs ds G2 H2 g j2 p q => k vs ds G2 H2 g j2 p (i _ q)
theorem ea_cons {tr : TA} {d : PyData} {ds : List PyData} (h : EvP K env b ms te (Is d)) (hr : EaP K env b ms tr (Is ds)) : EaP K env b ms (tCons te tr) (Is (d :: ds)) :=
  ea_imp (ea_consP h hr) fun l ⟨x, y, e, e1, e2⟩ => by rw [e, e1, e2]
/-- a tuple, a list made -/
theorem sz1000 {n : Nat} (h : n ≤ 1000) : n ≤ sizeLine := Nat.le_trans h (by decide)
theorem ev_tupP {tr : TA} {Pr : List PyData → Prop} (hr : EaP K env b ms tr Pr) (hl : ∀ l, Pr l → l.length ≤ 1000) : EvP K env b ms (tTup tr) (fun d => ∃ l, d = .tuple l ∧ Pr l) := fun σ G H e s j Q k =>
  hr σ G H e s j _ fun vs ds G1 H1 g1 j1 p1 q1 => ⟨sz1000 (by rw [dpa_len p1]; exact hl _ q1), fun p hp =>
    have g2 : Grow (Mb b) G1 H1 (upd G1 p (.tup vs)) (upd H1 p (.tup vs)) := Grow.lay g1.gh hp
    k _ _ _ _ (g1.trans g2) (j1.grow (Grow.lay g1.gh hp)) (.tup (SqT.of upd_same) (dpa_mono g2.g _ _ p1)) ⟨ds, rfl, q1⟩⟩
theorem ev_tup {tr : TA} {l : List PyData} (hr : EaP K env b ms tr (Is l)) (hl : l.length ≤ 1000) : EvP K env b ms (tTup tr) (Is (.tuple l)) := ev_imp (ev_tupP hr fun l e => by rw [e]; exact hl) fun d ⟨l', e, e'⟩ => by rw [e, e']
theorem en_lstP {tr : TA} {Pr : List PyData → Prop} (hr : EaP K env b ms tr Pr) (hl : ∀ l, Pr l → l.length ≤ 1000) : EvN K env b ms (tLst tr) Pr := fun σ G H e s j Q k =>
  hr σ G H e s j _ fun vs ds G1 H1 g1 j1 p1 q1 => ⟨sz1000 (by rw [dpa_len p1]; exact hl _ q1), fun p hp =>
    k p vs ds G1 (upd H1 p (.lst vs)) (g1.trans (Grow.lay0 g1.gh hp)) (j1.grow (Grow.lay0 g1.gh hp)) (g1.dom _ hp) (g1.gh.free hp) upd_same p1 q1⟩
/-- a new list, from now on still -/
theorem ev_new {Pr : List PyData → Prop} (h : EvN K env b ms te Pr) : EvP K env b ms te (fun d => ∃ l, d = .list l ∧ Pr l) := fun σ G H e s j Q k => h σ G H e s j Q fun p xs ds G1 H1 g1 j1 n gp hp da q => by
  have st : Grow (Mb b) G H (upd G1 p (.lst xs)) H1 := g1.still hp n gp
  have up : Same G1 (upd G1 p (.lst xs)) := fun c o z => by rw [upd_ne (ne_of_none z gp)]; exact z
  refine k (.ref p) (.list ds) _ H1 st ⟨fun x ex => ?_, fun m hm => ?_⟩ (.lst (SqL.of upd_same) (dpa_mono up _ _ da)) ⟨ds, rfl, q⟩
  · obtain ⟨gx, z0, z1, z2, l, cs, e1, sq, r⟩ := j1.bag x ex
    obtain ⟨_, _, _, _, _, _, e0, _⟩ := j.bag x ex
    exact ⟨by rw [upd_ne (ne_of_none e0 n)]; exact gx, z0, z1, z2, l, cs, e1, up.seq sq, r⟩
  · obtain ⟨gx, nb, ys, e1, q1⟩ := j1.mu m hm
    obtain ⟨_, _, _, e0, _⟩ := j.mu m hm
    exact ⟨by rw [upd_ne (ne_of_none e0 n)]; exact gx, nb, ys, e1, q1.mono up⟩
theorem ev_lst {tr : TA} {l : List PyData} (hr : EaP K env b ms tr (Is l)) (hl : l.length ≤ 1000) : EvP K env b ms (tLst tr) (Is (.list l)) :=
  ev_imp (ev_new (en_lstP hr fun l e => by rw [e]; exact hl)) fun d ⟨l', e, e'⟩ => by rw [e, e']
theorem en_imp {Pr Pr' : List PyData → Prop} (h : EvN K env b ms te Pr) (i : ∀ l, Pr l → Pr' l) : EvN K env b ms te Pr' := fun σ G H e s j Q k => h σ G H e s j Q fun p xs ds G1 H1 g1 j1 n gp hp da q => k p xs ds G1 H1 g1 j1 n gp hp da (i _ q)
end
end Dl
set_option Elab.async false
set_option linter.all false
set_option maxRecDepth 100000
set_option maxHeartbeats 4000000
namespace Dl
open PySem L2

section
variable {K : PySem.W.Frag} {env : List Sl} {b : Option Addr} {ms : Ms} {te ta tb : TE} {P Pa Pb : PyData → Prop} {tt tu : TT} {Pt Pu : Bool → Prop}
/-! ### fewer lists known -/
theorem JB.sub {ms2 : Ms} {G H : Hp} (h : ∀ p ∈ ms, p ∈ ms2) (j : JB K b ms2 G H) : JB K b ms G H := ⟨j.bag, fun p hp => j.mu p (h p hp)⟩
theorem ev_weak {ms2 : Ms} (h : ∀ p ∈ ms, p ∈ ms2) (e : EvP K env b ms te P) : EvP K env b ms2 te P := fun σ G H en s j Q k =>
  e σ G H en s (j.sub h) Q fun v d G2 H2 g j2 p q => k v d G2 H2 g (j.growB g j2.bag) p q
theorem et_weak {ms2 : Ms} (h : ∀ p ∈ ms, p ∈ ms2) (e : EtP K env b ms tt Pt) : EtP K env b ms2 tt Pt := fun σ G H en s j Q k =>
  e σ G H en s (j.sub h) Q fun v G2 H2 g j2 q => k v G2 H2 g (j.growB g j2.bag) q

/-! ### an item, a slice, a length, a tuple of a list -/
theorem dpa_at {G : Hp} {vs : List V} {ds : List PyData} {i : Int} {d : PyData} (h : DpAll K G vs ds) (e : atI ds i = some d) : ∃ v, atI vs i = some v ∧ Dp K G v d := by
  unfold atI at e ⊢
  rw [dpa_len h]
  cases q : ixN ds.length i with
  | none => rw [q] at e; cases e
  | some j =>
    rw [q] at e
    exact dpa_get h e
theorem rv_ixT {ds : List PyData} {i : Int} {d : PyData} (h : atI ds i = some d) : RvP K b ms (rIxT K) (.tuple ds) (.int i) (Is d) := fun x y G H p1 p2 s j Q k => by
  cases p2
  cases p1 with
  | tup sq da =>
    obtain ⟨v, e1, e2⟩ := dpa_at da h
    exact ⟨_, _, i, v, rfl, rfl, sqt_mono s sq, e1, k _ _ G H (Grow.refl s) j e2 rfl⟩
theorem rv_ixL {ds : List PyData} {i : Int} {d : PyData} (h : atI ds i = some d) : RvP K b ms (rIxL K) (.list ds) (.int i) (Is d) := fun x y G H p1 p2 s j Q k => by
  cases p2
  cases p1 with
  | lst sq da =>
    obtain ⟨v, e1, e2⟩ := dpa_at da h
    exact ⟨_, _, i, v, rfl, rfl, s.seq sq, e1, k _ _ G H (Grow.refl s) j e2 rfl⟩
theorem ev_ixT {ds : List PyData} {i : Int} {d : PyData} (ha : EvP K env b ms ta (Is (.tuple ds))) (hb : EvP K env b ms tb (Is (.int i))) (h : atI ds i = some d) : EvP K env b ms (tOp (rIxT K) ta tb) (Is d) :=
  ev_op ha hb fun d1 d2 e1 e2 => by rw [e1, e2]; exact rv_ixT h
theorem ev_ixL {ds : List PyData} {i : Int} {d : PyData} (ha : EvP K env b ms ta (Is (.list ds))) (hb : EvP K env b ms tb (Is (.int i))) (h : atI ds i = some d) : EvP K env b ms (tOp (rIxL K) ta tb) (Is d) :=
  ev_op ha hb fun d1 d2 e1 e2 => by rw [e1, e2]; exact rv_ixL h
/-- calls of built-in things by values -/
theorem ev_cb {r : List V → Hp → VK → Prop} {t : TA} {ds : List PyData} (ha : EaP K env b ms t (Is ds)) (hr : RcP K b ms r ds P) : EvP K env b ms (tCB r t) P := fun σ G H e s j Q k =>
  ha σ G H e s j _ fun vs l G1 H1 g1 j1 p1 q1 => by
    subst q1
    exact hr vs G1 H1 p1 g1.gh j1 Q fun v d G2 H2 g2 j2 p2 q2 => k v d G2 H2 (g1.trans g2) j2 p2 q2
theorem ev_cbP {r : List V → Hp → VK → Prop} {t : TA} {Pl : List PyData → Prop} (ha : EaP K env b ms t Pl) (hr : ∀ ds, Pl ds → RcP K b ms r ds P) : EvP K env b ms (tCB r t) P := fun σ G H e s j Q k =>
  ha σ G H e s j _ fun vs l G1 H1 g1 j1 p1 q1 => hr l q1 vs G1 H1 p1 g1.gh j1 Q fun v d G2 H2 g2 j2 p2 q2 => k v d G2 H2 (g1.trans g2) j2 p2 q2
abbrev rLen (K : PySem.W.Frag) : List V → Hp → VK → Prop := fun xs H Q => ∃ p ys, xs = [.ref p] ∧ (SqL K H p ys ∨ SqT K H p ys) ∧ Q (.int ys.length) H
abbrev rTupOf (K : PySem.W.Frag) : List V → Hp → VK → Prop := fun xs H Q => ∃ p ys, xs = [.ref p] ∧ ((SqL K H p ys ∧ ∀ l, H l = none → Q (.ref l) (upd H l (.tup ys))) ∨ (SqT K H p ys ∧ Q (.ref p) H))
abbrev rAbs : List V → Hp → VK → Prop := fun xs H Q => ∃ i, xs = [.int i] ∧ Q (.int (if i < 0 then -i else i)) H
abbrev rInt1 : List V → Hp → VK → Prop := fun xs H Q => (∃ i, xs = [.int i] ∧ Q (.int i) H) ∨ ∃ k, xs = [.bl k] ∧ Q (.int (if k then 1 else 0)) H
theorem rc_lenL {l : List PyData} : RcP K b ms (rLen K) [.list l] (Is (.int l.length)) := fun xs G H p s j Q k => by
  cases p with
  | cons p q =>
    cases q
    cases p with
    | lst sq da => exact ⟨_, _, rfl, .inl (s.seq sq), by rw [dpa_len da]; exact k _ _ G H (Grow.refl s) j (.int _) rfl⟩
theorem rc_lenT {l : List PyData} : RcP K b ms (rLen K) [.tuple l] (Is (.int l.length)) := fun xs G H p s j Q k => by
  cases p with
  | cons p q =>
    cases q
    cases p with
    | tup sq da => exact ⟨_, _, rfl, .inr (sqt_mono s sq), by rw [dpa_len da]; exact k _ _ G H (Grow.refl s) j (.int _) rfl⟩
theorem rc_tupL {l : List PyData} : RcP K b ms (rTupOf K) [.list l] (Is (.tuple l)) := fun xs G H p s j Q k => by
  cases p with
  | cons p q =>
    cases q
    cases p with
    | lst sq da =>
      rename_i a0 xs0
      refine ⟨_, _, rfl, .inl ⟨s.seq sq, fun t ht => ?_⟩⟩
      have g : Grow No G H (upd G t (.tup xs0)) (upd H t (.tup xs0)) := Grow.lay s ht
      exact k _ _ _ _ g.no (j.grow g) (.tup (SqT.of upd_same) (dpa_mono g.g _ _ da)) rfl
theorem rc_tupT {l : List PyData} : RcP K b ms (rTupOf K) [.tuple l] (Is (.tuple l)) := fun xs G H p s j Q k => by
  cases p with
  | cons p q =>
    cases q
    cases p with
    | tup sq da => exact ⟨_, _, rfl, .inr ⟨sqt_mono s sq, k _ _ G H (Grow.refl s) j (.tup sq da) rfl⟩⟩
theorem rc_abs {i : Int} : RcP K b ms rAbs [.int i] (Is (.int (if i < 0 then -i else i))) := fun xs G H p s j Q k => by
  cases p with
  | cons p q =>
    cases q; cases p
    exact ⟨i, rfl, k _ _ G H (Grow.refl s) j (.int _) rfl⟩
theorem rc_int {i : Int} : RcP K b ms rInt1 [.int i] (Is (.int i)) := fun xs G H p s j Q k => by
  cases p with
  | cons p q =>
    cases q; cases p
    exact .inl ⟨i, rfl, k _ _ G H (Grow.refl s) j (.int _) rfl⟩
theorem rc_intB {c : Bool} : RcP K b ms rInt1 [.bool c] (Is (.int (if c then 1 else 0))) := fun xs G H p s j Q k => by
  cases p with
  | cons p q =>
    cases q; cases p
    exact .inr ⟨c, rfl, k _ _ G H (Grow.refl s) j (.int _) rfl⟩
theorem rc_gcd {i n : Int} : RcP K b ms rGcd [.int i, .int n] (Is (.int ((Nat.gcd i.natAbs n.natAbs : Nat) : Int))) := fun xs G H p s j Q k => by
  cases p with
  | cons p q =>
    cases q with
    | cons p' q' =>
      cases q'; cases p; cases p'
      exact ⟨i, n, rfl, k _ _ G H (Grow.refl s) j (.int _) rfl⟩
/-- a slice of a list: a new list -/
def cutD (xs : List PyData) (lo hi : Option Int) : List PyData := (xs.drop (HT.sIx xs.length 0 lo)).take (HT.sIx xs.length xs.length hi - HT.sIx xs.length 0 lo)
theorem dpa_cut {G : Hp} {vs : List V} {ds : List PyData} {lo hi : Option Int} (h : DpAll K G vs ds) : DpAll K G (cutV vs lo hi) (cutD ds lo hi) := by
  unfold cutV cutD
  rw [dpa_len h]
  exact dpa_take _ (dpa_drop _ h)
def EoP (K : PySem.W.Frag) (env : List Sl) (b : Option Addr) (ms : Ms) (to : TO) (P : Option Int → Prop) : Prop :=
  ∀ (σ : L2.St) (G H : Hp), EnvOk K G σ env → Same G H → JB K b ms G H → ∀ Q : Option Int → Hp → Prop, (∀ o G2 H2, Grow (Mb b) G H G2 H2 → JB K b ms G2 H2 → P o → Q o H2) → to σ H Q
theorem eo_none : EoP K env b ms tNoPart (Is none) := fun σ G H e s j Q k => k none G H (Grow.refl s) j rfl
theorem eo_some {i : Int} (h : EvP K env b ms te (Is (.int i))) : EoP K env b ms (tPart te) (Is (some i)) := fun σ G H e s j Q k => h σ G H e s j _ fun v d G1 H1 g1 j1 p1 q1 => by
  cases q1; cases p1
  exact ⟨i, rfl, k _ G1 H1 g1 j1 rfl⟩
theorem eo_someP {C : Int → Prop} (h : EvP K env b ms te (fun d => ∃ i, d = .int i ∧ C i)) : EoP K env b ms (tPart te) (fun o => ∃ i, o = some i ∧ C i) := fun σ G H e s j Q k => h σ G H e s j _ fun v d G1 H1 g1 j1 p1 ⟨i, q1, c⟩ => by
  cases q1; cases p1
  exact ⟨i, rfl, k _ G1 H1 g1 j1 ⟨i, rfl, c⟩⟩
theorem en_slL {tl th : TO} {l : List PyData} {Pl Ph : Option Int → Prop} (h : EvP K env b ms te (Is (.list l))) (hl : EoP K env b ms tl Pl) (hh : EoP K env b ms th Ph) :
    EvN K env b ms (tSl (rSlL K) te tl th) (fun x => ∃ lo hi, Pl lo ∧ Ph hi ∧ x = cutD l lo hi) := fun σ G H e s j Q k => h σ G H e s j _ fun v d G1 H1 g1 j1 p1 q1 => by
  cases q1
  cases p1 with
  | lst sq da =>
    rename_i a0 xs0
    refine hl σ G1 H1 (e.mono g1.g) g1.gh j1 _ fun lo G2 H2 g2 j2 q2 => hh σ G2 H2 (e.mono (g1.g.trans g2.g)) g2.gh j2 _ fun hi G3 H3 g3 j3 q3 => ?_
    have s3 := g2.g.trans g3.g
    refine ⟨_, _, rfl, (s3.trans g3.gh).seq sq, fun p hp => ?_⟩
    have g4 : Grow No G3 H3 G3 (upd H3 p (.lst (cutV xs0 lo hi))) := Grow.lay0 g3.gh hp
    exact k p _ _ G3 _ (((g1.trans g2).trans g3).trans g4.no) (j3.grow g4) (g1.dom _ (g2.dom _ (g3.dom _ hp))) (g3.gh.free hp) upd_same (dpa_mono s3 _ _ (dpa_cut da)) ⟨lo, hi, q2, q3, rfl⟩
theorem ev_slT {tl th : TO} {l : List PyData} {Pl Ph : Option Int → Prop} (h : EvP K env b ms te (Is (.tuple l))) (hl : EoP K env b ms tl Pl) (hh : EoP K env b ms th Ph) :
    EvP K env b ms (tSl (rSlA K) te tl th) (fun x => ∃ lo hi, Pl lo ∧ Ph hi ∧ x = .tuple (cutD l lo hi)) := fun σ G H e s j Q k => h σ G H e s j _ fun v d G1 H1 g1 j1 p1 q1 => by
  cases q1
  cases p1 with
  | tup sq da =>
    rename_i a0 xs0
    refine hl σ G1 H1 (e.mono g1.g) g1.gh j1 _ fun lo G2 H2 g2 j2 q2 => hh σ G2 H2 (e.mono (g1.g.trans g2.g)) g2.gh j2 _ fun hi G3 H3 g3 j3 q3 => ?_
    have s3 := g2.g.trans g3.g
    refine ⟨_, _, rfl, sqt_mono (s3.trans g3.gh) sq, fun w => ?_, fun _ p hp => ?_⟩
    · have e1 : cutD l lo hi = l := by
        rw [dpa_len da] at w
        unfold cutD
        rw [w.1, w.2]
        simp
      exact k _ _ G3 _ ((g1.trans g2).trans g3) j3 (.tup (sqt_mono s3 sq) (dpa_mono s3 _ _ da)) ⟨lo, hi, q2, q3, by rw [e1]⟩
    · have g4 : Grow No G3 H3 (upd G3 p (.tup (cutV xs0 lo hi))) (upd H3 p (.tup (cutV xs0 lo hi))) := Grow.lay g3.gh hp
      exact k _ _ _ _ (((g1.trans g2).trans g3).trans g4.no) (j3.grow g4) (.tup (SqT.of upd_same) (dpa_mono (s3.trans g4.g) _ _ (dpa_cut da))) ⟨lo, hi, q2, q3, rfl⟩
/-- list + list, both new -/
theorem en_cat {P1 P2 : List PyData → Prop} (ha : EvN K env b ms ta P1) (hb : EvN K env b ms tb P2) (hl : ∀ l m, P1 l → P2 m → l.length + m.length ≤ 2000) : EvN K env b ms (tOp rCat ta tb) (fun x => ∃ l m, P1 l ∧ P2 m ∧ x = l ++ m) := fun σ G H e s j Q k =>
  ha σ G H e s j _ fun p xs l G1 H1 g1 j1 n1 f1 h1 d1 q1 => hb σ G1 H1 (e.mono g1.g) g1.gh j1 _ fun q ys m G2 H2 g2 j2 n2 f2 h2 d2 q2 => by
    have pb : ¬ Mb b p := fun z => by
      obtain ⟨_, _, _, _, _, _, e0, _⟩ := j.bag p z
      rw [n1] at e0; cases e0
    refine ⟨p, q, xs, ys, rfl, rfl, g2.keep _ _ h1 pb, h2, Nat.le_trans (by rw [dpa_len d1, dpa_len d2]; exact hl _ _ q1 q2) (by decide), fun t ht => ?_⟩
    have g3 : Grow No G2 H2 G2 (upd H2 t (.lst (xs ++ ys))) := Grow.lay0 g2.gh ht
    exact k t _ _ G2 _ ((g1.trans g2).trans g3.no) (j2.grow g3) (g1.dom _ (g2.dom _ ht)) (g2.gh.free ht) upd_same (dpa_app (dpa_mono g2.g _ _ d1) d2) ⟨l, m, q1, q2, rfl⟩

/-! ### == of data, repr -/
theorem ev_eqD {x y : PyData} (ha : EvP K env b ms ta (Is x)) (hb : EvP K env b ms tb (Is y)) (hx : SeqAt.shaped x = true) (hy : SeqAt.shaped y = true) : EvP K env b ms (tOp (rEqD K) ta tb) (Is (.bool (PyData.eqv x y))) :=
  ev_op ha hb fun d1 d2 e1 e2 => by
    rw [e1, e2]
    exact fun v w G H p1 p2 s j Q k => ⟨x, y, dp_mono s _ _ p1, dp_mono s _ _ p2, hx, hy, k _ _ G H (Grow.refl s) j (.bl _) rfl⟩
theorem ev_neD {x y : PyData} (ha : EvP K env b ms ta (Is x)) (hb : EvP K env b ms tb (Is y)) (hx : SeqAt.shaped x = true) (hy : SeqAt.shaped y = true) : EvP K env b ms (tOp (rNeD K) ta tb) (Is (.bool (!PyData.eqv x y))) :=
  ev_op ha hb fun d1 d2 e1 e2 => by
    rw [e1, e2]
    exact fun v w G H p1 p2 s j Q k => ⟨x, y, dp_mono s _ _ p1, dp_mono s _ _ p2, hx, hy, k _ _ G H (Grow.refl s) j (.bl _) rfl⟩
/-- repr of a list or tuple of data without dicts -/
def rRepr (K : PySem.W.Frag) : List V → Hp → VK → Prop := fun xs H Q => ∃ (a : Addr) (d : PyData), xs = [.ref a] ∧ Dp K H (.ref a) d ∧ d.showable = true ∧ d.hasDict = false ∧ d.depth ≤ 60 ∧ d.shown.length ≤ sizeLine ∧ Q (.str d.shown) H
theorem cr_repr {X : Cx} (hg : X.A.guards = some []) (hu : X.A.units + 64 < cLine) : CallR X (.builtin "repr") (rRepr X.K) := by
  intro pins s σ H xs us Q I r h
  obtain ⟨a, d, rfl, dp, h1, h2, h3, h4, q⟩ := h
  obtain ⟨u, rfl, ru⟩ := vals1 r
  obtain ⟨as, rd⟩ := Dp.reads I d _ u dp ru
  cases ru
  exact repr_of_reads' rd h1 (PyData.noDict_hsm h2) hg (by omega) (fun _ _ e => e) (fun h' t tk hk => ⟨.str d.shown, H, I.kept (h' := h') (t' := tk) hk, ⟨t, rfl⟩, q⟩) h4
theorem rc_repr {d : PyData} (hr : ∀ v G, Dp K G v d → ∃ a, v = .ref a) (h1 : d.showable = true) (h2 : d.hasDict = false) (h3 : d.depth ≤ 60) (h4 : d.shown.length ≤ sizeLine) : RcP K b ms (rRepr K) [d] (Is (.str d.shown)) := fun xs G H p s j Q k => by
  cases p with
  | cons p q =>
    cases q
    obtain ⟨a, rfl⟩ := hr _ _ p
    exact ⟨a, d, rfl, dp_mono s _ _ p, h1, h2, h3, h4, k _ _ G H (Grow.refl s) j (.str _) rfl⟩
end

/-! ### the promises -/
/-- a def of n arguments that changes nothing: data in, data out -/
def spR (K : PySem.W.Frag) (n : Nat) (dom : List PyData → Prop) (R : List PyData → PyData → Prop) : Sp := fun vs H Q _ => vs.length = n ∧ ∃ (ds : List PyData) (G : Hp), Same G H ∧ DpAll K G vs ds ∧ dom ds ∧
  ∀ v d G' H', Grow No G H G' H' → Dp K G' v d → R ds d → Q v H'
/-- a def that draws from the bag, its first argument, besides n others -/
def spB (K : PySem.W.Frag) (n : Nat) (dom : List PyData → Prop) (R : List PyData → PyData → Prop) : Sp := fun vs H Q _ => ∃ (x : Addr) (ws : List V), vs = .ref x :: ws ∧ ws.length = n ∧ ∃ (ds : List PyData) (G : Hp), Same G H ∧ BagAt K x G H ∧ DpAll K G ws ds ∧ dom ds ∧
  ∀ v d G' H', Grow (Mb (some x)) G H G' H' → BagAt K x G' H' → Dp K G' v d → R ds d → Q v H'
section
variable {K : PySem.W.Frag} {env : List Sl} {b : Option Addr} {ms : Ms} {te ta tb : TE} {P Pa Pb : PyData → Prop} {n : Nat} {dom : List PyData → Prop} {R : List PyData → PyData → Prop}
theorem spR_len {vs : List V} {H : Hp} {Q : VK} {E : XK} (h : spR K n dom R vs H Q E) : vs.length = n := h.1
theorem spB_len {vs : List V} {H : Hp} {Q : VK} {E : XK} (h : spB K n dom R vs H Q E) : vs.length = n + 1 := by
  obtain ⟨x, ws, rfl, e, _⟩ := h
  simp [e]
theorem ev_callR {t : TA} {Pl : List PyData → Prop} (ha : EaP K env b ms t Pl) (hd : ∀ ds, Pl ds → ds.length = n ∧ dom ds) : EvP K env b ms (tCall (spR K n dom R) [] E0 t) (fun d => ∃ ds, Pl ds ∧ R ds d) := fun σ G H e s j Q k =>
  ha σ G H e s j _ fun vs ds G1 H1 g1 j1 p1 q1 => by
    obtain ⟨h1, h2⟩ := hd ds q1
    rw [List.append_nil]
    exact ⟨by rw [dpa_len p1]; exact h1, ds, G1, g1.gh, p1, h2, fun v d G2 H2 g2 p2 r2 => k v d G2 H2 (g1.trans g2.no) (j1.grow g2) p2 ⟨ds, q1, r2⟩⟩
theorem ev_callF {t : TA} {ds : List PyData} {f : List PyData → PyData} (ha : EaP K env b ms t (Is ds)) (hl : ds.length = n) (hd : dom ds) : EvP K env b ms (tCall (spR K n dom fun l x => x = f l) [] E0 t) (Is (f ds)) :=
  ev_imp (ev_callR ha fun l e => by rw [e]; exact ⟨hl, hd⟩) fun d ⟨l, e, r⟩ => by rw [r, e]
theorem ev_callB {t : TA} {i : Nat} {x : Addr} {Pl : List PyData → Prop} (hi : env[i]? = some (.a x)) (hb : b = some x) (ha : EaP K env b ms t Pl) (hd : ∀ ds, Pl ds → ds.length = n ∧ dom ds) :
    EvP K env b ms (tCall (spB K n dom R) [] E0 (tCons (tVar i) t)) (fun d => ∃ ds, Pl ds ∧ R ds d) := fun σ G H e s j Q k =>
  ⟨.ref x, e.addr hi, ha σ G H e s j _ fun vs ds G1 H1 g1 j1 p1 q1 => by
    obtain ⟨h1, h2⟩ := hd ds q1
    rw [List.append_nil]
    refine ⟨x, vs, rfl, by rw [dpa_len p1]; exact h1, ds, G1, g1.gh, j1.bag x hb, p1, h2, fun v d G2 H2 g2 bg p2 r2 => ?_⟩
    have g2' : Grow (Mb b) G1 H1 G2 H2 := by rw [hb]; exact g2
    exact k v d G2 H2 (g1.trans g2') (j1.growB g2' fun y ey => by rw [hb] at ey; cases ey; exact bg) p2 ⟨ds, q1, r2⟩⟩
end
end Dl
set_option Elab.async false
set_option linter.all false
set_option maxRecDepth 100000
set_option maxHeartbeats 4000000
namespace Dl
open PySem L2

/-! ### walks, told by the data of their items -/
def IterD (K : PySem.W.Frag) (J : It) (l : List PyData) (G : Hp) : Prop :=
  ∃ (W : Hp → Prop) (Y : Nat → Hp → V → Hp → Prop), Walk J l.length W Y ∧ ∀ G1 H, Same G G1 → Same G1 H → W H ∧ ∀ i x H', i < l.length → Y i H x H' → ∃ G' d, Grow No G1 H G' H' ∧ l[i]? = some d ∧ Dp K G' x d
def EvI (K : PySem.W.Frag) (env : List Sl) (b : Option Addr) (ms : Ms) (wi : TI) (P : List PyData → Prop) : Prop :=
  ∀ (σ : L2.St) (G H : Hp), EnvOk K G σ env → Same G H → JB K b ms G H → ∀ R : It → Hp → Prop, (∀ J l G2 H2, Grow (Mb b) G H G2 H2 → JB K b ms G2 H2 → IterD K J l G2 → P l → R J H2) → wi σ H R
/-- a target: what the slots are behind it -/
def TgP (K : PySem.W.Frag) (g : TG) (vs : List Nat) (d : PyData) (f : List Sl → List Sl) : Prop :=
  ∀ (env : List Sl) (σ : L2.St) (G H : Hp) (v : V), EnvOk K G σ env → Same G H → Dp K G v d → ∀ Q : L2.St → Hp → Prop, (∀ σ', EnvOk K G σ' (f env) → wipe σ' vs = wipe σ vs → Q σ' H) → g v σ H Q
section
variable {K : PySem.W.Frag} {env : List Sl} {b : Option Addr} {ms : Ms} {te ta tb : TE} {P Pa Pb : PyData → Prop} {tt tu : TT} {Pt Pu : Bool → Prop}
theorem wipe_get {σ : L2.St} {j : Nat} : ∀ {vs : List Nat}, j ∈ vs → (wipe σ vs)[j]? = if j < σ.length then some none else none
  | v :: vs, h => by
    unfold wipe
    by_cases e : v = j
    · subst e
      by_cases hl : v < σ.length
      · rw [List.getElem?_set_self (by rw [wipe_length]; exact hl), if_pos hl]
      · rw [List.getElem?_eq_none (by rw [List.length_set, wipe_length]; omega), if_neg hl]
    · rw [List.getElem?_set_ne e]
      rcases List.mem_cons.mp h with z | z
      · exact absurd z.symm e
      · exact wipe_get z
theorem wipe_set {σ : L2.St} {vs : List Nat} {i : Nat} {s : Option V} (h : i ∈ vs) : wipe (σ.set i s) vs = wipe σ vs := by
  apply List.ext_getElem?
  intro j
  by_cases hj : j ∈ vs
  · rw [wipe_get hj, wipe_get hj, List.length_set]
  · rw [wipe_out hj, wipe_out hj, List.getElem?_set_ne (fun e => hj (by rw [← e]; exact h))]
theorem wipe_wipe {σ : L2.St} {vs : List Nat} : wipe (wipe σ vs) vs = wipe σ vs := by
  apply List.ext_getElem?
  intro j
  by_cases hj : j ∈ vs
  · rw [wipe_get hj, wipe_get hj, wipe_length]
  · rw [wipe_out hj, wipe_out hj]
theorem slot_d {G : Hp} {v : V} {x : PyData} (p : Dp K G v x) : SlotOk K G (some v) (.d x) := ⟨v, rfl, p⟩
theorem tg_name {i : Nat} {vs : List Nat} {d : PyData} (h : i ∈ vs) : TgP K (gName i) vs d (fun env => env.set i (.d d)) := fun env σ G H v e s p Q k =>
  k _ (e.set (slot_d p)) (wipe_set h)
theorem tg_pair {i j : Nat} {vs : List Nat} {x y : PyData} (hi : i ∈ vs) (hj : j ∈ vs) : TgP K (gTup K 2 (gCons (gName i) (gCons (gName j) gNil))) vs (.tuple [x, y]) (fun env => (env.set i (.d x)).set j (.d y)) := fun env σ G H v e s p Q k => by
  cases p with
  | tup sq da =>
    cases da with
    | cons p1 t =>
      cases t with
      | cons p2 t =>
        cases t
        exact ⟨_, _, rfl, sqt_mono s sq, rfl, _, _, rfl, _, _, rfl, rfl, k _ ((e.set (slot_d p1)).set (slot_d p2)) (by rw [wipe_set hj, wipe_set hi])⟩
theorem iter_list {a : Addr} {xs : List V} {l : List PyData} {G : Hp} (sq : SqL K G a xs) (da : DpAll K G xs l) : IterD K (Itl K a) l G :=
  ⟨_, _, by rw [← dpa_len da]; exact walk_list, fun G1 H s1 s2 => ⟨s2.seq (s1.seq sq), fun i x H' hi y => by
    obtain ⟨rfl, e⟩ := y
    obtain ⟨d, e1, e2⟩ := dpa_getV da e
    exact ⟨G1, d, Grow.refl s2, e1, dp_mono s1 _ _ e2⟩⟩⟩
theorem iter_tup {a : Addr} {xs : List V} {l : List PyData} {G : Hp} (sq : SqT K G a xs) (da : DpAll K G xs l) : IterD K (Itt K a) l G :=
  ⟨_, _, by rw [← dpa_len da]; exact walk_tup, fun G1 H s1 s2 => ⟨sqt_mono s2 (sqt_mono s1 sq), fun i x H' hi y => by
    obtain ⟨rfl, e⟩ := y
    obtain ⟨d, e1, e2⟩ := dpa_getV da e
    exact ⟨G1, d, Grow.refl s2, e1, dp_mono s1 _ _ e2⟩⟩⟩
def intL (n : Nat) : List PyData := (List.range n).map fun i => .int (i : Nat)
theorem intL_len (n : Nat) : (intL n).length = n := by simp [intL]
theorem intL_get {n i : Nat} (h : i < n) : (intL n)[i]? = some (.int (i : Nat)) := by simp [intL, h]
theorem iter_rng {n : Nat} {G : Hp} : IterD K (Itr 0 n) (intL n) G :=
  ⟨_, _, by rw [intL_len]; exact walk_range, fun G1 H s1 s2 => ⟨trivial, fun i x H' hi y => by
    obtain ⟨rfl, rfl⟩ := y
    rw [intL_len] at hi
    refine ⟨G1, .int (i : Nat), Grow.refl s2, intL_get hi, ?_⟩
    have e : (0 : Int) + (i : Nat) = (i : Nat) := Int.zero_add _
    show Dp K G1 (V.int (0 + (i : Nat))) _
    rw [e]
    exact .int _⟩⟩
theorem lay2 {G H : Hp} {T : Addr} {x y : V} {dx dy : PyData} (s : Same G H) (h : H T = none) (p1 : Dp K G x dx) (p2 : Dp K G y dy) : Grow No G H (upd G T (.tup [x, y])) (upd H T (.tup [x, y])) ∧ Dp K (upd G T (.tup [x, y])) (.ref T) (.tuple [dx, dy]) := by
  have g : Grow No G H (upd G T (.tup [x, y])) (upd H T (.tup [x, y])) := Grow.lay s h
  exact ⟨g, .tup (SqT.of upd_same) (.cons (dp_mono g.g _ _ p1) (.cons (dp_mono g.g _ _ p2) .nil))⟩
def pairs : List PyData → List PyData → List PyData
  | x :: xs, y :: ys => .tuple [x, y] :: pairs xs ys
  | _, _ => []
theorem pairs_len : ∀ (l m : List PyData), (pairs l m).length = min l.length m.length
  | [], _ => by simp [pairs]
  | _ :: _, [] => by simp [pairs]
  | x :: xs, y :: ys => by simp only [pairs, List.length_cons, pairs_len xs ys]; omega
theorem pairs_get : ∀ {l m : List PyData} {i : Nat} {x y : PyData}, l[i]? = some x → m[i]? = some y → (pairs l m)[i]? = some (.tuple [x, y])
  | [], _, i, _, _, h, _ => by simp at h
  | _ :: _, [], i, _, _, _, h => by simp at h
  | a :: l, c :: m, 0, x, y, h1, h2 => by simp at h1 h2; simp [pairs, h1, h2]
  | a :: l, c :: m, i + 1, x, y, h1, h2 => by
    simp only [pairs, List.getElem?_cons_succ] at *
    exact pairs_get h1 h2
theorem iter_zipT {a c : Addr} {xs ys : List V} {l m : List PyData} {G : Hp} (sx : SqT K G a xs) (dx : DpAll K G xs l) (sy : SqT K G c ys) (dy : DpAll K G ys m) : IterD K (RZ.ItzT K a c) (pairs l m) G := by
  have hl : (pairs l m).length = min xs.length ys.length := by rw [pairs_len, dpa_len dx, dpa_len dy]
  refine ⟨fun H => SqT K H a xs ∧ SqT K H c ys, YPair (fun i => xs[i]?) (fun i => ys[i]?), ⟨fun i H hi q => ?_, fun H q => ⟨xs, ys, q.1, q.2, by rw [hl]; omega⟩, fun i H v H' _ q y => ?_⟩, fun G1 H s1 s2 => ⟨⟨sqt_mono s2 (sqt_mono s1 sx), sqt_mono s2 (sqt_mono s1 sy)⟩, fun i v H' hi y => ?_⟩⟩
  · have h1 : i < xs.length := by omega
    have h2 : i < ys.length := by omega
    exact ⟨xs, ys, xs[i], ys[i], q.1, q.2, by simp [h1], by simp [h2]⟩
  · obtain ⟨T, x, z, h1, h2, h3, h4, h5⟩ := y
    exact ⟨T, x, z, h1, h2, h3, h4 xs q.1, h5 ys q.2⟩
  · obtain ⟨T, x, z, rfl, h2, rfl, h4, h5⟩ := y
    obtain ⟨d1, e1, p1⟩ := dpa_getV dx h4
    obtain ⟨d2, e2, p2⟩ := dpa_getV dy h5
    obtain ⟨g, p⟩ := lay2 s2 h2 (dp_mono s1 _ _ p1) (dp_mono s1 _ _ p2)
    exact ⟨_, _, g, pairs_get e1 e2, p⟩
theorem ei_list {l : List PyData} (h : EvP K env b ms te (Is (.list l))) : EvI K env b ms (iList K te) (Is l) := fun σ G H e s j R k => h σ G H e s j _ fun v d G1 H1 g1 j1 p1 q1 => by
  cases q1
  cases p1 with
  | lst sq da => exact ⟨_, rfl, ⟨_, g1.gh.seq sq⟩, k _ l G1 H1 g1 j1 (iter_list sq da) rfl⟩
theorem ei_listP {Pl : List PyData → Prop} (h : EvP K env b ms te (fun d => ∃ l, d = .list l ∧ Pl l)) : EvI K env b ms (iList K te) Pl := fun σ G H e s j R k => h σ G H e s j _ fun v d G1 H1 g1 j1 p1 ⟨l, q1, q2⟩ => by
  subst q1
  cases p1 with
  | lst sq da => exact ⟨_, rfl, ⟨_, g1.gh.seq sq⟩, k _ l G1 H1 g1 j1 (iter_list sq da) q2⟩
theorem ei_tup {l : List PyData} (h : EvP K env b ms te (Is (.tuple l))) : EvI K env b ms (iTup K te) (Is l) := fun σ G H e s j R k => h σ G H e s j _ fun v d G1 H1 g1 j1 p1 q1 => by
  cases q1
  cases p1 with
  | tup sq da => exact ⟨_, rfl, ⟨_, sqt_mono g1.gh sq⟩, k _ l G1 H1 g1 j1 (iter_tup sq da) rfl⟩
theorem ei_rng {ta : TA} {n : Nat} (h : EaP K env b ms ta (Is [.int (n : Nat)])) (hn : n < 2 ^ 60) : EvI K env b ms (iRng1 ta) (Is (intL n)) := fun σ G H e s j R k => h σ G H e s j _ fun vs ds G1 H1 g1 j1 p1 q1 => by
  cases q1
  cases p1 with
  | cons p q =>
    cases q; cases p
    refine ⟨(n : Nat), rfl, by omega, by omega, ?_⟩
    have e : ((n : Nat) : Int).toNat = n := by omega
    rw [e]
    exact k _ _ G1 H1 g1 j1 iter_rng rfl
theorem ei_zipT {ta : TA} {l m : List PyData} (h : EaP K env b ms ta (Is [.tuple l, .tuple m])) : EvI K env b ms (RZ.iZipA K ta) (Is (pairs l m)) := fun σ G H e s j R k => h σ G H e s j _ fun vs ds G1 H1 g1 j1 p1 q1 => by
  cases q1
  cases p1 with
  | cons p q =>
    cases q with
    | cons p' q' =>
      cases q'
      cases p with
      | tup sx dx =>
        cases p' with
        | tup sy dy => exact ⟨_, _, _, _, rfl, .inr ⟨sqt_mono g1.gh sx, sqt_mono g1.gh sy, k _ _ G1 H1 g1 j1 (iter_zipT sx dx sy dy) rfl⟩⟩

/-! ### comprehensions -/
inductive Lc (T : PyData → Bool → Prop) (E : PyData → PyData → Prop) : List PyData → List PyData → Prop
  | nil : Lc T E [] []
  | yes {l m : List PyData} {x y : PyData} : Lc T E l m → T x true → E x y → Lc T E (l ++ [x]) (m ++ [y])
  | no {l m : List PyData} {x : PyData} : Lc T E l m → T x false → Lc T E (l ++ [x]) m
theorem Lc.len {T : PyData → Bool → Prop} {E : PyData → PyData → Prop} {l m : List PyData} (h : Lc T E l m) : m.length ≤ l.length := by
  induction h with
  | nil => exact Nat.le_refl _
  | yes _ _ _ ih => simp; omega
  | no _ _ ih => simp; omega
/-- every item gives one -/
theorem Lc.all {E : PyData → PyData → Prop} {l m : List PyData} (h : Lc (fun _ c => c = true) E l m) : m.length = l.length ∧ ∀ (i : Nat) (x y : PyData), l[i]? = some x → m[i]? = some y → E x y := by
  induction h with
  | nil => exact ⟨rfl, fun i x y e => by simp at e⟩
  | @yes l m x y h1 h2 h3 ih =>
    refine ⟨by simp [ih.1], fun i a c ea ec => ?_⟩
    by_cases hi : i < l.length
    · rw [List.getElem?_append_left hi] at ea
      rw [List.getElem?_append_left (by rw [ih.1]; exact hi)] at ec
      exact ih.2 i a c ea ec
    · have hi2 : i = l.length := by
        have := (List.getElem?_eq_some_iff.mp ea).1
        simp at this; omega
      subst hi2
      rw [List.getElem?_append_right (Nat.le_refl _)] at ea
      rw [List.getElem?_append_right (by rw [ih.1]; exact Nat.le_refl _)] at ec
      simp at ea
      simp [ih.1] at ec
      subst ea ec
      exact h3
  | no _ h _ => cases h
/-- every item gives one, by a function -/
theorem Lc.map {f : PyData → PyData} {l m : List PyData} (h : Lc (fun _ c => c = true) (fun x y => y = f x) l m) : m = l.map f := by
  induction h with
  | nil => rfl
  | yes _ _ h3 ih => rw [List.map_append, ih, h3]; rfl
  | no _ h _ => cases h
theorem Lc.filterMap {t : PyData → Bool} {f : PyData → PyData} {l m : List PyData} (h : Lc (fun x c => c = t x) (fun x y => y = f x) l m) : m = (l.filter t).map f := by
  induction h with
  | nil => rfl
  | yes _ h2 h3 ih => rw [List.filter_append, List.map_append, ih, h3]; simp [← h2]
  | no _ h ih => rw [List.filter_append, List.map_append, ih]; simp [← h]
theorem Lc.imp {T T' : PyData → Bool → Prop} {E E' : PyData → PyData → Prop} {l m : List PyData} (h : Lc T E l m) (ht : ∀ x ∈ l, ∀ c, T x c → T' x c) (he : ∀ x ∈ l, ∀ y, E x y → E' x y) : Lc T' E' l m := by
  induction h with
  | nil => exact .nil
  | yes _ h2 h3 ih => exact .yes (ih (fun x hx => ht x (by simp [hx])) (fun x hx => he x (by simp [hx]))) (ht _ (by simp) _ h2) (he _ (by simp) _ h3)
  | no _ h ih => exact .no (ih (fun x hx => ht x (by simp [hx])) (fun x hx => he x (by simp [hx]))) (ht _ (by simp) _ h)
theorem en_lc {wi : TI} {g : TG} {vs : List Nat} {Pl : List PyData → Prop} {f : PyData → List Sl → List Sl} {T : PyData → Bool → Prop} {E : PyData → PyData → Prop}
    (hi : EvI K env b ms wi Pl) (hl : ∀ l, Pl l → l.length ≤ 1000) (hg : ∀ l, Pl l → ∀ x ∈ l, TgP K g vs x (f x))
    (ht : ∀ l, Pl l → ∀ x ∈ l, EtP K (f x (wipeE env vs)) b ms tt (T x)) (he : ∀ l, Pl l → ∀ x ∈ l, T x true → EvP K (f x (wipeE env vs)) b ms te (E x)) :
    EvN K env b ms (tLc wi g tt te vs) (fun m => ∃ l, Pl l ∧ Lc T E l m) := fun σ G H e s j Q k => hi σ G H e s j _ fun J l G1 H1 g1 j1 it q1 => by
  obtain ⟨W, Y, wk, hw⟩ := it
  intro D hD
  have hlen := hl l q1
  have hDb : ¬ Mb b D := fun z => by
    obtain ⟨_, _, _, _, _, _, e0, _⟩ := j1.bag D z
    rw [hD] at e0; cases e0
  refine lc_it wk (fun i H2 => ∃ (G2 : Hp) (acc : List V) (m : List PyData), Grow (Mb b) G1 H1 G2 H2 ∧ JB K b ms G2 H2 ∧ G2 D = none ∧ H2 D = some (.lst acc) ∧ DpAll K G2 acc m ∧ Lc T E (l.take i) m)
    ⟨G1, [], [], Grow.lay0 g1.gh hD, j1.grow (Grow.lay0 g1.gh hD), g1.gh.free hD, upd_same, .nil, by rw [List.take_zero]; exact .nil⟩ ?_ ?_ ?_
  · rintro i H2 _ ⟨G2, acc, m, g2, _⟩
    exact (hw G2 H2 g2.g g2.gh).1
  · rintro i x H2 H3 hi ⟨G2, acc, m, g2, j2, f2, hd2, da2, lc2⟩ y
    obtain ⟨G3, d, g3, hd, p3⟩ := (hw G2 H2 g2.g g2.gh).2 i x H3 hi y
    have mem : d ∈ l := List.mem_of_getElem? hd
    have j3 := j2.grow g3
    have e3 : EnvOk K G3 σ env := e.mono (g1.g.trans (g2.g.trans g3.g))
    have hd3 : H3 D = some (.lst acc) := g3.keep _ _ hd2 fun z => z
    have nf : ∀ {Ga Ha Gb Hb : Hp}, Ha D = some (.lst acc) → Ga D = none → Grow (Mb b) Ga Ha Gb Hb → Gb D = none ∧ Hb D = some (.lst acc) := fun {Ga Ha Gb Hb} h1 h2 gg => by
      refine ⟨?_, gg.keep _ _ h1 hDb⟩
      cases r : Gb D with
      | none => rfl
      | some o =>
        rcases gg.new _ o r with z | z
        · rw [h2] at z; cases z
        · rw [h1] at z; cases z
    have f3 := (nf hd2 f2 g3.no).1
    refine hg l q1 d mem (wipeE env vs) (wipe σ vs) G3 H3 x (e3.wipe vs) g3.gh p3 _ fun σ2 e4 ew => ?_
    refine ⟨by rw [ew, wipe_wipe], ?_⟩
    have tk : l.take (i + 1) = l.take i ++ [d] := by rw [List.take_add_one, hd]; rfl
    have acl : acc.length ≤ 1000 := by
      have h1 := dpa_len da2
      have h2 := lc2.len
      rw [List.length_take] at h2
      omega
    refine ht l q1 d mem σ2 G3 H3 e4 g3.gh j3 _ fun c G4 H4 g4 j4 q4 => ?_
    obtain ⟨f4, hd4⟩ := nf hd3 f3 g4
    cases c with
    | false =>
      show ∃ _, _
      exact ⟨G4, acc, m, (g2.trans g3.no).trans g4, j4, f4, hd4, dpa_mono (g3.g.trans g4.g) _ _ da2, by rw [tk]; exact .no lc2 q4⟩
    | true =>
      show te σ2 H4 _
      refine he l q1 d mem q4 σ2 G4 H4 (e4.mono g4.g) g4.gh j4 _ fun v y5 G5 H5 g5 j5 p5 q5 => ?_
      obtain ⟨f5, hd5⟩ := nf hd4 f4 g5
      refine ⟨acc, hd5, Nat.lt_of_le_of_lt acl (by decide), G5, acc ++ [v], m ++ [y5], ?_, ?_, f5, upd_same, dpa_app (dpa_mono (g3.g.trans (g4.g.trans g5.g)) _ _ da2) (.cons p5 .nil), by rw [tk]; exact .yes lc2 q4 q5⟩
      · have gg := ((g2.trans g3.no).trans g4).trans g5
        refine ⟨gg.g, fun c o z => ?_, fun c z => ?_, fun c o z m => ?_, gg.new⟩
        · by_cases q : c = D
          · subst q; rw [f5] at z; cases z
          · rw [upd_ne q]; exact gg.gh c o z
        · by_cases q : c = D
          · subst q; rw [upd_same] at z; cases z
          · rw [upd_ne q] at z; exact gg.dom c z
        · by_cases q : c = D
          · subst q; rw [hD] at z; cases z
          · rw [upd_ne q]; exact gg.keep c o z m
      · refine ⟨fun c z => ?_, fun p hp => ?_⟩
        · obtain ⟨b1, z0, z1, z2, lb, cs, b2, b3⟩ := j5.bag c z
          exact ⟨b1, z0, z1, z2, lb, cs, by rw [upd_ne (show c ≠ D from fun q => hDb (by rw [← q]; exact z))]; exact b2, b3⟩
        · obtain ⟨m1, m2, xs, m3, m4⟩ := j5.mu p hp
          obtain ⟨_, _, _, m5, _⟩ := j1.mu p hp
          exact ⟨m1, m2, xs, by rw [upd_ne (ne_of_none m5 hD)]; exact m3, m4⟩
  · rintro H2 ⟨G2, acc, m, g2, j2, f2, hd2, da2, lc2⟩
    rw [List.take_length] at lc2
    exact k D acc m G2 H2 (g1.trans g2) j2 (g1.dom _ hD) f2 hd2 da2 ⟨l, q1, lc2⟩
theorem et_yes : EtP K env b ms tYes (Is true) := fun σ G H e s j Q k => k true G H (Grow.refl s) j rfl
end

/-! ### statements -/
structure At (K : PySem.W.Frag) (env : List Sl) (b : Option Addr) (ms : Ms) (G0 H0 Gs : Hp) (σ : L2.St) (G H : Hp) : Prop where
  env : EnvOk K G σ env
  gr : Grow (Mb b) G0 H0 G H
  sg : Same Gs G
  j : JB K b ms G H
  own : ∀ p ∈ ms, H0 p.1 = none
  nd : (ms.map (·.1)).Nodup
section
variable {K : PySem.W.Frag} {env : List Sl} {b : Option Addr} {ms : Ms} {G0 H0 Gs G H : Hp} {σ : L2.St} {te ta tb : TE} {P Pa Pb : PyData → Prop} {tt : TT} {Pt : Bool → Prop} {D : Ends} {tu tw tz : TS}
theorem At.step {G2 H2 : Hp} (A : At K env b ms G0 H0 Gs σ G H) (g : Grow (Mb b) G H G2 H2) (j : JB K b ms G2 H2) : At K env b ms G0 H0 Gs σ G2 H2 := ⟨A.env.mono g.g, A.gr.trans g, A.sg.trans g.g, j, A.own, A.nd⟩
theorem At.put {i : Nat} {v : V} {e : Sl} (A : At K env b ms G0 H0 Gs σ G H) (r : SlotOk K G (some v) e) : At K (env.set i e) b ms G0 H0 Gs (σ.set i (some v)) G H := ⟨A.env.set r, A.gr, A.sg, A.j, A.own, A.nd⟩
theorem s_asg {i : Nat} (A : At K env b ms G0 H0 Gs σ G H) (h : EvP K env b ms te P) (k : ∀ d σ' G' H', P d → At K (env.set i (.d d)) b ms G0 H0 Gs σ' G' H' → D.nx σ' H') : tAsg te (gName i) D σ H :=
  h σ G H A.env A.gr.gh A.j _ fun v d G2 H2 g j p q => k d _ G2 H2 q ((A.step g j).put (slot_d p))
theorem q_asg {i : Nat} (A : At K env b ms G0 H0 Gs σ G H) (h : EvP K env b ms te P) (k : ∀ d σ' G' H', P d → At K (env.set i (.d d)) b ms G0 H0 Gs σ' G' H' → tz D σ' H') : tSeq (tAsg te (gName i)) tz D σ H :=
  s_asg (D := { D with nx := tz D }) A h k
/-- x = a new list that will change -/
theorem q_asgM {i : Nat} {Pl : List PyData → Prop} (A : At K env b ms G0 H0 Gs σ G H) (h : EvN K env b ms te Pl) (k : ∀ l ds σ' G' H', Pl ds → b ≠ some l → At K (env.set i (.a l)) b ((l, ds.map .d) :: ms) G0 H0 Gs σ' G' H' → tz D σ' H') : tSeq (tAsg te (gName i)) tz D σ H :=
  h σ G H A.env A.gr.gh A.j _ fun l xs ds G2 H2 g j n f hl da q => by
    have nb : b ≠ some l := fun z => by
      obtain ⟨_, _, _, _, _, _, e0, _⟩ := A.j.bag l z
      rw [n] at e0; cases e0
    have A2 := A.step g j
    refine k l ds _ G2 H2 q nb ⟨A2.env.set rfl, A2.gr, A2.sg, ⟨j.bag, fun p hp => ?_⟩, fun p hp => ?_, ?_⟩
    · rcases List.mem_cons.mp hp with rfl | hp
      · refine ⟨f, nb, xs, hl, by simp [dpa_len da], fun i e he => ?_⟩
        rw [List.getElem?_map] at he
        cases q : ds[i]? with
        | none => rw [q] at he; cases he
        | some d =>
          rw [q] at he; cases he
          obtain ⟨v, e1, e2⟩ := dpa_get da q
          exact ⟨some v, by rw [List.getElem?_map, e1]; rfl, v, rfl, e2⟩
      · exact j.mu p hp
    · rcases List.mem_cons.mp hp with rfl | hp
      · exact A.gr.dom _ n
      · exact A.own p hp
    · rw [List.map_cons, List.nodup_cons]
      refine ⟨fun hm => ?_, A.nd⟩
      obtain ⟨p, hp, e⟩ := List.mem_map.mp hm
      obtain ⟨_, _, _, m, _⟩ := A.j.mu p hp
      rw [e, n] at m; cases m
theorem s_if (A : At K env b ms G0 H0 Gs σ G H) (h : EtP K env b ms tt Pt) (h1 : Pt true → ∀ G' H', At K env b ms G0 H0 Gs σ G' H' → tu D σ H') (h2 : Pt false → ∀ G' H', At K env b ms G0 H0 Gs σ G' H' → tw D σ H') : tIfS tt tu tw D σ H :=
  h σ G H A.env A.gr.gh A.j _ fun c G2 H2 g j q => by
    cases c with
    | true => exact h1 q G2 H2 (A.step g j)
    | false => exact h2 q G2 H2 (A.step g j)
theorem q_if (A : At K env b ms G0 H0 Gs σ G H) (h : EtP K env b ms tt Pt) (h1 : Pt true → ∀ G' H', At K env b ms G0 H0 Gs σ G' H' → tu { D with nx := tz D } σ H') (h2 : Pt false → ∀ G' H', At K env b ms G0 H0 Gs σ G' H' → tw { D with nx := tz D } σ H') : tSeq (tIfS tt tu tw) tz D σ H :=
  s_if (D := { D with nx := tz D }) A h h1 h2
/-- if t: .. (that returns or raises, or goes on) -/
theorem q_when (A : At K env b ms G0 H0 Gs σ G H) (h : EtP K env b ms tt Pt) (h1 : Pt true → ∀ G' H', At K env b ms G0 H0 Gs σ G' H' → tu { D with nx := tz D } σ H') (h2 : Pt false → ∀ G' H', At K env b ms G0 H0 Gs σ G' H' → tz D σ H') : tSeq (tIfS tt tu tNext) tz D σ H :=
  s_if (D := { D with nx := tz D }) A h h1 h2
theorem s_ret (A : At K env b ms G0 H0 Gs σ G H) (h : EvP K env b ms te P) (k : ∀ v d G' H', Grow (Mb b) G0 H0 G' H' → JB K b ms G' H' → Dp K G' v d → P d → D.rt v H') : tRet te D σ H :=
  h σ G H A.env A.gr.gh A.j _ fun v d G2 H2 g j p q => k v d G2 H2 (A.gr.trans g) j p q
/-- x, y = .., .. -/
theorem q_par {i l : Nat} {t : TA} {Pl : List PyData → Prop} (A : At K env b ms G0 H0 Gs σ G H) (h : EaP K env b ms t Pl) (h2 : ∀ ds, Pl ds → ∃ x y, ds = [x, y]) (k : ∀ x y σ' G' H', Pl [x, y] → At K ((env.set i (.d x)).set l (.d y)) b ms G0 H0 Gs σ' G' H' → tz D σ' H') : tSeq (tPar i l t) tz D σ H :=
  h σ G H A.env A.gr.gh A.j _ fun vs ds G2 H2 g j p q => by
    obtain ⟨x, y, rfl⟩ := h2 ds q
    cases p with
    | cons p1 t =>
      cases t with
      | cons p2 t =>
        cases t
        exact ⟨_, _, rfl, k x y _ G2 H2 q (((A.step g j).put (slot_d p1)).put (slot_d p2))⟩
theorem q_par3 {i l m : Nat} {t : TA} {Pl : List PyData → Prop} (A : At K env b ms G0 H0 Gs σ G H) (h : EaP K env b ms t Pl) (h2 : ∀ ds, Pl ds → ∃ x y z, ds = [x, y, z]) (k : ∀ x y z σ' G' H', Pl [x, y, z] → At K (((env.set i (.d x)).set l (.d y)).set m (.d z)) b ms G0 H0 Gs σ' G' H' → tz D σ' H') : tSeq (tPar3 i l m t) tz D σ H :=
  h σ G H A.env A.gr.gh A.j _ fun vs ds G2 H2 g j p q => by
    obtain ⟨x, y, z, rfl⟩ := h2 ds q
    cases p with
    | cons p1 t =>
      cases t with
      | cons p2 t =>
        cases t with
        | cons p3 t =>
          cases t
          exact ⟨_, _, _, rfl, k x y z _ G2 H2 q ((((A.step g j).put (slot_d p1)).put (slot_d p2)).put (slot_d p3))⟩
/-- (x, y) = a tuple of two, in hand -/
theorem q_unp {i l : Nat} (A : At K env b ms G0 H0 Gs σ G H) (h : EvP K env b ms te P) (h2 : ∀ d, P d → ∃ x y, d = .tuple [x, y]) (k : ∀ x y σ' G' H', P (.tuple [x, y]) → At K ((env.set i (.d x)).set l (.d y)) b ms G0 H0 Gs σ' G' H' → tz D σ' H') : tSeq (tAsg te (gTup K 2 (gCons (gName i) (gCons (gName l) gNil)))) tz D σ H :=
  h σ G H A.env A.gr.gh A.j _ fun v d G2 H2 g j p q => by
    obtain ⟨x, y, rfl⟩ := h2 d q
    cases p with
    | tup sq da =>
      cases da with
      | cons p1 t =>
        cases t with
        | cons p2 t =>
          cases t
          exact ⟨_, _, rfl, sqt_mono g.gh sq, rfl, _, _, rfl, _, _, rfl, rfl, k x y _ G2 H2 q (((A.step g j).put (slot_d p1)).put (slot_d p2))⟩
/-- a list of ours is written -/
theorem At.write {n : Nat} {l : Addr} {es es' : List Sl} {xs' : List V} (A : At K env b ms G0 H0 Gs σ G H) (hm : ms[n]? = some (l, es)) (e : EnvOk K G (xs'.map some) es') : At K env b (ms.set n (l, es')) G0 H0 Gs σ G (upd H l (.lst xs')) := by
  have mem : (l, es) ∈ ms := List.mem_of_getElem? hm
  obtain ⟨gl, nb, xs, hl, _⟩ := A.j.mu _ mem
  have hn : n < ms.length := (List.getElem?_eq_some_iff.mp hm).1
  have fst : (ms.set n (l, es')).map (·.1) = ms.map (·.1) := by
    rw [List.map_set]
    apply List.ext_getElem?
    intro i
    by_cases hi : n = i
    · subst hi
      rw [List.getElem?_set_self (by simpa using hn), List.getElem?_map, hm]; rfl
    · rw [List.getElem?_set_ne hi]
  have inm : ∀ p ∈ ms.set n (l, es'), p.1 ∈ ms.map (·.1) := fun p hp => by
    rw [← fst]
    exact List.mem_map.mpr ⟨p, hp, rfl⟩
  refine ⟨A.env, ⟨A.gr.g, fun c o z => ?_, fun c z => ?_, fun c o z m => ?_, A.gr.new⟩, A.sg, ⟨fun x ex => ?_, fun p hp => ?_⟩, fun p hp => ?_, by rw [fst]; exact A.nd⟩
  · by_cases q : c = l
    · subst q
      rw [gl] at z; cases z
    · rw [upd_ne q]; exact A.gr.gh c o z
  · by_cases q : c = l
    · subst q; rw [upd_same] at z; cases z
    · rw [upd_ne q] at z; exact A.gr.dom c z
  · by_cases q : c = l
    · subst q
      have z2 := A.own _ mem
      rw [z] at z2; cases z2
    · rw [upd_ne q]; exact A.gr.keep c o z m
  · obtain ⟨b1, z0, z1, z2, lb, cs, b2, b3⟩ := A.j.bag x ex
    exact ⟨b1, z0, z1, z2, lb, cs, by rw [upd_ne (show x ≠ l from fun q => nb (by rw [← q]; exact ex))]; exact b2, b3⟩
  · obtain ⟨i, hi⟩ := List.mem_iff_getElem?.mp hp
    by_cases q : n = i
    · subst q
      rw [List.getElem?_set_self hn] at hi
      cases hi
      exact ⟨gl, nb, xs', upd_same, e⟩
    · rw [List.getElem?_set_ne q] at hi
      have hp2 : p ∈ ms := List.mem_of_getElem? hi
      obtain ⟨m1, m2, ys, m3, m4⟩ := A.j.mu p hp2
      refine ⟨m1, m2, ys, ?_, m4⟩
      rw [upd_ne]
      · exact m3
      · intro ee
        have h1 : (ms.map (·.1))[i]? = some l := by rw [List.getElem?_map, hi]; exact congrArg some ee
        have h2 : (ms.map (·.1))[n]? = some l := by rw [List.getElem?_map, hm]; rfl
        obtain ⟨k1, k2⟩ := List.getElem?_eq_some_iff.mp h1
        obtain ⟨k3, k4⟩ := List.getElem?_eq_some_iff.mp h2
        exact q ((List.getElem_inj A.nd).mp (k4.trans k2.symm))
  · obtain ⟨p2, hp2, e2⟩ := List.mem_map.mp (inm p hp)
    rw [← e2]
    exact A.own p2 hp2
theorem env_app {σ τ : L2.St} {e f : List Sl} (h1 : EnvOk K G σ e) (h2 : EnvOk K G τ f) : EnvOk K G (σ ++ τ) (e ++ f) := ⟨by simp [h1.1, h2.1], fun i x hx => by
  by_cases hi : i < e.length
  · rw [List.getElem?_append_left hi] at hx
    rw [List.getElem?_append_left (by rw [h1.1]; exact hi)]
    exact h1.2 i x hx
  · rw [List.getElem?_append_right (by omega)] at hx
    rw [List.getElem?_append_right (by rw [h1.1]; omega), h1.1]
    exact h2.2 _ x hx⟩
theorem env_take {σ : L2.St} {e : List Sl} (n : Nat) (h : EnvOk K G σ e) : EnvOk K G (σ.take n) (e.take n) := ⟨by simp [h.1], fun i x hx => by
  rw [List.getElem?_take] at hx ⊢
  by_cases hi : i < n
  · rw [if_pos hi] at hx ⊢; exact h.2 i x hx
  · rw [if_neg hi] at hx; cases hx⟩
theorem env_drop {σ : L2.St} {e : List Sl} (n : Nat) (h : EnvOk K G σ e) : EnvOk K G (σ.drop n) (e.drop n) := ⟨by simp [h.1], fun i x hx => by
  rw [List.getElem?_drop] at hx ⊢
  exact h.2 _ x hx⟩
theorem env_data {xs : List V} {ds : List PyData} (da : DpAll K G xs ds) : EnvOk K G (xs.map some) (ds.map .d) := ⟨by simp [dpa_len da], fun i e he => by
  rw [List.getElem?_map] at he
  cases q : ds[i]? with
  | none => rw [q] at he; cases he
  | some d =>
    rw [q] at he; cases he
    obtain ⟨v, e1, e2⟩ := dpa_get da q
    exact ⟨some v, by rw [List.getElem?_map, e1]; rfl, v, rfl, e2⟩⟩
theorem tyL {l : Addr} {xs : List V} (h : H l = some (.lst xs)) : tyV K "list" (.ref l) H := .inl ⟨rfl, xs, SqL.of h⟩
/-- l.append(e) -/
theorem s_app {i n : Nat} {l : Addr} {es : List Sl} (A : At K env b ms G0 H0 Gs σ G H) (hi : env[i]? = some (.a l)) (hm : ms[n]? = some (l, es)) (h : EvP K env b ms te P) (hz : es.length ≤ 2000)
    (k : ∀ d G' H', P d → At K env b (ms.set n (l, es ++ [.d d])) G0 H0 Gs σ G' H' → D.nx σ H') : tDrop (tBM K "list" rAppend (tVar i) (tCons te tNil)) D σ H := by
  obtain ⟨gl, nb, xs, hl, el⟩ := A.j.mu _ (List.mem_of_getElem? hm)
  refine ⟨.ref l, A.env.addr hi, tyL hl, h σ G H A.env A.gr.gh A.j _ fun v d G2 H2 g j p q => ?_⟩
  have hl2 : H2 l = some (.lst xs) := g.keep _ _ hl nb
  have xl : xs.length = es.length := by have := el.1; simpa using this
  refine ⟨l, xs, v, rfl, rfl, hl2, Nat.lt_of_le_of_lt (by rw [xl]; exact hz) (by decide), ?_⟩
  refine k d G2 _ q ((A.step g j).write hm ?_)
  rw [List.map_append]
  exact env_app (el.mono g.g) (.cons (slot_d p) .nil)
theorem q_app {i n : Nat} {l : Addr} {es : List Sl} (A : At K env b ms G0 H0 Gs σ G H) (hi : env[i]? = some (.a l)) (hm : ms[n]? = some (l, es)) (h : EvP K env b ms te P) (hz : es.length ≤ 2000)
    (k : ∀ d G' H', P d → At K env b (ms.set n (l, es ++ [.d d])) G0 H0 Gs σ G' H' → tz D σ H') : tSeq (tDrop (tBM K "list" rAppend (tVar i) (tCons te tNil))) tz D σ H := s_app (D := { D with nx := tz D }) A hi hm h hz k
/-- l.extend(a new list) -/
theorem s_ext {i n : Nat} {l : Addr} {es : List Sl} {Pl : List PyData → Prop} (A : At K env b ms G0 H0 Gs σ G H) (hi : env[i]? = some (.a l)) (hm : ms[n]? = some (l, es)) (h : EvN K env b ms te Pl) (hz : es.length ≤ 2000) (hz2 : ∀ ds, Pl ds → ds.length ≤ 2000)
    (k : ∀ ds G' H', Pl ds → At K env b (ms.set n (l, es ++ ds.map .d)) G0 H0 Gs σ G' H' → D.nx σ H') : tDrop (tBM K "list" rExtend (tVar i) (tCons te tNil)) D σ H := by
  obtain ⟨gl, nb, xs, hl, el⟩ := A.j.mu _ (List.mem_of_getElem? hm)
  refine ⟨.ref l, A.env.addr hi, tyL hl, h σ G H A.env A.gr.gh A.j _ fun p ys ds G2 H2 g j nn f hp da q => ?_⟩
  have hl2 : H2 l = some (.lst xs) := g.keep _ _ hl nb
  have xl : xs.length = es.length := by have := el.1; simpa using this
  refine ⟨l, p, xs, ys, rfl, rfl, hl2, hp, Nat.le_trans (Nat.add_le_add (by rw [xl]; exact hz) (by rw [dpa_len da]; exact hz2 _ q)) (by decide), ?_⟩
  refine k ds G2 _ q ((A.step g j).write hm ?_)
  rw [List.map_append]
  exact env_app (el.mono g.g) (env_data da)
theorem q_ext {i n : Nat} {l : Addr} {es : List Sl} {Pl : List PyData → Prop} (A : At K env b ms G0 H0 Gs σ G H) (hi : env[i]? = some (.a l)) (hm : ms[n]? = some (l, es)) (h : EvN K env b ms te Pl) (hz : es.length ≤ 2000) (hz2 : ∀ ds, Pl ds → ds.length ≤ 2000)
    (k : ∀ ds G' H', Pl ds → At K env b (ms.set n (l, es ++ ds.map .d)) G0 H0 Gs σ G' H' → tz D σ H') : tSeq (tDrop (tBM K "list" rExtend (tVar i) (tCons te tNil))) tz D σ H := s_ext (D := { D with nx := tz D }) A hi hm h hz hz2 k
abbrev rIns : V → List V → Hp → VK → Prop := fun x vs H Q => ∃ (l : Addr) (xs : List V) (i : Int) (y : V), x = .ref l ∧ vs = [.int i, y] ∧ H l = some (.lst xs) ∧ xs.length < sizeLine ∧ 0 ≤ i ∧ i < 2 ^ 63 ∧ Q .non (upd H l (.lst (xs.take i.toNat ++ [y] ++ xs.drop i.toNat)))
/-- l.insert(i, e) -/
theorem s_ins {i n : Nat} {l : Addr} {es : List Sl} {C : Int → Prop} (A : At K env b ms G0 H0 Gs σ G H) (hi : env[i]? = some (.a l)) (hm : ms[n]? = some (l, es)) (ha : EvP K env b ms ta (fun d => ∃ z, d = .int z ∧ C z)) (hC : ∀ z, C z → 0 ≤ z ∧ z < 2 ^ 63) (h : EvP K env b ms te P) (hz : es.length ≤ 2000)
    (k : ∀ z d G' H', C z → P d → At K env b (ms.set n (l, es.take z.toNat ++ [.d d] ++ es.drop z.toNat)) G0 H0 Gs σ G' H' → D.nx σ H') : tDrop (tBM K "list" rIns (tVar i) (tCons ta (tCons te tNil))) D σ H := by
  obtain ⟨gl, nb, xs, hl, el⟩ := A.j.mu _ (List.mem_of_getElem? hm)
  refine ⟨.ref l, A.env.addr hi, tyL hl, ha σ G H A.env A.gr.gh A.j _ fun v d G1 H1 g1 j1 p1 q1 => ?_⟩
  obtain ⟨z, rfl, c⟩ := q1
  cases p1
  refine h σ G1 H1 (A.env.mono g1.g) g1.gh j1 _ fun v d G2 H2 g2 j2 p q => ?_
  have g := g1.trans g2
  have hl2 : H2 l = some (.lst xs) := g.keep _ _ hl nb
  have xl : xs.length = es.length := by have := el.1; simpa using this
  obtain ⟨c0, c1⟩ := hC z c
  refine ⟨l, xs, z, v, rfl, rfl, hl2, Nat.lt_of_le_of_lt (by rw [xl]; exact hz) (by decide), c0, c1, ?_⟩
  refine k z d G2 _ c q ((A.step g j2).write hm ?_)
  rw [List.map_append, List.map_append, List.map_take, List.map_drop]
  exact env_app (env_app (env_take _ (el.mono g.g)) (.cons (slot_d p) .nil)) (env_drop _ (el.mono g.g))
theorem At.since {Gt : Hp} (A : At K env b ms G0 H0 Gs σ G H) (s : Same Gt G) : At K env b ms G0 H0 Gt σ G H := ⟨A.env, A.gr, s, A.j, A.own, A.nd⟩
/-- for target in walk: the word Pv by the turn -/
theorem s_for {wi : TI} {g : TG} {Pl : List PyData → Prop} {f : PyData → List Sl → List Sl} {vs : List Nat} (A : At K env b ms G0 H0 Gs σ G H) (hi : EvI K env b ms wi Pl) (hg : ∀ l, Pl l → ∀ x ∈ l, TgP K g vs x (f x))
    (Pv : List PyData → Nat → List Sl → Ms → Prop) (h0 : ∀ l, Pl l → Pv l 0 env ms)
    (hs : ∀ l i x env' ms' Gt σ' G' H', Pl l → l[i]? = some x → Pv l i env' ms' → At K (f x env') b ms' G0 H0 Gt σ' G' H' →
      ∀ nx : L2.St → Hp → Prop, (∀ env2 ms2 σ2 G2 H2, Pv l (i + 1) env2 ms2 → At K env2 b ms2 G0 H0 Gt σ2 G2 H2 → nx σ2 H2) → tu { D with nx := nx, ct := nx, bk := D.nx } σ' H')
    (hd : ∀ l env' ms' σ' G' H', Pl l → Pv l l.length env' ms' → At K env' b ms' G0 H0 Gs σ' G' H' → D.nx σ' H') : tFor wi g tu D σ H :=
  hi σ G H A.env A.gr.gh A.j _ fun J l G1 H1 g1 j1 it q1 => by
    obtain ⟨W, Y, wk, hw⟩ := it
    have A1 := A.step g1 j1
    refine for_it wk (fun i σ2 H2 => ∃ env2 ms2 G2, Pv l i env2 ms2 ∧ At K env2 b ms2 G0 H0 G1 σ2 G2 H2) ⟨env, ms, G1, h0 l q1, A1.since (Same.refl _)⟩ ?_ ?_ ?_
    · rintro i σ2 H2 _ ⟨env2, ms2, G2, _, A2⟩
      exact (hw G2 H2 A2.sg A2.gr.gh).1
    · rintro i x σ2 H2 H3 hlt ⟨env2, ms2, G2, p2, A2⟩ y
      obtain ⟨G3, d, g3, hd3, p3⟩ := (hw G2 H2 A2.sg A2.gr.gh).2 i x H3 hlt y
      have A3 := A2.step g3.no (A2.j.grow g3)
      refine hg l q1 d (List.mem_of_getElem? hd3) env2 σ2 G3 H3 x A3.env g3.gh p3 _ fun σ4 e4 _ => ?_
      exact hs l i d env2 ms2 G1 σ4 G3 H3 q1 hd3 p2 ⟨e4, A3.gr, A3.sg, A3.j, A3.own, A3.nd⟩ _ fun env5 ms5 σ5 G5 H5 p5 A5 => ⟨env5, ms5, G5, p5, A5⟩
    · rintro σ2 H2 ⟨env2, ms2, G2, p2, A2⟩
      exact hd l env2 ms2 σ2 G2 H2 q1 p2 (A2.since (A1.sg.trans A2.sg))
theorem q_for {wi : TI} {g : TG} {Pl : List PyData → Prop} {f : PyData → List Sl → List Sl} {vs : List Nat} (A : At K env b ms G0 H0 Gs σ G H) (hi : EvI K env b ms wi Pl) (hg : ∀ l, Pl l → ∀ x ∈ l, TgP K g vs x (f x))
    (Pv : List PyData → Nat → List Sl → Ms → Prop) (h0 : ∀ l, Pl l → Pv l 0 env ms)
    (hs : ∀ l i x env' ms' Gt σ' G' H', Pl l → l[i]? = some x → Pv l i env' ms' → At K (f x env') b ms' G0 H0 Gt σ' G' H' →
      ∀ nx : L2.St → Hp → Prop, (∀ env2 ms2 σ2 G2 H2, Pv l (i + 1) env2 ms2 → At K env2 b ms2 G0 H0 Gt σ2 G2 H2 → nx σ2 H2) → tu { D with nx := nx, ct := nx, bk := tz D } σ' H')
    (hd : ∀ l env' ms' σ' G' H', Pl l → Pv l l.length env' ms' → At K env' b ms' G0 H0 Gs σ' G' H' → tz D σ' H') : tSeq (tFor wi g tu) tz D σ H := s_for (D := { D with nx := tz D }) A hi hg Pv h0 hs hd
/-- return of a list of ours: from now on it is still -/
theorem s_retM {i n : Nat} {l : Addr} {ds : List PyData} (A : At K env b ms G0 H0 Gs σ G H) (hi : env[i]? = some (.a l)) (hm : ms[n]? = some (l, ds.map .d)) (k : ∀ v G' H', Grow (Mb b) G0 H0 G' H' → (∀ x, b = some x → BagAt K x G' H') → Dp K G' v (.list ds) → D.rt v H') : tRet (tVar i) D σ H := by
  have mem := List.mem_of_getElem? hm
  obtain ⟨gl, nb, xs, hl, el⟩ := A.j.mu _ mem
  refine ⟨.ref l, A.env.addr hi, k _ (upd G l (.lst xs)) H (A.gr.still hl (A.own _ mem) gl) (fun x ex => ?_) (.lst (SqL.of upd_same) ?_)⟩
  · obtain ⟨b1, z0, z1, z2, lb, cs, b2, b3, b4⟩ := A.j.bag x ex
    have up : Same G (upd G l (.lst xs)) := fun c o z => by rw [upd_ne (ne_of_none z gl)]; exact z
    exact ⟨by rw [upd_ne (show x ≠ l from fun q => nb (by rw [← q]; exact ex))]; exact b1, z0, z1, z2, lb, cs, b2, up.seq b3, b4⟩
  · have up : Same G (upd G l (.lst xs)) := fun c o z => by rw [upd_ne (ne_of_none z gl)]; exact z
    have go : ∀ (ds : List PyData) (xs : List V), EnvOk K G (xs.map some) (ds.map .d) → DpAll K G xs ds := by
      intro ds
      induction ds with
      | nil => intro xs h; cases xs with
        | nil => exact .nil
        | cons x xs => have := h.1; simp at this
      | cons d ds ih => intro xs h; cases xs with
        | nil => have := h.1; simp at this
        | cons x xs =>
          obtain ⟨s, e1, v, e2, e3⟩ := h.2 0 (.d d) rfl
          have e4 : x = v := by simp at e1; rw [e2] at e1; exact Option.some.inj e1
          subst e4
          exact .cons e3 (ih xs ⟨by have := h.1; simpa using this, fun i e he => by
            obtain ⟨s, f1, f2⟩ := h.2 (i + 1) e (by simpa using he)
            exact ⟨s, by simpa using f1, f2⟩⟩)
    exact dpa_mono up _ _ (go ds xs el)
end
end Dl
set_option Elab.async false
set_option linter.all false
set_option maxRecDepth 100000
set_option maxHeartbeats 4000000
namespace Dl
open PySem PySem.Spec PyProof.Rows L2

/-- a def's promise at one place of the stack -/
structure FnAt (A : Around) (P : Program) (w : World) (K : PySem.W.Frag) (mg : Str → Option Value) (base : Heap) (f : Addr) (fd : FuncData) (ps : List Str) (sp : Sp) : Prop where
  len : ∀ vs H Q E, sp vs H Q E → vs.length = ps.length
  run : ∀ (outer : List Env) (s : Shared) (H : Hp) (args : Args) (us : List Value) (vs : List V) (Q : VK) (E : XK), Env0 P w K mg base A outer s H →
    BindsTo s fd args (ps.zip us) → Vals vs us → sp vs H Q E → codeAny (model P w) A (.call (.ref f) args) (CR CX0 outer P w H s Q E) s
theorem fn_at {A : Around} {P : Program} {w : World} {K : PySem.W.Frag} {mg : Str → Option Value} {base : Heap} {k : Nat} {x qual : Str} {st : Stmt} {f : Addr} {fd : FuncData} {N ps : List Str} {sp : Sp}
    (F : Fun K x qual st f fd) (S : FnScope N ps (defScope st)) (ln : ∀ vs H Q E, sp vs H Q E → vs.length = ps.length) (hr : Room (k + 1) A)
    (hb : ∀ (cdv : Value) (outer : List Env) (s : Shared) (H : Hp) (vs : List V) (Q : VK) (E : XK), Room k (A.deeper (envOfC qual (defScope st) s.heap.objs.size f cdv)) → sp vs H Q E →
      ∃ t, PSs (cxOf CX0 P w K mg base N qual (defScope st) f cdv A outer s H E).nox (defBody st) t ∧ t { nx := fun _ H' => Q .non H', rt := Q } (start N vs) H) :
    FnAt A P w K mg base f fd ps sp := by
  obtain ⟨oc, od, kV, doc, pm, an, cdv, ct, osl, rfl, lk, hcd⟩ := F.ex
  refine ⟨ln, fun outer s H args us vs Q E e0 bnd r hsp => ?_⟩
  have lv := ln _ _ _ _ hsp
  have keeps : ∀ b o, base.get? b = some o → s.heap.get? b = some o :=
    fun b o e => (e0.bs b o e).1
  have KX : K.In s.heap := e0.mod.kin.keeps keeps
  have kinds : ∀ y ∈ ps.zip us, (defScope st).names.lookup y.1 = some .local ∨
      ((defScope st).names.lookup y.1 = some .cell ∧ ((cellsFrom (s.heap.objs.size + 1) (defScope st).names []).lookup y.1).isSome = true) := by
    rintro ⟨n, v⟩ hy
    rcases S.par n (List.of_mem_zip hy).1 with q | q
    · exact Or.inl q
    · exact Or.inr ⟨q, PySem.W.cellsFrom_some _ _ _ (Or.inl q)⟩
  refine codeAny_call_function hr.depth (KX _ _ lk) rfl S.co S.gen rfl
    (PySem.W.codeRec_of KX hcd) (bnd _ _ _ _ ?_)
  refine wpAny_newFunctionEnv_cells S.kind kinds fun env he s1 z => ?_
  subst he
  refine ⟨(e0.mod.nolimit.keeps keeps).keeps z.toInCall.keep, codeAny_func ?_⟩
  obtain ⟨t, ht, hq⟩ := hb cdv outer s H vs Q E (hr.deeper _) hsp
  have I := inv_start (CX := CX0) (P := P) (w := w) (E := E) S hr.hd e0 lv r z
  refine wpAny_mono (ht.nox.run [] s1 (start N vs) H _ I hq)
    (fun fl s' hs => ?_) fun e s' hs => hs
  have fin : ∀ {σ' : L2.St} {H' : Hp} {v : V} {u : Value},
      Inv (cxOf CX0 P w K mg base N qual (defScope st) f cdv A outer s H E) [] σ' H' s' → RelV v u → Q v H' → CE outer P w H s Q u s' :=
    fun {σ' H' v u} J rv q => ⟨v, H', J.os, J.bare, J.base, J.hok, rv, q⟩
  match fl, hs with
  | .ret u, hs =>
    obtain ⟨v, σ', H', J, rv, q⟩ := hs
    exact fin J rv q
  | .next, hs =>
    obtain ⟨σ', H', J, q⟩ := hs
    exact fin (v := V.non) (u := Value.none) J rfl q
  | .brk, hs => obtain ⟨_, _, _, q⟩ := hs; exact q.elim
  | .cont, hs => obtain ⟨_, _, _, q⟩ := hs; exact q.elim

section
variable {X : Cx} {f : Addr} {fd : FuncData} {ps : List Str} {sp : Sp} {x : Str} {p pos : Pos} {e : Expr} {es : List Expr} {t : TA}
theorem pe_callAt (F : FnAt X.A X.prog X.w X.K X.mg X.base f fd ps sp) (hg : Gl X x) (hm : X.mg x = some (.ref f)) (hk : PySem.W.keepIn X.K (.ref f) = true) (bd : Binds X.K fd ps [])
    (ha : PA X (e :: es) t) (hdb : (x == ("__debug__" : Str)) = false := by decide)
    (he : starEach (e :: es) X.env = (false, eval e X.env) :: starEach es X.env := by rfl)
    (hpl : (backTo pos (starEach es X.env)).any (·.1) = false := by rfl) :
    PE X (.Call (.Name x p) (e :: es) [] pos) (tCall sp [] E0 t) := by
  refine ⟨fun pins s σ H Q I h => wpAny_Call_Name_kw (ld_glob I hg hm ?_ hdb)⟩
  refine PySem.W.callWith_K (h₀ := X.base) I.ok.mod.kin hk
    (thn (ha.run pos pins s σ H _ I h) fun us s1 ⟨vs, H1, I1, r, q⟩ => ⟨I1.kIn, ?_⟩) he hpl
  have q : sp (vs ++ []) H1 Q E0 := q
  rw [List.append_nil] at q
  have hl : (us ++ []).length = ps.length := by
    rw [List.append_nil, ← r.length]
    exact F.len _ _ _ _ q
  have bb := bd s1 us I1.kIn hl
  have bb : BindsTo s1 fd ⟨us, []⟩ (ps.zip (us ++ [])) := bb
  rw [List.append_nil] at bb
  refine wpAny_call (codeAny_mono (F.run X.stack s1 H1 ⟨us, []⟩ us vs Q E0 I1.env0 bb r q) fun r s' hq => ?_)
  match r, hq with
  | .error e, hq => exact hq.elim
  | .ok (.ret u), hq => exact I1.after hq
  | .ok .next, hq => exact hq.elim
  | .ok .brk, hq => exact hq.elim
  | .ok .cont, hq => exact hq.elim
end

/-- the law's call, from its promise at the caller's place -/
theorem law_at {P : Program} {w : World} {K : PySem.W.Frag} {mg mb : Str → Option Value} {fa a : Addr} {fd : FuncData} {x : Str} {sp : Sp} {s₁ : Shared} {vs : List Value} {ns : List Int}
    (KX : K.In s₁.heap) (hns : s₁.heap.Ns mainGlobals mg) (hb : s₁.heap.Ns builtinsNs mb)
    (hbb : ∀ x : Str, x ≠ "__name__" → mb x = bootBuiltins x) (hlim : s₁.heap.NoLimit) (hg : s₁.gens = #[])
    (ha : s₁.heap.get? a = some { cls := .type "list", data := .seq vs.toArray }) (hi : IntsAre vs ns) (hl : ns.length ≤ sizeLine)
    (F : ∀ base : Heap, K.In base → base.Ns mainGlobals mg → FnAt callerA P w K mg base fa fd [x] sp)
    (hbind : ∀ (s : Shared) (u : Value), BindsTo s fd ⟨[u], []⟩ [(x, u)])
    (hsp : ∀ H : Hp, Only H → SqL K H a (ns.map V.int) → sp [.ref a] H (fun v _ => v = .bl true) fun _ _ _ => False) :
    codeAny (model P w) callerA (.call (.ref fa) ⟨[.ref a], []⟩)
      (fun r s' => r = .ok (.ret (.bool true)) ∧ OldK s₁.heap s'.heap ∧ s'.os = s₁.os ∧ AllBare s'.gens) s₁ := by
  have core : ∀ H : Hp, Only H → SqL K H a (ns.map V.int) → HOk P w H s₁.heap →
      (∀ b, H b ≠ none → b = a) → (H a ≠ none → K.lookup a = none) →
      codeAny (model P w) callerA (.call (.ref fa) ⟨[.ref a], []⟩)
        (fun r s' => r = .ok (.ret (.bool true)) ∧ OldK s₁.heap s'.heap ∧ s'.os = s₁.os ∧ AllBare s'.gens) s₁ := by
    intro H hO hS ok only free
    have lone : ∀ {b : Addr}, (b = a → False) → H b = none := fun {b} n => by
      cases q : H b with
      | none => rfl
      | some u => exact (n (only b (by rw [q]; exact fun z => nomatch z))).elim
    have noA : ∀ {b : Addr} {o : Obj} {es : Array DictEntry} {ep : Nat}, s₁.heap.get? b = some o → o.data = .dict es ep → H b = none := by
      intro b o es ep e d
      refine lone fun z => ?_
      rw [z, ha] at e
      cases e
      exact nomatch (show Data.seq vs.toArray _ = Data.dict es ep from d)
    have names : ∀ {b : Addr} {m : Str → Option Value}, s₁.heap.Ns b m → (hidT s₁.heap H).Ns b m := by
      rintro b m ⟨o, es, ep, e, d, r⟩
      exact ⟨o, es, ep, hidT_get e (noA e d), d, r⟩
    have KB : K.In (hidT s₁.heap H) := by
      intro b o e
      refine hidT_get (KX b o e) ?_
      cases q : H b with
      | none => rfl
      | some u =>
        have z := only b (by rw [q]; exact fun z => nomatch z)
        subst z
        rw [free (by rw [q]; exact fun z => nomatch z)] at e
        cases e
    have M : Mod K mg (hidT s₁.heap H) := by
      obtain ⟨mc, h1, h2⟩ := hlim
      exact ⟨KB, names hns, ⟨mb, names hb, hbb⟩, ⟨mc, names h1, h2⟩⟩
    have e0 : Env0 P w K mg (hidT s₁.heap H) callerA [] s₁ H :=
      ⟨rfl, M, fun b o e => of_hidT e, Nat.le_of_eq (hidT_size _ _), trivial, fun b hb => (List.not_mem_nil hb).elim, ok, .of_eq hg⟩
    have run := (F _ KB (names hns)).run [] s₁ H ⟨[.ref a], []⟩ [.ref a] [.ref a] _ _ e0 (hbind s₁ (.ref a)) (.cons rfl .nil) (hsp H hO hS)
    refine codeAny_mono run fun r s' h => ?_
    match r, h with
    | .error e, h => exact h.elim
    | .ok .next, h => exact h.elim
    | .ok .brk, h => exact h.elim
    | .ok .cont, h => exact h.elim
    | .ok (.ret u), h =>
      obtain ⟨v, H', os, bare, un, ok', rv, q⟩ := h
      have q : v = .bl true := q
      subst q
      have rv : u = Value.bool true := rv
      subst rv
      refine ⟨rfl, OldK.of_keep fun b o e => ?_, os, bare⟩
      rcases hO b with z | ⟨ob, xs, z⟩
      · exact un.keep b o e z (fun q => (List.not_mem_nil q).elim) (by simp)
      · obtain ⟨e1, _⟩ := ok b _ z
        obtain ⟨e2, _⟩ := ok' b _ (un.frzs b ob _ z)
        rw [e] at e1
        cases e1
        exact e2
  have rv := vals_ints hi
  have lv := hi.length
  cases hk : K.lookup a with
  | some o =>
    have e := KX a o hk
    rw [ha] at e
    cases e
    refine core (fun _ => none) (fun _ => Or.inl rfl) (Or.inr ⟨_, vs.toArray, _, hk, rfl, rfl, rfl, ?_, by simpa using rv⟩) (fun b u z => nomatch z) (fun b z => (z rfl).elim) fun z => (z rfl).elim
    rw [List.size_toArray, lv]
    exact hl
  | none =>
    let o1 : Obj := { cls := .type "list", data := .seq vs.toArray }
    let H1 : Hp := fun b => if b = a then some (.frz o1 (.lst (ns.map V.int))) else none
    have at1 : H1 a = some (.frz o1 (.lst (ns.map V.int))) := if_pos rfl
    have off : ∀ b, b ≠ a → H1 b = none := fun b n => if_neg n
    refine core H1 (fun b => ?_) (Or.inl (Or.inr ⟨o1, at1⟩)) (fun b u z => ?_) (fun b z => ?_) fun _ => hk
    · by_cases q : b = a
      · rw [q]; exact Or.inr ⟨_, _, at1⟩
      · exact Or.inl (off b q)
    · by_cases q : b = a
      · rw [q, at1] at z
        cases z
        rw [q]
        exact ⟨ha, by rw [List.length_map]; exact hl, vs, _, rv, ha⟩
      · rw [off b q] at z; cases z
    · by_cases q : b = a
      · exact q
      · exact (z (off b q)).elim
theorem walk_at {l : PySem.W.OpenLaw} {n : Nat} {q : Program} {loose : List Str} {XP : (Str → Option Value) → Heap → Prop} {YP : World → Heap → Prop} {d : DefRec} {K : Params → PySem.W.Frag} {sp : PySem.W.Frag → Sp} {x : Str}
    (hn : l.most = some n) (hn2 : n ≤ sizeLine) (hdf : d.params.defaults = [])
    (hY : ∀ (w : World) (h : Heap), YP w h → (K w.params).In h)
    (F : ∀ (w : World) (mg : Str → Option Value) (fa : Addr) (h : Heap), (K w.params).In h → h.Ns mainGlobals mg → mg d.name = some (.ref fa) →
      ∃ fd : FuncData, (∀ (s : Shared) (u : Value), BindsTo s fd ⟨[u], []⟩ [(x, u)]) ∧
        ∀ base : Heap, (K w.params).In base → base.Ns mainGlobals mg → FnAt callerA l.prog w (K w.params) mg base fa fd [x] (sp (K w.params)))
    (hsp : ∀ (K : PySem.W.Frag) (H : Hp) (a : Addr) (ns : List Int), ns.length ≤ n → Only H → SqL K H a (ns.map V.int) →
      sp K [.ref a] H (fun v _ => v = .bl true) fun _ _ _ => False) :
    PySem.W.WalkO q loose XP YP l.row.toRowW d [] (fun f vs => PySem.call f vs) := by
  refine Att.attach_call hn hdf fun w s₀ s₁ mg mb fa o pm cd doc a vs ns G Y ho hd hcd hmg hobj hints hlen hg => ?_
  have KX := hY w _ Y
  obtain ⟨fd, hb, hF⟩ := F w mg fa _ KX G.T.g hmg
  exact law_at KX G.T.g G.T.b G.T.builtins G.T.nolimit hg hobj hints (Nat.le_trans hlen hn2) hF hb
    (fun H hO hS => hsp _ H a ns hlen hO hS)
end Dl
set_option Elab.async false
set_option linter.all false
set_option maxRecDepth 100000
set_option maxHeartbeats 4000000
namespace Dl
open PySem PySem.Spec PyProof.Rows L2

/-- a def as the top left it -/
structure Dc (K : PySem.W.Frag) (mg : Str → Option Value) (x : Str) (st : Stmt) (ps : List Str) (f : Addr) (fd : FuncData) : Prop where
  fn : Fun K x x st f fd
  mg : mg x = some (.ref f)
  bd : Binds K fd ps []
section
variable {X : Cx} {k : Nat} {f : Addr} {fd : FuncData} {ps : List Str} {sp : Sp} {x : Str} {st : Stmt} {p pos : Pos} {e : Expr} {es : List Expr} {t : TA}
theorem pc (D : Dc X.K X.mg x st ps f fd) (F : FnOk X.prog X.w X.K X.mg X.base CX0 k f fd ps sp) (hr : Room k X.A) (hg : Gl X x) (ha : PA X (e :: es) t)
    (hdb : (x == ("__debug__" : Str)) = false := by decide) (he : starEach (e :: es) X.env = (false, eval e X.env) :: starEach es X.env := by rfl) (hpl : (backTo pos (starEach es X.env)).any (·.1) = false := by rfl) :
    PE X (.Call (.Name x p) (e :: es) [] pos) (tCall sp [] E0 t) := pe_call F hr hg D.mg D.fn.kp D.bd .nil pass0 ha hdb he hpl
/-- // by a divisor that is not 0, below 2 ^ 9000 -/
def CDivA (_ j : Int) : Prop := j ≠ 0 ∧ j.natAbs.log2 < 9000
theorem op_fdivN : OpR X (binaryOp .FloorDiv) (rI CDivA fun i j => .int (i.fdiv j)) := opI fun _ _ _ _ _ _ _ hc q => floordiv_int hc.1 q (.inl (PyProof.noPylong_of_log2 hc.2))
/-- l[i], l a list -/
theorem get_list : PGet X (rIxL X.K) := by
  intro pins s σ H o i ov iv Q I ro ri h
  obtain ⟨p, xs, j, v, rfl, rfl, sq, e, q⟩ := h
  cases ro
  obtain ⟨t, rfl⟩ := ri
  obtain ⟨its, r, pl, hz⟩ := I.list sq
  obtain ⟨n, h1, h2, h3, h4, h5⟩ := atI_get e
  obtain ⟨w, ew, rw'⟩ := r.get h2
  have hl := r.length
  have hn := line63
  by_cases h0 : 0 ≤ j
  · have hj : j.toNat = n := by
      rw [seqIndex_of h0 h5] at h1
      exact Option.some.inj h1
    exact wpAny_getItem_list pl.isList h0 (by omega) (by rw [hj]; simpa using ew) ⟨v, H, I, rw', q⟩
  · have hj : (j + (its.toArray.size : Int)).toNat = n := by
      rw [seqIndex_neg (by omega) h4] at h1
      rw [List.size_toArray, ← hl]
      exact Option.some.inj h1
    exact wpAny_getItem_list_neg pl.isList (by omega) (by rw [List.size_toArray] <;> omega) (by omega) (by rw [hj]; simpa using ew) ⟨v, H, I, rw', q⟩
end
section
variable {K : PySem.W.Frag} {env : List Sl} {b : Option Addr} {ms : Ms} {te ta tb : TE} {P Pa Pb : PyData → Prop} {tt : TT} {Pt : Bool → Prop} {D : Ends} {tu tw tz : TS} {G0 H0 Gs G H : Hp} {σ : L2.St}
theorem et_T {c : Bool} (h : EvP K env b ms te (Is (.bool c))) : EtP K env b ms (tTest te) (Is c) := et_B h
theorem et_TP (h : EvP K env b ms te (fun d => ∃ c, d = .bool c ∧ Pt c)) : EtP K env b ms (tTest te) Pt := et_BP h
/-- a list of ours is changed no more -/
theorem At.freeze {i n : Nat} {l : Addr} {ds : List PyData} (A : At K env b ms G0 H0 Gs σ G H) (hi : env[i]? = some (.a l)) (hm : ms[n]? = some (l, ds.map .d)) : ∃ G2, At K (env.set i (.d (.list ds))) b (ms.eraseIdx n) G0 H0 Gs σ G2 H := by
  have mem := List.mem_of_getElem? hm
  obtain ⟨gl, nb, xs, hl, el⟩ := A.j.mu _ mem
  have up : Same G (upd G l (.lst xs)) := fun c o z => by rw [upd_ne (ne_of_none z gl)]; exact z
  have go : ∀ (ds : List PyData) (xs : List V), EnvOk K G (xs.map some) (ds.map .d) → DpAll K G xs ds := by
    intro ds
    induction ds with
    | nil => intro xs h; cases xs with
      | nil => exact .nil
      | cons x xs => have := h.1; simp at this
    | cons d ds ih => intro xs h; cases xs with
      | nil => have := h.1; simp at this
      | cons x xs =>
        obtain ⟨s, e1, v, e2, e3⟩ := h.2 0 (.d d) rfl
        have e4 : x = v := by simp at e1; rw [e2] at e1; exact Option.some.inj e1
        subst e4
        exact .cons e3 (ih xs ⟨by have := h.1; simpa using this, fun i e he => by
          obtain ⟨s, f1, f2⟩ := h.2 (i + 1) e (by simpa using he)
          exact ⟨s, by simpa using f1, f2⟩⟩)
  have hn : n < ms.length := (List.getElem?_eq_some_iff.mp hm).1
  have sub : ∀ p ∈ ms.eraseIdx n, p ∈ ms ∧ p.1 ≠ l := by
    intro p hp
    have hp1 := List.mem_of_mem_eraseIdx hp
    refine ⟨hp1, fun e => ?_⟩
    obtain ⟨j, hj⟩ := List.mem_iff_getElem?.mp hp
    have h2 : (ms.map (·.1))[n]? = some l := by rw [List.getElem?_map, hm]; rfl
    have key : ∃ m, m ≠ n ∧ ms[m]? = some p := by
      rw [List.getElem?_eraseIdx] at hj
      by_cases q : j < n
      · rw [if_pos q] at hj; exact ⟨j, by omega, hj⟩
      · rw [if_neg q] at hj; exact ⟨j + 1, by omega, hj⟩
    obtain ⟨m, hmn, hm2⟩ := key
    have h1 : (ms.map (·.1))[m]? = some l := by rw [List.getElem?_map, hm2]; exact congrArg some e
    obtain ⟨k1, k2⟩ := List.getElem?_eq_some_iff.mp h1
    obtain ⟨k3, k4⟩ := List.getElem?_eq_some_iff.mp h2
    exact hmn ((List.getElem_inj A.nd).mp (k2.trans k4.symm))
  have hσ := A.env.addr hi
  have eset : σ.set i (some (.ref l)) = σ := by
    apply List.ext_getElem?
    intro j
    by_cases q : i = j
    · subst q
      rw [hσ, List.getElem?_set_self (List.getElem?_eq_some_iff.mp hσ).1]
    · rw [List.getElem?_set_ne q]
  refine ⟨upd G l (.lst xs), ?_, A.gr.still hl (A.own _ mem) gl, A.sg.trans up, ⟨fun x ex => ?_, fun p hp => ?_⟩, fun p hp => A.own p (sub p hp).1, ?_⟩
  · have h := (A.env.mono up).set (i := i) (v := .ref l) (slot_d (.lst (SqL.of upd_same) (dpa_mono up _ _ (go ds xs el))))
    rw [eset] at h
    exact h
  · obtain ⟨b1, z0, z1, z2, lb, cs, b2, b3, b4⟩ := A.j.bag x ex
    exact ⟨by rw [upd_ne (show x ≠ l from fun q => nb (by rw [← q]; exact ex))]; exact b1, z0, z1, z2, lb, cs, b2, up.seq b3, b4⟩
  · obtain ⟨p1, p2⟩ := sub p hp
    obtain ⟨m1, m2, ys, m3, m4⟩ := A.j.mu p p1
    exact ⟨by rw [upd_ne p2]; exact m1, m2, ys, m3, m4.mono up⟩
  · exact A.nd.sublist ((List.eraseIdx_sublist ms n).map _)
/-- len of a list of ours -/
theorem ev_lenM {i n : Nat} {l : Addr} {es : List Sl} (hi : env[i]? = some (.a l)) (hm : ms[n]? = some (l, es)) : EvP K env b ms (tCB (rLen K) (tCons (tVar i) tNil)) (Is (.int es.length)) := fun σ G H e s j Q k => by
  obtain ⟨gl, nb, xs, hl, el⟩ := j.mu _ (List.mem_of_getElem? hm)
  have xl : xs.length = es.length := by have := el.1; simpa using this
  exact ⟨.ref l, e.addr hi, l, xs, rfl, .inl (SqL.of hl), by rw [xl]; exact k _ _ G H (Grow.refl s) j (.int _) rfl⟩
/-- at a def's entry -/
theorem at_pure {vs : List V} {ds : List PyData} {N : List Str} (s : Same G H) (da : DpAll K G vs ds) (hn : vs.length ≤ N.length) : At K (ds.map .d ++ List.replicate (N.length - ds.length) .un) none [] G H G (start N vs) G H := by
  refine ⟨?_, Grow.refl s, Same.refl _, ⟨fun x e => (nomatch e), fun p hp => (nomatch hp)⟩, fun p hp => (nomatch hp), List.nodup_nil⟩
  unfold L2.start
  rw [dpa_len da]
  refine env_app (env_data da) ⟨by simp, fun i e he => ?_⟩
  rw [List.getElem?_replicate] at he ⊢
  split at he
  · cases he
    exact ⟨none, if_pos (by assumption), trivial⟩
  · cases he
theorem at_bag {x : Addr} {vs : List V} {ds : List PyData} {N : List Str} (s : Same G H) (bg : BagAt K x G H) (da : DpAll K G vs ds) (hn : vs.length + 1 ≤ N.length) : At K (.a x :: (ds.map .d ++ List.replicate (N.length - 1 - ds.length) .un)) (some x) [] G H G (start N (.ref x :: vs)) G H := by
  refine ⟨?_, Grow.refl s, Same.refl _, ⟨fun y e => by cases e; exact bg, fun p hp => (nomatch hp)⟩, fun p hp => (nomatch hp), List.nodup_nil⟩
  have e : start N (.ref x :: vs) = some (.ref x) :: (vs.map some ++ List.replicate (N.length - 1 - ds.length) none) := by
    unfold L2.start
    rw [List.map_cons, List.cons_append, List.length_cons, dpa_len da]
    congr 3
    omega
  rw [e]
  refine .cons rfl (env_app (env_data da) ⟨by simp, fun i e he => ?_⟩)
  rw [List.getElem?_replicate] at he ⊢
  split at he
  · cases he
    exact ⟨none, if_pos (by assumption), trivial⟩
  · cases he
end

theorem dc_mk {K : PySem.W.Frag} {h : Heap} {mg : Str → Option Value} {x : Str} {st : Stmt} {ps : List Str} {f : Addr} {oc : Value} {od an : Option Addr} {osl : Array (Option Value)} {kV dc pm cd ct : Value}
    (b : ∀ (kV doc pm : Value) (an : Option Addr) (cdv ct : Value) (us : List Value), us.length = ps.length → bindArgs (PySem.W.fnOf x x (defArgs st) (defBody st) (defScope st) .none kV doc pm an cdv ct) ⟨us, []⟩ = pure (ps.zip us))
    (X : K.In h) (G : h.Ns mainGlobals mg)
    (a : PySem.W.nsIn K mainGlobals x = some (some (.ref f)))
    (l : K.lookup f = some ⟨oc, od, .func (PySem.W.fnOf x x (defArgs st) (defBody st) (defScope st) .none kV dc pm an cd ct), osl⟩)
    (c : PySem.W.codeIn K cd x = true) (k : PySem.W.keepIn K (.ref f) = true) :
    Dc K mg x st ps f (PySem.W.fnOf x x (defArgs st) (defBody st) (defScope st) .none kV dc pm an cd ct) :=
  ⟨fun_mk l c k, PySem.W.mg_of X G a, (fun_mk l c k).binds b⟩
end Dl
namespace Dl
open PySem PySem.Spec PyProof.Rows L2
/-- a tuple, k times over -/
def rRepA (K : PySem.W.Frag) : R2 := fun x y H Q => ∃ l k xs, x = .ref l ∧ y = .int k ∧ SqT K H l xs ∧ xs ≠ [] ∧ 1 ≤ k ∧ k ≤ 1000 ∧ xs.length ≤ 1000 ∧ (k = 1 → Q (.ref l) H) ∧ (2 ≤ k → ∀ p, H p = none → Q (.ref p) (upd H p (.tup (List.replicate k.toNat xs).flatten)))
open AutoSeq1 (wpAny_loadPart') in
theorem tuple_mul1 (l : Addr) (items : Array Value) (n : Nat) (dd : Option Addr) (sl : Array (Option Value)) (u : Tok) (he : items.isEmpty = false) :
    Meets (Builtin.«tuple.__mul__» ⟨[.ref l, .int 1 u], []⟩) (fun _ R s => s.heap.get? l = some { cls := .type "tuple", dict := dd, data := .seq items n, slots := sl } ∧ R (.ok (.ret (Value.ref l))) s) :=
  .of_wp fun prog w A R s h => by
    obtain ⟨hp, g, d, tk, os⟩ := s
    obtain ⟨hl, h⟩ := h
    have f1 := AutoSeq1.idx_int
    wp_walk using wpAny_loadPart' hl
    repeat (first
      | (refine wpAny_ite_false (decide_eq_false (by decide)) ?_; wp_walk using wpAny_loadPart' hl)
      | (refine wpAny_ite_true (decide_eq_true (by rw [he]; rfl)) ?_; wp_walk using wpAny_loadPart' hl))
    all_goals exact ⟨_, rfl, h⟩
section
variable {X : Cx}
theorem op_repA : OpR X (binaryOp .Mult) (rRepA X.K) := by
  intro pins s σ H x y v u Q I rx ry h
  obtain ⟨l, k, xs, rfl, rfl, hT, ne, k1, k2, hz, q1, q2⟩ := h
  by_cases hk : k = 1
  · subst hk
    cases rx
    obtain ⟨t, rfl⟩ := ry
    obtain ⟨its, r, ⟨⟨cls, dd, data, sl⟩, ho, hc, n, hd⟩, hs⟩ := I.tuple hT
    simp only at hc hd
    subst hc hd
    have hi : its.toArray.isEmpty = false := by
      cases its with
      | nil => cases r; exact absurd rfl ne
      | cons a b => rfl
    refine wpAny_binaryOp_repeat_ref (T := "tuple") (U := "int") (by decide) ⟨_, ho, rfl⟩ (fun s' => typeIs_int s' 1 t) noFill_tuple_mul F.fills_int_mul F.slot_int_rmul repeat_tuple F.slot_int_index.lookup
      (call_meets F.slot_int_rmul (typeIs_int s 1 t) F.entry_int_rmul (F.args_int_rmul_2 _ _) (int_rmul_tuple 1 t l its.toArray n dd sl)
        ⟨ho, rfl, ⟨_, ho, rfl⟩, call_meets F.slot_tuple_mul ⟨_, ho, rfl⟩ F.entry_tuple_mul (F.args_tuple_mul_2 _ _) (tuple_mul1 l its.toArray n dd sl t hi) ⟨ho, ?_⟩⟩)
    exact ⟨.ref l, H, I, rfl, q1 rfl⟩
  · exact op_repT pins s σ H _ _ v u Q I rx ry ⟨l, k, xs, rfl, rfl, hT, ne, by omega, k2, hz, q2 (by omega)⟩
end
end Dl
namespace Dl
open PySem PySem.Spec PyProof.Rows L2
theorem seq_via {t u : TS} {D : Ends} {σ : L2.St} {H : Hp} (M : L2.St → Hp → Prop) (h1 : ∀ N : L2.St → Hp → Prop, (∀ σ' H', M σ' H' → N σ' H') → t { D with nx := N } σ H) (h2 : ∀ σ' H', M σ' H' → u D σ' H') : tSeq t u D σ H := h1 _ h2
/-- a drawn number is asked of the bag: at least 1 -/
def takeDom (ds : List PyData) : Prop := ∃ n : Int, ds = [.int n] ∧ 0 < n ∧ n < 2 ^ 60
def takeR (ds : List PyData) (d : PyData) : Prop := ∃ n r : Int, ds = [.int n] ∧ d = .int r ∧ 0 ≤ r ∧ r < n
theorem fin_draw {K : PySem.W.Frag} {b l : Addr} {G H H' : Hp} {Q : VK} {cs : List Int} {n z0 z1 z2 r : Int} (sG : Same G H) (gb : G b = none) (sl : SqL K G l (cs.map V.int)) (hc : ∀ c ∈ cs, 0 ≤ c) (hcl : cs.length ≤ 1000)
    (k : ∀ (v : V) (d : PyData) (G' H' : Hp), Grow (Mb (some b)) G H G' H' → BagAt K b G' H' → Dp K G' v d → takeR [.int n] d → Q v H')
    (hb : H' b = some (.lst [.int z0, .int z1, .int z2, .ref l])) (h0 : 0 ≤ z0) (h1 : 0 ≤ z1) (h1' : z1 < 2147483647) (h2 : 0 ≤ z2)
    (fr : ∀ c o, H c = some o → c ≠ b → H' c = some o) (dm : ∀ c, H' c = none → H c = none) (r0 : 0 ≤ r) (r1 : r < n) : Q (.int r) H' :=
  k (.int r) (.int r) G H' ⟨Same.refl _, fun c o e => fr c o (sG c o e) (ne_of_none e gb), dm, fun c o e m => fr c o e fun z => m (by rw [z]), fun c o e => .inl e⟩ ⟨gb, z0, z1, z2, l, cs, hb, sl, h0, h1, h1', h2, hc, hcl⟩ (.int r) ⟨n, r, rfl, rfl, r0, r1⟩
end Dl
namespace Dl
open PySem PySem.Spec PyProof.Rows L2
theorem first_cell {cs : List Int} (hc : ∀ c ∈ cs, 0 ≤ c) (lo hi : Option Int) : ∃ c : Int, 0 ≤ c ∧ atI (cutV (cs.map V.int) lo hi ++ [V.int 0]) 0 = some (V.int c) := by
  have e : cutV (cs.map V.int) lo hi = ((cs.drop (HT.sIx cs.length 0 lo)).take (HT.sIx cs.length cs.length hi - HT.sIx cs.length 0 lo)).map V.int := by
    unfold cutV
    rw [List.length_map, List.map_take, List.map_drop]
  rw [e]
  cases q : (cs.drop (HT.sIx cs.length 0 lo)).take (HT.sIx cs.length cs.length hi - HT.sIx cs.length 0 lo) with
  | nil => exact ⟨0, by omega, rfl⟩
  | cons c r =>
    refine ⟨c, hc c ?_, ?_⟩
    · have : c ∈ (cs.drop (HT.sIx cs.length 0 lo)).take (HT.sIx cs.length cs.length hi - HT.sIx cs.length 0 lo) := by rw [q]; exact List.mem_cons_self
      exact List.mem_of_mem_drop (List.mem_of_mem_take this)
    · exact atI_nat (j := 0) rfl
theorem cut_len1001 {cs : List Int} (h : cs.length ≤ 1000) (lo hi : Option Int) : (cutV (cs.map V.int) lo hi).length + 1 ≤ sizeLine := by
  have := cutV_length (cs.map V.int) lo hi
  rw [List.length_map] at this
  exact Nat.le_trans (by omega : _ ≤ 1001) (by decide)
end Dl
namespace Dl
open PySem PySem.Spec PyProof.Rows L2
/-- new things, all else as it was -/
structure Tmp (H H' : Hp) : Prop where
  up : Same H H'
  dn : ∀ c, H' c = none → H c = none
theorem Tmp.refl (H : Hp) : Tmp H H := ⟨Same.refl _, fun _ e => e⟩
theorem Tmp.new {H H' : Hp} {p : Addr} {o : HO} (t : Tmp H H') (h : H' p = none) : Tmp H (upd H' p o) := ⟨fun c u e => by rw [upd_ne (ne_of_none (t.up c u e) h)]; exact t.up c u e, fun c e => by
  by_cases q : c = p
  · subst q; exact t.dn _ h
  · rw [upd_ne q] at e; exact t.dn c e⟩
theorem fresh2 {H : Hp} {p q : Addr} {o : HO} (h : upd H p o q = none) : q ≠ p ∧ H q = none := by
  by_cases e : q = p
  · subst e; rw [upd_same] at h; cases h
  · rw [upd_ne e] at h; exact ⟨e, h⟩
/-- but for b all is as it was, or new -/
structure But (b : Addr) (H H' : Hp) : Prop where
  up : ∀ c o, H c = some o → c ≠ b → H' c = some o
  dn : ∀ c, H' c = none → H c = none
theorem But.tmp {b : Addr} {H H1 H2 : Hp} (x : But b H H1) (t : Tmp H1 H2) : But b H H2 := ⟨fun c o e n => t.up c o (x.up c o e n), fun c e => x.dn c (t.dn c e)⟩
theorem But.refl (b : Addr) (H : Hp) : But b H H := ⟨fun _ _ e _ => e, fun _ e => e⟩
theorem But.put {b : Addr} {H H1 : Hp} {o u : HO} (x : But b H H1) (hb : H1 b = some u) : But b H (upd H1 b o) := ⟨fun c v e n => by rw [upd_ne n]; exact x.up c v e n, fun c e => by
  by_cases q : c = b
  · subst q; rw [upd_same] at e; cases e
  · rw [upd_ne q] at e; exact x.dn c e⟩
theorem pow18 : CPow 10 18 := ⟨by decide, by decide, by decide⟩
end Dl
namespace Dl
open PySem PySem.Spec PyProof.Rows L2
/-- bag[2] += 1 -/
theorem q_augBag {K : PySem.W.Frag} {σ : L2.St} {H : Hp} {D : Ends} {tz : TS} {b l : Addr} {z0 z1 z2 : Int} (hs : σ[0]? = some (some (.ref b))) (hb : H b = some (.lst [.int z0, .int z1, .int z2, .ref l]))
    (k : ∀ H2, H2 = upd H b (.lst [.int z0, .int z1, .int (z2 + 1), .ref l]) → tz D σ H2) : tSeq (tAugS (tVar 0) (tC (.int 2)) (tC (.int 1)) (rIxL K) (ipI fun i j => i + j) rSetL) tz D σ H :=
  ⟨_, hs, b, _, 2, .int z2, rfl, rfl, SqL.of hb, rfl, z2, 1, rfl, rfl, b, _, 2, 2, rfl, rfl, hb, rfl, k _ rfl⟩
theorem q_set {σ : L2.St} {H : Hp} {D : Ends} {tz : TS} {te : TE} {i : Nat} (h : te σ H fun v H' => tz D (σ.set i (some v)) H') : tSeq (tAsg te (gName i)) tz D σ H := h
end Dl
set_option Elab.async false
set_option linter.all false
set_option maxRecDepth 100000
set_option maxHeartbeats 4000000
namespace Dl
open PySem PySem.Spec PyProof.Rows L2

section
variable {K : PySem.W.Frag} {env : List Sl} {b : Option Addr} {ms : Ms} {te ta tb : TE} {P Pa Pb : PyData → Prop} {tt : TT} {Pt : Bool → Prop}
theorem rv_eqS {x y : Str} : RvP K b ms rEq (.str x) (.str y) (Is (.bool (decide (x = y)))) := fun v w G H p1 p2 s jb Q k => by
  cases p1; cases p2
  have e : decide (V.str x = V.str y) = decide (x = y) := by by_cases h : x = y <;> simp [h]
  refine ⟨rfl, ?_⟩
  rw [e]
  exact k _ _ G H (Grow.refl s) jb (.bl _) rfl
theorem ev_eqS {x y : Str} (ha : EvP K env b ms ta (Is (.str x))) (hb : EvP K env b ms tb (Is (.str y))) : EvP K env b ms (tOp rEq ta tb) (Is (.bool (decide (x = y)))) :=
  ev_op ha hb fun d1 d2 e1 e2 => by rw [e1, e2]; exact rv_eqS
/-- drawn numbers in an operation -/
theorem ev_I0x {g : Int → Int → Int} {C1 C2 : Int → Prop} (ha : EvP K env b ms ta (fun d => ∃ i, d = .int i ∧ C1 i)) (hb : EvP K env b ms tb (fun d => ∃ i, d = .int i ∧ C2 i)) :
    EvP K env b ms (tOp (rI0 fun i j => .int (g i j)) ta tb) (fun d => ∃ i j, d = .int (g i j) ∧ C1 i ∧ C2 j) :=
  ev_op ha hb fun d1 d2 ⟨i, e1, c1⟩ ⟨j, e2, c2⟩ => by
    rw [e1, e2]
    exact fun x y G H p1 p2 s jb Q k => rv_I0 x y G H p1 p2 s jb Q fun v d G2 H2 g2 j2 p q => k v d G2 H2 g2 j2 p ⟨i, j, q, c1, c2⟩
theorem ev_ex1 {i : Int} (h : EvP K env b ms te (Is (.int i))) : EvP K env b ms te (fun d => ∃ z, d = .int z ∧ z = i) := ev_imp h fun d e => ⟨i, e, rfl⟩
theorem ev_eqIx {C1 C2 : Int → Prop} (ha : EvP K env b ms ta (fun d => ∃ i, d = .int i ∧ C1 i)) (hb : EvP K env b ms tb (fun d => ∃ i, d = .int i ∧ C2 i)) :
    EvP K env b ms (tOp rEq ta tb) (fun d => ∃ c, d = .bool c ∧ True) :=
  ev_op ha hb fun d1 d2 ⟨i, e1, c1⟩ ⟨j, e2, c2⟩ => by
    rw [e1, e2]
    exact fun x y G H p1 p2 s jb Q k => rv_eqI x y G H p1 p2 s jb Q fun v d G2 H2 g2 j2 p q => k v d G2 H2 g2 j2 p ⟨_, q, trivial⟩
/-- an item at a drawn place -/
theorem ev_ixLx {l : List PyData} {C : Int → Prop} (ha : EvP K env b ms ta (Is (.list l))) (hb : EvP K env b ms tb (fun d => ∃ i, d = .int i ∧ C i)) (hC : ∀ i, C i → 0 ≤ i ∧ i < l.length) :
    EvP K env b ms (tOp (rIxL K) ta tb) (fun d => d ∈ l) :=
  ev_op ha hb fun d1 d2 e1 ⟨i, e2, c⟩ => by
    obtain ⟨h0, h1⟩ := hC i c
    have hi : i.toNat < l.length := by omega
    have at1 : atI l i = some l[i.toNat] := by
      have := atI_nat (xs := l) (j := i.toNat) (v := l[i.toNat]) (List.getElem?_eq_getElem hi)
      rw [show ((i.toNat : Nat) : Int) = i from by omega] at this
      exact this
    rw [e1, e2]
    exact fun x y G H p1 p2 s jb Q k => rv_ixL at1 x y G H p1 p2 s jb Q fun v d G2 H2 g2 j2 p q => k v d G2 H2 g2 j2 p (by rw [q]; exact List.getElem_mem hi)
end

/-! ### data that are shown in few signs -/
structure Sm (d : PyData) (w h : Nat) : Prop where
  can : d.canLay0 = true
  dep : d.depth ≤ h
  wei : d.weight ≤ w
  sho : d.leavesShort 202 = true
  shw : d.showable = true
structure SmA (l : List PyData) (w h : Nat) : Prop where
  can : PyData.canLayAll0 l = true
  dep : PyData.depthAll l ≤ h
  wei : PyData.weightAll l ≤ w
  sho : PyData.leavesShortAll 202 l = true
  shw : PyData.showableAll l = true
theorem sm_int {i : Int} {h : Nat} (hi : i.natAbs < 2 ^ 200) : Sm (.int i) 200 h := by
  have l : i.natAbs.log2 < 200 := by
    by_cases z : i.natAbs = 0
    · rw [z]; decide
    · exact (Nat.log2_lt z).mpr hi
  refine ⟨by simp only [PyData.canLay0], by simp only [PyData.depth]; omega, ?_, ?_, ?_⟩
  · simp only [PyData.weight]; split <;> omega
  · have h1 := int_text_length_le (a := i) (k := 200) (by decide) l
    simp only [PyData.leavesShort, decide_eq_true_eq]
    have e : (PyData.shown (.int i)).length = (Str.ofString (toString i)).length := by simp only [PyData.shown]
    rw [e]
    rw [PySem.ofString_length]
    omega
  · simp only [PyData.showable, decide_eq_true_eq]; omega
theorem sm_bool {c : Bool} {h : Nat} : Sm (.bool c) 0 h := ⟨by simp only [PyData.canLay0], by simp only [PyData.depth]; omega, by simp only [PyData.weight]; omega, by simp only [PyData.leavesShort], by simp only [PyData.showable]⟩
theorem sm_none {h : Nat} : Sm .none 0 h := ⟨by simp only [PyData.canLay0], by simp only [PyData.depth]; omega, by simp only [PyData.weight]; omega, by simp only [PyData.leavesShort], by simp only [PyData.showable]⟩
theorem Sm.le {d : PyData} {w w' h h' : Nat} (s : Sm d w h) (hw : w ≤ w') (hh : h ≤ h') : Sm d w' h' := ⟨s.can, Nat.le_trans s.dep hh, Nat.le_trans s.wei hw, s.sho, s.shw⟩
theorem SmA.le {d : List PyData} {w w' h h' : Nat} (s : SmA d w h) (hw : w ≤ w') (hh : h ≤ h') : SmA d w' h' := ⟨s.can, Nat.le_trans s.dep hh, Nat.le_trans s.wei hw, s.sho, s.shw⟩
theorem sma_nil {h : Nat} : SmA [] 0 h := ⟨by simp only [PyData.canLayAll0], by simp only [PyData.depthAll]; omega, by simp only [PyData.weightAll]; omega, by simp only [PyData.leavesShortAll], by simp only [PyData.showableAll]⟩
theorem sma_cons {d : PyData} {l : List PyData} {w w2 h : Nat} (a : Sm d w h) (b : SmA l w2 h) : SmA (d :: l) (w + 1 + w2) h :=
  ⟨by simp only [PyData.canLayAll0, a.can, b.can, Bool.and_self], by simp only [PyData.depthAll]; have := a.dep; have := b.dep; omega, by simp only [PyData.weightAll]; have := a.wei; have := b.wei; omega, by simp only [PyData.leavesShortAll, a.sho, b.sho, Bool.and_self], by simp only [PyData.showableAll, a.shw, b.shw, Bool.and_self]⟩
theorem sma_app {l m : List PyData} {w w2 h : Nat} (a : SmA l w h) (b : SmA m w2 h) : SmA (l ++ m) (w + w2) h := by
  induction l generalizing w with
  | nil => exact b.le (by omega) (Nat.le_refl _)
  | cons x l ih =>
    obtain ⟨c, d, e, f, g⟩ := a
    simp only [PyData.canLayAll0, PyData.depthAll, PyData.weightAll, PyData.leavesShortAll, PyData.showableAll, Bool.and_eq_true] at c d e f g
    have h1 := ih (w := PyData.weightAll l) ⟨c.2, by omega, Nat.le_refl _, f.2, g.2⟩
    exact (sma_cons (w := x.weight) ⟨c.1, by omega, Nat.le_refl _, f.1, g.1⟩ h1).le (by omega) (Nat.le_refl _)
theorem sma_all {l : List PyData} {w h : Nat} (a : ∀ x ∈ l, Sm x w h) : SmA l ((w + 1) * l.length) h := by
  induction l with
  | nil => exact sma_nil
  | cons x l ih =>
    have h1 := sma_cons (a x (by simp)) (ih fun y hy => a y (by simp [hy]))
    refine h1.le ?_ (Nat.le_refl _)
    rw [List.length_cons, Nat.mul_add]; omega
theorem sm_list {l : List PyData} {w h : Nat} (a : SmA l w h) : Sm (.list l) w (h + 1) :=
  ⟨by simp only [PyData.canLay0]; exact a.can, by simp only [PyData.depth]; have := a.dep; omega, by simp only [PyData.weight]; exact a.wei, by simp only [PyData.leavesShort]; exact a.sho, by simp only [PyData.showable]; exact a.shw⟩
theorem sm_tup {l : List PyData} {w h : Nat} (a : SmA l w h) : Sm (.tuple l) w (h + 1) :=
  ⟨by simp only [PyData.canLay0]; exact a.can, by simp only [PyData.depth]; have := a.dep; omega, by simp only [PyData.weight]; exact a.wei, by simp only [PyData.leavesShort]; exact a.sho, by simp only [PyData.showable]; exact a.shw⟩
theorem Sm.shown {d : PyData} {w h : Nat} (s : Sm d w h) (hw : w ≤ 80000) : d.shown.length ≤ sizeLine := by
  have h1 := PyData.shown_le 202 (by decide) d s.sho
  have h2 : (202 + 2) * d.weight ≤ 204 * 80000 := Nat.mul_le_mul (Nat.le_refl _) (Nat.le_trans s.wei hw)
  rw [sizeLine_eq]
  omega
theorem Sm.shaped {d : PyData} {w h : Nat} (s : Sm d w h) (hh : h ≤ 60) : SeqAt.shaped d = true := by
  unfold SeqAt.shaped
  rw [s.can, decide_eq_true (by have := s.dep; omega)]; rfl

/-- two equal lists of data, compared and shown -/
def spAlike (K : PySem.W.Frag) : Sp := fun vs H Q _ => vs.length = 2 ∧ ∃ (l : List PyData) (G : Hp), Same G H ∧ DpAll K G vs [.list l, .list l] ∧ SmA l 80000 59 ∧ ∀ G' H', Grow No G H G' H' → Q (.bl true) H'
theorem alike_read {K : PySem.W.Frag} {H : Hp} {vs : List V} {Q : VK} {E : XK} (h : spAlike K vs H Q E) {N : List Str} (hN : N.length = 2) :
    tRet (tAndV (tOp (rEqD K) (tVar 0) (tVar 1)) (tOp rEq (tCB (rRepr K) (tCons (tVar 0) tNil)) (tCB (rRepr K) (tCons (tVar 1) tNil)))) { nx := fun _ H' => Q .non H', rt := Q } (L2.start N vs) H := by
  obtain ⟨hl, l, G, sG, da, sm, k⟩ := h
  have A := at_pure (N := N) sG da (by omega)
  rw [hN] at A
  have S := sm_list sm
  have rr : RcP K none [] (rRepr K) [.list l] (Is (.str (PyData.list l).shown)) :=
    rc_repr (fun v G p => by cases p; exact ⟨_, rfl⟩) S.shw (PyData.hasDict_of_canLay _ S.can) S.dep (S.shown (Nat.le_refl _))
  refine s_ret A (ev_andV (ev_eqD (ev_var rfl) (ev_var rfl) (S.shaped (Nat.le_refl _)) (S.shaped (Nat.le_refl _))) fun _ => ev_eqS (ev_cb (ea_cons (ev_var rfl) ea_nil) rr) (ev_cb (ea_cons (ev_var rfl) ea_nil) rr)) ?_
  intro v d G' H' g j p e
  have e2 : PyData.eqv (.list l) (.list l) = true := SeqAt.eqv_refl _ S.can
  rw [e2, decide_eq_true rfl] at e
  subst e
  cases p
  exact k G' H' (g.wide fun b z => nomatch z)

/-! ### fractions -/
def gI (n d : Int) : Int := ((Nat.gcd n.natAbs d.natAbs : Nat) : Int)
def frN (n d : Int) : Int := (if d < 0 then -n else n) / gI n d
def frD (n d : Int) : Int := (if d < 0 then -d else d) / gI n d
def fr (n d : Int) : PyData := .tuple [.int (frN n d), .int (frD n d)]
theorem gI_pos {n d : Int} (h : d ≠ 0) : 0 < gI n d := by
  unfold gI
  have := Nat.gcd_pos_of_pos_right n.natAbs (show 0 < d.natAbs by omega)
  omega
theorem gI_le {n d : Int} (h : d ≠ 0) : (gI n d).natAbs ≤ d.natAbs := by
  unfold gI
  have := Nat.gcd_le_right n.natAbs (show 0 < d.natAbs by omega)
  omega
theorem gI_dvd1 (n d : Int) : gI n d ∣ n := by
  unfold gI
  exact Int.ofNat_dvd_left.mpr (Nat.gcd_dvd_left _ _)
theorem gI_dvd2 (n d : Int) : gI n d ∣ d := by
  unfold gI
  exact Int.ofNat_dvd_left.mpr (Nat.gcd_dvd_right _ _)
theorem frD_pos {n d : Int} (h : d ≠ 0) : 0 < frD n d := by
  unfold frD
  have g := gI_pos (n := n) h
  obtain ⟨c, hc⟩ := gI_dvd2 n d
  split
  · refine Int.ediv_pos_of_pos_of_dvd (by omega) (by omega) ?_
    exact Int.dvd_neg.mpr (gI_dvd2 n d)
  · exact Int.ediv_pos_of_pos_of_dvd (by omega) (by omega) (gI_dvd2 n d)
theorem fr_mulN (n d : Int) (h : d ≠ 0) : frN n d * gI n d = (if d < 0 then -n else n) := by
  unfold frN
  split
  · exact Int.ediv_mul_cancel (Int.dvd_neg.mpr (gI_dvd1 n d))
  · exact Int.ediv_mul_cancel (gI_dvd1 n d)
theorem fr_mulD (n d : Int) (h : d ≠ 0) : frD n d * gI n d = (if d < 0 then -d else d) := by
  unfold frD
  split
  · exact Int.ediv_mul_cancel (Int.dvd_neg.mpr (gI_dvd2 n d))
  · exact Int.ediv_mul_cancel (gI_dvd2 n d)
theorem fr_cop (n d : Int) (h : d ≠ 0) : Nat.gcd (frN n d).natAbs (frD n d).natAbs = 1 := by
  have g := gI_pos (n := n) h
  have e1 := congrArg Int.natAbs (fr_mulN n d h)
  have e2 := congrArg Int.natAbs (fr_mulD n d h)
  rw [Int.natAbs_mul] at e1 e2
  have a1 : (if d < 0 then -n else n).natAbs = n.natAbs := by split <;> omega
  have a2 : (if d < 0 then -d else d).natAbs = d.natAbs := by split <;> omega
  rw [a1] at e1
  rw [a2] at e2
  have gg : (gI n d).natAbs = Nat.gcd n.natAbs d.natAbs := by unfold gI; omega
  have e3 : Nat.gcd ((frN n d).natAbs * (gI n d).natAbs) ((frD n d).natAbs * (gI n d).natAbs) = (gI n d).natAbs := by rw [e1, e2, gg]
  rw [Nat.gcd_mul_right] at e3
  have gp : 0 < (gI n d).natAbs := by omega
  exact Nat.eq_of_mul_eq_mul_right gp (by omega)
/-- lowest terms are told by what they stand for -/
theorem low_eq {a b c d : Int} (hb : 0 < b) (hd : 0 < d) (h1 : Nat.gcd a.natAbs b.natAbs = 1) (h2 : Nat.gcd c.natAbs d.natAbs = 1) (e : a * d = c * b) : a = c ∧ b = d := by
  have en := congrArg Int.natAbs e
  rw [Int.natAbs_mul, Int.natAbs_mul] at en
  have d1 : b.natAbs ∣ d.natAbs := by
    have : b.natAbs ∣ a.natAbs * d.natAbs := by rw [en]; exact Nat.dvd_mul_left _ _
    exact Nat.Coprime.dvd_of_dvd_mul_left (Nat.Coprime.symm h1) this
  have d2 : d.natAbs ∣ b.natAbs := by
    have : d.natAbs ∣ c.natAbs * b.natAbs := by rw [← en]; exact Nat.dvd_mul_left _ _
    exact Nat.Coprime.dvd_of_dvd_mul_left (Nat.Coprime.symm h2) this
  have bd : b.natAbs = d.natAbs := Nat.dvd_antisymm d1 d2
  have bd2 : b = d := by omega
  refine ⟨?_, bd2⟩
  rw [← bd2] at e
  exact Int.eq_of_mul_eq_mul_right (by omega) e
theorem fr_cross (n d : Int) (h : d ≠ 0) : frN n d * d = n * frD n d := by
  have e1 := fr_mulN n d h
  have e2 := fr_mulD n d h
  have g := gI_pos (n := n) h
  have key : frN n d * d * gI n d = n * frD n d * gI n d := by
    rw [Int.mul_right_comm, e1, Int.mul_assoc, e2]
    split
    · rw [Int.neg_mul, Int.mul_neg]
    · rfl
  exact Int.eq_of_mul_eq_mul_right (by omega) key
theorem fr_eq {n d m e : Int} (hd : d ≠ 0) (he : e ≠ 0) (h : n * e = m * d) : fr n d = fr m e := by
  have x : frN n d * frD m e = frN m e * frD n d := by
    have h1 := fr_cross n d hd
    have h2 := fr_cross m e he
    have key : frN n d * frD m e * (d * e) = frN m e * frD n d * (d * e) := by
      calc frN n d * frD m e * (d * e) = (frN n d * d) * (frD m e * e) := by
            rw [Int.mul_assoc, Int.mul_assoc, Int.mul_left_comm (frD m e)]
        _ = (n * frD n d) * (frD m e * e) := by rw [h1]
        _ = (frD n d * frD m e) * (n * e) := by
            rw [Int.mul_comm n, Int.mul_assoc, Int.mul_assoc, Int.mul_left_comm n]
        _ = (frD n d * frD m e) * (m * d) := by rw [h]
        _ = (m * frD m e) * (frD n d * d) := by
            rw [Int.mul_comm m (frD m e), Int.mul_assoc, Int.mul_assoc, Int.mul_left_comm (frD n d), Int.mul_left_comm (frD n d)]
        _ = (frN m e * e) * (frD n d * d) := by rw [← h2]
        _ = frN m e * frD n d * (d * e) := by
            rw [Int.mul_assoc, Int.mul_assoc, Int.mul_comm d e, Int.mul_left_comm e]
    exact Int.eq_of_mul_eq_mul_right (Int.mul_ne_zero hd he) key
  obtain ⟨e1, e2⟩ := low_eq (frD_pos hd) (frD_pos he) (fr_cop n d hd) (fr_cop m e he) x
  unfold fr
  rw [e1, e2]
/-- what is in lowest terms is its own -/
theorem fr_self {a b : Int} (hb : 0 < b) (h : Nat.gcd a.natAbs b.natAbs = 1) : fr a b = .tuple [.int a, .int b] := by
  have g : gI a b = 1 := by unfold gI; rw [h]; rfl
  unfold fr frN frD
  rw [g, if_neg (by omega), if_neg (by omega), Int.ediv_one, Int.ediv_one]
theorem frN_le (n d : Int) (h : d ≠ 0) : (frN n d).natAbs ≤ n.natAbs := by
  have e := congrArg Int.natAbs (fr_mulN n d h)
  rw [Int.natAbs_mul] at e
  have a1 : (if d < 0 then -n else n).natAbs = n.natAbs := by split <;> omega
  rw [a1] at e
  have g := gI_pos (n := n) h
  have := Nat.le_mul_of_pos_right (frN n d).natAbs (show 0 < (gI n d).natAbs by omega)
  omega
theorem frD_le (n d : Int) (h : d ≠ 0) : (frD n d).natAbs ≤ d.natAbs := by
  have e := congrArg Int.natAbs (fr_mulD n d h)
  rw [Int.natAbs_mul] at e
  have a1 : (if d < 0 then -d else d).natAbs = d.natAbs := by split <;> omega
  rw [a1] at e
  have g := gI_pos (n := n) h
  have := Nat.le_mul_of_pos_right (frD n d).natAbs (show 0 < (gI n d).natAbs by omega)
  omega
/-- the program's own way: divided by the divisor with the den's sign -/
theorem fdiv_sign {x n d : Int} (h : d ≠ 0) (hx : gI n d ∣ x) : x.fdiv (if d < 0 then -(gI n d) else gI n d) = (if d < 0 then -x else x) / gI n d := by
  have g := gI_pos (n := n) h
  split
  · have e : x.fdiv (-(gI n d)) = (-x).fdiv (gI n d) := by rw [← Int.neg_fdiv_neg, Int.neg_neg]
    rw [e, Int.fdiv_eq_ediv_of_nonneg _ (by omega)]
  · rw [Int.fdiv_eq_ediv_of_nonneg _ (by omega)]
end Dl
set_option Elab.async false
set_option linter.all false
set_option maxRecDepth 100000
set_option maxHeartbeats 4000000
namespace Dl
open PySem PySem.Spec PyProof.Rows L2

theorem Grow.nob {G H G' H' : Hp} (g : Grow (Mb none) G H G' H') : Grow No G H G' H' := g.wide fun b z => nomatch z
section
variable {K : PySem.W.Frag} {env : List Sl} {b : Option Addr} {ms : Ms} {te ta tb : TE} {P Pa Pb : PyData → Prop} {tt : TT} {Pt : Bool → Prop}
theorem ev_repA {l : List PyData} {k : Nat} (ha : EvP K env b ms ta (Is (.tuple l))) (hb : EvP K env b ms tb (Is (.int k))) (ne : l ≠ []) (h1 : 1 ≤ k) (h2 : k ≤ 1000) (hz : l.length ≤ 1000) : EvP K env b ms (tOp (rRepA K) ta tb) (Is (.tuple (List.replicate k l).flatten)) :=
  ev_op ha hb fun d1 d2 e1 e2 => by
    rw [e1, e2]
    exact fun x y G H p1 p2 s jb Q k' => by
      cases p2
      cases p1 with
      | tup sq da =>
        rename_i a xs
        have xl := dpa_len da
        refine ⟨a, k, xs, rfl, rfl, sqt_mono s sq, fun e => ne (by rw [e] at xl; exact List.eq_nil_of_length_eq_zero xl.symm), by omega, by omega, by omega, fun e => ?_, fun e p hp => ?_⟩
        · have e1 : k = 1 := by omega
          subst e1
          exact k' _ _ G H (Grow.refl s) jb (.tup sq da) (by simp [Is])
        · have g : Grow No G H (upd G p (.tup (List.replicate (k : Int).toNat xs).flatten)) (upd H p (.tup (List.replicate (k : Int).toNat xs).flatten)) := Grow.lay s hp
          have kk : (k : Int).toNat = k := by omega
          refine k' _ _ _ _ g.no (jb.grow g) (.tup (SqT.of upd_same) ?_) rfl
          rw [kk]
          have rep : ∀ n : Nat, DpAll K G (List.replicate n xs).flatten (List.replicate n l).flatten := fun n => by
            induction n with
            | zero => exact .nil
            | succ n ih => rw [List.replicate_succ, List.replicate_succ, List.flatten_cons, List.flatten_cons]; exact dpa_app da ih
          exact dpa_mono (by rw [kk] at g; exact g.g) _ _ (rep k)
end

/-! ### the program's own reckoning, as functions of data -/
def FrD (a b : Int) : PyData := .tuple [.int a, .int b]
def fFrac : List PyData → PyData
  | [.int n, .int d] => fr n d
  | _ => .none
def fPlus : List PyData → PyData
  | [.tuple [.int a, .int b], .tuple [.int c, .int d]] => fr (a * d + c * b) (b * d)
  | _ => .none
def fMinus : List PyData → PyData
  | [.tuple [.int a, .int b], .tuple [.int c, .int d]] => fr (a * d - c * b) (b * d)
  | _ => .none
def fTimes : List PyData → PyData
  | [.tuple [.int a, .int b], .tuple [.int c, .int d]] => fr (a * c) (b * d)
  | _ => .none
def fOver : List PyData → PyData
  | [.tuple [.int a, .int b], .tuple [.int c, .int d]] => fr (a * d) (b * c)
  | _ => .none
def fLess : List PyData → PyData
  | [.tuple [.int a, .int b], .tuple [.int c, .int d]] => .bool (decide (a * d < c * b))
  | _ => .none
def fMost : List PyData → PyData
  | [.tuple [.int a, .int b], .tuple [.int c, .int d]] => .bool (decide (a * d ≤ c * b))
  | _ => .none
def fSign : List PyData → PyData
  | [.tuple [.int a, .int _]] => .int (if a = 0 then 0 else if 0 < a then 1 else -1)
  | _ => .none
def fFloor : List PyData → PyData
  | [.tuple [.int a, .int b]] => .int (a / b)
  | _ => .none
def fWhole : List PyData → PyData
  | [d] => .tuple [d, .int 1]
  | _ => .none
/-- small: a factor at the right -/
def Fs (a b : Int) : Prop := 0 < b ∧ a.natAbs < 2 ^ 63 ∧ b.natAbs < 2 ^ 63
/-- great: a factor at the left -/
def Fb (a b : Int) : Prop := 0 < b ∧ a.natAbs < 2 ^ 1000 ∧ b.natAbs < 2 ^ 1000
theorem Fs.b {a b : Int} (h : Fs a b) : Fb a b := ⟨h.1, Nat.lt_of_lt_of_le h.2.1 (Nat.pow_le_pow_right (by decide) (by decide)), Nat.lt_of_lt_of_le h.2.2 (Nat.pow_le_pow_right (by decide) (by decide))⟩
def dFrac (ds : List PyData) : Prop := ∃ n d : Int, ds = [.int n, .int d] ∧ d ≠ 0 ∧ d.natAbs < 2 ^ 4000
def dTwo (ds : List PyData) : Prop := ∃ a b c d : Int, ds = [FrD a b, FrD c d] ∧ Fb a b ∧ Fs c d
def dOver (ds : List PyData) : Prop := ∃ a b c d : Int, ds = [FrD a b, FrD c d] ∧ Fb a b ∧ Fs c d ∧ c ≠ 0
def dOne (ds : List PyData) : Prop := ∃ a b : Int, ds = [FrD a b] ∧ Fb a b
theorem cmR {x y : Int} (h : y.natAbs < 2 ^ 63) : CMul x y := .inr ⟨by omega, by omega⟩
theorem cmL {x y : Int} (h : x.natAbs < 2 ^ 63) : CMul x y := .inl ⟨by omega, by omega⟩
theorem nat_mul_lt {x y : Int} {a b : Nat} (h1 : x.natAbs < 2 ^ a) (h2 : y.natAbs < 2 ^ b) : (x * y).natAbs < 2 ^ (a + b) := wide_lt h1 h2
theorem pow_le4000 {x : Int} {a : Nat} (h : x.natAbs < 2 ^ a) (ha : a ≤ 4000) : x.natAbs < 2 ^ 4000 := Nat.lt_of_lt_of_le h (Nat.pow_le_pow_right (by decide) ha)
theorem div9000 {d : Int} (h : 0 < d) (hb : d.natAbs < 2 ^ 4000) : CDivW 0 d := wide_div h hb (by decide) (by decide)
theorem floor_law {a b : Int} (hb : 0 < b) : (if 0 ≤ a then a / b else -((-a + b - 1) / b)) = a / b := by
  split
  · rfl
  · have e := Int.emod_add_mul_ediv a b
    have r0 := Int.emod_nonneg a (show b ≠ 0 by omega)
    have r1 := Int.emod_lt_of_pos a hb
    have k : -a + b - 1 = (b - 1 - a % b) + b * (-(a / b)) := by
      rw [Int.mul_neg]; omega
    rw [k, Int.add_mul_ediv_left _ _ (show b ≠ 0 by omega), Int.ediv_eq_zero_of_lt (by omega) (by omega)]
    omega
end Dl
namespace Dl
open PySem PySem.Spec PyProof.Rows L2
section
variable {K : PySem.W.Frag} {env : List Sl} {b : Option Addr} {ms : Ms} {te ta tb : TE} {P Pa Pb : PyData → Prop} {tt : TT} {Pt : Bool → Prop}
/-- tuple(a new list) -/
theorem ev_tupN {Pr : List PyData → Prop} (h : EvN K env b ms te Pr) : EvP K env b ms (tCB (rTupOf K) (tCons te tNil)) (fun d => ∃ m, d = .tuple m ∧ Pr m) := by
  refine ev_cbP (ea_consP (ev_new h) ea_nil) fun ds ⟨x, y, e, ⟨m, e1, q⟩, e2⟩ => ?_
  rw [e, e1, e2]
  exact fun xs G H p s j Q k => rc_tupL xs G H p s j Q fun v d G2 H2 g2 j2 p2 q2 => k v d G2 H2 g2 j2 p2 ⟨m, q2, q⟩
/-- tuple([e for x in walk]), e a function of the item -/
theorem ev_tupMap {wi : TI} {g : TG} {vs : List Nat} {l : List PyData} {f : PyData → List Sl → List Sl} {F : PyData → PyData} (hi : EvI K env b ms wi (Is l)) (hl : l.length ≤ 1000) (hg : ∀ x ∈ l, TgP K g vs x (f x))
    (he : ∀ x ∈ l, EvP K (f x (wipeE env vs)) b ms te (Is (F x))) : EvP K env b ms (tCB (rTupOf K) (tCons (tLc wi g tYes te vs) tNil)) (Is (.tuple (l.map F))) := by
  refine ev_imp (ev_tupN (en_lc (T := fun _ c => c = true) (E := fun x y => y = F x) hi (fun m e => by rw [e]; exact hl) (fun m e x hx => by rw [e] at hx; exact hg x hx) (fun m e x hx => et_yes) fun m e x hx _ => by rw [e] at hx; exact he x hx)) ?_
  rintro d ⟨m, e, l', e1, lc⟩
  rw [e, lc.map, e1]
/-- .. e told by a relation -/
theorem ev_tupAll {wi : TI} {g : TG} {vs : List Nat} {l : List PyData} {f : PyData → List Sl → List Sl} {E : PyData → PyData → Prop} (hi : EvI K env b ms wi (Is l)) (hl : l.length ≤ 1000) (hg : ∀ x ∈ l, TgP K g vs x (f x))
    (he : ∀ x ∈ l, EvP K (f x (wipeE env vs)) b ms te (E x)) : EvP K env b ms (tCB (rTupOf K) (tCons (tLc wi g tYes te vs) tNil)) (fun d => ∃ m, d = .tuple m ∧ Lc (fun _ c => c = true) E l m) := by
  refine ev_imp (ev_tupN (en_lc (T := fun _ c => c = true) (E := E) hi (fun m e => by rw [e]; exact hl) (fun m e x hx => by rw [e] at hx; exact hg x hx) (fun m e x hx => et_yes) fun m e x hx _ => by rw [e] at hx; exact he x hx)) ?_
  rintro d ⟨m, e, l', e1, lc⟩
  exact ⟨m, e, by rw [← e1]; exact lc⟩
end
def setPair (i j : Nat) : PyData → List Sl → List Sl
  | .tuple [p, q], env => (env.set i (.d p)).set j (.d q)
  | _, env => env
theorem pairs_mem : ∀ {l m : List PyData} {x : PyData}, x ∈ pairs l m → ∃ p q, x = .tuple [p, q] ∧ p ∈ l ∧ q ∈ m
  | [], _, _, h => by simp [pairs] at h
  | _ :: _, [], _, h => by simp [pairs] at h
  | a :: l, c :: m, x, h => by
    simp only [pairs, List.mem_cons] at h
    rcases h with rfl | h
    · exact ⟨a, c, rfl, by simp, by simp⟩
    · obtain ⟨p, q, e, h1, h2⟩ := pairs_mem h
      exact ⟨p, q, e, by simp [h1], by simp [h2]⟩
theorem tg_setPair {K : PySem.W.Frag} {i j : Nat} {vs : List Nat} {l m : List PyData} (hi : i ∈ vs) (hj : j ∈ vs) : ∀ x ∈ pairs l m, TgP K (gTup K 2 (gCons (gName i) (gCons (gName j) gNil))) vs x (setPair i j x) := fun x hx => by
  obtain ⟨p, q, rfl, _, _⟩ := pairs_mem hx
  exact tg_pair hi hj
def onPair (F : List PyData → PyData) : PyData → PyData
  | .tuple [p, q] => F [p, q]
  | _ => .none
/-- a tuple of small fractions -/
def SFs (l : List PyData) : Prop := ∀ x ∈ l, ∃ a b : Int, x = FrD a b ∧ Fs a b
def dVec (ds : List PyData) : Prop := ∃ xs ys, ds = [.tuple xs, .tuple ys] ∧ SFs xs ∧ SFs ys ∧ xs.length ≤ 1000 ∧ ys.length ≤ 1000
def rVec (F : List PyData → PyData) (l : List PyData) (x : PyData) : Prop := ∃ xs ys, l = [.tuple xs, .tuple ys] ∧ x = .tuple ((pairs xs ys).map (onPair F))
def dMul (ds : List PyData) : Prop := ∃ a b ys, ds = [FrD a b, .tuple ys] ∧ Fb a b ∧ SFs ys ∧ ys.length ≤ 1000
def rMul (l : List PyData) (x : PyData) : Prop := ∃ s ys, l = [s, .tuple ys] ∧ x = .tuple (ys.map fun y => fTimes [s, y])
def dVecOf (ds : List PyData) : Prop := ∃ ys, ds = [.tuple ys] ∧ ys.length ≤ 1000
def rVecOf (l : List PyData) (x : PyData) : Prop := ∃ ys, l = [.tuple ys] ∧ x = .tuple (ys.map fun y => fWhole [y])
def dNought (ds : List PyData) : Prop := ∃ cells rest, ds = [.tuple (.tuple cells :: rest)] ∧ 1 ≤ cells.length ∧ cells.length ≤ 1000
def rNought (l : List PyData) (x : PyData) : Prop := ∃ cells rest, l = [.tuple (.tuple cells :: rest)] ∧ x = .tuple (List.replicate cells.length (FrD 0 1))
theorem rep_one {α : Type} (n : Nat) (x : α) : (List.replicate n [x]).flatten = List.replicate n x := by
  induction n with
  | zero => rfl
  | succ n ih => rw [List.replicate_succ, List.flatten_cons, ih]; rfl
theorem pairs_len1000 {l m : List PyData} (h : l.length ≤ 1000) : (pairs l m).length ≤ 1000 := by rw [pairs_len]; omega

/-! ### what the law's helpers give -/
def someDom (ds : List PyData) : Prop := ∃ l, ds = [.list l] ∧ l ≠ [] ∧ l.length ≤ 1000
def someR (ds : List PyData) (d : PyData) : Prop := ∃ l, ds = [.list l] ∧ d ∈ l
def mixDom (ds : List PyData) : Prop := ∃ l, ds = [.list l] ∧ l.length ≤ 1000
def mixR (ds : List PyData) (d : PyData) : Prop := ∃ l m, ds = [.list l] ∧ d = .list m ∧ m.Perm l
def spBag (K : PySem.W.Frag) : Sp := fun vs H Q _ => ∃ (a : Addr) (ns : List Int), vs = [.ref a] ∧ SqL K H a (ns.map V.int) ∧ ns.length ≤ 63 ∧
  ∀ b G' H', Grow No H H G' H' → H b = none → BagAt K b G' H' → Q (.ref b) H'
def numR (_ : List PyData) (d : PyData) : Prop := ∃ z : Int, d = .int z ∧ z.natAbs ≤ 500000000
def drawnR (_ : List PyData) (d : PyData) : Prop := ∃ n m : Int, d = fr n m ∧ 0 < m ∧ m ≤ 500000001 ∧ n.natAbs ≤ 500000000
def manyDom (ds : List PyData) : Prop := ∃ n : Nat, ds = [.int (n : Nat)] ∧ 1 ≤ n ∧ n ≤ 100
def standR (ds : List PyData) (d : PyData) : Prop := ∃ (n : Nat) (xs : List PyData), ds = [.int (n : Nat)] ∧ d = .tuple xs ∧ xs.length = n ∧ ∀ x ∈ xs, ∃ a c : Int, x = fr a c ∧ 0 < c ∧ c ≤ 3 ∧ a.natAbs ≤ 4
def readingR (ds : List PyData) (d : PyData) : Prop := ∃ (n : Nat) (zs : List Int), ds = [.int (n : Nat)] ∧ d = .tuple (zs.map .int) ∧ zs.length = n ∧ ∀ z ∈ zs, z.natAbs ≤ 3
/-- a frame's cells: some of these names, in some order -/
def frameR (ds : List PyData) (d : PyData) : Prop := ∃ (n : Nat) (cells groups free : List PyData) (way : PyData), ds = [.int (n : Nat)] ∧ d = .tuple [.tuple cells, .tuple groups, .tuple free, way] ∧ 1 ≤ cells.length ∧ cells.length ≤ n
end Dl
namespace Dl
open PySem L2
theorem at0 {α : Type} {x : α} {l : List α} : atI (x :: l) 0 = some x := atI_nat (j := 0) rfl
theorem at1 {α : Type} {x y : α} {l : List α} : atI (x :: y :: l) 1 = some y := atI_nat (j := 1) rfl
end Dl
set_option Elab.async false
set_option linter.all false
set_option maxRecDepth 100000
set_option maxHeartbeats 4000000
namespace Dl
open PySem PySem.Spec PyProof.Rows L2
section
variable {K : PySem.W.Frag} {env : List Sl} {b : Option Addr} {ms : Ms} {te ta tb : TE} {P Pa Pb : PyData → Prop} {tt tu : TT} {Pt Pu : Bool → Prop} {D : Ends} {tw tz : TS} {ts : TS} {G0 H0 Gs G H : Hp} {σ : L2.St}
theorem ev_take {x : Addr} {i : Nat} {n : Int} (hi : env[i]? = some (.a x)) (h : EvP K env (some x) ms te (Is (.int n))) (h0 : 0 < n) (h1 : n < 2 ^ 60) :
    EvP K env (some x) ms (tCall (spB K 1 takeDom takeR) [] E0 (tCons (tVar i) (tCons te tNil))) (fun d => ∃ r, d = .int r ∧ 0 ≤ r ∧ r < n) :=
  ev_imp (ev_callB hi rfl (ea_cons h ea_nil) fun ds e => ⟨by rw [e]; rfl, _, e, h0, h1⟩) fun d ⟨ds, e1, n', r, e2, e3, r0, r1⟩ => by
    rw [e1] at e2
    cases e2
    exact ⟨r, e3, r0, r1⟩
theorem ev_takeP {x : Addr} {i : Nat} {C : Int → Prop} {m : Int} (hi : env[i]? = some (.a x)) (h : EvP K env (some x) ms te (fun d => ∃ n, d = .int n ∧ C n)) (hC : ∀ n, C n → 0 < n ∧ n ≤ m) (h1 : m < 2 ^ 60) :
    EvP K env (some x) ms (tCall (spB K 1 takeDom takeR) [] E0 (tCons (tVar i) (tCons te tNil))) (fun d => ∃ r, d = .int r ∧ 0 ≤ r ∧ r < m) :=
  ev_imp (ev_callB hi rfl (ea_consP h ea_nil) fun ds ⟨d, r, e, ⟨n, e1, c⟩, e2⟩ => ⟨by rw [e, e2]; rfl, n, by rw [e, e1, e2], (hC n c).1, by have := (hC n c).2; omega⟩) fun d ⟨ds, ⟨d', r', e, ⟨n, e1, c⟩, e2⟩, n', r, e3, e4, r0, r1⟩ => by
    rw [e, e1, e2] at e3
    cases e3
    have := (hC n c).2
    exact ⟨r, e4, r0, by omega⟩
theorem ev_some {x : Addr} {i : Nat} {l : List PyData} (hi : env[i]? = some (.a x)) (h : EvP K env (some x) ms te (Is (.list l))) (h0 : l ≠ []) (h1 : l.length ≤ 1000) :
    EvP K env (some x) ms (tCall (spB K 1 someDom someR) [] E0 (tCons (tVar i) (tCons te tNil))) (fun d => d ∈ l) :=
  ev_imp (ev_callB hi rfl (ea_cons h ea_nil) fun ds e => ⟨by rw [e]; rfl, _, e, h0, h1⟩) fun d ⟨ds, e1, l', e2, m⟩ => by
    rw [e1] at e2
    cases e2
    exact m
theorem ev_someI {x : Addr} {i : Nat} {zs : List Int} (hi : env[i]? = some (.a x)) (h : EvP K env (some x) ms te (Is (.list (zs.map .int)))) (h0 : zs ≠ []) (h1 : zs.length ≤ 1000) :
    EvP K env (some x) ms (tCall (spB K 1 someDom someR) [] E0 (tCons (tVar i) (tCons te tNil))) (fun d => ∃ z, d = .int z ∧ z ∈ zs) :=
  ev_imp (ev_some hi h (by simpa using h0) (by simpa using h1)) fun d m => by
    obtain ⟨z, hz, e⟩ := List.mem_map.mp m
    exact ⟨z, e.symm, hz⟩
theorem Lc.mem {T : PyData → Bool → Prop} {E : PyData → PyData → Prop} {l m : List PyData} (h : Lc T E l m) : ∀ y ∈ m, ∃ x ∈ l, E x y := by
  induction h with
  | nil => intro y hy; cases hy
  | @yes l m x y h1 h2 h3 ih =>
    intro z hz
    rcases List.mem_append.mp hz with hz | hz
    · obtain ⟨w, hw, e⟩ := ih z hz
      exact ⟨w, by simp [hw], e⟩
    · have : z = y := by simpa using hz
      subst this
      exact ⟨x, by simp, h3⟩
  | no _ h ih => intro z hz; obtain ⟨w, hw, e⟩ := ih z hz; exact ⟨w, by simp [hw], e⟩
theorem ints_of {C : Int → Prop} : ∀ {m : List PyData}, (∀ y ∈ m, ∃ c, y = .int c ∧ C c) → ∃ cs : List Int, m = cs.map .int ∧ ∀ c ∈ cs, C c
  | [], _ => ⟨[], rfl, fun c h => by cases h⟩
  | y :: m, h => by
    obtain ⟨c, e, hc⟩ := h y (by simp)
    obtain ⟨cs, e2, h2⟩ := ints_of (m := m) fun z hz => h z (by simp [hz])
    exact ⟨c :: cs, by rw [e, e2]; rfl, fun z hz => by
      rcases List.mem_cons.mp hz with rfl | hz
      · exact hc
      · exact h2 z hz⟩
theorem cutD_mem {l : List PyData} {lo hi : Option Int} {x : PyData} (h : x ∈ cutD l lo hi) : x ∈ l := List.mem_of_mem_drop (List.mem_of_mem_take h)
theorem cutD_len (l : List PyData) (lo hi : Option Int) : (cutD l lo hi).length ≤ l.length := by
  unfold cutD
  rw [List.length_take, List.length_drop]; omega
/-- l.append(a new list that will change) -/
theorem s_appM {i n : Nat} {l : Addr} {es : List Sl} {Pl : List PyData → Prop} (A : At K env b ms G0 H0 Gs σ G H) (hi : env[i]? = some (.a l)) (hm : ms[n]? = some (l, es)) (h : EvN K env b ms te Pl) (hz : es.length ≤ 2000)
    (k : ∀ r ds G' H', Pl ds → At K env b ((r, ds.map .d) :: ms.set n (l, es ++ [.a r])) G0 H0 Gs σ G' H' → D.nx σ H') : tDrop (tBM K "list" rAppend (tVar i) (tCons te tNil)) D σ H := by
  obtain ⟨gl, nb, xs, hl, el⟩ := A.j.mu _ (List.mem_of_getElem? hm)
  refine ⟨.ref l, A.env.addr hi, tyL hl, h σ G H A.env A.gr.gh A.j _ fun r ys ds G2 H2 g j nn f hr da q => ?_⟩
  have hl2 : H2 l = some (.lst xs) := g.keep _ _ hl nb
  have xl : xs.length = es.length := by have := el.1; simpa using this
  refine ⟨l, xs, .ref r, rfl, rfl, hl2, Nat.lt_of_le_of_lt (by rw [xl]; exact hz) (by decide), ?_⟩
  have rb : b ≠ some r := fun z => by
    obtain ⟨_, _, _, _, _, _, e0, _⟩ := A.j.bag r z
    rw [nn] at e0; cases e0
  have rl : r ≠ l := fun z => by rw [z, hl] at nn; cases nn
  have A2 := (A.step g j).write (n := n) (l := l) (es' := es ++ [.a r]) (xs' := xs ++ [.ref r]) hm (by
    rw [List.map_append]
    exact env_app (el.mono g.g) (.cons rfl .nil))
  refine k r ds G2 _ q ⟨A2.env, A2.gr, A2.sg, ⟨A2.j.bag, fun p hp => ?_⟩, fun p hp => ?_, ?_⟩
  · rcases List.mem_cons.mp hp with rfl | hp
    · exact ⟨f, rb, ys, by rw [upd_ne rl]; exact hr, env_data da⟩
    · exact A2.j.mu p hp
  · rcases List.mem_cons.mp hp with rfl | hp
    · exact A.gr.dom _ nn
    · exact A2.own p hp
  · rw [List.map_cons, List.nodup_cons]
    refine ⟨fun hmm => ?_, A2.nd⟩
    obtain ⟨p, hp, e⟩ := List.mem_map.mp hmm
    obtain ⟨q2, hq2⟩ := List.mem_iff_getElem?.mp hp
    have key : ∃ p2 ∈ ms, p2.1 = p.1 := by
      by_cases qq : n = q2
      · subst qq
        rw [List.getElem?_set_self (List.getElem?_eq_some_iff.mp hm).1] at hq2
        cases hq2
        exact ⟨_, List.mem_of_getElem? hm, rfl⟩
      · rw [List.getElem?_set_ne qq] at hq2
        exact ⟨p, List.mem_of_getElem? hq2, rfl⟩
    obtain ⟨p2, hp2, e2⟩ := key
    obtain ⟨_, _, _, mm, _⟩ := A.j.mu p2 hp2
    rw [e2, e, nn] at mm; cases mm
/-- groups[k].append(e): one of the lists in a list of ours -/
theorem s_appIx {n : Nat} {i : Nat} {gl : Addr} {rs : List Addr} {C : Int → Prop} (A : At K env b ms G0 H0 Gs σ G H) (hi : env[i]? = some (.a gl)) (hm : ms[n]? = some (gl, rs.map .a))
    (ht : EvP K env b ms ta (fun d => ∃ z, d = .int z ∧ C z)) (hC : ∀ z, C z → 0 ≤ z ∧ z < rs.length) (hr : ∀ r ∈ rs, ∃ m : Nat, ∃ es, ms[m]? = some (r, es) ∧ es.length ≤ 2000) (h : EvP K env b ms te P)
    (k : ∀ (r : Addr) (m : Nat) es d G' H', r ∈ rs → ms[m]? = some (r, es) → P d → At K env b (ms.set m (r, es ++ [.d d])) G0 H0 Gs σ G' H' → D.nx σ H') : tDrop (tBM K "list" rAppend (tOp (rIxL K) (tVar i) ta) (tCons te tNil)) D σ H := by
  obtain ⟨gg, nb, xs, hl, el⟩ := A.j.mu _ (List.mem_of_getElem? hm)
  refine ⟨.ref gl, A.env.addr hi, ht σ G H A.env A.gr.gh A.j _ fun v d G1 H1 g1 j1 p1 ⟨z, e1, c⟩ => ?_⟩
  subst e1
  cases p1
  obtain ⟨z0, z1⟩ := hC z c
  have zt : z.toNat < rs.length := by omega
  obtain ⟨s, es1, es2⟩ := el.2 z.toNat (.a rs[z.toNat]) (by rw [List.getElem?_map, List.getElem?_eq_getElem zt]; rfl)
  have es3 : s = some (.ref rs[z.toNat]) := es2
  subst es3
  have xv : xs[z.toNat]? = some (.ref rs[z.toNat]) := by
    rw [List.getElem?_map] at es1
    cases q : xs[z.toNat]? with
    | none => rw [q] at es1; cases es1
    | some w => rw [q] at es1; cases es1; rfl
  have at1 : atI xs z = some (.ref rs[z.toNat]) := by
    have := atI_nat xv
    rw [show ((z.toNat : Nat) : Int) = z from by omega] at this
    exact this
  have hl1 : H1 gl = some (.lst xs) := g1.keep _ _ hl nb
  obtain ⟨m, es, hmm, hes⟩ := hr rs[z.toNat] (List.getElem_mem zt)
  obtain ⟨gr, nbr, ys, hlr, elr⟩ := j1.mu _ (List.mem_of_getElem? hmm)
  refine ⟨gl, xs, z, .ref rs[z.toNat], rfl, rfl, SqL.of hl1, at1, tyL hlr, ?_⟩
  have A1 := A.step g1 j1
  refine h σ G1 H1 A1.env A1.gr.gh A1.j _ fun v d G2 H2 g j p q => ?_
  have hlr2 : H2 rs[z.toNat] = some (.lst ys) := g.keep _ _ hlr nbr
  have yl : ys.length = es.length := by have := elr.1; simpa using this
  refine ⟨_, ys, v, rfl, rfl, hlr2, Nat.lt_of_le_of_lt (by rw [yl]; exact hes) (by decide), ?_⟩
  refine k _ m es d G2 _ (List.getElem_mem zt) hmm q ((A1.step g j).write hmm ?_)
  rw [List.map_append]
  exact env_app (elr.mono g.g) (.cons (slot_d p) .nil)
theorem dpa_of_env : ∀ (ds : List PyData) (xs : List V), EnvOk K G (xs.map some) (ds.map .d) → DpAll K G xs ds := by
  intro ds
  induction ds with
  | nil => intro xs h; cases xs with
    | nil => exact .nil
    | cons x xs => have := h.1; simp at this
  | cons d ds ih => intro xs h; cases xs with
    | nil => have := h.1; simp at this
    | cons x xs =>
      obtain ⟨s, e1, v, e2, e3⟩ := h.2 0 (.d d) rfl
      have e4 : x = v := by simp at e1; rw [e2] at e1; exact Option.some.inj e1
      subst e4
      exact .cons e3 (ih xs ⟨by have := h.1; simpa using this, fun i e he => by
        obtain ⟨s, f1, f2⟩ := h.2 (i + 1) e (by simpa using he)
        exact ⟨s, by simpa using f1, f2⟩⟩)
/-- a list of lists of ours: its data as they stand -/
theorem dp_nest {gs : List (Addr × List PyData)} {gl : Addr} {G2 : Hp} (up : Same G G2) (hx : ∀ p ∈ gs, ∃ xs, G2 p.1 = some (.lst xs) ∧ EnvOk K G (xs.map some) (p.2.map .d)) (hg : ∃ xs, G2 gl = some (.lst xs) ∧ EnvOk K G (xs.map some) (gs.map fun p => .a p.1)) :
    Dp K G2 (.ref gl) (.list (gs.map fun p => .list p.2)) := by
  obtain ⟨xs, e1, e2⟩ := hg
  refine .lst (SqL.of e1) ?_
  have go : ∀ (gs : List (Addr × List PyData)) (xs : List V), (∀ p ∈ gs, ∃ xs, G2 p.1 = some (.lst xs) ∧ EnvOk K G (xs.map some) (p.2.map .d)) → EnvOk K G (xs.map some) (gs.map fun p => .a p.1) → DpAll K G2 xs (gs.map fun p => .list p.2) := by
    intro gs
    induction gs with
    | nil => intro xs _ h; cases xs with
      | nil => exact .nil
      | cons x xs => have := h.1; simp at this
    | cons p gs ih => intro xs hp h; cases xs with
      | nil => have := h.1; simp at this
      | cons x xs =>
        obtain ⟨s, f1, f2⟩ := h.2 0 (.a p.1) rfl
        have f3 : s = some (.ref p.1) := f2
        have f4 : x = .ref p.1 := by simp at f1; rw [f3] at f1; exact Option.some.inj f1
        subst f4
        obtain ⟨ys, g1, g2⟩ := hp p (by simp)
        refine .cons (.lst (SqL.of g1) (dpa_mono up _ _ (dpa_of_env _ _ g2))) (ih xs (fun q hq => hp q (by simp [hq])) ⟨by have := h.1; simpa using this, fun i e he => by
          obtain ⟨s, u1, u2⟩ := h.2 (i + 1) e (by simpa using he)
          exact ⟨s, by simpa using u1, u2⟩⟩)
  exact go gs xs hx e2
/-- a list of lists of ours: all of it still from now on -/
theorem At.freezeNest {i : Nat} {gl : Addr} {gs : List (Addr × List PyData)} (A : At K env b ms G0 H0 Gs σ G H) (hi : env[i]? = some (.a gl)) (hg : (gl, gs.map fun p => Sl.a p.1) ∈ ms) (hp : ∀ p ∈ gs, (p.1, p.2.map Sl.d) ∈ ms) :
    ∃ G2, At K (env.set i (.d (.list (gs.map fun p => .list p.2)))) b [] G0 H0 Gs σ G2 H := by
  let S : Addr → Prop := fun c => c = gl ∨ ∃ p ∈ gs, p.1 = c
  have dec : ∀ c, S c ∨ ¬ S c := fun c => Classical.em _
  have off : ∀ c, S c → G c = none ∧ b ≠ some c ∧ H0 c = none ∧ ∃ xs, H c = some (.lst xs) := by
    rintro c (rfl | ⟨p, hp1, rfl⟩)
    · obtain ⟨a1, a2, xs, a3, _⟩ := A.j.mu _ hg
      exact ⟨a1, a2, A.own _ hg, xs, a3⟩
    · obtain ⟨a1, a2, xs, a3, _⟩ := A.j.mu _ (hp p hp1)
      exact ⟨a1, a2, A.own _ (hp p hp1), xs, a3⟩
  let G2 : Hp := fun c => @ite _ (S c) (Classical.propDecidable _) (H c) (G c)
  have in2 : ∀ c, S c → G2 c = H c := fun c h => by show @ite _ (S c) (Classical.propDecidable _) (H c) (G c) = H c; rw [if_pos h]
  have out2 : ∀ c, ¬ S c → G2 c = G c := fun c h => by show @ite _ (S c) (Classical.propDecidable _) (H c) (G c) = G c; rw [if_neg h]
  have up : Same G G2 := fun c o e => by
    rcases dec c with h | h
    · rw [(off c h).1] at e; cases e
    · rw [out2 c h]; exact e
  have gh : Same G2 H := fun c o e => by
    rcases dec c with h | h
    · rw [in2 c h] at e; exact e
    · rw [out2 c h] at e; exact A.gr.gh c o e
  have d : Dp K G2 (.ref gl) (.list (gs.map fun p => .list p.2)) := by
    refine dp_nest (G := G) up (fun p h => ?_) ?_
    · obtain ⟨_, _, xs, a3, a4⟩ := A.j.mu _ (hp p h)
      exact ⟨xs, by rw [in2 p.1 (.inr ⟨p, h, rfl⟩)]; exact a3, a4⟩
    · obtain ⟨_, _, xs, a3, a4⟩ := A.j.mu _ hg
      exact ⟨xs, by rw [in2 gl (.inl rfl)]; exact a3, a4⟩
  have hσ := A.env.addr hi
  have eset : σ.set i (some (.ref gl)) = σ := by
    apply List.ext_getElem?
    intro j
    by_cases q : i = j
    · subst q
      rw [hσ, List.getElem?_set_self (List.getElem?_eq_some_iff.mp hσ).1]
    · rw [List.getElem?_set_ne q]
  refine ⟨G2, ?_, ⟨A.gr.g.trans up, gh, A.gr.dom, A.gr.keep, fun c o e => ?_⟩, A.sg.trans up, ⟨fun x ex => ?_, fun p hp => (nomatch hp)⟩, fun p hp => (nomatch hp), List.nodup_nil⟩
  · have h := (A.env.mono up).set (i := i) (v := .ref gl) (slot_d d)
    rw [eset] at h
    exact h
  · rcases dec c with h | h
    · exact .inr (off c h).2.2.1
    · rw [out2 c h] at e; exact A.gr.new c o e
  · obtain ⟨b1, z0, z1, z2, lb, cs, b2, b3, b4⟩ := A.j.bag x ex
    exact ⟨by rw [out2 x fun h => (off x h).2.1 ex]; exact b1, z0, z1, z2, lb, cs, b2, up.seq b3, b4⟩
/-- a list of ours of lists of ours isn't empty, or is -/
theorem et_neNest {i : Nat} {gl : Addr} {gs : List (Addr × List PyData)} (hi : env[i]? = some (.a gl)) (hg : (gl, gs.map fun p => Sl.a p.1) ∈ ms) (hp : ∀ p ∈ gs, (p.1, p.2.map Sl.d) ∈ ms) (sh : SeqAt.shaped (.list (gs.map fun p => .list p.2)) = true) :
    EtP K env b ms (tTest (tOp (rNeD K) (tVar i) (tLst tNil))) (fun c => c = decide (gs ≠ [])) := fun σ G H e s j Q k => by
  refine ⟨.ref gl, e.addr hi, by show 0 ≤ sizeLine; decide, fun p hpn => ?_⟩
  have g : Grow No G H G (upd H p (.lst [])) := Grow.lay0 s hpn
  have keep : ∀ c o, H c = some o → upd H p (.lst []) c = some o := fun c o z => g.keep c o z fun q => q
  have d : Dp K (upd H p (.lst [])) (.ref gl) (.list (gs.map fun p => .list p.2)) := by
    refine dp_nest (G := G) g.gh (fun q h => ?_) ?_
    · obtain ⟨_, _, xs, a3, a4⟩ := j.mu _ (hp q h)
      exact ⟨xs, keep _ _ a3, a4⟩
    · obtain ⟨_, _, xs, a3, a4⟩ := j.mu _ hg
      exact ⟨xs, keep _ _ a3, a4⟩
  refine ⟨_, .list [], d, .lst (SqL.of upd_same) .nil, sh, rfl, _, rfl, k _ G _ g.no (j.grow g) ?_⟩
  cases gs with
  | nil => rfl
  | cons a l => rfl
end
end Dl
namespace Dl
open PySem PySem.Spec PyProof.Rows L2
section
variable {K : PySem.W.Frag} {env : List Sl} {b : Option Addr} {ms : Ms} {te ta tb : TE}
theorem nd_eq {ms : Ms} (nd : (ms.map (·.1)).Nodup) {p q : Addr × List Sl} (hp : p ∈ ms) (hq : q ∈ ms) (e : p.1 = q.1) : p = q := by
  obtain ⟨i, hi⟩ := List.mem_iff_getElem?.mp hp
  obtain ⟨j, hj⟩ := List.mem_iff_getElem?.mp hq
  have h1 : (ms.map (·.1))[i]? = some q.1 := by rw [List.getElem?_map, hi]; exact congrArg some e
  have h2 : (ms.map (·.1))[j]? = some q.1 := by rw [List.getElem?_map, hj]; rfl
  obtain ⟨k1, k2⟩ := List.getElem?_eq_some_iff.mp h1
  obtain ⟨k3, k4⟩ := List.getElem?_eq_some_iff.mp h2
  have ij : i = j := (List.getElem_inj nd).mp (k2.trans k4.symm)
  subst ij
  rw [hi] at hj
  exact Option.some.inj hj
theorem mem_set_ne {ms : Ms} {m : Nat} {r : Addr} {es : List Sl} {z q : Addr × List Sl} (hm : ms[m]? = some (r, es)) (hq : q ∈ ms) (ne : q.1 ≠ r) : q ∈ ms.set m z := by
  obtain ⟨i, hi⟩ := List.mem_iff_getElem?.mp hq
  have : m ≠ i := fun e => by rw [e, hi] at hm; cases hm; exact ne rfl
  exact List.mem_of_getElem? (i := i) (by rw [List.getElem?_set_ne this]; exact hi)
theorem mem_set_eq {ms : Ms} {m : Nat} {p z : Addr × List Sl} (hm : ms[m]? = some p) : z ∈ ms.set m z :=
  List.mem_of_getElem? (i := m) (List.getElem?_set_self (List.getElem?_eq_some_iff.mp hm).1)
def strIn (s : Str) (l : List PyData) : Bool := l.any fun d => match d with
  | .str t => decide (t = s)
  | _ => false
theorem strIn_iff {s : Str} {l : List PyData} : strIn s l = true ↔ PyData.str s ∈ l := by
  unfold strIn
  rw [List.any_eq_true]
  constructor
  · rintro ⟨d, hd, e⟩
    cases d with
    | str t => have e2 : t = s := of_decide_eq_true e; rw [← e2]; exact hd
    | _ => cases e
  · intro h
    exact ⟨_, h, decide_eq_true rfl⟩
/-- a text in a list of texts, or not -/
theorem et_inS {neg : Bool} {s : Str} {l : List PyData} (ha : EvP K env b ms ta (Is (.str s))) (hb : EvP K env b ms tb (Is (.list l))) (hl : ∀ x ∈ l, ∃ t : Str, x = .str t) :
    EtP K env b ms (tTest (tOp (rIn K neg) ta tb)) (fun c => c = (if neg then !strIn s l else strIn s l)) := fun σ G H e sm j Q k =>
  ha σ G H e sm j _ fun v d G1 H1 g1 j1 p1 q1 => hb σ G1 H1 (e.mono g1.g) g1.gh j1 _ fun w d2 G2 H2 g2 j2 p2 q2 => by
    subst q1 q2
    cases p1
    cases p2 with
    | lst sq da =>
      rename_i a xs
      have fl : ∀ (l : List PyData) (xs : List V), DpAll K G2 xs l → (∀ x ∈ l, ∃ t : Str, x = .str t) → xs.all flatV = true ∧ inV (.str s) xs = strIn s l := by
        intro l
        induction l with
        | nil => intro xs h _; cases h; exact ⟨rfl, rfl⟩
        | cons d l ih =>
          intro xs h hx
          cases h with
          | cons p t =>
            obtain ⟨u, rfl⟩ := hx d (by simp)
            cases p
            obtain ⟨h1, h2⟩ := ih _ t fun x hm => hx x (by simp [hm])
            refine ⟨by rw [List.all_cons, h1]; rfl, ?_⟩
            unfold inV at h2 ⊢
            rw [List.any_cons, h2]
            show (eqV (V.str u) (V.str s) || strIn s l) = ((decide (u = s)) || strIn s l)
            congr 1
      obtain ⟨h1, h2⟩ := fl _ _ da hl
      refine ⟨a, xs, rfl, .inl (g2.gh.seq sq), rfl, h1, _, rfl, k _ G2 H2 (g1.trans g2) j2 ?_⟩
      rw [h2]
theorem sma_shaped {l : List PyData} {w h : Nat} (s : SmA l w h) (hh : h ≤ 59) : SeqAt.shaped (.list l) = true := (sm_list s).shaped (by omega)
theorem cutD_take {l : List PyData} {i : Int} (h : 0 ≤ i) : cutD l none (some i) = l.take (min i.toNat l.length) := by
  unfold cutD
  have e1 : HT.sIx l.length 0 none = 0 := rfl
  have e2 : HT.sIx l.length l.length (some i) = min i.toNat l.length := by
    unfold HT.sIx
    exact if_neg (by omega)
  rw [e1, e2, List.drop_zero, Nat.sub_zero]
end
def nm12 : List PyData := [.str "a", .str "b", .str "rent", .str "x", .str "y", .str "sum", .str "ab", .str "abcdefghijkl", .str "z", .str "p", .str "tax", .str "q"]
theorem nm_ok : ∀ x ∈ nm12, ∃ s : Str, x = .str s ∧ PyData.canLay0 x = true ∧ PyData.leavesShort 202 x = true ∧ PyData.weight x ≤ 12 := by
  intro x hx
  simp only [nm12, List.mem_cons, List.not_mem_nil, or_false] at hx
  rcases hx with rfl | rfl | rfl | rfl | rfl | rfl | rfl | rfl | rfl | rfl | rfl | rfl <;> exact ⟨_, rfl, by decide +kernel, by decide +kernel, by decide +kernel⟩
theorem nm_sm {x : PyData} (hx : x ∈ nm12) : Sm x 12 0 := by
  obtain ⟨s, rfl, h1, h2, h3⟩ := nm_ok x hx
  exact ⟨h1, by simp only [PyData.depth]; omega, h3, h2, by simp only [PyData.showable]⟩
end Dl
namespace Dl
open PySem PySem.Spec PyProof.Rows L2
def frameDom (ds : List PyData) : Prop := ∃ n : Nat, ds = [.int (n : Nat)] ∧ 1 ≤ n ∧ n ≤ 12
theorem three_str {d : PyData} (h : d ∈ ([.str "usual", .str "strict", .str "usual"] : List PyData)) : ∃ s : Str, d = .str s := by
  simp only [List.mem_cons, List.not_mem_nil, or_false] at h
  rcases h with rfl | rfl | rfl <;> exact ⟨_, rfl⟩
end Dl
set_option Elab.async false
set_option linter.all false
set_option maxRecDepth 100000
set_option maxHeartbeats 4000000
namespace Dl
open PySem PySem.Spec PyProof.Rows L2
section
variable {K : PySem.W.Frag} {env : List Sl} {b : Option Addr} {ms : Ms} {te ta tb : TE} {P Pa Pb : PyData → Prop} {tt tu : TT} {Pt Pu : Bool → Prop} {D : Ends} {tw tz : TS} {ts : TS} {G0 H0 Gs G H : Hp} {σ : L2.St}
theorem en_lst {tr : TA} {M : List PyData} (h : EaP K env b ms tr (Is M)) (hl : M.length ≤ 1000) : EvN K env b ms (tLst tr) (Is M) := en_lstP h fun l e => by rw [e]; exact hl
theorem s_extD {i n : Nat} {l : Addr} {L M : List PyData} (A : At K env b ms G0 H0 Gs σ G H) (hi : env[i]? = some (.a l)) (hm : ms[n]? = some (l, L.map .d)) (h : EvN K env b ms te (Is M)) (hz : L.length ≤ 1000) (hz2 : M.length ≤ 1000)
    (k : ∀ G' H', At K env b (ms.set n (l, (L ++ M).map .d)) G0 H0 Gs σ G' H' → D.nx σ H') : tDrop (tBM K "list" rExtend (tVar i) (tCons te tNil)) D σ H :=
  s_ext A hi hm h (by rw [List.length_map]; omega) (fun ds e => by rw [e]; omega) fun ds G' H' e A' => by
    subst e
    rw [← List.map_append] at A'
    exact k G' H' A'
theorem q_extD {i n : Nat} {l : Addr} {L M : List PyData} (A : At K env b ms G0 H0 Gs σ G H) (hi : env[i]? = some (.a l)) (hm : ms[n]? = some (l, L.map .d)) (h : EvN K env b ms te (Is M)) (hz : L.length ≤ 1000) (hz2 : M.length ≤ 1000)
    (k : ∀ G' H', At K env b (ms.set n (l, (L ++ M).map .d)) G0 H0 Gs σ G' H' → tz D σ H') : tSeq (tDrop (tBM K "list" rExtend (tVar i) (tCons te tNil))) tz D σ H := s_extD (D := { D with nx := tz D }) A hi hm h hz hz2 k
theorem s_appD {i n : Nat} {l : Addr} {L : List PyData} {d : PyData} (A : At K env b ms G0 H0 Gs σ G H) (hi : env[i]? = some (.a l)) (hm : ms[n]? = some (l, L.map .d)) (h : EvP K env b ms te (Is d)) (hz : L.length ≤ 1000)
    (k : ∀ G' H', At K env b (ms.set n (l, (L ++ [d]).map .d)) G0 H0 Gs σ G' H' → D.nx σ H') : tDrop (tBM K "list" rAppend (tVar i) (tCons te tNil)) D σ H :=
  s_app A hi hm h (by rw [List.length_map]; omega) fun x G' H' e A' => by
    subst e
    have e2 : (L.map Sl.d ++ [Sl.d x]) = (L ++ [x]).map Sl.d := by rw [List.map_append]; rfl
    rw [e2] at A'
    exact k G' H' A'
theorem q_appD {i n : Nat} {l : Addr} {L : List PyData} {d : PyData} (A : At K env b ms G0 H0 Gs σ G H) (hi : env[i]? = some (.a l)) (hm : ms[n]? = some (l, L.map .d)) (h : EvP K env b ms te (Is d)) (hz : L.length ≤ 1000)
    (k : ∀ G' H', At K env b (ms.set n (l, (L ++ [d]).map .d)) G0 H0 Gs σ G' H' → tz D σ H') : tSeq (tDrop (tBM K "list" rAppend (tVar i) (tCons te tNil))) tz D σ H := s_appD (D := { D with nx := tz D }) A hi hm h hz k
/-- all slots but the bag's are forgotten -/
theorem At.base {x : Addr} (A : At K env b [] G0 H0 Gs σ G H) (h : env[1]? = some (.a x)) : At K (.un :: .a x :: List.replicate (env.length - 2) .un) b [] G0 H0 Gs σ G H := by
  have hl : 1 < env.length := (List.getElem?_eq_some_iff.mp h).1
  refine ⟨⟨by rw [A.env.1]; simp; omega, fun i e he => ?_⟩, A.gr, A.sg, A.j, A.own, A.nd⟩
  have key : ∀ i, i < env.length → ∃ s : Option V, σ[i]? = some s := fun i hi => ⟨_, List.getElem?_eq_getElem (by rw [A.env.1]; exact hi)⟩
  match i, he with
  | 0, he => cases he; obtain ⟨s, hs⟩ := key 0 (by omega); exact ⟨s, hs, trivial⟩
  | 1, he => cases he; exact A.env.2 1 _ h
  | i + 2, he =>
    simp only [List.getElem?_cons_succ, List.getElem?_replicate] at he
    split at he
    · cases he
      obtain ⟨s, hs⟩ := key (i + 2) (by omega)
      exact ⟨s, hs, trivial⟩
    · cases he
theorem ev_alike {i j : Nat} {L : List PyData} (hi : env[i]? = some (.d (.list L))) (hj : env[j]? = some (.d (.list L))) (sm : SmA L 80000 59) : EvP K env b ms (tCall (spAlike K) [] E0 (tCons (tVar i) (tCons (tVar j) tNil))) (Is (.bool true)) := fun σ G H e s jb Q k => by
  obtain ⟨v, e1, p1⟩ := e.get hi
  obtain ⟨w, e2, p2⟩ := e.get hj
  exact ⟨v, e1, w, e2, rfl, L, G, s, .cons p1 (.cons p2 .nil), sm, fun G' H' g => k _ _ G' H' g.no (jb.grow g) (.bl true) rfl⟩
end
/-! ### what the law says of fractions -/
theorem frD_eq (n d : Int) : fr n d = FrD (frN n d) (frD n d) := rfl
theorem back1 {a b c d : Int} (hb : 0 < b) (hd : 0 < d) (h : Nat.gcd a.natAbs b.natAbs = 1) : fPlus [fMinus [FrD a b, FrD c d], FrD c d] = FrD a b := by
  have q : b * d ≠ 0 := Int.mul_ne_zero (by omega) (by omega)
  have x := fr_cross (a * d - c * b) (b * d) q
  have p := frD_pos (n := a * d - c * b) q
  show fr (frN (a * d - c * b) (b * d) * d + c * frD (a * d - c * b) (b * d)) (frD (a * d - c * b) (b * d) * d) = FrD a b
  rw [show FrD a b = fr a b from (fr_self hb h).symm]
  refine fr_eq (Int.mul_ne_zero (by omega) (by omega)) (by omega) ?_
  generalize frN (a * d - c * b) (b * d) = u at x ⊢
  generalize frD (a * d - c * b) (b * d) = v at x p ⊢
  grind
theorem back2 {a b c d : Int} (hb : 0 < b) (hd : 0 < d) (hc : c ≠ 0) (h : Nat.gcd a.natAbs b.natAbs = 1) : fTimes [fOver [FrD a b, FrD c d], FrD c d] = FrD a b := by
  have q : b * c ≠ 0 := Int.mul_ne_zero (by omega) hc
  have x := fr_cross (a * d) (b * c) q
  have p := frD_pos (n := a * d) q
  show fr (frN (a * d) (b * c) * c) (frD (a * d) (b * c) * d) = FrD a b
  rw [show FrD a b = fr a b from (fr_self hb h).symm]
  refine fr_eq (Int.mul_ne_zero (by omega) (by omega)) (by omega) ?_
  generalize frN (a * d) (b * c) = u at x ⊢
  generalize frD (a * d) (b * c) = v at x p ⊢
  grind
theorem floor_fr {n d : Int} (h : 0 < d) : fFloor [fr n d] = .int (n / d) := by
  show PyData.int (frN n d / frD n d) = .int (n / d)
  have e1 := fr_mulN n d (by omega)
  have e2 := fr_mulD n d (by omega)
  rw [if_neg (by omega)] at e1 e2
  have g := gI_pos (n := n) (d := d) (by omega)
  have key : ∀ u v g n d : Int, u * g = n → v * g = d → 0 < g → n / d = u / v := fun u v g n d h1 h2 h3 => by
    rw [← h1, ← h2, Int.mul_comm u, Int.mul_comm v]
    exact Int.mul_ediv_mul_of_pos _ _ h3
  have e3 := key _ _ _ _ _ e1 e2 g
  rw [e3]
theorem sign_fr {n d : Int} (h : 0 < d) : fSign [fr n d] = .int (if n = 0 then 0 else if 0 < n then 1 else -1) := by
  show PyData.int (if frN n d = 0 then 0 else if 0 < frN n d then 1 else -1) = _
  have e1 := fr_mulN n d (by omega)
  rw [if_neg (by omega)] at e1
  have g := gI_pos (n := n) (d := d) (by omega)
  congr 1
  by_cases h0 : n = 0
  · have : frN n d = 0 := by
      rw [h0] at e1 ⊢
      rcases Int.mul_eq_zero.mp e1 with z | z
      · exact z
      · rw [h0] at g; omega
    rw [if_pos h0, if_pos this]
  · have n0 : frN n d ≠ 0 := fun z => h0 (by rw [← e1, z, Int.zero_mul])
    rw [if_neg h0, if_neg n0]
    by_cases h1 : 0 < n
    · have : 0 < frN n d := by
        rcases Int.lt_trichotomy (frN n d) 0 with z | z | z
        · have := Int.mul_neg_of_neg_of_pos z g; omega
        · exact absurd z n0
        · exact z
      rw [if_pos h1, if_pos this]
    · have : ¬ 0 < frN n d := fun z => by have := Int.mul_pos z g; omega
      rw [if_neg h1, if_neg this]
theorem sgn_two (a : Int) : (if decide (0 < a) = true then (1 : Int) else 0) - (if decide (a < 0) = true then 1 else 0) = (if a = 0 then 0 else if 0 < a then 1 else -1) := by
  by_cases h0 : a = 0
  · subst h0; rfl
  · by_cases h1 : 0 < a
    · have : ¬ a < 0 := by omega
      simp [h0, h1, this]
    · have : a < 0 := by omega
      simp [h0, h1, this]
/-- a drawn fraction -/
structure Dr (a b : Int) : Prop where
  b0 : 0 < b
  b1 : b ≤ 500000001
  a1 : a.natAbs ≤ 500000000
  co : Nat.gcd a.natAbs b.natAbs = 1
theorem Dr.s {a b : Int} (h : Dr a b) : Fs a b := ⟨h.b0, by have := h.a1; omega, by have := h.b1; have := h.b0; omega⟩
theorem drawn_dr {d : PyData} (h : drawnR [] d) : ∃ a b, d = FrD a b ∧ Dr a b := by
  obtain ⟨n, m, rfl, m0, m1, n1⟩ := h
  have h1 := frN_le n m (by omega)
  have h2 := frD_le n m (by omega)
  have h3 := frD_pos (n := n) (d := m) (by omega)
  exact ⟨_, _, rfl, h3, by omega, by omega, fr_cop n m (by omega)⟩
/-- small enough to be shown among many -/
abbrev El (x : PyData) : Prop := Sm x 2100 10
theorem el_fr {a b : Int} (h1 : a.natAbs < 2 ^ 200) (h2 : b.natAbs < 2 ^ 200) : Sm (FrD a b) 402 1 := sm_tup (sma_cons (sm_int h1) (sma_cons (sm_int h2) sma_nil))
theorem El.fr {n d : Int} (h : d ≠ 0) (h1 : n.natAbs < 2 ^ 200) (h2 : d.natAbs < 2 ^ 200) : El (fr n d) :=
  (el_fr (Nat.lt_of_le_of_lt (frN_le n d h) h1) (Nat.lt_of_le_of_lt (frD_le n d h) h2)).le (by decide) (by decide)
theorem El.int {i : Int} (h : i.natAbs < 2 ^ 200) : El (.int i) := (sm_int (h := 0) h).le (by decide) (by decide)
theorem El.bool {c : Bool} : El (.bool c) := (sm_bool (h := 0)).le (by decide) (by decide)
theorem El.vec {l : List PyData} (h : ∀ x ∈ l, Sm x 402 1) (hl : l.length ≤ 5) : El (.tuple l) := (sm_tup (sma_all h)).le (by have := Nat.mul_le_mul_left 403 hl; omega) (by decide)
theorem lt200 {x : Int} {a : Nat} (h : x.natAbs < 2 ^ a) (ha : a ≤ 200) : x.natAbs < 2 ^ 200 := Nat.lt_of_lt_of_le h (Nat.pow_le_pow_right (by decide) ha)
end Dl
namespace Dl
open PySem PySem.Spec PyProof.Rows L2
section
variable {K : PySem.W.Frag} {env : List Sl} {b : Option Addr} {ms : Ms} {n : Nat} {dom : List PyData → Prop} {R : List PyData → PyData → Prop}
theorem ev_callV {t : TA} {ds : List PyData} {v : PyData} (ha : EaP K env b ms t (Is ds)) (hl : ds.length = n) (hd : dom ds) (hR : ∀ d, R ds d → d = v) : EvP K env b ms (tCall (spR K n dom R) [] E0 t) (Is v) :=
  ev_imp (ev_callR ha fun l e => by rw [e]; exact ⟨hl, hd⟩) fun d ⟨l, e, r⟩ => hR d (by rw [← e]; exact r)
end
theorem smfr {n d : Int} (h : d ≠ 0) (h1 : n.natAbs < 2 ^ 200) (h2 : d.natAbs < 2 ^ 200) : Sm (fr n d) 402 1 :=
  el_fr (Nat.lt_of_le_of_lt (frN_le n d h) h1) (Nat.lt_of_le_of_lt (frD_le n d h) h2)
theorem sfs_plus {xs ys : List PyData} (hx : SFs xs) (hy : SFs ys) : ∀ z ∈ (pairs xs ys).map (onPair fPlus), Sm z 402 1 := by
  intro z hz
  obtain ⟨w, hw, rfl⟩ := List.mem_map.mp hz
  obtain ⟨p, q, rfl, hp, hq⟩ := pairs_mem hw
  obtain ⟨a, c, rfl, s1, s2, s3⟩ := hx p hp
  obtain ⟨a', c', rfl, t1, t2, t3⟩ := hy q hq
  have m1 := nat_mul_lt s2 t3
  have m2 := nat_mul_lt t2 s3
  have m3 := nat_mul_lt s3 t3
  show Sm (fr (a * c' + a' * c) (c * c')) 402 1
  exact smfr (Int.mul_ne_zero (by omega) (by omega)) (lt200 (a := 127) (by omega) (by decide)) (lt200 m3 (by decide))
theorem sfs_minus {xs ys : List PyData} (hx : SFs xs) (hy : SFs ys) : ∀ z ∈ (pairs xs ys).map (onPair fMinus), Sm z 402 1 := by
  intro z hz
  obtain ⟨w, hw, rfl⟩ := List.mem_map.mp hz
  obtain ⟨p, q, rfl, hp, hq⟩ := pairs_mem hw
  obtain ⟨a, c, rfl, s1, s2, s3⟩ := hx p hp
  obtain ⟨a', c', rfl, t1, t2, t3⟩ := hy q hq
  have m1 := nat_mul_lt s2 t3
  have m2 := nat_mul_lt t2 s3
  have m3 := nat_mul_lt s3 t3
  show Sm (fr (a * c' - a' * c) (c * c')) 402 1
  exact smfr (Int.mul_ne_zero (by omega) (by omega)) (lt200 (a := 127) (by omega) (by decide)) (lt200 m3 (by decide))
theorem sfs_times {a c : Int} {ys : List PyData} (hx : Fs a c) (hy : SFs ys) : ∀ z ∈ ys.map (fun y => fTimes [FrD a c, y]), Sm z 402 1 := by
  intro z hz
  obtain ⟨w, hw, rfl⟩ := List.mem_map.mp hz
  obtain ⟨a', c', rfl, t1, t2, t3⟩ := hy w hw
  obtain ⟨s1, s2, s3⟩ := hx
  have m1 := nat_mul_lt s2 t2
  have m3 := nat_mul_lt s3 t3
  show Sm (fr (a * a') (c * c')) 402 1
  exact smfr (Int.mul_ne_zero (by omega) (by omega)) (lt200 m1 (by decide)) (lt200 m3 (by decide))
theorem stand_sfs {n : PyData} {d : PyData} (h : standR [n] d) : ∃ (m : Nat) (xs : List PyData), n = .int (m : Nat) ∧ d = .tuple xs ∧ xs.length = m ∧ SFs xs := by
  obtain ⟨m, xs, e, rfl, hl, hx⟩ := h
  cases e
  refine ⟨m, xs, rfl, rfl, hl, fun z hz => ?_⟩
  obtain ⟨a, c, rfl, c0, c1, a1⟩ := hx z hz
  have h1 := frN_le a c (by omega)
  have h2 := frD_le a c (by omega)
  exact ⟨_, _, rfl, frD_pos (by omega), by omega, by omega⟩
end Dl
set_option Elab.async false
set_option linter.all false
set_option maxRecDepth 100000
set_option maxHeartbeats 4000000
namespace K03
open PySem L2 Dl
def top (i : Nat) : Stmt := PySem.Challenge.pw_heldthrough_k03_fractions_and_vectors_re.main.body.getD i (.Pass ⟨0, 0, 0, 0⟩)
abbrev s_fraction : Stmt := top 2
abbrev N_fraction : List Str := ["num", "den", "common"]
theorem sc_fraction : FnScope N_fraction ["num", "den"] (defScope s_fraction) := ⟨rfl, rfl, rfl, by decide +kernel, rfl, by decide +kernel, by decide +kernel⟩
theorem nd_fraction : (N_fraction).Nodup := sc_fraction.nd
abbrev s_whole : Stmt := top 3
abbrev N_whole : List Str := ["integer"]
theorem sc_whole : FnScope N_whole ["integer"] (defScope s_whole) := ⟨rfl, rfl, rfl, by decide +kernel, rfl, by decide +kernel, by decide +kernel⟩
theorem nd_whole : (N_whole).Nodup := sc_whole.nd
abbrev s_plus : Stmt := top 4
abbrev N_plus : List Str := ["one", "other"]
theorem sc_plus : FnScope N_plus ["one", "other"] (defScope s_plus) := ⟨rfl, rfl, rfl, by decide +kernel, rfl, by decide +kernel, by decide +kernel⟩
theorem nd_plus : (N_plus).Nodup := sc_plus.nd
abbrev s_minus : Stmt := top 5
abbrev N_minus : List Str := ["one", "other"]
theorem sc_minus : FnScope N_minus ["one", "other"] (defScope s_minus) := ⟨rfl, rfl, rfl, by decide +kernel, rfl, by decide +kernel, by decide +kernel⟩
theorem nd_minus : (N_minus).Nodup := sc_minus.nd
abbrev s_times : Stmt := top 6
abbrev N_times : List Str := ["one", "other"]
theorem sc_times : FnScope N_times ["one", "other"] (defScope s_times) := ⟨rfl, rfl, rfl, by decide +kernel, rfl, by decide +kernel, by decide +kernel⟩
theorem nd_times : (N_times).Nodup := sc_times.nd
abbrev s_over : Stmt := top 7
abbrev N_over : List Str := ["one", "other"]
theorem sc_over : FnScope N_over ["one", "other"] (defScope s_over) := ⟨rfl, rfl, rfl, by decide +kernel, rfl, by decide +kernel, by decide +kernel⟩
theorem nd_over : (N_over).Nodup := sc_over.nd
abbrev s_is_less : Stmt := top 8
abbrev N_is_less : List Str := ["one", "other"]
theorem sc_is_less : FnScope N_is_less ["one", "other"] (defScope s_is_less) := ⟨rfl, rfl, rfl, by decide +kernel, rfl, by decide +kernel, by decide +kernel⟩
theorem nd_is_less : (N_is_less).Nodup := sc_is_less.nd
abbrev s_is_at_most : Stmt := top 9
abbrev N_is_at_most : List Str := ["one", "other"]
theorem sc_is_at_most : FnScope N_is_at_most ["one", "other"] (defScope s_is_at_most) := ⟨rfl, rfl, rfl, by decide +kernel, rfl, by decide +kernel, by decide +kernel⟩
theorem nd_is_at_most : (N_is_at_most).Nodup := sc_is_at_most.nd
abbrev s_sign_of : Stmt := top 10
abbrev N_sign_of : List Str := ["one"]
theorem sc_sign_of : FnScope N_sign_of ["one"] (defScope s_sign_of) := ⟨rfl, rfl, rfl, by decide +kernel, rfl, by decide +kernel, by decide +kernel⟩
theorem nd_sign_of : (N_sign_of).Nodup := sc_sign_of.nd
abbrev s_floor_of : Stmt := top 11
abbrev N_floor_of : List Str := ["one"]
theorem sc_floor_of : FnScope N_floor_of ["one"] (defScope s_floor_of) := ⟨rfl, rfl, rfl, by decide +kernel, rfl, by decide +kernel, by decide +kernel⟩
theorem nd_floor_of : (N_floor_of).Nodup := sc_floor_of.nd
abbrev s_nought : Stmt := top 12
abbrev N_nought : List Str := ["frame"]
theorem sc_nought : FnScope N_nought ["frame"] (defScope s_nought) := ⟨rfl, rfl, rfl, by decide +kernel, rfl, by decide +kernel, by decide +kernel⟩
theorem nd_nought : (N_nought).Nodup := sc_nought.nd
abbrev s_added : Stmt := top 13
abbrev N_added : List Str := ["one", "other", "mine", "yours"]
theorem sc_added : FnScope N_added ["one", "other"] (defScope s_added) := ⟨rfl, rfl, rfl, by decide +kernel, rfl, by decide +kernel, by decide +kernel⟩
theorem nd_added : (N_added).Nodup := sc_added.nd
abbrev s_less : Stmt := top 14
abbrev N_less : List Str := ["one", "other", "mine", "yours"]
theorem sc_less : FnScope N_less ["one", "other"] (defScope s_less) := ⟨rfl, rfl, rfl, by decide +kernel, rfl, by decide +kernel, by decide +kernel⟩
theorem nd_less : (N_less).Nodup := sc_less.nd
abbrev s_multiple : Stmt := top 15
abbrev N_multiple : List Str := ["share", "vector", "number"]
theorem sc_multiple : FnScope N_multiple ["share", "vector"] (defScope s_multiple) := ⟨rfl, rfl, rfl, by decide +kernel, rfl, by decide +kernel, by decide +kernel⟩
theorem nd_multiple : (N_multiple).Nodup := sc_multiple.nd
abbrev s_vector_of : Stmt := top 16
abbrev N_vector_of : List Str := ["numbers", "number"]
theorem sc_vector_of : FnScope N_vector_of ["numbers"] (defScope s_vector_of) := ⟨rfl, rfl, rfl, by decide +kernel, rfl, by decide +kernel, by decide +kernel⟩
theorem nd_vector_of : (N_vector_of).Nodup := sc_vector_of.nd
abbrev s__law_bag : Stmt := top 18
abbrev N__law_bag : List Str := ["script", "cell"]
theorem sc__law_bag : FnScope N__law_bag ["script"] (defScope s__law_bag) := ⟨rfl, rfl, rfl, by decide +kernel, rfl, by decide +kernel, by decide +kernel⟩
theorem nd__law_bag : (N__law_bag).Nodup := sc__law_bag.nd
abbrev s__law_take : Stmt := top 19
abbrev N__law_take : List Str := ["bag", "many", "cell", "stirred", "drawn", "begin", "second"]
theorem sc__law_take : FnScope N__law_take ["bag", "many"] (defScope s__law_take) := ⟨rfl, rfl, rfl, by decide +kernel, rfl, by decide +kernel, by decide +kernel⟩
theorem nd__law_take : (N__law_take).Nodup := sc__law_take.nd
abbrev s__law_some : Stmt := top 20
abbrev N__law_some : List Str := ["bag", "things"]
theorem sc__law_some : FnScope N__law_some ["bag", "things"] (defScope s__law_some) := ⟨rfl, rfl, rfl, by decide +kernel, rfl, by decide +kernel, by decide +kernel⟩
theorem nd__law_some : (N__law_some).Nodup := sc__law_some.nd
abbrev s__law_mixed : Stmt := top 21
abbrev N__law_mixed : List Str := ["bag", "things", "found", "thing"]
theorem sc__law_mixed : FnScope N__law_mixed ["bag", "things"] (defScope s__law_mixed) := ⟨rfl, rfl, rfl, by decide +kernel, rfl, by decide +kernel, by decide +kernel⟩
theorem nd__law_mixed : (N__law_mixed).Nodup := sc__law_mixed.nd
abbrev s__law_alike : Stmt := top 22
abbrev N__law_alike : List Str := ["found", "due"]
theorem sc__law_alike : FnScope N__law_alike ["found", "due"] (defScope s__law_alike) := ⟨rfl, rfl, rfl, by decide +kernel, rfl, by decide +kernel, by decide +kernel⟩
theorem nd__law_alike : (N__law_alike).Nodup := sc__law_alike.nd
abbrev s__law_gcd : Stmt := top 23
abbrev N__law_gcd : List Str := ["one", "other"]
theorem sc__law_gcd : FnScope N__law_gcd ["one", "other"] (defScope s__law_gcd) := ⟨rfl, rfl, rfl, by decide +kernel, rfl, by decide +kernel, by decide +kernel⟩
theorem nd__law_gcd : (N__law_gcd).Nodup := sc__law_gcd.nd
abbrev s__law_fr : Stmt := top 24
abbrev N__law_fr : List Str := ["num", "den", "common"]
theorem sc__law_fr : FnScope N__law_fr ["num", "den"] (defScope s__law_fr) := ⟨rfl, rfl, rfl, by decide +kernel, rfl, by decide +kernel, by decide +kernel⟩
theorem nd__law_fr : (N__law_fr).Nodup := sc__law_fr.nd
abbrev s__law_plus : Stmt := top 25
abbrev N__law_plus : List Str := ["one", "other"]
theorem sc__law_plus : FnScope N__law_plus ["one", "other"] (defScope s__law_plus) := ⟨rfl, rfl, rfl, by decide +kernel, rfl, by decide +kernel, by decide +kernel⟩
theorem nd__law_plus : (N__law_plus).Nodup := sc__law_plus.nd
abbrev s__law_minus : Stmt := top 26
abbrev N__law_minus : List Str := ["one", "other"]
theorem sc__law_minus : FnScope N__law_minus ["one", "other"] (defScope s__law_minus) := ⟨rfl, rfl, rfl, by decide +kernel, rfl, by decide +kernel, by decide +kernel⟩
theorem nd__law_minus : (N__law_minus).Nodup := sc__law_minus.nd
abbrev s__law_times : Stmt := top 27
abbrev N__law_times : List Str := ["one", "other"]
theorem sc__law_times : FnScope N__law_times ["one", "other"] (defScope s__law_times) := ⟨rfl, rfl, rfl, by decide +kernel, rfl, by decide +kernel, by decide +kernel⟩
theorem nd__law_times : (N__law_times).Nodup := sc__law_times.nd
abbrev s__law_over : Stmt := top 28
abbrev N__law_over : List Str := ["one", "other"]
theorem sc__law_over : FnScope N__law_over ["one", "other"] (defScope s__law_over) := ⟨rfl, rfl, rfl, by decide +kernel, rfl, by decide +kernel, by decide +kernel⟩
theorem nd__law_over : (N__law_over).Nodup := sc__law_over.nd
abbrev s__law_below : Stmt := top 29
abbrev N__law_below : List Str := ["one", "other"]
theorem sc__law_below : FnScope N__law_below ["one", "other"] (defScope s__law_below) := ⟨rfl, rfl, rfl, by decide +kernel, rfl, by decide +kernel, by decide +kernel⟩
theorem nd__law_below : (N__law_below).Nodup := sc__law_below.nd
abbrev s__law_vector : Stmt := top 30
abbrev N__law_vector : List Str := ["numbers", "one"]
theorem sc__law_vector : FnScope N__law_vector ["numbers"] (defScope s__law_vector) := ⟨rfl, rfl, rfl, by decide +kernel, rfl, by decide +kernel, by decide +kernel⟩
theorem nd__law_vector : (N__law_vector).Nodup := sc__law_vector.nd
abbrev s__law_added : Stmt := top 31
abbrev N__law_added : List Str := ["one", "other", "p", "q"]
theorem sc__law_added : FnScope N__law_added ["one", "other"] (defScope s__law_added) := ⟨rfl, rfl, rfl, by decide +kernel, rfl, by decide +kernel, by decide +kernel⟩
theorem nd__law_added : (N__law_added).Nodup := sc__law_added.nd
abbrev s__law_less : Stmt := top 32
abbrev N__law_less : List Str := ["one", "other", "p", "q"]
theorem sc__law_less : FnScope N__law_less ["one", "other"] (defScope s__law_less) := ⟨rfl, rfl, rfl, by decide +kernel, rfl, by decide +kernel, by decide +kernel⟩
theorem nd__law_less : (N__law_less).Nodup := sc__law_less.nd
abbrev s__law_multiple : Stmt := top 33
abbrev N__law_multiple : List Str := ["share", "vector", "p"]
theorem sc__law_multiple : FnScope N__law_multiple ["share", "vector"] (defScope s__law_multiple) := ⟨rfl, rfl, rfl, by decide +kernel, rfl, by decide +kernel, by decide +kernel⟩
theorem nd__law_multiple : (N__law_multiple).Nodup := sc__law_multiple.nd
abbrev s__law_frame : Stmt := top 34
abbrev N__law_frame : List Str := ["bag", "most", "names", "cells", "way", "share", "free", "groups", "cell", "one", "group"]
theorem sc__law_frame : FnScope N__law_frame ["bag", "most"] (defScope s__law_frame) := ⟨rfl, rfl, rfl, by decide +kernel, rfl, by decide +kernel, by decide +kernel⟩
theorem nd__law_frame : (N__law_frame).Nodup := sc__law_frame.nd
abbrev s__law_stand : Stmt := top 35
abbrev N__law_stand : List Str := ["bag", "many", "den", "at"]
theorem sc__law_stand : FnScope N__law_stand ["bag", "many"] (defScope s__law_stand) := ⟨rfl, rfl, rfl, by decide +kernel, rfl, by decide +kernel, by decide +kernel⟩
theorem nd__law_stand : (N__law_stand).Nodup := sc__law_stand.nd
abbrev s__law_reading : Stmt := top 36
abbrev N__law_reading : List Str := ["bag", "many", "way", "at", "other", "spot"]
theorem sc__law_reading : FnScope N__law_reading ["bag", "many"] (defScope s__law_reading) := ⟨rfl, rfl, rfl, by decide +kernel, rfl, by decide +kernel, by decide +kernel⟩
theorem nd__law_reading : (N__law_reading).Nodup := sc__law_reading.nd
abbrev s__law_number : Stmt := top 37
abbrev N__law_number : List Str := ["bag", "way"]
theorem sc__law_number : FnScope N__law_number ["bag"] (defScope s__law_number) := ⟨rfl, rfl, rfl, by decide +kernel, rfl, by decide +kernel, by decide +kernel⟩
theorem nd__law_number : (N__law_number).Nodup := sc__law_number.nd
abbrev s__law_drawn_fraction : Stmt := top 38
abbrev N__law_drawn_fraction : List Str := ["bag"]
theorem sc__law_drawn_fraction : FnScope N__law_drawn_fraction ["bag"] (defScope s__law_drawn_fraction) := ⟨rfl, rfl, rfl, by decide +kernel, rfl, by decide +kernel, by decide +kernel⟩
theorem nd__law_drawn_fraction : (N__law_drawn_fraction).Nodup := sc__law_drawn_fraction.nd
abbrev s__law_floor : Stmt := top 39
abbrev N__law_floor : List Str := ["one"]
theorem sc__law_floor : FnScope N__law_floor ["one"] (defScope s__law_floor) := ⟨rfl, rfl, rfl, by decide +kernel, rfl, by decide +kernel, by decide +kernel⟩
theorem nd__law_floor : (N__law_floor).Nodup := sc__law_floor.nd
abbrev s_law : Stmt := top 40
abbrev N_law : List Str := ["script", "bag", "step", "one", "other", "num", "den", "told", "due", "near", "first", "second", "frame", "many", "numbers"]
theorem sc_law : FnScope N_law ["script"] (defScope s_law) := ⟨rfl, rfl, rfl, by decide +kernel, rfl, by decide +kernel, by decide +kernel⟩
theorem nd_law : (N_law).Nodup := sc_law.nd
structure Txt (K : PySem.W.Frag) (mg : Str → Option Value) where
  f_fraction : Addr
  g_fraction : FuncData
  d_fraction : Dc K mg "fraction" s_fraction ["num", "den"] f_fraction g_fraction
  f_whole : Addr
  g_whole : FuncData
  d_whole : Dc K mg "whole" s_whole ["integer"] f_whole g_whole
  f_plus : Addr
  g_plus : FuncData
  d_plus : Dc K mg "plus" s_plus ["one", "other"] f_plus g_plus
  f_minus : Addr
  g_minus : FuncData
  d_minus : Dc K mg "minus" s_minus ["one", "other"] f_minus g_minus
  f_times : Addr
  g_times : FuncData
  d_times : Dc K mg "times" s_times ["one", "other"] f_times g_times
  f_over : Addr
  g_over : FuncData
  d_over : Dc K mg "over" s_over ["one", "other"] f_over g_over
  f_is_less : Addr
  g_is_less : FuncData
  d_is_less : Dc K mg "is_less" s_is_less ["one", "other"] f_is_less g_is_less
  f_is_at_most : Addr
  g_is_at_most : FuncData
  d_is_at_most : Dc K mg "is_at_most" s_is_at_most ["one", "other"] f_is_at_most g_is_at_most
  f_sign_of : Addr
  g_sign_of : FuncData
  d_sign_of : Dc K mg "sign_of" s_sign_of ["one"] f_sign_of g_sign_of
  f_floor_of : Addr
  g_floor_of : FuncData
  d_floor_of : Dc K mg "floor_of" s_floor_of ["one"] f_floor_of g_floor_of
  f_nought : Addr
  g_nought : FuncData
  d_nought : Dc K mg "nought" s_nought ["frame"] f_nought g_nought
  f_added : Addr
  g_added : FuncData
  d_added : Dc K mg "added" s_added ["one", "other"] f_added g_added
  f_less : Addr
  g_less : FuncData
  d_less : Dc K mg "less" s_less ["one", "other"] f_less g_less
  f_multiple : Addr
  g_multiple : FuncData
  d_multiple : Dc K mg "multiple" s_multiple ["share", "vector"] f_multiple g_multiple
  f_vector_of : Addr
  g_vector_of : FuncData
  d_vector_of : Dc K mg "vector_of" s_vector_of ["numbers"] f_vector_of g_vector_of
  f__law_bag : Addr
  g__law_bag : FuncData
  d__law_bag : Dc K mg "_law_bag" s__law_bag ["script"] f__law_bag g__law_bag
  f__law_take : Addr
  g__law_take : FuncData
  d__law_take : Dc K mg "_law_take" s__law_take ["bag", "many"] f__law_take g__law_take
  f__law_some : Addr
  g__law_some : FuncData
  d__law_some : Dc K mg "_law_some" s__law_some ["bag", "things"] f__law_some g__law_some
  f__law_mixed : Addr
  g__law_mixed : FuncData
  d__law_mixed : Dc K mg "_law_mixed" s__law_mixed ["bag", "things"] f__law_mixed g__law_mixed
  f__law_alike : Addr
  g__law_alike : FuncData
  d__law_alike : Dc K mg "_law_alike" s__law_alike ["found", "due"] f__law_alike g__law_alike
  f__law_gcd : Addr
  g__law_gcd : FuncData
  d__law_gcd : Dc K mg "_law_gcd" s__law_gcd ["one", "other"] f__law_gcd g__law_gcd
  f__law_fr : Addr
  g__law_fr : FuncData
  d__law_fr : Dc K mg "_law_fr" s__law_fr ["num", "den"] f__law_fr g__law_fr
  f__law_plus : Addr
  g__law_plus : FuncData
  d__law_plus : Dc K mg "_law_plus" s__law_plus ["one", "other"] f__law_plus g__law_plus
  f__law_minus : Addr
  g__law_minus : FuncData
  d__law_minus : Dc K mg "_law_minus" s__law_minus ["one", "other"] f__law_minus g__law_minus
  f__law_times : Addr
  g__law_times : FuncData
  d__law_times : Dc K mg "_law_times" s__law_times ["one", "other"] f__law_times g__law_times
  f__law_over : Addr
  g__law_over : FuncData
  d__law_over : Dc K mg "_law_over" s__law_over ["one", "other"] f__law_over g__law_over
  f__law_below : Addr
  g__law_below : FuncData
  d__law_below : Dc K mg "_law_below" s__law_below ["one", "other"] f__law_below g__law_below
  f__law_vector : Addr
  g__law_vector : FuncData
  d__law_vector : Dc K mg "_law_vector" s__law_vector ["numbers"] f__law_vector g__law_vector
  f__law_added : Addr
  g__law_added : FuncData
  d__law_added : Dc K mg "_law_added" s__law_added ["one", "other"] f__law_added g__law_added
  f__law_less : Addr
  g__law_less : FuncData
  d__law_less : Dc K mg "_law_less" s__law_less ["one", "other"] f__law_less g__law_less
  f__law_multiple : Addr
  g__law_multiple : FuncData
  d__law_multiple : Dc K mg "_law_multiple" s__law_multiple ["share", "vector"] f__law_multiple g__law_multiple
  f__law_frame : Addr
  g__law_frame : FuncData
  d__law_frame : Dc K mg "_law_frame" s__law_frame ["bag", "most"] f__law_frame g__law_frame
  f__law_stand : Addr
  g__law_stand : FuncData
  d__law_stand : Dc K mg "_law_stand" s__law_stand ["bag", "many"] f__law_stand g__law_stand
  f__law_reading : Addr
  g__law_reading : FuncData
  d__law_reading : Dc K mg "_law_reading" s__law_reading ["bag", "many"] f__law_reading g__law_reading
  f__law_number : Addr
  g__law_number : FuncData
  d__law_number : Dc K mg "_law_number" s__law_number ["bag"] f__law_number g__law_number
  f__law_drawn_fraction : Addr
  g__law_drawn_fraction : FuncData
  d__law_drawn_fraction : Dc K mg "_law_drawn_fraction" s__law_drawn_fraction ["bag"] f__law_drawn_fraction g__law_drawn_fraction
  f__law_floor : Addr
  g__law_floor : FuncData
  d__law_floor : Dc K mg "_law_floor" s__law_floor ["one"] f__law_floor g__law_floor
  f_law : Addr
  g_law : FuncData
  d_law : Dc K mg "law" s_law ["script"] f_law g_law
  b_abs : mg "abs" = none
  b_int : mg "int" = none
  b_len : mg "len" = none
  b_range : mg "range" = none
  b_repr : mg "repr" = none
  b_tuple : mg "tuple" = none
  b_zip : mg "zip" = none
  i_gcd : mg "gcd" = some (.builtin "math.gcd")
end K03
set_option Elab.async false
set_option linter.all false
set_option maxRecDepth 100000
set_option maxHeartbeats 4000000
namespace K03
open PySem L2 Dl
section
variable {P : Program} {w : World} {K : PySem.W.Frag} {mg : Str → Option Value} {base : Heap}
abbrev sp_fraction (K : PySem.W.Frag) : Sp := spR K 2 dFrac (fun l x => x = fFrac l)
theorem ok_fraction (T : Txt K mg) : FnOk P w K mg base CX0 1 T.f_fraction T.g_fraction ["num", "den"] (sp_fraction K) := by
  refine T.d_fraction.fn.ok sc_fraction (fun vs H Q E h => ?_) (fun cdv A outer s H vs Q E hr h => ?_)
  · exact spR_len h
  · have nd := nd_fraction
    refine ⟨_, (pss_cons (ps_set (i := 2) nd rfl (Or.inl rfl) (pe_callBfun cr_gcd rfl T.i_gcd (pa_cons (pv 0) (pa_cons (pv 1) pa_nil))))
      (pss_cons (ps_if (pt_cmpR op_lt (pv 1) pe_int (nomark _)) (pss_one (ps_set (i := 2) nd rfl (Or.inl rfl) (pe_un un_neg (pv 2)))) pss_nil)
      (pss_one (ps_ret (pe_tup (pa_cons (pe_op Dl.op_fdivN (pv 0) (pv 2)) (pa_cons (pe_op Dl.op_fdivN (pv 1) (pv 2)) pa_nil))))))), ?_⟩
    obtain ⟨hl, ds, G, sG, da, dm, k⟩ := h
    obtain ⟨n, d, rfl, d0, db⟩ := dm
    have A := at_pure (N := N_fraction) sG da (by rw [hl]; decide)
    refine q_asg A (ev_cb (ea_cons (ev_var rfl) (ea_cons (ev_var rfl) ea_nil)) rc_gcd) fun x σ1 G1 H1 e A1 => ?_
    subst e
    have fin : ∀ (c : Int) (σ' : L2.St) (G' H' : Hp), c = (if d < 0 then -(gI n d) else gI n d) → At K [.d (.int n), .d (.int d), .d (.int c)] none [] G H G σ' G' H' →
        tRet (tTup (tCons (tOp (rI CDivA fun i j => .int (i.fdiv j)) (tVar 0) (tVar 2)) (tCons (tOp (rI CDivA fun i j => .int (i.fdiv j)) (tVar 1) (tVar 2)) tNil))) { nx := fun _ H' => Q .non H', rt := Q } σ' H' := by
      intro c σ' G' H' ec A'
      have g0 := gI_pos (n := n) d0
      have gl := gI_le (n := n) d0
      have cd : CDivA 0 c := by
        refine ⟨by rw [ec]; split <;> omega, ?_⟩
        have h1 : c.natAbs < 2 ^ 4000 := Nat.lt_of_le_of_lt (by rw [ec]; split <;> omega) db
        exact Nat.lt_of_lt_of_le (PySem.Flt.log2_lt_of (by decide) h1) (by decide)
      refine s_ret A' (ev_tup (ea_cons (ev_I (ev_var rfl) (ev_var rfl) cd) (ea_cons (ev_I (ev_var rfl) (ev_var rfl) cd) ea_nil)) (by decide : 2 ≤ 1000)) (fun v x G2 H2 g j p e => k v x G2 H2 g.nob p ?_)
      rw [e, ec]
      show PyData.tuple [.int _, .int _] = fr n d
      rw [fdiv_sign d0 (gI_dvd1 n d), fdiv_sign d0 (gI_dvd2 n d)]
      rfl
    refine q_when A1 (et_T (ev_B0 (ev_var rfl) ev_int)) (fun hc G2 H2 A2 => ?_) (fun hc G2 H2 A2 => ?_)
    · have hd : d < 0 := of_decide_eq_true hc.symm
      refine s_asg A2 (ev_un (ev_var rfl)) fun x σ3 G3 H3 e A3 => ?_
      subst e
      exact fin _ σ3 G3 H3 (by rw [if_pos hd]; rfl) A3
    · have hd : ¬ d < 0 := of_decide_eq_false hc.symm
      exact fin _ _ G2 H2 (by rw [if_neg hd]; rfl) A2
abbrev sp_whole (K : PySem.W.Frag) : Sp := spR K 1 (fun l => ∃ d, l = [d]) (fun l x => x = fWhole l)
theorem ok_whole (T : Txt K mg) : FnOk P w K mg base CX0 1 T.f_whole T.g_whole ["integer"] (sp_whole K) := by
  refine T.d_whole.fn.ok sc_whole (fun vs H Q E h => ?_) (fun cdv A outer s H vs Q E hr h => ?_)
  · exact spR_len h
  · have nd := nd_whole
    refine ⟨_, (pss_one (ps_ret (pe_tup (pa_cons (pv 0) (pa_cons pe_int pa_nil))))), ?_⟩
    obtain ⟨hl, ds, G, sG, da, dm, k⟩ := h
    obtain ⟨d, rfl⟩ := dm
    have A := at_pure (N := N_whole) sG da (by rw [hl]; decide)
    exact s_ret A (ev_tup (ea_cons (ev_var rfl) (ea_cons ev_int ea_nil)) (by decide : 2 ≤ 1000)) (fun v d G' H' g j p e => k v d G' H' g.nob p e)
abbrev sp_is_less (K : PySem.W.Frag) : Sp := spR K 2 dTwo (fun l x => x = fLess l)
theorem ok_is_less (T : Txt K mg) : FnOk P w K mg base CX0 1 T.f_is_less T.g_is_less ["one", "other"] (sp_is_less K) := by
  refine T.d_is_less.fn.ok sc_is_less (fun vs H Q E h => ?_) (fun cdv A outer s H vs Q E hr h => ?_)
  · exact spR_len h
  · have nd := nd_is_less
    refine ⟨_, (pss_one (ps_ret (pe_cmpR op_lt (pe_op op_mul (pe_ix (r := rIxT K) ix_tup (pv 0) pe_int (fun _ _ => rfl)) (pe_ix (r := rIxT K) ix_tup (pv 1) pe_int (fun _ _ => rfl))) (pe_op op_mul (pe_ix (r := rIxT K) ix_tup (pv 1) pe_int (fun _ _ => rfl)) (pe_ix (r := rIxT K) ix_tup (pv 0) pe_int (fun _ _ => rfl))) (nomark _)))), ?_⟩
    obtain ⟨hl, ds, G, sG, da, dm, k⟩ := h
    obtain ⟨a, b, c, d, rfl, ⟨hb, ha1, hb1⟩, ⟨hd, hc1, hd1⟩⟩ := dm
    have A := at_pure (N := N_is_less) sG da (by rw [hl]; decide)
    exact s_ret A (ev_B0 (ev_I (ev_ixT (ev_var rfl) ev_int rfl) (ev_ixT (ev_var rfl) ev_int rfl) (cmR hd1)) (ev_I (ev_ixT (ev_var rfl) ev_int rfl) (ev_ixT (ev_var rfl) ev_int rfl) (cmL hc1))) (fun v d G' H' g j p e => k v d G' H' g.nob p e)
abbrev sp_is_at_most (K : PySem.W.Frag) : Sp := spR K 2 dTwo (fun l x => x = fMost l)
theorem ok_is_at_most (T : Txt K mg) : FnOk P w K mg base CX0 1 T.f_is_at_most T.g_is_at_most ["one", "other"] (sp_is_at_most K) := by
  refine T.d_is_at_most.fn.ok sc_is_at_most (fun vs H Q E h => ?_) (fun cdv A outer s H vs Q E hr h => ?_)
  · exact spR_len h
  · have nd := nd_is_at_most
    refine ⟨_, (pss_one (ps_ret (pe_cmpR op_le (pe_op op_mul (pe_ix (r := rIxT K) ix_tup (pv 0) pe_int (fun _ _ => rfl)) (pe_ix (r := rIxT K) ix_tup (pv 1) pe_int (fun _ _ => rfl))) (pe_op op_mul (pe_ix (r := rIxT K) ix_tup (pv 1) pe_int (fun _ _ => rfl)) (pe_ix (r := rIxT K) ix_tup (pv 0) pe_int (fun _ _ => rfl))) (nomark _)))), ?_⟩
    obtain ⟨hl, ds, G, sG, da, dm, k⟩ := h
    obtain ⟨a, b, c, d, rfl, ⟨hb, ha1, hb1⟩, ⟨hd, hc1, hd1⟩⟩ := dm
    have A := at_pure (N := N_is_at_most) sG da (by rw [hl]; decide)
    exact s_ret A (ev_B0 (ev_I (ev_ixT (ev_var rfl) ev_int rfl) (ev_ixT (ev_var rfl) ev_int rfl) (cmR hd1)) (ev_I (ev_ixT (ev_var rfl) ev_int rfl) (ev_ixT (ev_var rfl) ev_int rfl) (cmL hc1))) (fun v d G' H' g j p e => k v d G' H' g.nob p e)
abbrev sp_sign_of (K : PySem.W.Frag) : Sp := spR K 1 dOne (fun l x => x = fSign l)
theorem ok_sign_of (T : Txt K mg) : FnOk P w K mg base CX0 1 T.f_sign_of T.g_sign_of ["one"] (sp_sign_of K) := by
  refine T.d_sign_of.fn.ok sc_sign_of (fun vs H Q E h => ?_) (fun cdv A outer s H vs Q E hr h => ?_)
  · exact spR_len h
  · have nd := nd_sign_of
    refine ⟨_, (pss_cons (ps_if (pt_cmpR op_eq (pe_ix (r := rIxT K) ix_tup (pv 0) pe_int (fun _ _ => rfl)) pe_int (nomark _)) (pss_one (ps_ret pe_int)) pss_nil)
      (pss_one (ps_ret (pe_ifExp (pt_cmpR op_gt (pe_ix (r := rIxT K) ix_tup (pv 0) pe_int (fun _ _ => rfl)) pe_int (nomark _)) pe_int (pe_un un_neg pe_int))))), ?_⟩
    obtain ⟨hl, ds, G, sG, da, dm, k⟩ := h
    obtain ⟨a, b, rfl, hb, ha1, hb1⟩ := dm
    have A := at_pure (N := N_sign_of) sG da (by rw [hl]; decide)
    refine q_when A (et_T (ev_eqI (ev_ixT (ev_var rfl) ev_int rfl) ev_int)) (fun hc G2 H2 A2 => ?_) (fun hc G2 H2 A2 => ?_)
    · have h0 : a = 0 := of_decide_eq_true hc.symm
      exact s_ret A2 ev_int (fun v d G' H' g j p e => k v d G' H' g.nob p (by rw [e]; show PyData.int 0 = .int (if a = 0 then 0 else _); rw [if_pos h0]))
    · have h0 : ¬ a = 0 := of_decide_eq_false hc.symm
      refine s_ret A2 (P := Is (fSign [FrD a b])) (ev_if (et_T (ev_B0 (ev_ixT (ev_var rfl) ev_int rfl) ev_int)) (fun h1 => ?_) (fun h1 => ?_)) (fun v d G' H' g j p e => k v d G' H' g.nob p e)
      · have h2 : 0 < a := of_decide_eq_true h1.symm
        refine ev_is ev_int ?_
        show PyData.int 1 = .int (if a = 0 then 0 else if 0 < a then 1 else -1)
        rw [if_neg h0, if_pos h2]
      · have h2 : ¬ 0 < a := of_decide_eq_false h1.symm
        refine ev_is (ev_un ev_int) ?_
        show PyData.int (-1) = .int (if a = 0 then 0 else if 0 < a then 1 else -1)
        rw [if_neg h0, if_neg h2]
abbrev sp_floor_of (K : PySem.W.Frag) : Sp := spR K 1 dOne (fun l x => x = fFloor l)
theorem ok_floor_of (T : Txt K mg) : FnOk P w K mg base CX0 1 T.f_floor_of T.g_floor_of ["one"] (sp_floor_of K) := by
  refine T.d_floor_of.fn.ok sc_floor_of (fun vs H Q E h => ?_) (fun cdv A outer s H vs Q E hr h => ?_)
  · exact spR_len h
  · have nd := nd_floor_of
    refine ⟨_, (pss_one (ps_ret (pe_op op_fdivW (pe_ix (r := rIxT K) ix_tup (pv 0) pe_int (fun _ _ => rfl)) (pe_ix (r := rIxT K) ix_tup (pv 0) pe_int (fun _ _ => rfl))))), ?_⟩
    obtain ⟨hl, ds, G, sG, da, dm, k⟩ := h
    obtain ⟨a, b, rfl, hb, ha1, hb1⟩ := dm
    have A := at_pure (N := N_floor_of) sG da (by rw [hl]; decide)
    exact s_ret A (ev_I (ev_ixT (ev_var rfl) ev_int rfl) (ev_ixT (ev_var rfl) ev_int rfl) (div9000 hb (pow_le4000 hb1 (by decide)))) (fun v d G' H' g j p e => k v d G' H' g.nob p e)
abbrev sp__law_bag (K : PySem.W.Frag) : Sp := spBag K
theorem ok__law_bag (T : Txt K mg) : FnOk P w K mg base CX0 1 T.f__law_bag T.g__law_bag ["script"] (sp__law_bag K) := by
  refine T.d__law_bag.fn.ok sc__law_bag (fun vs H Q E h => ?_) (fun cdv A outer s H vs Q E hr h => ?_)
  · obtain ⟨a, ns, rfl, _⟩ := h
    rfl
  · have nd := nd__law_bag
    refine ⟨_, (pss_one (ps_ret (pe_lst (pa_cons pe_int (pa_cons pe_int (pa_cons pe_int (pa_cons (pe_lc (own := [("cell", 1)]) (g := gName 1) rfl nd (pi_list (pe_slice (r := rSlL K) sl_list (pv 0) po_none (po_some pe_int))) (blkOk_by (own := [("cell", 1)]) (N := N__law_bag) (sc := defScope s__law_bag) (by decide +kernel)) (fun _ _ _ _ _ => (pg_name (i := 1) nd rfl (Or.inl rfl))) (fun _ _ _ _ _ => pts_nil) (fun _ _ _ _ _ => (pe_callB (id := "abs") (r := Dl.rAbs) call_abs (by rfl) T.b_abs (by decide +kernel) (pa_cons (pv 1) pa_nil)))) pa_nil))))))), ?_⟩
    obtain ⟨a, ns, rfl, hS, hl, k⟩ := h
    have A := at_pure (N := N__law_bag) (ds := [.list (ns.map .int)]) (Same.refl H) (.cons (.lst hS (dpa_ints ns)) .nil) (by decide : 1 ≤ 2)
    have E1 : EvN K [.d (.list (ns.map .int)), .un] none [] (tLc (iList K (tSl (rSlL K) (tVar 0) tNoPart (tPart (tC (.int 63))))) (gName 1) tYes (tCB rAbs (tCons (tVar 1) tNil)) [1])
        (fun m => ∃ l, (∃ lo hi, Is none lo ∧ Is (some 63) hi ∧ l = cutD (ns.map .int) lo hi) ∧ Lc (fun _ c => c = true) (fun _ y => ∃ c, y = .int c ∧ 0 ≤ c) l m) := by
      refine en_lc (f := fun y env => env.set 1 (.d y)) (ei_listP (ev_new (en_slL (ev_var rfl) eo_none (eo_some ev_int)))) ?_ (fun l _ y _ => tg_name (by decide)) (fun l _ y _ => et_yes) ?_
      · rintro l ⟨lo, hi, rfl, rfl, rfl⟩
        have := cutD_len (ns.map .int) none (some 63)
        rw [List.length_map] at this
        omega
      · rintro l ⟨lo, hi, rfl, rfl, rfl⟩ y hy _
        obtain ⟨z, _, rfl⟩ := List.mem_map.mp (cutD_mem hy)
        exact ev_imp (ev_cb (ea_cons (ev_var rfl) ea_nil) rc_abs) fun d e => ⟨_, e, by split <;> omega⟩
    have E2 : EvN K [.d (.list (ns.map .int)), .un] none [] (tLst (tCons (tC (.int 0)) (tCons (tC (.int 1234567891)) (tCons (tC (.int 0)) (tCons (tLc (iList K (tSl (rSlL K) (tVar 0) tNoPart (tPart (tC (.int 63))))) (gName 1) tYes (tCB rAbs (tCons (tVar 1) tNil)) [1]) tNil)))))
        (fun l => ∃ cs : List Int, l = [.int 0, .int 1234567891, .int 0, .list (cs.map .int)] ∧ (∀ c ∈ cs, 0 ≤ c) ∧ cs.length ≤ 63) := by
      refine en_imp (en_lstP (ea_consP ev_int (ea_consP ev_int (ea_consP ev_int (ea_consP (ev_new E1) ea_nil)))) ?_) ?_
      · rintro l ⟨d0, l0, rfl, _, d1, l1, rfl, _, d2, l2, rfl, _, d3, l3, rfl, _, e⟩
        rw [e]; show 4 ≤ 1000; decide
      · rintro l ⟨d0, l0, rfl, e0, d1, l1, rfl, e1, d2, l2, rfl, e2, d3, l3, rfl, ⟨m, e3, l', ⟨lo, hi, rfl, rfl, rfl⟩, lc⟩, e4⟩
        obtain ⟨cs, e5, h5⟩ := ints_of (C := fun c => 0 ≤ c) fun y hy => let ⟨_, _, c⟩ := lc.mem y hy; c
        refine ⟨cs, by rw [e0, e1, e2, e3, e4, e5], h5, ?_⟩
        have h1 := lc.len
        have h2 := cutD_len (ns.map PyData.int) none (some 63)
        rw [e5, List.length_map] at h1
        rw [List.length_map] at h2
        omega
    refine E2 _ _ _ A.env A.gr.gh A.j _ fun p xs l G2 H2 g j n gp hp da q => ?_
    obtain ⟨cs, rfl, h1, h2⟩ := q
    cases da with
    | cons p0 t => cases t with
      | cons p1 t => cases t with
        | cons p2 t => cases t with
          | cons p3 t =>
            cases t; cases p0; cases p1; cases p2
            cases p3 with
            | lst sq da =>
              rw [dpa_ints_inv da] at sq
              exact k p G2 H2 g.nob n ⟨gp, 0, 1234567891, 0, _, cs, hp, sq, by omega, by omega, by omega, by omega, h1, by omega⟩
abbrev sp__law_take (K : PySem.W.Frag) : Sp := spB K 1 takeDom takeR
theorem ok__law_take (T : Txt K mg) : FnOk P w K mg base CX0 1 T.f__law_take T.g__law_take ["bag", "many"] (sp__law_take K) := by
  refine T.d__law_take.fn.ok sc__law_take (fun vs H Q E h => ?_) (fun cdv A outer s H vs Q E hr h => ?_)
  · exact spB_len h
  · have nd := nd__law_take
    refine ⟨_, (pss_cons (ps_if (pt_cmpR op_eq (pe_ix (r := rIxL K) ix_list (pv 0) pe_int (fun _ _ => rfl)) pe_int (nomark _)) (pss_cons (ps_set (i := 2) nd rfl (Or.inl rfl) (pe_ix (r := rIxL K) ix_list (pe_op op_cat (pe_slice (r := rSlL K) sl_list (pe_ix (r := rIxL K) ix_list (pv 0) pe_int (fun _ _ => rfl)) (po_some (pe_ix (r := rIxL K) ix_list (pv 0) pe_int (fun _ _ => rfl))) po_none) (pe_lst (pa_cons pe_int pa_nil))) pe_int (fun _ _ => rfl)))
      (pss_cons (ps_augS (pv 0) pe_int Dl.get_list pe_int ip_add set_list)
      (pss_cons (ps_if (pt_cmpR op_ge (pv 2) (pe_op op_pow pe_int pe_int) (nomark _)) (pss_one (ps_asg (pv 2) (pg_sub (pv 0) pe_int set_list))) pss_nil)
      (pss_cons (ps_set (i := 3) nd rfl (Or.inl rfl) (pe_op op_add (pe_op op_add (pe_op op_mul (pe_ix (r := rIxL K) ix_list (pv 0) pe_int (fun _ _ => rfl)) pe_int) (pe_op op_mod (pe_callTy (T := "int") (r := Dl.rInt1) call_int1 (by rfl) T.b_int (by decide +kernel) (pa_cons (pv 2) pa_nil)) pe_int)) (pe_op op_mul pe_int (pe_ix (r := rIxL K) ix_list (pv 0) pe_int (fun _ _ => rfl)))))
      (pss_one (ps_asg (pe_op op_mod (pe_callTy (T := "int") (r := Dl.rInt1) call_int1 (by rfl) T.b_int (by decide +kernel) (pa_cons (pv 3) pa_nil)) pe_int) (pg_sub (pv 0) pe_int set_list))))))) pss_nil)
      (pss_cons (ps_if (pt_cmpR op_gt (pe_ix (r := rIxL K) ix_list (pv 0) pe_int (fun _ _ => rfl)) pe_int (nomark _)) (pss_cons (ps_set (i := 4) nd rfl (Or.inl rfl) (pe_op op_mod (pe_callTy (T := "int") (r := Dl.rInt1) call_int1 (by rfl) T.b_int (by decide +kernel) (pa_cons (pe_ix (r := rIxL K) ix_list (pv 0) pe_int (fun _ _ => rfl)) pa_nil)) (pv 1)))
      (pss_cons (ps_asg (pe_op op_fdivW (pe_callTy (T := "int") (r := Dl.rInt1) call_int1 (by rfl) T.b_int (by decide +kernel) (pa_cons (pe_ix (r := rIxL K) ix_list (pv 0) pe_int (fun _ _ => rfl)) pa_nil)) (pv 1)) (pg_sub (pv 0) pe_int set_list))
      (pss_one (ps_ret (pv 4))))) pss_nil)
      (pss_cons (ps_set (i := 5) nd rfl (Or.inl rfl) (pe_op op_mod (pe_callTy (T := "int") (r := Dl.rInt1) call_int1 (by rfl) T.b_int (by decide +kernel) (pa_cons (pe_op op_mul (pe_op op_add (pe_ix (r := rIxL K) ix_list (pv 0) pe_int (fun _ _ => rfl)) pe_int) pe_int) pa_nil)) pe_int))
      (pss_cons (ps_set (i := 6) nd rfl (Or.inl rfl) (pe_op op_mod (pe_callTy (T := "int") (r := Dl.rInt1) call_int1 (by rfl) T.b_int (by decide +kernel) (pa_cons (pe_op op_mul (pe_op op_mod (pe_callTy (T := "int") (r := Dl.rInt1) call_int1 (by rfl) T.b_int (by decide +kernel) (pa_cons (pe_op op_mul (pv 5) (pv 5)) pa_nil)) pe_int) pe_int) pa_nil)) pe_int))
      (pss_one (ps_ret (pe_op op_mod (pe_callTy (T := "int") (r := Dl.rInt1) call_int1 (by rfl) T.b_int (by decide +kernel) (pa_cons (pe_op op_fdivW (pv 6) pe_int) pa_nil)) (pv 1)))))))), ?_⟩
    obtain ⟨b, ws, rfl, hl, ds, G, sG, bg, da, dm, k⟩ := h
    obtain ⟨n, rfl, hn0, hn1⟩ := dm
    cases da with
    | cons p q =>
      cases q
      cases p
      obtain ⟨gb, z0, z1, z2, l, cs, hb, sl, h0, h1, h1', h2, hc, hcl⟩ := bg
      refine seq_via (fun σ' H' => ∃ (c2 c3 : Option V) (z0 z1 z2 : Int), σ' = [some (.ref b), some (.int n), c2, c3, none, none, none] ∧ H' b = some (.lst [.int z0, .int z1, .int z2, .ref l]) ∧ 0 ≤ z0 ∧ 0 ≤ z1 ∧ z1 < 2147483647 ∧ 0 ≤ z2 ∧ But b H H') (fun N hN => ?_) ?_
      · refine ⟨_, rfl, b, _, 0, .int z0, rfl, rfl, SqL.of hb, rfl, rfl, _, rfl, ?_⟩
        refine ite2 (fun _ => ?_) (fun _ => hN _ _ ⟨none, none, z0, z1, z2, rfl, hb, h0, h1, h1', h2, But.refl _ _⟩)
        have slH : SqL K H l (cs.map V.int) := sG.seq sl
        obtain ⟨c, c0, hcell⟩ := first_cell hc (some z2) none
        refine ⟨_, rfl, b, _, 3, .ref l, rfl, rfl, SqL.of hb, rfl, _, rfl, b, _, 2, .int z2, rfl, rfl, SqL.of hb, rfl, z2, rfl, l, _, rfl, slH, fun p hp => ?_⟩
        refine ⟨by show 1 ≤ sizeLine; decide, fun q hq => ?_⟩
        obtain ⟨qp, _⟩ := fresh2 hq
        refine ⟨p, q, _, _, rfl, rfl, (by rw [upd_ne qp.symm]; exact upd_same), upd_same, cut_len1001 hcl _ _, fun t ht => ?_⟩
        refine ⟨t, _, 0, .int c, rfl, rfl, SqL.of upd_same, hcell, ?_⟩
        have t1 := (((Tmp.refl H).new (o := .lst (cutV (cs.map V.int) (some z2) none)) hp).new (o := .lst [V.int 0]) hq).new (o := .lst (cutV (cs.map V.int) (some z2) none ++ [V.int 0])) ht
        generalize hH1 : upd (upd (upd H p (.lst (cutV (cs.map V.int) (some z2) none))) q (.lst [V.int 0])) t (.lst (cutV (cs.map V.int) (some z2) none ++ [V.int 0])) = H1 at t1 ⊢
        have hb1 := t1.up _ _ hb
        -- bag[2] += 1
        refine q_augBag rfl hb1 fun H2 eH2 => ?_
        have x2 := ((But.refl b H).tmp t1).put (o := .lst [.int z0, .int z1, .int (z2 + 1), .ref l]) hb1
        rw [← eH2] at x2
        have hb2 : H2 b = some (.lst [.int z0, .int z1, .int (z2 + 1), .ref l]) := by rw [eH2]; exact upd_same
        -- if cell >= 10 ** 18: bag[0] = cell
        refine seq_via (t := tIfS _ _ _) (fun σ' H' => ∃ (z0 : Int), σ' = [some (.ref b), some (.int n), some (.int c), none, none, none, none] ∧ H' b = some (.lst [.int z0, .int z1, .int (z2 + 1), .ref l]) ∧ 0 ≤ z0 ∧ But b H H') (fun N2 hN2 => ?_) ?_
        · refine ⟨_, rfl, 10, 18, rfl, rfl, pow18, _, _, rfl, rfl, _, rfl, ?_⟩
          refine ite2 (fun _ => ?_) (fun _ => hN2 _ _ ⟨z0, rfl, hb2, h0, x2⟩)
          refine ⟨_, rfl, _, rfl, b, _, 0, 0, rfl, rfl, hb2, rfl, ?_⟩
          exact hN2 _ _ ⟨c, rfl, upd_same, c0, x2.put hb2⟩
        rintro σ' H' ⟨z0', rfl, hb3, h03, x3⟩
        -- stirred
        refine ⟨_, rfl, b, _, 1, .int z1, rfl, rfl, SqL.of hb3, rfl, z1, 48271, rfl, rfl, .inl ⟨by omega, by omega⟩, _, rfl, .inl ⟨c, rfl, c, 2147483647, rfl, rfl, (by show (0 : Int) < 2147483647; decide), _, _, rfl, rfl, _, rfl, b, _, 2, .int (z2 + 1), rfl, rfl, SqL.of hb3, rfl, 7919, z2 + 1, rfl, rfl, .inl ⟨by decide, by decide⟩, _, _, rfl, rfl, ?_⟩⟩
        refine ⟨_, rfl, .inl ⟨_, rfl, _, 2147483647, rfl, rfl, (by show (0 : Int) < 2147483647; decide), _, rfl, b, _, 1, 1, rfl, rfl, hb3, rfl, ?_⟩⟩
        exact hN _ _ ⟨some (.int c), _, z0', _, z2 + 1, rfl, upd_same, h03, Int.emod_nonneg _ (by decide), Int.emod_lt_of_pos _ (by decide), by omega, x3.put hb3⟩
      · rintro σ' H' ⟨c2, c3, z0, z1, z2, rfl, hb, h0, h1, h1', h2, x⟩
        have fin := fun (H' : Hp) (y0 y1 y2 r : Int) (a) (b) (c) (d) (e) (f : But _ H H') => fin_draw (z0 := y0) (z1 := y1) (z2 := y2) (r := r) (H' := H') sG gb sl hc hcl k a b c d e f.up f.dn
        refine ⟨_, rfl, b, _, 0, .int z0, rfl, rfl, SqL.of hb, rfl, z0, 0, rfl, rfl, _, rfl, ?_⟩
        refine ite2 (fun _ => ?_) (fun _ => ?_)
        · refine ⟨_, rfl, b, _, 0, .int z0, rfl, rfl, SqL.of hb, rfl, .inl ⟨z0, rfl, _, rfl, z0, n, rfl, rfl, hn0, ?_⟩⟩
          refine ⟨_, rfl, b, _, 0, .int z0, rfl, rfl, SqL.of hb, rfl, .inl ⟨z0, rfl, _, rfl, z0, n, rfl, rfl, wide_div (b := 60) hn0 (by omega) (by decide) (by decide), _, rfl, b, _, 0, 0, rfl, rfl, hb, rfl, ?_⟩⟩
          refine ⟨_, rfl, ?_⟩
          exact fin _ _ _ _ _ upd_same (Int.ediv_nonneg h0 (by omega)) h1 h1' h2 (x.put hb) (Int.emod_nonneg _ (by omega)) (Int.emod_lt_of_pos _ hn0)
        · -- begin
          refine ⟨_, rfl, b, _, 1, .int z1, rfl, rfl, SqL.of hb, rfl, z1, 1, rfl, rfl, z1 + 1, 39373, rfl, rfl, .inl ⟨by omega, by omega⟩, .inl ⟨_, rfl, _, 1000000007, rfl, rfl, (by show (0 : Int) < 1000000007; decide), ?_⟩⟩
          dsimp only
          have m0 : 0 ≤ (z1 + 1) * 39373 % 1000000007 := Int.emod_nonneg _ (by decide)
          have m1 : (z1 + 1) * 39373 % 1000000007 < 1000000007 := Int.emod_lt_of_pos _ (by decide)
          generalize (z1 + 1) * 39373 % 1000000007 = m at m0 m1 ⊢
          refine ⟨_, rfl, _, rfl, m, m, rfl, rfl, .inl ⟨by omega, by omega⟩, .inl ⟨_, rfl, _, 998244353, rfl, rfl, (by show (0 : Int) < 998244353; decide), m * m % 998244353, 30011, rfl, rfl, .inr ⟨by decide, by decide⟩, .inl ⟨_, rfl, _, 998244353, rfl, rfl, (by show (0 : Int) < 998244353; decide), ?_⟩⟩⟩
          refine ⟨_, rfl, _, 7, rfl, rfl, ⟨by decide, by decide⟩, .inl ⟨_, rfl, _, rfl, _, n, rfl, rfl, hn0, ?_⟩⟩
          exact fin _ _ _ _ _ hb h0 h1 h1' h2 x (Int.emod_nonneg _ (by omega)) (Int.emod_lt_of_pos _ hn0)
abbrev sp__law_alike (K : PySem.W.Frag) : Sp := spAlike K
theorem ok__law_alike {A : Around} (T : Txt K mg) (hg : A.guards = some []) (hr0 : Room 1 A) : FnAt A P w K mg base T.f__law_alike T.g__law_alike ["found", "due"] (sp__law_alike K) := by
  refine fn_at (k := 0) T.d__law_alike.fn sc__law_alike (fun vs H Q E h => ?_) hr0 (fun cdv outer s H vs Q E hr h => ?_)
  · exact h.1
  · have nd := nd__law_alike
    refine ⟨_, (pss_one (ps_ret (pe_and (pe_cmpR (r := rEqD K) (op_eqD hr.units) (pv 0) (pv 1) (nomark _)) (pe_one (pe_cmpR op_eq (pe_callB (id := "repr") (r := Dl.rRepr K) (Dl.cr_repr hg hr.units) (by rfl) T.b_repr (by decide +kernel) (pa_cons (pv 0) pa_nil)) (pe_callB (id := "repr") (r := Dl.rRepr K) (Dl.cr_repr hg hr.units) (by rfl) T.b_repr (by decide +kernel) (pa_cons (pv 1) pa_nil)) (nomark _)))))), ?_⟩
    exact alike_read h rfl
abbrev sp__law_gcd (K : PySem.W.Frag) : Sp := spR K 2 (fun l => ∃ n d : Int, l = [.int n, .int d] ∧ 0 ≤ n ∧ 0 ≤ d) (fun l x => ∃ n d : Int, l = [.int n, .int d] ∧ x = .int (gI n d))
theorem ok__law_gcd (T : Txt K mg) : FnOk P w K mg base CX0 1 T.f__law_gcd T.g__law_gcd ["one", "other"] (sp__law_gcd K) := by
  refine T.d__law_gcd.fn.ok sc__law_gcd (fun vs H Q E h => ?_) (fun cdv A outer s H vs Q E hr h => ?_)
  · exact spR_len h
  · have nd := nd__law_gcd
    refine ⟨_, (pss_cons (ps_while PassesOwn.never (pt_cmpR op_gt (pv 1) pe_int (nomark _)) (pss_one (ps_par (i := 0) (j := 1) rfl nd rfl rfl (by decide) rfl rfl (pa_cons (pv 1) (pa_cons (pe_op op_mod (pe_callTy (T := "int") (r := Dl.rInt1) call_int1 (by rfl) T.b_int (by decide +kernel) (pa_cons (pv 0) pa_nil)) (pv 1)) pa_nil)) (by with_unfolding_all rfl))))
      (pss_one (ps_ret (pv 0)))), ?_⟩
    obtain ⟨hl, ds, G, sG, da, dm, k⟩ := h
    obtain ⟨n, d, rfl, n0, d0⟩ := dm
    cases da with
    | cons p q =>
      cases q with
      | cons p' q =>
        cases q; cases p; cases p'
        refine seq_via (fun σ' H' => σ' = [some (.int (gI n d)), some (.int 0)] ∧ H' = H) (fun N hN => ?_) ?_
        · refine while_by (fun σ' H' => ∃ x y : Int, σ' = [some (.int x), some (.int y)] ∧ 0 ≤ x ∧ 0 ≤ y ∧ gI x y = gI n d ∧ H' = H) (fun σ' _ => match σ' with | [_, some (.int y)] => y.toNat | _ => 0) ⟨n, d, rfl, n0, d0, rfl, rfl⟩ ?_ ?_
          · rintro σ' H' ⟨x, y, rfl, x0, y0, e, rfl⟩
            refine ⟨_, rfl, _, _, rfl, rfl, _, rfl, ?_⟩
            refine ite2 (fun hc => ?_) (fun hc => ?_)
            · have hy : 0 < y := of_decide_eq_true hc
              refine ⟨_, rfl, _, rfl, .inl ⟨x, rfl, _, rfl, x, y, rfl, rfl, hy, _, _, rfl, ?_⟩⟩
              refine ⟨⟨y, x % y, rfl, y0, Int.emod_nonneg _ (by omega), ?_, rfl⟩, ?_⟩
              · rw [← e]
                unfold gI
                have e1 : (x % y).natAbs = x.natAbs % y.natAbs := by
                  obtain ⟨m, rfl⟩ := Int.eq_ofNat_of_zero_le x0
                  obtain ⟨q, rfl⟩ := Int.eq_ofNat_of_zero_le y0
                  exact congrArg Int.natAbs (Int.natCast_emod m q).symm
                rw [e1, Nat.gcd_comm y.natAbs, ← Nat.gcd_rec, Nat.gcd_comm]
              · show (x % y).toNat < y.toNat
                have := Int.emod_lt_of_pos x hy
                have := Int.emod_nonneg x (show y ≠ 0 by omega)
                omega
            · have hy : y = 0 := by
                have : ¬ 0 < y := fun z => hc (decide_eq_true z)
                omega
              subst hy
              refine hN _ _ ⟨?_, rfl⟩
              rw [← e]
              unfold gI
              rw [show (0 : Int).natAbs = 0 from rfl, Nat.gcd_zero_right]
              congr 3
              omega
          · rintro σ H Q Q' m ⟨v, e1, i, j, e2, e3, c, e4, q⟩
            exact ⟨v, e1, i, j, e2, e3, c, e4, m _ _ q⟩
        · rintro σ' H' ⟨rfl, rfl⟩
          exact ⟨_, rfl, k _ _ G _ (Grow.refl sG) (.int _) ⟨n, d, rfl, rfl⟩⟩
abbrev sp__law_below (K : PySem.W.Frag) : Sp := spR K 2 dTwo (fun l x => x = fLess l)
theorem ok__law_below (T : Txt K mg) : FnOk P w K mg base CX0 1 T.f__law_below T.g__law_below ["one", "other"] (sp__law_below K) := by
  refine T.d__law_below.fn.ok sc__law_below (fun vs H Q E h => ?_) (fun cdv A outer s H vs Q E hr h => ?_)
  · exact spR_len h
  · have nd := nd__law_below
    refine ⟨_, (pss_one (ps_ret (pe_cmpR op_lt (pe_op op_mul (pe_ix (r := rIxT K) ix_tup (pv 0) pe_int (fun _ _ => rfl)) (pe_ix (r := rIxT K) ix_tup (pv 1) pe_int (fun _ _ => rfl))) (pe_op op_mul (pe_ix (r := rIxT K) ix_tup (pv 1) pe_int (fun _ _ => rfl)) (pe_ix (r := rIxT K) ix_tup (pv 0) pe_int (fun _ _ => rfl))) (nomark _)))), ?_⟩
    obtain ⟨hl, ds, G, sG, da, dm, k⟩ := h
    obtain ⟨a, b, c, d, rfl, ⟨hb, ha1, hb1⟩, ⟨hd, hc1, hd1⟩⟩ := dm
    have A := at_pure (N := N__law_below) sG da (by rw [hl]; decide)
    exact s_ret A (ev_B0 (ev_I (ev_ixT (ev_var rfl) ev_int rfl) (ev_ixT (ev_var rfl) ev_int rfl) (cmR hd1)) (ev_I (ev_ixT (ev_var rfl) ev_int rfl) (ev_ixT (ev_var rfl) ev_int rfl) (cmL hc1))) (fun v d G' H' g j p e => k v d G' H' g.nob p e)
abbrev sp__law_vector (K : PySem.W.Frag) : Sp := spR K 1 dVecOf rVecOf
theorem ok__law_vector (T : Txt K mg) : FnOk P w K mg base CX0 1 T.f__law_vector T.g__law_vector ["numbers"] (sp__law_vector K) := by
  refine T.d__law_vector.fn.ok sc__law_vector (fun vs H Q E h => ?_) (fun cdv A outer s H vs Q E hr h => ?_)
  · exact spR_len h
  · have nd := nd__law_vector
    refine ⟨_, (pss_one (ps_ret (pe_callTy (T := "tuple") (r := Dl.rTupOf K) call_tuple_of (by rfl) T.b_tuple (by decide +kernel) (pa_cons (pe_lc (own := [("one", 1)]) (g := gName 1) rfl nd (pi_tup (pv 0)) (blkOk_by (own := [("one", 1)]) (N := N__law_vector) (sc := defScope s__law_vector) (by decide +kernel)) (fun _ _ _ _ _ => (pg_name (i := 1) nd rfl (Or.inl rfl))) (fun _ _ _ _ _ => pts_nil) (fun _ _ _ _ _ => (pe_tup (pa_cons (pv 1) (pa_cons pe_int pa_nil))))) pa_nil)))), ?_⟩
    obtain ⟨hl, ds, G, sG, da, dm, k⟩ := h
    obtain ⟨ys, rfl, ly⟩ := dm
    have A := at_pure (N := N__law_vector) sG da (by rw [hl]; decide)
    refine s_ret A (ev_tupMap (F := fun y => fWhole [y]) (ei_tup (ev_var rfl)) ly (fun x hx => tg_name (by decide)) fun x mem => ?_) (fun v d G' H' g j p e => k v d G' H' g.nob p ⟨ys, rfl, e⟩)
    exact ev_tup (ea_cons (ev_var rfl) (ea_cons ev_int ea_nil)) (by decide : 2 ≤ 1000)
abbrev sp__law_floor (K : PySem.W.Frag) : Sp := spR K 1 dOne (fun l x => x = fFloor l)
theorem ok__law_floor (T : Txt K mg) : FnOk P w K mg base CX0 1 T.f__law_floor T.g__law_floor ["one"] (sp__law_floor K) := by
  refine T.d__law_floor.fn.ok sc__law_floor (fun vs H Q E h => ?_) (fun cdv A outer s H vs Q E hr h => ?_)
  · exact spR_len h
  · have nd := nd__law_floor
    refine ⟨_, (pss_one (ps_ret (pe_ifExp (pt_cmpR op_ge (pe_ix (r := rIxT K) ix_tup (pv 0) pe_int (fun _ _ => rfl)) pe_int (nomark _)) (pe_op op_fdivW (pe_callTy (T := "int") (r := Dl.rInt1) call_int1 (by rfl) T.b_int (by decide +kernel) (pa_cons (pe_ix (r := rIxT K) ix_tup (pv 0) pe_int (fun _ _ => rfl)) pa_nil)) (pe_ix (r := rIxT K) ix_tup (pv 0) pe_int (fun _ _ => rfl))) (pe_un un_neg (pe_op op_fdivW (pe_op op_sub (pe_op op_add (pe_callTy (T := "int") (r := Dl.rInt1) call_int1 (by rfl) T.b_int (by decide +kernel) (pa_cons (pe_un un_neg (pe_ix (r := rIxT K) ix_tup (pv 0) pe_int (fun _ _ => rfl))) pa_nil)) (pe_ix (r := rIxT K) ix_tup (pv 0) pe_int (fun _ _ => rfl))) pe_int) (pe_ix (r := rIxT K) ix_tup (pv 0) pe_int (fun _ _ => rfl))))))), ?_⟩
    obtain ⟨hl, ds, G, sG, da, dm, k⟩ := h
    obtain ⟨a, b, rfl, hb, ha1, hb1⟩ := dm
    have A := at_pure (N := N__law_floor) sG da (by rw [hl]; decide)
    have cd := div9000 hb (pow_le4000 hb1 (by decide))
    have fl := floor_law (a := a) hb
    refine s_ret A (P := Is (fFloor [FrD a b])) (ev_if (et_T (ev_B0 (ev_ixT (ev_var rfl) ev_int rfl) ev_int)) (fun h1 => ?_) (fun h1 => ?_)) (fun v d G' H' g j p e => k v d G' H' g.nob p e)
    · exact ev_I (ev_cb (ea_cons (ev_ixT (ev_var rfl) ev_int rfl) ea_nil) rc_int) (ev_ixT (ev_var rfl) ev_int rfl) cd
    · have h2 : ¬ 0 ≤ a := of_decide_eq_false h1.symm
      rw [if_neg h2] at fl
      refine ev_is (ev_un (ev_I (ev_I0 (ev_I0 (ev_cb (ea_cons (ev_un (ev_ixT (ev_var rfl) ev_int rfl)) ea_nil) rc_int) (ev_ixT (ev_var rfl) ev_int rfl)) ev_int) (ev_ixT (ev_var rfl) ev_int rfl) cd)) ?_
      show PyData.int (-((-a + b - 1) / b)) = .int (a / b)
      rw [fl]
abbrev sp_plus (K : PySem.W.Frag) : Sp := spR K 2 dTwo (fun l x => x = fPlus l)
theorem ok_plus (T : Txt K mg) : FnOk P w K mg base CX0 2 T.f_plus T.g_plus ["one", "other"] (sp_plus K) := by
  refine T.d_plus.fn.ok sc_plus (fun vs H Q E h => ?_) (fun cdv A outer s H vs Q E hr h => ?_)
  · exact spR_len h
  · have nd := nd_plus
    refine ⟨_, (pss_one (ps_ret (Dl.pc T.d_fraction (ok_fraction T) (hr.mono (by decide)) rfl (pa_cons (pe_op op_add (pe_op op_mul (pe_ix (r := rIxT K) ix_tup (pv 0) pe_int (fun _ _ => rfl)) (pe_ix (r := rIxT K) ix_tup (pv 1) pe_int (fun _ _ => rfl))) (pe_op op_mul (pe_ix (r := rIxT K) ix_tup (pv 1) pe_int (fun _ _ => rfl)) (pe_ix (r := rIxT K) ix_tup (pv 0) pe_int (fun _ _ => rfl)))) (pa_cons (pe_op op_mul (pe_ix (r := rIxT K) ix_tup (pv 0) pe_int (fun _ _ => rfl)) (pe_ix (r := rIxT K) ix_tup (pv 1) pe_int (fun _ _ => rfl))) pa_nil))))), ?_⟩
    obtain ⟨hl, ds, G, sG, da, dm, k⟩ := h
    obtain ⟨a, b, c, d, rfl, ⟨hb, ha1, hb1⟩, ⟨hd, hc1, hd1⟩⟩ := dm
    have A := at_pure (N := N_plus) sG da (by rw [hl]; decide)
    exact s_ret A (ev_callF (ea_cons (ev_I0 (ev_I (ev_ixT (ev_var rfl) ev_int rfl) (ev_ixT (ev_var rfl) ev_int rfl) (cmR hd1)) (ev_I (ev_ixT (ev_var rfl) ev_int rfl) (ev_ixT (ev_var rfl) ev_int rfl) (cmL hc1))) (ea_cons (ev_I (ev_ixT (ev_var rfl) ev_int rfl) (ev_ixT (ev_var rfl) ev_int rfl) (cmR hd1)) ea_nil)) rfl ⟨_, _, rfl, Int.mul_ne_zero (by omega) (by omega), pow_le4000 (nat_mul_lt hb1 hd1) (by decide)⟩) (fun v d G' H' g j p e => k v d G' H' g.nob p e)
abbrev sp_minus (K : PySem.W.Frag) : Sp := spR K 2 dTwo (fun l x => x = fMinus l)
theorem ok_minus (T : Txt K mg) : FnOk P w K mg base CX0 2 T.f_minus T.g_minus ["one", "other"] (sp_minus K) := by
  refine T.d_minus.fn.ok sc_minus (fun vs H Q E h => ?_) (fun cdv A outer s H vs Q E hr h => ?_)
  · exact spR_len h
  · have nd := nd_minus
    refine ⟨_, (pss_one (ps_ret (Dl.pc T.d_fraction (ok_fraction T) (hr.mono (by decide)) rfl (pa_cons (pe_op op_sub (pe_op op_mul (pe_ix (r := rIxT K) ix_tup (pv 0) pe_int (fun _ _ => rfl)) (pe_ix (r := rIxT K) ix_tup (pv 1) pe_int (fun _ _ => rfl))) (pe_op op_mul (pe_ix (r := rIxT K) ix_tup (pv 1) pe_int (fun _ _ => rfl)) (pe_ix (r := rIxT K) ix_tup (pv 0) pe_int (fun _ _ => rfl)))) (pa_cons (pe_op op_mul (pe_ix (r := rIxT K) ix_tup (pv 0) pe_int (fun _ _ => rfl)) (pe_ix (r := rIxT K) ix_tup (pv 1) pe_int (fun _ _ => rfl))) pa_nil))))), ?_⟩
    obtain ⟨hl, ds, G, sG, da, dm, k⟩ := h
    obtain ⟨a, b, c, d, rfl, ⟨hb, ha1, hb1⟩, ⟨hd, hc1, hd1⟩⟩ := dm
    have A := at_pure (N := N_minus) sG da (by rw [hl]; decide)
    exact s_ret A (ev_callF (ea_cons (ev_I0 (ev_I (ev_ixT (ev_var rfl) ev_int rfl) (ev_ixT (ev_var rfl) ev_int rfl) (cmR hd1)) (ev_I (ev_ixT (ev_var rfl) ev_int rfl) (ev_ixT (ev_var rfl) ev_int rfl) (cmL hc1))) (ea_cons (ev_I (ev_ixT (ev_var rfl) ev_int rfl) (ev_ixT (ev_var rfl) ev_int rfl) (cmR hd1)) ea_nil)) rfl ⟨_, _, rfl, Int.mul_ne_zero (by omega) (by omega), pow_le4000 (nat_mul_lt hb1 hd1) (by decide)⟩) (fun v d G' H' g j p e => k v d G' H' g.nob p e)
abbrev sp_times (K : PySem.W.Frag) : Sp := spR K 2 dTwo (fun l x => x = fTimes l)
theorem ok_times (T : Txt K mg) : FnOk P w K mg base CX0 2 T.f_times T.g_times ["one", "other"] (sp_times K) := by
  refine T.d_times.fn.ok sc_times (fun vs H Q E h => ?_) (fun cdv A outer s H vs Q E hr h => ?_)
  · exact spR_len h
  · have nd := nd_times
    refine ⟨_, (pss_one (ps_ret (Dl.pc T.d_fraction (ok_fraction T) (hr.mono (by decide)) rfl (pa_cons (pe_op op_mul (pe_ix (r := rIxT K) ix_tup (pv 0) pe_int (fun _ _ => rfl)) (pe_ix (r := rIxT K) ix_tup (pv 1) pe_int (fun _ _ => rfl))) (pa_cons (pe_op op_mul (pe_ix (r := rIxT K) ix_tup (pv 0) pe_int (fun _ _ => rfl)) (pe_ix (r := rIxT K) ix_tup (pv 1) pe_int (fun _ _ => rfl))) pa_nil))))), ?_⟩
    obtain ⟨hl, ds, G, sG, da, dm, k⟩ := h
    obtain ⟨a, b, c, d, rfl, ⟨hb, ha1, hb1⟩, ⟨hd, hc1, hd1⟩⟩ := dm
    have A := at_pure (N := N_times) sG da (by rw [hl]; decide)
    exact s_ret A (ev_callF (ea_cons (ev_I (ev_ixT (ev_var rfl) ev_int rfl) (ev_ixT (ev_var rfl) ev_int rfl) (cmR hc1)) (ea_cons (ev_I (ev_ixT (ev_var rfl) ev_int rfl) (ev_ixT (ev_var rfl) ev_int rfl) (cmR hd1)) ea_nil)) rfl ⟨_, _, rfl, Int.mul_ne_zero (by omega) (by omega), pow_le4000 (nat_mul_lt hb1 hd1) (by decide)⟩) (fun v d G' H' g j p e => k v d G' H' g.nob p e)
abbrev sp_over (K : PySem.W.Frag) : Sp := spR K 2 dOver (fun l x => x = fOver l)
theorem ok_over (T : Txt K mg) : FnOk P w K mg base CX0 2 T.f_over T.g_over ["one", "other"] (sp_over K) := by
  refine T.d_over.fn.ok sc_over (fun vs H Q E h => ?_) (fun cdv A outer s H vs Q E hr h => ?_)
  · exact spR_len h
  · have nd := nd_over
    refine ⟨_, (pss_one (ps_ret (Dl.pc T.d_fraction (ok_fraction T) (hr.mono (by decide)) rfl (pa_cons (pe_op op_mul (pe_ix (r := rIxT K) ix_tup (pv 0) pe_int (fun _ _ => rfl)) (pe_ix (r := rIxT K) ix_tup (pv 1) pe_int (fun _ _ => rfl))) (pa_cons (pe_op op_mul (pe_ix (r := rIxT K) ix_tup (pv 0) pe_int (fun _ _ => rfl)) (pe_ix (r := rIxT K) ix_tup (pv 1) pe_int (fun _ _ => rfl))) pa_nil))))), ?_⟩
    obtain ⟨hl, ds, G, sG, da, dm, k⟩ := h
    obtain ⟨a, b, c, d, rfl, ⟨hb, ha1, hb1⟩, ⟨hd, hc1, hd1⟩, c0⟩ := dm
    have A := at_pure (N := N_over) sG da (by rw [hl]; decide)
    exact s_ret A (ev_callF (ea_cons (ev_I (ev_ixT (ev_var rfl) ev_int rfl) (ev_ixT (ev_var rfl) ev_int rfl) (cmR hd1)) (ea_cons (ev_I (ev_ixT (ev_var rfl) ev_int rfl) (ev_ixT (ev_var rfl) ev_int rfl) (cmR hc1)) ea_nil)) rfl ⟨_, _, rfl, Int.mul_ne_zero (by omega) c0, pow_le4000 (nat_mul_lt hb1 hc1) (by decide)⟩) (fun v d G' H' g j p e => k v d G' H' g.nob p e)
abbrev sp_nought (K : PySem.W.Frag) : Sp := spR K 1 dNought rNought
theorem ok_nought (T : Txt K mg) : FnOk P w K mg base CX0 2 T.f_nought T.g_nought ["frame"] (sp_nought K) := by
  refine T.d_nought.fn.ok sc_nought (fun vs H Q E h => ?_) (fun cdv A outer s H vs Q E hr h => ?_)
  · exact spR_len h
  · have nd := nd_nought
    refine ⟨_, (pss_one (ps_ret (pe_op (r := Dl.rRepA K) Dl.op_repA (pe_tup (pa_cons (Dl.pc T.d_whole (ok_whole T) (hr.mono (by decide)) rfl (pa_cons pe_int pa_nil)) pa_nil)) (pe_callB (id := "len") (r := Dl.rLen K) call_len_seq (by rfl) T.b_len (by decide +kernel) (pa_cons (pe_ix (r := rIxT K) ix_tup (pv 0) pe_int (fun _ _ => rfl)) pa_nil))))), ?_⟩
    obtain ⟨hl, ds, G, sG, da, dm, k⟩ := h
    obtain ⟨cells, rest, rfl, c1, c2⟩ := dm
    have A := at_pure (N := N_nought) sG da (by rw [hl]; decide)
    refine s_ret A (ev_repA (ev_tup (ea_cons (ev_callF (ea_cons ev_int ea_nil) rfl ⟨_, rfl⟩) ea_nil) (by decide : 1 ≤ 1000)) (ev_cb (ea_cons (ev_ixT (ev_var rfl) ev_int at0) ea_nil) rc_lenT) (by simp) c1 c2 (by decide)) (fun v d G' H' g j p e => k v d G' H' g.nob p ⟨cells, rest, rfl, ?_⟩)
    rw [e, rep_one]
    rfl
abbrev sp_vector_of (K : PySem.W.Frag) : Sp := spR K 1 dVecOf rVecOf
theorem ok_vector_of (T : Txt K mg) : FnOk P w K mg base CX0 2 T.f_vector_of T.g_vector_of ["numbers"] (sp_vector_of K) := by
  refine T.d_vector_of.fn.ok sc_vector_of (fun vs H Q E h => ?_) (fun cdv A outer s H vs Q E hr h => ?_)
  · exact spR_len h
  · have nd := nd_vector_of
    refine ⟨_, (pss_one (ps_ret (pe_callTy (T := "tuple") (r := Dl.rTupOf K) call_tuple_of (by rfl) T.b_tuple (by decide +kernel) (pa_cons (pe_lc (own := [("number", 1)]) (g := gName 1) rfl nd (pi_tup (pv 0)) (blkOk_by (own := [("number", 1)]) (N := N_vector_of) (sc := defScope s_vector_of) (by decide +kernel)) (fun _ _ _ _ _ => (pg_name (i := 1) nd rfl (Or.inl rfl))) (fun _ _ _ _ _ => pts_nil) (fun _ _ _ _ _ => (Dl.pc T.d_whole (ok_whole T) (hr.mono (by decide)) rfl (pa_cons (pv 1) pa_nil)))) pa_nil)))), ?_⟩
    obtain ⟨hl, ds, G, sG, da, dm, k⟩ := h
    obtain ⟨ys, rfl, ly⟩ := dm
    have A := at_pure (N := N_vector_of) sG da (by rw [hl]; decide)
    refine s_ret A (ev_tupMap (F := fun y => fWhole [y]) (ei_tup (ev_var rfl)) ly (fun x hx => tg_name (by decide)) fun x mem => ?_) (fun v d G' H' g j p e => k v d G' H' g.nob p ⟨ys, rfl, e⟩)
    exact ev_callF (ea_cons (ev_var rfl) ea_nil) rfl ⟨_, rfl⟩
abbrev sp__law_some (K : PySem.W.Frag) : Sp := spB K 1 someDom someR
theorem ok__law_some (T : Txt K mg) : FnOk P w K mg base CX0 2 T.f__law_some T.g__law_some ["bag", "things"] (sp__law_some K) := by
  refine T.d__law_some.fn.ok sc__law_some (fun vs H Q E h => ?_) (fun cdv A outer s H vs Q E hr h => ?_)
  · exact spB_len h
  · have nd := nd__law_some
    refine ⟨_, (pss_one (ps_ret (pe_ix (r := rIxL K) ix_list (pv 1) (Dl.pc T.d__law_take (ok__law_take T) (hr.mono (by decide)) rfl (pa_cons (pv 0) (pa_cons (pe_callB (id := "len") (r := Dl.rLen K) call_len_seq (by rfl) T.b_len (by decide +kernel) (pa_cons (pv 1) pa_nil)) pa_nil))) (fun _ _ => rfl)))), ?_⟩
    obtain ⟨x, ws, rfl, hl, ds, G, sG, bg, da, dm, k⟩ := h
    obtain ⟨l, rfl, ne, ll⟩ := dm
    have A := at_bag (N := N__law_some) sG bg da (by rw [hl]; decide)
    have lp : 0 < l.length := by cases l with
      | nil => exact absurd rfl ne
      | cons y l => simp
    refine s_ret A (ev_ixLx (C := fun i => 0 ≤ i ∧ i < (l.length : Int)) (ev_var rfl) (ev_imp (ev_callB rfl rfl (ea_cons (ev_cb (ea_cons (ev_var rfl) ea_nil) rc_lenL) ea_nil) fun ds e => ⟨by rw [e]; rfl, _, e, by omega, by omega⟩) ?_) fun i h => h) (fun v d G' H' g j p e => k v d G' H' g (j.bag _ rfl) p ⟨l, rfl, e⟩)
    rintro d ⟨ds, e1, n, r, e2, e3, r0, r1⟩
    rw [e1] at e2
    cases e2
    exact ⟨r, e3, r0, r1⟩
abbrev sp__law_mixed (K : PySem.W.Frag) : Sp := spB K 1 mixDom mixR
theorem ok__law_mixed (T : Txt K mg) : FnOk P w K mg base CX0 2 T.f__law_mixed T.g__law_mixed ["bag", "things"] (sp__law_mixed K) := by
  refine T.d__law_mixed.fn.ok sc__law_mixed (fun vs H Q E h => ?_) (fun cdv A outer s H vs Q E hr h => ?_)
  · exact spB_len h
  · have nd := nd__law_mixed
    refine ⟨_, (pss_cons (ps_set (i := 2) nd rfl (Or.inl rfl) (pe_lst pa_nil))
      (pss_cons (ps_for PassesOwn.never rfl (pi_list (pv 1)) (pg_name (i := 3) nd rfl (Or.inl rfl)) (pss_one (ps_expr (pe_bm PySem.F.plainAttrs_list PySem.F.slot_list_insert PySem.F.type_list_insert mt_insert (pv 2) (pa_cons (Dl.pc T.d__law_take (ok__law_take T) (hr.mono (by decide)) rfl (pa_cons (pv 0) (pa_cons (pe_op op_add (pe_callB (id := "len") (r := Dl.rLen K) call_len_seq (by rfl) T.b_len (by decide +kernel) (pa_cons (pv 2) pa_nil)) pe_int) pa_nil))) (pa_cons (pv 3) pa_nil))))))
      (pss_one (ps_ret (pv 2))))), ?_⟩
    obtain ⟨x, ws, rfl, hl, ds, G, sG, bg, da, dm, k⟩ := h
    obtain ⟨l, rfl, ll⟩ := dm
    have A := at_bag (N := N__law_mixed) sG bg da (by rw [hl]; decide)
    refine q_asgM A (en_lstP ea_nil fun l e => by rw [e]; decide) fun f ds σ1 G1 H1 e nb A1 => ?_
    subst e
    refine q_for A1 (Pl := Is l) (f := fun y env => env.set 3 (.d y)) (vs := [3]) (ei_list (ev_var rfl)) (fun l' _ y _ => tg_name (by decide))
      (fun l' i env' ms' => ∃ (m : List PyData) (s3 : Sl), env' = [.a x, .d (.list l), .a f, s3] ∧ ms' = [(f, m.map .d)] ∧ m.Perm (l.take i) ∧ i ≤ l.length) (fun l' e => ⟨[], .un, rfl, rfl, by simp, Nat.zero_le _⟩) ?_ ?_
    · rintro l' i y env' ms' Gt σ2 G2 H2 rfl hy ⟨m, s3, rfl, rfl, pm, hi⟩ A2 nx hnx
      have il : i < l'.length := (List.getElem?_eq_some_iff.mp hy).1
      have ml : m.length = i := by rw [pm.length_eq, List.length_take]; omega
      refine s_ins (n := 0) (C := fun z => 0 ≤ z ∧ z ≤ (m.length : Int)) A2 rfl rfl (ev_imp (ev_callB rfl rfl (ea_cons (ev_I0 (ev_lenM (n := 0) rfl rfl) ev_int) ea_nil) fun ds e => ⟨by rw [e]; rfl, _, e, by omega, ?_⟩) ?_) (fun z h => by omega) (ev_var rfl) (by rw [List.length_map]; omega) ?_
      · rw [List.length_map]; omega
      · rintro d ⟨ds, e1, n, r, e2, e3, r0, r1⟩
        rw [e1] at e2
        have e4 : ((m.map Sl.d).length : Int) + 1 = n := by injection e2 with e5; injection e5
        rw [List.length_map] at e4
        exact ⟨r, e3, r0, by omega⟩
      · rintro z d G3 H3 hz ed A3
        subst ed
        refine hnx _ _ _ _ _ ⟨m.take z.toNat ++ [d] ++ m.drop z.toNat, _, rfl, ?_, ?_, by omega⟩ A3
        · simp [List.map_append, List.map_take, List.map_drop]
        · rw [List.take_add_one, hy]
          have h1 : (m.take z.toNat ++ [d] ++ m.drop z.toNat).Perm (m.take z.toNat ++ m.drop z.toNat ++ [d]) := by
            rw [List.append_assoc, List.append_assoc]
            exact List.Perm.append_left _ List.perm_append_comm
          rw [List.take_append_drop] at h1
          exact h1.trans (pm.append_right _)
    · rintro l' env' ms' σ2 G2 H2 rfl ⟨m, s3, rfl, rfl, pm, hi⟩ A2
      rw [List.take_length] at pm
      exact s_retM (n := 0) A2 rfl rfl fun v G3 H3 g bgs p => k v _ G3 H3 g (bgs _ rfl) p ⟨l', m, rfl, rfl, pm⟩
abbrev sp__law_fr (K : PySem.W.Frag) : Sp := spR K 2 dFrac (fun l x => x = fFrac l)
theorem ok__law_fr (T : Txt K mg) : FnOk P w K mg base CX0 2 T.f__law_fr T.g__law_fr ["num", "den"] (sp__law_fr K) := by
  refine T.d__law_fr.fn.ok sc__law_fr (fun vs H Q E h => ?_) (fun cdv A outer s H vs Q E hr h => ?_)
  · exact spR_len h
  · have nd := nd__law_fr
    refine ⟨_, (pss_cons (ps_asg (pe_ifExp (pt_cmpR op_lt (pv 1) pe_int (nomark _)) (pe_tup (pa_cons (pe_un un_neg (pv 0)) (pa_cons (pe_un un_neg (pv 1)) pa_nil))) (pe_tup (pa_cons (pv 0) (pa_cons (pv 1) pa_nil)))) (pg_tup rfl (pgs_cons (pg_name (i := 0) nd rfl (Or.inl rfl)) (pgs_cons (pg_name (i := 1) nd rfl (Or.inl rfl)) pgs_nil))))
      (pss_cons (ps_set (i := 2) nd rfl (Or.inl rfl) (Dl.pc T.d__law_gcd (ok__law_gcd T) (hr.mono (by decide)) rfl (pa_cons (pe_callB (id := "abs") (r := Dl.rAbs) call_abs (by rfl) T.b_abs (by decide +kernel) (pa_cons (pv 0) pa_nil)) (pa_cons (pv 1) pa_nil))))
      (pss_one (ps_ret (pe_tup (pa_cons (pe_op op_fdivW (pe_callTy (T := "int") (r := Dl.rInt1) call_int1 (by rfl) T.b_int (by decide +kernel) (pa_cons (pv 0) pa_nil)) (pv 2)) (pa_cons (pe_op op_fdivW (pe_callTy (T := "int") (r := Dl.rInt1) call_int1 (by rfl) T.b_int (by decide +kernel) (pa_cons (pv 1) pa_nil)) (pv 2)) pa_nil))))))), ?_⟩
    obtain ⟨hl, ds, G, sG, da, dm, k⟩ := h
    obtain ⟨n, d, rfl, d0, db⟩ := dm
    have A := at_pure (N := N__law_fr) sG da (by rw [hl]; decide)
    have hu : EvP K [.d (.int n), .d (.int d), .un] none [] (tIf (tTest (tOp (rI0 fun i j => .bl (decide (i < j))) (tVar 1) (tC (.int 0)))) (tTup (tCons (tUn (rU fun i => .int (-i)) (tVar 0)) (tCons (tUn (rU fun i => .int (-i)) (tVar 1)) tNil))) (tTup (tCons (tVar 0) (tCons (tVar 1) tNil))))
        (Is (.tuple [.int (if d < 0 then -n else n), .int (if d < 0 then -d else d)])) := by
      refine ev_if (et_T (ev_B0 (ev_var rfl) ev_int)) (fun hc => ?_) (fun hc => ?_)
      · have hd : d < 0 := of_decide_eq_true hc.symm
        rw [if_pos hd, if_pos hd]
        exact ev_tup (ea_cons (ev_un (ev_var rfl)) (ea_cons (ev_un (ev_var rfl)) ea_nil)) (by decide : 2 ≤ 1000)
      · have hd : ¬ d < 0 := of_decide_eq_false hc.symm
        rw [if_neg hd, if_neg hd]
        exact ev_tup (ea_cons (ev_var rfl) (ea_cons (ev_var rfl) ea_nil)) (by decide : 2 ≤ 1000)
    refine q_unp A hu (fun x e => ⟨_, _, e⟩) fun x y σ1 G1 H1 e A1 => ?_
    cases e
    have dp : 0 < (if d < 0 then -d else d) := by split <;> omega
    have ab : (if (if d < 0 then -n else n) < 0 then -(if d < 0 then -n else n) else (if d < 0 then -n else n)) = (n.natAbs : Int) := by split <;> split at * <;> omega
    refine q_asg A1 (ev_callR (ea_cons (ev_cb (ea_cons (ev_var rfl) ea_nil) rc_abs) (ea_cons (ev_var rfl) ea_nil)) fun l e => ⟨by rw [e]; rfl, _, _, e, by rw [ab]; omega, by omega⟩) fun x σ2 G2 H2 e A2 => ?_
    obtain ⟨l, e1, n', d', e2, e3⟩ := e
    rw [e1] at e2
    cases e2
    have eg : gI (if (if d < 0 then -n else n) < 0 then -(if d < 0 then -n else n) else (if d < 0 then -n else n)) (if d < 0 then -d else d) = gI n d := by
      rw [ab]
      unfold gI
      have : (if d < 0 then -d else d).natAbs = d.natAbs := by split <;> omega
      rw [this]
      rfl
    rw [eg] at e3
    subst e3
    have g0 := gI_pos (n := n) d0
    have gl := gI_le (n := n) d0
    have cd : CDivW 0 (gI n d) := div9000 g0 (Nat.lt_of_le_of_lt gl db)
    exact s_ret A2 (ev_tup (ea_cons (ev_I (ev_cb (ea_cons (ev_var rfl) ea_nil) rc_int) (ev_var rfl) cd) (ea_cons (ev_I (ev_cb (ea_cons (ev_var rfl) ea_nil) rc_int) (ev_var rfl) cd) ea_nil)) (by decide : 2 ≤ 1000)) (fun v d G' H' g j p e => k v d G' H' g.nob p e)
abbrev sp__law_number (K : PySem.W.Frag) : Sp := spB K 0 (Is []) numR
theorem ok__law_number (T : Txt K mg) : FnOk P w K mg base CX0 2 T.f__law_number T.g__law_number ["bag"] (sp__law_number K) := by
  refine T.d__law_number.fn.ok sc__law_number (fun vs H Q E h => ?_) (fun cdv A outer s H vs Q E hr h => ?_)
  · exact spB_len h
  · have nd := nd__law_number
    refine ⟨_, (pss_cons (ps_set (i := 1) nd rfl (Or.inl rfl) (Dl.pc T.d__law_take (ok__law_take T) (hr.mono (by decide)) rfl (pa_cons (pv 0) (pa_cons pe_int pa_nil))))
      (pss_one (ps_ret (pe_ifExp (pt_cmpR op_lt (pv 1) pe_int (nomark _)) (pe_op op_sub (Dl.pc T.d__law_take (ok__law_take T) (hr.mono (by decide)) rfl (pa_cons (pv 0) (pa_cons pe_int pa_nil))) pe_int) (pe_op op_sub (Dl.pc T.d__law_take (ok__law_take T) (hr.mono (by decide)) rfl (pa_cons (pv 0) (pa_cons (pe_op op_pow pe_int pe_int) pa_nil))) (pe_op op_mul pe_int (pe_op op_pow pe_int pe_int))))))), ?_⟩
    obtain ⟨x, ws, rfl, hl, ds, G, sG, bg, da, dm, k⟩ := h
    have dm : ds = [] := dm
    subst dm
    have A := at_bag (N := N__law_number) sG bg da (by rw [hl]; decide)
    refine q_asg A (ev_callB rfl rfl (ea_cons ev_int ea_nil) fun ds e => ⟨by rw [e]; rfl, _, e, by decide, by decide⟩) fun w σ1 G1 H1 e A1 => ?_
    obtain ⟨ds, e1, n, r, e2, e3, r0, r1⟩ := e
    subst e3
    refine s_ret A1 (P := numR []) (ev_if (et_T (ev_B0 (ev_var rfl) ev_int)) (fun _ => ?_) (fun _ => ?_)) (fun v d G' H' g j p e => k v d G' H' g (j.bag _ rfl) p e)
    · refine ev_imp (ev_I0x (C1 := fun i => 0 ≤ i ∧ i < 25) (C2 := fun i => i = 12) (ev_imp (ev_callB rfl rfl (ea_cons ev_int ea_nil) fun ds e => ⟨by rw [e]; rfl, _, e, by decide, by decide⟩) ?_) (ev_ex1 ev_int)) ?_
      · rintro d ⟨ds, e1, n, r, e2, e3, r0, r1⟩
        rw [e1] at e2
        cases e2
        exact ⟨r, e3, r0, r1⟩
      · rintro d ⟨i, j, e, c1, c2⟩
        exact ⟨_, e, by omega⟩
    · refine ev_imp (ev_I0x (C1 := fun i => 0 ≤ i ∧ i < 10 ^ 9) (C2 := fun i => i = 5 * 10 ^ 8) (ev_imp (ev_callB rfl rfl (ea_cons (ev_I ev_int ev_int ⟨by decide, by decide, by decide⟩) ea_nil) fun ds e => ⟨by rw [e]; rfl, _, e, by decide, by decide⟩) ?_) (ev_imp (ev_ex1 (ev_I ev_int (ev_I ev_int ev_int ⟨by decide, by decide, by decide⟩) (.inl ⟨by decide, by decide⟩))) fun d h => h)) ?_
      · rintro d ⟨ds, e1, n, r, e2, e3, r0, r1⟩
        rw [e1] at e2
        cases e2
        exact ⟨r, e3, r0, r1⟩
      · rintro d ⟨i, j, e, c1, c2⟩
        exact ⟨_, e, by omega⟩
abbrev sp_added (K : PySem.W.Frag) : Sp := spR K 2 dVec (rVec fPlus)
theorem ok_added (T : Txt K mg) : FnOk P w K mg base CX0 3 T.f_added T.g_added ["one", "other"] (sp_added K) := by
  refine T.d_added.fn.ok sc_added (fun vs H Q E h => ?_) (fun cdv A outer s H vs Q E hr h => ?_)
  · exact spR_len h
  · have nd := nd_added
    refine ⟨_, (pss_one (ps_ret (pe_callTy (T := "tuple") (r := Dl.rTupOf K) call_tuple_of (by rfl) T.b_tuple (by decide +kernel) (pa_cons (pe_lc (own := [("mine", 2), ("yours", 3)]) (g := gTup K 2 (gCons (gName 2) (gCons (gName 3) gNil))) rfl nd (RZ.pi_zipA rfl T.b_zip (pa_cons (pv 0) (pa_cons (pv 1) pa_nil))) (blkOk_by (own := [("mine", 2), ("yours", 3)]) (N := N_added) (sc := defScope s_added) (by decide +kernel)) (fun _ _ _ _ _ => (pg_tup rfl (pgs_cons (pg_name (i := 2) nd rfl (Or.inl rfl)) (pgs_cons (pg_name (i := 3) nd rfl (Or.inl rfl)) pgs_nil)))) (fun _ _ _ _ _ => pts_nil) (fun _ _ _ _ _ => (Dl.pc T.d_plus (ok_plus T) (hr.mono (by decide)) rfl (pa_cons (pv 2) (pa_cons (pv 3) pa_nil))))) pa_nil)))), ?_⟩
    obtain ⟨hl, ds, G, sG, da, dm, k⟩ := h
    obtain ⟨xs, ys, rfl, hx, hy, lx, ly⟩ := dm
    have A := at_pure (N := N_added) sG da (by rw [hl]; decide)
    refine s_ret A (ev_tupMap (F := onPair fPlus) (ei_zipT (ea_cons (ev_var rfl) (ea_cons (ev_var rfl) ea_nil))) (pairs_len1000 lx) (tg_setPair (by decide) (by decide)) fun x mem => ?_) (fun v d G' H' g j p e => k v d G' H' g.nob p ⟨xs, ys, rfl, e⟩)
    obtain ⟨p, q, rfl, hp, hq⟩ := pairs_mem mem
    obtain ⟨a, c, rfl, s1⟩ := hx p hp
    obtain ⟨a', c', rfl, s2⟩ := hy q hq
    show EvP K _ _ _ _ (Is (fPlus [FrD a c, FrD a' c']))
    exact ev_callF (ea_cons (ev_var rfl) (ea_cons (ev_var rfl) ea_nil)) rfl ⟨_, _, _, _, rfl, s1.b, s2⟩
abbrev sp_less (K : PySem.W.Frag) : Sp := spR K 2 dVec (rVec fMinus)
theorem ok_less (T : Txt K mg) : FnOk P w K mg base CX0 3 T.f_less T.g_less ["one", "other"] (sp_less K) := by
  refine T.d_less.fn.ok sc_less (fun vs H Q E h => ?_) (fun cdv A outer s H vs Q E hr h => ?_)
  · exact spR_len h
  · have nd := nd_less
    refine ⟨_, (pss_one (ps_ret (pe_callTy (T := "tuple") (r := Dl.rTupOf K) call_tuple_of (by rfl) T.b_tuple (by decide +kernel) (pa_cons (pe_lc (own := [("mine", 2), ("yours", 3)]) (g := gTup K 2 (gCons (gName 2) (gCons (gName 3) gNil))) rfl nd (RZ.pi_zipA rfl T.b_zip (pa_cons (pv 0) (pa_cons (pv 1) pa_nil))) (blkOk_by (own := [("mine", 2), ("yours", 3)]) (N := N_less) (sc := defScope s_less) (by decide +kernel)) (fun _ _ _ _ _ => (pg_tup rfl (pgs_cons (pg_name (i := 2) nd rfl (Or.inl rfl)) (pgs_cons (pg_name (i := 3) nd rfl (Or.inl rfl)) pgs_nil)))) (fun _ _ _ _ _ => pts_nil) (fun _ _ _ _ _ => (Dl.pc T.d_minus (ok_minus T) (hr.mono (by decide)) rfl (pa_cons (pv 2) (pa_cons (pv 3) pa_nil))))) pa_nil)))), ?_⟩
    obtain ⟨hl, ds, G, sG, da, dm, k⟩ := h
    obtain ⟨xs, ys, rfl, hx, hy, lx, ly⟩ := dm
    have A := at_pure (N := N_less) sG da (by rw [hl]; decide)
    refine s_ret A (ev_tupMap (F := onPair fMinus) (ei_zipT (ea_cons (ev_var rfl) (ea_cons (ev_var rfl) ea_nil))) (pairs_len1000 lx) (tg_setPair (by decide) (by decide)) fun x mem => ?_) (fun v d G' H' g j p e => k v d G' H' g.nob p ⟨xs, ys, rfl, e⟩)
    obtain ⟨p, q, rfl, hp, hq⟩ := pairs_mem mem
    obtain ⟨a, c, rfl, s1⟩ := hx p hp
    obtain ⟨a', c', rfl, s2⟩ := hy q hq
    show EvP K _ _ _ _ (Is (fMinus [FrD a c, FrD a' c']))
    exact ev_callF (ea_cons (ev_var rfl) (ea_cons (ev_var rfl) ea_nil)) rfl ⟨_, _, _, _, rfl, s1.b, s2⟩
abbrev sp_multiple (K : PySem.W.Frag) : Sp := spR K 2 dMul rMul
theorem ok_multiple (T : Txt K mg) : FnOk P w K mg base CX0 3 T.f_multiple T.g_multiple ["share", "vector"] (sp_multiple K) := by
  refine T.d_multiple.fn.ok sc_multiple (fun vs H Q E h => ?_) (fun cdv A outer s H vs Q E hr h => ?_)
  · exact spR_len h
  · have nd := nd_multiple
    refine ⟨_, (pss_one (ps_ret (pe_callTy (T := "tuple") (r := Dl.rTupOf K) call_tuple_of (by rfl) T.b_tuple (by decide +kernel) (pa_cons (pe_lc (own := [("number", 2)]) (g := gName 2) rfl nd (pi_tup (pv 1)) (blkOk_by (own := [("number", 2)]) (N := N_multiple) (sc := defScope s_multiple) (by decide +kernel)) (fun _ _ _ _ _ => (pg_name (i := 2) nd rfl (Or.inl rfl))) (fun _ _ _ _ _ => pts_nil) (fun _ _ _ _ _ => (Dl.pc T.d_times (ok_times T) (hr.mono (by decide)) rfl (pa_cons (pv 0) (pa_cons (pv 2) pa_nil))))) pa_nil)))), ?_⟩
    obtain ⟨hl, ds, G, sG, da, dm, k⟩ := h
    obtain ⟨a, c, ys, rfl, s1, hy, ly⟩ := dm
    have A := at_pure (N := N_multiple) sG da (by rw [hl]; decide)
    refine s_ret A (ev_tupMap (F := fun y => fTimes [FrD a c, y]) (ei_tup (ev_var rfl)) ly (fun x hx => tg_name (by decide)) fun x mem => ?_) (fun v d G' H' g j p e => k v d G' H' g.nob p ⟨_, ys, rfl, e⟩)
    obtain ⟨a', c', rfl, s2⟩ := hy x mem
    exact ev_callF (ea_cons (ev_var rfl) (ea_cons (ev_var rfl) ea_nil)) rfl ⟨_, _, _, _, rfl, s1, s2⟩
abbrev sp__law_plus (K : PySem.W.Frag) : Sp := spR K 2 dTwo (fun l x => x = fPlus l)
theorem ok__law_plus (T : Txt K mg) : FnOk P w K mg base CX0 3 T.f__law_plus T.g__law_plus ["one", "other"] (sp__law_plus K) := by
  refine T.d__law_plus.fn.ok sc__law_plus (fun vs H Q E h => ?_) (fun cdv A outer s H vs Q E hr h => ?_)
  · exact spR_len h
  · have nd := nd__law_plus
    refine ⟨_, (pss_one (ps_ret (Dl.pc T.d__law_fr (ok__law_fr T) (hr.mono (by decide)) rfl (pa_cons (pe_op op_add (pe_op op_mul (pe_ix (r := rIxT K) ix_tup (pv 0) pe_int (fun _ _ => rfl)) (pe_ix (r := rIxT K) ix_tup (pv 1) pe_int (fun _ _ => rfl))) (pe_op op_mul (pe_ix (r := rIxT K) ix_tup (pv 1) pe_int (fun _ _ => rfl)) (pe_ix (r := rIxT K) ix_tup (pv 0) pe_int (fun _ _ => rfl)))) (pa_cons (pe_op op_mul (pe_ix (r := rIxT K) ix_tup (pv 0) pe_int (fun _ _ => rfl)) (pe_ix (r := rIxT K) ix_tup (pv 1) pe_int (fun _ _ => rfl))) pa_nil))))), ?_⟩
    obtain ⟨hl, ds, G, sG, da, dm, k⟩ := h
    obtain ⟨a, b, c, d, rfl, ⟨hb, ha1, hb1⟩, ⟨hd, hc1, hd1⟩⟩ := dm
    have A := at_pure (N := N__law_plus) sG da (by rw [hl]; decide)
    exact s_ret A (ev_callF (ea_cons (ev_I0 (ev_I (ev_ixT (ev_var rfl) ev_int rfl) (ev_ixT (ev_var rfl) ev_int rfl) (cmR hd1)) (ev_I (ev_ixT (ev_var rfl) ev_int rfl) (ev_ixT (ev_var rfl) ev_int rfl) (cmL hc1))) (ea_cons (ev_I (ev_ixT (ev_var rfl) ev_int rfl) (ev_ixT (ev_var rfl) ev_int rfl) (cmR hd1)) ea_nil)) rfl ⟨_, _, rfl, Int.mul_ne_zero (by omega) (by omega), pow_le4000 (nat_mul_lt hb1 hd1) (by decide)⟩) (fun v d G' H' g j p e => k v d G' H' g.nob p e)
abbrev sp__law_minus (K : PySem.W.Frag) : Sp := spR K 2 dTwo (fun l x => x = fMinus l)
theorem ok__law_minus (T : Txt K mg) : FnOk P w K mg base CX0 3 T.f__law_minus T.g__law_minus ["one", "other"] (sp__law_minus K) := by
  refine T.d__law_minus.fn.ok sc__law_minus (fun vs H Q E h => ?_) (fun cdv A outer s H vs Q E hr h => ?_)
  · exact spR_len h
  · have nd := nd__law_minus
    refine ⟨_, (pss_one (ps_ret (Dl.pc T.d__law_fr (ok__law_fr T) (hr.mono (by decide)) rfl (pa_cons (pe_op op_sub (pe_op op_mul (pe_ix (r := rIxT K) ix_tup (pv 0) pe_int (fun _ _ => rfl)) (pe_ix (r := rIxT K) ix_tup (pv 1) pe_int (fun _ _ => rfl))) (pe_op op_mul (pe_ix (r := rIxT K) ix_tup (pv 1) pe_int (fun _ _ => rfl)) (pe_ix (r := rIxT K) ix_tup (pv 0) pe_int (fun _ _ => rfl)))) (pa_cons (pe_op op_mul (pe_ix (r := rIxT K) ix_tup (pv 0) pe_int (fun _ _ => rfl)) (pe_ix (r := rIxT K) ix_tup (pv 1) pe_int (fun _ _ => rfl))) pa_nil))))), ?_⟩
    obtain ⟨hl, ds, G, sG, da, dm, k⟩ := h
    obtain ⟨a, b, c, d, rfl, ⟨hb, ha1, hb1⟩, ⟨hd, hc1, hd1⟩⟩ := dm
    have A := at_pure (N := N__law_minus) sG da (by rw [hl]; decide)
    exact s_ret A (ev_callF (ea_cons (ev_I0 (ev_I (ev_ixT (ev_var rfl) ev_int rfl) (ev_ixT (ev_var rfl) ev_int rfl) (cmR hd1)) (ev_I (ev_ixT (ev_var rfl) ev_int rfl) (ev_ixT (ev_var rfl) ev_int rfl) (cmL hc1))) (ea_cons (ev_I (ev_ixT (ev_var rfl) ev_int rfl) (ev_ixT (ev_var rfl) ev_int rfl) (cmR hd1)) ea_nil)) rfl ⟨_, _, rfl, Int.mul_ne_zero (by omega) (by omega), pow_le4000 (nat_mul_lt hb1 hd1) (by decide)⟩) (fun v d G' H' g j p e => k v d G' H' g.nob p e)
abbrev sp__law_times (K : PySem.W.Frag) : Sp := spR K 2 dTwo (fun l x => x = fTimes l)
theorem ok__law_times (T : Txt K mg) : FnOk P w K mg base CX0 3 T.f__law_times T.g__law_times ["one", "other"] (sp__law_times K) := by
  refine T.d__law_times.fn.ok sc__law_times (fun vs H Q E h => ?_) (fun cdv A outer s H vs Q E hr h => ?_)
  · exact spR_len h
  · have nd := nd__law_times
    refine ⟨_, (pss_one (ps_ret (Dl.pc T.d__law_fr (ok__law_fr T) (hr.mono (by decide)) rfl (pa_cons (pe_op op_mul (pe_ix (r := rIxT K) ix_tup (pv 0) pe_int (fun _ _ => rfl)) (pe_ix (r := rIxT K) ix_tup (pv 1) pe_int (fun _ _ => rfl))) (pa_cons (pe_op op_mul (pe_ix (r := rIxT K) ix_tup (pv 0) pe_int (fun _ _ => rfl)) (pe_ix (r := rIxT K) ix_tup (pv 1) pe_int (fun _ _ => rfl))) pa_nil))))), ?_⟩
    obtain ⟨hl, ds, G, sG, da, dm, k⟩ := h
    obtain ⟨a, b, c, d, rfl, ⟨hb, ha1, hb1⟩, ⟨hd, hc1, hd1⟩⟩ := dm
    have A := at_pure (N := N__law_times) sG da (by rw [hl]; decide)
    exact s_ret A (ev_callF (ea_cons (ev_I (ev_ixT (ev_var rfl) ev_int rfl) (ev_ixT (ev_var rfl) ev_int rfl) (cmR hc1)) (ea_cons (ev_I (ev_ixT (ev_var rfl) ev_int rfl) (ev_ixT (ev_var rfl) ev_int rfl) (cmR hd1)) ea_nil)) rfl ⟨_, _, rfl, Int.mul_ne_zero (by omega) (by omega), pow_le4000 (nat_mul_lt hb1 hd1) (by decide)⟩) (fun v d G' H' g j p e => k v d G' H' g.nob p e)
abbrev sp__law_over (K : PySem.W.Frag) : Sp := spR K 2 dOver (fun l x => x = fOver l)
theorem ok__law_over (T : Txt K mg) : FnOk P w K mg base CX0 3 T.f__law_over T.g__law_over ["one", "other"] (sp__law_over K) := by
  refine T.d__law_over.fn.ok sc__law_over (fun vs H Q E h => ?_) (fun cdv A outer s H vs Q E hr h => ?_)
  · exact spR_len h
  · have nd := nd__law_over
    refine ⟨_, (pss_one (ps_ret (Dl.pc T.d__law_fr (ok__law_fr T) (hr.mono (by decide)) rfl (pa_cons (pe_op op_mul (pe_ix (r := rIxT K) ix_tup (pv 0) pe_int (fun _ _ => rfl)) (pe_ix (r := rIxT K) ix_tup (pv 1) pe_int (fun _ _ => rfl))) (pa_cons (pe_op op_mul (pe_ix (r := rIxT K) ix_tup (pv 0) pe_int (fun _ _ => rfl)) (pe_ix (r := rIxT K) ix_tup (pv 1) pe_int (fun _ _ => rfl))) pa_nil))))), ?_⟩
    obtain ⟨hl, ds, G, sG, da, dm, k⟩ := h
    obtain ⟨a, b, c, d, rfl, ⟨hb, ha1, hb1⟩, ⟨hd, hc1, hd1⟩, c0⟩ := dm
    have A := at_pure (N := N__law_over) sG da (by rw [hl]; decide)
    exact s_ret A (ev_callF (ea_cons (ev_I (ev_ixT (ev_var rfl) ev_int rfl) (ev_ixT (ev_var rfl) ev_int rfl) (cmR hd1)) (ea_cons (ev_I (ev_ixT (ev_var rfl) ev_int rfl) (ev_ixT (ev_var rfl) ev_int rfl) (cmR hc1)) ea_nil)) rfl ⟨_, _, rfl, Int.mul_ne_zero (by omega) c0, pow_le4000 (nat_mul_lt hb1 hc1) (by decide)⟩) (fun v d G' H' g j p e => k v d G' H' g.nob p e)
abbrev sp__law_frame (K : PySem.W.Frag) : Sp := spB K 1 frameDom frameR
theorem ok__law_frame (T : Txt K mg) : FnOk P w K mg base CX0 3 T.f__law_frame T.g__law_frame ["bag", "most"] (sp__law_frame K) := by
  refine T.d__law_frame.fn.ok sc__law_frame (fun vs H Q E h => ?_) (fun cdv A outer s H vs Q E hr h => ?_)
  · exact spB_len h
  · have nd := nd__law_frame
    refine ⟨_, (pss_cons (ps_set (i := 2) nd rfl (Or.inl rfl) (Dl.pc T.d__law_mixed (ok__law_mixed T) (hr.mono (by decide)) rfl (pa_cons (pv 0) (pa_cons (pe_lst (pa_cons pe_str (pa_cons pe_str (pa_cons pe_str (pa_cons pe_str (pa_cons pe_str (pa_cons pe_str (pa_cons pe_str (pa_cons pe_str (pa_cons pe_str (pa_cons pe_str (pa_cons pe_str (pa_cons pe_str pa_nil))))))))))))) pa_nil))))
      (pss_cons (ps_set (i := 3) nd rfl (Or.inl rfl) (pe_callTy (T := "tuple") (r := Dl.rTupOf K) call_tuple_of (by rfl) T.b_tuple (by decide +kernel) (pa_cons (pe_slice (r := rSlL K) sl_list (pv 2) po_none (po_some (pe_op op_add pe_int (Dl.pc T.d__law_take (ok__law_take T) (hr.mono (by decide)) rfl (pa_cons (pv 0) (pa_cons (pv 1) pa_nil)))))) pa_nil)))
      (pss_cons (ps_par (i := 4) (j := 5) rfl nd rfl rfl (by decide) rfl rfl (pa_cons (Dl.pc T.d__law_some (ok__law_some T) (hr.mono (by decide)) rfl (pa_cons (pv 0) (pa_cons (pe_lst (pa_cons pe_str (pa_cons pe_str (pa_cons pe_str pa_nil)))) pa_nil))) (pa_cons (Dl.pc T.d__law_some (ok__law_some T) (hr.mono (by decide)) rfl (pa_cons (pv 0) (pa_cons (pe_lst (pa_cons pe_int (pa_cons pe_int (pa_cons pe_int pa_nil)))) pa_nil))) pa_nil)) (by with_unfolding_all rfl))
      (pss_cons (ps_set (i := 6) nd rfl (Or.inr rfl) (pe_lc (own := [("cell", 8)]) (g := gName 8) rfl nd (pi_tup (pv 3)) (blkOk_by (own := [("cell", 8)]) (N := N__law_frame) (sc := defScope s__law_frame) (by decide +kernel)) (fun _ _ _ _ _ => (pg_name (i := 8) nd rfl (Or.inl rfl))) (fun _ _ _ _ _ => (pts_one (pt_cmpR op_eq (Dl.pc T.d__law_take (ok__law_take T) (hr.mono (by decide)) rfl (pa_cons (pv 0) (pa_cons (Dl.pc T.d__law_some (ok__law_some T) (hr.mono (by decide)) rfl (pa_cons (pv 0) (pa_cons (pe_lst (pa_cons pe_int (pa_cons pe_int (pa_cons pe_int pa_nil)))) pa_nil))) pa_nil))) pe_int (nomark _)))) (fun _ _ _ _ _ => (pv 8))))
      (pss_cons (ps_set (i := 7) nd rfl (Or.inl rfl) (pe_lst pa_nil))
      (pss_cons (ps_for PassesOwn.never rfl (pi_list (pe_lc (own := [("one", 9)]) (g := gName 9) rfl nd (pi_tup (pv 3)) (blkOk_by (own := [("one", 9)]) (N := N__law_frame) (sc := defScope s__law_frame) (by decide +kernel)) (fun _ _ _ _ _ => (pg_name (i := 9) nd rfl (Or.inl rfl))) (fun _ _ _ _ _ => (pts_one (pt_cmpR (r := rIn K true) op_notIn_seq (pv 9) (pv 6) (by with_unfolding_all rfl)))) (fun _ _ _ _ _ => (pv 9)))) (pg_name (i := 8) nd rfl (Or.inl rfl)) (pss_one (ps_if (PW.pt (pw_and (pt_cmpR (r := rNeD K) (op_neD hr.units) (pv 7) (pe_lst pa_nil) (nomark _)) (pw_and1 (pt_cmpR op_eq (Dl.pc T.d__law_take (ok__law_take T) (hr.mono (by decide)) rfl (pa_cons (pv 0) (pa_cons (pv 5) pa_nil))) pe_int (nomark _))))) (pss_one (ps_expr (pe_bm PySem.F.plainAttrs_list PySem.F.slot_list_append PySem.F.type_list_append mt_append (pe_ix (r := rIxL K) ix_list (pv 7) (Dl.pc T.d__law_take (ok__law_take T) (hr.mono (by decide)) rfl (pa_cons (pv 0) (pa_cons (pe_callB (id := "len") (r := Dl.rLen K) call_len_seq (by rfl) T.b_len (by decide +kernel) (pa_cons (pv 7) pa_nil)) pa_nil))) (fun _ _ => rfl)) (pa_cons (pv 8) pa_nil)))) (pss_one (ps_expr (pe_bm PySem.F.plainAttrs_list PySem.F.slot_list_append PySem.F.type_list_append mt_append (pv 7) (pa_cons (pe_lst (pa_cons (pv 8) pa_nil)) pa_nil)))))))
      (pss_one (ps_ret (pe_tup (pa_cons (pv 3) (pa_cons (pe_callTy (T := "tuple") (r := Dl.rTupOf K) call_tuple_of (by rfl) T.b_tuple (by decide +kernel) (pa_cons (pe_lc (own := [("group", 10)]) (g := gName 10) rfl nd (pi_list (pv 7)) (blkOk_by (own := [("group", 10)]) (N := N__law_frame) (sc := defScope s__law_frame) (by decide +kernel)) (fun _ _ _ _ _ => (pg_name (i := 10) nd rfl (Or.inl rfl))) (fun _ _ _ _ _ => pts_nil) (fun _ _ _ _ _ => (pe_callTy (T := "tuple") (r := Dl.rTupOf K) call_tuple_of (by rfl) T.b_tuple (by decide +kernel) (pa_cons (pv 10) pa_nil)))) pa_nil)) (pa_cons (pe_callTy (T := "tuple") (r := Dl.rTupOf K) call_tuple_of (by rfl) T.b_tuple (by decide +kernel) (pa_cons (pv 6) pa_nil)) (pa_cons (pv 4) pa_nil))))))))))))), ?_⟩
    obtain ⟨x, ws, rfl, hl, ds, G, sG, bg, da, dm, k⟩ := h
    obtain ⟨n, rfl, n1, n2⟩ := dm
    have A := at_bag (N := N__law_frame) sG bg da (by rw [hl]; decide)
    refine q_asg A (ev_callB rfl rfl (ea_cons (ev_lst (l := nm12) (ea_cons ev_str (ea_cons ev_str (ea_cons ev_str (ea_cons ev_str (ea_cons ev_str (ea_cons ev_str (ea_cons ev_str (ea_cons ev_str (ea_cons ev_str (ea_cons ev_str (ea_cons ev_str (ea_cons ev_str ea_nil)))))))))))) (by decide)) ea_nil) fun l e => ⟨by rw [e]; rfl, nm12, e, by decide⟩) fun w σ1 G1 H1 e A1 => ?_
    obtain ⟨l, e1, l', m, e2, rfl, pm⟩ := e
    rw [e1] at e2
    cases e2
    have ml : m.length = 12 := pm.length_eq
    have mn : ∀ y ∈ m, y ∈ nm12 := fun y hy => pm.mem_iff.mp hy
    refine q_asg A1 (ev_tupN (en_slL (ev_var rfl) eo_none (eo_someP (C := fun i => 1 ≤ i ∧ i ≤ (n : Int)) (ev_imp (ev_I0x (C1 := fun i => i = 1) (ev_ex1 ev_int) (ev_take rfl (ev_var rfl) (by omega) (by omega))) fun d ⟨i, j, e, c1, c2⟩ => ⟨_, e, by omega, by omega⟩)))) fun w σ2 G2 H2 e A2 => ?_
    obtain ⟨cells, rfl, lo, hi, rfl, ⟨i, rfl, i1, i2⟩, ec⟩ := e
    rw [cutD_take (by omega), ml] at ec
    have cl : cells.length = min i.toNat 12 := by rw [ec, List.length_take, ml]; omega
    have cn : ∀ y ∈ cells, y ∈ nm12 := fun y hy => mn y (by rw [ec] at hy; exact List.mem_of_mem_take hy)
    refine q_par A2 (ea_consP (ev_some rfl (ev_lst (ea_cons ev_str (ea_cons ev_str (ea_cons ev_str ea_nil))) (by decide : 3 ≤ 1000)) (by simp) (by decide : 3 ≤ 1000)) (ea_consP (ev_someI (zs := [9, 3, 4]) rfl (ev_lst (ea_cons ev_int (ea_cons ev_int (ea_cons ev_int ea_nil))) (by decide : 3 ≤ 1000)) (by decide) (by decide)) ea_nil)) (fun l ⟨d, r, e, _, d2, r2, e2, _, e3⟩ => ⟨d, d2, by rw [e, e2, e3]⟩) ?_
    rintro way _ σ3 G3 H3 ⟨d, r, e, hway, d2, r2, e2, ⟨share, rfl, hsh⟩, e3⟩ A3
    subst e3 e2
    cases e
    have sh1 : 0 < share ∧ share ≤ 9 := by
      simp only [List.mem_cons, List.not_mem_nil, or_false] at hsh
      omega
    refine q_asg A3 (ev_new (en_lc (T := fun _ _ => True) (E := fun y z => z = y) (f := fun y env => env.set 8 (.d y)) (ei_tup (ev_var rfl)) (fun l e => by rw [e]; omega) (fun l _ y _ => tg_name (by decide))
      (fun l _ y _ => et_TP (ev_imp (ev_eqIx (C2 := fun i => i = 0) (ev_takeP (m := 99) (C := fun z => z ∈ ([99, 5, 9] : List Int)) rfl (ev_someI (zs := [99, 5, 9]) rfl (ev_lst (ea_cons ev_int (ea_cons ev_int (ea_cons ev_int ea_nil))) (by decide : 3 ≤ 1000)) (by decide) (by decide)) (fun z hz => by simp only [List.mem_cons, List.not_mem_nil, or_false] at hz; omega) (by decide)) (ev_ex1 ev_int)) fun d e => e)) fun l _ y _ _ => ev_var rfl)) fun w σ4 G4 H4 e A4 => ?_
    obtain ⟨free, rfl, l4, e4, lc⟩ := e
    subst e4
    have fm : ∀ y ∈ free, y ∈ l4 := fun y hy => let ⟨z, hz, e⟩ := lc.mem y hy; by rw [e]; exact hz
    refine q_asgM A4 (en_lstP ea_nil fun l e => by rw [e]; decide) fun gl ds σ5 G5 H5 e nb A5 => ?_
    subst e
    refine q_for A5 (Pl := fun l => l.length ≤ 12 ∧ ∀ y ∈ l, y ∈ l4) (f := fun y env => env.set 8 (.d y)) (vs := [8])
      (ei_listP (ev_imp (ev_new (en_lc (T := fun _ _ => True) (E := fun y z => z = y) (f := fun y env => env.set 9 (.d y)) (ei_tup (ev_var rfl)) (fun l e => by rw [e]; omega) (fun l _ y _ => tg_name (by decide))
        (fun l e y hy => ?_) fun l _ y _ _ => ev_var rfl)) ?_)) (fun l _ y _ => tg_name (by decide))
      (fun l i env' ms' => ∃ (gs : List (Addr × List PyData)) (s8 : Sl), env' = [.a x, .d (.int (n : Nat)), .d (.list m), .d (.tuple l4), .d way, .d (.int share), .d (.list free), .a gl, s8, .un, .un] ∧
        (gl, gs.map fun p => Sl.a p.1) ∈ ms' ∧ (∀ p ∈ gs, (p.1, p.2.map Sl.d) ∈ ms') ∧ (∀ p ∈ gs, p.2.length ≤ i ∧ ∀ y ∈ p.2, y ∈ nm12) ∧ gs.length ≤ i ∧ i ≤ 12) (fun l h => ⟨[], .un, rfl, List.mem_cons_self, fun p hp => (nomatch hp), fun p hp => (nomatch hp), Nat.le_refl _, Nat.zero_le _⟩) ?_ ?_
    · subst e
      obtain ⟨s, rfl, _⟩ := nm_ok y (cn y hy)
      exact et_imp (et_inS (ev_var rfl) (ev_var rfl) fun z hz => let ⟨t, e, _⟩ := nm_ok z (cn z (fm z hz)); ⟨t, e⟩) fun d _ => trivial
    · rintro d ⟨r, rfl, l, e, lc2⟩
      subst e
      exact ⟨r, rfl, Nat.le_trans lc2.len (by omega), fun y hy => let ⟨z, hz, e⟩ := lc2.mem y hy; by rw [e]; exact hz⟩
    · rintro l i y env' ms' Gt σ6 G6 H6 ⟨ll, lm⟩ hy ⟨gs, s8, rfl, hg, hp, hgs, gi, ii⟩ A6 nx hnx
      have il : i < l.length := (List.getElem?_eq_some_iff.mp hy).1
      have yn : y ∈ nm12 := cn y (lm y (List.mem_of_getElem? hy))
      obtain ⟨gn, hgn⟩ := List.mem_iff_getElem?.mp hg
      have sh : SeqAt.shaped (.list (gs.map fun p => .list p.2)) = true := by
        refine sma_shaped (w := (13 * 12 + 1) * (gs.map fun p => PyData.list p.2).length) (h := 1) (sma_all fun z hz => ?_) (by decide)
        obtain ⟨p, hp1, rfl⟩ := List.mem_map.mp hz
        exact (sm_list (sma_all (w := 12) (h := 0) fun u hu => nm_sm ((hgs p hp1).2 u hu))).le (Nat.mul_le_mul (by decide) (by have := (hgs p hp1).1; omega)) (Nat.le_refl _)
      have hgl : ∀ p ∈ gs, p.1 ≠ gl := fun p hp1 e => by
        have := nd_eq A6.nd (hp p hp1) hg e
        have h2 := congrArg Prod.snd this
        cases hq : p.2 with
        | nil => rw [hq] at h2; cases gs with
          | nil => cases hp1
          | cons a r => cases h2
        | cons a r => rw [hq] at h2; cases gs with
          | nil => cases hp1
          | cons a' r' => cases h2
      refine s_if (Pt := fun c => c = true → gs ≠ []) A6 (et_andP (et_neNest rfl hg hp sh) (fun e => et_imp (et_TP (Pt := fun _ => True) (ev_eqIx (C2 := fun i => i = 0) (ev_take rfl (ev_var rfl) sh1.1 (by omega)) (ev_ex1 ev_int))) fun c _ _ => of_decide_eq_true e.symm) (fun _ h => (nomatch h))) (fun ne G7 H7 A7 => ?_) (fun _ G7 H7 A7 => ?_)
      · have ne := ne rfl
        have gp : 0 < gs.length := by cases gs with
          | nil => exact absurd rfl ne
          | cons a r => simp
        refine s_appIx (n := gn) (rs := gs.map (·.1)) (C := fun z => 0 ≤ z ∧ z < (gs.length : Int)) A7 rfl (by rw [List.map_map]; exact hgn) (ev_imp (ev_take rfl (ev_lenM rfl hgn) (by rw [List.length_map]; omega) (by rw [List.length_map]; omega)) fun d ⟨r, e, r0, r1⟩ => ⟨r, e, r0, by rw [List.length_map] at r1; exact r1⟩) (fun z h => by rw [List.length_map]; exact h) ?_ (ev_var rfl) ?_
        · intro r hr
          obtain ⟨p, hp1, rfl⟩ := List.mem_map.mp hr
          obtain ⟨q, hq⟩ := List.mem_iff_getElem?.mp (hp p hp1)
          exact ⟨q, _, hq, by rw [List.length_map]; have := (hgs p hp1).1; omega⟩
        · intro r q es d G8 H8 hr hq e A8
          subst e
          obtain ⟨p0, hp0, rfl⟩ := List.mem_map.mp hr
          have es0 : es = p0.2.map Sl.d := congrArg Prod.snd (nd_eq A7.nd (List.mem_of_getElem? hq) (hp p0 hp0) rfl)
          have ga : (gs.map fun p => if p.1 = p0.1 then (p.1, p.2 ++ [d]) else p).map (fun p => Sl.a p.1) = gs.map fun p => Sl.a p.1 := by
            rw [List.map_map]
            refine List.map_congr_left fun p _ => ?_
            show Sl.a (if p.1 = p0.1 then (p.1, p.2 ++ [d]) else p).1 = _
            split <;> rfl
          refine hnx _ _ _ _ _ ⟨gs.map fun p => if p.1 = p0.1 then (p.1, p.2 ++ [d]) else p, _, rfl, ?_, ?_, ?_, by rw [List.length_map]; omega, by omega⟩ A8
          · rw [ga]
            exact mem_set_ne hq hg fun z => hgl p0 hp0 z.symm
          · intro p hp1
            obtain ⟨p2, hp2, rfl⟩ := List.mem_map.mp hp1
            by_cases c : p2.1 = p0.1
            · rw [if_pos c]
              have e2 : p2.2.map Sl.d = p0.2.map Sl.d := congrArg Prod.snd (nd_eq A7.nd (hp p2 hp2) (hp p0 hp0) c)
              have e3 : ((p2.1, (p2.2 ++ [d]).map Sl.d) : Addr × List Sl) = (p0.1, es ++ [Sl.d d]) := by rw [List.map_append, e2, es0, c]; rfl
              rw [e3]
              exact mem_set_eq hq
            · rw [if_neg c]
              exact mem_set_ne hq (hp p2 hp2) c
          · intro p hp1
            obtain ⟨p2, hp2, rfl⟩ := List.mem_map.mp hp1
            have h2 := hgs p2 hp2
            by_cases c : p2.1 = p0.1
            · rw [if_pos c]
              refine ⟨by rw [List.length_append]; show p2.2.length + 1 ≤ _; omega, fun u hu => ?_⟩
              rcases List.mem_append.mp hu with hu | hu
              · exact h2.2 u hu
              · have : u = d := by simpa using hu
                rw [this]; exact yn
            · rw [if_neg c]
              exact ⟨by omega, h2.2⟩
      · refine s_appM (n := gn) A7 rfl hgn (en_lstP (ea_consP (ev_var rfl) ea_nil) fun l ⟨d, r, e, _, e2⟩ => by rw [e, e2]; show 1 ≤ 1000; decide) (by rw [List.length_map]; omega) fun r ds G8 H8 e A8 => ?_
        obtain ⟨d, r2, rfl, rfl, rfl⟩ := e
        refine hnx _ _ _ _ _ ⟨gs ++ [(r, [d])], _, rfl, ?_, ?_, ?_, by rw [List.length_append]; show gs.length + 1 ≤ _; omega, by omega⟩ A8
        · rw [List.map_append]
          exact List.mem_cons_of_mem _ (mem_set_eq hgn)
        · intro p hp1
          rcases List.mem_append.mp hp1 with hp1 | hp1
          · exact List.mem_cons_of_mem _ (mem_set_ne hgn (hp p hp1) (hgl p hp1))
          · have : p = (r, [d]) := by simpa using hp1
            subst this
            exact List.mem_cons_self
        · intro p hp1
          rcases List.mem_append.mp hp1 with hp1 | hp1
          · have h2 := hgs p hp1
            exact ⟨by omega, h2.2⟩
          · have : p = (r, [d]) := by simpa using hp1
            subst this
            exact ⟨by show 1 ≤ _; omega, fun u hu => by have : u = d := by simpa using hu
                                                        rw [this]; exact yn⟩
    · rintro l env' ms' σ6 G6 H6 ⟨ll, lm⟩ ⟨gs, s8, rfl, hg, hp, hgs, gi, ii⟩ A6
      obtain ⟨G7, A7⟩ := A6.freezeNest (i := 7) rfl hg hp
      refine s_ret A7 (ev_tup (ea_cons (ev_var rfl) (ea_cons (ev_tupMap (F := fun z => match z with | .list c => .tuple c | _ => .none) (f := fun y env => env.set 10 (.d y)) (ei_list (ev_var rfl)) (by rw [List.length_map]; omega) (fun y _ => tg_name (by decide)) fun y hy => ?_) (ea_cons (ev_cb (ea_cons (ev_var rfl) ea_nil) rc_tupL) (ea_cons (ev_var rfl) ea_nil)))) (by show 4 ≤ 1000; decide)) (fun v d G' H' g j p e => k v d G' H' g (j.bag _ rfl) p ⟨n, _, _, _, _, rfl, e, by omega, by omega⟩)
      obtain ⟨p, _, rfl⟩ := List.mem_map.mp hy
      exact ev_cb (ea_cons (ev_var rfl) ea_nil) rc_tupL
abbrev sp__law_stand (K : PySem.W.Frag) : Sp := spB K 1 manyDom standR
theorem ok__law_stand (T : Txt K mg) : FnOk P w K mg base CX0 3 T.f__law_stand T.g__law_stand ["bag", "many"] (sp__law_stand K) := by
  refine T.d__law_stand.fn.ok sc__law_stand (fun vs H Q E h => ?_) (fun cdv A outer s H vs Q E hr h => ?_)
  · exact spB_len h
  · have nd := nd__law_stand
    refine ⟨_, (pss_cons (ps_set (i := 2) nd rfl (Or.inr rfl) (Dl.pc T.d__law_some (ok__law_some T) (hr.mono (by decide)) rfl (pa_cons (pv 0) (pa_cons (pe_lst (pa_cons pe_int (pa_cons pe_int (pa_cons pe_int (pa_cons pe_int (pa_cons pe_int pa_nil)))))) pa_nil))))
      (pss_one (ps_ret (pe_callTy (T := "tuple") (r := Dl.rTupOf K) call_tuple_of (by rfl) T.b_tuple (by decide +kernel) (pa_cons (pe_lc (own := [("at", 3)]) (g := gName 3) rfl nd (pi_range1 rfl T.b_range (pa_cons (pv 1) pa_nil)) (blkOk_by (own := [("at", 3)]) (N := N__law_stand) (sc := defScope s__law_stand) (by decide +kernel)) (fun _ _ _ _ _ => (pg_name (i := 3) nd rfl (Or.inl rfl))) (fun _ _ _ _ _ => pts_nil) (fun _ _ _ _ _ => (Dl.pc T.d__law_fr (ok__law_fr T) (hr.mono (by decide)) rfl (pa_cons (pe_op op_sub (Dl.pc T.d__law_take (ok__law_take T) (hr.mono (by decide)) rfl (pa_cons (pv 0) (pa_cons pe_int pa_nil))) pe_int) (pa_cons (pv 2) pa_nil))))) pa_nil))))), ?_⟩
    obtain ⟨x, ws, rfl, hl, ds, G, sG, bg, da, dm, k⟩ := h
    obtain ⟨n, rfl, n1, n2⟩ := dm
    have A := at_bag (N := N__law_stand) sG bg da (by rw [hl]; decide)
    refine q_asg A (ev_someI (zs := [1, 1, 1, 2, 3]) rfl (ev_lst (ea_cons ev_int (ea_cons ev_int (ea_cons ev_int (ea_cons ev_int (ea_cons ev_int ea_nil))))) (by decide : 5 ≤ 1000)) (by decide) (by decide)) fun w σ1 G1 H1 e A1 => ?_
    obtain ⟨z, rfl, hz⟩ := e
    have z1 : 0 < z ∧ z ≤ 3 := by
      simp only [List.mem_cons, List.not_mem_nil, or_false] at hz
      omega
    refine s_ret A1 (ev_tupAll (E := fun _ y => ∃ a c : Int, y = fr a c ∧ 0 < c ∧ c ≤ 3 ∧ a.natAbs ≤ 4) (f := fun y env => env.set 3 (.d y)) (ei_rng (ea_cons (ev_var rfl) ea_nil) (by omega)) (by rw [intL_len]; omega) (fun y _ => tg_name (by decide)) fun y hy => ?_) ?_
    · refine ev_imp (ev_callR (ea_consP (ev_I0x (C2 := fun i => i = 4) (ev_take rfl ev_int (by decide) (by decide)) (ev_ex1 ev_int)) (ea_consP (ev_var rfl) ea_nil)) ?_) ?_
      · rintro l ⟨d, r, rfl, ⟨i, j, rfl, c1, c2⟩, d2, r2, rfl, rfl, rfl⟩
        exact ⟨rfl, _, _, rfl, by omega, Nat.lt_of_lt_of_le (show z.natAbs < 2 ^ 40 by omega) (Nat.pow_le_pow_right (by decide) (by decide))⟩
      · rintro d' ⟨l, ⟨d, r, rfl, ⟨i, j, rfl, c1, c2⟩, d2, r2, rfl, rfl, rfl⟩, e⟩
        exact ⟨i - j, z, e, z1.1, z1.2, by omega⟩
    · rintro v d G' H' g j p ⟨m, rfl, lc⟩
      refine k v _ G' H' g (j.bag _ rfl) p ⟨n, m, rfl, rfl, by rw [lc.all.1, intL_len], fun y hy => ?_⟩
      obtain ⟨_, _, e⟩ := lc.mem y hy
      exact e
abbrev sp__law_reading (K : PySem.W.Frag) : Sp := spB K 1 manyDom readingR
theorem ok__law_reading (T : Txt K mg) : FnOk P w K mg base CX0 3 T.f__law_reading T.g__law_reading ["bag", "many"] (sp__law_reading K) := by
  refine T.d__law_reading.fn.ok sc__law_reading (fun vs H Q E h => ?_) (fun cdv A outer s H vs Q E hr h => ?_)
  · exact spB_len h
  · have nd := nd__law_reading
    refine ⟨_, (pss_cons (ps_asg (pe_tup (pa_cons (Dl.pc T.d__law_take (ok__law_take T) (hr.mono (by decide)) rfl (pa_cons (pv 0) (pa_cons pe_int pa_nil))) (pa_cons (Dl.pc T.d__law_take (ok__law_take T) (hr.mono (by decide)) rfl (pa_cons (pv 0) (pa_cons (pv 1) pa_nil))) pa_nil))) (pg_tup rfl (pgs_cons (pg_name (i := 2) nd rfl (Or.inl rfl)) (pgs_cons (pg_name (i := 3) nd rfl (Or.inr rfl)) pgs_nil))))
      (pss_cons (ps_if (pt_cmpR op_lt (pv 2) pe_int (nomark _)) (pss_one (ps_ret (pe_callTy (T := "tuple") (r := Dl.rTupOf K) call_tuple_of (by rfl) T.b_tuple (by decide +kernel) (pa_cons (pe_lc (own := [("spot", 5)]) (g := gName 5) rfl nd (pi_range1 rfl T.b_range (pa_cons (pv 1) pa_nil)) (blkOk_by (own := [("spot", 5)]) (N := N__law_reading) (sc := defScope s__law_reading) (by decide +kernel)) (fun _ _ _ _ _ => (pg_name (i := 5) nd rfl (Or.inl rfl))) (fun _ _ _ _ _ => pts_nil) (fun _ _ _ _ _ => (pe_ifExp (pt_cmpR op_eq (pv 5) (pv 3) (nomark _)) (Dl.pc T.d__law_some (ok__law_some T) (hr.mono (by decide)) rfl (pa_cons (pv 0) (pa_cons (pe_lst (pa_cons pe_int (pa_cons (pe_un un_neg pe_int) pa_nil))) pa_nil))) pe_int))) pa_nil)))) pss_nil)
      (pss_cons (ps_if (pt_cmpR op_eq (pv 2) pe_int (nomark _)) (pss_one (ps_ret (pe_op (r := Dl.rRepA K) Dl.op_repA (pe_tup (pa_cons pe_int pa_nil)) (pv 1)))) pss_nil)
      (pss_cons (ps_if (pt_cmpR op_eq (pv 2) pe_int (nomark _)) (pss_cons (ps_set (i := 4) nd rfl (Or.inr rfl) (Dl.pc T.d__law_take (ok__law_take T) (hr.mono (by decide)) rfl (pa_cons (pv 0) (pa_cons (pv 1) pa_nil))))
      (pss_one (ps_ret (pe_callTy (T := "tuple") (r := Dl.rTupOf K) call_tuple_of (by rfl) T.b_tuple (by decide +kernel) (pa_cons (pe_lc (own := [("spot", 5)]) (g := gName 5) rfl nd (pi_range1 rfl T.b_range (pa_cons (pv 1) pa_nil)) (blkOk_by (own := [("spot", 5)]) (N := N__law_reading) (sc := defScope s__law_reading) (by decide +kernel)) (fun _ _ _ _ _ => (pg_name (i := 5) nd rfl (Or.inl rfl))) (fun _ _ _ _ _ => pts_nil) (fun _ _ _ _ _ => (pe_op op_sub (pe_callTy (T := "int") (r := Dl.rInt1) call_int1 (by rfl) T.b_int (by decide +kernel) (pa_cons (pe_cmpR op_eq (pv 5) (pv 3) (nomark _)) pa_nil)) (pe_callTy (T := "int") (r := Dl.rInt1) call_int1 (by rfl) T.b_int (by decide +kernel) (pa_cons (pe_cmpR op_eq (pv 5) (pv 4) (nomark _)) pa_nil))))) pa_nil))))) pss_nil)
      (pss_one (ps_ret (pe_callTy (T := "tuple") (r := Dl.rTupOf K) call_tuple_of (by rfl) T.b_tuple (by decide +kernel) (pa_cons (pe_lc (own := [("spot", 5)]) (g := gName 5) rfl nd (pi_range1 rfl T.b_range (pa_cons (pv 1) pa_nil)) (blkOk_by (own := [("spot", 5)]) (N := N__law_reading) (sc := defScope s__law_reading) (by decide +kernel)) (fun _ _ _ _ _ => (pg_name (i := 5) nd rfl (Or.inl rfl))) (fun _ _ _ _ _ => pts_nil) (fun _ _ _ _ _ => (Dl.pc T.d__law_some (ok__law_some T) (hr.mono (by decide)) rfl (pa_cons (pv 0) (pa_cons (pe_lst (pa_cons pe_int (pa_cons pe_int (pa_cons (pe_un un_neg pe_int) (pa_cons pe_int (pa_cons pe_int (pa_cons (pe_un un_neg pe_int) pa_nil))))))) pa_nil))))) pa_nil)))))))), ?_⟩
    obtain ⟨x, ws, rfl, hl, ds, G, sG, bg, da, dm, k⟩ := h
    obtain ⟨n, rfl, n1, n2⟩ := dm
    have A := at_bag (N := N__law_reading) sG bg da (by rw [hl]; decide)
    refine q_unp A (P := fun d => ∃ w a : Int, d = .tuple [.int w, .int a]) (ev_imp (ev_tupP (ea_consP (ev_take rfl ev_int (by decide) (by decide)) (ea_consP (ev_take rfl (ev_var rfl) (by omega) (by omega)) ea_nil)) ?_) ?_) (fun d ⟨w, a, e⟩ => ⟨_, _, e⟩) ?_
    · rintro l ⟨d, r, rfl, _, d2, r2, rfl, _, rfl⟩
      show 2 ≤ 1000
      decide
    · rintro d ⟨l, rfl, d1, r, rfl, ⟨w, rfl, _⟩, d2, r2, rfl, ⟨a, rfl, _⟩, rfl⟩
      exact ⟨w, a, rfl⟩
    rintro _ _ σ1 G1 H1 ⟨w, a, e⟩ A1
    cases e
    have fin : ∀ {env' : List Sl} {wi : TI} {g : TG} {te : TE} {vs : List Nat} {f : PyData → List Sl → List Sl}, EvI K env' (some x) [] wi (Is (intL n)) → (∀ y ∈ intL n, TgP K g vs y (f y)) →
        (∀ y ∈ intL n, EvP K (f y (wipeE env' vs)) (some x) [] te (fun d => ∃ z : Int, d = .int z ∧ z.natAbs ≤ 3)) → EvP K env' (some x) [] (tCB (rTupOf K) (tCons (tLc wi g tYes te vs) tNil)) (readingR [.int (n : Nat)]) := by
      intro env' wi g te vs f h1 h2 h3
      refine ev_imp (ev_tupAll (E := fun _ y => ∃ z : Int, y = .int z ∧ z.natAbs ≤ 3) h1 (by rw [intL_len]; omega) h2 h3) ?_
      rintro d ⟨m, rfl, lc⟩
      obtain ⟨cs, e, h⟩ := ints_of (C := fun z => z.natAbs ≤ 3) fun y hy => let ⟨_, _, c⟩ := lc.mem y hy; c
      refine ⟨n, cs, rfl, by rw [e], ?_, h⟩
      have := lc.all.1
      rw [e, List.length_map, intL_len] at this
      exact this
    refine q_when A1 (et_T (ev_B0 (ev_var rfl) ev_int)) (fun _ G2 H2 A2 => ?_) (fun _ G2 H2 A2 => ?_)
    · refine s_ret A2 (fin (f := fun y env => env.set 5 (.d y)) (ei_rng (ea_cons (ev_var rfl) ea_nil) (by omega)) (fun y _ => tg_name (by decide)) fun y hy => ?_) (fun v d G' H' g j p e => k v d G' H' g (j.bag _ rfl) p e)
      obtain ⟨i, _, rfl⟩ := List.mem_map.mp hy
      refine ev_if (et_T (ev_eqI (ev_var rfl) (ev_var rfl))) (fun _ => ?_) (fun _ => ?_)
      · refine ev_imp (ev_someI (zs := [1, -1]) rfl (ev_lst (ea_cons ev_int (ea_cons (ev_un ev_int) ea_nil)) (by decide : 2 ≤ 1000)) (by decide) (by decide)) ?_
        rintro d ⟨z, rfl, hz⟩
        simp only [List.mem_cons, List.not_mem_nil, or_false] at hz
        exact ⟨z, rfl, by omega⟩
      · exact ev_imp ev_int fun d e => ⟨0, e, by decide⟩
    refine q_when A2 (et_T (ev_eqI (ev_var rfl) ev_int)) (fun _ G3 H3 A3 => ?_) (fun _ G3 H3 A3 => ?_)
    · refine s_ret A3 (ev_repA (ev_tup (ea_cons ev_int ea_nil) (by decide : 1 ≤ 1000)) (ev_var rfl) (by simp) n1 (by omega) (by decide)) (fun v d G' H' g j p e => k v d G' H' g (j.bag _ rfl) p ⟨n, List.replicate n 1, rfl, ?_, by simp, ?_⟩)
      · rw [e, rep_one, List.map_replicate]
      · intro z hz
        rw [(List.mem_replicate.mp hz).2]; decide
    refine q_when A3 (et_T (ev_eqI (ev_var rfl) ev_int)) (fun _ G4 H4 A4 => ?_) (fun _ G4 H4 A4 => ?_)
    · refine q_asg A4 (ev_take rfl (ev_var rfl) (by omega) (by omega)) fun o σ5 G5 H5 e A5 => ?_
      obtain ⟨z, rfl, _, _⟩ := e
      refine s_ret A5 (fin (f := fun y env => env.set 5 (.d y)) (ei_rng (ea_cons (ev_var rfl) ea_nil) (by omega)) (fun y _ => tg_name (by decide)) fun y hy => ?_) (fun v d G' H' g j p e => k v d G' H' g (j.bag _ rfl) p e)
      obtain ⟨i, _, rfl⟩ := List.mem_map.mp hy
      refine ev_imp (ev_I0 (ev_cb (ea_cons (ev_eqI (ev_var rfl) (ev_var rfl)) ea_nil) rc_intB) (ev_cb (ea_cons (ev_eqI (ev_var rfl) (ev_var rfl)) ea_nil) rc_intB)) fun d e => ⟨_, e, ?_⟩
      split <;> split <;> decide
    · refine s_ret A4 (fin (f := fun y env => env.set 5 (.d y)) (ei_rng (ea_cons (ev_var rfl) ea_nil) (by omega)) (fun y _ => tg_name (by decide)) fun y hy => ?_) (fun v d G' H' g j p e => k v d G' H' g (j.bag _ rfl) p e)
      refine ev_imp (ev_someI (zs := [0, 1, -1, 2, 0, -3]) rfl (ev_lst (ea_cons ev_int (ea_cons ev_int (ea_cons (ev_un ev_int) (ea_cons ev_int (ea_cons ev_int (ea_cons (ev_un ev_int) ea_nil)))))) (by decide : 6 ≤ 1000)) (by decide) (by decide)) ?_
      rintro d ⟨z, rfl, hz⟩
      simp only [List.mem_cons, List.not_mem_nil, or_false] at hz
      exact ⟨z, rfl, by omega⟩
abbrev sp__law_drawn_fraction (K : PySem.W.Frag) : Sp := spB K 0 (Is []) drawnR
theorem ok__law_drawn_fraction (T : Txt K mg) : FnOk P w K mg base CX0 3 T.f__law_drawn_fraction T.g__law_drawn_fraction ["bag"] (sp__law_drawn_fraction K) := by
  refine T.d__law_drawn_fraction.fn.ok sc__law_drawn_fraction (fun vs H Q E h => ?_) (fun cdv A outer s H vs Q E hr h => ?_)
  · exact spB_len h
  · have nd := nd__law_drawn_fraction
    refine ⟨_, (pss_one (ps_ret (Dl.pc T.d__law_fr (ok__law_fr T) (hr.mono (by decide)) rfl (pa_cons (Dl.pc T.d__law_number (ok__law_number T) (hr.mono (by decide)) rfl (pa_cons (pv 0) pa_nil)) (pa_cons (pe_op op_add (pe_callB (id := "abs") (r := Dl.rAbs) call_abs (by rfl) T.b_abs (by decide +kernel) (pa_cons (Dl.pc T.d__law_number (ok__law_number T) (hr.mono (by decide)) rfl (pa_cons (pv 0) pa_nil)) pa_nil)) pe_int) pa_nil))))), ?_⟩
    obtain ⟨x, ws, rfl, hl, ds, G, sG, bg, da, dm, k⟩ := h
    have dm : ds = [] := dm
    subst dm
    have A := at_bag (N := N__law_drawn_fraction) sG bg da (by rw [hl]; decide)
    have num : EvP K [.a x] (some x) [] (tCall (spB K 0 (Is []) numR) [] E0 (tCons (tVar 0) tNil)) (fun d => ∃ z : Int, d = .int z ∧ z.natAbs ≤ 500000000) := ev_imp (ev_callB rfl rfl ea_nil fun ds e => ⟨by rw [e]; rfl, e⟩) fun d ⟨ds, _, z, e, h⟩ => ⟨z, e, h⟩
    have ab : EvP K [.a x] (some x) [] (tCB rAbs (tCons (tCall (spB K 0 (Is []) numR) [] E0 (tCons (tVar 0) tNil)) tNil)) (fun d => ∃ z : Int, d = .int z ∧ 0 ≤ z ∧ z ≤ 500000000) := by
      refine ev_cbP (ea_consP num ea_nil) fun ds ⟨d, r, e, ⟨z, e1, hz⟩, e2⟩ => ?_
      rw [e, e1, e2]
      exact fun xs G H p s j Q k => rc_abs xs G H p s j Q fun v d G2 H2 g2 j2 p2 q2 => k v d G2 H2 g2 j2 p2 ⟨_, q2, by split <;> omega, by split <;> omega⟩
    refine s_ret A (P := drawnR []) (ev_imp (ev_callR (ea_consP num (ea_consP (ev_I0x (C2 := fun i => i = 1) ab (ev_ex1 ev_int)) ea_nil)) ?_) ?_) (fun v d G' H' g j p e => k v d G' H' g (j.bag _ rfl) p e)
    · rintro l ⟨d, r, e, ⟨z, e1, hz⟩, d2, r2, e2, ⟨i, j, e3, c1, c2⟩, e4⟩
      subst e e1 e2 e3 e4
      exact ⟨rfl, _, _, rfl, by omega, Nat.lt_of_lt_of_le (show (i + j).natAbs < 2 ^ 40 by omega) (Nat.pow_le_pow_right (by decide) (by decide))⟩
    · rintro x' ⟨l, ⟨d, r, e, ⟨z, e1, hz⟩, d2, r2, e2, ⟨i, j, e3, c1, c2⟩, e4⟩, e5⟩
      subst e e1 e2 e3 e4
      exact ⟨z, i + j, e5, by omega, by omega, hz⟩
abbrev sp__law_added (K : PySem.W.Frag) : Sp := spR K 2 dVec (rVec fPlus)
theorem ok__law_added (T : Txt K mg) : FnOk P w K mg base CX0 4 T.f__law_added T.g__law_added ["one", "other"] (sp__law_added K) := by
  refine T.d__law_added.fn.ok sc__law_added (fun vs H Q E h => ?_) (fun cdv A outer s H vs Q E hr h => ?_)
  · exact spR_len h
  · have nd := nd__law_added
    refine ⟨_, (pss_one (ps_ret (pe_callTy (T := "tuple") (r := Dl.rTupOf K) call_tuple_of (by rfl) T.b_tuple (by decide +kernel) (pa_cons (pe_lc (own := [("p", 2), ("q", 3)]) (g := gTup K 2 (gCons (gName 2) (gCons (gName 3) gNil))) rfl nd (RZ.pi_zipA rfl T.b_zip (pa_cons (pv 0) (pa_cons (pv 1) pa_nil))) (blkOk_by (own := [("p", 2), ("q", 3)]) (N := N__law_added) (sc := defScope s__law_added) (by decide +kernel)) (fun _ _ _ _ _ => (pg_tup rfl (pgs_cons (pg_name (i := 2) nd rfl (Or.inl rfl)) (pgs_cons (pg_name (i := 3) nd rfl (Or.inl rfl)) pgs_nil)))) (fun _ _ _ _ _ => pts_nil) (fun _ _ _ _ _ => (Dl.pc T.d__law_plus (ok__law_plus T) (hr.mono (by decide)) rfl (pa_cons (pv 2) (pa_cons (pv 3) pa_nil))))) pa_nil)))), ?_⟩
    obtain ⟨hl, ds, G, sG, da, dm, k⟩ := h
    obtain ⟨xs, ys, rfl, hx, hy, lx, ly⟩ := dm
    have A := at_pure (N := N__law_added) sG da (by rw [hl]; decide)
    refine s_ret A (ev_tupMap (F := onPair fPlus) (ei_zipT (ea_cons (ev_var rfl) (ea_cons (ev_var rfl) ea_nil))) (pairs_len1000 lx) (tg_setPair (by decide) (by decide)) fun x mem => ?_) (fun v d G' H' g j p e => k v d G' H' g.nob p ⟨xs, ys, rfl, e⟩)
    obtain ⟨p, q, rfl, hp, hq⟩ := pairs_mem mem
    obtain ⟨a, c, rfl, s1⟩ := hx p hp
    obtain ⟨a', c', rfl, s2⟩ := hy q hq
    show EvP K _ _ _ _ (Is (fPlus [FrD a c, FrD a' c']))
    exact ev_callF (ea_cons (ev_var rfl) (ea_cons (ev_var rfl) ea_nil)) rfl ⟨_, _, _, _, rfl, s1.b, s2⟩
abbrev sp__law_less (K : PySem.W.Frag) : Sp := spR K 2 dVec (rVec fMinus)
theorem ok__law_less (T : Txt K mg) : FnOk P w K mg base CX0 4 T.f__law_less T.g__law_less ["one", "other"] (sp__law_less K) := by
  refine T.d__law_less.fn.ok sc__law_less (fun vs H Q E h => ?_) (fun cdv A outer s H vs Q E hr h => ?_)
  · exact spR_len h
  · have nd := nd__law_less
    refine ⟨_, (pss_one (ps_ret (pe_callTy (T := "tuple") (r := Dl.rTupOf K) call_tuple_of (by rfl) T.b_tuple (by decide +kernel) (pa_cons (pe_lc (own := [("p", 2), ("q", 3)]) (g := gTup K 2 (gCons (gName 2) (gCons (gName 3) gNil))) rfl nd (RZ.pi_zipA rfl T.b_zip (pa_cons (pv 0) (pa_cons (pv 1) pa_nil))) (blkOk_by (own := [("p", 2), ("q", 3)]) (N := N__law_less) (sc := defScope s__law_less) (by decide +kernel)) (fun _ _ _ _ _ => (pg_tup rfl (pgs_cons (pg_name (i := 2) nd rfl (Or.inl rfl)) (pgs_cons (pg_name (i := 3) nd rfl (Or.inl rfl)) pgs_nil)))) (fun _ _ _ _ _ => pts_nil) (fun _ _ _ _ _ => (Dl.pc T.d__law_minus (ok__law_minus T) (hr.mono (by decide)) rfl (pa_cons (pv 2) (pa_cons (pv 3) pa_nil))))) pa_nil)))), ?_⟩
    obtain ⟨hl, ds, G, sG, da, dm, k⟩ := h
    obtain ⟨xs, ys, rfl, hx, hy, lx, ly⟩ := dm
    have A := at_pure (N := N__law_less) sG da (by rw [hl]; decide)
    refine s_ret A (ev_tupMap (F := onPair fMinus) (ei_zipT (ea_cons (ev_var rfl) (ea_cons (ev_var rfl) ea_nil))) (pairs_len1000 lx) (tg_setPair (by decide) (by decide)) fun x mem => ?_) (fun v d G' H' g j p e => k v d G' H' g.nob p ⟨xs, ys, rfl, e⟩)
    obtain ⟨p, q, rfl, hp, hq⟩ := pairs_mem mem
    obtain ⟨a, c, rfl, s1⟩ := hx p hp
    obtain ⟨a', c', rfl, s2⟩ := hy q hq
    show EvP K _ _ _ _ (Is (fMinus [FrD a c, FrD a' c']))
    exact ev_callF (ea_cons (ev_var rfl) (ea_cons (ev_var rfl) ea_nil)) rfl ⟨_, _, _, _, rfl, s1.b, s2⟩
abbrev sp__law_multiple (K : PySem.W.Frag) : Sp := spR K 2 dMul rMul
theorem ok__law_multiple (T : Txt K mg) : FnOk P w K mg base CX0 4 T.f__law_multiple T.g__law_multiple ["share", "vector"] (sp__law_multiple K) := by
  refine T.d__law_multiple.fn.ok sc__law_multiple (fun vs H Q E h => ?_) (fun cdv A outer s H vs Q E hr h => ?_)
  · exact spR_len h
  · have nd := nd__law_multiple
    refine ⟨_, (pss_one (ps_ret (pe_callTy (T := "tuple") (r := Dl.rTupOf K) call_tuple_of (by rfl) T.b_tuple (by decide +kernel) (pa_cons (pe_lc (own := [("p", 2)]) (g := gName 2) rfl nd (pi_tup (pv 1)) (blkOk_by (own := [("p", 2)]) (N := N__law_multiple) (sc := defScope s__law_multiple) (by decide +kernel)) (fun _ _ _ _ _ => (pg_name (i := 2) nd rfl (Or.inl rfl))) (fun _ _ _ _ _ => pts_nil) (fun _ _ _ _ _ => (Dl.pc T.d__law_times (ok__law_times T) (hr.mono (by decide)) rfl (pa_cons (pv 0) (pa_cons (pv 2) pa_nil))))) pa_nil)))), ?_⟩
    obtain ⟨hl, ds, G, sG, da, dm, k⟩ := h
    obtain ⟨a, c, ys, rfl, s1, hy, ly⟩ := dm
    have A := at_pure (N := N__law_multiple) sG da (by rw [hl]; decide)
    refine s_ret A (ev_tupMap (F := fun y => fTimes [FrD a c, y]) (ei_tup (ev_var rfl)) ly (fun x hx => tg_name (by decide)) fun x mem => ?_) (fun v d G' H' g j p e => k v d G' H' g.nob p ⟨_, ys, rfl, e⟩)
    obtain ⟨a', c', rfl, s2⟩ := hy x mem
    exact ev_callF (ea_cons (ev_var rfl) (ea_cons (ev_var rfl) ea_nil)) rfl ⟨_, _, _, _, rfl, s1, s2⟩
end
end K03
set_option Elab.async false
set_option linter.all false
set_option maxRecDepth 100000
set_option maxHeartbeats 4000000
namespace K03
open PySem L2 Dl
section
variable {P : Program} {w : World} {K : PySem.W.Frag} {mg : Str → Option Value} {base : Heap}
abbrev sp_law (K : PySem.W.Frag) : Sp := fun vs H Q _ => ∃ (a : Addr) (ns : List Int), vs = [.ref a] ∧ SqL K H a (ns.map V.int) ∧ ns.length ≤ 63 ∧ ∀ H', Q (.bl true) H'
theorem ok_law {A : Around} (T : Txt K mg) (hg : A.guards = some []) (hr0 : Room 5 A) : FnAt A P w K mg base T.f_law T.g_law ["script"] (sp_law K) := by
  refine fn_at (k := 4) T.d_law.fn sc_law (fun vs H Q E h => ?_) hr0 (fun cdv outer s H vs Q E hr h => ?_)
  · obtain ⟨a, ns, rfl, _⟩ := h
    rfl
  · have nd := nd_law
    have F__law_alike := ok__law_alike (P := P) (w := w) (base := base) T (show (A.deeper _).guards = some [] from hg) (hr.mono (show 1 ≤ 4 by decide))
    refine ⟨_, (pss_cons (ps_set (i := 1) nd rfl (Or.inl rfl) (Dl.pc T.d__law_bag (ok__law_bag T) (hr.mono (by decide)) rfl (pa_cons (pv 0) pa_nil)))
      (pss_cons (ps_for PassesOwn.never rfl (pi_range1 rfl T.b_range (pa_cons pe_int pa_nil)) (pg_name (i := 2) nd rfl (Or.inl rfl)) (pss_cons (ps_par (i := 3) (j := 4) rfl nd rfl rfl (by decide) rfl rfl (pa_cons (Dl.pc T.d__law_drawn_fraction (ok__law_drawn_fraction T) (hr.mono (by decide)) rfl (pa_cons (pv 1) pa_nil)) (pa_cons (Dl.pc T.d__law_drawn_fraction (ok__law_drawn_fraction T) (hr.mono (by decide)) rfl (pa_cons (pv 1) pa_nil)) pa_nil)) (by with_unfolding_all rfl))
      (pss_cons (ps_par (i := 5) (j := 6) rfl nd rfl rfl (by decide) rfl rfl (pa_cons (Dl.pc T.d__law_number (ok__law_number T) (hr.mono (by decide)) rfl (pa_cons (pv 1) pa_nil)) (pa_cons (Dl.pc T.d__law_number (ok__law_number T) (hr.mono (by decide)) rfl (pa_cons (pv 1) pa_nil)) pa_nil)) (by with_unfolding_all rfl))
      (pss_cons (ps_set (i := 7) nd rfl (Or.inl rfl) (pe_lst (pa_cons (Dl.pc T.d_plus (ok_plus T) (hr.mono (by decide)) rfl (pa_cons (pv 3) (pa_cons (pv 4) pa_nil))) (pa_cons (Dl.pc T.d_minus (ok_minus T) (hr.mono (by decide)) rfl (pa_cons (pv 3) (pa_cons (pv 4) pa_nil))) (pa_cons (Dl.pc T.d_times (ok_times T) (hr.mono (by decide)) rfl (pa_cons (pv 3) (pa_cons (pv 4) pa_nil))) (pa_cons (Dl.pc T.d_whole (ok_whole T) (hr.mono (by decide)) rfl (pa_cons (pv 5) pa_nil)) (pa_cons (Dl.pc T.d_plus (ok_plus T) (hr.mono (by decide)) rfl (pa_cons (Dl.pc T.d_minus (ok_minus T) (hr.mono (by decide)) rfl (pa_cons (pv 3) (pa_cons (pv 4) pa_nil))) (pa_cons (pv 4) pa_nil))) pa_nil)))))))
      (pss_cons (ps_set (i := 8) nd rfl (Or.inl rfl) (pe_lst (pa_cons (Dl.pc T.d__law_plus (ok__law_plus T) (hr.mono (by decide)) rfl (pa_cons (pv 3) (pa_cons (pv 4) pa_nil))) (pa_cons (Dl.pc T.d__law_minus (ok__law_minus T) (hr.mono (by decide)) rfl (pa_cons (pv 3) (pa_cons (pv 4) pa_nil))) (pa_cons (Dl.pc T.d__law_times (ok__law_times T) (hr.mono (by decide)) rfl (pa_cons (pv 3) (pa_cons (pv 4) pa_nil))) (pa_cons (pe_tup (pa_cons (pv 5) (pa_cons pe_int pa_nil))) (pa_cons (pv 3) pa_nil)))))))
      (pss_cons (ps_expr (pe_bm PySem.F.plainAttrs_list PySem.F.slot_list_extend PySem.F.type_list_extend mt_extend (pv 7) (pa_cons (pe_lst (pa_cons (Dl.pc T.d_is_less (ok_is_less T) (hr.mono (by decide)) rfl (pa_cons (pv 3) (pa_cons (pv 4) pa_nil))) (pa_cons (Dl.pc T.d_is_at_most (ok_is_at_most T) (hr.mono (by decide)) rfl (pa_cons (pv 3) (pa_cons (pv 4) pa_nil))) (pa_cons (Dl.pc T.d_is_at_most (ok_is_at_most T) (hr.mono (by decide)) rfl (pa_cons (pv 3) (pa_cons (pv 3) pa_nil))) (pa_cons (Dl.pc T.d_is_less (ok_is_less T) (hr.mono (by decide)) rfl (pa_cons (pv 3) (pa_cons (pv 3) pa_nil))) pa_nil))))) pa_nil)))
      (pss_cons (ps_expr (pe_bm PySem.F.plainAttrs_list PySem.F.slot_list_extend PySem.F.type_list_extend mt_extend (pv 8) (pa_cons (pe_lst (pa_cons (Dl.pc T.d__law_below (ok__law_below T) (hr.mono (by decide)) rfl (pa_cons (pv 3) (pa_cons (pv 4) pa_nil))) (pa_cons (pe_not (Dl.pc T.d__law_below (ok__law_below T) (hr.mono (by decide)) rfl (pa_cons (pv 4) (pa_cons (pv 3) pa_nil)))) (pa_cons pe_bl (pa_cons pe_bl pa_nil))))) pa_nil)))
      (pss_cons (ps_expr (pe_bm PySem.F.plainAttrs_list PySem.F.slot_list_extend PySem.F.type_list_extend mt_extend (pv 7) (pa_cons (pe_lst (pa_cons (Dl.pc T.d_sign_of (ok_sign_of T) (hr.mono (by decide)) rfl (pa_cons (pv 3) pa_nil)) (pa_cons (Dl.pc T.d_floor_of (ok_floor_of T) (hr.mono (by decide)) rfl (pa_cons (pv 3) pa_nil)) (pa_cons (Dl.pc T.d_floor_of (ok_floor_of T) (hr.mono (by decide)) rfl (pa_cons (Dl.pc T.d_whole (ok_whole T) (hr.mono (by decide)) rfl (pa_cons (pv 5) pa_nil)) pa_nil)) (pa_cons (Dl.pc T.d_floor_of (ok_floor_of T) (hr.mono (by decide)) rfl (pa_cons (Dl.pc T.d_fraction (ok_fraction T) (hr.mono (by decide)) rfl (pa_cons (pv 5) (pa_cons pe_int pa_nil))) pa_nil)) pa_nil))))) pa_nil)))
      (pss_cons (ps_expr (pe_bm PySem.F.plainAttrs_list PySem.F.slot_list_extend PySem.F.type_list_extend mt_extend (pv 8) (pa_cons (pe_lst (pa_cons (pe_op op_sub (pe_callTy (T := "int") (r := Dl.rInt1) call_int1 (by rfl) T.b_int (by decide +kernel) (pa_cons (pe_cmpR op_gt (pe_ix (r := rIxT K) ix_tup (pv 3) pe_int (fun _ _ => rfl)) pe_int (nomark _)) pa_nil)) (pe_callTy (T := "int") (r := Dl.rInt1) call_int1 (by rfl) T.b_int (by decide +kernel) (pa_cons (pe_cmpR op_lt (pe_ix (r := rIxT K) ix_tup (pv 3) pe_int (fun _ _ => rfl)) pe_int (nomark _)) pa_nil))) (pa_cons (Dl.pc T.d__law_floor (ok__law_floor T) (hr.mono (by decide)) rfl (pa_cons (pv 3) pa_nil)) (pa_cons (pv 5) (pa_cons (Dl.pc T.d__law_floor (ok__law_floor T) (hr.mono (by decide)) rfl (pa_cons (Dl.pc T.d__law_fr (ok__law_fr T) (hr.mono (by decide)) rfl (pa_cons (pv 5) (pa_cons pe_int pa_nil))) pa_nil)) pa_nil))))) pa_nil)))
      (pss_cons (ps_if (pt_cmpR op_ne (pv 6) pe_int (nomark _)) (pss_cons (ps_expr (pe_bm PySem.F.plainAttrs_list PySem.F.slot_list_append PySem.F.type_list_append mt_append (pv 7) (pa_cons (Dl.pc T.d_fraction (ok_fraction T) (hr.mono (by decide)) rfl (pa_cons (pv 5) (pa_cons (pv 6) pa_nil))) pa_nil)))
      (pss_one (ps_expr (pe_bm PySem.F.plainAttrs_list PySem.F.slot_list_append PySem.F.type_list_append mt_append (pv 8) (pa_cons (Dl.pc T.d__law_fr (ok__law_fr T) (hr.mono (by decide)) rfl (pa_cons (pv 5) (pa_cons (pv 6) pa_nil))) pa_nil))))) pss_nil)
      (pss_cons (ps_set (i := 9) nd rfl (Or.inl rfl) (pe_op op_sub (pe_op op_sub (pe_op op_pow pe_int pe_int) pe_int) (Dl.pc T.d__law_some (ok__law_some T) (hr.mono (by decide)) rfl (pa_cons (pv 1) (pa_cons (pe_lst (pa_cons pe_int (pa_cons (Dl.pc T.d__law_take (ok__law_take T) (hr.mono (by decide)) rfl (pa_cons (pv 1) (pa_cons pe_int pa_nil))) pa_nil))) pa_nil)))))
      (pss_cons (ps_par (i := 10) (j := 11) rfl nd rfl rfl (by decide) rfl rfl (pa_cons (pe_tup (pa_cons (pv 9) (pa_cons (pe_op op_add (pv 9) pe_int) pa_nil))) (pa_cons (pe_tup (pa_cons (pe_op op_add (pv 9) pe_int) (pa_cons (pe_op op_add (pv 9) pe_int) pa_nil))) pa_nil)) (by with_unfolding_all rfl))
      (pss_cons (ps_expr (pe_bm PySem.F.plainAttrs_list PySem.F.slot_list_extend PySem.F.type_list_extend mt_extend (pv 7) (pa_cons (pe_lst (pa_cons (Dl.pc T.d_is_less (ok_is_less T) (hr.mono (by decide)) rfl (pa_cons (pv 10) (pa_cons (pv 11) pa_nil))) (pa_cons (Dl.pc T.d_is_less (ok_is_less T) (hr.mono (by decide)) rfl (pa_cons (pv 11) (pa_cons (pv 10) pa_nil))) (pa_cons (Dl.pc T.d_is_at_most (ok_is_at_most T) (hr.mono (by decide)) rfl (pa_cons (pv 11) (pa_cons (pv 10) pa_nil))) (pa_cons (Dl.pc T.d_is_at_most (ok_is_at_most T) (hr.mono (by decide)) rfl (pa_cons (pv 10) (pa_cons (pv 11) pa_nil))) pa_nil))))) pa_nil)))
      (pss_cons (ps_expr (pe_bm PySem.F.plainAttrs_list PySem.F.slot_list_extend PySem.F.type_list_extend mt_extend (pv 8) (pa_cons (pe_lst (pa_cons pe_bl (pa_cons pe_bl (pa_cons pe_bl (pa_cons pe_bl pa_nil))))) pa_nil)))
      (pss_cons (ps_expr (pe_bm PySem.F.plainAttrs_list PySem.F.slot_list_extend PySem.F.type_list_extend mt_extend (pv 7) (pa_cons (pe_lst (pa_cons (Dl.pc T.d_sign_of (ok_sign_of T) (hr.mono (by decide)) rfl (pa_cons (Dl.pc T.d_minus (ok_minus T) (hr.mono (by decide)) rfl (pa_cons (pv 10) (pa_cons (pv 11) pa_nil))) pa_nil)) (pa_cons (Dl.pc T.d_sign_of (ok_sign_of T) (hr.mono (by decide)) rfl (pa_cons (Dl.pc T.d_minus (ok_minus T) (hr.mono (by decide)) rfl (pa_cons (pv 11) (pa_cons (pv 10) pa_nil))) pa_nil)) pa_nil))) pa_nil)))
      (pss_cons (ps_expr (pe_bm PySem.F.plainAttrs_list PySem.F.slot_list_extend PySem.F.type_list_extend mt_extend (pv 7) (pa_cons (pe_lst (pa_cons (Dl.pc T.d_floor_of (ok_floor_of T) (hr.mono (by decide)) rfl (pa_cons (Dl.pc T.d_over (ok_over T) (hr.mono (by decide)) rfl (pa_cons (pv 10) (pa_cons (pv 11) pa_nil))) pa_nil)) (pa_cons (Dl.pc T.d_floor_of (ok_floor_of T) (hr.mono (by decide)) rfl (pa_cons (Dl.pc T.d_over (ok_over T) (hr.mono (by decide)) rfl (pa_cons (pv 11) (pa_cons (pv 10) pa_nil))) pa_nil)) pa_nil))) pa_nil)))
      (pss_cons (ps_expr (pe_bm PySem.F.plainAttrs_list PySem.F.slot_list_extend PySem.F.type_list_extend mt_extend (pv 8) (pa_cons (pe_lst (pa_cons (pe_un un_neg pe_int) (pa_cons pe_int (pa_cons pe_int (pa_cons pe_int pa_nil))))) pa_nil)))
      (pss_cons (ps_if (pt_cmpR op_ne (pe_ix (r := rIxT K) ix_tup (pv 4) pe_int (fun _ _ => rfl)) pe_int (nomark _)) (pss_cons (ps_expr (pe_bm PySem.F.plainAttrs_list PySem.F.slot_list_extend PySem.F.type_list_extend mt_extend (pv 7) (pa_cons (pe_lst (pa_cons (Dl.pc T.d_over (ok_over T) (hr.mono (by decide)) rfl (pa_cons (pv 3) (pa_cons (pv 4) pa_nil))) (pa_cons (Dl.pc T.d_times (ok_times T) (hr.mono (by decide)) rfl (pa_cons (Dl.pc T.d_over (ok_over T) (hr.mono (by decide)) rfl (pa_cons (pv 3) (pa_cons (pv 4) pa_nil))) (pa_cons (pv 4) pa_nil))) pa_nil))) pa_nil)))
      (pss_one (ps_expr (pe_bm PySem.F.plainAttrs_list PySem.F.slot_list_extend PySem.F.type_list_extend mt_extend (pv 8) (pa_cons (pe_lst (pa_cons (Dl.pc T.d__law_over (ok__law_over T) (hr.mono (by decide)) rfl (pa_cons (pv 3) (pa_cons (pv 4) pa_nil))) (pa_cons (pv 3) pa_nil))) pa_nil))))) pss_nil)
      (pss_cons (ps_set (i := 12) nd rfl (Or.inl rfl) (Dl.pc T.d__law_frame (ok__law_frame T) (hr.mono (by decide)) rfl (pa_cons (pv 1) (pa_cons pe_int pa_nil))))
      (pss_cons (ps_set (i := 13) nd rfl (Or.inl rfl) (pe_callB (id := "len") (r := Dl.rLen K) call_len_seq (by rfl) T.b_len (by decide +kernel) (pa_cons (pe_ix (r := rIxT K) ix_tup (pv 12) pe_int (fun _ _ => rfl)) pa_nil)))
      (pss_cons (ps_par3 (i := 10) (j := 11) (l := 14) rfl nd rfl rfl rfl (by decide) (by decide) (by decide) rfl rfl rfl (pa_cons (Dl.pc T.d__law_stand (ok__law_stand T) (hr.mono (by decide)) rfl (pa_cons (pv 1) (pa_cons (pv 13) pa_nil))) (pa_cons (Dl.pc T.d__law_stand (ok__law_stand T) (hr.mono (by decide)) rfl (pa_cons (pv 1) (pa_cons (pv 13) pa_nil))) (pa_cons (Dl.pc T.d__law_reading (ok__law_reading T) (hr.mono (by decide)) rfl (pa_cons (pv 1) (pa_cons (pv 13) pa_nil))) pa_nil))) (by with_unfolding_all rfl))
      (pss_cons (ps_expr (pe_bm PySem.F.plainAttrs_list PySem.F.slot_list_extend PySem.F.type_list_extend mt_extend (pv 7) (pa_cons (pe_lst (pa_cons (Dl.pc T.d_nought (ok_nought T) (hr.mono (by decide)) rfl (pa_cons (pv 12) pa_nil)) (pa_cons (Dl.pc T.d_added (ok_added T) (hr.mono (by decide)) rfl (pa_cons (pv 10) (pa_cons (pv 11) pa_nil))) (pa_cons (Dl.pc T.d_less (ok_less T) (hr.mono (by decide)) rfl (pa_cons (pv 10) (pa_cons (pv 11) pa_nil))) (pa_cons (Dl.pc T.d_multiple (ok_multiple T) (hr.mono (by decide)) rfl (pa_cons (pv 3) (pa_cons (pv 10) pa_nil))) (pa_cons (Dl.pc T.d_vector_of (ok_vector_of T) (hr.mono (by decide)) rfl (pa_cons (pv 14) pa_nil)) pa_nil)))))) pa_nil)))
      (pss_cons (ps_expr (pe_bm PySem.F.plainAttrs_list PySem.F.slot_list_extend PySem.F.type_list_extend mt_extend (pv 8) (pa_cons (pe_lst (pa_cons (pe_op (r := Dl.rRepA K) Dl.op_repA (pe_tup (pa_cons (pe_tup (pa_cons pe_int (pa_cons pe_int pa_nil))) pa_nil)) (pv 13)) (pa_cons (Dl.pc T.d__law_added (ok__law_added T) (hr.mono (by decide)) rfl (pa_cons (pv 10) (pa_cons (pv 11) pa_nil))) (pa_cons (Dl.pc T.d__law_less (ok__law_less T) (hr.mono (by decide)) rfl (pa_cons (pv 10) (pa_cons (pv 11) pa_nil))) pa_nil)))) pa_nil)))
      (pss_cons (ps_expr (pe_bm PySem.F.plainAttrs_list PySem.F.slot_list_extend PySem.F.type_list_extend mt_extend (pv 8) (pa_cons (pe_lst (pa_cons (Dl.pc T.d__law_multiple (ok__law_multiple T) (hr.mono (by decide)) rfl (pa_cons (pv 3) (pa_cons (pv 10) pa_nil))) (pa_cons (Dl.pc T.d__law_vector (ok__law_vector T) (hr.mono (by decide)) rfl (pa_cons (pv 14) pa_nil)) pa_nil))) pa_nil)))
      (pss_one (ps_if (pt_not (pt_val (pe_callAt F__law_alike rfl T.d__law_alike.mg T.d__law_alike.fn.kp T.d__law_alike.bd (pa_cons (pv 7) (pa_cons (pv 8) pa_nil))))) (pss_one (ps_ret pe_bl)) pss_nil))))))))))))))))))))))))))
      (pss_one (ps_ret pe_bl)))), ?_⟩
    obtain ⟨a0, ns, rfl, hS, hl, k⟩ := h
    refine ⟨.ref a0, rfl, a0, ns, rfl, hS, hl, fun x G0 H0 g0 hx bg => ?_⟩
    have A : At K [.un, .a x, .un, .un, .un, .un, .un, .un, .un, .un, .un, .un, .un, .un, .un] (some x) [] G0 H0 G0 ((L2.start N_law [.ref a0]).set 1 (some (.ref x))) G0 H0 :=
      ⟨.cons trivial (.cons rfl (.cons trivial (.cons trivial (.cons trivial (.cons trivial (.cons trivial (.cons trivial (.cons trivial (.cons trivial (.cons trivial (.cons trivial (.cons trivial (.cons trivial (.cons trivial .nil)))))))))))))), Grow.refl g0.gh, Same.refl _, ⟨fun y e => by cases e; exact bg, fun p hp => (nomatch hp)⟩, fun p hp => (nomatch hp), List.nodup_nil⟩
    refine q_for A (Pl := Is (intL 12)) (f := fun y env => env.set 2 (.d y)) (vs := [2]) (ei_rng (ea_cons ev_int ea_nil) (by decide)) (fun l _ y _ => tg_name (by decide))
      (fun l i env' ms' => env' = [.un, .a x, .un, .un, .un, .un, .un, .un, .un, .un, .un, .un, .un, .un, .un] ∧ ms' = []) (fun l _ => ⟨rfl, rfl⟩) ?_ (fun l env' ms' σ' G' H' _ _ A' => s_ret A' ev_bl fun v d G2 H2 g j p e => by cases e; cases p; exact k H2)
    rintro l i y env' ms' Gt σ1 G1 H1 _ _ ⟨rfl, rfl⟩ A1 nx hnx
    -- one, other; num, den
    have dr : ∀ {env : List Sl}, env[1]? = some (.a x) → EvP K env (some x) [] (tCall (spB K 0 (Is []) drawnR) [] E0 (tCons (tVar 1) tNil)) (fun d => ∃ a b, d = FrD a b ∧ Dr a b) := fun h => ev_imp (ev_callB h rfl ea_nil fun ds e => ⟨by rw [e]; rfl, e⟩) fun d ⟨ds, e, r⟩ => by rw [show ds = [] from e] at r; exact drawn_dr r
    have nu : ∀ {env : List Sl}, env[1]? = some (.a x) → EvP K env (some x) [] (tCall (spB K 0 (Is []) numR) [] E0 (tCons (tVar 1) tNil)) (fun d => ∃ z : Int, d = .int z ∧ z.natAbs ≤ 500000000) := fun h => ev_imp (ev_callB h rfl ea_nil fun ds e => ⟨by rw [e]; rfl, e⟩) fun d ⟨ds, e, r⟩ => r
    refine q_par A1 (ea_consP (dr rfl) (ea_consP (dr rfl) ea_nil)) (fun l ⟨d, r, e, _, d2, r2, e2, _, e3⟩ => ⟨d, d2, by rw [e, e2, e3]⟩) ?_
    rintro _ _ σ2 G2 H2 ⟨_, _, e, ⟨a, b, rfl, h1⟩, _, _, e2, ⟨c, d, rfl, h2⟩, e3⟩ A2
    subst e3 e2
    cases e
    refine q_par A2 (ea_consP (nu rfl) (ea_consP (nu rfl) ea_nil)) (fun l ⟨d, r, e, _, d2, r2, e2, _, e3⟩ => ⟨d, d2, by rw [e, e2, e3]⟩) ?_
    rintro _ _ σ3 G3 H3 ⟨_, _, e, ⟨num, rfl, hn⟩, _, _, e2, ⟨den, rfl, hd⟩, e3⟩ A3
    subst e3 e2
    cases e
    obtain ⟨a0', a1, b1, co1⟩ := id h1
    obtain ⟨d0', d1, c1, co2⟩ := id h2
    have bd : b * d ≠ 0 := Int.mul_ne_zero (by omega) (by omega)
    have fa : a.natAbs < 2 ^ 30 := by omega
    have fb : b.natAbs < 2 ^ 30 := by omega
    have fc : c.natAbs < 2 ^ 30 := by omega
    have fd : d.natAbs < 2 ^ 30 := by omega
    have pad := nat_mul_lt fa fd
    have pcb := nat_mul_lt fc fb
    have pbd := nat_mul_lt fb fd
    have pac := nat_mul_lt fa fc
    have pbc := nat_mul_lt fb fc
    have fmin : Fb (frN (a * d - c * b) (b * d)) (frD (a * d - c * b) (b * d)) := by
      have e1 := frN_le (a * d - c * b) (b * d) bd
      have e2 := frD_le (a * d - c * b) (b * d) bd
      refine ⟨frD_pos bd, Nat.lt_of_lt_of_le (show _ < 2 ^ 61 by omega) (Nat.pow_le_pow_right (by decide) (by decide)), Nat.lt_of_lt_of_le (show _ < 2 ^ 61 by omega) (Nat.pow_le_pow_right (by decide) (by decide))⟩
    -- told, due
    refine q_asgM A3 (en_lst (M := [fPlus [FrD a b, FrD c d], fMinus [FrD a b, FrD c d], fTimes [FrD a b, FrD c d], fWhole [.int num], FrD a b]) (ea_cons (ev_callF (ea_cons (ev_var rfl) (ea_cons (ev_var rfl) ea_nil)) rfl ⟨_, _, _, _, rfl, h1.s.b, h2.s⟩) (ea_cons (ev_callF (ea_cons (ev_var rfl) (ea_cons (ev_var rfl) ea_nil)) rfl ⟨_, _, _, _, rfl, h1.s.b, h2.s⟩) (ea_cons (ev_callF (ea_cons (ev_var rfl) (ea_cons (ev_var rfl) ea_nil)) rfl ⟨_, _, _, _, rfl, h1.s.b, h2.s⟩) (ea_cons (ev_callF (ea_cons (ev_var rfl) ea_nil) rfl ⟨_, rfl⟩) (ea_cons (ev_is (ev_callF (ea_cons (ev_callF (ea_cons (ev_var rfl) (ea_cons (ev_var rfl) ea_nil)) rfl ⟨_, _, _, _, rfl, h1.s.b, h2.s⟩) (ea_cons (ev_var rfl) ea_nil)) rfl ⟨_, _, _, _, rfl, fmin, h2.s⟩) (back1 h1.b0 h2.b0 co1)) ea_nil))))) (by decide : 5 ≤ 1000)) fun tl ds σ4 G4 H4 e nb4 A4 => ?_
    subst e
    refine q_asgM A4 (en_lst (M := [fPlus [FrD a b, FrD c d], fMinus [FrD a b, FrD c d], fTimes [FrD a b, FrD c d], fWhole [.int num], FrD a b]) (ea_cons (ev_callF (ea_cons (ev_var rfl) (ea_cons (ev_var rfl) ea_nil)) rfl ⟨_, _, _, _, rfl, h1.s.b, h2.s⟩) (ea_cons (ev_callF (ea_cons (ev_var rfl) (ea_cons (ev_var rfl) ea_nil)) rfl ⟨_, _, _, _, rfl, h1.s.b, h2.s⟩) (ea_cons (ev_callF (ea_cons (ev_var rfl) (ea_cons (ev_var rfl) ea_nil)) rfl ⟨_, _, _, _, rfl, h1.s.b, h2.s⟩) (ea_cons (ev_tup (ea_cons (ev_var rfl) (ea_cons ev_int ea_nil)) (by decide : 2 ≤ 1000)) (ea_cons (ev_var rfl) ea_nil))))) (by decide : 5 ≤ 1000)) fun du ds σ5 G5 H5 e nb5 A5 => ?_
    subst e
    obtain ⟨L, hL, ll, A5⟩ : ∃ L : List PyData, (∀ z ∈ L, El z) ∧ L.length ≤ 5 ∧ At K [.un, .a x, .d y, .d (FrD a b), .d (FrD c d), .d (.int num), .d (.int den), .a tl, .a du, .un, .un, .un, .un, .un, .un] (some x) [(du, L.map Sl.d), (tl, L.map Sl.d)] G0 H0 Gt σ5 G5 H5 := by
      refine ⟨_, ?_, ?_, A5⟩
      · intro z hz
        simp only [List.mem_cons, List.not_mem_nil, or_false] at hz
        rcases hz with rfl | rfl | rfl | rfl | rfl
        · exact El.fr bd (lt200 (a := 61) (by omega) (by decide)) (lt200 pbd (by decide))
        · exact El.fr bd (lt200 (a := 61) (by omega) (by decide)) (lt200 pbd (by decide))
        · exact El.fr bd (lt200 pac (by decide)) (lt200 pbd (by decide))
        · exact (el_fr (lt200 (a := 30) (by omega) (by decide)) (by decide)).le (by decide) (by decide)
        · exact (el_fr (lt200 fa (by decide)) (lt200 fb (by decide))).le (by decide) (by decide)
      · exact Nat.le_refl 5
    have bl : ∀ {z : PyData}, (∃ c, z = .bool c) → El z := fun ⟨c, e⟩ => by rw [e]; exact El.bool
    -- less, at most
    refine q_extD (n := 1) (M := [.bool (decide (a * d < c * b)), .bool (decide (a * d ≤ c * b)), .bool true, .bool false]) A5 rfl rfl (en_lst (ea_cons (ev_is (ev_callF (ea_cons (ev_var rfl) (ea_cons (ev_var rfl) ea_nil)) rfl ⟨_, _, _, _, rfl, h1.s.b, h2.s⟩) rfl) (ea_cons (ev_is (ev_callF (ea_cons (ev_var rfl) (ea_cons (ev_var rfl) ea_nil)) rfl ⟨_, _, _, _, rfl, h1.s.b, h2.s⟩) rfl) (ea_cons (ev_is (ev_callF (ea_cons (ev_var rfl) (ea_cons (ev_var rfl) ea_nil)) rfl ⟨_, _, _, _, rfl, h1.s.b, h1.s⟩) (congrArg PyData.bool (decide_eq_true (Int.le_refl (a * b))))) (ea_cons (ev_is (ev_callF (ea_cons (ev_var rfl) (ea_cons (ev_var rfl) ea_nil)) rfl ⟨_, _, _, _, rfl, h1.s.b, h1.s⟩) (congrArg PyData.bool (decide_eq_false (Int.lt_irrefl (a * b))))) ea_nil)))) (by show 4 ≤ 1000; decide)) (by omega) (by show 4 ≤ 1000; decide) fun G6 H6 A6 => ?_
    refine q_extD (n := 0) (M := [.bool (decide (a * d < c * b)), .bool (decide (a * d ≤ c * b)), .bool true, .bool false]) A6 rfl rfl (en_lst (ea_cons (ev_is (ev_callF (ea_cons (ev_var rfl) (ea_cons (ev_var rfl) ea_nil)) rfl ⟨_, _, _, _, rfl, h1.s.b, h2.s⟩) rfl) (ea_cons (ev_is (ev_notV (c := decide (c * b < a * d)) (ev_is (ev_callF (ea_cons (ev_var rfl) (ea_cons (ev_var rfl) ea_nil)) rfl ⟨_, _, _, _, rfl, h2.s.b, h1.s⟩) rfl)) (congrArg PyData.bool (by by_cases h : c * b < a * d <;> simp [h] <;> omega))) (ea_cons ev_bl (ea_cons ev_bl ea_nil)))) (by show 4 ≤ 1000; decide)) (by omega) (by show 4 ≤ 1000; decide) fun G7 H7 A7 => ?_
    obtain ⟨L, hL, ll, A7⟩ : ∃ L : List PyData, (∀ z ∈ L, El z) ∧ L.length ≤ 9 ∧ At K [.un, .a x, .d y, .d (FrD a b), .d (FrD c d), .d (.int num), .d (.int den), .a tl, .a du, .un, .un, .un, .un, .un, .un] (some x) [(du, L.map Sl.d), (tl, L.map Sl.d)] G0 H0 Gt σ5 G7 H7 := by
      refine ⟨_, fun z hz => ?_, ?_, A7⟩
      · rcases List.mem_append.mp hz with hz | hz
        · exact hL z hz
        · simp only [List.mem_cons, List.not_mem_nil, or_false] at hz
          rcases hz with rfl | rfl | rfl | rfl <;> exact El.bool
      · rw [List.length_append]; show L.length + 4 ≤ 9; omega
    -- signs, floors
    have n2 : Fb (frN num 2) (frD num 2) := by
      have e1 := frN_le num 2 (by decide)
      have e2 := frD_le num 2 (by decide)
      exact ⟨frD_pos (by decide), Nat.lt_of_lt_of_le (show _ < 2 ^ 61 by omega) (Nat.pow_le_pow_right (by decide) (by decide)), Nat.lt_of_lt_of_le (show _ < 2 ^ 61 by omega) (Nat.pow_le_pow_right (by decide) (by decide))⟩
    have n1 : Fb num 1 := ⟨by decide, Nat.lt_of_lt_of_le (show _ < 2 ^ 61 by omega) (Nat.pow_le_pow_right (by decide) (by decide)), Nat.lt_of_lt_of_le (show _ < 2 ^ 61 by decide) (Nat.pow_le_pow_right (by decide) (by decide))⟩
    have d2 : dFrac [.int num, .int 2] := ⟨_, _, rfl, by decide, Nat.lt_of_lt_of_le (show (2 : Int).natAbs < 2 ^ 61 by decide) (Nat.pow_le_pow_right (by decide) (by decide))⟩
    refine q_extD (n := 1) (M := [.int (if a = 0 then 0 else if 0 < a then 1 else -1), .int (a / b), .int num, fFloor [fr num 2]]) A7 rfl rfl (en_lst (ea_cons (ev_is (ev_callF (ea_cons (ev_var rfl) ea_nil) rfl ⟨_, _, rfl, h1.s.b⟩) rfl) (ea_cons (ev_is (ev_callF (ea_cons (ev_var rfl) ea_nil) rfl ⟨_, _, rfl, h1.s.b⟩) rfl) (ea_cons (ev_is (ev_callF (ea_cons (ev_callF (ea_cons (ev_var rfl) ea_nil) rfl ⟨_, rfl⟩) ea_nil) rfl ⟨_, _, rfl, n1⟩) (congrArg PyData.int (Int.ediv_one num))) (ea_cons (ev_callF (ea_cons (ev_callF (ea_cons (ev_var rfl) (ea_cons ev_int ea_nil)) rfl d2) ea_nil) rfl ⟨_, _, rfl, n2⟩) ea_nil)))) (by show 4 ≤ 1000; decide)) (by omega) (by show 4 ≤ 1000; decide) fun G8 H8 A8 => ?_
    refine q_extD (n := 0) (M := [.int (if a = 0 then 0 else if 0 < a then 1 else -1), .int (a / b), .int num, fFloor [fr num 2]]) A8 rfl rfl (en_lst (ea_cons (ev_is (ev_I0 (ev_cb (ea_cons (ev_B0 (ev_ixT (ev_var rfl) ev_int rfl) ev_int) ea_nil) rc_intB) (ev_cb (ea_cons (ev_B0 (ev_ixT (ev_var rfl) ev_int rfl) ev_int) ea_nil) rc_intB)) (congrArg PyData.int (sgn_two a))) (ea_cons (ev_is (ev_callF (ea_cons (ev_var rfl) ea_nil) rfl ⟨_, _, rfl, h1.s.b⟩) rfl) (ea_cons (ev_var rfl) (ea_cons (ev_callF (ea_cons (ev_callF (ea_cons (ev_var rfl) (ea_cons ev_int ea_nil)) rfl d2) ea_nil) rfl ⟨_, _, rfl, n2⟩) ea_nil)))) (by show 4 ≤ 1000; decide)) (by omega) (by show 4 ≤ 1000; decide) fun G9 H9 A9 => ?_
    obtain ⟨L, hL, ll, A9⟩ : ∃ L : List PyData, (∀ z ∈ L, El z) ∧ L.length ≤ 13 ∧ At K [.un, .a x, .d y, .d (FrD a b), .d (FrD c d), .d (.int num), .d (.int den), .a tl, .a du, .un, .un, .un, .un, .un, .un] (some x) [(du, L.map Sl.d), (tl, L.map Sl.d)] G0 H0 Gt σ5 G9 H9 := by
      refine ⟨_, fun z hz => ?_, ?_, A9⟩
      · rcases List.mem_append.mp hz with hz | hz
        · exact hL z hz
        · simp only [List.mem_cons, List.not_mem_nil, or_false] at hz
          rcases hz with rfl | rfl | rfl | rfl
          · exact El.int (lt200 (a := 2) (by split <;> (try split) <;> decide) (by decide))
          · refine El.int (lt200 (a := 30) ?_ (by decide))
            have := Int.natAbs_ediv_le_natAbs a b
            omega
          · exact El.int (lt200 (a := 30) (by omega) (by decide))
          · rw [floor_fr (by decide)]
            exact El.int (lt200 (a := 30) (by omega) (by decide))
      · rw [List.length_append]; show L.length + 4 ≤ 13; omega
    -- if den != 0
    refine seq_via (t := tIfS _ _ _) (fun σ' H' => ∃ (L : List PyData) (G' : Hp), (∀ z ∈ L, El z) ∧ L.length ≤ 14 ∧ At K [.un, .a x, .d y, .d (FrD a b), .d (FrD c d), .d (.int num), .d (.int den), .a tl, .a du, .un, .un, .un, .un, .un, .un] (some x) [(du, L.map Sl.d), (tl, L.map Sl.d)] G0 H0 Gt σ' G' H') (fun N hN => ?_) ?_
    · refine s_if A9 (et_T (ev_neI (ev_var rfl) ev_int)) (fun hc G' H' A' => ?_) (fun _ G' H' A' => hN _ _ ⟨L, G', hL, by omega, A'⟩)
      have dn : den ≠ 0 := fun z => by rw [z] at hc; cases hc
      have dd : dFrac [.int num, .int den] := ⟨_, _, rfl, dn, Nat.lt_of_lt_of_le (show den.natAbs < 2 ^ 61 by omega) (Nat.pow_le_pow_right (by decide) (by decide))⟩
      refine q_appD (n := 1) A' rfl rfl (ev_is (ev_callF (ea_cons (ev_var rfl) (ea_cons (ev_var rfl) ea_nil)) rfl dd) rfl : EvP K _ _ _ _ (Is (fr num den))) (by omega) fun G1 H1 A1 => ?_
      refine s_appD (n := 0) A1 rfl rfl (ev_is (ev_callF (ea_cons (ev_var rfl) (ea_cons (ev_var rfl) ea_nil)) rfl dd) rfl : EvP K _ _ _ _ (Is (fr num den))) (by omega) fun G2 H2 A2 => ?_
      refine hN _ _ ⟨_, G2, fun z hz => ?_, ?_, A2⟩
      · rcases List.mem_append.mp hz with hz | hz
        · exact hL z hz
        · have : z = fr num den := by simpa using hz
          rw [this]
          exact El.fr dn (lt200 (a := 30) (by omega) (by decide)) (lt200 (a := 30) (by omega) (by decide))
      · rw [List.length_append]; show L.length + 1 ≤ 14; omega
    rintro σ10 H10 ⟨L, G10, hL, ll, A10⟩
    -- near
    have near : EvP K [.un, .a x, .d y, .d (FrD a b), .d (FrD c d), .d (.int num), .d (.int den), .a tl, .a du, .un, .un, .un, .un, .un, .un] (some x) [(du, L.map Sl.d), (tl, L.map Sl.d)] (tCall (spB K 1 someDom someR) [] E0 (tCons (tVar 1) (tCons (tLst (tCons (tC (.int 0)) (tCons (tCall (spB K 1 takeDom takeR) [] E0 (tCons (tVar 1) (tCons (tC (.int 1000)) tNil))) tNil))) tNil))) (fun d => ∃ z : Int, d = .int z ∧ 0 ≤ z ∧ z < 1000) := by
      refine ev_imp (ev_callB rfl rfl (ea_consP (ev_new (en_lstP (ea_consP ev_int (ea_consP (ev_take rfl ev_int (by decide) (by decide)) ea_nil)) ?_)) ea_nil) ?_) ?_
      · rintro l ⟨d, r, rfl, _, d2, r2, rfl, _, rfl⟩
        show 2 ≤ 1000; decide
      · rintro l ⟨_, r, rfl, ⟨l2, rfl, d, r3, rfl, _, d2, r2, rfl, _, rfl⟩, rfl⟩
        exact ⟨rfl, _, rfl, by simp, by show 2 ≤ 1000; decide⟩
      · rintro v ⟨l, ⟨_, r, rfl, ⟨l2, rfl, d, r3, rfl, rfl, d2, r2, rfl, ⟨z, rfl, z0, z1⟩, rfl⟩, rfl⟩, l5, e, mem⟩
        cases e
        simp only [List.mem_cons, List.not_mem_nil, or_false] at mem
        rcases mem with rfl | rfl
        · exact ⟨0, rfl, by decide, by decide⟩
        · exact ⟨z, rfl, z0, z1⟩
    refine q_asg A10 (ev_I0x (C1 := fun i => i = 10 ^ 9 - 3) (ev_imp (ev_ex1 (ev_I0 (ev_I ev_int ev_int ⟨by decide, by decide, by decide⟩) ev_int)) fun d h => h) near) fun w σ11 G11 H11 e A11 => ?_
    obtain ⟨i1, j1, rfl, ei, j0, j2⟩ := e
    obtain ⟨z, hz, z0, z1⟩ : ∃ z : Int, i1 - j1 = z ∧ 999998998 ≤ z ∧ z ≤ 999999997 := ⟨_, rfl, by omega, by omega⟩
    rw [hz] at A11
    refine q_par A11 (Pl := Is [FrD z (z + 1), FrD (z + 1) (z + 2)]) (ea_cons (ev_tup (ea_cons (ev_var rfl) (ea_cons (ev_I0 (ev_var rfl) ev_int) ea_nil)) (by show 2 ≤ 1000; decide)) (ea_cons (ev_tup (ea_cons (ev_I0 (ev_var rfl) ev_int) (ea_cons (ev_I0 (ev_var rfl) ev_int) ea_nil)) (by show 2 ≤ 1000; decide)) ea_nil)) (fun l e => ⟨_, _, e⟩) ?_
    rintro _ _ σ12 G12 H12 e A12
    cases e
    have s1 : Fs z (z + 1) := ⟨by omega, by omega, by omega⟩
    have s2 : Fs (z + 1) (z + 2) := ⟨by omega, by omega, by omega⟩
    have q12 : 0 < (z + 1) * (z + 2) := Int.mul_pos (by omega) (by omega)
    have q21 : 0 < (z + 2) * (z + 1) := Int.mul_pos (by omega) (by omega)
    have e12 : z * (z + 2) - (z + 1) * (z + 1) = -1 := by grind
    have e21 : (z + 1) * (z + 1) - z * (z + 2) = 1 := by grind
    have q11 : 0 < (z + 1) * (z + 1) := Int.mul_pos (by omega) (by omega)
    have q02 : 0 < z * (z + 2) := Int.mul_pos (by omega) (by omega)
    have e20 : (z + 2) * z = z * (z + 2) := Int.mul_comm _ _
    have b12 : ((z + 1) * (z + 2)).natAbs < 2 ^ 80 := nat_mul_lt (a := 40) (b := 40) (by omega) (by omega)
    have b21 : ((z + 2) * (z + 1)).natAbs < 2 ^ 80 := nat_mul_lt (a := 40) (b := 40) (by omega) (by omega)
    have b11 : ((z + 1) * (z + 1)).natAbs < 2 ^ 80 := nat_mul_lt (a := 40) (b := 40) (by omega) (by omega)
    have b02 : (z * (z + 2)).natAbs < 2 ^ 80 := nat_mul_lt (a := 40) (b := 40) (by omega) (by omega)
    have fbOf : ∀ {n d : Int}, 0 < d → n.natAbs < 2 ^ 80 → d.natAbs < 2 ^ 80 → Fb (frN n d) (frD n d) := fun {n d} p u v =>
      ⟨frD_pos (by omega), Nat.lt_of_lt_of_le (Nat.lt_of_le_of_lt (frN_le n d (by omega)) u) (Nat.pow_le_pow_right (by decide) (by decide)), Nat.lt_of_lt_of_le (Nat.lt_of_le_of_lt (frD_le n d (by omega)) v) (Nat.pow_le_pow_right (by decide) (by decide))⟩
    have m12 : (z * (z + 2) - (z + 1) * (z + 1)).natAbs < 2 ^ 80 := by rw [e12]; decide
    have m21 : ((z + 1) * (z + 1) - z * (z + 2)).natAbs < 2 ^ 80 := by rw [e21]; decide
    refine q_extD (n := 1) (M := [.bool true, .bool false, .bool false, .bool true]) A12 rfl rfl (en_lst (ea_cons (ev_is (ev_callF (ea_cons (ev_var rfl) (ea_cons (ev_var rfl) ea_nil)) rfl ⟨_, _, _, _, rfl, s1.b, s2⟩) (congrArg PyData.bool (decide_eq_true (show z * (z + 2) < (z + 1) * (z + 1) by omega)))) (ea_cons (ev_is (ev_callF (ea_cons (ev_var rfl) (ea_cons (ev_var rfl) ea_nil)) rfl ⟨_, _, _, _, rfl, s2.b, s1⟩) (congrArg PyData.bool (decide_eq_false (show ¬ (z + 1) * (z + 1) < z * (z + 2) by omega)))) (ea_cons (ev_is (ev_callF (ea_cons (ev_var rfl) (ea_cons (ev_var rfl) ea_nil)) rfl ⟨_, _, _, _, rfl, s2.b, s1⟩) (congrArg PyData.bool (decide_eq_false (show ¬ (z + 1) * (z + 1) ≤ z * (z + 2) by omega)))) (ea_cons (ev_is (ev_callF (ea_cons (ev_var rfl) (ea_cons (ev_var rfl) ea_nil)) rfl ⟨_, _, _, _, rfl, s1.b, s2⟩) (congrArg PyData.bool (decide_eq_true (show z * (z + 2) ≤ (z + 1) * (z + 1) by omega)))) ea_nil)))) (by show 4 ≤ 1000; decide)) (by omega) (by show 4 ≤ 1000; decide) fun G13 H13 A13 => ?_
    refine q_extD (n := 0) (M := [.bool true, .bool false, .bool false, .bool true]) A13 rfl rfl (en_lst (ea_cons ev_bl (ea_cons ev_bl (ea_cons ev_bl (ea_cons ev_bl ea_nil)))) (by show 4 ≤ 1000; decide)) (by omega) (by show 4 ≤ 1000; decide) fun G14 H14 A14 => ?_
    have ll2 : (L ++ [PyData.bool true, .bool false, .bool false, .bool true]).length ≤ 18 := by rw [List.length_append]; show L.length + 4 ≤ 18; omega
    refine q_extD (n := 1) (M := [.int (-1), .int 1]) A14 rfl rfl (en_lst (ea_cons (ev_is (ev_callF (ea_cons (ev_callF (ea_cons (ev_var rfl) (ea_cons (ev_var rfl) ea_nil)) rfl ⟨_, _, _, _, rfl, s1.b, s2⟩) ea_nil) rfl ⟨_, _, rfl, fbOf q12 m12 b12⟩) (by rw [show fMinus [FrD z (z + 1), FrD (z + 1) (z + 2)] = fr (z * (z + 2) - (z + 1) * (z + 1)) ((z + 1) * (z + 2)) from rfl, e12, sign_fr q12]; rfl)) (ea_cons (ev_is (ev_callF (ea_cons (ev_callF (ea_cons (ev_var rfl) (ea_cons (ev_var rfl) ea_nil)) rfl ⟨_, _, _, _, rfl, s2.b, s1⟩) ea_nil) rfl ⟨_, _, rfl, fbOf q21 m21 b21⟩) (by rw [show fMinus [FrD (z + 1) (z + 2), FrD z (z + 1)] = fr ((z + 1) * (z + 1) - z * (z + 2)) ((z + 2) * (z + 1)) from rfl, e21, sign_fr q21]; rfl)) ea_nil)) (by show 2 ≤ 1000; decide)) (by omega) (by show 2 ≤ 1000; decide) fun G15 H15 A15 => ?_
    refine q_extD (n := 1) (M := [.int 0, .int 1]) A15 rfl rfl (en_lst (ea_cons (ev_is (ev_callF (ea_cons (ev_callF (ea_cons (ev_var rfl) (ea_cons (ev_var rfl) ea_nil)) rfl ⟨_, _, _, _, rfl, s1.b, s2, by omega⟩) ea_nil) rfl ⟨_, _, rfl, fbOf q11 b02 b11⟩) (by rw [show fOver [FrD z (z + 1), FrD (z + 1) (z + 2)] = fr (z * (z + 2)) ((z + 1) * (z + 1)) from rfl, floor_fr q11, Int.ediv_eq_zero_of_lt (by omega) (by omega)])) (ea_cons (ev_is (ev_callF (ea_cons (ev_callF (ea_cons (ev_var rfl) (ea_cons (ev_var rfl) ea_nil)) rfl ⟨_, _, _, _, rfl, s2.b, s1, by omega⟩) ea_nil) rfl ⟨_, _, rfl, fbOf (by omega) b11 (by rw [e20]; exact b02)⟩) (by rw [show fOver [FrD (z + 1) (z + 2), FrD z (z + 1)] = fr ((z + 1) * (z + 1)) ((z + 2) * z) from rfl, floor_fr (by omega), e20, show (z + 1) * (z + 1) = 1 + z * (z + 2) * 1 by omega, Int.add_mul_ediv_left _ _ (by omega), Int.ediv_eq_zero_of_lt (by omega) (by have := Int.mul_le_mul (show 2 ≤ z by omega) (show 1 ≤ z + 2 by omega) (by omega) (by omega); omega)]; rfl)) ea_nil)) (by show 2 ≤ 1000; decide)) (by rw [List.length_append]; show _ + 2 ≤ 1000; omega) (by show 2 ≤ 1000; decide) fun G16 H16 A16 => ?_
    refine q_extD (n := 0) (M := [.int (-1), .int 1, .int 0, .int 1]) A16 rfl rfl (en_lst (ea_cons (ev_un ev_int) (ea_cons ev_int (ea_cons ev_int (ea_cons ev_int ea_nil)))) (by show 4 ≤ 1000; decide)) (by omega) (by show 4 ≤ 1000; decide) fun G17 H17 A17 => ?_
    obtain ⟨L, hL, ll, A17⟩ : ∃ L : List PyData, (∀ z ∈ L, El z) ∧ L.length ≤ 22 ∧ At K [.un, .a x, .d y, .d (FrD a b), .d (FrD c d), .d (.int num), .d (.int den), .a tl, .a du, .d (.int z), .d (FrD z (z + 1)), .d (FrD (z + 1) (z + 2)), .un, .un, .un] (some x) [(du, L.map Sl.d), (tl, L.map Sl.d)] G0 H0 Gt σ12 G17 H17 := by
      refine ⟨L ++ [PyData.bool true, .bool false, .bool false, .bool true] ++ [.int (-1), .int 1, .int 0, .int 1], fun w hw => ?_, ?_, ?_⟩
      · rcases List.mem_append.mp hw with hw | hw
        · rcases List.mem_append.mp hw with hw | hw
          · exact hL w hw
          · simp only [List.mem_cons, List.not_mem_nil, or_false] at hw
            rcases hw with rfl | rfl | rfl | rfl <;> exact El.bool
        · simp only [List.mem_cons, List.not_mem_nil, or_false] at hw
          rcases hw with rfl | rfl | rfl | rfl <;> exact El.int (by decide)
      · rw [List.length_append]; show _ + 4 ≤ 22; omega
      · have e : L ++ [PyData.bool true, .bool false, .bool false, .bool true] ++ [.int (-1), .int 1] ++ [.int 0, .int 1] = L ++ [PyData.bool true, .bool false, .bool false, .bool true] ++ [.int (-1), .int 1, .int 0, .int 1] := by simp
        have A18 := A17
        rw [e] at A18
        exact A18
    -- if other[0] != 0
    refine seq_via (t := tIfS _ _ _) (fun σ' H' => ∃ (L : List PyData) (G' : Hp), (∀ z ∈ L, El z) ∧ L.length ≤ 24 ∧ At K [.un, .a x, .d y, .d (FrD a b), .d (FrD c d), .d (.int num), .d (.int den), .a tl, .a du, .d (.int z), .d (FrD z (z + 1)), .d (FrD (z + 1) (z + 2)), .un, .un, .un] (some x) [(du, L.map Sl.d), (tl, L.map Sl.d)] G0 H0 Gt σ' G' H') (fun N hN => ?_) ?_
    · refine s_if A17 (et_T (ev_neI (ev_ixT (ev_var rfl) ev_int rfl) ev_int)) (fun hc G' H' A' => ?_) (fun _ G' H' A' => hN _ _ ⟨L, G', hL, by omega, A'⟩)
      have cn : c ≠ 0 := fun z => by rw [z] at hc; cases hc
      have bc : b * c ≠ 0 := Int.mul_ne_zero (by omega) cn
      have fov : Fb (frN (a * d) (b * c)) (frD (a * d) (b * c)) :=
        ⟨frD_pos bc, Nat.lt_of_lt_of_le (Nat.lt_of_le_of_lt (frN_le (a * d) (b * c) bc) pad) (Nat.pow_le_pow_right (by decide) (by decide)), Nat.lt_of_lt_of_le (Nat.lt_of_le_of_lt (frD_le (a * d) (b * c) bc) pbc) (Nat.pow_le_pow_right (by decide) (by decide))⟩
      refine q_extD (n := 1) (M := [fOver [FrD a b, FrD c d], FrD a b]) A' rfl rfl (en_lst (ea_cons (ev_callF (ea_cons (ev_var rfl) (ea_cons (ev_var rfl) ea_nil)) rfl ⟨_, _, _, _, rfl, h1.s.b, h2.s, cn⟩) (ea_cons (ev_is (ev_callF (ea_cons (ev_callF (ea_cons (ev_var rfl) (ea_cons (ev_var rfl) ea_nil)) rfl ⟨_, _, _, _, rfl, h1.s.b, h2.s, cn⟩) (ea_cons (ev_var rfl) ea_nil)) rfl ⟨_, _, _, _, rfl, fov, h2.s⟩) (back2 h1.b0 h2.b0 cn co1)) ea_nil)) (by show 2 ≤ 1000; decide)) (by omega) (by show 2 ≤ 1000; decide) fun G1 H1 A1 => ?_
      refine s_extD (n := 0) (M := [fOver [FrD a b, FrD c d], FrD a b]) A1 rfl rfl (en_lst (ea_cons (ev_callF (ea_cons (ev_var rfl) (ea_cons (ev_var rfl) ea_nil)) rfl ⟨_, _, _, _, rfl, h1.s.b, h2.s, cn⟩) (ea_cons (ev_var rfl) ea_nil)) (by show 2 ≤ 1000; decide)) (by omega) (by show 2 ≤ 1000; decide) fun G2 H2 A2 => ?_
      refine hN _ _ ⟨_, G2, fun z hz => ?_, ?_, A2⟩
      · rcases List.mem_append.mp hz with hz | hz
        · exact hL z hz
        · simp only [List.mem_cons, List.not_mem_nil, or_false] at hz
          rcases hz with rfl | rfl
          · exact El.fr bc (lt200 pad (by decide)) (lt200 pbc (by decide))
          · exact (el_fr (lt200 fa (by decide)) (lt200 fb (by decide))).le (by decide) (by decide)
      · rw [List.length_append]; show L.length + 2 ≤ 24; omega
    rintro σ20 H20 ⟨L, G20, hL, ll, A20⟩
    -- frame, many, first, second, numbers
    refine q_asg A20 (ev_callB (R := frameR) rfl rfl (ea_cons ev_int ea_nil) fun ds e => ⟨by rw [e]; rfl, 5, e, by decide, by decide⟩) fun w σ21 G21 H21 e A21 => ?_
    obtain ⟨ds, e1, n, cells, groups, free, way, e2, rfl, c0, c5⟩ := e
    rw [e1] at e2
    have n5 : n = 5 := by injection e2 with e3; injection e3 with e4; omega
    refine q_asg A21 (ev_cb (ea_cons (ev_ixT (ev_var rfl) ev_int at0) ea_nil) rc_lenT) fun w σ22 G22 H22 e A22 => ?_
    subst e
    have md : manyDom [.int (cells.length : Nat)] := ⟨_, rfl, c0, by omega⟩
    refine q_par3 A22 (ea_consP (ev_callB (R := standR) rfl rfl (ea_cons (ev_var rfl) ea_nil) fun ds e => ⟨by rw [e]; rfl, by rw [e]; exact md⟩) (ea_consP (ev_callB (R := standR) rfl rfl (ea_cons (ev_var rfl) ea_nil) fun ds e => ⟨by rw [e]; rfl, by rw [e]; exact md⟩) (ea_consP (ev_callB (R := readingR) rfl rfl (ea_cons (ev_var rfl) ea_nil) fun ds e => ⟨by rw [e]; rfl, by rw [e]; exact md⟩) ea_nil))) ?_ ?_
    · rintro l ⟨d1, r1, rfl, _, d2, r2, rfl, _, d3, r3, rfl, _, rfl⟩
      exact ⟨_, _, _, rfl⟩
    rintro _ _ _ σ23 G23 H23 ⟨d1, r1, e, ⟨ds1, f1, g1⟩, d2', r2, e2', ⟨ds2, f2, g2⟩, d3, r3, e3', ⟨ds3, f3, g3⟩, e4'⟩ A23
    subst e4' e3' e2'
    cases e
    rw [f1] at g1
    rw [f2] at g2
    rw [f3] at g3
    obtain ⟨m1, xs, en1, rfl, lx, hx⟩ := stand_sfs g1
    obtain ⟨m2, ys, en2, rfl, ly, hy⟩ := stand_sfs g2
    obtain ⟨m3, zs, en3, rfl, lz, hzs⟩ := g3
    have k1 : m1 = cells.length := by injection en1 with u; omega
    have k2 : m2 = cells.length := by injection en2 with u; omega
    have k3 : m3 = cells.length := by injection en3 with u; injection u with u; omega
    have dv : dVec [.tuple xs, .tuple ys] := ⟨_, _, rfl, hx, hy, by omega, by omega⟩
    have dm : dMul [FrD a b, .tuple xs] := ⟨_, _, _, rfl, h1.s.b, hx, by omega⟩
    have dz : dVecOf [.tuple (zs.map .int)] := ⟨_, rfl, by rw [List.length_map]; omega⟩
    have fV : ∀ {F : List PyData → PyData} (d : PyData), rVec F [.tuple xs, .tuple ys] d → d = .tuple ((pairs xs ys).map (onPair F)) := fun d ⟨_, _, e, r⟩ => by cases e; exact r
    have fM : ∀ d : PyData, rMul [FrD a b, .tuple xs] d → d = .tuple (xs.map fun y => fTimes [FrD a b, y]) := fun d ⟨_, _, e, r⟩ => by cases e; exact r
    have fZ : ∀ d : PyData, rVecOf [.tuple (zs.map .int)] d → d = .tuple ((zs.map .int).map fun y => fWhole [y]) := fun d ⟨_, e, r⟩ => by cases e; exact r
    have fN : ∀ d : PyData, rNought [.tuple [.tuple cells, .tuple groups, .tuple free, way]] d → d = .tuple (List.replicate cells.length (FrD 0 1)) := fun d ⟨_, _, e, r⟩ => by cases e; exact r
    refine q_extD (n := 1) (M := [.tuple (List.replicate cells.length (FrD 0 1)), .tuple ((pairs xs ys).map (onPair fPlus)), .tuple ((pairs xs ys).map (onPair fMinus)), .tuple (xs.map fun y => fTimes [FrD a b, y]), .tuple ((zs.map .int).map fun y => fWhole [y])]) A23 rfl rfl (en_lst (ea_cons (ev_callV (ea_cons (ev_var rfl) ea_nil) rfl ⟨_, _, rfl, c0, by omega⟩ fN) (ea_cons (ev_callV (ea_cons (ev_var rfl) (ea_cons (ev_var rfl) ea_nil)) rfl dv fV) (ea_cons (ev_callV (ea_cons (ev_var rfl) (ea_cons (ev_var rfl) ea_nil)) rfl dv fV) (ea_cons (ev_callV (ea_cons (ev_var rfl) (ea_cons (ev_var rfl) ea_nil)) rfl dm fM) (ea_cons (ev_callV (ea_cons (ev_var rfl) ea_nil) rfl dz fZ) ea_nil))))) (by show 5 ≤ 1000; decide)) (by omega) (by show 5 ≤ 1000; decide) fun G24 H24 A24 => ?_
    refine q_extD (n := 0) (M := [.tuple (List.replicate cells.length (FrD 0 1)), .tuple ((pairs xs ys).map (onPair fPlus)), .tuple ((pairs xs ys).map (onPair fMinus))]) A24 rfl rfl (en_lst (ea_cons (ev_is (ev_repA (ev_tup (ea_cons (ev_tup (ea_cons ev_int (ea_cons ev_int ea_nil)) (by show 2 ≤ 1000; decide)) ea_nil) (by show 1 ≤ 1000; decide)) (ev_var rfl) (by simp) c0 (by omega) (by show 1 ≤ 1000; decide)) (by rw [rep_one]; rfl)) (ea_cons (ev_callV (ea_cons (ev_var rfl) (ea_cons (ev_var rfl) ea_nil)) rfl dv fV) (ea_cons (ev_callV (ea_cons (ev_var rfl) (ea_cons (ev_var rfl) ea_nil)) rfl dv fV) ea_nil))) (by show 3 ≤ 1000; decide)) (by omega) (by show 3 ≤ 1000; decide) fun G25 H25 A25 => ?_
    refine q_extD (n := 0) (M := [.tuple (xs.map fun y => fTimes [FrD a b, y]), .tuple ((zs.map .int).map fun y => fWhole [y])]) A25 rfl rfl (en_lst (ea_cons (ev_callV (ea_cons (ev_var rfl) (ea_cons (ev_var rfl) ea_nil)) rfl dm fM) (ea_cons (ev_callV (ea_cons (ev_var rfl) ea_nil) rfl dz fZ) ea_nil)) (by show 2 ≤ 1000; decide)) (by rw [List.length_append]; show L.length + 3 ≤ 1000; omega) (by show 2 ≤ 1000; decide) fun G26 H26 A26 => ?_
    -- alike
    obtain ⟨L, hL, ll, A27⟩ : ∃ L : List PyData, (∀ z ∈ L, El z) ∧ L.length ≤ 29 ∧ At K [.un, .a x, .d y, .d (FrD a b), .d (FrD c d), .d (.int num), .d (.int den), .a tl, .a du, .d (.int z), .d (.tuple xs), .d (.tuple ys), .d (.tuple [.tuple cells, .tuple groups, .tuple free, way]), .d (.int (cells.length : Nat)), .d (.tuple (zs.map .int))] (some x) [(du, L.map Sl.d), (tl, L.map Sl.d)] G0 H0 Gt σ23 G26 H26 := by
      refine ⟨L ++ [.tuple (List.replicate cells.length (FrD 0 1)), .tuple ((pairs xs ys).map (onPair fPlus)), .tuple ((pairs xs ys).map (onPair fMinus)), .tuple (xs.map fun y => fTimes [FrD a b, y]), .tuple ((zs.map .int).map fun y => fWhole [y])], fun w hw => ?_, ?_, ?_⟩
      · rcases List.mem_append.mp hw with hw | hw
        · exact hL w hw
        · simp only [List.mem_cons, List.not_mem_nil, or_false] at hw
          rcases hw with rfl | rfl | rfl | rfl | rfl
          · refine El.vec (fun v hv => ?_) (by rw [List.length_replicate]; omega)
            rw [(List.mem_replicate.mp hv).2]
            exact el_fr (by decide) (by decide)
          · exact El.vec (sfs_plus hx hy) (by rw [List.length_map, pairs_len]; omega)
          · exact El.vec (sfs_minus hx hy) (by rw [List.length_map, pairs_len]; omega)
          · exact El.vec (sfs_times h1.s hx) (by rw [List.length_map]; omega)
          · refine El.vec (fun v hv => ?_) (by rw [List.length_map, List.length_map]; omega)
            obtain ⟨u, hu, rfl⟩ := List.mem_map.mp hv
            obtain ⟨t, ht, rfl⟩ := List.mem_map.mp hu
            exact el_fr (lt200 (a := 2) (by have := hzs t ht; omega) (by decide)) (by decide)
      · rw [List.length_append]; show L.length + 5 ≤ 29; omega
      · have e : L ++ [.tuple (List.replicate cells.length (FrD 0 1)), .tuple ((pairs xs ys).map (onPair fPlus)), .tuple ((pairs xs ys).map (onPair fMinus))] ++ [.tuple (xs.map fun y => fTimes [FrD a b, y]), .tuple ((zs.map .int).map fun y => fWhole [y])] = L ++ [.tuple (List.replicate cells.length (FrD 0 1)), .tuple ((pairs xs ys).map (onPair fPlus)), .tuple ((pairs xs ys).map (onPair fMinus)), .tuple (xs.map fun y => fTimes [FrD a b, y]), .tuple ((zs.map .int).map fun y => fWhole [y])] := by simp
        have A28 := A26
        rw [e] at A28
        exact A28
    obtain ⟨G28, A28⟩ := A27.freeze (i := 7) (n := 1) rfl rfl
    obtain ⟨G29, A29⟩ := A28.freeze (i := 8) (n := 0) rfl rfl
    have sm : SmA L 80000 59 := (sma_all hL).le (by have := Nat.mul_le_mul_left 2101 ll; omega) (by decide)
    refine s_if A29 (et_not (et_B (ev_alike rfl rfl sm))) (fun hc _ _ _ => (nomatch hc)) fun _ G30 H30 A30 => ?_
    exact hnx _ _ _ _ _ ⟨rfl, rfl⟩ (A30.base rfl)
end
end K03
set_option Elab.async false
set_option linter.all false
set_option maxRecDepth 100000
set_option maxHeartbeats 4000000
namespace K03
open PySem L2 Dl
theorem all_mk {P : Program} {w : World} {K : PySem.W.Frag} {h : Heap} {mg : Str → Option Value} {fa : Addr} (X : K.In h) (G : h.Ns mainGlobals mg) (hfa : mg "law" = some (.ref fa))
    {f0 : Addr} {od0 an0 : Option Addr} {sl0 : Array (Option Value)} {oc0 kV0 dc0 pm0 cd0 ct0 : Value}
    (a0 : PySem.W.nsIn K mainGlobals "fraction" = some (some (.ref f0)))
    (l0 : K.lookup f0 = some ⟨oc0, od0, .func (PySem.W.fnOf "fraction" "fraction" (defArgs s_fraction) (defBody s_fraction) (defScope s_fraction) .none kV0 dc0 pm0 an0 cd0 ct0), sl0⟩)
    (c0 : PySem.W.codeIn K cd0 "fraction" = true) (k0 : PySem.W.keepIn K (.ref f0) = true)
    {f1 : Addr} {od1 an1 : Option Addr} {sl1 : Array (Option Value)} {oc1 kV1 dc1 pm1 cd1 ct1 : Value}
    (a1 : PySem.W.nsIn K mainGlobals "whole" = some (some (.ref f1)))
    (l1 : K.lookup f1 = some ⟨oc1, od1, .func (PySem.W.fnOf "whole" "whole" (defArgs s_whole) (defBody s_whole) (defScope s_whole) .none kV1 dc1 pm1 an1 cd1 ct1), sl1⟩)
    (c1 : PySem.W.codeIn K cd1 "whole" = true) (k1 : PySem.W.keepIn K (.ref f1) = true)
    {f2 : Addr} {od2 an2 : Option Addr} {sl2 : Array (Option Value)} {oc2 kV2 dc2 pm2 cd2 ct2 : Value}
    (a2 : PySem.W.nsIn K mainGlobals "plus" = some (some (.ref f2)))
    (l2 : K.lookup f2 = some ⟨oc2, od2, .func (PySem.W.fnOf "plus" "plus" (defArgs s_plus) (defBody s_plus) (defScope s_plus) .none kV2 dc2 pm2 an2 cd2 ct2), sl2⟩)
    (c2 : PySem.W.codeIn K cd2 "plus" = true) (k2 : PySem.W.keepIn K (.ref f2) = true)
    {f3 : Addr} {od3 an3 : Option Addr} {sl3 : Array (Option Value)} {oc3 kV3 dc3 pm3 cd3 ct3 : Value}
    (a3 : PySem.W.nsIn K mainGlobals "minus" = some (some (.ref f3)))
    (l3 : K.lookup f3 = some ⟨oc3, od3, .func (PySem.W.fnOf "minus" "minus" (defArgs s_minus) (defBody s_minus) (defScope s_minus) .none kV3 dc3 pm3 an3 cd3 ct3), sl3⟩)
    (c3 : PySem.W.codeIn K cd3 "minus" = true) (k3 : PySem.W.keepIn K (.ref f3) = true)
    {f4 : Addr} {od4 an4 : Option Addr} {sl4 : Array (Option Value)} {oc4 kV4 dc4 pm4 cd4 ct4 : Value}
    (a4 : PySem.W.nsIn K mainGlobals "times" = some (some (.ref f4)))
    (l4 : K.lookup f4 = some ⟨oc4, od4, .func (PySem.W.fnOf "times" "times" (defArgs s_times) (defBody s_times) (defScope s_times) .none kV4 dc4 pm4 an4 cd4 ct4), sl4⟩)
    (c4 : PySem.W.codeIn K cd4 "times" = true) (k4 : PySem.W.keepIn K (.ref f4) = true)
    {f5 : Addr} {od5 an5 : Option Addr} {sl5 : Array (Option Value)} {oc5 kV5 dc5 pm5 cd5 ct5 : Value}
    (a5 : PySem.W.nsIn K mainGlobals "over" = some (some (.ref f5)))
    (l5 : K.lookup f5 = some ⟨oc5, od5, .func (PySem.W.fnOf "over" "over" (defArgs s_over) (defBody s_over) (defScope s_over) .none kV5 dc5 pm5 an5 cd5 ct5), sl5⟩)
    (c5 : PySem.W.codeIn K cd5 "over" = true) (k5 : PySem.W.keepIn K (.ref f5) = true)
    {f6 : Addr} {od6 an6 : Option Addr} {sl6 : Array (Option Value)} {oc6 kV6 dc6 pm6 cd6 ct6 : Value}
    (a6 : PySem.W.nsIn K mainGlobals "is_less" = some (some (.ref f6)))
    (l6 : K.lookup f6 = some ⟨oc6, od6, .func (PySem.W.fnOf "is_less" "is_less" (defArgs s_is_less) (defBody s_is_less) (defScope s_is_less) .none kV6 dc6 pm6 an6 cd6 ct6), sl6⟩)
    (c6 : PySem.W.codeIn K cd6 "is_less" = true) (k6 : PySem.W.keepIn K (.ref f6) = true)
    {f7 : Addr} {od7 an7 : Option Addr} {sl7 : Array (Option Value)} {oc7 kV7 dc7 pm7 cd7 ct7 : Value}
    (a7 : PySem.W.nsIn K mainGlobals "is_at_most" = some (some (.ref f7)))
    (l7 : K.lookup f7 = some ⟨oc7, od7, .func (PySem.W.fnOf "is_at_most" "is_at_most" (defArgs s_is_at_most) (defBody s_is_at_most) (defScope s_is_at_most) .none kV7 dc7 pm7 an7 cd7 ct7), sl7⟩)
    (c7 : PySem.W.codeIn K cd7 "is_at_most" = true) (k7 : PySem.W.keepIn K (.ref f7) = true)
    {f8 : Addr} {od8 an8 : Option Addr} {sl8 : Array (Option Value)} {oc8 kV8 dc8 pm8 cd8 ct8 : Value}
    (a8 : PySem.W.nsIn K mainGlobals "sign_of" = some (some (.ref f8)))
    (l8 : K.lookup f8 = some ⟨oc8, od8, .func (PySem.W.fnOf "sign_of" "sign_of" (defArgs s_sign_of) (defBody s_sign_of) (defScope s_sign_of) .none kV8 dc8 pm8 an8 cd8 ct8), sl8⟩)
    (c8 : PySem.W.codeIn K cd8 "sign_of" = true) (k8 : PySem.W.keepIn K (.ref f8) = true)
    {f9 : Addr} {od9 an9 : Option Addr} {sl9 : Array (Option Value)} {oc9 kV9 dc9 pm9 cd9 ct9 : Value}
    (a9 : PySem.W.nsIn K mainGlobals "floor_of" = some (some (.ref f9)))
    (l9 : K.lookup f9 = some ⟨oc9, od9, .func (PySem.W.fnOf "floor_of" "floor_of" (defArgs s_floor_of) (defBody s_floor_of) (defScope s_floor_of) .none kV9 dc9 pm9 an9 cd9 ct9), sl9⟩)
    (c9 : PySem.W.codeIn K cd9 "floor_of" = true) (k9 : PySem.W.keepIn K (.ref f9) = true)
    {f10 : Addr} {od10 an10 : Option Addr} {sl10 : Array (Option Value)} {oc10 kV10 dc10 pm10 cd10 ct10 : Value}
    (a10 : PySem.W.nsIn K mainGlobals "nought" = some (some (.ref f10)))
    (l10 : K.lookup f10 = some ⟨oc10, od10, .func (PySem.W.fnOf "nought" "nought" (defArgs s_nought) (defBody s_nought) (defScope s_nought) .none kV10 dc10 pm10 an10 cd10 ct10), sl10⟩)
    (c10 : PySem.W.codeIn K cd10 "nought" = true) (k10 : PySem.W.keepIn K (.ref f10) = true)
    {f11 : Addr} {od11 an11 : Option Addr} {sl11 : Array (Option Value)} {oc11 kV11 dc11 pm11 cd11 ct11 : Value}
    (a11 : PySem.W.nsIn K mainGlobals "added" = some (some (.ref f11)))
    (l11 : K.lookup f11 = some ⟨oc11, od11, .func (PySem.W.fnOf "added" "added" (defArgs s_added) (defBody s_added) (defScope s_added) .none kV11 dc11 pm11 an11 cd11 ct11), sl11⟩)
    (c11 : PySem.W.codeIn K cd11 "added" = true) (k11 : PySem.W.keepIn K (.ref f11) = true)
    {f12 : Addr} {od12 an12 : Option Addr} {sl12 : Array (Option Value)} {oc12 kV12 dc12 pm12 cd12 ct12 : Value}
    (a12 : PySem.W.nsIn K mainGlobals "less" = some (some (.ref f12)))
    (l12 : K.lookup f12 = some ⟨oc12, od12, .func (PySem.W.fnOf "less" "less" (defArgs s_less) (defBody s_less) (defScope s_less) .none kV12 dc12 pm12 an12 cd12 ct12), sl12⟩)
    (c12 : PySem.W.codeIn K cd12 "less" = true) (k12 : PySem.W.keepIn K (.ref f12) = true)
    {f13 : Addr} {od13 an13 : Option Addr} {sl13 : Array (Option Value)} {oc13 kV13 dc13 pm13 cd13 ct13 : Value}
    (a13 : PySem.W.nsIn K mainGlobals "multiple" = some (some (.ref f13)))
    (l13 : K.lookup f13 = some ⟨oc13, od13, .func (PySem.W.fnOf "multiple" "multiple" (defArgs s_multiple) (defBody s_multiple) (defScope s_multiple) .none kV13 dc13 pm13 an13 cd13 ct13), sl13⟩)
    (c13 : PySem.W.codeIn K cd13 "multiple" = true) (k13 : PySem.W.keepIn K (.ref f13) = true)
    {f14 : Addr} {od14 an14 : Option Addr} {sl14 : Array (Option Value)} {oc14 kV14 dc14 pm14 cd14 ct14 : Value}
    (a14 : PySem.W.nsIn K mainGlobals "vector_of" = some (some (.ref f14)))
    (l14 : K.lookup f14 = some ⟨oc14, od14, .func (PySem.W.fnOf "vector_of" "vector_of" (defArgs s_vector_of) (defBody s_vector_of) (defScope s_vector_of) .none kV14 dc14 pm14 an14 cd14 ct14), sl14⟩)
    (c14 : PySem.W.codeIn K cd14 "vector_of" = true) (k14 : PySem.W.keepIn K (.ref f14) = true)
    {f15 : Addr} {od15 an15 : Option Addr} {sl15 : Array (Option Value)} {oc15 kV15 dc15 pm15 cd15 ct15 : Value}
    (a15 : PySem.W.nsIn K mainGlobals "_law_bag" = some (some (.ref f15)))
    (l15 : K.lookup f15 = some ⟨oc15, od15, .func (PySem.W.fnOf "_law_bag" "_law_bag" (defArgs s__law_bag) (defBody s__law_bag) (defScope s__law_bag) .none kV15 dc15 pm15 an15 cd15 ct15), sl15⟩)
    (c15 : PySem.W.codeIn K cd15 "_law_bag" = true) (k15 : PySem.W.keepIn K (.ref f15) = true)
    {f16 : Addr} {od16 an16 : Option Addr} {sl16 : Array (Option Value)} {oc16 kV16 dc16 pm16 cd16 ct16 : Value}
    (a16 : PySem.W.nsIn K mainGlobals "_law_take" = some (some (.ref f16)))
    (l16 : K.lookup f16 = some ⟨oc16, od16, .func (PySem.W.fnOf "_law_take" "_law_take" (defArgs s__law_take) (defBody s__law_take) (defScope s__law_take) .none kV16 dc16 pm16 an16 cd16 ct16), sl16⟩)
    (c16 : PySem.W.codeIn K cd16 "_law_take" = true) (k16 : PySem.W.keepIn K (.ref f16) = true)
    {f17 : Addr} {od17 an17 : Option Addr} {sl17 : Array (Option Value)} {oc17 kV17 dc17 pm17 cd17 ct17 : Value}
    (a17 : PySem.W.nsIn K mainGlobals "_law_some" = some (some (.ref f17)))
    (l17 : K.lookup f17 = some ⟨oc17, od17, .func (PySem.W.fnOf "_law_some" "_law_some" (defArgs s__law_some) (defBody s__law_some) (defScope s__law_some) .none kV17 dc17 pm17 an17 cd17 ct17), sl17⟩)
    (c17 : PySem.W.codeIn K cd17 "_law_some" = true) (k17 : PySem.W.keepIn K (.ref f17) = true)
    {f18 : Addr} {od18 an18 : Option Addr} {sl18 : Array (Option Value)} {oc18 kV18 dc18 pm18 cd18 ct18 : Value}
    (a18 : PySem.W.nsIn K mainGlobals "_law_mixed" = some (some (.ref f18)))
    (l18 : K.lookup f18 = some ⟨oc18, od18, .func (PySem.W.fnOf "_law_mixed" "_law_mixed" (defArgs s__law_mixed) (defBody s__law_mixed) (defScope s__law_mixed) .none kV18 dc18 pm18 an18 cd18 ct18), sl18⟩)
    (c18 : PySem.W.codeIn K cd18 "_law_mixed" = true) (k18 : PySem.W.keepIn K (.ref f18) = true)
    {f19 : Addr} {od19 an19 : Option Addr} {sl19 : Array (Option Value)} {oc19 kV19 dc19 pm19 cd19 ct19 : Value}
    (a19 : PySem.W.nsIn K mainGlobals "_law_alike" = some (some (.ref f19)))
    (l19 : K.lookup f19 = some ⟨oc19, od19, .func (PySem.W.fnOf "_law_alike" "_law_alike" (defArgs s__law_alike) (defBody s__law_alike) (defScope s__law_alike) .none kV19 dc19 pm19 an19 cd19 ct19), sl19⟩)
    (c19 : PySem.W.codeIn K cd19 "_law_alike" = true) (k19 : PySem.W.keepIn K (.ref f19) = true)
    {f20 : Addr} {od20 an20 : Option Addr} {sl20 : Array (Option Value)} {oc20 kV20 dc20 pm20 cd20 ct20 : Value}
    (a20 : PySem.W.nsIn K mainGlobals "_law_gcd" = some (some (.ref f20)))
    (l20 : K.lookup f20 = some ⟨oc20, od20, .func (PySem.W.fnOf "_law_gcd" "_law_gcd" (defArgs s__law_gcd) (defBody s__law_gcd) (defScope s__law_gcd) .none kV20 dc20 pm20 an20 cd20 ct20), sl20⟩)
    (c20 : PySem.W.codeIn K cd20 "_law_gcd" = true) (k20 : PySem.W.keepIn K (.ref f20) = true)
    {f21 : Addr} {od21 an21 : Option Addr} {sl21 : Array (Option Value)} {oc21 kV21 dc21 pm21 cd21 ct21 : Value}
    (a21 : PySem.W.nsIn K mainGlobals "_law_fr" = some (some (.ref f21)))
    (l21 : K.lookup f21 = some ⟨oc21, od21, .func (PySem.W.fnOf "_law_fr" "_law_fr" (defArgs s__law_fr) (defBody s__law_fr) (defScope s__law_fr) .none kV21 dc21 pm21 an21 cd21 ct21), sl21⟩)
    (c21 : PySem.W.codeIn K cd21 "_law_fr" = true) (k21 : PySem.W.keepIn K (.ref f21) = true)
    {f22 : Addr} {od22 an22 : Option Addr} {sl22 : Array (Option Value)} {oc22 kV22 dc22 pm22 cd22 ct22 : Value}
    (a22 : PySem.W.nsIn K mainGlobals "_law_plus" = some (some (.ref f22)))
    (l22 : K.lookup f22 = some ⟨oc22, od22, .func (PySem.W.fnOf "_law_plus" "_law_plus" (defArgs s__law_plus) (defBody s__law_plus) (defScope s__law_plus) .none kV22 dc22 pm22 an22 cd22 ct22), sl22⟩)
    (c22 : PySem.W.codeIn K cd22 "_law_plus" = true) (k22 : PySem.W.keepIn K (.ref f22) = true)
    {f23 : Addr} {od23 an23 : Option Addr} {sl23 : Array (Option Value)} {oc23 kV23 dc23 pm23 cd23 ct23 : Value}
    (a23 : PySem.W.nsIn K mainGlobals "_law_minus" = some (some (.ref f23)))
    (l23 : K.lookup f23 = some ⟨oc23, od23, .func (PySem.W.fnOf "_law_minus" "_law_minus" (defArgs s__law_minus) (defBody s__law_minus) (defScope s__law_minus) .none kV23 dc23 pm23 an23 cd23 ct23), sl23⟩)
    (c23 : PySem.W.codeIn K cd23 "_law_minus" = true) (k23 : PySem.W.keepIn K (.ref f23) = true)
    {f24 : Addr} {od24 an24 : Option Addr} {sl24 : Array (Option Value)} {oc24 kV24 dc24 pm24 cd24 ct24 : Value}
    (a24 : PySem.W.nsIn K mainGlobals "_law_times" = some (some (.ref f24)))
    (l24 : K.lookup f24 = some ⟨oc24, od24, .func (PySem.W.fnOf "_law_times" "_law_times" (defArgs s__law_times) (defBody s__law_times) (defScope s__law_times) .none kV24 dc24 pm24 an24 cd24 ct24), sl24⟩)
    (c24 : PySem.W.codeIn K cd24 "_law_times" = true) (k24 : PySem.W.keepIn K (.ref f24) = true)
    {f25 : Addr} {od25 an25 : Option Addr} {sl25 : Array (Option Value)} {oc25 kV25 dc25 pm25 cd25 ct25 : Value}
    (a25 : PySem.W.nsIn K mainGlobals "_law_over" = some (some (.ref f25)))
    (l25 : K.lookup f25 = some ⟨oc25, od25, .func (PySem.W.fnOf "_law_over" "_law_over" (defArgs s__law_over) (defBody s__law_over) (defScope s__law_over) .none kV25 dc25 pm25 an25 cd25 ct25), sl25⟩)
    (c25 : PySem.W.codeIn K cd25 "_law_over" = true) (k25 : PySem.W.keepIn K (.ref f25) = true)
    {f26 : Addr} {od26 an26 : Option Addr} {sl26 : Array (Option Value)} {oc26 kV26 dc26 pm26 cd26 ct26 : Value}
    (a26 : PySem.W.nsIn K mainGlobals "_law_below" = some (some (.ref f26)))
    (l26 : K.lookup f26 = some ⟨oc26, od26, .func (PySem.W.fnOf "_law_below" "_law_below" (defArgs s__law_below) (defBody s__law_below) (defScope s__law_below) .none kV26 dc26 pm26 an26 cd26 ct26), sl26⟩)
    (c26 : PySem.W.codeIn K cd26 "_law_below" = true) (k26 : PySem.W.keepIn K (.ref f26) = true)
    {f27 : Addr} {od27 an27 : Option Addr} {sl27 : Array (Option Value)} {oc27 kV27 dc27 pm27 cd27 ct27 : Value}
    (a27 : PySem.W.nsIn K mainGlobals "_law_vector" = some (some (.ref f27)))
    (l27 : K.lookup f27 = some ⟨oc27, od27, .func (PySem.W.fnOf "_law_vector" "_law_vector" (defArgs s__law_vector) (defBody s__law_vector) (defScope s__law_vector) .none kV27 dc27 pm27 an27 cd27 ct27), sl27⟩)
    (c27 : PySem.W.codeIn K cd27 "_law_vector" = true) (k27 : PySem.W.keepIn K (.ref f27) = true)
    {f28 : Addr} {od28 an28 : Option Addr} {sl28 : Array (Option Value)} {oc28 kV28 dc28 pm28 cd28 ct28 : Value}
    (a28 : PySem.W.nsIn K mainGlobals "_law_added" = some (some (.ref f28)))
    (l28 : K.lookup f28 = some ⟨oc28, od28, .func (PySem.W.fnOf "_law_added" "_law_added" (defArgs s__law_added) (defBody s__law_added) (defScope s__law_added) .none kV28 dc28 pm28 an28 cd28 ct28), sl28⟩)
    (c28 : PySem.W.codeIn K cd28 "_law_added" = true) (k28 : PySem.W.keepIn K (.ref f28) = true)
    {f29 : Addr} {od29 an29 : Option Addr} {sl29 : Array (Option Value)} {oc29 kV29 dc29 pm29 cd29 ct29 : Value}
    (a29 : PySem.W.nsIn K mainGlobals "_law_less" = some (some (.ref f29)))
    (l29 : K.lookup f29 = some ⟨oc29, od29, .func (PySem.W.fnOf "_law_less" "_law_less" (defArgs s__law_less) (defBody s__law_less) (defScope s__law_less) .none kV29 dc29 pm29 an29 cd29 ct29), sl29⟩)
    (c29 : PySem.W.codeIn K cd29 "_law_less" = true) (k29 : PySem.W.keepIn K (.ref f29) = true)
    {f30 : Addr} {od30 an30 : Option Addr} {sl30 : Array (Option Value)} {oc30 kV30 dc30 pm30 cd30 ct30 : Value}
    (a30 : PySem.W.nsIn K mainGlobals "_law_multiple" = some (some (.ref f30)))
    (l30 : K.lookup f30 = some ⟨oc30, od30, .func (PySem.W.fnOf "_law_multiple" "_law_multiple" (defArgs s__law_multiple) (defBody s__law_multiple) (defScope s__law_multiple) .none kV30 dc30 pm30 an30 cd30 ct30), sl30⟩)
    (c30 : PySem.W.codeIn K cd30 "_law_multiple" = true) (k30 : PySem.W.keepIn K (.ref f30) = true)
    {f31 : Addr} {od31 an31 : Option Addr} {sl31 : Array (Option Value)} {oc31 kV31 dc31 pm31 cd31 ct31 : Value}
    (a31 : PySem.W.nsIn K mainGlobals "_law_frame" = some (some (.ref f31)))
    (l31 : K.lookup f31 = some ⟨oc31, od31, .func (PySem.W.fnOf "_law_frame" "_law_frame" (defArgs s__law_frame) (defBody s__law_frame) (defScope s__law_frame) .none kV31 dc31 pm31 an31 cd31 ct31), sl31⟩)
    (c31 : PySem.W.codeIn K cd31 "_law_frame" = true) (k31 : PySem.W.keepIn K (.ref f31) = true)
    {f32 : Addr} {od32 an32 : Option Addr} {sl32 : Array (Option Value)} {oc32 kV32 dc32 pm32 cd32 ct32 : Value}
    (a32 : PySem.W.nsIn K mainGlobals "_law_stand" = some (some (.ref f32)))
    (l32 : K.lookup f32 = some ⟨oc32, od32, .func (PySem.W.fnOf "_law_stand" "_law_stand" (defArgs s__law_stand) (defBody s__law_stand) (defScope s__law_stand) .none kV32 dc32 pm32 an32 cd32 ct32), sl32⟩)
    (c32 : PySem.W.codeIn K cd32 "_law_stand" = true) (k32 : PySem.W.keepIn K (.ref f32) = true)
    {f33 : Addr} {od33 an33 : Option Addr} {sl33 : Array (Option Value)} {oc33 kV33 dc33 pm33 cd33 ct33 : Value}
    (a33 : PySem.W.nsIn K mainGlobals "_law_reading" = some (some (.ref f33)))
    (l33 : K.lookup f33 = some ⟨oc33, od33, .func (PySem.W.fnOf "_law_reading" "_law_reading" (defArgs s__law_reading) (defBody s__law_reading) (defScope s__law_reading) .none kV33 dc33 pm33 an33 cd33 ct33), sl33⟩)
    (c33 : PySem.W.codeIn K cd33 "_law_reading" = true) (k33 : PySem.W.keepIn K (.ref f33) = true)
    {f34 : Addr} {od34 an34 : Option Addr} {sl34 : Array (Option Value)} {oc34 kV34 dc34 pm34 cd34 ct34 : Value}
    (a34 : PySem.W.nsIn K mainGlobals "_law_number" = some (some (.ref f34)))
    (l34 : K.lookup f34 = some ⟨oc34, od34, .func (PySem.W.fnOf "_law_number" "_law_number" (defArgs s__law_number) (defBody s__law_number) (defScope s__law_number) .none kV34 dc34 pm34 an34 cd34 ct34), sl34⟩)
    (c34 : PySem.W.codeIn K cd34 "_law_number" = true) (k34 : PySem.W.keepIn K (.ref f34) = true)
    {f35 : Addr} {od35 an35 : Option Addr} {sl35 : Array (Option Value)} {oc35 kV35 dc35 pm35 cd35 ct35 : Value}
    (a35 : PySem.W.nsIn K mainGlobals "_law_drawn_fraction" = some (some (.ref f35)))
    (l35 : K.lookup f35 = some ⟨oc35, od35, .func (PySem.W.fnOf "_law_drawn_fraction" "_law_drawn_fraction" (defArgs s__law_drawn_fraction) (defBody s__law_drawn_fraction) (defScope s__law_drawn_fraction) .none kV35 dc35 pm35 an35 cd35 ct35), sl35⟩)
    (c35 : PySem.W.codeIn K cd35 "_law_drawn_fraction" = true) (k35 : PySem.W.keepIn K (.ref f35) = true)
    {f36 : Addr} {od36 an36 : Option Addr} {sl36 : Array (Option Value)} {oc36 kV36 dc36 pm36 cd36 ct36 : Value}
    (a36 : PySem.W.nsIn K mainGlobals "_law_floor" = some (some (.ref f36)))
    (l36 : K.lookup f36 = some ⟨oc36, od36, .func (PySem.W.fnOf "_law_floor" "_law_floor" (defArgs s__law_floor) (defBody s__law_floor) (defScope s__law_floor) .none kV36 dc36 pm36 an36 cd36 ct36), sl36⟩)
    (c36 : PySem.W.codeIn K cd36 "_law_floor" = true) (k36 : PySem.W.keepIn K (.ref f36) = true)
    {f37 : Addr} {od37 an37 : Option Addr} {sl37 : Array (Option Value)} {oc37 kV37 dc37 pm37 cd37 ct37 : Value}
    (a37 : PySem.W.nsIn K mainGlobals "law" = some (some (.ref f37)))
    (l37 : K.lookup f37 = some ⟨oc37, od37, .func (PySem.W.fnOf "law" "law" (defArgs s_law) (defBody s_law) (defScope s_law) .none kV37 dc37 pm37 an37 cd37 ct37), sl37⟩)
    (c37 : PySem.W.codeIn K cd37 "law" = true) (k37 : PySem.W.keepIn K (.ref f37) = true)
    (zb_abs : PySem.W.nsIn K mainGlobals "abs" = some none)
    (zb_int : PySem.W.nsIn K mainGlobals "int" = some none)
    (zb_len : PySem.W.nsIn K mainGlobals "len" = some none)
    (zb_range : PySem.W.nsIn K mainGlobals "range" = some none)
    (zb_repr : PySem.W.nsIn K mainGlobals "repr" = some none)
    (zb_tuple : PySem.W.nsIn K mainGlobals "tuple" = some none)
    (zb_zip : PySem.W.nsIn K mainGlobals "zip" = some none)
    (zi_gcd : PySem.W.nsIn K mainGlobals "gcd" = some (some (.builtin "math.gcd")))
    : ∃ fd : FuncData, (∀ (s : Shared) (u : Value), BindsTo s fd ⟨[u], []⟩ [("script", u)]) ∧ ∀ base : Heap, K.In base → base.Ns mainGlobals mg → FnAt callerA P w K mg base fa fd ["script"] (sp_law K) := by
  have e := hfa.symm.trans (PySem.W.mg_of X G a37)
  cases e
  let T : Txt K mg :=
    { f_fraction := f0, g_fraction := _, d_fraction := dc_mk (fun _ _ _ _ _ _ us hl => match us, hl with | [_, _], _ => rfl) X G a0 l0 c0 k0,
      f_whole := f1, g_whole := _, d_whole := dc_mk (fun _ _ _ _ _ _ us hl => match us, hl with | [_], _ => rfl) X G a1 l1 c1 k1,
      f_plus := f2, g_plus := _, d_plus := dc_mk (fun _ _ _ _ _ _ us hl => match us, hl with | [_, _], _ => rfl) X G a2 l2 c2 k2,
      f_minus := f3, g_minus := _, d_minus := dc_mk (fun _ _ _ _ _ _ us hl => match us, hl with | [_, _], _ => rfl) X G a3 l3 c3 k3,
      f_times := f4, g_times := _, d_times := dc_mk (fun _ _ _ _ _ _ us hl => match us, hl with | [_, _], _ => rfl) X G a4 l4 c4 k4,
      f_over := f5, g_over := _, d_over := dc_mk (fun _ _ _ _ _ _ us hl => match us, hl with | [_, _], _ => rfl) X G a5 l5 c5 k5,
      f_is_less := f6, g_is_less := _, d_is_less := dc_mk (fun _ _ _ _ _ _ us hl => match us, hl with | [_, _], _ => rfl) X G a6 l6 c6 k6,
      f_is_at_most := f7, g_is_at_most := _, d_is_at_most := dc_mk (fun _ _ _ _ _ _ us hl => match us, hl with | [_, _], _ => rfl) X G a7 l7 c7 k7,
      f_sign_of := f8, g_sign_of := _, d_sign_of := dc_mk (fun _ _ _ _ _ _ us hl => match us, hl with | [_], _ => rfl) X G a8 l8 c8 k8,
      f_floor_of := f9, g_floor_of := _, d_floor_of := dc_mk (fun _ _ _ _ _ _ us hl => match us, hl with | [_], _ => rfl) X G a9 l9 c9 k9,
      f_nought := f10, g_nought := _, d_nought := dc_mk (fun _ _ _ _ _ _ us hl => match us, hl with | [_], _ => rfl) X G a10 l10 c10 k10,
      f_added := f11, g_added := _, d_added := dc_mk (fun _ _ _ _ _ _ us hl => match us, hl with | [_, _], _ => rfl) X G a11 l11 c11 k11,
      f_less := f12, g_less := _, d_less := dc_mk (fun _ _ _ _ _ _ us hl => match us, hl with | [_, _], _ => rfl) X G a12 l12 c12 k12,
      f_multiple := f13, g_multiple := _, d_multiple := dc_mk (fun _ _ _ _ _ _ us hl => match us, hl with | [_, _], _ => rfl) X G a13 l13 c13 k13,
      f_vector_of := f14, g_vector_of := _, d_vector_of := dc_mk (fun _ _ _ _ _ _ us hl => match us, hl with | [_], _ => rfl) X G a14 l14 c14 k14,
      f__law_bag := f15, g__law_bag := _, d__law_bag := dc_mk (fun _ _ _ _ _ _ us hl => match us, hl with | [_], _ => rfl) X G a15 l15 c15 k15,
      f__law_take := f16, g__law_take := _, d__law_take := dc_mk (fun _ _ _ _ _ _ us hl => match us, hl with | [_, _], _ => rfl) X G a16 l16 c16 k16,
      f__law_some := f17, g__law_some := _, d__law_some := dc_mk (fun _ _ _ _ _ _ us hl => match us, hl with | [_, _], _ => rfl) X G a17 l17 c17 k17,
      f__law_mixed := f18, g__law_mixed := _, d__law_mixed := dc_mk (fun _ _ _ _ _ _ us hl => match us, hl with | [_, _], _ => rfl) X G a18 l18 c18 k18,
      f__law_alike := f19, g__law_alike := _, d__law_alike := dc_mk (fun _ _ _ _ _ _ us hl => match us, hl with | [_, _], _ => rfl) X G a19 l19 c19 k19,
      f__law_gcd := f20, g__law_gcd := _, d__law_gcd := dc_mk (fun _ _ _ _ _ _ us hl => match us, hl with | [_, _], _ => rfl) X G a20 l20 c20 k20,
      f__law_fr := f21, g__law_fr := _, d__law_fr := dc_mk (fun _ _ _ _ _ _ us hl => match us, hl with | [_, _], _ => rfl) X G a21 l21 c21 k21,
      f__law_plus := f22, g__law_plus := _, d__law_plus := dc_mk (fun _ _ _ _ _ _ us hl => match us, hl with | [_, _], _ => rfl) X G a22 l22 c22 k22,
      f__law_minus := f23, g__law_minus := _, d__law_minus := dc_mk (fun _ _ _ _ _ _ us hl => match us, hl with | [_, _], _ => rfl) X G a23 l23 c23 k23,
      f__law_times := f24, g__law_times := _, d__law_times := dc_mk (fun _ _ _ _ _ _ us hl => match us, hl with | [_, _], _ => rfl) X G a24 l24 c24 k24,
      f__law_over := f25, g__law_over := _, d__law_over := dc_mk (fun _ _ _ _ _ _ us hl => match us, hl with | [_, _], _ => rfl) X G a25 l25 c25 k25,
      f__law_below := f26, g__law_below := _, d__law_below := dc_mk (fun _ _ _ _ _ _ us hl => match us, hl with | [_, _], _ => rfl) X G a26 l26 c26 k26,
      f__law_vector := f27, g__law_vector := _, d__law_vector := dc_mk (fun _ _ _ _ _ _ us hl => match us, hl with | [_], _ => rfl) X G a27 l27 c27 k27,
      f__law_added := f28, g__law_added := _, d__law_added := dc_mk (fun _ _ _ _ _ _ us hl => match us, hl with | [_, _], _ => rfl) X G a28 l28 c28 k28,
      f__law_less := f29, g__law_less := _, d__law_less := dc_mk (fun _ _ _ _ _ _ us hl => match us, hl with | [_, _], _ => rfl) X G a29 l29 c29 k29,
      f__law_multiple := f30, g__law_multiple := _, d__law_multiple := dc_mk (fun _ _ _ _ _ _ us hl => match us, hl with | [_, _], _ => rfl) X G a30 l30 c30 k30,
      f__law_frame := f31, g__law_frame := _, d__law_frame := dc_mk (fun _ _ _ _ _ _ us hl => match us, hl with | [_, _], _ => rfl) X G a31 l31 c31 k31,
      f__law_stand := f32, g__law_stand := _, d__law_stand := dc_mk (fun _ _ _ _ _ _ us hl => match us, hl with | [_, _], _ => rfl) X G a32 l32 c32 k32,
      f__law_reading := f33, g__law_reading := _, d__law_reading := dc_mk (fun _ _ _ _ _ _ us hl => match us, hl with | [_, _], _ => rfl) X G a33 l33 c33 k33,
      f__law_number := f34, g__law_number := _, d__law_number := dc_mk (fun _ _ _ _ _ _ us hl => match us, hl with | [_], _ => rfl) X G a34 l34 c34 k34,
      f__law_drawn_fraction := f35, g__law_drawn_fraction := _, d__law_drawn_fraction := dc_mk (fun _ _ _ _ _ _ us hl => match us, hl with | [_], _ => rfl) X G a35 l35 c35 k35,
      f__law_floor := f36, g__law_floor := _, d__law_floor := dc_mk (fun _ _ _ _ _ _ us hl => match us, hl with | [_], _ => rfl) X G a36 l36 c36 k36,
      f_law := fa, g_law := _, d_law := dc_mk (fun _ _ _ _ _ _ us hl => match us, hl with | [_], _ => rfl) X G a37 l37 c37 k37,
      b_abs := PySem.W.mg_none_of X G zb_abs,
      b_int := PySem.W.mg_none_of X G zb_int,
      b_len := PySem.W.mg_none_of X G zb_len,
      b_range := PySem.W.mg_none_of X G zb_range,
      b_repr := PySem.W.mg_none_of X G zb_repr,
      b_tuple := PySem.W.mg_none_of X G zb_tuple,
      b_zip := PySem.W.mg_none_of X G zb_zip,
      i_gcd := PySem.W.mg_of X G zi_gcd }
  exact ⟨T.g_law, fun s v => .of_eq rfl, fun base _ _ => ok_law T rfl ⟨rfl, by decide, by decide⟩⟩
end K03

open PySem PySem.W PyProof.Rows in
set_option maxRecDepth 100000 in
set_option maxHeartbeats 0 in
theorem PySem.Challenge.cw_heldthrough_k03_fractions_and_vectors_re_holds : PySem.Challenge.rw_heldthrough_k03_fractions_and_vectors_re.Holds := by
  w_on; o_law; k_head; (case hw => w_witness2)
  k_fill
  refine Dl.walk_at (l := PySem.Challenge.rw_heldthrough_k03_fractions_and_vectors_re) (n := 63) (x := "script") (sp := K03.sp_law) rfl (by decide) rfl (fun w h Y => PySem.W.kIn_of Y) ?F (fun K H a ns hl _ hS => ⟨a, ns, rfl, hS, hl, fun _ => rfl⟩)
  case F =>
    intro w mg fa h KX G hmg
    refine' K03.all_mk KX G hmg ?a0 ?l0 ?c0 ?k0 ?a1 ?l1 ?c1 ?k1 ?a2 ?l2 ?c2 ?k2 ?a3 ?l3 ?c3 ?k3 ?a4 ?l4 ?c4 ?k4 ?a5 ?l5 ?c5 ?k5 ?a6 ?l6 ?c6 ?k6 ?a7 ?l7 ?c7 ?k7 ?a8 ?l8 ?c8 ?k8 ?a9 ?l9 ?c9 ?k9 ?a10 ?l10 ?c10 ?k10 ?a11 ?l11 ?c11 ?k11 ?a12 ?l12 ?c12 ?k12 ?a13 ?l13 ?c13 ?k13 ?a14 ?l14 ?c14 ?k14 ?a15 ?l15 ?c15 ?k15 ?a16 ?l16 ?c16 ?k16 ?a17 ?l17 ?c17 ?k17 ?a18 ?l18 ?c18 ?k18 ?a19 ?l19 ?c19 ?k19 ?a20 ?l20 ?c20 ?k20 ?a21 ?l21 ?c21 ?k21 ?a22 ?l22 ?c22 ?k22 ?a23 ?l23 ?c23 ?k23 ?a24 ?l24 ?c24 ?k24 ?a25 ?l25 ?c25 ?k25 ?a26 ?l26 ?c26 ?k26 ?a27 ?l27 ?c27 ?k27 ?a28 ?l28 ?c28 ?k28 ?a29 ?l29 ?c29 ?k29 ?a30 ?l30 ?c30 ?k30 ?a31 ?l31 ?c31 ?k31 ?a32 ?l32 ?c32 ?k32 ?a33 ?l33 ?c33 ?k33 ?a34 ?l34 ?c34 ?k34 ?a35 ?l35 ?c35 ?k35 ?a36 ?l36 ?c36 ?k36 ?a37 ?l37 ?c37 ?k37 ?zb_abs ?zb_int ?zb_len ?zb_range ?zb_repr ?zb_tuple ?zb_zip ?zi_gcd
    (case a0 => k_is)
    (case l0 => k_is)
    (case c0 => k_is)
    (case k0 => k_is)
    (case a1 => k_is)
    (case l1 => k_is)
    (case c1 => k_is)
    (case k1 => k_is)
    (case a2 => k_is)
    (case l2 => k_is)
    (case c2 => k_is)
    (case k2 => k_is)
    (case a3 => k_is)
    (case l3 => k_is)
    (case c3 => k_is)
    (case k3 => k_is)
    (case a4 => k_is)
    (case l4 => k_is)
    (case c4 => k_is)
    (case k4 => k_is)
    (case a5 => k_is)
    (case l5 => k_is)
    (case c5 => k_is)
    (case k5 => k_is)
    (case a6 => k_is)
    (case l6 => k_is)
    (case c6 => k_is)
    (case k6 => k_is)
    (case a7 => k_is)
    (case l7 => k_is)
    (case c7 => k_is)
    (case k7 => k_is)
    (case a8 => k_is)
    (case l8 => k_is)
    (case c8 => k_is)
    (case k8 => k_is)
    (case a9 => k_is)
    (case l9 => k_is)
    (case c9 => k_is)
    (case k9 => k_is)
    (case a10 => k_is)
    (case l10 => k_is)
    (case c10 => k_is)
    (case k10 => k_is)
    (case a11 => k_is)
    (case l11 => k_is)
    (case c11 => k_is)
    (case k11 => k_is)
    (case a12 => k_is)
    (case l12 => k_is)
    (case c12 => k_is)
    (case k12 => k_is)
    (case a13 => k_is)
    (case l13 => k_is)
    (case c13 => k_is)
    (case k13 => k_is)
    (case a14 => k_is)
    (case l14 => k_is)
    (case c14 => k_is)
    (case k14 => k_is)
    (case a15 => k_is)
    (case l15 => k_is)
    (case c15 => k_is)
    (case k15 => k_is)
    (case a16 => k_is)
    (case l16 => k_is)
    (case c16 => k_is)
    (case k16 => k_is)
    (case a17 => k_is)
    (case l17 => k_is)
    (case c17 => k_is)
    (case k17 => k_is)
    (case a18 => k_is)
    (case l18 => k_is)
    (case c18 => k_is)
    (case k18 => k_is)
    (case a19 => k_is)
    (case l19 => k_is)
    (case c19 => k_is)
    (case k19 => k_is)
    (case a20 => k_is)
    (case l20 => k_is)
    (case c20 => k_is)
    (case k20 => k_is)
    (case a21 => k_is)
    (case l21 => k_is)
    (case c21 => k_is)
    (case k21 => k_is)
    (case a22 => k_is)
    (case l22 => k_is)
    (case c22 => k_is)
    (case k22 => k_is)
    (case a23 => k_is)
    (case l23 => k_is)
    (case c23 => k_is)
    (case k23 => k_is)
    (case a24 => k_is)
    (case l24 => k_is)
    (case c24 => k_is)
    (case k24 => k_is)
    (case a25 => k_is)
    (case l25 => k_is)
    (case c25 => k_is)
    (case k25 => k_is)
    (case a26 => k_is)
    (case l26 => k_is)
    (case c26 => k_is)
    (case k26 => k_is)
    (case a27 => k_is)
    (case l27 => k_is)
    (case c27 => k_is)
    (case k27 => k_is)
    (case a28 => k_is)
    (case l28 => k_is)
    (case c28 => k_is)
    (case k28 => k_is)
    (case a29 => k_is)
    (case l29 => k_is)
    (case c29 => k_is)
    (case k29 => k_is)
    (case a30 => k_is)
    (case l30 => k_is)
    (case c30 => k_is)
    (case k30 => k_is)
    (case a31 => k_is)
    (case l31 => k_is)
    (case c31 => k_is)
    (case k31 => k_is)
    (case a32 => k_is)
    (case l32 => k_is)
    (case c32 => k_is)
    (case k32 => k_is)
    (case a33 => k_is)
    (case l33 => k_is)
    (case c33 => k_is)
    (case k33 => k_is)
    (case a34 => k_is)
    (case l34 => k_is)
    (case c34 => k_is)
    (case k34 => k_is)
    (case a35 => k_is)
    (case l35 => k_is)
    (case c35 => k_is)
    (case k35 => k_is)
    (case a36 => k_is)
    (case l36 => k_is)
    (case c36 => k_is)
    (case k36 => k_is)
    (case a37 => k_is)
    (case l37 => k_is)
    (case c37 => k_is)
    (case k37 => k_is)
    (case zb_abs => k_is)
    (case zb_int => k_is)
    (case zb_len => k_is)
    (case zb_range => k_is)
    (case zb_repr => k_is)
    (case zb_tuple => k_is)
    (case zb_zip => k_is)
    (case zi_gcd => k_is)
