import PyProof.Rows.All
import Wide.All
import OpenK.AllK
import Wide.FinOn
import HandS.ForMost
import HandS.More
import HandS.Wide
import HandS.Gcd
import HandS.TupMul
import HandS.TupAny
import HandS.Zip
import HandS.Style
import HandS.Walk
import PyProof.ReprLen
import KE.GoesEnum
import KE.GoesNew
import KE.GoesZip
import KE.GoesMore
import HandS.SetFor
import HandS.Deep
import HandS.Star
import HandS.Strs
import HandS.AnyAll
import HandS.Exc
import HandS.TryMany
import HandS.ExcField
import HandS.ExcInit
import HandS.WordsExc
import HandS.Lambda
import HandS.EndTab
import HandS.EndBits
import PyProof.ReprBulk
import KE.SortData
import HandS.DictComp
import HandS.Iter
import KE.KRevSl
import HandS.Conv
import KE.KDictZip
import PyProof.Rows.SeqMore
import HandS.IsInst
import HandS.SortInts
import PySem.Challenge.RW_heldthrough_k05_frames_led
set_option Elab.async false
set_option linter.all false
set_option maxRecDepth 100000
set_option maxHeartbeats 4000000
/-! A layer of data over the hand layer: what stands in a slot is told by its data; G is the part of the heap that nothing changes. -/
namespace Dl
open PySem L2

/-- from (G, H) to (G', H'): G the still part, M what may be written -/
structure Grow (M : Addr → Prop) (G H G' H' : Hp) : Prop where
  g : Same G G'
  gh : Same G' H'
  dom : ∀ b, H' b = none → H b = none
  keep : ∀ b o, H b = some o → ¬ M b → H' b = some o
  new : ∀ b o, G' b = some o → G b = some o ∨ H b = none
theorem Grow.refl {M : Addr → Prop} {G H : Hp} (s : Same G H) : Grow M G H G H :=
  ⟨Same.refl _, s, fun _ e => e, fun _ _ e _ => e, fun _ _ e => .inl e⟩
theorem Grow.trans {M : Addr → Prop} {G H G1 H1 G2 H2 : Hp} (a : Grow M G H G1 H1) (b : Grow M G1 H1 G2 H2) : Grow M G H G2 H2 :=
  ⟨a.g.trans b.g, b.gh, fun c e => a.dom c (b.dom c e), fun c o e m => b.keep c o (a.keep c o e m) m, fun c o e => by
    rcases b.new c o e with z | z
    · exact a.new c o z
    · exact .inr (a.dom c z)⟩
theorem Grow.wide {M M' : Addr → Prop} {G H G' H' : Hp} (a : Grow M G H G' H') (h : ∀ b, M b → M' b) : Grow M' G H G' H' :=
  ⟨a.g, a.gh, a.dom, fun b o e m => a.keep b o e fun z => m (h b z), a.new⟩
abbrev No : Addr → Prop := fun _ => False
theorem Grow.no {M : Addr → Prop} {G H G' H' : Hp} (a : Grow No G H G' H') : Grow M G H G' H' := a.wide fun _ z => z.elim
/-- a new object, still from now on -/
theorem Grow.lay {M : Addr → Prop} {G H : Hp} {p : Addr} {o : HO} (s : Same G H) (h : H p = none) : Grow M G H (upd G p o) (upd H p o) := by
  have gp : G p = none := s.free h
  refine ⟨fun b u e => by rw [upd_ne (ne_of_none e gp)]; exact e, fun b u e => ?_, fun b e => ?_, fun b u e _ => by rw [upd_ne (ne_of_none e h)]; exact e, fun b u e => ?_⟩
  · by_cases q : b = p
    · subst q; rw [upd_same] at e ⊢; exact e
    · rw [upd_ne q] at e ⊢; exact s b u e
  · by_cases q : b = p
    · subst q; exact h
    · rw [upd_ne q] at e; exact e
  · by_cases q : b = p
    · subst q; exact .inr h
    · rw [upd_ne q] at e; exact .inl e
/-- a new object that may yet change -/
theorem Grow.lay0 {M : Addr → Prop} {G H : Hp} {p : Addr} {o : HO} (s : Same G H) (h : H p = none) : Grow M G H G (upd H p o) := by
  have gp : G p = none := s.free h
  refine ⟨Same.refl _, fun b u e => by rw [upd_ne (ne_of_none e gp)]; exact s b u e, fun b e => ?_, fun b u e _ => by rw [upd_ne (ne_of_none e h)]; exact e, fun b u e => .inl e⟩
  by_cases q : b = p
  · subst q; exact h
  · rw [upd_ne q] at e; exact e
/-- from now on p is still -/
theorem Grow.still {M : Addr → Prop} {G0 H0 G H : Hp} {p : Addr} {o : HO} (a : Grow M G0 H0 G H) (h : H p = some o) (n : H0 p = none) (gp : G p = none) : Grow M G0 H0 (upd G p o) H := by
  refine ⟨a.g.trans fun b u e => by rw [upd_ne (ne_of_none e gp)]; exact e, fun b u e => ?_, a.dom, a.keep, fun b u e => ?_⟩
  · by_cases q : b = p
    · subst q; rw [upd_same] at e; cases e; exact h
    · rw [upd_ne q] at e; exact a.gh b u e
  · by_cases q : b = p
    · subst q; exact .inr n
    · rw [upd_ne q] at e; exact a.new b u e

section
variable {K : PySem.W.Frag}
theorem sqt_mono {G G' : Hp} {a : Addr} {xs : List V} (e : Same G G') (h : SqT K G a xs) : SqT K G' a xs := by
  rcases h with (h | ⟨o, h⟩) | h
  · exact .inl (.inl (e _ _ h))
  · exact .inl (.inr ⟨o, e _ _ h⟩)
  · exact .inr h
mutual
theorem dp_mono {G G' : Hp} (e : Same G G') : ∀ (d : PyData) (v : V), Dp K G v d → Dp K G' v d
  | .none, _, h => by cases h; exact .non
  | .bool b, _, h => by cases h; exact .bl b
  | .int i, _, h => by cases h; exact .int i
  | .str x, _, h => by cases h; exact .str x
  | .list ds, _, h => by
    cases h with
    | lst a b => exact .lst (e.seq a) (dpa_mono e ds _ b)
  | .tuple ds, _, h => by
    cases h with
    | tup a b => exact .tup (sqt_mono e a) (dpa_mono e ds _ b)
  | .dict _, _, h => by cases h
theorem dpa_mono {G G' : Hp} (e : Same G G') : ∀ (ds : List PyData) (vs : List V), DpAll K G vs ds → DpAll K G' vs ds
  | [], _, h => by cases h; exact .nil
  | d :: ds, _, h => by
    cases h with
    | cons a b => exact .cons (dp_mono e d _ a) (dpa_mono e ds _ b)
end
theorem dpa_len {G : Hp} : ∀ {vs : List V} {ds : List PyData}, DpAll K G vs ds → vs.length = ds.length
  | _, _, .nil => rfl
  | _, _, .cons _ t => congrArg (· + 1) (dpa_len t)
theorem dpa_get {G : Hp} : ∀ {vs : List V} {ds : List PyData} {i : Nat} {d : PyData}, DpAll K G vs ds → ds[i]? = some d → ∃ v, vs[i]? = some v ∧ Dp K G v d
  | _, _, _, _, .nil, e => by simp at e
  | _, _, 0, _, .cons r _, e => by simp at e; subst e; exact ⟨_, rfl, r⟩
  | _, _, i + 1, d, .cons _ t, e => by
    obtain ⟨v, h1, h2⟩ := dpa_get (i := i) (d := d) t (by simpa using e)
    exact ⟨v, by simpa using h1, h2⟩
theorem dpa_getV {G : Hp} : ∀ {vs : List V} {ds : List PyData} {i : Nat} {v : V}, DpAll K G vs ds → vs[i]? = some v → ∃ d, ds[i]? = some d ∧ Dp K G v d
  | _, _, _, _, .nil, e => by simp at e
  | _, _, 0, _, .cons r _, e => by simp at e; subst e; exact ⟨_, rfl, r⟩
  | _, _, i + 1, d, .cons _ t, e => by
    obtain ⟨v, h1, h2⟩ := dpa_getV (i := i) (v := d) t (by simpa using e)
    exact ⟨v, by simpa using h1, h2⟩
theorem dpa_app {G : Hp} : ∀ {vs ws : List V} {ds es : List PyData}, DpAll K G vs ds → DpAll K G ws es → DpAll K G (vs ++ ws) (ds ++ es)
  | _, _, _, _, .nil, b => b
  | _, _, _, _, .cons r t, b => .cons r (dpa_app t b)
theorem dpa_take {G : Hp} : ∀ {vs : List V} {ds : List PyData} (n : Nat), DpAll K G vs ds → DpAll K G (vs.take n) (ds.take n)
  | _, _, 0, _ => .nil
  | _, _, _ + 1, .nil => .nil
  | _, _, n + 1, .cons r t => .cons r (dpa_take n t)
theorem dpa_drop {G : Hp} : ∀ {vs : List V} {ds : List PyData} (n : Nat), DpAll K G vs ds → DpAll K G (vs.drop n) (ds.drop n)
  | _, _, 0, r => r
  | _, _, _ + 1, .nil => .nil
  | _, _, n + 1, .cons _ t => dpa_drop n t
theorem dpa_ints {G : Hp} : ∀ ns : List Int, DpAll K G (ns.map V.int) (ns.map PyData.int)
  | [] => .nil
  | n :: r => .cons (.int n) (dpa_ints r)
theorem dpa_ints_inv {G : Hp} : ∀ {ns : List Int} {vs : List V}, DpAll K G vs (ns.map PyData.int) → vs = ns.map V.int
  | [], _, h => by cases h; rfl
  | n :: r, _, h => by
    cases h with
    | cons a b => cases a; rw [dpa_ints_inv b]; rfl
end

/-- lists, tuples, what is frozen -/
def isDat : HO → Bool
  | .lst _ => true
  | .tup _ => true
  | .frz _ _ => true
  | .dK _ => true
  | _ => false
/-- all data of G stand in G' -/
def DatIn (G G' : Hp) : Prop := ∀ b o, G b = some o → isDat o = true → G' b = some o
theorem Same.dat {G G' : Hp} (s : Same G G') : DatIn G G' := fun b o e _ => s b o e
theorem DatIn.trans {G1 G2 G3 : Hp} (a : DatIn G1 G2) (c : DatIn G2 G3) : DatIn G1 G3 := fun b o e d => c b o (a b o e d) d
theorem DatIn.refl (G : Hp) : DatIn G G := fun _ _ e _ => e
/-- now, and with whatever data come besides -/
def Up (R : Hp → V → Prop) (G : Hp) (v : V) : Prop := ∀ G', DatIn G G' → R G' v
theorem Up.now {R : Hp → V → Prop} {G : Hp} {v : V} (u : Up R G v) : R G v := u G (DatIn.refl G)
theorem Up.dat {R : Hp → V → Prop} {G G' : Hp} {v : V} (u : Up R G v) (e : DatIn G G') : Up R G' v := fun G2 e2 => u G2 (e.trans e2)
/-- what a slot is known to hold: nothing known, data, a very address, a value of which something is known -/
inductive Sl where
  | un | d (x : PyData) | a (r : Addr) | r (R : Hp → V → Prop)
def SlotOk (K : PySem.W.Frag) (G : Hp) (s : Option V) : Sl → Prop
  | .un => True
  | .d x => ∃ v, s = some v ∧ Dp K G v x
  | .a r => s = some (.ref r)
  | .r R => ∃ v, s = some v ∧ Up R G v
def EnvOk (K : PySem.W.Frag) (G : Hp) (σ : L2.St) (env : List Sl) : Prop := σ.length = env.length ∧ ∀ (i : Nat) (e : Sl), env[i]? = some e → ∃ s : Option V, σ[i]? = some s ∧ SlotOk K G s e
section
variable {K : PySem.W.Frag} {G G' : Hp} {σ : L2.St} {env : List Sl}
theorem SlotOk.mono {s : Option V} {e : Sl} (h : SlotOk K G s e) (x : Same G G') : SlotOk K G' s e := by
  cases e with
  | un => trivial
  | d y => obtain ⟨v, e1, e2⟩ := h; exact ⟨v, e1, dp_mono x _ _ e2⟩
  | a r => exact h
  | r R => obtain ⟨v, e1, e2⟩ := h; exact ⟨v, e1, e2.dat fun b o q _ => x b o q⟩
theorem EnvOk.mono (h : EnvOk K G σ env) (x : Same G G') : EnvOk K G' σ env := ⟨h.1, fun i e q => by
  obtain ⟨s, e1, e2⟩ := h.2 i e q
  exact ⟨s, e1, e2.mono x⟩⟩
theorem EnvOk.get {i : Nat} {d : PyData} (h : EnvOk K G σ env) (e : env[i]? = some (.d d)) : ∃ v, σ[i]? = some (some v) ∧ Dp K G v d := by
  obtain ⟨s, e1, v, rfl, e2⟩ := h.2 i _ e
  exact ⟨v, e1, e2⟩
theorem EnvOk.addr {i : Nat} {r : Addr} (h : EnvOk K G σ env) (e : env[i]? = some (.a r)) : σ[i]? = some (some (.ref r)) := by
  obtain ⟨s, e1, e2⟩ := h.2 i _ e
  rw [e1]; exact congrArg some e2
theorem EnvOk.nil : EnvOk K G [] [] := ⟨rfl, fun i e q => by simp at q⟩
theorem EnvOk.cons {s : Option V} {e : Sl} (h : SlotOk K G s e) (t : EnvOk K G σ env) : EnvOk K G (s :: σ) (e :: env) := ⟨by simp [t.1], fun i e' q => by
  cases i with
  | zero => simp at q; subst q; exact ⟨s, rfl, h⟩
  | succ i => exact t.2 i e' (by simpa using q)⟩
theorem EnvOk.set {i : Nat} {v : V} {e : Sl} (h : EnvOk K G σ env) (r : SlotOk K G (some v) e) : EnvOk K G (σ.set i (some v)) (env.set i e) := ⟨by simp [h.1], fun j e' q => by
  by_cases hj : i = j
  · subst hj
    by_cases hl : i < env.length
    · rw [List.getElem?_set_self hl] at q
      cases q
      exact ⟨some v, List.getElem?_set_self (by rw [h.1]; exact hl), r⟩
    · rw [List.getElem?_eq_none (by simpa using hl)] at q; cases q
  · rw [List.getElem?_set_ne hj] at q ⊢
    exact h.2 j e' q⟩
theorem EnvOk.setN {i : Nat} (h : EnvOk K G σ env) : EnvOk K G (σ.set i none) (env.set i .un) := ⟨by simp [h.1], fun j e' q => by
  by_cases hj : i = j
  · subst hj
    by_cases hl : i < env.length
    · rw [List.getElem?_set_self hl] at q
      cases q
      exact ⟨none, List.getElem?_set_self (by rw [h.1]; exact hl), trivial⟩
    · rw [List.getElem?_eq_none (by simpa using hl)] at q; cases q
  · rw [List.getElem?_set_ne hj] at q ⊢
    exact h.2 j e' q⟩
def wipeE (env : List Sl) : List Nat → List Sl
  | [] => env
  | v :: vs => (wipeE env vs).set v .un
theorem EnvOk.wipe (h : EnvOk K G σ env) : ∀ vs : List Nat, EnvOk K G (L2.wipe σ vs) (wipeE env vs)
  | [] => h
  | v :: vs => EnvOk.setN (EnvOk.wipe h vs)
end

/-- the drawing bag of a law: three whole numbers that change, and the list of the script's numbers, which doesn't -/
def BagAt (K : PySem.W.Frag) (b : Addr) (G H : Hp) : Prop :=
  G b = none ∧ ∃ (z0 z1 z2 : Int) (l : Addr) (cs : List Int), H b = some (.lst [.int z0, .int z1, .int z2, .ref l]) ∧ SqL K G l (cs.map V.int) ∧ 0 ≤ z0 ∧ 0 ≤ z1 ∧ z1 < 2147483647 ∧ 0 ≤ z2 ∧ (∀ c ∈ cs, 0 ≤ c) ∧ cs.length ≤ 1000
theorem bag_grow {K : PySem.W.Frag} {b : Addr} {G H G' H' : Hp} (h : BagAt K b G H) (a : Grow No G H G' H') : BagAt K b G' H' := by
  obtain ⟨g, z0, z1, z2, l, cs, e, sq, r⟩ := h
  refine ⟨?_, z0, z1, z2, l, cs, a.keep _ _ e (fun z => z), a.g.seq sq, r⟩
  cases q : G' b with
  | none => rfl
  | some o =>
    rcases a.new b o q with z | z
    · rw [g] at z; cases z
    · rw [e] at z; cases z

/-- the lists that may yet change, each with what it is known to hold; b: the bag, if there is one -/
abbrev Ms := List (Addr × List Sl)
structure JB (K : PySem.W.Frag) (b : Option Addr) (ms : Ms) (G H : Hp) : Prop where
  bag : ∀ x, b = some x → BagAt K x G H
  mu : ∀ p ∈ ms, G p.1 = none ∧ b ≠ some p.1 ∧ ∃ xs : List V, H p.1 = some (.lst xs) ∧ EnvOk K G (xs.map some) p.2
abbrev Mb (b : Option Addr) : Addr → Prop := fun c => b = some c
section
variable {K : PySem.W.Frag} {b : Option Addr} {ms : Ms} {G H G' H' : Hp}
theorem JB.growB (j : JB K b ms G H) (a : Grow (Mb b) G H G' H') (hb : ∀ x, b = some x → BagAt K x G' H') : JB K b ms G' H' := by
  refine ⟨hb, fun p hp => ?_⟩
  obtain ⟨g, n, xs, e, q⟩ := j.mu p hp
  refine ⟨?_, n, xs, a.keep _ _ e n, q.mono a.g⟩
  cases r : G' p.1 with
  | none => rfl
  | some o =>
    rcases a.new _ o r with z | z
    · rw [g] at z; cases z
    · rw [e] at z; cases z
theorem JB.grow (j : JB K b ms G H) (a : Grow No G H G' H') : JB K b ms G' H' := j.growB a.no fun x e => bag_grow (j.bag x e) a
end

/-! ### what evaluates to what -/
/-- the reading te gives data with P, whatever slots and heap are so -/
def EvP (K : PySem.W.Frag) (env : List Sl) (b : Option Addr) (ms : Ms) (te : TE) (P : PyData → Prop) : Prop :=
  ∀ (σ : L2.St) (G H : Hp), EnvOk K G σ env → Same G H → JB K b ms G H → ∀ Q : VK, (∀ v d G2 H2, Grow (Mb b) G H G2 H2 → JB K b ms G2 H2 → Dp K G2 v d → P d → Q v H2) → te σ H Q
def EaP (K : PySem.W.Frag) (env : List Sl) (b : Option Addr) (ms : Ms) (ta : TA) (P : List PyData → Prop) : Prop :=
  ∀ (σ : L2.St) (G H : Hp), EnvOk K G σ env → Same G H → JB K b ms G H → ∀ Q : List V → Hp → Prop, (∀ vs ds G2 H2, Grow (Mb b) G H G2 H2 → JB K b ms G2 H2 → DpAll K G2 vs ds → P ds → Q vs H2) → ta σ H Q
def EtP (K : PySem.W.Frag) (env : List Sl) (b : Option Addr) (ms : Ms) (tt : TT) (P : Bool → Prop) : Prop :=
  ∀ (σ : L2.St) (G H : Hp), EnvOk K G σ env → Same G H → JB K b ms G H → ∀ Q : Bool → Hp → Prop, (∀ c G2 H2, Grow (Mb b) G H G2 H2 → JB K b ms G2 H2 → P c → Q c H2) → tt σ H Q
/-- a new list, still free to change -/
def EvN (K : PySem.W.Frag) (env : List Sl) (b : Option Addr) (ms : Ms) (te : TE) (P : List PyData → Prop) : Prop :=
  ∀ (σ : L2.St) (G H : Hp), EnvOk K G σ env → Same G H → JB K b ms G H → ∀ Q : VK, (∀ p xs ds G2 H2, Grow (Mb b) G H G2 H2 → JB K b ms G2 H2 → H p = none → G2 p = none → H2 p = some (.lst xs) → DpAll K G2 xs ds → P ds → Q (.ref p) H2) → te σ H Q
def RvP (K : PySem.W.Frag) (b : Option Addr) (ms : Ms) (r : R2) (d1 d2 : PyData) (P : PyData → Prop) : Prop :=
  ∀ (x y : V) (G H : Hp), Dp K G x d1 → Dp K G y d2 → Same G H → JB K b ms G H → ∀ Q : VK, (∀ v d G2 H2, Grow (Mb b) G H G2 H2 → JB K b ms G2 H2 → Dp K G2 v d → P d → Q v H2) → r x y H Q
def RcP (K : PySem.W.Frag) (b : Option Addr) (ms : Ms) (r : List V → Hp → VK → Prop) (ds : List PyData) (P : PyData → Prop) : Prop :=
  ∀ (xs : List V) (G H : Hp), DpAll K G xs ds → Same G H → JB K b ms G H → ∀ Q : VK, (∀ v d G2 H2, Grow (Mb b) G H G2 H2 → JB K b ms G2 H2 → Dp K G2 v d → P d → Q v H2) → r xs H Q
abbrev Is {α : Type} (d : α) : α → Prop := fun x => x = d
section
variable {K : PySem.W.Frag} {env : List Sl} {b : Option Addr} {ms : Ms} {te ta tb : TE} {P Pa Pb : PyData → Prop} {tt tu : TT} {Pt Pu : Bool → Prop}
theorem ev_imp {P' : PyData → Prop} (h : EvP K env b ms te P) (i : ∀ d, P d → P' d) : EvP K env b ms te P' := fun σ G H e s j Q k =>
  h σ G H e s j Q fun v d G2 H2 g j2 dp p => k v d G2 H2 g j2 dp (i d p)
theorem ev_is {x y : PyData} (h : EvP K env b ms te (Is x)) (i : x = y) : EvP K env b ms te (Is y) := i ▸ h
theorem et_imp {P' : Bool → Prop} (h : EtP K env b ms tt Pt) (i : ∀ d, Pt d → P' d) : EtP K env b ms tt P' := fun σ G H e s j Q k =>
  h σ G H e s j Q fun v G2 H2 g j2 p => k v G2 H2 g j2 (i v p)
theorem ev_var {i : Nat} {d : PyData} (h : env[i]? = some (.d d)) : EvP K env b ms (tVar i) (Is d) := fun σ G H e s j Q k => by
  obtain ⟨v, e1, e2⟩ := e.get h
  exact ⟨v, e1, k v d G H (Grow.refl s) j e2 rfl⟩
theorem ev_int {i : Int} : EvP K env b ms (tC (.int i)) (Is (.int i)) := fun σ G H e s j Q k => k _ _ G H (Grow.refl s) j (.int i) rfl
theorem ev_bl {i : Bool} : EvP K env b ms (tC (.bl i)) (Is (.bool i)) := fun σ G H e s j Q k => k _ _ G H (Grow.refl s) j (.bl i) rfl
theorem ev_str {i : Str} : EvP K env b ms (tC (.str i)) (Is (.str i)) := fun σ G H e s j Q k => k _ _ G H (Grow.refl s) j (.str i) rfl
theorem ev_non : EvP K env b ms (tC .non) (Is .none) := fun σ G H e s j Q k => k _ _ G H (Grow.refl s) j .non rfl
theorem ev_op {r : R2} (ha : EvP K env b ms ta Pa) (hb : EvP K env b ms tb Pb) (hr : ∀ d1 d2, Pa d1 → Pb d2 → RvP K b ms r d1 d2 P) : EvP K env b ms (tOp r ta tb) P := fun σ G H e s j Q k =>
  ha σ G H e s j _ fun x d1 G1 H1 g1 j1 p1 q1 => hb σ G1 H1 (e.mono g1.g) g1.gh j1 _ fun y d2 G2 H2 g2 j2 p2 q2 =>
    hr d1 d2 q1 q2 x y G2 H2 (dp_mono g2.g _ _ p1) p2 g2.gh j2 Q fun v d G3 H3 g3 j3 p3 q3 => k v d G3 H3 ((g1.trans g2).trans g3) j3 p3 q3
theorem rv_I0 {g : Int → Int → Int} {i j : Int} : RvP K b ms (rI0 fun i j => .int (g i j)) (.int i) (.int j) (Is (.int (g i j))) := fun x y G H p1 p2 s jb Q k => by
  cases p1; cases p2
  exact ⟨i, j, rfl, rfl, k _ _ G H (Grow.refl s) jb (.int _) rfl⟩
theorem rv_I {C : Int → Int → Prop} {g : Int → Int → Int} {i j : Int} (c : C i j) : RvP K b ms (rI C fun i j => .int (g i j)) (.int i) (.int j) (Is (.int (g i j))) := fun x y G H p1 p2 s jb Q k => by
  cases p1; cases p2
  exact ⟨i, j, rfl, rfl, c, k _ _ G H (Grow.refl s) jb (.int _) rfl⟩
theorem rv_B0 {g : Int → Int → Bool} {i j : Int} : RvP K b ms (rI0 fun i j => .bl (g i j)) (.int i) (.int j) (Is (.bool (g i j))) := fun x y G H p1 p2 s jb Q k => by
  cases p1; cases p2
  exact ⟨i, j, rfl, rfl, k _ _ G H (Grow.refl s) jb (.bl _) rfl⟩
theorem rv_eqI {i j : Int} : RvP K b ms rEq (.int i) (.int j) (Is (.bool (decide (i = j)))) := fun x y G H p1 p2 s jb Q k => by
  cases p1; cases p2
  have e : decide (V.int i = V.int j) = decide (i = j) := by by_cases h : i = j <;> simp [h]
  refine ⟨rfl, ?_⟩
  rw [e]
  exact k _ _ G H (Grow.refl s) jb (.bl _) rfl
theorem rv_neI {i j : Int} : RvP K b ms rNe (.int i) (.int j) (Is (.bool (!decide (i = j)))) := fun x y G H p1 p2 s jb Q k => by
  cases p1; cases p2
  have e : decide (V.int i = V.int j) = decide (i = j) := by by_cases h : i = j <;> simp [h]
  refine ⟨rfl, ?_⟩
  rw [e]
  exact k _ _ G H (Grow.refl s) jb (.bl _) rfl
/-- two ints, known -/
theorem ev_I0 {g : Int → Int → Int} {i j : Int} (ha : EvP K env b ms ta (Is (.int i))) (hb : EvP K env b ms tb (Is (.int j))) : EvP K env b ms (tOp (rI0 fun i j => .int (g i j)) ta tb) (Is (.int (g i j))) :=
  ev_op ha hb fun d1 d2 e1 e2 => by rw [e1, e2]; exact rv_I0
theorem ev_I {C : Int → Int → Prop} {g : Int → Int → Int} {i j : Int} (ha : EvP K env b ms ta (Is (.int i))) (hb : EvP K env b ms tb (Is (.int j))) (c : C i j) : EvP K env b ms (tOp (rI C fun i j => .int (g i j)) ta tb) (Is (.int (g i j))) :=
  ev_op ha hb fun d1 d2 e1 e2 => by rw [e1, e2]; exact rv_I c
theorem ev_B0 {g : Int → Int → Bool} {i j : Int} (ha : EvP K env b ms ta (Is (.int i))) (hb : EvP K env b ms tb (Is (.int j))) : EvP K env b ms (tOp (rI0 fun i j => .bl (g i j)) ta tb) (Is (.bool (g i j))) :=
  ev_op ha hb fun d1 d2 e1 e2 => by rw [e1, e2]; exact rv_B0
theorem ev_eqI {i j : Int} (ha : EvP K env b ms ta (Is (.int i))) (hb : EvP K env b ms tb (Is (.int j))) : EvP K env b ms (tOp rEq ta tb) (Is (.bool (decide (i = j)))) :=
  ev_op ha hb fun d1 d2 e1 e2 => by rw [e1, e2]; exact rv_eqI
theorem ev_neI {i j : Int} (ha : EvP K env b ms ta (Is (.int i))) (hb : EvP K env b ms tb (Is (.int j))) : EvP K env b ms (tOp rNe ta tb) (Is (.bool (!decide (i = j)))) :=
  ev_op ha hb fun d1 d2 e1 e2 => by rw [e1, e2]; exact rv_neI
theorem ev_un {g : Int → Int} {i : Int} (ha : EvP K env b ms ta (Is (.int i))) : EvP K env b ms (tUn (rU fun i => .int (g i)) ta) (Is (.int (g i))) := fun σ G H e s j Q k =>
  ha σ G H e s j _ fun x d G1 H1 g1 j1 p1 q1 => by
    cases q1; cases p1
    exact ⟨i, rfl, k _ _ G1 H1 g1 j1 (.int _) rfl⟩
/-- tests -/
theorem et_B {c : Bool} (h : EvP K env b ms te (Is (.bool c))) : EtP K env b ms (tB te) (Is c) := fun σ G H e s j Q k => h σ G H e s j _ fun x d G1 H1 g1 j1 p1 q1 => by
  cases q1; cases p1
  exact ⟨c, rfl, k c G1 H1 g1 j1 rfl⟩
theorem et_BP (h : EvP K env b ms te (fun d => ∃ c, d = .bool c ∧ Pt c)) : EtP K env b ms (tB te) Pt := fun σ G H e s j Q k => h σ G H e s j _ fun x d G1 H1 g1 j1 p1 ⟨c, q1, q2⟩ => by
  cases q1; cases p1
  exact ⟨c, rfl, k c G1 H1 g1 j1 q2⟩
theorem et_not {c : Bool} (h : EtP K env b ms tt (Is c)) : EtP K env b ms (tNot tt) (Is (!c)) := fun σ G H e s j Q k => h σ G H e s j _ fun d G1 H1 g1 j1 q1 => k _ G1 H1 g1 j1 (by rw [q1])
theorem et_and {c d : Bool} (h1 : EtP K env b ms tt (Is c)) (h2 : c = true → EtP K env b ms tu (Is d)) : EtP K env b ms (tAnd tt tu) (Is (c && d)) := fun σ G H e s j Q k => h1 σ G H e s j _ fun x G1 H1 g1 j1 q1 => by
  subst q1
  cases x with
  | true => exact h2 rfl σ G1 H1 (e.mono g1.g) g1.gh j1 Q fun y G2 H2 g2 j2 q2 => k y G2 H2 (g1.trans g2) j2 (by rw [q2]; rfl)
  | false => exact k false G1 H1 g1 j1 rfl
theorem et_or {c d : Bool} (h1 : EtP K env b ms tt (Is c)) (h2 : c = false → EtP K env b ms tu (Is d)) : EtP K env b ms (tOr tt tu) (Is (c || d)) := fun σ G H e s j Q k => h1 σ G H e s j _ fun x G1 H1 g1 j1 q1 => by
  subst q1
  cases x with
  | true => exact k true G1 H1 g1 j1 rfl
  | false => exact h2 rfl σ G1 H1 (e.mono g1.g) g1.gh j1 Q fun y G2 H2 g2 j2 q2 => k y G2 H2 (g1.trans g2) j2 (by rw [q2]; rfl)
/-- and, whatever the first says -/
theorem et_andP (h1 : EtP K env b ms tt Pt) (h2 : Pt true → EtP K env b ms tu Pu) (h3 : Pt false → Pu false) : EtP K env b ms (tAnd tt tu) Pu := fun σ G H e s j Q k => h1 σ G H e s j _ fun x G1 H1 g1 j1 q1 => by
  cases x with
  | true => exact h2 q1 σ G1 H1 (e.mono g1.g) g1.gh j1 Q fun y G2 H2 g2 j2 q2 => k y G2 H2 (g1.trans g2) j2 q2
  | false => exact k false G1 H1 g1 j1 (h3 q1)
theorem ev_if (h : EtP K env b ms tt Pt) (h1 : Pt true → EvP K env b ms ta P) (h2 : Pt false → EvP K env b ms tb P) : EvP K env b ms (tIf tt ta tb) P := fun σ G H e s j Q k => h σ G H e s j _ fun x G1 H1 g1 j1 q1 => by
  cases x with
  | true => exact h1 q1 σ G1 H1 (e.mono g1.g) g1.gh j1 Q fun v d G2 H2 g2 j2 p q => k v d G2 H2 (g1.trans g2) j2 p q
  | false => exact h2 q1 σ G1 H1 (e.mono g1.g) g1.gh j1 Q fun v d G2 H2 g2 j2 p q => k v d G2 H2 (g1.trans g2) j2 p q
theorem ev_andV {c d : Bool} (h1 : EvP K env b ms ta (Is (.bool c))) (h2 : c = true → EvP K env b ms tb (Is (.bool d))) : EvP K env b ms (tAndV ta tb) (Is (.bool (c && d))) := fun σ G H e s j Q k => h1 σ G H e s j _ fun x dd G1 H1 g1 j1 p1 q1 => by
  cases q1; cases p1
  refine ⟨c, rfl, ?_⟩
  cases c with
  | true => exact h2 rfl σ G1 H1 (e.mono g1.g) g1.gh j1 Q fun v d G2 H2 g2 j2 p q => k v d G2 H2 (g1.trans g2) j2 p q
  | false => exact k _ _ G1 H1 g1 j1 (.bl false) rfl
theorem ev_orV {c d : Bool} (h1 : EvP K env b ms ta (Is (.bool c))) (h2 : c = false → EvP K env b ms tb (Is (.bool d))) : EvP K env b ms (tOrV ta tb) (Is (.bool (c || d))) := fun σ G H e s j Q k => h1 σ G H e s j _ fun x dd G1 H1 g1 j1 p1 q1 => by
  cases q1; cases p1
  refine ⟨c, rfl, ?_⟩
  cases c with
  | false => exact h2 rfl σ G1 H1 (e.mono g1.g) g1.gh j1 Q fun v d G2 H2 g2 j2 p q => k v d G2 H2 (g1.trans g2) j2 p q
  | true => exact k _ _ G1 H1 g1 j1 (.bl true) rfl
theorem ev_notV {c : Bool} (h1 : EvP K env b ms ta (Is (.bool c))) : EvP K env b ms (tNotV ta) (Is (.bool (!c))) := fun σ G H e s j Q k => h1 σ G H e s j _ fun x dd G1 H1 g1 j1 p1 q1 => by
  cases q1; cases p1
  exact ⟨c, rfl, k _ _ G1 H1 g1 j1 (.bl _) rfl⟩
/-- arguments -/
theorem ea_nil : EaP K env b ms tNil (Is []) := fun σ G H e s j Q k => k [] [] G H (Grow.refl s) j .nil rfl
theorem ea_consP {tr : TA} {Pr : List PyData → Prop} (h : EvP K env b ms te P) (hr : EaP K env b ms tr Pr) : EaP K env b ms (tCons te tr) (fun l => ∃ d ds, l = d :: ds ∧ P d ∧ Pr ds) := fun σ G H e s j Q k =>
  h σ G H e s j _ fun v d G1 H1 g1 j1 p1 q1 => hr σ G1 H1 (e.mono g1.g) g1.gh j1 _ fun vs ds G2 H2 g2 j2 p2 q2 => k _ _ G2 H2 (g1.trans g2) j2 (.cons (dp_mono g2.g _ _ p1) p2) ⟨d, ds, rfl, q1, q2⟩
theorem ea_imp {tr : TA} {Pr Pr' : List PyData → Prop} (hr : EaP K env b ms tr Pr) (i : ∀ l, Pr l → Pr' l) : EaP K env b ms tr Pr' := fun σ G H e s j Q k => hr σ G H e s j Q fun vs ds G2 H2 g j2 p q => k vs ds G2 H2 g j2 p (i _ q)
theorem ea_cons {tr : TA} {d : PyData} {ds : List PyData} (h : EvP K env b ms te (Is d)) (hr : EaP K env b ms tr (Is ds)) : EaP K env b ms (tCons te tr) (Is (d :: ds)) :=
  ea_imp (ea_consP h hr) fun l ⟨x, y, e, e1, e2⟩ => by rw [e, e1, e2]
/-- a tuple, a list made -/
theorem sz1000 {n : Nat} (h : n ≤ 1000) : n ≤ sizeLine := Nat.le_trans h (by decide)
theorem ev_tupP {tr : TA} {Pr : List PyData → Prop} (hr : EaP K env b ms tr Pr) (hl : ∀ l, Pr l → l.length ≤ 1000) : EvP K env b ms (tTup tr) (fun d => ∃ l, d = .tuple l ∧ Pr l) := fun σ G H e s j Q k =>
  hr σ G H e s j _ fun vs ds G1 H1 g1 j1 p1 q1 => ⟨sz1000 (by rw [dpa_len p1]; exact hl _ q1), fun p hp =>
    have g2 : Grow (Mb b) G1 H1 (upd G1 p (.tup vs)) (upd H1 p (.tup vs)) := Grow.lay g1.gh hp
    k _ _ _ _ (g1.trans g2) (j1.grow (Grow.lay g1.gh hp)) (.tup (SqT.of upd_same) (dpa_mono g2.g _ _ p1)) ⟨ds, rfl, q1⟩⟩
theorem ev_tup {tr : TA} {l : List PyData} (hr : EaP K env b ms tr (Is l)) (hl : l.length ≤ 1000) : EvP K env b ms (tTup tr) (Is (.tuple l)) := ev_imp (ev_tupP hr fun l e => by rw [e]; exact hl) fun d ⟨l', e, e'⟩ => by rw [e, e']
theorem en_lstP {tr : TA} {Pr : List PyData → Prop} (hr : EaP K env b ms tr Pr) (hl : ∀ l, Pr l → l.length ≤ 1000) : EvN K env b ms (tLst tr) Pr := fun σ G H e s j Q k =>
  hr σ G H e s j _ fun vs ds G1 H1 g1 j1 p1 q1 => ⟨sz1000 (by rw [dpa_len p1]; exact hl _ q1), fun p hp =>
    k p vs ds G1 (upd H1 p (.lst vs)) (g1.trans (Grow.lay0 g1.gh hp)) (j1.grow (Grow.lay0 g1.gh hp)) (g1.dom _ hp) (g1.gh.free hp) upd_same p1 q1⟩
/-- a new list, from now on still -/
theorem ev_new {Pr : List PyData → Prop} (h : EvN K env b ms te Pr) : EvP K env b ms te (fun d => ∃ l, d = .list l ∧ Pr l) := fun σ G H e s j Q k => h σ G H e s j Q fun p xs ds G1 H1 g1 j1 n gp hp da q => by
  have st : Grow (Mb b) G H (upd G1 p (.lst xs)) H1 := g1.still hp n gp
  have up : Same G1 (upd G1 p (.lst xs)) := fun c o z => by rw [upd_ne (ne_of_none z gp)]; exact z
  refine k (.ref p) (.list ds) _ H1 st ⟨fun x ex => ?_, fun m hm => ?_⟩ (.lst (SqL.of upd_same) (dpa_mono up _ _ da)) ⟨ds, rfl, q⟩
  · obtain ⟨gx, z0, z1, z2, l, cs, e1, sq, r⟩ := j1.bag x ex
    obtain ⟨_, _, _, _, _, _, e0, _⟩ := j.bag x ex
    exact ⟨by rw [upd_ne (ne_of_none e0 n)]; exact gx, z0, z1, z2, l, cs, e1, up.seq sq, r⟩
  · obtain ⟨gx, nb, ys, e1, q1⟩ := j1.mu m hm
    obtain ⟨_, _, _, e0, _⟩ := j.mu m hm
    exact ⟨by rw [upd_ne (ne_of_none e0 n)]; exact gx, nb, ys, e1, q1.mono up⟩
theorem ev_lst {tr : TA} {l : List PyData} (hr : EaP K env b ms tr (Is l)) (hl : l.length ≤ 1000) : EvP K env b ms (tLst tr) (Is (.list l)) :=
  ev_imp (ev_new (en_lstP hr fun l e => by rw [e]; exact hl)) fun d ⟨l', e, e'⟩ => by rw [e, e']
theorem en_imp {Pr Pr' : List PyData → Prop} (h : EvN K env b ms te Pr) (i : ∀ l, Pr l → Pr' l) : EvN K env b ms te Pr' := fun σ G H e s j Q k => h σ G H e s j Q fun p xs ds G1 H1 g1 j1 n gp hp da q => k p xs ds G1 H1 g1 j1 n gp hp da (i _ q)
end
end Dl
set_option Elab.async false
set_option linter.all false
set_option maxRecDepth 100000
set_option maxHeartbeats 4000000
namespace Dl
open PySem L2

section
variable {K : PySem.W.Frag} {env : List Sl} {b : Option Addr} {ms : Ms} {te ta tb : TE} {P Pa Pb : PyData → Prop} {tt tu : TT} {Pt Pu : Bool → Prop}
/-! ### fewer lists known -/
theorem JB.sub {ms2 : Ms} {G H : Hp} (h : ∀ p ∈ ms, p ∈ ms2) (j : JB K b ms2 G H) : JB K b ms G H := ⟨j.bag, fun p hp => j.mu p (h p hp)⟩
theorem ev_weak {ms2 : Ms} (h : ∀ p ∈ ms, p ∈ ms2) (e : EvP K env b ms te P) : EvP K env b ms2 te P := fun σ G H en s j Q k =>
  e σ G H en s (j.sub h) Q fun v d G2 H2 g j2 p q => k v d G2 H2 g (j.growB g j2.bag) p q
theorem et_weak {ms2 : Ms} (h : ∀ p ∈ ms, p ∈ ms2) (e : EtP K env b ms tt Pt) : EtP K env b ms2 tt Pt := fun σ G H en s j Q k =>
  e σ G H en s (j.sub h) Q fun v G2 H2 g j2 q => k v G2 H2 g (j.growB g j2.bag) q

/-! ### an item, a slice, a length, a tuple of a list -/
theorem dpa_at {G : Hp} {vs : List V} {ds : List PyData} {i : Int} {d : PyData} (h : DpAll K G vs ds) (e : atI ds i = some d) : ∃ v, atI vs i = some v ∧ Dp K G v d := by
  unfold atI at e ⊢
  rw [dpa_len h]
  cases q : ixN ds.length i with
  | none => rw [q] at e; cases e
  | some j =>
    rw [q] at e
    exact dpa_get h e
theorem rv_ixT {ds : List PyData} {i : Int} {d : PyData} (h : atI ds i = some d) : RvP K b ms (rIxT K) (.tuple ds) (.int i) (Is d) := fun x y G H p1 p2 s j Q k => by
  cases p2
  cases p1 with
  | tup sq da =>
    obtain ⟨v, e1, e2⟩ := dpa_at da h
    exact ⟨_, _, i, v, rfl, rfl, sqt_mono s sq, e1, k _ _ G H (Grow.refl s) j e2 rfl⟩
theorem rv_ixL {ds : List PyData} {i : Int} {d : PyData} (h : atI ds i = some d) : RvP K b ms (rIxL K) (.list ds) (.int i) (Is d) := fun x y G H p1 p2 s j Q k => by
  cases p2
  cases p1 with
  | lst sq da =>
    obtain ⟨v, e1, e2⟩ := dpa_at da h
    exact ⟨_, _, i, v, rfl, rfl, s.seq sq, e1, k _ _ G H (Grow.refl s) j e2 rfl⟩
theorem ev_ixT {ds : List PyData} {i : Int} {d : PyData} (ha : EvP K env b ms ta (Is (.tuple ds))) (hb : EvP K env b ms tb (Is (.int i))) (h : atI ds i = some d) : EvP K env b ms (tOp (rIxT K) ta tb) (Is d) :=
  ev_op ha hb fun d1 d2 e1 e2 => by rw [e1, e2]; exact rv_ixT h
theorem ev_ixL {ds : List PyData} {i : Int} {d : PyData} (ha : EvP K env b ms ta (Is (.list ds))) (hb : EvP K env b ms tb (Is (.int i))) (h : atI ds i = some d) : EvP K env b ms (tOp (rIxL K) ta tb) (Is d) :=
  ev_op ha hb fun d1 d2 e1 e2 => by rw [e1, e2]; exact rv_ixL h
/-- calls of built-in things by values -/
theorem ev_cb {r : List V → Hp → VK → Prop} {t : TA} {ds : List PyData} (ha : EaP K env b ms t (Is ds)) (hr : RcP K b ms r ds P) : EvP K env b ms (tCB r t) P := fun σ G H e s j Q k =>
  ha σ G H e s j _ fun vs l G1 H1 g1 j1 p1 q1 => by
    subst q1
    exact hr vs G1 H1 p1 g1.gh j1 Q fun v d G2 H2 g2 j2 p2 q2 => k v d G2 H2 (g1.trans g2) j2 p2 q2
theorem ev_cbP {r : List V → Hp → VK → Prop} {t : TA} {Pl : List PyData → Prop} (ha : EaP K env b ms t Pl) (hr : ∀ ds, Pl ds → RcP K b ms r ds P) : EvP K env b ms (tCB r t) P := fun σ G H e s j Q k =>
  ha σ G H e s j _ fun vs l G1 H1 g1 j1 p1 q1 => hr l q1 vs G1 H1 p1 g1.gh j1 Q fun v d G2 H2 g2 j2 p2 q2 => k v d G2 H2 (g1.trans g2) j2 p2 q2
abbrev rLen (K : PySem.W.Frag) : List V → Hp → VK → Prop := fun xs H Q => ∃ p ys, xs = [.ref p] ∧ (SqL K H p ys ∨ SqT K H p ys) ∧ Q (.int ys.length) H
abbrev rTupOf (K : PySem.W.Frag) : List V → Hp → VK → Prop := fun xs H Q => ∃ p ys, xs = [.ref p] ∧ ((SqL K H p ys ∧ ∀ l, H l = none → Q (.ref l) (upd H l (.tup ys))) ∨ (SqT K H p ys ∧ Q (.ref p) H))
abbrev rAbs : List V → Hp → VK → Prop := fun xs H Q => ∃ i, xs = [.int i] ∧ Q (.int (if i < 0 then -i else i)) H
abbrev rInt1 : List V → Hp → VK → Prop := fun xs H Q => (∃ i, xs = [.int i] ∧ Q (.int i) H) ∨ ∃ k, xs = [.bl k] ∧ Q (.int (if k then 1 else 0)) H
theorem rc_lenL {l : List PyData} : RcP K b ms (rLen K) [.list l] (Is (.int l.length)) := fun xs G H p s j Q k => by
  cases p with
  | cons p q =>
    cases q
    cases p with
    | lst sq da => exact ⟨_, _, rfl, .inl (s.seq sq), by rw [dpa_len da]; exact k _ _ G H (Grow.refl s) j (.int _) rfl⟩
theorem rc_lenT {l : List PyData} : RcP K b ms (rLen K) [.tuple l] (Is (.int l.length)) := fun xs G H p s j Q k => by
  cases p with
  | cons p q =>
    cases q
    cases p with
    | tup sq da => exact ⟨_, _, rfl, .inr (sqt_mono s sq), by rw [dpa_len da]; exact k _ _ G H (Grow.refl s) j (.int _) rfl⟩
theorem rc_tupL {l : List PyData} : RcP K b ms (rTupOf K) [.list l] (Is (.tuple l)) := fun xs G H p s j Q k => by
  cases p with
  | cons p q =>
    cases q
    cases p with
    | lst sq da =>
      rename_i a0 xs0
      refine ⟨_, _, rfl, .inl ⟨s.seq sq, fun t ht => ?_⟩⟩
      have g : Grow No G H (upd G t (.tup xs0)) (upd H t (.tup xs0)) := Grow.lay s ht
      exact k _ _ _ _ g.no (j.grow g) (.tup (SqT.of upd_same) (dpa_mono g.g _ _ da)) rfl
theorem rc_tupT {l : List PyData} : RcP K b ms (rTupOf K) [.tuple l] (Is (.tuple l)) := fun xs G H p s j Q k => by
  cases p with
  | cons p q =>
    cases q
    cases p with
    | tup sq da => exact ⟨_, _, rfl, .inr ⟨sqt_mono s sq, k _ _ G H (Grow.refl s) j (.tup sq da) rfl⟩⟩
theorem rc_abs {i : Int} : RcP K b ms rAbs [.int i] (Is (.int (if i < 0 then -i else i))) := fun xs G H p s j Q k => by
  cases p with
  | cons p q =>
    cases q; cases p
    exact ⟨i, rfl, k _ _ G H (Grow.refl s) j (.int _) rfl⟩
theorem rc_int {i : Int} : RcP K b ms rInt1 [.int i] (Is (.int i)) := fun xs G H p s j Q k => by
  cases p with
  | cons p q =>
    cases q; cases p
    exact .inl ⟨i, rfl, k _ _ G H (Grow.refl s) j (.int _) rfl⟩
theorem rc_intB {c : Bool} : RcP K b ms rInt1 [.bool c] (Is (.int (if c then 1 else 0))) := fun xs G H p s j Q k => by
  cases p with
  | cons p q =>
    cases q; cases p
    exact .inr ⟨c, rfl, k _ _ G H (Grow.refl s) j (.int _) rfl⟩
theorem rc_gcd {i n : Int} : RcP K b ms rGcd [.int i, .int n] (Is (.int ((Nat.gcd i.natAbs n.natAbs : Nat) : Int))) := fun xs G H p s j Q k => by
  cases p with
  | cons p q =>
    cases q with
    | cons p' q' =>
      cases q'; cases p; cases p'
      exact ⟨i, n, rfl, k _ _ G H (Grow.refl s) j (.int _) rfl⟩
/-- a slice of a list: a new list -/
def cutD (xs : List PyData) (lo hi : Option Int) : List PyData := (xs.drop (HT.sIx xs.length 0 lo)).take (HT.sIx xs.length xs.length hi - HT.sIx xs.length 0 lo)
theorem dpa_cut {G : Hp} {vs : List V} {ds : List PyData} {lo hi : Option Int} (h : DpAll K G vs ds) : DpAll K G (cutV vs lo hi) (cutD ds lo hi) := by
  unfold cutV cutD
  rw [dpa_len h]
  exact dpa_take _ (dpa_drop _ h)
def EoP (K : PySem.W.Frag) (env : List Sl) (b : Option Addr) (ms : Ms) (to : TO) (P : Option Int → Prop) : Prop :=
  ∀ (σ : L2.St) (G H : Hp), EnvOk K G σ env → Same G H → JB K b ms G H → ∀ Q : Option Int → Hp → Prop, (∀ o G2 H2, Grow (Mb b) G H G2 H2 → JB K b ms G2 H2 → P o → Q o H2) → to σ H Q
theorem eo_none : EoP K env b ms tNoPart (Is none) := fun σ G H e s j Q k => k none G H (Grow.refl s) j rfl
theorem eo_some {i : Int} (h : EvP K env b ms te (Is (.int i))) : EoP K env b ms (tPart te) (Is (some i)) := fun σ G H e s j Q k => h σ G H e s j _ fun v d G1 H1 g1 j1 p1 q1 => by
  cases q1; cases p1
  exact ⟨i, rfl, k _ G1 H1 g1 j1 rfl⟩
theorem eo_someP {C : Int → Prop} (h : EvP K env b ms te (fun d => ∃ i, d = .int i ∧ C i)) : EoP K env b ms (tPart te) (fun o => ∃ i, o = some i ∧ C i) := fun σ G H e s j Q k => h σ G H e s j _ fun v d G1 H1 g1 j1 p1 ⟨i, q1, c⟩ => by
  cases q1; cases p1
  exact ⟨i, rfl, k _ G1 H1 g1 j1 ⟨i, rfl, c⟩⟩
theorem en_slL {tl th : TO} {l : List PyData} {Pl Ph : Option Int → Prop} (h : EvP K env b ms te (Is (.list l))) (hl : EoP K env b ms tl Pl) (hh : EoP K env b ms th Ph) :
    EvN K env b ms (tSl (rSlL K) te tl th) (fun x => ∃ lo hi, Pl lo ∧ Ph hi ∧ x = cutD l lo hi) := fun σ G H e s j Q k => h σ G H e s j _ fun v d G1 H1 g1 j1 p1 q1 => by
  cases q1
  cases p1 with
  | lst sq da =>
    rename_i a0 xs0
    refine hl σ G1 H1 (e.mono g1.g) g1.gh j1 _ fun lo G2 H2 g2 j2 q2 => hh σ G2 H2 (e.mono (g1.g.trans g2.g)) g2.gh j2 _ fun hi G3 H3 g3 j3 q3 => ?_
    have s3 := g2.g.trans g3.g
    refine ⟨_, _, rfl, (s3.trans g3.gh).seq sq, fun p hp => ?_⟩
    have g4 : Grow No G3 H3 G3 (upd H3 p (.lst (cutV xs0 lo hi))) := Grow.lay0 g3.gh hp
    exact k p _ _ G3 _ (((g1.trans g2).trans g3).trans g4.no) (j3.grow g4) (g1.dom _ (g2.dom _ (g3.dom _ hp))) (g3.gh.free hp) upd_same (dpa_mono s3 _ _ (dpa_cut da)) ⟨lo, hi, q2, q3, rfl⟩
theorem ev_slT {tl th : TO} {l : List PyData} {Pl Ph : Option Int → Prop} (h : EvP K env b ms te (Is (.tuple l))) (hl : EoP K env b ms tl Pl) (hh : EoP K env b ms th Ph) :
    EvP K env b ms (tSl (rSlA K) te tl th) (fun x => ∃ lo hi, Pl lo ∧ Ph hi ∧ x = .tuple (cutD l lo hi)) := fun σ G H e s j Q k => h σ G H e s j _ fun v d G1 H1 g1 j1 p1 q1 => by
  cases q1
  cases p1 with
  | tup sq da =>
    rename_i a0 xs0
    refine hl σ G1 H1 (e.mono g1.g) g1.gh j1 _ fun lo G2 H2 g2 j2 q2 => hh σ G2 H2 (e.mono (g1.g.trans g2.g)) g2.gh j2 _ fun hi G3 H3 g3 j3 q3 => ?_
    have s3 := g2.g.trans g3.g
    refine ⟨_, _, rfl, sqt_mono (s3.trans g3.gh) sq, fun w => ?_, fun _ p hp => ?_⟩
    · have e1 : cutD l lo hi = l := by
        rw [dpa_len da] at w
        unfold cutD
        rw [w.1, w.2]
        simp
      exact k _ _ G3 _ ((g1.trans g2).trans g3) j3 (.tup (sqt_mono s3 sq) (dpa_mono s3 _ _ da)) ⟨lo, hi, q2, q3, by rw [e1]⟩
    · have g4 : Grow No G3 H3 (upd G3 p (.tup (cutV xs0 lo hi))) (upd H3 p (.tup (cutV xs0 lo hi))) := Grow.lay g3.gh hp
      exact k _ _ _ _ (((g1.trans g2).trans g3).trans g4.no) (j3.grow g4) (.tup (SqT.of upd_same) (dpa_mono (s3.trans g4.g) _ _ (dpa_cut da))) ⟨lo, hi, q2, q3, rfl⟩
/-- list + list, both new -/
theorem en_cat {P1 P2 : List PyData → Prop} (ha : EvN K env b ms ta P1) (hb : EvN K env b ms tb P2) (hl : ∀ l m, P1 l → P2 m → l.length + m.length ≤ 2000) : EvN K env b ms (tOp rCat ta tb) (fun x => ∃ l m, P1 l ∧ P2 m ∧ x = l ++ m) := fun σ G H e s j Q k =>
  ha σ G H e s j _ fun p xs l G1 H1 g1 j1 n1 f1 h1 d1 q1 => hb σ G1 H1 (e.mono g1.g) g1.gh j1 _ fun q ys m G2 H2 g2 j2 n2 f2 h2 d2 q2 => by
    have pb : ¬ Mb b p := fun z => by
      obtain ⟨_, _, _, _, _, _, e0, _⟩ := j.bag p z
      rw [n1] at e0; cases e0
    refine ⟨p, q, xs, ys, rfl, rfl, g2.keep _ _ h1 pb, h2, Nat.le_trans (by rw [dpa_len d1, dpa_len d2]; exact hl _ _ q1 q2) (by decide), fun t ht => ?_⟩
    have g3 : Grow No G2 H2 G2 (upd H2 t (.lst (xs ++ ys))) := Grow.lay0 g2.gh ht
    exact k t _ _ G2 _ ((g1.trans g2).trans g3.no) (j2.grow g3) (g1.dom _ (g2.dom _ ht)) (g2.gh.free ht) upd_same (dpa_app (dpa_mono g2.g _ _ d1) d2) ⟨l, m, q1, q2, rfl⟩

/-! ### == of data, repr -/
theorem ev_eqD {x y : PyData} (ha : EvP K env b ms ta (Is x)) (hb : EvP K env b ms tb (Is y)) (hx : SeqAt.shaped x = true) (hy : SeqAt.shaped y = true) : EvP K env b ms (tOp (rEqD K) ta tb) (Is (.bool (PyData.eqv x y))) :=
  ev_op ha hb fun d1 d2 e1 e2 => by
    rw [e1, e2]
    exact fun v w G H p1 p2 s j Q k => ⟨x, y, dp_mono s _ _ p1, dp_mono s _ _ p2, hx, hy, k _ _ G H (Grow.refl s) j (.bl _) rfl⟩
theorem ev_neD {x y : PyData} (ha : EvP K env b ms ta (Is x)) (hb : EvP K env b ms tb (Is y)) (hx : SeqAt.shaped x = true) (hy : SeqAt.shaped y = true) : EvP K env b ms (tOp (rNeD K) ta tb) (Is (.bool (!PyData.eqv x y))) :=
  ev_op ha hb fun d1 d2 e1 e2 => by
    rw [e1, e2]
    exact fun v w G H p1 p2 s j Q k => ⟨x, y, dp_mono s _ _ p1, dp_mono s _ _ p2, hx, hy, k _ _ G H (Grow.refl s) j (.bl _) rfl⟩
/-- repr of a list or tuple of data without dicts -/
def rRepr (K : PySem.W.Frag) : List V → Hp → VK → Prop := fun xs H Q => ∃ (a : Addr) (d : PyData), xs = [.ref a] ∧ Dp K H (.ref a) d ∧ d.showable = true ∧ d.hasDict = false ∧ d.depth ≤ 60 ∧ d.shown.length ≤ sizeLine ∧ Q (.str d.shown) H
theorem cr_repr {X : Cx} (hg : X.A.guards = some []) (hu : X.A.units + 64 < cLine) : CallR X (.builtin "repr") (rRepr X.K) := by
  intro pins s σ H xs us Q I r h
  obtain ⟨a, d, rfl, dp, h1, h2, h3, h4, q⟩ := h
  obtain ⟨u, rfl, ru⟩ := vals1 r
  obtain ⟨as, rd⟩ := Dp.reads I d _ u dp ru
  cases ru
  exact repr_of_reads' rd h1 (PyData.noDict_hsm h2) hg (by omega) (fun _ _ e => e) (fun h' t tk hk => ⟨.str d.shown, H, I.kept (h' := h') (t' := tk) hk, ⟨t, rfl⟩, q⟩) h4
theorem rc_repr {d : PyData} (hr : ∀ v G, Dp K G v d → ∃ a, v = .ref a) (h1 : d.showable = true) (h2 : d.hasDict = false) (h3 : d.depth ≤ 60) (h4 : d.shown.length ≤ sizeLine) : RcP K b ms (rRepr K) [d] (Is (.str d.shown)) := fun xs G H p s j Q k => by
  cases p with
  | cons p q =>
    cases q
    obtain ⟨a, rfl⟩ := hr _ _ p
    exact ⟨a, d, rfl, dp_mono s _ _ p, h1, h2, h3, h4, k _ _ G H (Grow.refl s) j (.str _) rfl⟩
end

/-! ### the promises -/
/-- a def of n arguments that changes nothing: data in, data out -/
def spR (K : PySem.W.Frag) (n : Nat) (dom : List PyData → Prop) (R : List PyData → PyData → Prop) : Sp := fun vs H Q _ => vs.length = n ∧ ∃ (ds : List PyData) (G : Hp), Same G H ∧ DpAll K G vs ds ∧ dom ds ∧
  ∀ v d G' H', Grow No G H G' H' → Dp K G' v d → R ds d → Q v H'
/-- a def that draws from the bag, its first argument, besides n others -/
def spB (K : PySem.W.Frag) (n : Nat) (dom : List PyData → Prop) (R : List PyData → PyData → Prop) : Sp := fun vs H Q _ => ∃ (x : Addr) (ws : List V), vs = .ref x :: ws ∧ ws.length = n ∧ ∃ (ds : List PyData) (G : Hp), Same G H ∧ BagAt K x G H ∧ DpAll K G ws ds ∧ dom ds ∧
  ∀ v d G' H', Grow (Mb (some x)) G H G' H' → BagAt K x G' H' → Dp K G' v d → R ds d → Q v H'
section
variable {K : PySem.W.Frag} {env : List Sl} {b : Option Addr} {ms : Ms} {te ta tb : TE} {P Pa Pb : PyData → Prop} {n : Nat} {dom : List PyData → Prop} {R : List PyData → PyData → Prop}
theorem spR_len {vs : List V} {H : Hp} {Q : VK} {E : XK} (h : spR K n dom R vs H Q E) : vs.length = n := h.1
theorem spB_len {vs : List V} {H : Hp} {Q : VK} {E : XK} (h : spB K n dom R vs H Q E) : vs.length = n + 1 := by
  obtain ⟨x, ws, rfl, e, _⟩ := h
  simp [e]
theorem ev_callR {t : TA} {Pl : List PyData → Prop} (ha : EaP K env b ms t Pl) (hd : ∀ ds, Pl ds → ds.length = n ∧ dom ds) : EvP K env b ms (tCall (spR K n dom R) [] E0 t) (fun d => ∃ ds, Pl ds ∧ R ds d) := fun σ G H e s j Q k =>
  ha σ G H e s j _ fun vs ds G1 H1 g1 j1 p1 q1 => by
    obtain ⟨h1, h2⟩ := hd ds q1
    rw [List.append_nil]
    exact ⟨by rw [dpa_len p1]; exact h1, ds, G1, g1.gh, p1, h2, fun v d G2 H2 g2 p2 r2 => k v d G2 H2 (g1.trans g2.no) (j1.grow g2) p2 ⟨ds, q1, r2⟩⟩
theorem ev_callF {t : TA} {ds : List PyData} {f : List PyData → PyData} (ha : EaP K env b ms t (Is ds)) (hl : ds.length = n) (hd : dom ds) : EvP K env b ms (tCall (spR K n dom fun l x => x = f l) [] E0 t) (Is (f ds)) :=
  ev_imp (ev_callR ha fun l e => by rw [e]; exact ⟨hl, hd⟩) fun d ⟨l, e, r⟩ => by rw [r, e]
theorem ev_callB {t : TA} {i : Nat} {x : Addr} {Pl : List PyData → Prop} (hi : env[i]? = some (.a x)) (hb : b = some x) (ha : EaP K env b ms t Pl) (hd : ∀ ds, Pl ds → ds.length = n ∧ dom ds) :
    EvP K env b ms (tCall (spB K n dom R) [] E0 (tCons (tVar i) t)) (fun d => ∃ ds, Pl ds ∧ R ds d) := fun σ G H e s j Q k =>
  ⟨.ref x, e.addr hi, ha σ G H e s j _ fun vs ds G1 H1 g1 j1 p1 q1 => by
    obtain ⟨h1, h2⟩ := hd ds q1
    rw [List.append_nil]
    refine ⟨x, vs, rfl, by rw [dpa_len p1]; exact h1, ds, G1, g1.gh, j1.bag x hb, p1, h2, fun v d G2 H2 g2 bg p2 r2 => ?_⟩
    have g2' : Grow (Mb b) G1 H1 G2 H2 := by rw [hb]; exact g2
    exact k v d G2 H2 (g1.trans g2') (j1.growB g2' fun y ey => by rw [hb] at ey; cases ey; exact bg) p2 ⟨ds, q1, r2⟩⟩
end
end Dl
set_option Elab.async false
set_option linter.all false
set_option maxRecDepth 100000
set_option maxHeartbeats 4000000
namespace Dl
open PySem L2

/-! ### walks, told by the data of their items -/
def IterD (K : PySem.W.Frag) (J : It) (l : List PyData) (G : Hp) : Prop :=
  ∃ (W : Hp → Prop) (Y : Nat → Hp → V → Hp → Prop), Walk J l.length W Y ∧ ∀ G1 H, Same G G1 → Same G1 H → W H ∧ ∀ i x H', i < l.length → Y i H x H' → ∃ G' d, Grow No G1 H G' H' ∧ l[i]? = some d ∧ Dp K G' x d
def EvI (K : PySem.W.Frag) (env : List Sl) (b : Option Addr) (ms : Ms) (wi : TI) (P : List PyData → Prop) : Prop :=
  ∀ (σ : L2.St) (G H : Hp), EnvOk K G σ env → Same G H → JB K b ms G H → ∀ R : It → Hp → Prop, (∀ J l G2 H2, Grow (Mb b) G H G2 H2 → JB K b ms G2 H2 → IterD K J l G2 → P l → R J H2) → wi σ H R
/-- a target: what the slots are behind it -/
def TgP (K : PySem.W.Frag) (g : TG) (vs : List Nat) (d : PyData) (f : List Sl → List Sl) : Prop :=
  ∀ (env : List Sl) (σ : L2.St) (G H : Hp) (v : V), EnvOk K G σ env → Same G H → Dp K G v d → ∀ Q : L2.St → Hp → Prop, (∀ σ', EnvOk K G σ' (f env) → wipe σ' vs = wipe σ vs → Q σ' H) → g v σ H Q
section
variable {K : PySem.W.Frag} {env : List Sl} {b : Option Addr} {ms : Ms} {te ta tb : TE} {P Pa Pb : PyData → Prop} {tt tu : TT} {Pt Pu : Bool → Prop}
theorem wipe_get {σ : L2.St} {j : Nat} : ∀ {vs : List Nat}, j ∈ vs → (wipe σ vs)[j]? = if j < σ.length then some none else none
  | v :: vs, h => by
    unfold wipe
    by_cases e : v = j
    · subst e
      by_cases hl : v < σ.length
      · rw [List.getElem?_set_self (by rw [wipe_length]; exact hl), if_pos hl]
      · rw [List.getElem?_eq_none (by rw [List.length_set, wipe_length]; omega), if_neg hl]
    · rw [List.getElem?_set_ne e]
      rcases List.mem_cons.mp h with z | z
      · exact absurd z.symm e
      · exact wipe_get z
theorem wipe_set {σ : L2.St} {vs : List Nat} {i : Nat} {s : Option V} (h : i ∈ vs) : wipe (σ.set i s) vs = wipe σ vs := by
  apply List.ext_getElem?
  intro j
  by_cases hj : j ∈ vs
  · rw [wipe_get hj, wipe_get hj, List.length_set]
  · rw [wipe_out hj, wipe_out hj, List.getElem?_set_ne (fun e => hj (by rw [← e]; exact h))]
theorem wipe_wipe {σ : L2.St} {vs : List Nat} : wipe (wipe σ vs) vs = wipe σ vs := by
  apply List.ext_getElem?
  intro j
  by_cases hj : j ∈ vs
  · rw [wipe_get hj, wipe_get hj, wipe_length]
  · rw [wipe_out hj, wipe_out hj]
theorem slot_d {G : Hp} {v : V} {x : PyData} (p : Dp K G v x) : SlotOk K G (some v) (.d x) := ⟨v, rfl, p⟩
theorem tg_name {i : Nat} {vs : List Nat} {d : PyData} (h : i ∈ vs) : TgP K (gName i) vs d (fun env => env.set i (.d d)) := fun env σ G H v e s p Q k =>
  k _ (e.set (slot_d p)) (wipe_set h)
theorem tg_pair {i j : Nat} {vs : List Nat} {x y : PyData} (hi : i ∈ vs) (hj : j ∈ vs) : TgP K (gTup K 2 (gCons (gName i) (gCons (gName j) gNil))) vs (.tuple [x, y]) (fun env => (env.set i (.d x)).set j (.d y)) := fun env σ G H v e s p Q k => by
  cases p with
  | tup sq da =>
    cases da with
    | cons p1 t =>
      cases t with
      | cons p2 t =>
        cases t
        exact ⟨_, _, rfl, sqt_mono s sq, rfl, _, _, rfl, _, _, rfl, rfl, k _ ((e.set (slot_d p1)).set (slot_d p2)) (by rw [wipe_set hj, wipe_set hi])⟩
theorem iter_list {a : Addr} {xs : List V} {l : List PyData} {G : Hp} (sq : SqL K G a xs) (da : DpAll K G xs l) : IterD K (Itl K a) l G :=
  ⟨_, _, by rw [← dpa_len da]; exact walk_list, fun G1 H s1 s2 => ⟨s2.seq (s1.seq sq), fun i x H' hi y => by
    obtain ⟨rfl, e⟩ := y
    obtain ⟨d, e1, e2⟩ := dpa_getV da e
    exact ⟨G1, d, Grow.refl s2, e1, dp_mono s1 _ _ e2⟩⟩⟩
theorem iter_tup {a : Addr} {xs : List V} {l : List PyData} {G : Hp} (sq : SqT K G a xs) (da : DpAll K G xs l) : IterD K (Itt K a) l G :=
  ⟨_, _, by rw [← dpa_len da]; exact walk_tup, fun G1 H s1 s2 => ⟨sqt_mono s2 (sqt_mono s1 sq), fun i x H' hi y => by
    obtain ⟨rfl, e⟩ := y
    obtain ⟨d, e1, e2⟩ := dpa_getV da e
    exact ⟨G1, d, Grow.refl s2, e1, dp_mono s1 _ _ e2⟩⟩⟩
def intL (n : Nat) : List PyData := (List.range n).map fun i => .int (i : Nat)
theorem intL_len (n : Nat) : (intL n).length = n := by simp [intL]
theorem intL_get {n i : Nat} (h : i < n) : (intL n)[i]? = some (.int (i : Nat)) := by simp [intL, h]
theorem iter_rng {n : Nat} {G : Hp} : IterD K (Itr 0 n) (intL n) G :=
  ⟨_, _, by rw [intL_len]; exact walk_range, fun G1 H s1 s2 => ⟨trivial, fun i x H' hi y => by
    obtain ⟨rfl, rfl⟩ := y
    rw [intL_len] at hi
    refine ⟨G1, .int (i : Nat), Grow.refl s2, intL_get hi, ?_⟩
    have e : (0 : Int) + (i : Nat) = (i : Nat) := Int.zero_add _
    show Dp K G1 (V.int (0 + (i : Nat))) _
    rw [e]
    exact .int _⟩⟩
theorem lay2 {G H : Hp} {T : Addr} {x y : V} {dx dy : PyData} (s : Same G H) (h : H T = none) (p1 : Dp K G x dx) (p2 : Dp K G y dy) : Grow No G H (upd G T (.tup [x, y])) (upd H T (.tup [x, y])) ∧ Dp K (upd G T (.tup [x, y])) (.ref T) (.tuple [dx, dy]) := by
  have g : Grow No G H (upd G T (.tup [x, y])) (upd H T (.tup [x, y])) := Grow.lay s h
  exact ⟨g, .tup (SqT.of upd_same) (.cons (dp_mono g.g _ _ p1) (.cons (dp_mono g.g _ _ p2) .nil))⟩
def pairs : List PyData → List PyData → List PyData
  | x :: xs, y :: ys => .tuple [x, y] :: pairs xs ys
  | _, _ => []
theorem pairs_len : ∀ (l m : List PyData), (pairs l m).length = min l.length m.length
  | [], _ => by simp [pairs]
  | _ :: _, [] => by simp [pairs]
  | x :: xs, y :: ys => by simp only [pairs, List.length_cons, pairs_len xs ys]; omega
theorem pairs_get : ∀ {l m : List PyData} {i : Nat} {x y : PyData}, l[i]? = some x → m[i]? = some y → (pairs l m)[i]? = some (.tuple [x, y])
  | [], _, i, _, _, h, _ => by simp at h
  | _ :: _, [], i, _, _, _, h => by simp at h
  | a :: l, c :: m, 0, x, y, h1, h2 => by simp at h1 h2; simp [pairs, h1, h2]
  | a :: l, c :: m, i + 1, x, y, h1, h2 => by
    simp only [pairs, List.getElem?_cons_succ] at *
    exact pairs_get h1 h2
theorem iter_zipT {a c : Addr} {xs ys : List V} {l m : List PyData} {G : Hp} (sx : SqT K G a xs) (dx : DpAll K G xs l) (sy : SqT K G c ys) (dy : DpAll K G ys m) : IterD K (RZ.ItzT K a c) (pairs l m) G := by
  have hl : (pairs l m).length = min xs.length ys.length := by rw [pairs_len, dpa_len dx, dpa_len dy]
  refine ⟨fun H => SqT K H a xs ∧ SqT K H c ys, YPair (fun i => xs[i]?) (fun i => ys[i]?), ⟨fun i H hi q => ?_, fun H q => ⟨xs, ys, q.1, q.2, by rw [hl]; omega⟩, fun i H v H' _ q y => ?_⟩, fun G1 H s1 s2 => ⟨⟨sqt_mono s2 (sqt_mono s1 sx), sqt_mono s2 (sqt_mono s1 sy)⟩, fun i v H' hi y => ?_⟩⟩
  · have h1 : i < xs.length := by omega
    have h2 : i < ys.length := by omega
    exact ⟨xs, ys, xs[i], ys[i], q.1, q.2, by simp [h1], by simp [h2]⟩
  · obtain ⟨T, x, z, h1, h2, h3, h4, h5⟩ := y
    exact ⟨T, x, z, h1, h2, h3, h4 xs q.1, h5 ys q.2⟩
  · obtain ⟨T, x, z, rfl, h2, rfl, h4, h5⟩ := y
    obtain ⟨d1, e1, p1⟩ := dpa_getV dx h4
    obtain ⟨d2, e2, p2⟩ := dpa_getV dy h5
    obtain ⟨g, p⟩ := lay2 s2 h2 (dp_mono s1 _ _ p1) (dp_mono s1 _ _ p2)
    exact ⟨_, _, g, pairs_get e1 e2, p⟩
theorem ei_list {l : List PyData} (h : EvP K env b ms te (Is (.list l))) : EvI K env b ms (iList K te) (Is l) := fun σ G H e s j R k => h σ G H e s j _ fun v d G1 H1 g1 j1 p1 q1 => by
  cases q1
  cases p1 with
  | lst sq da => exact ⟨_, rfl, ⟨_, g1.gh.seq sq⟩, k _ l G1 H1 g1 j1 (iter_list sq da) rfl⟩
theorem ei_listP {Pl : List PyData → Prop} (h : EvP K env b ms te (fun d => ∃ l, d = .list l ∧ Pl l)) : EvI K env b ms (iList K te) Pl := fun σ G H e s j R k => h σ G H e s j _ fun v d G1 H1 g1 j1 p1 ⟨l, q1, q2⟩ => by
  subst q1
  cases p1 with
  | lst sq da => exact ⟨_, rfl, ⟨_, g1.gh.seq sq⟩, k _ l G1 H1 g1 j1 (iter_list sq da) q2⟩
theorem ei_tup {l : List PyData} (h : EvP K env b ms te (Is (.tuple l))) : EvI K env b ms (iTup K te) (Is l) := fun σ G H e s j R k => h σ G H e s j _ fun v d G1 H1 g1 j1 p1 q1 => by
  cases q1
  cases p1 with
  | tup sq da => exact ⟨_, rfl, ⟨_, sqt_mono g1.gh sq⟩, k _ l G1 H1 g1 j1 (iter_tup sq da) rfl⟩
theorem ei_rng {ta : TA} {n : Nat} (h : EaP K env b ms ta (Is [.int (n : Nat)])) (hn : n < 2 ^ 60) : EvI K env b ms (iRng1 ta) (Is (intL n)) := fun σ G H e s j R k => h σ G H e s j _ fun vs ds G1 H1 g1 j1 p1 q1 => by
  cases q1
  cases p1 with
  | cons p q =>
    cases q; cases p
    refine ⟨(n : Nat), rfl, by omega, by omega, ?_⟩
    have e : ((n : Nat) : Int).toNat = n := by omega
    rw [e]
    exact k _ _ G1 H1 g1 j1 iter_rng rfl
theorem ei_zipT {ta : TA} {l m : List PyData} (h : EaP K env b ms ta (Is [.tuple l, .tuple m])) : EvI K env b ms (RZ.iZipA K ta) (Is (pairs l m)) := fun σ G H e s j R k => h σ G H e s j _ fun vs ds G1 H1 g1 j1 p1 q1 => by
  cases q1
  cases p1 with
  | cons p q =>
    cases q with
    | cons p' q' =>
      cases q'
      cases p with
      | tup sx dx =>
        cases p' with
        | tup sy dy => exact ⟨_, _, _, _, rfl, .inr ⟨sqt_mono g1.gh sx, sqt_mono g1.gh sy, k _ _ G1 H1 g1 j1 (iter_zipT sx dx sy dy) rfl⟩⟩

/-! ### comprehensions -/
inductive Lc (T : PyData → Bool → Prop) (E : PyData → PyData → Prop) : List PyData → List PyData → Prop
  | nil : Lc T E [] []
  | yes {l m : List PyData} {x y : PyData} : Lc T E l m → T x true → E x y → Lc T E (l ++ [x]) (m ++ [y])
  | no {l m : List PyData} {x : PyData} : Lc T E l m → T x false → Lc T E (l ++ [x]) m
theorem Lc.len {T : PyData → Bool → Prop} {E : PyData → PyData → Prop} {l m : List PyData} (h : Lc T E l m) : m.length ≤ l.length := by
  induction h with
  | nil => exact Nat.le_refl _
  | yes _ _ _ ih => simp; omega
  | no _ _ ih => simp; omega
/-- every item gives one -/
theorem Lc.all {E : PyData → PyData → Prop} {l m : List PyData} (h : Lc (fun _ c => c = true) E l m) : m.length = l.length ∧ ∀ (i : Nat) (x y : PyData), l[i]? = some x → m[i]? = some y → E x y := by
  induction h with
  | nil => exact ⟨rfl, fun i x y e => by simp at e⟩
  | @yes l m x y h1 h2 h3 ih =>
    refine ⟨by simp [ih.1], fun i a c ea ec => ?_⟩
    by_cases hi : i < l.length
    · rw [List.getElem?_append_left hi] at ea
      rw [List.getElem?_append_left (by rw [ih.1]; exact hi)] at ec
      exact ih.2 i a c ea ec
    · have hi2 : i = l.length := by
        have := (List.getElem?_eq_some_iff.mp ea).1
        simp at this; omega
      subst hi2
      rw [List.getElem?_append_right (Nat.le_refl _)] at ea
      rw [List.getElem?_append_right (by rw [ih.1]; exact Nat.le_refl _)] at ec
      simp at ea
      simp [ih.1] at ec
      subst ea ec
      exact h3
  | no _ h _ => cases h
/-- every item gives one, by a function -/
theorem Lc.map {f : PyData → PyData} {l m : List PyData} (h : Lc (fun _ c => c = true) (fun x y => y = f x) l m) : m = l.map f := by
  induction h with
  | nil => rfl
  | yes _ _ h3 ih => rw [List.map_append, ih, h3]; rfl
  | no _ h _ => cases h
theorem Lc.filterMap {t : PyData → Bool} {f : PyData → PyData} {l m : List PyData} (h : Lc (fun x c => c = t x) (fun x y => y = f x) l m) : m = (l.filter t).map f := by
  induction h with
  | nil => rfl
  | yes _ h2 h3 ih => rw [List.filter_append, List.map_append, ih, h3]; simp [← h2]
  | no _ h ih => rw [List.filter_append, List.map_append, ih]; simp [← h]
theorem Lc.imp {T T' : PyData → Bool → Prop} {E E' : PyData → PyData → Prop} {l m : List PyData} (h : Lc T E l m) (ht : ∀ x ∈ l, ∀ c, T x c → T' x c) (he : ∀ x ∈ l, ∀ y, E x y → E' x y) : Lc T' E' l m := by
  induction h with
  | nil => exact .nil
  | yes _ h2 h3 ih => exact .yes (ih (fun x hx => ht x (by simp [hx])) (fun x hx => he x (by simp [hx]))) (ht _ (by simp) _ h2) (he _ (by simp) _ h3)
  | no _ h ih => exact .no (ih (fun x hx => ht x (by simp [hx])) (fun x hx => he x (by simp [hx]))) (ht _ (by simp) _ h)
theorem en_lc {wi : TI} {g : TG} {vs : List Nat} {Pl : List PyData → Prop} {f : PyData → List Sl → List Sl} {T : PyData → Bool → Prop} {E : PyData → PyData → Prop}
    (hi : EvI K env b ms wi Pl) (hl : ∀ l, Pl l → l.length ≤ 1000) (hg : ∀ l, Pl l → ∀ x ∈ l, TgP K g vs x (f x))
    (ht : ∀ l, Pl l → ∀ x ∈ l, EtP K (f x (wipeE env vs)) b ms tt (T x)) (he : ∀ l, Pl l → ∀ x ∈ l, T x true → EvP K (f x (wipeE env vs)) b ms te (E x)) :
    EvN K env b ms (tLc wi g tt te vs) (fun m => ∃ l, Pl l ∧ Lc T E l m) := fun σ G H e s j Q k => hi σ G H e s j _ fun J l G1 H1 g1 j1 it q1 => by
  obtain ⟨W, Y, wk, hw⟩ := it
  intro D hD
  have hlen := hl l q1
  have hDb : ¬ Mb b D := fun z => by
    obtain ⟨_, _, _, _, _, _, e0, _⟩ := j1.bag D z
    rw [hD] at e0; cases e0
  refine lc_it wk (fun i H2 => ∃ (G2 : Hp) (acc : List V) (m : List PyData), Grow (Mb b) G1 H1 G2 H2 ∧ JB K b ms G2 H2 ∧ G2 D = none ∧ H2 D = some (.lst acc) ∧ DpAll K G2 acc m ∧ Lc T E (l.take i) m)
    ⟨G1, [], [], Grow.lay0 g1.gh hD, j1.grow (Grow.lay0 g1.gh hD), g1.gh.free hD, upd_same, .nil, by rw [List.take_zero]; exact .nil⟩ ?_ ?_ ?_
  · rintro i H2 _ ⟨G2, acc, m, g2, _⟩
    exact (hw G2 H2 g2.g g2.gh).1
  · rintro i x H2 H3 hi ⟨G2, acc, m, g2, j2, f2, hd2, da2, lc2⟩ y
    obtain ⟨G3, d, g3, hd, p3⟩ := (hw G2 H2 g2.g g2.gh).2 i x H3 hi y
    have mem : d ∈ l := List.mem_of_getElem? hd
    have j3 := j2.grow g3
    have e3 : EnvOk K G3 σ env := e.mono (g1.g.trans (g2.g.trans g3.g))
    have hd3 : H3 D = some (.lst acc) := g3.keep _ _ hd2 fun z => z
    have nf : ∀ {Ga Ha Gb Hb : Hp}, Ha D = some (.lst acc) → Ga D = none → Grow (Mb b) Ga Ha Gb Hb → Gb D = none ∧ Hb D = some (.lst acc) := fun {Ga Ha Gb Hb} h1 h2 gg => by
      refine ⟨?_, gg.keep _ _ h1 hDb⟩
      cases r : Gb D with
      | none => rfl
      | some o =>
        rcases gg.new _ o r with z | z
        · rw [h2] at z; cases z
        · rw [h1] at z; cases z
    have f3 := (nf hd2 f2 g3.no).1
    refine hg l q1 d mem (wipeE env vs) (wipe σ vs) G3 H3 x (e3.wipe vs) g3.gh p3 _ fun σ2 e4 ew => ?_
    refine ⟨by rw [ew, wipe_wipe], ?_⟩
    have tk : l.take (i + 1) = l.take i ++ [d] := by rw [List.take_add_one, hd]; rfl
    have acl : acc.length ≤ 1000 := by
      have h1 := dpa_len da2
      have h2 := lc2.len
      rw [List.length_take] at h2
      omega
    refine ht l q1 d mem σ2 G3 H3 e4 g3.gh j3 _ fun c G4 H4 g4 j4 q4 => ?_
    obtain ⟨f4, hd4⟩ := nf hd3 f3 g4
    cases c with
    | false =>
      show ∃ _, _
      exact ⟨G4, acc, m, (g2.trans g3.no).trans g4, j4, f4, hd4, dpa_mono (g3.g.trans g4.g) _ _ da2, by rw [tk]; exact .no lc2 q4⟩
    | true =>
      show te σ2 H4 _
      refine he l q1 d mem q4 σ2 G4 H4 (e4.mono g4.g) g4.gh j4 _ fun v y5 G5 H5 g5 j5 p5 q5 => ?_
      obtain ⟨f5, hd5⟩ := nf hd4 f4 g5
      refine ⟨acc, hd5, Nat.lt_of_le_of_lt acl (by decide), G5, acc ++ [v], m ++ [y5], ?_, ?_, f5, upd_same, dpa_app (dpa_mono (g3.g.trans (g4.g.trans g5.g)) _ _ da2) (.cons p5 .nil), by rw [tk]; exact .yes lc2 q4 q5⟩
      · have gg := ((g2.trans g3.no).trans g4).trans g5
        refine ⟨gg.g, fun c o z => ?_, fun c z => ?_, fun c o z m => ?_, gg.new⟩
        · by_cases q : c = D
          · subst q; rw [f5] at z; cases z
          · rw [upd_ne q]; exact gg.gh c o z
        · by_cases q : c = D
          · subst q; rw [upd_same] at z; cases z
          · rw [upd_ne q] at z; exact gg.dom c z
        · by_cases q : c = D
          · subst q; rw [hD] at z; cases z
          · rw [upd_ne q]; exact gg.keep c o z m
      · refine ⟨fun c z => ?_, fun p hp => ?_⟩
        · obtain ⟨b1, z0, z1, z2, lb, cs, b2, b3⟩ := j5.bag c z
          exact ⟨b1, z0, z1, z2, lb, cs, by rw [upd_ne (show c ≠ D from fun q => hDb (by rw [← q]; exact z))]; exact b2, b3⟩
        · obtain ⟨m1, m2, xs, m3, m4⟩ := j5.mu p hp
          obtain ⟨_, _, _, m5, _⟩ := j1.mu p hp
          exact ⟨m1, m2, xs, by rw [upd_ne (ne_of_none m5 hD)]; exact m3, m4⟩
  · rintro H2 ⟨G2, acc, m, g2, j2, f2, hd2, da2, lc2⟩
    rw [List.take_length] at lc2
    exact k D acc m G2 H2 (g1.trans g2) j2 (g1.dom _ hD) f2 hd2 da2 ⟨l, q1, lc2⟩
theorem et_yes : EtP K env b ms tYes (Is true) := fun σ G H e s j Q k => k true G H (Grow.refl s) j rfl
end

/-! ### statements -/
structure At (K : PySem.W.Frag) (env : List Sl) (b : Option Addr) (ms : Ms) (G0 H0 Gs : Hp) (σ : L2.St) (G H : Hp) : Prop where
  env : EnvOk K G σ env
  gr : Grow (Mb b) G0 H0 G H
  sg : Same Gs G
  j : JB K b ms G H
  own : ∀ p ∈ ms, H0 p.1 = none
  nd : (ms.map (·.1)).Nodup
section
variable {K : PySem.W.Frag} {env : List Sl} {b : Option Addr} {ms : Ms} {G0 H0 Gs G H : Hp} {σ : L2.St} {te ta tb : TE} {P Pa Pb : PyData → Prop} {tt : TT} {Pt : Bool → Prop} {D : Ends} {tu tw tz : TS}
theorem At.step {G2 H2 : Hp} (A : At K env b ms G0 H0 Gs σ G H) (g : Grow (Mb b) G H G2 H2) (j : JB K b ms G2 H2) : At K env b ms G0 H0 Gs σ G2 H2 := ⟨A.env.mono g.g, A.gr.trans g, A.sg.trans g.g, j, A.own, A.nd⟩
theorem At.put {i : Nat} {v : V} {e : Sl} (A : At K env b ms G0 H0 Gs σ G H) (r : SlotOk K G (some v) e) : At K (env.set i e) b ms G0 H0 Gs (σ.set i (some v)) G H := ⟨A.env.set r, A.gr, A.sg, A.j, A.own, A.nd⟩
theorem s_asg {i : Nat} (A : At K env b ms G0 H0 Gs σ G H) (h : EvP K env b ms te P) (k : ∀ d σ' G' H', P d → At K (env.set i (.d d)) b ms G0 H0 Gs σ' G' H' → D.nx σ' H') : tAsg te (gName i) D σ H :=
  h σ G H A.env A.gr.gh A.j _ fun v d G2 H2 g j p q => k d _ G2 H2 q ((A.step g j).put (slot_d p))
theorem q_asg {i : Nat} (A : At K env b ms G0 H0 Gs σ G H) (h : EvP K env b ms te P) (k : ∀ d σ' G' H', P d → At K (env.set i (.d d)) b ms G0 H0 Gs σ' G' H' → tz D σ' H') : tSeq (tAsg te (gName i)) tz D σ H :=
  s_asg (D := { D with nx := tz D }) A h k
/-- x = a new list that will change -/
theorem q_asgM {i : Nat} {Pl : List PyData → Prop} (A : At K env b ms G0 H0 Gs σ G H) (h : EvN K env b ms te Pl) (k : ∀ l ds σ' G' H', Pl ds → b ≠ some l → At K (env.set i (.a l)) b ((l, ds.map .d) :: ms) G0 H0 Gs σ' G' H' → tz D σ' H') : tSeq (tAsg te (gName i)) tz D σ H :=
  h σ G H A.env A.gr.gh A.j _ fun l xs ds G2 H2 g j n f hl da q => by
    have nb : b ≠ some l := fun z => by
      obtain ⟨_, _, _, _, _, _, e0, _⟩ := A.j.bag l z
      rw [n] at e0; cases e0
    have A2 := A.step g j
    refine k l ds _ G2 H2 q nb ⟨A2.env.set rfl, A2.gr, A2.sg, ⟨j.bag, fun p hp => ?_⟩, fun p hp => ?_, ?_⟩
    · rcases List.mem_cons.mp hp with rfl | hp
      · refine ⟨f, nb, xs, hl, by simp [dpa_len da], fun i e he => ?_⟩
        rw [List.getElem?_map] at he
        cases q : ds[i]? with
        | none => rw [q] at he; cases he
        | some d =>
          rw [q] at he; cases he
          obtain ⟨v, e1, e2⟩ := dpa_get da q
          exact ⟨some v, by rw [List.getElem?_map, e1]; rfl, v, rfl, e2⟩
      · exact j.mu p hp
    · rcases List.mem_cons.mp hp with rfl | hp
      · exact A.gr.dom _ n
      · exact A.own p hp
    · rw [List.map_cons, List.nodup_cons]
      refine ⟨fun hm => ?_, A.nd⟩
      obtain ⟨p, hp, e⟩ := List.mem_map.mp hm
      obtain ⟨_, _, _, m, _⟩ := A.j.mu p hp
      rw [e, n] at m; cases m
theorem s_if (A : At K env b ms G0 H0 Gs σ G H) (h : EtP K env b ms tt Pt) (h1 : Pt true → ∀ G' H', At K env b ms G0 H0 Gs σ G' H' → tu D σ H') (h2 : Pt false → ∀ G' H', At K env b ms G0 H0 Gs σ G' H' → tw D σ H') : tIfS tt tu tw D σ H :=
  h σ G H A.env A.gr.gh A.j _ fun c G2 H2 g j q => by
    cases c with
    | true => exact h1 q G2 H2 (A.step g j)
    | false => exact h2 q G2 H2 (A.step g j)
theorem q_if (A : At K env b ms G0 H0 Gs σ G H) (h : EtP K env b ms tt Pt) (h1 : Pt true → ∀ G' H', At K env b ms G0 H0 Gs σ G' H' → tu { D with nx := tz D } σ H') (h2 : Pt false → ∀ G' H', At K env b ms G0 H0 Gs σ G' H' → tw { D with nx := tz D } σ H') : tSeq (tIfS tt tu tw) tz D σ H :=
  s_if (D := { D with nx := tz D }) A h h1 h2
/-- if t: .. (that returns or raises, or goes on) -/
theorem q_when (A : At K env b ms G0 H0 Gs σ G H) (h : EtP K env b ms tt Pt) (h1 : Pt true → ∀ G' H', At K env b ms G0 H0 Gs σ G' H' → tu { D with nx := tz D } σ H') (h2 : Pt false → ∀ G' H', At K env b ms G0 H0 Gs σ G' H' → tz D σ H') : tSeq (tIfS tt tu tNext) tz D σ H :=
  s_if (D := { D with nx := tz D }) A h h1 h2
theorem s_ret (A : At K env b ms G0 H0 Gs σ G H) (h : EvP K env b ms te P) (k : ∀ v d G' H', Grow (Mb b) G0 H0 G' H' → JB K b ms G' H' → Dp K G' v d → P d → D.rt v H') : tRet te D σ H :=
  h σ G H A.env A.gr.gh A.j _ fun v d G2 H2 g j p q => k v d G2 H2 (A.gr.trans g) j p q
/-- x, y = .., .. -/
theorem q_par {i l : Nat} {t : TA} {Pl : List PyData → Prop} (A : At K env b ms G0 H0 Gs σ G H) (h : EaP K env b ms t Pl) (h2 : ∀ ds, Pl ds → ∃ x y, ds = [x, y]) (k : ∀ x y σ' G' H', Pl [x, y] → At K ((env.set i (.d x)).set l (.d y)) b ms G0 H0 Gs σ' G' H' → tz D σ' H') : tSeq (tPar i l t) tz D σ H :=
  h σ G H A.env A.gr.gh A.j _ fun vs ds G2 H2 g j p q => by
    obtain ⟨x, y, rfl⟩ := h2 ds q
    cases p with
    | cons p1 t =>
      cases t with
      | cons p2 t =>
        cases t
        exact ⟨_, _, rfl, k x y _ G2 H2 q (((A.step g j).put (slot_d p1)).put (slot_d p2))⟩
theorem q_par3 {i l m : Nat} {t : TA} {Pl : List PyData → Prop} (A : At K env b ms G0 H0 Gs σ G H) (h : EaP K env b ms t Pl) (h2 : ∀ ds, Pl ds → ∃ x y z, ds = [x, y, z]) (k : ∀ x y z σ' G' H', Pl [x, y, z] → At K (((env.set i (.d x)).set l (.d y)).set m (.d z)) b ms G0 H0 Gs σ' G' H' → tz D σ' H') : tSeq (tPar3 i l m t) tz D σ H :=
  h σ G H A.env A.gr.gh A.j _ fun vs ds G2 H2 g j p q => by
    obtain ⟨x, y, z, rfl⟩ := h2 ds q
    cases p with
    | cons p1 t =>
      cases t with
      | cons p2 t =>
        cases t with
        | cons p3 t =>
          cases t
          exact ⟨_, _, _, rfl, k x y z _ G2 H2 q ((((A.step g j).put (slot_d p1)).put (slot_d p2)).put (slot_d p3))⟩
/-- (x, y) = a tuple of two, in hand -/
theorem q_unp {i l : Nat} (A : At K env b ms G0 H0 Gs σ G H) (h : EvP K env b ms te P) (h2 : ∀ d, P d → ∃ x y, d = .tuple [x, y]) (k : ∀ x y σ' G' H', P (.tuple [x, y]) → At K ((env.set i (.d x)).set l (.d y)) b ms G0 H0 Gs σ' G' H' → tz D σ' H') : tSeq (tAsg te (gTup K 2 (gCons (gName i) (gCons (gName l) gNil)))) tz D σ H :=
  h σ G H A.env A.gr.gh A.j _ fun v d G2 H2 g j p q => by
    obtain ⟨x, y, rfl⟩ := h2 d q
    cases p with
    | tup sq da =>
      cases da with
      | cons p1 t =>
        cases t with
        | cons p2 t =>
          cases t
          exact ⟨_, _, rfl, sqt_mono g.gh sq, rfl, _, _, rfl, _, _, rfl, rfl, k x y _ G2 H2 q (((A.step g j).put (slot_d p1)).put (slot_d p2))⟩
/-- a list of ours is written -/
theorem At.write {n : Nat} {l : Addr} {es es' : List Sl} {xs' : List V} (A : At K env b ms G0 H0 Gs σ G H) (hm : ms[n]? = some (l, es)) (e : EnvOk K G (xs'.map some) es') : At K env b (ms.set n (l, es')) G0 H0 Gs σ G (upd H l (.lst xs')) := by
  have mem : (l, es) ∈ ms := List.mem_of_getElem? hm
  obtain ⟨gl, nb, xs, hl, _⟩ := A.j.mu _ mem
  have hn : n < ms.length := (List.getElem?_eq_some_iff.mp hm).1
  have fst : (ms.set n (l, es')).map (·.1) = ms.map (·.1) := by
    rw [List.map_set]
    apply List.ext_getElem?
    intro i
    by_cases hi : n = i
    · subst hi
      rw [List.getElem?_set_self (by simpa using hn), List.getElem?_map, hm]; rfl
    · rw [List.getElem?_set_ne hi]
  have inm : ∀ p ∈ ms.set n (l, es'), p.1 ∈ ms.map (·.1) := fun p hp => by
    rw [← fst]
    exact List.mem_map.mpr ⟨p, hp, rfl⟩
  refine ⟨A.env, ⟨A.gr.g, fun c o z => ?_, fun c z => ?_, fun c o z m => ?_, A.gr.new⟩, A.sg, ⟨fun x ex => ?_, fun p hp => ?_⟩, fun p hp => ?_, by rw [fst]; exact A.nd⟩
  · by_cases q : c = l
    · subst q
      rw [gl] at z; cases z
    · rw [upd_ne q]; exact A.gr.gh c o z
  · by_cases q : c = l
    · subst q; rw [upd_same] at z; cases z
    · rw [upd_ne q] at z; exact A.gr.dom c z
  · by_cases q : c = l
    · subst q
      have z2 := A.own _ mem
      rw [z] at z2; cases z2
    · rw [upd_ne q]; exact A.gr.keep c o z m
  · obtain ⟨b1, z0, z1, z2, lb, cs, b2, b3⟩ := A.j.bag x ex
    exact ⟨b1, z0, z1, z2, lb, cs, by rw [upd_ne (show x ≠ l from fun q => nb (by rw [← q]; exact ex))]; exact b2, b3⟩
  · obtain ⟨i, hi⟩ := List.mem_iff_getElem?.mp hp
    by_cases q : n = i
    · subst q
      rw [List.getElem?_set_self hn] at hi
      cases hi
      exact ⟨gl, nb, xs', upd_same, e⟩
    · rw [List.getElem?_set_ne q] at hi
      have hp2 : p ∈ ms := List.mem_of_getElem? hi
      obtain ⟨m1, m2, ys, m3, m4⟩ := A.j.mu p hp2
      refine ⟨m1, m2, ys, ?_, m4⟩
      rw [upd_ne]
      · exact m3
      · intro ee
        have h1 : (ms.map (·.1))[i]? = some l := by rw [List.getElem?_map, hi]; exact congrArg some ee
        have h2 : (ms.map (·.1))[n]? = some l := by rw [List.getElem?_map, hm]; rfl
        obtain ⟨k1, k2⟩ := List.getElem?_eq_some_iff.mp h1
        obtain ⟨k3, k4⟩ := List.getElem?_eq_some_iff.mp h2
        exact q ((List.getElem_inj A.nd).mp (k4.trans k2.symm))
  · obtain ⟨p2, hp2, e2⟩ := List.mem_map.mp (inm p hp)
    rw [← e2]
    exact A.own p2 hp2
theorem env_app {σ τ : L2.St} {e f : List Sl} (h1 : EnvOk K G σ e) (h2 : EnvOk K G τ f) : EnvOk K G (σ ++ τ) (e ++ f) := ⟨by simp [h1.1, h2.1], fun i x hx => by
  by_cases hi : i < e.length
  · rw [List.getElem?_append_left hi] at hx
    rw [List.getElem?_append_left (by rw [h1.1]; exact hi)]
    exact h1.2 i x hx
  · rw [List.getElem?_append_right (by omega)] at hx
    rw [List.getElem?_append_right (by rw [h1.1]; omega), h1.1]
    exact h2.2 _ x hx⟩
theorem env_take {σ : L2.St} {e : List Sl} (n : Nat) (h : EnvOk K G σ e) : EnvOk K G (σ.take n) (e.take n) := ⟨by simp [h.1], fun i x hx => by
  rw [List.getElem?_take] at hx ⊢
  by_cases hi : i < n
  · rw [if_pos hi] at hx ⊢; exact h.2 i x hx
  · rw [if_neg hi] at hx; cases hx⟩
theorem env_drop {σ : L2.St} {e : List Sl} (n : Nat) (h : EnvOk K G σ e) : EnvOk K G (σ.drop n) (e.drop n) := ⟨by simp [h.1], fun i x hx => by
  rw [List.getElem?_drop] at hx ⊢
  exact h.2 _ x hx⟩
theorem env_data {xs : List V} {ds : List PyData} (da : DpAll K G xs ds) : EnvOk K G (xs.map some) (ds.map .d) := ⟨by simp [dpa_len da], fun i e he => by
  rw [List.getElem?_map] at he
  cases q : ds[i]? with
  | none => rw [q] at he; cases he
  | some d =>
    rw [q] at he; cases he
    obtain ⟨v, e1, e2⟩ := dpa_get da q
    exact ⟨some v, by rw [List.getElem?_map, e1]; rfl, v, rfl, e2⟩⟩
theorem tyL {l : Addr} {xs : List V} (h : H l = some (.lst xs)) : tyV K "list" (.ref l) H := .inl ⟨rfl, xs, SqL.of h⟩
/-- l.append(e) -/
theorem s_app {i n : Nat} {l : Addr} {es : List Sl} (A : At K env b ms G0 H0 Gs σ G H) (hi : env[i]? = some (.a l)) (hm : ms[n]? = some (l, es)) (h : EvP K env b ms te P) (hz : es.length ≤ 2000)
    (k : ∀ d G' H', P d → At K env b (ms.set n (l, es ++ [.d d])) G0 H0 Gs σ G' H' → D.nx σ H') : tDrop (tBM K "list" rAppend (tVar i) (tCons te tNil)) D σ H := by
  obtain ⟨gl, nb, xs, hl, el⟩ := A.j.mu _ (List.mem_of_getElem? hm)
  refine ⟨.ref l, A.env.addr hi, tyL hl, h σ G H A.env A.gr.gh A.j _ fun v d G2 H2 g j p q => ?_⟩
  have hl2 : H2 l = some (.lst xs) := g.keep _ _ hl nb
  have xl : xs.length = es.length := by have := el.1; simpa using this
  refine ⟨l, xs, v, rfl, rfl, hl2, Nat.lt_of_le_of_lt (by rw [xl]; exact hz) (by decide), ?_⟩
  refine k d G2 _ q ((A.step g j).write hm ?_)
  rw [List.map_append]
  exact env_app (el.mono g.g) (.cons (slot_d p) .nil)
theorem q_app {i n : Nat} {l : Addr} {es : List Sl} (A : At K env b ms G0 H0 Gs σ G H) (hi : env[i]? = some (.a l)) (hm : ms[n]? = some (l, es)) (h : EvP K env b ms te P) (hz : es.length ≤ 2000)
    (k : ∀ d G' H', P d → At K env b (ms.set n (l, es ++ [.d d])) G0 H0 Gs σ G' H' → tz D σ H') : tSeq (tDrop (tBM K "list" rAppend (tVar i) (tCons te tNil))) tz D σ H := s_app (D := { D with nx := tz D }) A hi hm h hz k
/-- l.extend(a new list) -/
theorem s_ext {i n : Nat} {l : Addr} {es : List Sl} {Pl : List PyData → Prop} (A : At K env b ms G0 H0 Gs σ G H) (hi : env[i]? = some (.a l)) (hm : ms[n]? = some (l, es)) (h : EvN K env b ms te Pl) (hz : es.length ≤ 2000) (hz2 : ∀ ds, Pl ds → ds.length ≤ 2000)
    (k : ∀ ds G' H', Pl ds → At K env b (ms.set n (l, es ++ ds.map .d)) G0 H0 Gs σ G' H' → D.nx σ H') : tDrop (tBM K "list" rExtend (tVar i) (tCons te tNil)) D σ H := by
  obtain ⟨gl, nb, xs, hl, el⟩ := A.j.mu _ (List.mem_of_getElem? hm)
  refine ⟨.ref l, A.env.addr hi, tyL hl, h σ G H A.env A.gr.gh A.j _ fun p ys ds G2 H2 g j nn f hp da q => ?_⟩
  have hl2 : H2 l = some (.lst xs) := g.keep _ _ hl nb
  have xl : xs.length = es.length := by have := el.1; simpa using this
  refine ⟨l, p, xs, ys, rfl, rfl, hl2, hp, Nat.le_trans (Nat.add_le_add (by rw [xl]; exact hz) (by rw [dpa_len da]; exact hz2 _ q)) (by decide), ?_⟩
  refine k ds G2 _ q ((A.step g j).write hm ?_)
  rw [List.map_append]
  exact env_app (el.mono g.g) (env_data da)
theorem q_ext {i n : Nat} {l : Addr} {es : List Sl} {Pl : List PyData → Prop} (A : At K env b ms G0 H0 Gs σ G H) (hi : env[i]? = some (.a l)) (hm : ms[n]? = some (l, es)) (h : EvN K env b ms te Pl) (hz : es.length ≤ 2000) (hz2 : ∀ ds, Pl ds → ds.length ≤ 2000)
    (k : ∀ ds G' H', Pl ds → At K env b (ms.set n (l, es ++ ds.map .d)) G0 H0 Gs σ G' H' → tz D σ H') : tSeq (tDrop (tBM K "list" rExtend (tVar i) (tCons te tNil))) tz D σ H := s_ext (D := { D with nx := tz D }) A hi hm h hz hz2 k
abbrev rIns : V → List V → Hp → VK → Prop := fun x vs H Q => ∃ (l : Addr) (xs : List V) (i : Int) (y : V), x = .ref l ∧ vs = [.int i, y] ∧ H l = some (.lst xs) ∧ xs.length < sizeLine ∧ 0 ≤ i ∧ i < 2 ^ 63 ∧ Q .non (upd H l (.lst (xs.take i.toNat ++ [y] ++ xs.drop i.toNat)))
/-- l.insert(i, e) -/
theorem s_ins {i n : Nat} {l : Addr} {es : List Sl} {C : Int → Prop} (A : At K env b ms G0 H0 Gs σ G H) (hi : env[i]? = some (.a l)) (hm : ms[n]? = some (l, es)) (ha : EvP K env b ms ta (fun d => ∃ z, d = .int z ∧ C z)) (hC : ∀ z, C z → 0 ≤ z ∧ z < 2 ^ 63) (h : EvP K env b ms te P) (hz : es.length ≤ 2000)
    (k : ∀ z d G' H', C z → P d → At K env b (ms.set n (l, es.take z.toNat ++ [.d d] ++ es.drop z.toNat)) G0 H0 Gs σ G' H' → D.nx σ H') : tDrop (tBM K "list" rIns (tVar i) (tCons ta (tCons te tNil))) D σ H := by
  obtain ⟨gl, nb, xs, hl, el⟩ := A.j.mu _ (List.mem_of_getElem? hm)
  refine ⟨.ref l, A.env.addr hi, tyL hl, ha σ G H A.env A.gr.gh A.j _ fun v d G1 H1 g1 j1 p1 q1 => ?_⟩
  obtain ⟨z, rfl, c⟩ := q1
  cases p1
  refine h σ G1 H1 (A.env.mono g1.g) g1.gh j1 _ fun v d G2 H2 g2 j2 p q => ?_
  have g := g1.trans g2
  have hl2 : H2 l = some (.lst xs) := g.keep _ _ hl nb
  have xl : xs.length = es.length := by have := el.1; simpa using this
  obtain ⟨c0, c1⟩ := hC z c
  refine ⟨l, xs, z, v, rfl, rfl, hl2, Nat.lt_of_le_of_lt (by rw [xl]; exact hz) (by decide), c0, c1, ?_⟩
  refine k z d G2 _ c q ((A.step g j2).write hm ?_)
  rw [List.map_append, List.map_append, List.map_take, List.map_drop]
  exact env_app (env_app (env_take _ (el.mono g.g)) (.cons (slot_d p) .nil)) (env_drop _ (el.mono g.g))
theorem At.since {Gt : Hp} (A : At K env b ms G0 H0 Gs σ G H) (s : Same Gt G) : At K env b ms G0 H0 Gt σ G H := ⟨A.env, A.gr, s, A.j, A.own, A.nd⟩
/-- for target in walk: the word Pv by the turn -/
theorem s_for {wi : TI} {g : TG} {Pl : List PyData → Prop} {f : PyData → List Sl → List Sl} {vs : List Nat} (A : At K env b ms G0 H0 Gs σ G H) (hi : EvI K env b ms wi Pl) (hg : ∀ l, Pl l → ∀ x ∈ l, TgP K g vs x (f x))
    (Pv : List PyData → Nat → List Sl → Ms → Prop) (h0 : ∀ l, Pl l → Pv l 0 env ms)
    (hs : ∀ l i x env' ms' Gt σ' G' H', Pl l → l[i]? = some x → Pv l i env' ms' → At K (f x env') b ms' G0 H0 Gt σ' G' H' →
      ∀ nx : L2.St → Hp → Prop, (∀ env2 ms2 σ2 G2 H2, Pv l (i + 1) env2 ms2 → At K env2 b ms2 G0 H0 Gt σ2 G2 H2 → nx σ2 H2) → tu { D with nx := nx, ct := nx, bk := D.nx } σ' H')
    (hd : ∀ l env' ms' σ' G' H', Pl l → Pv l l.length env' ms' → At K env' b ms' G0 H0 Gs σ' G' H' → D.nx σ' H') : tFor wi g tu D σ H :=
  hi σ G H A.env A.gr.gh A.j _ fun J l G1 H1 g1 j1 it q1 => by
    obtain ⟨W, Y, wk, hw⟩ := it
    have A1 := A.step g1 j1
    refine for_it wk (fun i σ2 H2 => ∃ env2 ms2 G2, Pv l i env2 ms2 ∧ At K env2 b ms2 G0 H0 G1 σ2 G2 H2) ⟨env, ms, G1, h0 l q1, A1.since (Same.refl _)⟩ ?_ ?_ ?_
    · rintro i σ2 H2 _ ⟨env2, ms2, G2, _, A2⟩
      exact (hw G2 H2 A2.sg A2.gr.gh).1
    · rintro i x σ2 H2 H3 hlt ⟨env2, ms2, G2, p2, A2⟩ y
      obtain ⟨G3, d, g3, hd3, p3⟩ := (hw G2 H2 A2.sg A2.gr.gh).2 i x H3 hlt y
      have A3 := A2.step g3.no (A2.j.grow g3)
      refine hg l q1 d (List.mem_of_getElem? hd3) env2 σ2 G3 H3 x A3.env g3.gh p3 _ fun σ4 e4 _ => ?_
      exact hs l i d env2 ms2 G1 σ4 G3 H3 q1 hd3 p2 ⟨e4, A3.gr, A3.sg, A3.j, A3.own, A3.nd⟩ _ fun env5 ms5 σ5 G5 H5 p5 A5 => ⟨env5, ms5, G5, p5, A5⟩
    · rintro σ2 H2 ⟨env2, ms2, G2, p2, A2⟩
      exact hd l env2 ms2 σ2 G2 H2 q1 p2 (A2.since (A1.sg.trans A2.sg))
theorem q_for {wi : TI} {g : TG} {Pl : List PyData → Prop} {f : PyData → List Sl → List Sl} {vs : List Nat} (A : At K env b ms G0 H0 Gs σ G H) (hi : EvI K env b ms wi Pl) (hg : ∀ l, Pl l → ∀ x ∈ l, TgP K g vs x (f x))
    (Pv : List PyData → Nat → List Sl → Ms → Prop) (h0 : ∀ l, Pl l → Pv l 0 env ms)
    (hs : ∀ l i x env' ms' Gt σ' G' H', Pl l → l[i]? = some x → Pv l i env' ms' → At K (f x env') b ms' G0 H0 Gt σ' G' H' →
      ∀ nx : L2.St → Hp → Prop, (∀ env2 ms2 σ2 G2 H2, Pv l (i + 1) env2 ms2 → At K env2 b ms2 G0 H0 Gt σ2 G2 H2 → nx σ2 H2) → tu { D with nx := nx, ct := nx, bk := tz D } σ' H')
    (hd : ∀ l env' ms' σ' G' H', Pl l → Pv l l.length env' ms' → At K env' b ms' G0 H0 Gs σ' G' H' → tz D σ' H') : tSeq (tFor wi g tu) tz D σ H := s_for (D := { D with nx := tz D }) A hi hg Pv h0 hs hd
/-- return of a list of ours: from now on it is still -/
theorem s_retM {i n : Nat} {l : Addr} {ds : List PyData} (A : At K env b ms G0 H0 Gs σ G H) (hi : env[i]? = some (.a l)) (hm : ms[n]? = some (l, ds.map .d)) (k : ∀ v G' H', Grow (Mb b) G0 H0 G' H' → (∀ x, b = some x → BagAt K x G' H') → Dp K G' v (.list ds) → D.rt v H') : tRet (tVar i) D σ H := by
  have mem := List.mem_of_getElem? hm
  obtain ⟨gl, nb, xs, hl, el⟩ := A.j.mu _ mem
  refine ⟨.ref l, A.env.addr hi, k _ (upd G l (.lst xs)) H (A.gr.still hl (A.own _ mem) gl) (fun x ex => ?_) (.lst (SqL.of upd_same) ?_)⟩
  · obtain ⟨b1, z0, z1, z2, lb, cs, b2, b3, b4⟩ := A.j.bag x ex
    have up : Same G (upd G l (.lst xs)) := fun c o z => by rw [upd_ne (ne_of_none z gl)]; exact z
    exact ⟨by rw [upd_ne (show x ≠ l from fun q => nb (by rw [← q]; exact ex))]; exact b1, z0, z1, z2, lb, cs, b2, up.seq b3, b4⟩
  · have up : Same G (upd G l (.lst xs)) := fun c o z => by rw [upd_ne (ne_of_none z gl)]; exact z
    have go : ∀ (ds : List PyData) (xs : List V), EnvOk K G (xs.map some) (ds.map .d) → DpAll K G xs ds := by
      intro ds
      induction ds with
      | nil => intro xs h; cases xs with
        | nil => exact .nil
        | cons x xs => have := h.1; simp at this
      | cons d ds ih => intro xs h; cases xs with
        | nil => have := h.1; simp at this
        | cons x xs =>
          obtain ⟨s, e1, v, e2, e3⟩ := h.2 0 (.d d) rfl
          have e4 : x = v := by simp at e1; rw [e2] at e1; exact Option.some.inj e1
          subst e4
          exact .cons e3 (ih xs ⟨by have := h.1; simpa using this, fun i e he => by
            obtain ⟨s, f1, f2⟩ := h.2 (i + 1) e (by simpa using he)
            exact ⟨s, by simpa using f1, f2⟩⟩)
    exact dpa_mono up _ _ (go ds xs el)
end
end Dl
set_option Elab.async false
set_option linter.all false
set_option maxRecDepth 100000
set_option maxHeartbeats 4000000
namespace Dl
open PySem PySem.Spec PyProof.Rows L2

/-- a def's promise at one place of the stack -/
structure FnAt (A : Around) (P : Program) (w : World) (K : PySem.W.Frag) (mg : Str → Option Value) (base : Heap) (f : Addr) (fd : FuncData) (ps : List Str) (sp : Sp) : Prop where
  len : ∀ vs H Q E, sp vs H Q E → vs.length = ps.length
  run : ∀ (outer : List Env) (s : Shared) (H : Hp) (args : Args) (us : List Value) (vs : List V) (Q : VK) (E : XK), Env0 P w K mg base A outer s H →
    BindsTo s fd args (ps.zip us) → Vals vs us → sp vs H Q E → codeAny (model P w) A (.call (.ref f) args) (CR CX0 outer P w H s Q E) s
theorem fn_at {A : Around} {P : Program} {w : World} {K : PySem.W.Frag} {mg : Str → Option Value} {base : Heap} {k : Nat} {x qual : Str} {st : Stmt} {f : Addr} {fd : FuncData} {N ps : List Str} {sp : Sp}
    (F : Fun K x qual st f fd) (S : FnScope N ps (defScope st)) (ln : ∀ vs H Q E, sp vs H Q E → vs.length = ps.length) (hr : Room (k + 1) A)
    (hb : ∀ (cdv : Value) (outer : List Env) (s : Shared) (H : Hp) (vs : List V) (Q : VK) (E : XK), Room k (A.deeper (envOfC qual (defScope st) s.heap.objs.size f cdv)) → sp vs H Q E →
      ∃ t, PSs (cxOf CX0 P w K mg base N qual (defScope st) f cdv A outer s H E).nox (defBody st) t ∧ t { nx := fun _ H' => Q .non H', rt := Q } (start N vs) H) :
    FnAt A P w K mg base f fd ps sp := by
  obtain ⟨oc, od, kV, doc, pm, an, cdv, ct, osl, rfl, lk, hcd⟩ := F.ex
  refine ⟨ln, fun outer s H args us vs Q E e0 bnd r hsp => ?_⟩
  have lv := ln _ _ _ _ hsp
  have keeps : ∀ b o, base.get? b = some o → s.heap.get? b = some o :=
    fun b o e => (e0.bs b o e).1
  have KX : K.In s.heap := e0.mod.kin.keeps keeps
  have kinds : ∀ y ∈ ps.zip us, (defScope st).names.lookup y.1 = some .local ∨
      ((defScope st).names.lookup y.1 = some .cell ∧ ((cellsFrom (s.heap.objs.size + 1) (defScope st).names []).lookup y.1).isSome = true) := by
    rintro ⟨n, v⟩ hy
    rcases S.par n (List.of_mem_zip hy).1 with q | q
    · exact Or.inl q
    · exact Or.inr ⟨q, PySem.W.cellsFrom_some _ _ _ (Or.inl q)⟩
  refine codeAny_call_function hr.depth (KX _ _ lk) rfl S.co S.gen rfl
    (PySem.W.codeRec_of KX hcd) (bnd _ _ _ _ ?_)
  refine wpAny_newFunctionEnv_cells S.kind kinds fun env he s1 z => ?_
  subst he
  refine ⟨(e0.mod.nolimit.keeps keeps).keeps z.toInCall.keep, codeAny_func ?_⟩
  obtain ⟨t, ht, hq⟩ := hb cdv outer s H vs Q E (hr.deeper _) hsp
  have I := inv_start (CX := CX0) (P := P) (w := w) (E := E) S hr.hd e0 lv r z
  refine wpAny_mono (ht.nox.run [] s1 (start N vs) H _ I hq)
    (fun fl s' hs => ?_) fun e s' hs => hs
  have fin : ∀ {σ' : L2.St} {H' : Hp} {v : V} {u : Value},
      Inv (cxOf CX0 P w K mg base N qual (defScope st) f cdv A outer s H E) [] σ' H' s' → RelV v u → Q v H' → CE outer P w H s Q u s' :=
    fun {σ' H' v u} J rv q => ⟨v, H', J.os, J.bare, J.base, J.hok, rv, q⟩
  match fl, hs with
  | .ret u, hs =>
    obtain ⟨v, σ', H', J, rv, q⟩ := hs
    exact fin J rv q
  | .next, hs =>
    obtain ⟨σ', H', J, q⟩ := hs
    exact fin (v := V.non) (u := Value.none) J rfl q
  | .brk, hs => obtain ⟨_, _, _, q⟩ := hs; exact q.elim
  | .cont, hs => obtain ⟨_, _, _, q⟩ := hs; exact q.elim

section
variable {X : Cx} {f : Addr} {fd : FuncData} {ps : List Str} {sp : Sp} {x : Str} {p pos : Pos} {e : Expr} {es : List Expr} {t : TA}
theorem pe_callAt (F : FnAt X.A X.prog X.w X.K X.mg X.base f fd ps sp) (hg : Gl X x) (hm : X.mg x = some (.ref f)) (hk : PySem.W.keepIn X.K (.ref f) = true) (bd : Binds X.K fd ps [])
    (ha : PA X (e :: es) t) (hdb : (x == ("__debug__" : Str)) = false := by decide)
    (he : starEach (e :: es) X.env = (false, eval e X.env) :: starEach es X.env := by rfl)
    (hpl : (backTo pos (starEach es X.env)).any (·.1) = false := by rfl) :
    PE X (.Call (.Name x p) (e :: es) [] pos) (tCall sp [] E0 t) := by
  refine ⟨fun pins s σ H Q I h => wpAny_Call_Name_kw (ld_glob I hg hm ?_ hdb)⟩
  refine PySem.W.callWith_K (h₀ := X.base) I.ok.mod.kin hk
    (thn (ha.run pos pins s σ H _ I h) fun us s1 ⟨vs, H1, I1, r, q⟩ => ⟨I1.kIn, ?_⟩) he hpl
  have q : sp (vs ++ []) H1 Q E0 := q
  rw [List.append_nil] at q
  have hl : (us ++ []).length = ps.length := by
    rw [List.append_nil, ← r.length]
    exact F.len _ _ _ _ q
  have bb := bd s1 us I1.kIn hl
  have bb : BindsTo s1 fd ⟨us, []⟩ (ps.zip (us ++ [])) := bb
  rw [List.append_nil] at bb
  refine wpAny_call (codeAny_mono (F.run X.stack s1 H1 ⟨us, []⟩ us vs Q E0 I1.env0 bb r q) fun r s' hq => ?_)
  match r, hq with
  | .error e, hq => exact hq.elim
  | .ok (.ret u), hq => exact I1.after hq
  | .ok .next, hq => exact hq.elim
  | .ok .brk, hq => exact hq.elim
  | .ok .cont, hq => exact hq.elim
end

/-- the law's call, from its promise at the caller's place -/
theorem law_at {P : Program} {w : World} {K : PySem.W.Frag} {mg mb : Str → Option Value} {fa a : Addr} {fd : FuncData} {x : Str} {sp : Sp} {s₁ : Shared} {vs : List Value} {ns : List Int}
    (KX : K.In s₁.heap) (hns : s₁.heap.Ns mainGlobals mg) (hb : s₁.heap.Ns builtinsNs mb)
    (hbb : ∀ x : Str, x ≠ "__name__" → mb x = bootBuiltins x) (hlim : s₁.heap.NoLimit) (hg : s₁.gens = #[])
    (ha : s₁.heap.get? a = some { cls := .type "list", data := .seq vs.toArray }) (hi : IntsAre vs ns) (hl : ns.length ≤ sizeLine)
    (F : ∀ base : Heap, K.In base → base.Ns mainGlobals mg → FnAt callerA P w K mg base fa fd [x] sp)
    (hbind : ∀ (s : Shared) (u : Value), BindsTo s fd ⟨[u], []⟩ [(x, u)])
    (hsp : ∀ H : Hp, Only H → SqL K H a (ns.map V.int) → sp [.ref a] H (fun v _ => v = .bl true) fun _ _ _ => False) :
    codeAny (model P w) callerA (.call (.ref fa) ⟨[.ref a], []⟩)
      (fun r s' => r = .ok (.ret (.bool true)) ∧ OldK s₁.heap s'.heap ∧ s'.os = s₁.os ∧ AllBare s'.gens) s₁ := by
  have core : ∀ H : Hp, Only H → SqL K H a (ns.map V.int) → HOk P w H s₁.heap →
      (∀ b, H b ≠ none → b = a) → (H a ≠ none → K.lookup a = none) →
      codeAny (model P w) callerA (.call (.ref fa) ⟨[.ref a], []⟩)
        (fun r s' => r = .ok (.ret (.bool true)) ∧ OldK s₁.heap s'.heap ∧ s'.os = s₁.os ∧ AllBare s'.gens) s₁ := by
    intro H hO hS ok only free
    have lone : ∀ {b : Addr}, (b = a → False) → H b = none := fun {b} n => by
      cases q : H b with
      | none => rfl
      | some u => exact (n (only b (by rw [q]; exact fun z => nomatch z))).elim
    have noA : ∀ {b : Addr} {o : Obj} {es : Array DictEntry} {ep : Nat}, s₁.heap.get? b = some o → o.data = .dict es ep → H b = none := by
      intro b o es ep e d
      refine lone fun z => ?_
      rw [z, ha] at e
      cases e
      exact nomatch (show Data.seq vs.toArray _ = Data.dict es ep from d)
    have names : ∀ {b : Addr} {m : Str → Option Value}, s₁.heap.Ns b m → (hidT s₁.heap H).Ns b m := by
      rintro b m ⟨o, es, ep, e, d, r⟩
      exact ⟨o, es, ep, hidT_get e (noA e d), d, r⟩
    have KB : K.In (hidT s₁.heap H) := by
      intro b o e
      refine hidT_get (KX b o e) ?_
      cases q : H b with
      | none => rfl
      | some u =>
        have z := only b (by rw [q]; exact fun z => nomatch z)
        subst z
        rw [free (by rw [q]; exact fun z => nomatch z)] at e
        cases e
    have M : Mod K mg (hidT s₁.heap H) := by
      obtain ⟨mc, h1, h2⟩ := hlim
      exact ⟨KB, names hns, ⟨mb, names hb, hbb⟩, ⟨mc, names h1, h2⟩⟩
    have e0 : Env0 P w K mg (hidT s₁.heap H) callerA [] s₁ H :=
      ⟨rfl, M, fun b o e => of_hidT e, Nat.le_of_eq (hidT_size _ _), trivial, fun b hb => (List.not_mem_nil hb).elim, ok, .of_eq hg⟩
    have run := (F _ KB (names hns)).run [] s₁ H ⟨[.ref a], []⟩ [.ref a] [.ref a] _ _ e0 (hbind s₁ (.ref a)) (.cons rfl .nil) (hsp H hO hS)
    refine codeAny_mono run fun r s' h => ?_
    match r, h with
    | .error e, h => exact h.elim
    | .ok .next, h => exact h.elim
    | .ok .brk, h => exact h.elim
    | .ok .cont, h => exact h.elim
    | .ok (.ret u), h =>
      obtain ⟨v, H', os, bare, un, ok', rv, q⟩ := h
      have q : v = .bl true := q
      subst q
      have rv : u = Value.bool true := rv
      subst rv
      refine ⟨rfl, OldK.of_keep fun b o e => ?_, os, bare⟩
      rcases hO b with z | ⟨ob, xs, z⟩
      · exact un.keep b o e z (fun q => (List.not_mem_nil q).elim) (by simp)
      · obtain ⟨e1, _⟩ := ok b _ z
        obtain ⟨e2, _⟩ := ok' b _ (un.frzs b ob _ z)
        rw [e] at e1
        cases e1
        exact e2
  have rv := vals_ints hi
  have lv := hi.length
  cases hk : K.lookup a with
  | some o =>
    have e := KX a o hk
    rw [ha] at e
    cases e
    refine core (fun _ => none) (fun _ => Or.inl rfl) (Or.inr ⟨_, vs.toArray, _, hk, rfl, rfl, rfl, ?_, by simpa using rv⟩) (fun b u z => nomatch z) (fun b z => (z rfl).elim) fun z => (z rfl).elim
    rw [List.size_toArray, lv]
    exact hl
  | none =>
    let o1 : Obj := { cls := .type "list", data := .seq vs.toArray }
    let H1 : Hp := fun b => if b = a then some (.frz o1 (.lst (ns.map V.int))) else none
    have at1 : H1 a = some (.frz o1 (.lst (ns.map V.int))) := if_pos rfl
    have off : ∀ b, b ≠ a → H1 b = none := fun b n => if_neg n
    refine core H1 (fun b => ?_) (Or.inl (Or.inr ⟨o1, at1⟩)) (fun b u z => ?_) (fun b z => ?_) fun _ => hk
    · by_cases q : b = a
      · rw [q]; exact Or.inr ⟨_, _, at1⟩
      · exact Or.inl (off b q)
    · by_cases q : b = a
      · rw [q, at1] at z
        cases z
        rw [q]
        exact ⟨ha, by rw [List.length_map]; exact hl, vs, _, rv, ha⟩
      · rw [off b q] at z; cases z
    · by_cases q : b = a
      · exact q
      · exact (z (off b q)).elim
theorem walk_at {l : PySem.W.OpenLaw} {n : Nat} {q : Program} {loose : List Str} {XP : (Str → Option Value) → Heap → Prop} {YP : World → Heap → Prop} {d : DefRec} {K : Params → PySem.W.Frag} {sp : PySem.W.Frag → Sp} {x : Str}
    (hn : l.most = some n) (hn2 : n ≤ sizeLine) (hdf : d.params.defaults = [])
    (hY : ∀ (w : World) (h : Heap), YP w h → (K w.params).In h)
    (F : ∀ (w : World) (mg : Str → Option Value) (fa : Addr) (h : Heap), (K w.params).In h → h.Ns mainGlobals mg → mg d.name = some (.ref fa) →
      ∃ fd : FuncData, (∀ (s : Shared) (u : Value), BindsTo s fd ⟨[u], []⟩ [(x, u)]) ∧
        ∀ base : Heap, (K w.params).In base → base.Ns mainGlobals mg → FnAt callerA l.prog w (K w.params) mg base fa fd [x] (sp (K w.params)))
    (hsp : ∀ (K : PySem.W.Frag) (H : Hp) (a : Addr) (ns : List Int), ns.length ≤ n → Only H → SqL K H a (ns.map V.int) →
      sp K [.ref a] H (fun v _ => v = .bl true) fun _ _ _ => False) :
    PySem.W.WalkO q loose XP YP l.row.toRowW d [] (fun f vs => PySem.call f vs) := by
  refine Att.attach_call hn hdf fun w s₀ s₁ mg mb fa o pm cd doc a vs ns G Y ho hd hcd hmg hobj hints hlen hg => ?_
  have KX := hY w _ Y
  obtain ⟨fd, hb, hF⟩ := F w mg fa _ KX G.T.g hmg
  exact law_at KX G.T.g G.T.b G.T.builtins G.T.nolimit hg hobj hints (Nat.le_trans hlen hn2) hF hb
    (fun H hO hS => hsp _ H a ns hlen hO hS)
end Dl
set_option Elab.async false
set_option linter.all false
set_option maxRecDepth 100000
set_option maxHeartbeats 4000000
namespace Dl
open PySem PySem.Spec PyProof.Rows L2

/-- a def as the top left it -/
structure Dc (K : PySem.W.Frag) (mg : Str → Option Value) (x : Str) (st : Stmt) (ps : List Str) (f : Addr) (fd : FuncData) : Prop where
  fn : Fun K x x st f fd
  mg : mg x = some (.ref f)
  bd : Binds K fd ps []
section
variable {X : Cx} {k : Nat} {f : Addr} {fd : FuncData} {ps : List Str} {sp : Sp} {x : Str} {st : Stmt} {p pos : Pos} {e : Expr} {es : List Expr} {t : TA}
theorem pc (D : Dc X.K X.mg x st ps f fd) (F : FnOk X.prog X.w X.K X.mg X.base CX0 k f fd ps sp) (hr : Room k X.A) (hg : Gl X x) (ha : PA X (e :: es) t)
    (hdb : (x == ("__debug__" : Str)) = false := by decide) (he : starEach (e :: es) X.env = (false, eval e X.env) :: starEach es X.env := by rfl) (hpl : (backTo pos (starEach es X.env)).any (·.1) = false := by rfl) :
    PE X (.Call (.Name x p) (e :: es) [] pos) (tCall sp [] E0 t) := pe_call F hr hg D.mg D.fn.kp D.bd .nil pass0 ha hdb he hpl
/-- // by a divisor that is not 0, below 2 ^ 9000 -/
def CDivA (_ j : Int) : Prop := j ≠ 0 ∧ j.natAbs.log2 < 9000
theorem op_fdivN : OpR X (binaryOp .FloorDiv) (rI CDivA fun i j => .int (i.fdiv j)) := opI fun _ _ _ _ _ _ _ hc q => floordiv_int hc.1 q (.inl (PyProof.noPylong_of_log2 hc.2))
/-- l[i], l a list -/
theorem get_list : PGet X (rIxL X.K) := by
  intro pins s σ H o i ov iv Q I ro ri h
  obtain ⟨p, xs, j, v, rfl, rfl, sq, e, q⟩ := h
  cases ro
  obtain ⟨t, rfl⟩ := ri
  obtain ⟨its, r, pl, hz⟩ := I.list sq
  obtain ⟨n, h1, h2, h3, h4, h5⟩ := atI_get e
  obtain ⟨w, ew, rw'⟩ := r.get h2
  have hl := r.length
  have hn := line63
  by_cases h0 : 0 ≤ j
  · have hj : j.toNat = n := by
      rw [seqIndex_of h0 h5] at h1
      exact Option.some.inj h1
    exact wpAny_getItem_list pl.isList h0 (by omega) (by rw [hj]; simpa using ew) ⟨v, H, I, rw', q⟩
  · have hj : (j + (its.toArray.size : Int)).toNat = n := by
      rw [seqIndex_neg (by omega) h4] at h1
      rw [List.size_toArray, ← hl]
      exact Option.some.inj h1
    exact wpAny_getItem_list_neg pl.isList (by omega) (by rw [List.size_toArray] <;> omega) (by omega) (by rw [hj]; simpa using ew) ⟨v, H, I, rw', q⟩
end
section
variable {K : PySem.W.Frag} {env : List Sl} {b : Option Addr} {ms : Ms} {te ta tb : TE} {P Pa Pb : PyData → Prop} {tt : TT} {Pt : Bool → Prop} {D : Ends} {tu tw tz : TS} {G0 H0 Gs G H : Hp} {σ : L2.St}
theorem et_T {c : Bool} (h : EvP K env b ms te (Is (.bool c))) : EtP K env b ms (tTest te) (Is c) := et_B h
theorem et_TP (h : EvP K env b ms te (fun d => ∃ c, d = .bool c ∧ Pt c)) : EtP K env b ms (tTest te) Pt := et_BP h
/-- a list of ours is changed no more -/
theorem At.freeze {i n : Nat} {l : Addr} {ds : List PyData} (A : At K env b ms G0 H0 Gs σ G H) (hi : env[i]? = some (.a l)) (hm : ms[n]? = some (l, ds.map .d)) : ∃ G2, At K (env.set i (.d (.list ds))) b (ms.eraseIdx n) G0 H0 Gs σ G2 H := by
  have mem := List.mem_of_getElem? hm
  obtain ⟨gl, nb, xs, hl, el⟩ := A.j.mu _ mem
  have up : Same G (upd G l (.lst xs)) := fun c o z => by rw [upd_ne (ne_of_none z gl)]; exact z
  have go : ∀ (ds : List PyData) (xs : List V), EnvOk K G (xs.map some) (ds.map .d) → DpAll K G xs ds := by
    intro ds
    induction ds with
    | nil => intro xs h; cases xs with
      | nil => exact .nil
      | cons x xs => have := h.1; simp at this
    | cons d ds ih => intro xs h; cases xs with
      | nil => have := h.1; simp at this
      | cons x xs =>
        obtain ⟨s, e1, v, e2, e3⟩ := h.2 0 (.d d) rfl
        have e4 : x = v := by simp at e1; rw [e2] at e1; exact Option.some.inj e1
        subst e4
        exact .cons e3 (ih xs ⟨by have := h.1; simpa using this, fun i e he => by
          obtain ⟨s, f1, f2⟩ := h.2 (i + 1) e (by simpa using he)
          exact ⟨s, by simpa using f1, f2⟩⟩)
  have hn : n < ms.length := (List.getElem?_eq_some_iff.mp hm).1
  have sub : ∀ p ∈ ms.eraseIdx n, p ∈ ms ∧ p.1 ≠ l := by
    intro p hp
    have hp1 := List.mem_of_mem_eraseIdx hp
    refine ⟨hp1, fun e => ?_⟩
    obtain ⟨j, hj⟩ := List.mem_iff_getElem?.mp hp
    have h2 : (ms.map (·.1))[n]? = some l := by rw [List.getElem?_map, hm]; rfl
    have key : ∃ m, m ≠ n ∧ ms[m]? = some p := by
      rw [List.getElem?_eraseIdx] at hj
      by_cases q : j < n
      · rw [if_pos q] at hj; exact ⟨j, by omega, hj⟩
      · rw [if_neg q] at hj; exact ⟨j + 1, by omega, hj⟩
    obtain ⟨m, hmn, hm2⟩ := key
    have h1 : (ms.map (·.1))[m]? = some l := by rw [List.getElem?_map, hm2]; exact congrArg some e
    obtain ⟨k1, k2⟩ := List.getElem?_eq_some_iff.mp h1
    obtain ⟨k3, k4⟩ := List.getElem?_eq_some_iff.mp h2
    exact hmn ((List.getElem_inj A.nd).mp (k2.trans k4.symm))
  have hσ := A.env.addr hi
  have eset : σ.set i (some (.ref l)) = σ := by
    apply List.ext_getElem?
    intro j
    by_cases q : i = j
    · subst q
      rw [hσ, List.getElem?_set_self (List.getElem?_eq_some_iff.mp hσ).1]
    · rw [List.getElem?_set_ne q]
  refine ⟨upd G l (.lst xs), ?_, A.gr.still hl (A.own _ mem) gl, A.sg.trans up, ⟨fun x ex => ?_, fun p hp => ?_⟩, fun p hp => A.own p (sub p hp).1, ?_⟩
  · have h := (A.env.mono up).set (i := i) (v := .ref l) (slot_d (.lst (SqL.of upd_same) (dpa_mono up _ _ (go ds xs el))))
    rw [eset] at h
    exact h
  · obtain ⟨b1, z0, z1, z2, lb, cs, b2, b3, b4⟩ := A.j.bag x ex
    exact ⟨by rw [upd_ne (show x ≠ l from fun q => nb (by rw [← q]; exact ex))]; exact b1, z0, z1, z2, lb, cs, b2, up.seq b3, b4⟩
  · obtain ⟨p1, p2⟩ := sub p hp
    obtain ⟨m1, m2, ys, m3, m4⟩ := A.j.mu p p1
    exact ⟨by rw [upd_ne p2]; exact m1, m2, ys, m3, m4.mono up⟩
  · exact A.nd.sublist ((List.eraseIdx_sublist ms n).map _)
/-- len of a list of ours -/
theorem ev_lenM {i n : Nat} {l : Addr} {es : List Sl} (hi : env[i]? = some (.a l)) (hm : ms[n]? = some (l, es)) : EvP K env b ms (tCB (rLen K) (tCons (tVar i) tNil)) (Is (.int es.length)) := fun σ G H e s j Q k => by
  obtain ⟨gl, nb, xs, hl, el⟩ := j.mu _ (List.mem_of_getElem? hm)
  have xl : xs.length = es.length := by have := el.1; simpa using this
  exact ⟨.ref l, e.addr hi, l, xs, rfl, .inl (SqL.of hl), by rw [xl]; exact k _ _ G H (Grow.refl s) j (.int _) rfl⟩
/-- at a def's entry -/
theorem at_pure {vs : List V} {ds : List PyData} {N : List Str} (s : Same G H) (da : DpAll K G vs ds) (hn : vs.length ≤ N.length) : At K (ds.map .d ++ List.replicate (N.length - ds.length) .un) none [] G H G (start N vs) G H := by
  refine ⟨?_, Grow.refl s, Same.refl _, ⟨fun x e => (nomatch e), fun p hp => (nomatch hp)⟩, fun p hp => (nomatch hp), List.nodup_nil⟩
  unfold L2.start
  rw [dpa_len da]
  refine env_app (env_data da) ⟨by simp, fun i e he => ?_⟩
  rw [List.getElem?_replicate] at he ⊢
  split at he
  · cases he
    exact ⟨none, if_pos (by assumption), trivial⟩
  · cases he
theorem at_bag {x : Addr} {vs : List V} {ds : List PyData} {N : List Str} (s : Same G H) (bg : BagAt K x G H) (da : DpAll K G vs ds) (hn : vs.length + 1 ≤ N.length) : At K (.a x :: (ds.map .d ++ List.replicate (N.length - 1 - ds.length) .un)) (some x) [] G H G (start N (.ref x :: vs)) G H := by
  refine ⟨?_, Grow.refl s, Same.refl _, ⟨fun y e => by cases e; exact bg, fun p hp => (nomatch hp)⟩, fun p hp => (nomatch hp), List.nodup_nil⟩
  have e : start N (.ref x :: vs) = some (.ref x) :: (vs.map some ++ List.replicate (N.length - 1 - ds.length) none) := by
    unfold L2.start
    rw [List.map_cons, List.cons_append, List.length_cons, dpa_len da]
    congr 3
    omega
  rw [e]
  refine .cons rfl (env_app (env_data da) ⟨by simp, fun i e he => ?_⟩)
  rw [List.getElem?_replicate] at he ⊢
  split at he
  · cases he
    exact ⟨none, if_pos (by assumption), trivial⟩
  · cases he
end

theorem dc_mk {K : PySem.W.Frag} {h : Heap} {mg : Str → Option Value} {x : Str} {st : Stmt} {ps : List Str} {f : Addr} {oc : Value} {od an : Option Addr} {osl : Array (Option Value)} {kV dc pm cd ct : Value}
    (b : ∀ (kV doc pm : Value) (an : Option Addr) (cdv ct : Value) (us : List Value), us.length = ps.length → bindArgs (PySem.W.fnOf x x (defArgs st) (defBody st) (defScope st) .none kV doc pm an cdv ct) ⟨us, []⟩ = pure (ps.zip us))
    (X : K.In h) (G : h.Ns mainGlobals mg)
    (a : PySem.W.nsIn K mainGlobals x = some (some (.ref f)))
    (l : K.lookup f = some ⟨oc, od, .func (PySem.W.fnOf x x (defArgs st) (defBody st) (defScope st) .none kV dc pm an cd ct), osl⟩)
    (c : PySem.W.codeIn K cd x = true) (k : PySem.W.keepIn K (.ref f) = true) :
    Dc K mg x st ps f (PySem.W.fnOf x x (defArgs st) (defBody st) (defScope st) .none kV dc pm an cd ct) :=
  ⟨fun_mk l c k, PySem.W.mg_of X G a, (fun_mk l c k).binds b⟩
end Dl
namespace Dl
open PySem PySem.Spec PyProof.Rows L2
/-- a tuple, k times over -/
def rRepA (K : PySem.W.Frag) : R2 := fun x y H Q => ∃ l k xs, x = .ref l ∧ y = .int k ∧ SqT K H l xs ∧ xs ≠ [] ∧ 1 ≤ k ∧ k ≤ 1000 ∧ xs.length ≤ 1000 ∧ (k = 1 → Q (.ref l) H) ∧ (2 ≤ k → ∀ p, H p = none → Q (.ref p) (upd H p (.tup (List.replicate k.toNat xs).flatten)))
open AutoSeq1 (wpAny_loadPart') in
theorem tuple_mul1 (l : Addr) (items : Array Value) (n : Nat) (dd : Option Addr) (sl : Array (Option Value)) (u : Tok) (he : items.isEmpty = false) :
    Meets (Builtin.«tuple.__mul__» ⟨[.ref l, .int 1 u], []⟩) (fun _ R s => s.heap.get? l = some { cls := .type "tuple", dict := dd, data := .seq items n, slots := sl } ∧ R (.ok (.ret (Value.ref l))) s) :=
  .of_wp fun prog w A R s h => by
    obtain ⟨hp, g, d, tk, os⟩ := s
    obtain ⟨hl, h⟩ := h
    have f1 := AutoSeq1.idx_int
    wp_walk using wpAny_loadPart' hl
    repeat (first
      | (refine wpAny_ite_false (decide_eq_false (by decide)) ?_; wp_walk using wpAny_loadPart' hl)
      | (refine wpAny_ite_true (decide_eq_true (by rw [he]; rfl)) ?_; wp_walk using wpAny_loadPart' hl))
    all_goals exact ⟨_, rfl, h⟩
section
variable {X : Cx}
theorem op_repA : OpR X (binaryOp .Mult) (rRepA X.K) := by
  intro pins s σ H x y v u Q I rx ry h
  obtain ⟨l, k, xs, rfl, rfl, hT, ne, k1, k2, hz, q1, q2⟩ := h
  by_cases hk : k = 1
  · subst hk
    cases rx
    obtain ⟨t, rfl⟩ := ry
    obtain ⟨its, r, ⟨⟨cls, dd, data, sl⟩, ho, hc, n, hd⟩, hs⟩ := I.tuple hT
    simp only at hc hd
    subst hc hd
    have hi : its.toArray.isEmpty = false := by
      cases its with
      | nil => cases r; exact absurd rfl ne
      | cons a b => rfl
    refine wpAny_binaryOp_repeat_ref (T := "tuple") (U := "int") (by decide) ⟨_, ho, rfl⟩ (fun s' => typeIs_int s' 1 t) noFill_tuple_mul F.fills_int_mul F.slot_int_rmul repeat_tuple F.slot_int_index.lookup
      (call_meets F.slot_int_rmul (typeIs_int s 1 t) F.entry_int_rmul (F.args_int_rmul_2 _ _) (int_rmul_tuple 1 t l its.toArray n dd sl)
        ⟨ho, rfl, ⟨_, ho, rfl⟩, call_meets F.slot_tuple_mul ⟨_, ho, rfl⟩ F.entry_tuple_mul (F.args_tuple_mul_2 _ _) (tuple_mul1 l its.toArray n dd sl t hi) ⟨ho, ?_⟩⟩)
    exact ⟨.ref l, H, I, rfl, q1 rfl⟩
  · exact op_repT pins s σ H _ _ v u Q I rx ry ⟨l, k, xs, rfl, rfl, hT, ne, by omega, k2, hz, q2 (by omega)⟩
end
end Dl
namespace Dl
open PySem PySem.Spec PyProof.Rows L2
theorem seq_via {t u : TS} {D : Ends} {σ : L2.St} {H : Hp} (M : L2.St → Hp → Prop) (h1 : ∀ N : L2.St → Hp → Prop, (∀ σ' H', M σ' H' → N σ' H') → t { D with nx := N } σ H) (h2 : ∀ σ' H', M σ' H' → u D σ' H') : tSeq t u D σ H := h1 _ h2
/-- a drawn number is asked of the bag: at least 1 -/
def takeDom (ds : List PyData) : Prop := ∃ n : Int, ds = [.int n] ∧ 0 < n ∧ n < 2 ^ 60
def takeR (ds : List PyData) (d : PyData) : Prop := ∃ n r : Int, ds = [.int n] ∧ d = .int r ∧ 0 ≤ r ∧ r < n
theorem fin_draw {K : PySem.W.Frag} {b l : Addr} {G H H' : Hp} {Q : VK} {cs : List Int} {n z0 z1 z2 r : Int} (sG : Same G H) (gb : G b = none) (sl : SqL K G l (cs.map V.int)) (hc : ∀ c ∈ cs, 0 ≤ c) (hcl : cs.length ≤ 1000)
    (k : ∀ (v : V) (d : PyData) (G' H' : Hp), Grow (Mb (some b)) G H G' H' → BagAt K b G' H' → Dp K G' v d → takeR [.int n] d → Q v H')
    (hb : H' b = some (.lst [.int z0, .int z1, .int z2, .ref l])) (h0 : 0 ≤ z0) (h1 : 0 ≤ z1) (h1' : z1 < 2147483647) (h2 : 0 ≤ z2)
    (fr : ∀ c o, H c = some o → c ≠ b → H' c = some o) (dm : ∀ c, H' c = none → H c = none) (r0 : 0 ≤ r) (r1 : r < n) : Q (.int r) H' :=
  k (.int r) (.int r) G H' ⟨Same.refl _, fun c o e => fr c o (sG c o e) (ne_of_none e gb), dm, fun c o e m => fr c o e fun z => m (by rw [z]), fun c o e => .inl e⟩ ⟨gb, z0, z1, z2, l, cs, hb, sl, h0, h1, h1', h2, hc, hcl⟩ (.int r) ⟨n, r, rfl, rfl, r0, r1⟩
end Dl
namespace Dl
open PySem PySem.Spec PyProof.Rows L2
theorem first_cell {cs : List Int} (hc : ∀ c ∈ cs, 0 ≤ c) (lo hi : Option Int) : ∃ c : Int, 0 ≤ c ∧ atI (cutV (cs.map V.int) lo hi ++ [V.int 0]) 0 = some (V.int c) := by
  have e : cutV (cs.map V.int) lo hi = ((cs.drop (HT.sIx cs.length 0 lo)).take (HT.sIx cs.length cs.length hi - HT.sIx cs.length 0 lo)).map V.int := by
    unfold cutV
    rw [List.length_map, List.map_take, List.map_drop]
  rw [e]
  cases q : (cs.drop (HT.sIx cs.length 0 lo)).take (HT.sIx cs.length cs.length hi - HT.sIx cs.length 0 lo) with
  | nil => exact ⟨0, by omega, rfl⟩
  | cons c r =>
    refine ⟨c, hc c ?_, ?_⟩
    · have : c ∈ (cs.drop (HT.sIx cs.length 0 lo)).take (HT.sIx cs.length cs.length hi - HT.sIx cs.length 0 lo) := by rw [q]; exact List.mem_cons_self
      exact List.mem_of_mem_drop (List.mem_of_mem_take this)
    · exact atI_nat (j := 0) rfl
theorem cut_len1001 {cs : List Int} (h : cs.length ≤ 1000) (lo hi : Option Int) : (cutV (cs.map V.int) lo hi).length + 1 ≤ sizeLine := by
  have := cutV_length (cs.map V.int) lo hi
  rw [List.length_map] at this
  exact Nat.le_trans (by omega : _ ≤ 1001) (by decide)
end Dl
namespace Dl
open PySem PySem.Spec PyProof.Rows L2
/-- new things, all else as it was -/
structure Tmp (H H' : Hp) : Prop where
  up : Same H H'
  dn : ∀ c, H' c = none → H c = none
theorem Tmp.refl (H : Hp) : Tmp H H := ⟨Same.refl _, fun _ e => e⟩
theorem Tmp.new {H H' : Hp} {p : Addr} {o : HO} (t : Tmp H H') (h : H' p = none) : Tmp H (upd H' p o) := ⟨fun c u e => by rw [upd_ne (ne_of_none (t.up c u e) h)]; exact t.up c u e, fun c e => by
  by_cases q : c = p
  · subst q; exact t.dn _ h
  · rw [upd_ne q] at e; exact t.dn c e⟩
theorem fresh2 {H : Hp} {p q : Addr} {o : HO} (h : upd H p o q = none) : q ≠ p ∧ H q = none := by
  by_cases e : q = p
  · subst e; rw [upd_same] at h; cases h
  · rw [upd_ne e] at h; exact ⟨e, h⟩
/-- but for b all is as it was, or new -/
structure But (b : Addr) (H H' : Hp) : Prop where
  up : ∀ c o, H c = some o → c ≠ b → H' c = some o
  dn : ∀ c, H' c = none → H c = none
theorem But.tmp {b : Addr} {H H1 H2 : Hp} (x : But b H H1) (t : Tmp H1 H2) : But b H H2 := ⟨fun c o e n => t.up c o (x.up c o e n), fun c e => x.dn c (t.dn c e)⟩
theorem But.refl (b : Addr) (H : Hp) : But b H H := ⟨fun _ _ e _ => e, fun _ e => e⟩
theorem But.put {b : Addr} {H H1 : Hp} {o u : HO} (x : But b H H1) (hb : H1 b = some u) : But b H (upd H1 b o) := ⟨fun c v e n => by rw [upd_ne n]; exact x.up c v e n, fun c e => by
  by_cases q : c = b
  · subst q; rw [upd_same] at e; cases e
  · rw [upd_ne q] at e; exact x.dn c e⟩
theorem pow18 : CPow 10 18 := ⟨by decide, by decide, by decide⟩
end Dl
namespace Dl
open PySem PySem.Spec PyProof.Rows L2
/-- bag[2] += 1 -/
theorem q_augBag {K : PySem.W.Frag} {σ : L2.St} {H : Hp} {D : Ends} {tz : TS} {b l : Addr} {z0 z1 z2 : Int} (hs : σ[0]? = some (some (.ref b))) (hb : H b = some (.lst [.int z0, .int z1, .int z2, .ref l]))
    (k : ∀ H2, H2 = upd H b (.lst [.int z0, .int z1, .int (z2 + 1), .ref l]) → tz D σ H2) : tSeq (tAugS (tVar 0) (tC (.int 2)) (tC (.int 1)) (rIxL K) (ipI fun i j => i + j) rSetL) tz D σ H :=
  ⟨_, hs, b, _, 2, .int z2, rfl, rfl, SqL.of hb, rfl, z2, 1, rfl, rfl, b, _, 2, 2, rfl, rfl, hb, rfl, k _ rfl⟩
theorem q_set {σ : L2.St} {H : Hp} {D : Ends} {tz : TS} {te : TE} {i : Nat} (h : te σ H fun v H' => tz D (σ.set i (some v)) H') : tSeq (tAsg te (gName i)) tz D σ H := h
end Dl
set_option Elab.async false
set_option linter.all false
set_option maxRecDepth 100000
set_option maxHeartbeats 4000000
namespace Dl
open PySem PySem.Spec PyProof.Rows L2

section
variable {K : PySem.W.Frag} {env : List Sl} {b : Option Addr} {ms : Ms} {te ta tb : TE} {P Pa Pb : PyData → Prop} {tt : TT} {Pt : Bool → Prop}
theorem rv_eqS {x y : Str} : RvP K b ms rEq (.str x) (.str y) (Is (.bool (decide (x = y)))) := fun v w G H p1 p2 s jb Q k => by
  cases p1; cases p2
  have e : decide (V.str x = V.str y) = decide (x = y) := by by_cases h : x = y <;> simp [h]
  refine ⟨rfl, ?_⟩
  rw [e]
  exact k _ _ G H (Grow.refl s) jb (.bl _) rfl
theorem ev_eqS {x y : Str} (ha : EvP K env b ms ta (Is (.str x))) (hb : EvP K env b ms tb (Is (.str y))) : EvP K env b ms (tOp rEq ta tb) (Is (.bool (decide (x = y)))) :=
  ev_op ha hb fun d1 d2 e1 e2 => by rw [e1, e2]; exact rv_eqS
/-- drawn numbers in an operation -/
theorem ev_I0x {g : Int → Int → Int} {C1 C2 : Int → Prop} (ha : EvP K env b ms ta (fun d => ∃ i, d = .int i ∧ C1 i)) (hb : EvP K env b ms tb (fun d => ∃ i, d = .int i ∧ C2 i)) :
    EvP K env b ms (tOp (rI0 fun i j => .int (g i j)) ta tb) (fun d => ∃ i j, d = .int (g i j) ∧ C1 i ∧ C2 j) :=
  ev_op ha hb fun d1 d2 ⟨i, e1, c1⟩ ⟨j, e2, c2⟩ => by
    rw [e1, e2]
    exact fun x y G H p1 p2 s jb Q k => rv_I0 x y G H p1 p2 s jb Q fun v d G2 H2 g2 j2 p q => k v d G2 H2 g2 j2 p ⟨i, j, q, c1, c2⟩
theorem ev_ex1 {i : Int} (h : EvP K env b ms te (Is (.int i))) : EvP K env b ms te (fun d => ∃ z, d = .int z ∧ z = i) := ev_imp h fun d e => ⟨i, e, rfl⟩
theorem ev_eqIx {C1 C2 : Int → Prop} (ha : EvP K env b ms ta (fun d => ∃ i, d = .int i ∧ C1 i)) (hb : EvP K env b ms tb (fun d => ∃ i, d = .int i ∧ C2 i)) :
    EvP K env b ms (tOp rEq ta tb) (fun d => ∃ c, d = .bool c ∧ True) :=
  ev_op ha hb fun d1 d2 ⟨i, e1, c1⟩ ⟨j, e2, c2⟩ => by
    rw [e1, e2]
    exact fun x y G H p1 p2 s jb Q k => rv_eqI x y G H p1 p2 s jb Q fun v d G2 H2 g2 j2 p q => k v d G2 H2 g2 j2 p ⟨_, q, trivial⟩
/-- an item at a drawn place -/
theorem ev_ixLx {l : List PyData} {C : Int → Prop} (ha : EvP K env b ms ta (Is (.list l))) (hb : EvP K env b ms tb (fun d => ∃ i, d = .int i ∧ C i)) (hC : ∀ i, C i → 0 ≤ i ∧ i < l.length) :
    EvP K env b ms (tOp (rIxL K) ta tb) (fun d => d ∈ l) :=
  ev_op ha hb fun d1 d2 e1 ⟨i, e2, c⟩ => by
    obtain ⟨h0, h1⟩ := hC i c
    have hi : i.toNat < l.length := by omega
    have at1 : atI l i = some l[i.toNat] := by
      have := atI_nat (xs := l) (j := i.toNat) (v := l[i.toNat]) (List.getElem?_eq_getElem hi)
      rw [show ((i.toNat : Nat) : Int) = i from by omega] at this
      exact this
    rw [e1, e2]
    exact fun x y G H p1 p2 s jb Q k => rv_ixL at1 x y G H p1 p2 s jb Q fun v d G2 H2 g2 j2 p q => k v d G2 H2 g2 j2 p (by rw [q]; exact List.getElem_mem hi)
end

/-! ### data that are shown in few signs -/
structure Sm (d : PyData) (w h : Nat) : Prop where
  can : d.canLay0 = true
  dep : d.depth ≤ h
  wei : d.weight ≤ w
  sho : d.leavesShort 202 = true
  shw : d.showable = true
structure SmA (l : List PyData) (w h : Nat) : Prop where
  can : PyData.canLayAll0 l = true
  dep : PyData.depthAll l ≤ h
  wei : PyData.weightAll l ≤ w
  sho : PyData.leavesShortAll 202 l = true
  shw : PyData.showableAll l = true
theorem sm_int {i : Int} {h : Nat} (hi : i.natAbs < 2 ^ 200) : Sm (.int i) 200 h := by
  have l : i.natAbs.log2 < 200 := by
    by_cases z : i.natAbs = 0
    · rw [z]; decide
    · exact (Nat.log2_lt z).mpr hi
  refine ⟨by simp only [PyData.canLay0], by simp only [PyData.depth]; omega, ?_, ?_, ?_⟩
  · simp only [PyData.weight]; split <;> omega
  · have h1 := int_text_length_le (a := i) (k := 200) (by decide) l
    simp only [PyData.leavesShort, decide_eq_true_eq]
    have e : (PyData.shown (.int i)).length = (Str.ofString (toString i)).length := by simp only [PyData.shown]
    rw [e]
    rw [PySem.ofString_length]
    omega
  · simp only [PyData.showable, decide_eq_true_eq]; omega
theorem sm_bool {c : Bool} {h : Nat} : Sm (.bool c) 0 h := ⟨by simp only [PyData.canLay0], by simp only [PyData.depth]; omega, by simp only [PyData.weight]; omega, by simp only [PyData.leavesShort], by simp only [PyData.showable]⟩
theorem sm_none {h : Nat} : Sm .none 0 h := ⟨by simp only [PyData.canLay0], by simp only [PyData.depth]; omega, by simp only [PyData.weight]; omega, by simp only [PyData.leavesShort], by simp only [PyData.showable]⟩
theorem Sm.le {d : PyData} {w w' h h' : Nat} (s : Sm d w h) (hw : w ≤ w') (hh : h ≤ h') : Sm d w' h' := ⟨s.can, Nat.le_trans s.dep hh, Nat.le_trans s.wei hw, s.sho, s.shw⟩
theorem SmA.le {d : List PyData} {w w' h h' : Nat} (s : SmA d w h) (hw : w ≤ w') (hh : h ≤ h') : SmA d w' h' := ⟨s.can, Nat.le_trans s.dep hh, Nat.le_trans s.wei hw, s.sho, s.shw⟩
theorem sma_nil {h : Nat} : SmA [] 0 h := ⟨by simp only [PyData.canLayAll0], by simp only [PyData.depthAll]; omega, by simp only [PyData.weightAll]; omega, by simp only [PyData.leavesShortAll], by simp only [PyData.showableAll]⟩
theorem sma_cons {d : PyData} {l : List PyData} {w w2 h : Nat} (a : Sm d w h) (b : SmA l w2 h) : SmA (d :: l) (w + 1 + w2) h :=
  ⟨by simp only [PyData.canLayAll0, a.can, b.can, Bool.and_self], by simp only [PyData.depthAll]; have := a.dep; have := b.dep; omega, by simp only [PyData.weightAll]; have := a.wei; have := b.wei; omega, by simp only [PyData.leavesShortAll, a.sho, b.sho, Bool.and_self], by simp only [PyData.showableAll, a.shw, b.shw, Bool.and_self]⟩
theorem sma_app {l m : List PyData} {w w2 h : Nat} (a : SmA l w h) (b : SmA m w2 h) : SmA (l ++ m) (w + w2) h := by
  induction l generalizing w with
  | nil => exact b.le (by omega) (Nat.le_refl _)
  | cons x l ih =>
    obtain ⟨c, d, e, f, g⟩ := a
    simp only [PyData.canLayAll0, PyData.depthAll, PyData.weightAll, PyData.leavesShortAll, PyData.showableAll, Bool.and_eq_true] at c d e f g
    have h1 := ih (w := PyData.weightAll l) ⟨c.2, by omega, Nat.le_refl _, f.2, g.2⟩
    exact (sma_cons (w := x.weight) ⟨c.1, by omega, Nat.le_refl _, f.1, g.1⟩ h1).le (by omega) (Nat.le_refl _)
theorem sma_all {l : List PyData} {w h : Nat} (a : ∀ x ∈ l, Sm x w h) : SmA l ((w + 1) * l.length) h := by
  induction l with
  | nil => exact sma_nil
  | cons x l ih =>
    have h1 := sma_cons (a x (by simp)) (ih fun y hy => a y (by simp [hy]))
    refine h1.le ?_ (Nat.le_refl _)
    rw [List.length_cons, Nat.mul_add]; omega
theorem sm_list {l : List PyData} {w h : Nat} (a : SmA l w h) : Sm (.list l) w (h + 1) :=
  ⟨by simp only [PyData.canLay0]; exact a.can, by simp only [PyData.depth]; have := a.dep; omega, by simp only [PyData.weight]; exact a.wei, by simp only [PyData.leavesShort]; exact a.sho, by simp only [PyData.showable]; exact a.shw⟩
theorem sm_tup {l : List PyData} {w h : Nat} (a : SmA l w h) : Sm (.tuple l) w (h + 1) :=
  ⟨by simp only [PyData.canLay0]; exact a.can, by simp only [PyData.depth]; have := a.dep; omega, by simp only [PyData.weight]; exact a.wei, by simp only [PyData.leavesShort]; exact a.sho, by simp only [PyData.showable]; exact a.shw⟩
theorem Sm.shown {d : PyData} {w h : Nat} (s : Sm d w h) (hw : w ≤ 80000) : d.shown.length ≤ sizeLine := by
  have h1 := PyData.shown_le 202 (by decide) d s.sho
  have h2 : (202 + 2) * d.weight ≤ 204 * 80000 := Nat.mul_le_mul (Nat.le_refl _) (Nat.le_trans s.wei hw)
  rw [sizeLine_eq]
  omega
theorem Sm.shaped {d : PyData} {w h : Nat} (s : Sm d w h) (hh : h ≤ 60) : SeqAt.shaped d = true := by
  unfold SeqAt.shaped
  rw [s.can, decide_eq_true (by have := s.dep; omega)]; rfl

/-- two equal lists of data, compared and shown -/
def spAlike (K : PySem.W.Frag) : Sp := fun vs H Q _ => vs.length = 2 ∧ ∃ (l : List PyData) (G : Hp), Same G H ∧ DpAll K G vs [.list l, .list l] ∧ SmA l 80000 59 ∧ ∀ G' H', Grow No G H G' H' → Q (.bl true) H'
theorem alike_read {K : PySem.W.Frag} {H : Hp} {vs : List V} {Q : VK} {E : XK} (h : spAlike K vs H Q E) {N : List Str} (hN : N.length = 2) :
    tRet (tAndV (tOp (rEqD K) (tVar 0) (tVar 1)) (tOp rEq (tCB (rRepr K) (tCons (tVar 0) tNil)) (tCB (rRepr K) (tCons (tVar 1) tNil)))) { nx := fun _ H' => Q .non H', rt := Q } (L2.start N vs) H := by
  obtain ⟨hl, l, G, sG, da, sm, k⟩ := h
  have A := at_pure (N := N) sG da (by omega)
  rw [hN] at A
  have S := sm_list sm
  have rr : RcP K none [] (rRepr K) [.list l] (Is (.str (PyData.list l).shown)) :=
    rc_repr (fun v G p => by cases p; exact ⟨_, rfl⟩) S.shw (PyData.hasDict_of_canLay _ S.can) S.dep (S.shown (Nat.le_refl _))
  refine s_ret A (ev_andV (ev_eqD (ev_var rfl) (ev_var rfl) (S.shaped (Nat.le_refl _)) (S.shaped (Nat.le_refl _))) fun _ => ev_eqS (ev_cb (ea_cons (ev_var rfl) ea_nil) rr) (ev_cb (ea_cons (ev_var rfl) ea_nil) rr)) ?_
  intro v d G' H' g j p e
  have e2 : PyData.eqv (.list l) (.list l) = true := SeqAt.eqv_refl _ S.can
  rw [e2, decide_eq_true rfl] at e
  subst e
  cases p
  exact k G' H' (g.wide fun b z => nomatch z)

/-! ### fractions -/
def gI (n d : Int) : Int := ((Nat.gcd n.natAbs d.natAbs : Nat) : Int)
def frN (n d : Int) : Int := (if d < 0 then -n else n) / gI n d
def frD (n d : Int) : Int := (if d < 0 then -d else d) / gI n d
def fr (n d : Int) : PyData := .tuple [.int (frN n d), .int (frD n d)]
theorem gI_pos {n d : Int} (h : d ≠ 0) : 0 < gI n d := by
  unfold gI
  have := Nat.gcd_pos_of_pos_right n.natAbs (show 0 < d.natAbs by omega)
  omega
theorem gI_le {n d : Int} (h : d ≠ 0) : (gI n d).natAbs ≤ d.natAbs := by
  unfold gI
  have := Nat.gcd_le_right n.natAbs (show 0 < d.natAbs by omega)
  omega
theorem gI_dvd1 (n d : Int) : gI n d ∣ n := by
  unfold gI
  exact Int.ofNat_dvd_left.mpr (Nat.gcd_dvd_left _ _)
theorem gI_dvd2 (n d : Int) : gI n d ∣ d := by
  unfold gI
  exact Int.ofNat_dvd_left.mpr (Nat.gcd_dvd_right _ _)
theorem frD_pos {n d : Int} (h : d ≠ 0) : 0 < frD n d := by
  unfold frD
  have g := gI_pos (n := n) h
  obtain ⟨c, hc⟩ := gI_dvd2 n d
  split
  · refine Int.ediv_pos_of_pos_of_dvd (by omega) (by omega) ?_
    exact Int.dvd_neg.mpr (gI_dvd2 n d)
  · exact Int.ediv_pos_of_pos_of_dvd (by omega) (by omega) (gI_dvd2 n d)
theorem fr_mulN (n d : Int) (h : d ≠ 0) : frN n d * gI n d = (if d < 0 then -n else n) := by
  unfold frN
  split
  · exact Int.ediv_mul_cancel (Int.dvd_neg.mpr (gI_dvd1 n d))
  · exact Int.ediv_mul_cancel (gI_dvd1 n d)
theorem fr_mulD (n d : Int) (h : d ≠ 0) : frD n d * gI n d = (if d < 0 then -d else d) := by
  unfold frD
  split
  · exact Int.ediv_mul_cancel (Int.dvd_neg.mpr (gI_dvd2 n d))
  · exact Int.ediv_mul_cancel (gI_dvd2 n d)
theorem fr_cop (n d : Int) (h : d ≠ 0) : Nat.gcd (frN n d).natAbs (frD n d).natAbs = 1 := by
  have g := gI_pos (n := n) h
  have e1 := congrArg Int.natAbs (fr_mulN n d h)
  have e2 := congrArg Int.natAbs (fr_mulD n d h)
  rw [Int.natAbs_mul] at e1 e2
  have a1 : (if d < 0 then -n else n).natAbs = n.natAbs := by split <;> omega
  have a2 : (if d < 0 then -d else d).natAbs = d.natAbs := by split <;> omega
  rw [a1] at e1
  rw [a2] at e2
  have gg : (gI n d).natAbs = Nat.gcd n.natAbs d.natAbs := by unfold gI; omega
  have e3 : Nat.gcd ((frN n d).natAbs * (gI n d).natAbs) ((frD n d).natAbs * (gI n d).natAbs) = (gI n d).natAbs := by rw [e1, e2, gg]
  rw [Nat.gcd_mul_right] at e3
  have gp : 0 < (gI n d).natAbs := by omega
  exact Nat.eq_of_mul_eq_mul_right gp (by omega)
/-- lowest terms are told by what they stand for -/
theorem low_eq {a b c d : Int} (hb : 0 < b) (hd : 0 < d) (h1 : Nat.gcd a.natAbs b.natAbs = 1) (h2 : Nat.gcd c.natAbs d.natAbs = 1) (e : a * d = c * b) : a = c ∧ b = d := by
  have en := congrArg Int.natAbs e
  rw [Int.natAbs_mul, Int.natAbs_mul] at en
  have d1 : b.natAbs ∣ d.natAbs := by
    have : b.natAbs ∣ a.natAbs * d.natAbs := by rw [en]; exact Nat.dvd_mul_left _ _
    exact Nat.Coprime.dvd_of_dvd_mul_left (Nat.Coprime.symm h1) this
  have d2 : d.natAbs ∣ b.natAbs := by
    have : d.natAbs ∣ c.natAbs * b.natAbs := by rw [← en]; exact Nat.dvd_mul_left _ _
    exact Nat.Coprime.dvd_of_dvd_mul_left (Nat.Coprime.symm h2) this
  have bd : b.natAbs = d.natAbs := Nat.dvd_antisymm d1 d2
  have bd2 : b = d := by omega
  refine ⟨?_, bd2⟩
  rw [← bd2] at e
  exact Int.eq_of_mul_eq_mul_right (by omega) e
theorem fr_cross (n d : Int) (h : d ≠ 0) : frN n d * d = n * frD n d := by
  have e1 := fr_mulN n d h
  have e2 := fr_mulD n d h
  have g := gI_pos (n := n) h
  have key : frN n d * d * gI n d = n * frD n d * gI n d := by
    rw [Int.mul_right_comm, e1, Int.mul_assoc, e2]
    split
    · rw [Int.neg_mul, Int.mul_neg]
    · rfl
  exact Int.eq_of_mul_eq_mul_right (by omega) key
theorem fr_eq {n d m e : Int} (hd : d ≠ 0) (he : e ≠ 0) (h : n * e = m * d) : fr n d = fr m e := by
  have x : frN n d * frD m e = frN m e * frD n d := by
    have h1 := fr_cross n d hd
    have h2 := fr_cross m e he
    have key : frN n d * frD m e * (d * e) = frN m e * frD n d * (d * e) := by
      calc frN n d * frD m e * (d * e) = (frN n d * d) * (frD m e * e) := by
            rw [Int.mul_assoc, Int.mul_assoc, Int.mul_left_comm (frD m e)]
        _ = (n * frD n d) * (frD m e * e) := by rw [h1]
        _ = (frD n d * frD m e) * (n * e) := by
            rw [Int.mul_comm n, Int.mul_assoc, Int.mul_assoc, Int.mul_left_comm n]
        _ = (frD n d * frD m e) * (m * d) := by rw [h]
        _ = (m * frD m e) * (frD n d * d) := by
            rw [Int.mul_comm m (frD m e), Int.mul_assoc, Int.mul_assoc, Int.mul_left_comm (frD n d), Int.mul_left_comm (frD n d)]
        _ = (frN m e * e) * (frD n d * d) := by rw [← h2]
        _ = frN m e * frD n d * (d * e) := by
            rw [Int.mul_assoc, Int.mul_assoc, Int.mul_comm d e, Int.mul_left_comm e]
    exact Int.eq_of_mul_eq_mul_right (Int.mul_ne_zero hd he) key
  obtain ⟨e1, e2⟩ := low_eq (frD_pos hd) (frD_pos he) (fr_cop n d hd) (fr_cop m e he) x
  unfold fr
  rw [e1, e2]
/-- what is in lowest terms is its own -/
theorem fr_self {a b : Int} (hb : 0 < b) (h : Nat.gcd a.natAbs b.natAbs = 1) : fr a b = .tuple [.int a, .int b] := by
  have g : gI a b = 1 := by unfold gI; rw [h]; rfl
  unfold fr frN frD
  rw [g, if_neg (by omega), if_neg (by omega), Int.ediv_one, Int.ediv_one]
theorem frN_le (n d : Int) (h : d ≠ 0) : (frN n d).natAbs ≤ n.natAbs := by
  have e := congrArg Int.natAbs (fr_mulN n d h)
  rw [Int.natAbs_mul] at e
  have a1 : (if d < 0 then -n else n).natAbs = n.natAbs := by split <;> omega
  rw [a1] at e
  have g := gI_pos (n := n) h
  have := Nat.le_mul_of_pos_right (frN n d).natAbs (show 0 < (gI n d).natAbs by omega)
  omega
theorem frD_le (n d : Int) (h : d ≠ 0) : (frD n d).natAbs ≤ d.natAbs := by
  have e := congrArg Int.natAbs (fr_mulD n d h)
  rw [Int.natAbs_mul] at e
  have a1 : (if d < 0 then -d else d).natAbs = d.natAbs := by split <;> omega
  rw [a1] at e
  have g := gI_pos (n := n) h
  have := Nat.le_mul_of_pos_right (frD n d).natAbs (show 0 < (gI n d).natAbs by omega)
  omega
/-- the program's own way: divided by the divisor with the den's sign -/
theorem fdiv_sign {x n d : Int} (h : d ≠ 0) (hx : gI n d ∣ x) : x.fdiv (if d < 0 then -(gI n d) else gI n d) = (if d < 0 then -x else x) / gI n d := by
  have g := gI_pos (n := n) h
  split
  · have e : x.fdiv (-(gI n d)) = (-x).fdiv (gI n d) := by rw [← Int.neg_fdiv_neg, Int.neg_neg]
    rw [e, Int.fdiv_eq_ediv_of_nonneg _ (by omega)]
  · rw [Int.fdiv_eq_ediv_of_nonneg _ (by omega)]
end Dl
set_option Elab.async false
set_option linter.all false
set_option maxRecDepth 100000
set_option maxHeartbeats 4000000
namespace Dl
open PySem PySem.Spec PyProof.Rows L2

theorem Grow.nob {G H G' H' : Hp} (g : Grow (Mb none) G H G' H') : Grow No G H G' H' := g.wide fun b z => nomatch z
section
variable {K : PySem.W.Frag} {env : List Sl} {b : Option Addr} {ms : Ms} {te ta tb : TE} {P Pa Pb : PyData → Prop} {tt : TT} {Pt : Bool → Prop}
theorem ev_repA {l : List PyData} {k : Nat} (ha : EvP K env b ms ta (Is (.tuple l))) (hb : EvP K env b ms tb (Is (.int k))) (ne : l ≠ []) (h1 : 1 ≤ k) (h2 : k ≤ 1000) (hz : l.length ≤ 1000) : EvP K env b ms (tOp (rRepA K) ta tb) (Is (.tuple (List.replicate k l).flatten)) :=
  ev_op ha hb fun d1 d2 e1 e2 => by
    rw [e1, e2]
    exact fun x y G H p1 p2 s jb Q k' => by
      cases p2
      cases p1 with
      | tup sq da =>
        rename_i a xs
        have xl := dpa_len da
        refine ⟨a, k, xs, rfl, rfl, sqt_mono s sq, fun e => ne (by rw [e] at xl; exact List.eq_nil_of_length_eq_zero xl.symm), by omega, by omega, by omega, fun e => ?_, fun e p hp => ?_⟩
        · have e1 : k = 1 := by omega
          subst e1
          exact k' _ _ G H (Grow.refl s) jb (.tup sq da) (by simp [Is])
        · have g : Grow No G H (upd G p (.tup (List.replicate (k : Int).toNat xs).flatten)) (upd H p (.tup (List.replicate (k : Int).toNat xs).flatten)) := Grow.lay s hp
          have kk : (k : Int).toNat = k := by omega
          refine k' _ _ _ _ g.no (jb.grow g) (.tup (SqT.of upd_same) ?_) rfl
          rw [kk]
          have rep : ∀ n : Nat, DpAll K G (List.replicate n xs).flatten (List.replicate n l).flatten := fun n => by
            induction n with
            | zero => exact .nil
            | succ n ih => rw [List.replicate_succ, List.replicate_succ, List.flatten_cons, List.flatten_cons]; exact dpa_app da ih
          exact dpa_mono (by rw [kk] at g; exact g.g) _ _ (rep k)
end

/-! ### the program's own reckoning, as functions of data -/
def FrD (a b : Int) : PyData := .tuple [.int a, .int b]
def fFrac : List PyData → PyData
  | [.int n, .int d] => fr n d
  | _ => .none
def fPlus : List PyData → PyData
  | [.tuple [.int a, .int b], .tuple [.int c, .int d]] => fr (a * d + c * b) (b * d)
  | _ => .none
def fMinus : List PyData → PyData
  | [.tuple [.int a, .int b], .tuple [.int c, .int d]] => fr (a * d - c * b) (b * d)
  | _ => .none
def fTimes : List PyData → PyData
  | [.tuple [.int a, .int b], .tuple [.int c, .int d]] => fr (a * c) (b * d)
  | _ => .none
def fOver : List PyData → PyData
  | [.tuple [.int a, .int b], .tuple [.int c, .int d]] => fr (a * d) (b * c)
  | _ => .none
def fLess : List PyData → PyData
  | [.tuple [.int a, .int b], .tuple [.int c, .int d]] => .bool (decide (a * d < c * b))
  | _ => .none
def fMost : List PyData → PyData
  | [.tuple [.int a, .int b], .tuple [.int c, .int d]] => .bool (decide (a * d ≤ c * b))
  | _ => .none
def fSign : List PyData → PyData
  | [.tuple [.int a, .int _]] => .int (if a = 0 then 0 else if 0 < a then 1 else -1)
  | _ => .none
def fFloor : List PyData → PyData
  | [.tuple [.int a, .int b]] => .int (a / b)
  | _ => .none
def fWhole : List PyData → PyData
  | [d] => .tuple [d, .int 1]
  | _ => .none
/-- small: a factor at the right -/
def Fs (a b : Int) : Prop := 0 < b ∧ a.natAbs < 2 ^ 63 ∧ b.natAbs < 2 ^ 63
/-- great: a factor at the left -/
def Fb (a b : Int) : Prop := 0 < b ∧ a.natAbs < 2 ^ 1000 ∧ b.natAbs < 2 ^ 1000
theorem Fs.b {a b : Int} (h : Fs a b) : Fb a b := ⟨h.1, Nat.lt_of_lt_of_le h.2.1 (Nat.pow_le_pow_right (by decide) (by decide)), Nat.lt_of_lt_of_le h.2.2 (Nat.pow_le_pow_right (by decide) (by decide))⟩
def dFrac (ds : List PyData) : Prop := ∃ n d : Int, ds = [.int n, .int d] ∧ d ≠ 0 ∧ d.natAbs < 2 ^ 4000
def dTwo (ds : List PyData) : Prop := ∃ a b c d : Int, ds = [FrD a b, FrD c d] ∧ Fb a b ∧ Fs c d
def dOver (ds : List PyData) : Prop := ∃ a b c d : Int, ds = [FrD a b, FrD c d] ∧ Fb a b ∧ Fs c d ∧ c ≠ 0
def dOne (ds : List PyData) : Prop := ∃ a b : Int, ds = [FrD a b] ∧ Fb a b
theorem cmR {x y : Int} (h : y.natAbs < 2 ^ 63) : CMul x y := .inr ⟨by omega, by omega⟩
theorem cmL {x y : Int} (h : x.natAbs < 2 ^ 63) : CMul x y := .inl ⟨by omega, by omega⟩
theorem nat_mul_lt {x y : Int} {a b : Nat} (h1 : x.natAbs < 2 ^ a) (h2 : y.natAbs < 2 ^ b) : (x * y).natAbs < 2 ^ (a + b) := wide_lt h1 h2
theorem pow_le4000 {x : Int} {a : Nat} (h : x.natAbs < 2 ^ a) (ha : a ≤ 4000) : x.natAbs < 2 ^ 4000 := Nat.lt_of_lt_of_le h (Nat.pow_le_pow_right (by decide) ha)
theorem div9000 {d : Int} (h : 0 < d) (hb : d.natAbs < 2 ^ 4000) : CDivW 0 d := wide_div h hb (by decide) (by decide)
theorem floor_law {a b : Int} (hb : 0 < b) : (if 0 ≤ a then a / b else -((-a + b - 1) / b)) = a / b := by
  split
  · rfl
  · have e := Int.emod_add_mul_ediv a b
    have r0 := Int.emod_nonneg a (show b ≠ 0 by omega)
    have r1 := Int.emod_lt_of_pos a hb
    have k : -a + b - 1 = (b - 1 - a % b) + b * (-(a / b)) := by
      rw [Int.mul_neg]; omega
    rw [k, Int.add_mul_ediv_left _ _ (show b ≠ 0 by omega), Int.ediv_eq_zero_of_lt (by omega) (by omega)]
    omega
end Dl
namespace Dl
open PySem PySem.Spec PyProof.Rows L2
section
variable {K : PySem.W.Frag} {env : List Sl} {b : Option Addr} {ms : Ms} {te ta tb : TE} {P Pa Pb : PyData → Prop} {tt : TT} {Pt : Bool → Prop}
/-- tuple(a new list) -/
theorem ev_tupN {Pr : List PyData → Prop} (h : EvN K env b ms te Pr) : EvP K env b ms (tCB (rTupOf K) (tCons te tNil)) (fun d => ∃ m, d = .tuple m ∧ Pr m) := by
  refine ev_cbP (ea_consP (ev_new h) ea_nil) fun ds ⟨x, y, e, ⟨m, e1, q⟩, e2⟩ => ?_
  rw [e, e1, e2]
  exact fun xs G H p s j Q k => rc_tupL xs G H p s j Q fun v d G2 H2 g2 j2 p2 q2 => k v d G2 H2 g2 j2 p2 ⟨m, q2, q⟩
/-- tuple([e for x in walk]), e a function of the item -/
theorem ev_tupMap {wi : TI} {g : TG} {vs : List Nat} {l : List PyData} {f : PyData → List Sl → List Sl} {F : PyData → PyData} (hi : EvI K env b ms wi (Is l)) (hl : l.length ≤ 1000) (hg : ∀ x ∈ l, TgP K g vs x (f x))
    (he : ∀ x ∈ l, EvP K (f x (wipeE env vs)) b ms te (Is (F x))) : EvP K env b ms (tCB (rTupOf K) (tCons (tLc wi g tYes te vs) tNil)) (Is (.tuple (l.map F))) := by
  refine ev_imp (ev_tupN (en_lc (T := fun _ c => c = true) (E := fun x y => y = F x) hi (fun m e => by rw [e]; exact hl) (fun m e x hx => by rw [e] at hx; exact hg x hx) (fun m e x hx => et_yes) fun m e x hx _ => by rw [e] at hx; exact he x hx)) ?_
  rintro d ⟨m, e, l', e1, lc⟩
  rw [e, lc.map, e1]
/-- .. e told by a relation -/
theorem ev_tupAll {wi : TI} {g : TG} {vs : List Nat} {l : List PyData} {f : PyData → List Sl → List Sl} {E : PyData → PyData → Prop} (hi : EvI K env b ms wi (Is l)) (hl : l.length ≤ 1000) (hg : ∀ x ∈ l, TgP K g vs x (f x))
    (he : ∀ x ∈ l, EvP K (f x (wipeE env vs)) b ms te (E x)) : EvP K env b ms (tCB (rTupOf K) (tCons (tLc wi g tYes te vs) tNil)) (fun d => ∃ m, d = .tuple m ∧ Lc (fun _ c => c = true) E l m) := by
  refine ev_imp (ev_tupN (en_lc (T := fun _ c => c = true) (E := E) hi (fun m e => by rw [e]; exact hl) (fun m e x hx => by rw [e] at hx; exact hg x hx) (fun m e x hx => et_yes) fun m e x hx _ => by rw [e] at hx; exact he x hx)) ?_
  rintro d ⟨m, e, l', e1, lc⟩
  exact ⟨m, e, by rw [← e1]; exact lc⟩
end
def setPair (i j : Nat) : PyData → List Sl → List Sl
  | .tuple [p, q], env => (env.set i (.d p)).set j (.d q)
  | _, env => env
theorem pairs_mem : ∀ {l m : List PyData} {x : PyData}, x ∈ pairs l m → ∃ p q, x = .tuple [p, q] ∧ p ∈ l ∧ q ∈ m
  | [], _, _, h => by simp [pairs] at h
  | _ :: _, [], _, h => by simp [pairs] at h
  | a :: l, c :: m, x, h => by
    simp only [pairs, List.mem_cons] at h
    rcases h with rfl | h
    · exact ⟨a, c, rfl, by simp, by simp⟩
    · obtain ⟨p, q, e, h1, h2⟩ := pairs_mem h
      exact ⟨p, q, e, by simp [h1], by simp [h2]⟩
theorem tg_setPair {K : PySem.W.Frag} {i j : Nat} {vs : List Nat} {l m : List PyData} (hi : i ∈ vs) (hj : j ∈ vs) : ∀ x ∈ pairs l m, TgP K (gTup K 2 (gCons (gName i) (gCons (gName j) gNil))) vs x (setPair i j x) := fun x hx => by
  obtain ⟨p, q, rfl, _, _⟩ := pairs_mem hx
  exact tg_pair hi hj
def onPair (F : List PyData → PyData) : PyData → PyData
  | .tuple [p, q] => F [p, q]
  | _ => .none
/-- a tuple of small fractions -/
def SFs (l : List PyData) : Prop := ∀ x ∈ l, ∃ a b : Int, x = FrD a b ∧ Fs a b
def dVec (ds : List PyData) : Prop := ∃ xs ys, ds = [.tuple xs, .tuple ys] ∧ SFs xs ∧ SFs ys ∧ xs.length ≤ 1000 ∧ ys.length ≤ 1000
def rVec (F : List PyData → PyData) (l : List PyData) (x : PyData) : Prop := ∃ xs ys, l = [.tuple xs, .tuple ys] ∧ x = .tuple ((pairs xs ys).map (onPair F))
def dMul (ds : List PyData) : Prop := ∃ a b ys, ds = [FrD a b, .tuple ys] ∧ Fb a b ∧ SFs ys ∧ ys.length ≤ 1000
def rMul (l : List PyData) (x : PyData) : Prop := ∃ s ys, l = [s, .tuple ys] ∧ x = .tuple (ys.map fun y => fTimes [s, y])
def dVecOf (ds : List PyData) : Prop := ∃ ys, ds = [.tuple ys] ∧ ys.length ≤ 1000
def rVecOf (l : List PyData) (x : PyData) : Prop := ∃ ys, l = [.tuple ys] ∧ x = .tuple (ys.map fun y => fWhole [y])
def dNought (ds : List PyData) : Prop := ∃ cells rest, ds = [.tuple (.tuple cells :: rest)] ∧ 1 ≤ cells.length ∧ cells.length ≤ 1000
def rNought (l : List PyData) (x : PyData) : Prop := ∃ cells rest, l = [.tuple (.tuple cells :: rest)] ∧ x = .tuple (List.replicate cells.length (FrD 0 1))
theorem rep_one {α : Type} (n : Nat) (x : α) : (List.replicate n [x]).flatten = List.replicate n x := by
  induction n with
  | zero => rfl
  | succ n ih => rw [List.replicate_succ, List.flatten_cons, ih]; rfl
theorem pairs_len1000 {l m : List PyData} (h : l.length ≤ 1000) : (pairs l m).length ≤ 1000 := by rw [pairs_len]; omega

/-! ### what the law's helpers give -/
def someDom (ds : List PyData) : Prop := ∃ l, ds = [.list l] ∧ l ≠ [] ∧ l.length ≤ 1000
def someR (ds : List PyData) (d : PyData) : Prop := ∃ l, ds = [.list l] ∧ d ∈ l
def mixDom (ds : List PyData) : Prop := ∃ l, ds = [.list l] ∧ l.length ≤ 1000
def mixR (ds : List PyData) (d : PyData) : Prop := ∃ l m, ds = [.list l] ∧ d = .list m ∧ m.Perm l
def spBag (K : PySem.W.Frag) : Sp := fun vs H Q _ => ∃ (a : Addr) (ns : List Int), vs = [.ref a] ∧ SqL K H a (ns.map V.int) ∧ ns.length ≤ 63 ∧
  ∀ b G' H', Grow No H H G' H' → H b = none → BagAt K b G' H' → Q (.ref b) H'
def numR (_ : List PyData) (d : PyData) : Prop := ∃ z : Int, d = .int z ∧ z.natAbs ≤ 500000000
def drawnR (_ : List PyData) (d : PyData) : Prop := ∃ n m : Int, d = fr n m ∧ 0 < m ∧ m ≤ 500000001 ∧ n.natAbs ≤ 500000000
def manyDom (ds : List PyData) : Prop := ∃ n : Nat, ds = [.int (n : Nat)] ∧ 1 ≤ n ∧ n ≤ 100
def standR (ds : List PyData) (d : PyData) : Prop := ∃ (n : Nat) (xs : List PyData), ds = [.int (n : Nat)] ∧ d = .tuple xs ∧ xs.length = n ∧ ∀ x ∈ xs, ∃ a c : Int, x = fr a c ∧ 0 < c ∧ c ≤ 3 ∧ a.natAbs ≤ 4
def readingR (ds : List PyData) (d : PyData) : Prop := ∃ (n : Nat) (zs : List Int), ds = [.int (n : Nat)] ∧ d = .tuple (zs.map .int) ∧ zs.length = n ∧ ∀ z ∈ zs, z.natAbs ≤ 3
/-- a frame's cells: some of these names, in some order -/
def frameR (ds : List PyData) (d : PyData) : Prop := ∃ (n : Nat) (cells groups free : List PyData) (way : PyData), ds = [.int (n : Nat)] ∧ d = .tuple [.tuple cells, .tuple groups, .tuple free, way] ∧ 1 ≤ cells.length ∧ cells.length ≤ n
end Dl
namespace Dl
open PySem L2
theorem at0 {α : Type} {x : α} {l : List α} : atI (x :: l) 0 = some x := atI_nat (j := 0) rfl
theorem at1 {α : Type} {x y : α} {l : List α} : atI (x :: y :: l) 1 = some y := atI_nat (j := 1) rfl
end Dl
set_option Elab.async false
set_option linter.all false
set_option maxRecDepth 100000
set_option maxHeartbeats 4000000
namespace Dl
open PySem PySem.Spec PyProof.Rows L2
section
variable {K : PySem.W.Frag} {env : List Sl} {b : Option Addr} {ms : Ms} {te ta tb : TE} {P Pa Pb : PyData → Prop} {tt tu : TT} {Pt Pu : Bool → Prop} {D : Ends} {tw tz : TS} {ts : TS} {G0 H0 Gs G H : Hp} {σ : L2.St}
theorem ev_take {x : Addr} {i : Nat} {n : Int} (hi : env[i]? = some (.a x)) (h : EvP K env (some x) ms te (Is (.int n))) (h0 : 0 < n) (h1 : n < 2 ^ 60) :
    EvP K env (some x) ms (tCall (spB K 1 takeDom takeR) [] E0 (tCons (tVar i) (tCons te tNil))) (fun d => ∃ r, d = .int r ∧ 0 ≤ r ∧ r < n) :=
  ev_imp (ev_callB hi rfl (ea_cons h ea_nil) fun ds e => ⟨by rw [e]; rfl, _, e, h0, h1⟩) fun d ⟨ds, e1, n', r, e2, e3, r0, r1⟩ => by
    rw [e1] at e2
    cases e2
    exact ⟨r, e3, r0, r1⟩
theorem ev_takeP {x : Addr} {i : Nat} {C : Int → Prop} {m : Int} (hi : env[i]? = some (.a x)) (h : EvP K env (some x) ms te (fun d => ∃ n, d = .int n ∧ C n)) (hC : ∀ n, C n → 0 < n ∧ n ≤ m) (h1 : m < 2 ^ 60) :
    EvP K env (some x) ms (tCall (spB K 1 takeDom takeR) [] E0 (tCons (tVar i) (tCons te tNil))) (fun d => ∃ r, d = .int r ∧ 0 ≤ r ∧ r < m) :=
  ev_imp (ev_callB hi rfl (ea_consP h ea_nil) fun ds ⟨d, r, e, ⟨n, e1, c⟩, e2⟩ => ⟨by rw [e, e2]; rfl, n, by rw [e, e1, e2], (hC n c).1, by have := (hC n c).2; omega⟩) fun d ⟨ds, ⟨d', r', e, ⟨n, e1, c⟩, e2⟩, n', r, e3, e4, r0, r1⟩ => by
    rw [e, e1, e2] at e3
    cases e3
    have := (hC n c).2
    exact ⟨r, e4, r0, by omega⟩
theorem ev_some {x : Addr} {i : Nat} {l : List PyData} (hi : env[i]? = some (.a x)) (h : EvP K env (some x) ms te (Is (.list l))) (h0 : l ≠ []) (h1 : l.length ≤ 1000) :
    EvP K env (some x) ms (tCall (spB K 1 someDom someR) [] E0 (tCons (tVar i) (tCons te tNil))) (fun d => d ∈ l) :=
  ev_imp (ev_callB hi rfl (ea_cons h ea_nil) fun ds e => ⟨by rw [e]; rfl, _, e, h0, h1⟩) fun d ⟨ds, e1, l', e2, m⟩ => by
    rw [e1] at e2
    cases e2
    exact m
theorem ev_someI {x : Addr} {i : Nat} {zs : List Int} (hi : env[i]? = some (.a x)) (h : EvP K env (some x) ms te (Is (.list (zs.map .int)))) (h0 : zs ≠ []) (h1 : zs.length ≤ 1000) :
    EvP K env (some x) ms (tCall (spB K 1 someDom someR) [] E0 (tCons (tVar i) (tCons te tNil))) (fun d => ∃ z, d = .int z ∧ z ∈ zs) :=
  ev_imp (ev_some hi h (by simpa using h0) (by simpa using h1)) fun d m => by
    obtain ⟨z, hz, e⟩ := List.mem_map.mp m
    exact ⟨z, e.symm, hz⟩
theorem Lc.mem {T : PyData → Bool → Prop} {E : PyData → PyData → Prop} {l m : List PyData} (h : Lc T E l m) : ∀ y ∈ m, ∃ x ∈ l, E x y := by
  induction h with
  | nil => intro y hy; cases hy
  | @yes l m x y h1 h2 h3 ih =>
    intro z hz
    rcases List.mem_append.mp hz with hz | hz
    · obtain ⟨w, hw, e⟩ := ih z hz
      exact ⟨w, by simp [hw], e⟩
    · have : z = y := by simpa using hz
      subst this
      exact ⟨x, by simp, h3⟩
  | no _ h ih => intro z hz; obtain ⟨w, hw, e⟩ := ih z hz; exact ⟨w, by simp [hw], e⟩
theorem ints_of {C : Int → Prop} : ∀ {m : List PyData}, (∀ y ∈ m, ∃ c, y = .int c ∧ C c) → ∃ cs : List Int, m = cs.map .int ∧ ∀ c ∈ cs, C c
  | [], _ => ⟨[], rfl, fun c h => by cases h⟩
  | y :: m, h => by
    obtain ⟨c, e, hc⟩ := h y (by simp)
    obtain ⟨cs, e2, h2⟩ := ints_of (m := m) fun z hz => h z (by simp [hz])
    exact ⟨c :: cs, by rw [e, e2]; rfl, fun z hz => by
      rcases List.mem_cons.mp hz with rfl | hz
      · exact hc
      · exact h2 z hz⟩
theorem cutD_mem {l : List PyData} {lo hi : Option Int} {x : PyData} (h : x ∈ cutD l lo hi) : x ∈ l := List.mem_of_mem_drop (List.mem_of_mem_take h)
theorem cutD_len (l : List PyData) (lo hi : Option Int) : (cutD l lo hi).length ≤ l.length := by
  unfold cutD
  rw [List.length_take, List.length_drop]; omega
/-- l.append(a new list that will change) -/
theorem s_appM {i n : Nat} {l : Addr} {es : List Sl} {Pl : List PyData → Prop} (A : At K env b ms G0 H0 Gs σ G H) (hi : env[i]? = some (.a l)) (hm : ms[n]? = some (l, es)) (h : EvN K env b ms te Pl) (hz : es.length ≤ 2000)
    (k : ∀ r ds G' H', Pl ds → At K env b ((r, ds.map .d) :: ms.set n (l, es ++ [.a r])) G0 H0 Gs σ G' H' → D.nx σ H') : tDrop (tBM K "list" rAppend (tVar i) (tCons te tNil)) D σ H := by
  obtain ⟨gl, nb, xs, hl, el⟩ := A.j.mu _ (List.mem_of_getElem? hm)
  refine ⟨.ref l, A.env.addr hi, tyL hl, h σ G H A.env A.gr.gh A.j _ fun r ys ds G2 H2 g j nn f hr da q => ?_⟩
  have hl2 : H2 l = some (.lst xs) := g.keep _ _ hl nb
  have xl : xs.length = es.length := by have := el.1; simpa using this
  refine ⟨l, xs, .ref r, rfl, rfl, hl2, Nat.lt_of_le_of_lt (by rw [xl]; exact hz) (by decide), ?_⟩
  have rb : b ≠ some r := fun z => by
    obtain ⟨_, _, _, _, _, _, e0, _⟩ := A.j.bag r z
    rw [nn] at e0; cases e0
  have rl : r ≠ l := fun z => by rw [z, hl] at nn; cases nn
  have A2 := (A.step g j).write (n := n) (l := l) (es' := es ++ [.a r]) (xs' := xs ++ [.ref r]) hm (by
    rw [List.map_append]
    exact env_app (el.mono g.g) (.cons rfl .nil))
  refine k r ds G2 _ q ⟨A2.env, A2.gr, A2.sg, ⟨A2.j.bag, fun p hp => ?_⟩, fun p hp => ?_, ?_⟩
  · rcases List.mem_cons.mp hp with rfl | hp
    · exact ⟨f, rb, ys, by rw [upd_ne rl]; exact hr, env_data da⟩
    · exact A2.j.mu p hp
  · rcases List.mem_cons.mp hp with rfl | hp
    · exact A.gr.dom _ nn
    · exact A2.own p hp
  · rw [List.map_cons, List.nodup_cons]
    refine ⟨fun hmm => ?_, A2.nd⟩
    obtain ⟨p, hp, e⟩ := List.mem_map.mp hmm
    obtain ⟨q2, hq2⟩ := List.mem_iff_getElem?.mp hp
    have key : ∃ p2 ∈ ms, p2.1 = p.1 := by
      by_cases qq : n = q2
      · subst qq
        rw [List.getElem?_set_self (List.getElem?_eq_some_iff.mp hm).1] at hq2
        cases hq2
        exact ⟨_, List.mem_of_getElem? hm, rfl⟩
      · rw [List.getElem?_set_ne qq] at hq2
        exact ⟨p, List.mem_of_getElem? hq2, rfl⟩
    obtain ⟨p2, hp2, e2⟩ := key
    obtain ⟨_, _, _, mm, _⟩ := A.j.mu p2 hp2
    rw [e2, e, nn] at mm; cases mm
/-- groups[k].append(e): one of the lists in a list of ours -/
theorem s_appIx {n : Nat} {i : Nat} {gl : Addr} {rs : List Addr} {C : Int → Prop} (A : At K env b ms G0 H0 Gs σ G H) (hi : env[i]? = some (.a gl)) (hm : ms[n]? = some (gl, rs.map .a))
    (ht : EvP K env b ms ta (fun d => ∃ z, d = .int z ∧ C z)) (hC : ∀ z, C z → 0 ≤ z ∧ z < rs.length) (hr : ∀ r ∈ rs, ∃ m : Nat, ∃ es, ms[m]? = some (r, es) ∧ es.length ≤ 2000) (h : EvP K env b ms te P)
    (k : ∀ (r : Addr) (m : Nat) es d G' H', r ∈ rs → ms[m]? = some (r, es) → P d → At K env b (ms.set m (r, es ++ [.d d])) G0 H0 Gs σ G' H' → D.nx σ H') : tDrop (tBM K "list" rAppend (tOp (rIxL K) (tVar i) ta) (tCons te tNil)) D σ H := by
  obtain ⟨gg, nb, xs, hl, el⟩ := A.j.mu _ (List.mem_of_getElem? hm)
  refine ⟨.ref gl, A.env.addr hi, ht σ G H A.env A.gr.gh A.j _ fun v d G1 H1 g1 j1 p1 ⟨z, e1, c⟩ => ?_⟩
  subst e1
  cases p1
  obtain ⟨z0, z1⟩ := hC z c
  have zt : z.toNat < rs.length := by omega
  obtain ⟨s, es1, es2⟩ := el.2 z.toNat (.a rs[z.toNat]) (by rw [List.getElem?_map, List.getElem?_eq_getElem zt]; rfl)
  have es3 : s = some (.ref rs[z.toNat]) := es2
  subst es3
  have xv : xs[z.toNat]? = some (.ref rs[z.toNat]) := by
    rw [List.getElem?_map] at es1
    cases q : xs[z.toNat]? with
    | none => rw [q] at es1; cases es1
    | some w => rw [q] at es1; cases es1; rfl
  have at1 : atI xs z = some (.ref rs[z.toNat]) := by
    have := atI_nat xv
    rw [show ((z.toNat : Nat) : Int) = z from by omega] at this
    exact this
  have hl1 : H1 gl = some (.lst xs) := g1.keep _ _ hl nb
  obtain ⟨m, es, hmm, hes⟩ := hr rs[z.toNat] (List.getElem_mem zt)
  obtain ⟨gr, nbr, ys, hlr, elr⟩ := j1.mu _ (List.mem_of_getElem? hmm)
  refine ⟨gl, xs, z, .ref rs[z.toNat], rfl, rfl, SqL.of hl1, at1, tyL hlr, ?_⟩
  have A1 := A.step g1 j1
  refine h σ G1 H1 A1.env A1.gr.gh A1.j _ fun v d G2 H2 g j p q => ?_
  have hlr2 : H2 rs[z.toNat] = some (.lst ys) := g.keep _ _ hlr nbr
  have yl : ys.length = es.length := by have := elr.1; simpa using this
  refine ⟨_, ys, v, rfl, rfl, hlr2, Nat.lt_of_le_of_lt (by rw [yl]; exact hes) (by decide), ?_⟩
  refine k _ m es d G2 _ (List.getElem_mem zt) hmm q ((A1.step g j).write hmm ?_)
  rw [List.map_append]
  exact env_app (elr.mono g.g) (.cons (slot_d p) .nil)
theorem dpa_of_env : ∀ (ds : List PyData) (xs : List V), EnvOk K G (xs.map some) (ds.map .d) → DpAll K G xs ds := by
  intro ds
  induction ds with
  | nil => intro xs h; cases xs with
    | nil => exact .nil
    | cons x xs => have := h.1; simp at this
  | cons d ds ih => intro xs h; cases xs with
    | nil => have := h.1; simp at this
    | cons x xs =>
      obtain ⟨s, e1, v, e2, e3⟩ := h.2 0 (.d d) rfl
      have e4 : x = v := by simp at e1; rw [e2] at e1; exact Option.some.inj e1
      subst e4
      exact .cons e3 (ih xs ⟨by have := h.1; simpa using this, fun i e he => by
        obtain ⟨s, f1, f2⟩ := h.2 (i + 1) e (by simpa using he)
        exact ⟨s, by simpa using f1, f2⟩⟩)
/-- a list of lists of ours: its data as they stand -/
theorem dp_nest {gs : List (Addr × List PyData)} {gl : Addr} {G2 : Hp} (up : Same G G2) (hx : ∀ p ∈ gs, ∃ xs, G2 p.1 = some (.lst xs) ∧ EnvOk K G (xs.map some) (p.2.map .d)) (hg : ∃ xs, G2 gl = some (.lst xs) ∧ EnvOk K G (xs.map some) (gs.map fun p => .a p.1)) :
    Dp K G2 (.ref gl) (.list (gs.map fun p => .list p.2)) := by
  obtain ⟨xs, e1, e2⟩ := hg
  refine .lst (SqL.of e1) ?_
  have go : ∀ (gs : List (Addr × List PyData)) (xs : List V), (∀ p ∈ gs, ∃ xs, G2 p.1 = some (.lst xs) ∧ EnvOk K G (xs.map some) (p.2.map .d)) → EnvOk K G (xs.map some) (gs.map fun p => .a p.1) → DpAll K G2 xs (gs.map fun p => .list p.2) := by
    intro gs
    induction gs with
    | nil => intro xs _ h; cases xs with
      | nil => exact .nil
      | cons x xs => have := h.1; simp at this
    | cons p gs ih => intro xs hp h; cases xs with
      | nil => have := h.1; simp at this
      | cons x xs =>
        obtain ⟨s, f1, f2⟩ := h.2 0 (.a p.1) rfl
        have f3 : s = some (.ref p.1) := f2
        have f4 : x = .ref p.1 := by simp at f1; rw [f3] at f1; exact Option.some.inj f1
        subst f4
        obtain ⟨ys, g1, g2⟩ := hp p (by simp)
        refine .cons (.lst (SqL.of g1) (dpa_mono up _ _ (dpa_of_env _ _ g2))) (ih xs (fun q hq => hp q (by simp [hq])) ⟨by have := h.1; simpa using this, fun i e he => by
          obtain ⟨s, u1, u2⟩ := h.2 (i + 1) e (by simpa using he)
          exact ⟨s, by simpa using u1, u2⟩⟩)
  exact go gs xs hx e2
/-- a list of lists of ours: all of it still from now on -/
theorem At.freezeNest {i : Nat} {gl : Addr} {gs : List (Addr × List PyData)} (A : At K env b ms G0 H0 Gs σ G H) (hi : env[i]? = some (.a gl)) (hg : (gl, gs.map fun p => Sl.a p.1) ∈ ms) (hp : ∀ p ∈ gs, (p.1, p.2.map Sl.d) ∈ ms) :
    ∃ G2, At K (env.set i (.d (.list (gs.map fun p => .list p.2)))) b [] G0 H0 Gs σ G2 H := by
  let S : Addr → Prop := fun c => c = gl ∨ ∃ p ∈ gs, p.1 = c
  have dec : ∀ c, S c ∨ ¬ S c := fun c => Classical.em _
  have off : ∀ c, S c → G c = none ∧ b ≠ some c ∧ H0 c = none ∧ ∃ xs, H c = some (.lst xs) := by
    rintro c (rfl | ⟨p, hp1, rfl⟩)
    · obtain ⟨a1, a2, xs, a3, _⟩ := A.j.mu _ hg
      exact ⟨a1, a2, A.own _ hg, xs, a3⟩
    · obtain ⟨a1, a2, xs, a3, _⟩ := A.j.mu _ (hp p hp1)
      exact ⟨a1, a2, A.own _ (hp p hp1), xs, a3⟩
  let G2 : Hp := fun c => @ite _ (S c) (Classical.propDecidable _) (H c) (G c)
  have in2 : ∀ c, S c → G2 c = H c := fun c h => by show @ite _ (S c) (Classical.propDecidable _) (H c) (G c) = H c; rw [if_pos h]
  have out2 : ∀ c, ¬ S c → G2 c = G c := fun c h => by show @ite _ (S c) (Classical.propDecidable _) (H c) (G c) = G c; rw [if_neg h]
  have up : Same G G2 := fun c o e => by
    rcases dec c with h | h
    · rw [(off c h).1] at e; cases e
    · rw [out2 c h]; exact e
  have gh : Same G2 H := fun c o e => by
    rcases dec c with h | h
    · rw [in2 c h] at e; exact e
    · rw [out2 c h] at e; exact A.gr.gh c o e
  have d : Dp K G2 (.ref gl) (.list (gs.map fun p => .list p.2)) := by
    refine dp_nest (G := G) up (fun p h => ?_) ?_
    · obtain ⟨_, _, xs, a3, a4⟩ := A.j.mu _ (hp p h)
      exact ⟨xs, by rw [in2 p.1 (.inr ⟨p, h, rfl⟩)]; exact a3, a4⟩
    · obtain ⟨_, _, xs, a3, a4⟩ := A.j.mu _ hg
      exact ⟨xs, by rw [in2 gl (.inl rfl)]; exact a3, a4⟩
  have hσ := A.env.addr hi
  have eset : σ.set i (some (.ref gl)) = σ := by
    apply List.ext_getElem?
    intro j
    by_cases q : i = j
    · subst q
      rw [hσ, List.getElem?_set_self (List.getElem?_eq_some_iff.mp hσ).1]
    · rw [List.getElem?_set_ne q]
  refine ⟨G2, ?_, ⟨A.gr.g.trans up, gh, A.gr.dom, A.gr.keep, fun c o e => ?_⟩, A.sg.trans up, ⟨fun x ex => ?_, fun p hp => (nomatch hp)⟩, fun p hp => (nomatch hp), List.nodup_nil⟩
  · have h := (A.env.mono up).set (i := i) (v := .ref gl) (slot_d d)
    rw [eset] at h
    exact h
  · rcases dec c with h | h
    · exact .inr (off c h).2.2.1
    · rw [out2 c h] at e; exact A.gr.new c o e
  · obtain ⟨b1, z0, z1, z2, lb, cs, b2, b3, b4⟩ := A.j.bag x ex
    exact ⟨by rw [out2 x fun h => (off x h).2.1 ex]; exact b1, z0, z1, z2, lb, cs, b2, up.seq b3, b4⟩
/-- a list of ours of lists of ours isn't empty, or is -/
theorem et_neNest {i : Nat} {gl : Addr} {gs : List (Addr × List PyData)} (hi : env[i]? = some (.a gl)) (hg : (gl, gs.map fun p => Sl.a p.1) ∈ ms) (hp : ∀ p ∈ gs, (p.1, p.2.map Sl.d) ∈ ms) (sh : SeqAt.shaped (.list (gs.map fun p => .list p.2)) = true) :
    EtP K env b ms (tTest (tOp (rNeD K) (tVar i) (tLst tNil))) (fun c => c = decide (gs ≠ [])) := fun σ G H e s j Q k => by
  refine ⟨.ref gl, e.addr hi, by show 0 ≤ sizeLine; decide, fun p hpn => ?_⟩
  have g : Grow No G H G (upd H p (.lst [])) := Grow.lay0 s hpn
  have keep : ∀ c o, H c = some o → upd H p (.lst []) c = some o := fun c o z => g.keep c o z fun q => q
  have d : Dp K (upd H p (.lst [])) (.ref gl) (.list (gs.map fun p => .list p.2)) := by
    refine dp_nest (G := G) g.gh (fun q h => ?_) ?_
    · obtain ⟨_, _, xs, a3, a4⟩ := j.mu _ (hp q h)
      exact ⟨xs, keep _ _ a3, a4⟩
    · obtain ⟨_, _, xs, a3, a4⟩ := j.mu _ hg
      exact ⟨xs, keep _ _ a3, a4⟩
  refine ⟨_, .list [], d, .lst (SqL.of upd_same) .nil, sh, rfl, _, rfl, k _ G _ g.no (j.grow g) ?_⟩
  cases gs with
  | nil => rfl
  | cons a l => rfl
end
end Dl
namespace Dl
open PySem PySem.Spec PyProof.Rows L2
section
variable {K : PySem.W.Frag} {env : List Sl} {b : Option Addr} {ms : Ms} {te ta tb : TE}
theorem nd_eq {ms : Ms} (nd : (ms.map (·.1)).Nodup) {p q : Addr × List Sl} (hp : p ∈ ms) (hq : q ∈ ms) (e : p.1 = q.1) : p = q := by
  obtain ⟨i, hi⟩ := List.mem_iff_getElem?.mp hp
  obtain ⟨j, hj⟩ := List.mem_iff_getElem?.mp hq
  have h1 : (ms.map (·.1))[i]? = some q.1 := by rw [List.getElem?_map, hi]; exact congrArg some e
  have h2 : (ms.map (·.1))[j]? = some q.1 := by rw [List.getElem?_map, hj]; rfl
  obtain ⟨k1, k2⟩ := List.getElem?_eq_some_iff.mp h1
  obtain ⟨k3, k4⟩ := List.getElem?_eq_some_iff.mp h2
  have ij : i = j := (List.getElem_inj nd).mp (k2.trans k4.symm)
  subst ij
  rw [hi] at hj
  exact Option.some.inj hj
theorem mem_set_ne {ms : Ms} {m : Nat} {r : Addr} {es : List Sl} {z q : Addr × List Sl} (hm : ms[m]? = some (r, es)) (hq : q ∈ ms) (ne : q.1 ≠ r) : q ∈ ms.set m z := by
  obtain ⟨i, hi⟩ := List.mem_iff_getElem?.mp hq
  have : m ≠ i := fun e => by rw [e, hi] at hm; cases hm; exact ne rfl
  exact List.mem_of_getElem? (i := i) (by rw [List.getElem?_set_ne this]; exact hi)
theorem mem_set_eq {ms : Ms} {m : Nat} {p z : Addr × List Sl} (hm : ms[m]? = some p) : z ∈ ms.set m z :=
  List.mem_of_getElem? (i := m) (List.getElem?_set_self (List.getElem?_eq_some_iff.mp hm).1)
def strIn (s : Str) (l : List PyData) : Bool := l.any fun d => match d with
  | .str t => decide (t = s)
  | _ => false
theorem strIn_iff {s : Str} {l : List PyData} : strIn s l = true ↔ PyData.str s ∈ l := by
  unfold strIn
  rw [List.any_eq_true]
  constructor
  · rintro ⟨d, hd, e⟩
    cases d with
    | str t => have e2 : t = s := of_decide_eq_true e; rw [← e2]; exact hd
    | _ => cases e
  · intro h
    exact ⟨_, h, decide_eq_true rfl⟩
/-- a text in a list of texts, or not -/
theorem et_inS {neg : Bool} {s : Str} {l : List PyData} (ha : EvP K env b ms ta (Is (.str s))) (hb : EvP K env b ms tb (Is (.list l))) (hl : ∀ x ∈ l, ∃ t : Str, x = .str t) :
    EtP K env b ms (tTest (tOp (rIn K neg) ta tb)) (fun c => c = (if neg then !strIn s l else strIn s l)) := fun σ G H e sm j Q k =>
  ha σ G H e sm j _ fun v d G1 H1 g1 j1 p1 q1 => hb σ G1 H1 (e.mono g1.g) g1.gh j1 _ fun w d2 G2 H2 g2 j2 p2 q2 => by
    subst q1 q2
    cases p1
    cases p2 with
    | lst sq da =>
      rename_i a xs
      have fl : ∀ (l : List PyData) (xs : List V), DpAll K G2 xs l → (∀ x ∈ l, ∃ t : Str, x = .str t) → xs.all flatV = true ∧ inV (.str s) xs = strIn s l := by
        intro l
        induction l with
        | nil => intro xs h _; cases h; exact ⟨rfl, rfl⟩
        | cons d l ih =>
          intro xs h hx
          cases h with
          | cons p t =>
            obtain ⟨u, rfl⟩ := hx d (by simp)
            cases p
            obtain ⟨h1, h2⟩ := ih _ t fun x hm => hx x (by simp [hm])
            refine ⟨by rw [List.all_cons, h1]; rfl, ?_⟩
            unfold inV at h2 ⊢
            rw [List.any_cons, h2]
            show (eqV (V.str u) (V.str s) || strIn s l) = ((decide (u = s)) || strIn s l)
            congr 1
      obtain ⟨h1, h2⟩ := fl _ _ da hl
      refine ⟨a, xs, rfl, .inl (g2.gh.seq sq), rfl, h1, _, rfl, k _ G2 H2 (g1.trans g2) j2 ?_⟩
      rw [h2]
theorem sma_shaped {l : List PyData} {w h : Nat} (s : SmA l w h) (hh : h ≤ 59) : SeqAt.shaped (.list l) = true := (sm_list s).shaped (by omega)
theorem cutD_take {l : List PyData} {i : Int} (h : 0 ≤ i) : cutD l none (some i) = l.take (min i.toNat l.length) := by
  unfold cutD
  have e1 : HT.sIx l.length 0 none = 0 := rfl
  have e2 : HT.sIx l.length l.length (some i) = min i.toNat l.length := by
    unfold HT.sIx
    exact if_neg (by omega)
  rw [e1, e2, List.drop_zero, Nat.sub_zero]
end
def nm12 : List PyData := [.str "a", .str "b", .str "rent", .str "x", .str "y", .str "sum", .str "ab", .str "abcdefghijkl", .str "z", .str "p", .str "tax", .str "q"]
theorem nm_ok : ∀ x ∈ nm12, ∃ s : Str, x = .str s ∧ PyData.canLay0 x = true ∧ PyData.leavesShort 202 x = true ∧ PyData.weight x ≤ 12 := by
  intro x hx
  simp only [nm12, List.mem_cons, List.not_mem_nil, or_false] at hx
  rcases hx with rfl | rfl | rfl | rfl | rfl | rfl | rfl | rfl | rfl | rfl | rfl | rfl <;> exact ⟨_, rfl, by decide +kernel, by decide +kernel, by decide +kernel⟩
theorem nm_sm {x : PyData} (hx : x ∈ nm12) : Sm x 12 0 := by
  obtain ⟨s, rfl, h1, h2, h3⟩ := nm_ok x hx
  exact ⟨h1, by simp only [PyData.depth]; omega, h3, h2, by simp only [PyData.showable]⟩
end Dl
namespace Dl
open PySem PySem.Spec PyProof.Rows L2
def frameDom (ds : List PyData) : Prop := ∃ n : Nat, ds = [.int (n : Nat)] ∧ 1 ≤ n ∧ n ≤ 12
theorem three_str {d : PyData} (h : d ∈ ([.str "usual", .str "strict", .str "usual"] : List PyData)) : ∃ s : Str, d = .str s := by
  simp only [List.mem_cons, List.not_mem_nil, or_false] at h
  rcases h with rfl | rfl | rfl <;> exact ⟨_, rfl⟩
end Dl
set_option Elab.async false
set_option linter.all false
set_option maxRecDepth 100000
set_option maxHeartbeats 4000000
namespace Dl
open PySem PySem.Spec PyProof.Rows L2
section
variable {K : PySem.W.Frag} {env : List Sl} {b : Option Addr} {ms : Ms} {te ta tb : TE} {P Pa Pb : PyData → Prop} {tt tu : TT} {Pt Pu : Bool → Prop} {D : Ends} {tw tz : TS} {ts : TS} {G0 H0 Gs G H : Hp} {σ : L2.St}
theorem en_lst {tr : TA} {M : List PyData} (h : EaP K env b ms tr (Is M)) (hl : M.length ≤ 1000) : EvN K env b ms (tLst tr) (Is M) := en_lstP h fun l e => by rw [e]; exact hl
theorem s_extD {i n : Nat} {l : Addr} {L M : List PyData} (A : At K env b ms G0 H0 Gs σ G H) (hi : env[i]? = some (.a l)) (hm : ms[n]? = some (l, L.map .d)) (h : EvN K env b ms te (Is M)) (hz : L.length ≤ 1000) (hz2 : M.length ≤ 1000)
    (k : ∀ G' H', At K env b (ms.set n (l, (L ++ M).map .d)) G0 H0 Gs σ G' H' → D.nx σ H') : tDrop (tBM K "list" rExtend (tVar i) (tCons te tNil)) D σ H :=
  s_ext A hi hm h (by rw [List.length_map]; omega) (fun ds e => by rw [e]; omega) fun ds G' H' e A' => by
    subst e
    rw [← List.map_append] at A'
    exact k G' H' A'
theorem q_extD {i n : Nat} {l : Addr} {L M : List PyData} (A : At K env b ms G0 H0 Gs σ G H) (hi : env[i]? = some (.a l)) (hm : ms[n]? = some (l, L.map .d)) (h : EvN K env b ms te (Is M)) (hz : L.length ≤ 1000) (hz2 : M.length ≤ 1000)
    (k : ∀ G' H', At K env b (ms.set n (l, (L ++ M).map .d)) G0 H0 Gs σ G' H' → tz D σ H') : tSeq (tDrop (tBM K "list" rExtend (tVar i) (tCons te tNil))) tz D σ H := s_extD (D := { D with nx := tz D }) A hi hm h hz hz2 k
theorem s_appD {i n : Nat} {l : Addr} {L : List PyData} {d : PyData} (A : At K env b ms G0 H0 Gs σ G H) (hi : env[i]? = some (.a l)) (hm : ms[n]? = some (l, L.map .d)) (h : EvP K env b ms te (Is d)) (hz : L.length ≤ 1000)
    (k : ∀ G' H', At K env b (ms.set n (l, (L ++ [d]).map .d)) G0 H0 Gs σ G' H' → D.nx σ H') : tDrop (tBM K "list" rAppend (tVar i) (tCons te tNil)) D σ H :=
  s_app A hi hm h (by rw [List.length_map]; omega) fun x G' H' e A' => by
    subst e
    have e2 : (L.map Sl.d ++ [Sl.d x]) = (L ++ [x]).map Sl.d := by rw [List.map_append]; rfl
    rw [e2] at A'
    exact k G' H' A'
theorem q_appD {i n : Nat} {l : Addr} {L : List PyData} {d : PyData} (A : At K env b ms G0 H0 Gs σ G H) (hi : env[i]? = some (.a l)) (hm : ms[n]? = some (l, L.map .d)) (h : EvP K env b ms te (Is d)) (hz : L.length ≤ 1000)
    (k : ∀ G' H', At K env b (ms.set n (l, (L ++ [d]).map .d)) G0 H0 Gs σ G' H' → tz D σ H') : tSeq (tDrop (tBM K "list" rAppend (tVar i) (tCons te tNil))) tz D σ H := s_appD (D := { D with nx := tz D }) A hi hm h hz k
/-- all slots but the bag's are forgotten -/
theorem At.base {x : Addr} (A : At K env b [] G0 H0 Gs σ G H) (h : env[1]? = some (.a x)) : At K (.un :: .a x :: List.replicate (env.length - 2) .un) b [] G0 H0 Gs σ G H := by
  have hl : 1 < env.length := (List.getElem?_eq_some_iff.mp h).1
  refine ⟨⟨by rw [A.env.1]; simp; omega, fun i e he => ?_⟩, A.gr, A.sg, A.j, A.own, A.nd⟩
  have key : ∀ i, i < env.length → ∃ s : Option V, σ[i]? = some s := fun i hi => ⟨_, List.getElem?_eq_getElem (by rw [A.env.1]; exact hi)⟩
  match i, he with
  | 0, he => cases he; obtain ⟨s, hs⟩ := key 0 (by omega); exact ⟨s, hs, trivial⟩
  | 1, he => cases he; exact A.env.2 1 _ h
  | i + 2, he =>
    simp only [List.getElem?_cons_succ, List.getElem?_replicate] at he
    split at he
    · cases he
      obtain ⟨s, hs⟩ := key (i + 2) (by omega)
      exact ⟨s, hs, trivial⟩
    · cases he
theorem ev_alike {i j : Nat} {L : List PyData} (hi : env[i]? = some (.d (.list L))) (hj : env[j]? = some (.d (.list L))) (sm : SmA L 80000 59) : EvP K env b ms (tCall (spAlike K) [] E0 (tCons (tVar i) (tCons (tVar j) tNil))) (Is (.bool true)) := fun σ G H e s jb Q k => by
  obtain ⟨v, e1, p1⟩ := e.get hi
  obtain ⟨w, e2, p2⟩ := e.get hj
  exact ⟨v, e1, w, e2, rfl, L, G, s, .cons p1 (.cons p2 .nil), sm, fun G' H' g => k _ _ G' H' g.no (jb.grow g) (.bl true) rfl⟩
end
/-! ### what the law says of fractions -/
theorem frD_eq (n d : Int) : fr n d = FrD (frN n d) (frD n d) := rfl
theorem back1 {a b c d : Int} (hb : 0 < b) (hd : 0 < d) (h : Nat.gcd a.natAbs b.natAbs = 1) : fPlus [fMinus [FrD a b, FrD c d], FrD c d] = FrD a b := by
  have q : b * d ≠ 0 := Int.mul_ne_zero (by omega) (by omega)
  have x := fr_cross (a * d - c * b) (b * d) q
  have p := frD_pos (n := a * d - c * b) q
  show fr (frN (a * d - c * b) (b * d) * d + c * frD (a * d - c * b) (b * d)) (frD (a * d - c * b) (b * d) * d) = FrD a b
  rw [show FrD a b = fr a b from (fr_self hb h).symm]
  refine fr_eq (Int.mul_ne_zero (by omega) (by omega)) (by omega) ?_
  generalize frN (a * d - c * b) (b * d) = u at x ⊢
  generalize frD (a * d - c * b) (b * d) = v at x p ⊢
  grind
theorem back2 {a b c d : Int} (hb : 0 < b) (hd : 0 < d) (hc : c ≠ 0) (h : Nat.gcd a.natAbs b.natAbs = 1) : fTimes [fOver [FrD a b, FrD c d], FrD c d] = FrD a b := by
  have q : b * c ≠ 0 := Int.mul_ne_zero (by omega) hc
  have x := fr_cross (a * d) (b * c) q
  have p := frD_pos (n := a * d) q
  show fr (frN (a * d) (b * c) * c) (frD (a * d) (b * c) * d) = FrD a b
  rw [show FrD a b = fr a b from (fr_self hb h).symm]
  refine fr_eq (Int.mul_ne_zero (by omega) (by omega)) (by omega) ?_
  generalize frN (a * d) (b * c) = u at x ⊢
  generalize frD (a * d) (b * c) = v at x p ⊢
  grind
theorem floor_fr {n d : Int} (h : 0 < d) : fFloor [fr n d] = .int (n / d) := by
  show PyData.int (frN n d / frD n d) = .int (n / d)
  have e1 := fr_mulN n d (by omega)
  have e2 := fr_mulD n d (by omega)
  rw [if_neg (by omega)] at e1 e2
  have g := gI_pos (n := n) (d := d) (by omega)
  have key : ∀ u v g n d : Int, u * g = n → v * g = d → 0 < g → n / d = u / v := fun u v g n d h1 h2 h3 => by
    rw [← h1, ← h2, Int.mul_comm u, Int.mul_comm v]
    exact Int.mul_ediv_mul_of_pos _ _ h3
  have e3 := key _ _ _ _ _ e1 e2 g
  rw [e3]
theorem sign_fr {n d : Int} (h : 0 < d) : fSign [fr n d] = .int (if n = 0 then 0 else if 0 < n then 1 else -1) := by
  show PyData.int (if frN n d = 0 then 0 else if 0 < frN n d then 1 else -1) = _
  have e1 := fr_mulN n d (by omega)
  rw [if_neg (by omega)] at e1
  have g := gI_pos (n := n) (d := d) (by omega)
  congr 1
  by_cases h0 : n = 0
  · have : frN n d = 0 := by
      rw [h0] at e1 ⊢
      rcases Int.mul_eq_zero.mp e1 with z | z
      · exact z
      · rw [h0] at g; omega
    rw [if_pos h0, if_pos this]
  · have n0 : frN n d ≠ 0 := fun z => h0 (by rw [← e1, z, Int.zero_mul])
    rw [if_neg h0, if_neg n0]
    by_cases h1 : 0 < n
    · have : 0 < frN n d := by
        rcases Int.lt_trichotomy (frN n d) 0 with z | z | z
        · have := Int.mul_neg_of_neg_of_pos z g; omega
        · exact absurd z n0
        · exact z
      rw [if_pos h1, if_pos this]
    · have : ¬ 0 < frN n d := fun z => by have := Int.mul_pos z g; omega
      rw [if_neg h1, if_neg this]
theorem sgn_two (a : Int) : (if decide (0 < a) = true then (1 : Int) else 0) - (if decide (a < 0) = true then 1 else 0) = (if a = 0 then 0 else if 0 < a then 1 else -1) := by
  by_cases h0 : a = 0
  · subst h0; rfl
  · by_cases h1 : 0 < a
    · have : ¬ a < 0 := by omega
      simp [h0, h1, this]
    · have : a < 0 := by omega
      simp [h0, h1, this]
/-- a drawn fraction -/
structure Dr (a b : Int) : Prop where
  b0 : 0 < b
  b1 : b ≤ 500000001
  a1 : a.natAbs ≤ 500000000
  co : Nat.gcd a.natAbs b.natAbs = 1
theorem Dr.s {a b : Int} (h : Dr a b) : Fs a b := ⟨h.b0, by have := h.a1; omega, by have := h.b1; have := h.b0; omega⟩
theorem drawn_dr {d : PyData} (h : drawnR [] d) : ∃ a b, d = FrD a b ∧ Dr a b := by
  obtain ⟨n, m, rfl, m0, m1, n1⟩ := h
  have h1 := frN_le n m (by omega)
  have h2 := frD_le n m (by omega)
  have h3 := frD_pos (n := n) (d := m) (by omega)
  exact ⟨_, _, rfl, h3, by omega, by omega, fr_cop n m (by omega)⟩
/-- small enough to be shown among many -/
abbrev El (x : PyData) : Prop := Sm x 2100 10
theorem el_fr {a b : Int} (h1 : a.natAbs < 2 ^ 200) (h2 : b.natAbs < 2 ^ 200) : Sm (FrD a b) 402 1 := sm_tup (sma_cons (sm_int h1) (sma_cons (sm_int h2) sma_nil))
theorem El.fr {n d : Int} (h : d ≠ 0) (h1 : n.natAbs < 2 ^ 200) (h2 : d.natAbs < 2 ^ 200) : El (fr n d) :=
  (el_fr (Nat.lt_of_le_of_lt (frN_le n d h) h1) (Nat.lt_of_le_of_lt (frD_le n d h) h2)).le (by decide) (by decide)
theorem El.int {i : Int} (h : i.natAbs < 2 ^ 200) : El (.int i) := (sm_int (h := 0) h).le (by decide) (by decide)
theorem El.bool {c : Bool} : El (.bool c) := (sm_bool (h := 0)).le (by decide) (by decide)
theorem El.vec {l : List PyData} (h : ∀ x ∈ l, Sm x 402 1) (hl : l.length ≤ 5) : El (.tuple l) := (sm_tup (sma_all h)).le (by have := Nat.mul_le_mul_left 403 hl; omega) (by decide)
theorem lt200 {x : Int} {a : Nat} (h : x.natAbs < 2 ^ a) (ha : a ≤ 200) : x.natAbs < 2 ^ 200 := Nat.lt_of_lt_of_le h (Nat.pow_le_pow_right (by decide) ha)
end Dl
namespace Dl
open PySem PySem.Spec PyProof.Rows L2
section
variable {K : PySem.W.Frag} {env : List Sl} {b : Option Addr} {ms : Ms} {n : Nat} {dom : List PyData → Prop} {R : List PyData → PyData → Prop}
theorem ev_callV {t : TA} {ds : List PyData} {v : PyData} (ha : EaP K env b ms t (Is ds)) (hl : ds.length = n) (hd : dom ds) (hR : ∀ d, R ds d → d = v) : EvP K env b ms (tCall (spR K n dom R) [] E0 t) (Is v) :=
  ev_imp (ev_callR ha fun l e => by rw [e]; exact ⟨hl, hd⟩) fun d ⟨l, e, r⟩ => hR d (by rw [← e]; exact r)
end
theorem smfr {n d : Int} (h : d ≠ 0) (h1 : n.natAbs < 2 ^ 200) (h2 : d.natAbs < 2 ^ 200) : Sm (fr n d) 402 1 :=
  el_fr (Nat.lt_of_le_of_lt (frN_le n d h) h1) (Nat.lt_of_le_of_lt (frD_le n d h) h2)
theorem sfs_plus {xs ys : List PyData} (hx : SFs xs) (hy : SFs ys) : ∀ z ∈ (pairs xs ys).map (onPair fPlus), Sm z 402 1 := by
  intro z hz
  obtain ⟨w, hw, rfl⟩ := List.mem_map.mp hz
  obtain ⟨p, q, rfl, hp, hq⟩ := pairs_mem hw
  obtain ⟨a, c, rfl, s1, s2, s3⟩ := hx p hp
  obtain ⟨a', c', rfl, t1, t2, t3⟩ := hy q hq
  have m1 := nat_mul_lt s2 t3
  have m2 := nat_mul_lt t2 s3
  have m3 := nat_mul_lt s3 t3
  show Sm (fr (a * c' + a' * c) (c * c')) 402 1
  exact smfr (Int.mul_ne_zero (by omega) (by omega)) (lt200 (a := 127) (by omega) (by decide)) (lt200 m3 (by decide))
theorem sfs_minus {xs ys : List PyData} (hx : SFs xs) (hy : SFs ys) : ∀ z ∈ (pairs xs ys).map (onPair fMinus), Sm z 402 1 := by
  intro z hz
  obtain ⟨w, hw, rfl⟩ := List.mem_map.mp hz
  obtain ⟨p, q, rfl, hp, hq⟩ := pairs_mem hw
  obtain ⟨a, c, rfl, s1, s2, s3⟩ := hx p hp
  obtain ⟨a', c', rfl, t1, t2, t3⟩ := hy q hq
  have m1 := nat_mul_lt s2 t3
  have m2 := nat_mul_lt t2 s3
  have m3 := nat_mul_lt s3 t3
  show Sm (fr (a * c' - a' * c) (c * c')) 402 1
  exact smfr (Int.mul_ne_zero (by omega) (by omega)) (lt200 (a := 127) (by omega) (by decide)) (lt200 m3 (by decide))
theorem sfs_times {a c : Int} {ys : List PyData} (hx : Fs a c) (hy : SFs ys) : ∀ z ∈ ys.map (fun y => fTimes [FrD a c, y]), Sm z 402 1 := by
  intro z hz
  obtain ⟨w, hw, rfl⟩ := List.mem_map.mp hz
  obtain ⟨a', c', rfl, t1, t2, t3⟩ := hy w hw
  obtain ⟨s1, s2, s3⟩ := hx
  have m1 := nat_mul_lt s2 t2
  have m3 := nat_mul_lt s3 t3
  show Sm (fr (a * a') (c * c')) 402 1
  exact smfr (Int.mul_ne_zero (by omega) (by omega)) (lt200 m1 (by decide)) (lt200 m3 (by decide))
theorem stand_sfs {n : PyData} {d : PyData} (h : standR [n] d) : ∃ (m : Nat) (xs : List PyData), n = .int (m : Nat) ∧ d = .tuple xs ∧ xs.length = m ∧ SFs xs := by
  obtain ⟨m, xs, e, rfl, hl, hx⟩ := h
  cases e
  refine ⟨m, xs, rfl, rfl, hl, fun z hz => ?_⟩
  obtain ⟨a, c, rfl, c0, c1, a1⟩ := hx z hz
  have h1 := frN_le a c (by omega)
  have h2 := frD_le a c (by omega)
  exact ⟨_, _, rfl, frD_pos (by omega), by omega, by omega⟩
end Dl
set_option Elab.async false
set_option linter.all false
set_option maxRecDepth 100000
set_option maxHeartbeats 4000000
namespace Dl
open PySem PySem.Spec PyProof.Rows L2

theorem ite_any {α : Type} {M : Model} {A : Around} {E : Value → Shared → Prop} {s : Shared} {c : Prop} [Decidable c] {t e : Sem α} {Q : α → Shared → Prop} (h1 : c → wpAny M A t Q E s) (h2 : ¬ c → wpAny M A e Q E s) : wpAny M A (if c then t else e) Q E s := by
  by_cases h : c
  · rw [if_pos h]; exact h1 h
  · rw [if_neg h]; exact h2 h
theorem meets_enum1 {v : Value} {o : Obj} {Hh : Heap → Prop} (b : Begins v o Hh) :
    Meets (Builtin.«enumerate.__new__» ⟨[.type "enumerate", v], []⟩) (fun _ R s => Hh s.heap ∧
      R (.ok (.ret (Value.ref (s.heap.push o).objs.size)))
        { heap := (s.heap.push o).push { cls := .type "enumerate", data := .fields #[.none, .bool false, .ref s.heap.objs.size, rawInt 0, .none, .none] }, gens := s.gens, drawn := s.drawn, toks := s.toks, os := s.os }) :=
  .of_wp fun prog w A R s h => by
    obtain ⟨hl, h⟩ := h
    have f1 := sub_enumerate
    wp_walk
    refine wpAny_stack_any fun l => ?_
    wp_walk
    refine ite_any (fun _ => ?_) (fun _ => ?_)
    · wp_walk using b.iter _ _ _ _ _ _ hl
      exact ⟨_, rfl, h⟩
    · wp_walk using b.iter _ _ _ _ _ _ hl
      exact ⟨_, rfl, h⟩
theorem enum1 {prog : Program} {w : World} {A : Around} {E : Value → Shared → Prop} {s : Shared} {v : Value} {o : Obj} {Hh : Heap → Prop} {Q : Value → Shared → Prop} (b : Begins v o Hh) (hh : Hh s.heap)
    (k : ∀ h' : Heap, IsEnum h' (s.heap.objs.size + 1) s.heap.objs.size 0 .none → h'.get? s.heap.objs.size = some o → h'.objs.size = s.heap.objs.size + 2 → (∀ (c : Addr) (u : Obj), s.heap.get? c = some u → h'.get? c = some u) →
      Q (.ref (s.heap.objs.size + 1)) { heap := h', gens := s.gens, drawn := s.drawn, toks := s.toks, os := s.os }) : wpAny (model prog w) A (call (.type "enumerate") [v]) Q E s := by
  refine callType_new F.called_enumerate (by decide) (F.typeCall_enumerate_1 _) (F.newCall_enumerate_1 _) (fun _ => F.args_object_init_2 _ _) F.entry_enumerate_new (meets_enum1 b) ⟨hh, ?_⟩
  have e1 : (s.heap.push o).objs.size = s.heap.objs.size + 1 := Heap.size_push _ _
  have g1 : ∀ u : Obj, u.isFreed = false → ((s.heap.push o).push u).get? (s.heap.objs.size + 1) = some u := fun u hu => by rw [← e1]; exact Heap.get?_push_size _ hu
  have g0 : ∀ u : Obj, ((s.heap.push o).push u).get? s.heap.objs.size = some o := fun u => Heap.get?_push_of_some _ (Heap.get?_push_size _ b.free)
  rw [e1]
  refine ⟨?_, ?_⟩
  · exact ⟨_, g1 _ rfl, rfl⟩
  · exact k _ (g1 _ rfl) (g0 _) (by rw [Heap.size_push, e1]) fun c u hc => Heap.get?_push_of_some _ (Heap.get?_push_of_some _ hc)

/-! ### lists and tuples walked alike -/
def SqB (K : PySem.W.Frag) (k : Bool) (H : Hp) (a : Addr) (xs : List V) : Prop := match k with
  | true => SqL K H a xs
  | false => SqT K H a xs
def IsSq (k : Bool) (h : Heap) (a : Addr) (its : Array Value) : Prop := match k with
  | true => h.IsList a its
  | false => h.IsTuple a its
def ItSt (k : Bool) (h : Heap) (it a : Addr) (i : Nat) : Prop := match k with
  | true => h.IsListIter it a i
  | false => h.IsTupleIter it a i
def iterO (k : Bool) (a : Addr) : Obj := match k with
  | true => { cls := .type "list_iterator", data := .fields #[.ref a, .int 0 0] }
  | false => { cls := .type "tuple_iterator", data := .fields #[.ref a, .int 0 0] }
theorem begins_B (k : Bool) (a : Addr) (its : Array Value) : Begins (.ref a) (iterO k a) (fun h => IsSq k h a its) := match k with
  | true => begins_list a its
  | false => begins_tuple a its
theorem drawsB {prog : Program} {w : World} {A : Around} (hA : A.handled = none) (k : Bool) (it l : Addr) (ne : l ≠ it) (its : Array Value) :
    Draws prog w A it [it, l] its.size (fun i v => its[i]? = some v) (fun i h => ItSt k h it l i ∧ IsSq k h l its) := match k with
  | true => Draws.list hA it l ne its
  | false => Draws.tuple hA it l ne its
theorem itSt0 {k : Bool} {h : Heap} {it a : Addr} (e : h.get? it = some (iterO k a)) : ItSt k h it a 0 := match k with
  | true => ⟨_, e, rfl, rfl⟩
  | false => ⟨_, e, rfl, rfl⟩
theorem ItSt.keep {k : Bool} {h h' : Heap} {it a : Addr} {i : Nat} (e : ItSt k h it a i) (f : ∀ o, h.get? it = some o → h'.get? it = some o) : ItSt k h' it a i := match k, e with
  | true, ⟨o, h1, h2, h3⟩ => ⟨o, f _ h1, h2, h3⟩
  | false, ⟨o, h1, h2, h3⟩ => ⟨o, f _ h1, h2, h3⟩
theorem ItSt.obj {k : Bool} {h : Heap} {it a : Addr} {i : Nat} (e : ItSt k h it a i) : ∃ o, h.get? it = some o ∧ ∀ v : Option Value, o.data ≠ Data.cell v := match k, e with
  | true, ⟨o, h1, h2, h3⟩ => ⟨o, h1, fun v e => by rw [h3] at e; cases e⟩
  | false, ⟨o, h1, h2, h3⟩ => ⟨o, h1, fun v e => by rw [h3] at e; cases e⟩
theorem inv_sqB {X : Cx} {pins : List (Addr × Obj)} {σ : L2.St} {H : Hp} {s : Shared} {a : Addr} {xs : List V} {k : Bool} (I : L2.Inv X pins σ H s) (q : SqB X.K k H a xs) : ∃ its, Vals xs its ∧ IsSq k s.heap a its.toArray ∧ a < s.heap.objs.size := by
  cases k with
  | true =>
    obtain ⟨its, r, pl, hz⟩ := I.list q
    exact ⟨its, r, pl.isList, pl.lt⟩
  | false =>
    obtain ⟨its, r, it, hz⟩ := I.tuple q
    obtain ⟨o, ho, hc, n, hd⟩ := id it
    exact ⟨its, r, ⟨o, ho, hc, n, hd⟩, Heap.lt_size ho⟩
/-- zip over lists and tuples -/
def ItzB (K : PySem.W.Frag) (k1 k2 : Bool) (a b : Addr) (xs ys : List V) : It where
  go i H := i < min xs.length ys.length ∧ SqB K k1 H a xs ∧ SqB K k2 H b ys
  yld := YPair (fun i => xs[i]?) (fun i => ys[i]?)
  stop i H := i = min xs.length ys.length ∧ SqB K k1 H a xs ∧ SqB K k2 H b ys
def iZipB (K : PySem.W.Frag) (ta : TA) : TI := fun σ H R => ta σ H fun vs H1 => ∃ k1 k2 a b xs ys, vs = [.ref a, .ref b] ∧ SqB K k1 H1 a xs ∧ SqB K k2 H1 b ys ∧ R (ItzB K k1 k2 a b xs ys) H1
theorem turn_zipB {P : Program} {w : World} {K : PySem.W.Frag} {elts : List Expr} {kk : Nat} {tpos : Pos} {k1 k2 : Bool} {a b z TI TO i1 i2 : Addr} {xs ys : List V} (sep : ZipSep2 z TI TO i1 i2 [i1, a] [i2, b]) (n1 : a ≠ i1) (n2 : b ≠ i2) :
    Turn P w K (.Tuple elts kk tpos) (ItzB K k1 k2 a b xs ys) [z, TI, TO, i1, i2] z (fun i h => IsZip h z TI TO .none ∧ IsTupOf2 h TI (.ref i1) (.ref i2) ∧ (∃ a1 a2, IsTupOf2 h TO a1 a2) ∧ ItSt k1 h i1 a i ∧ ItSt k2 h i2 b i) := by
  refine ⟨by simp, ?_, ?_, ?_, ?_, ?_⟩
  · rintro i h ⟨h1, h2, ⟨a1, a2, h3⟩, h4, h5⟩ c hc
    simp only [List.mem_cons, List.not_mem_nil, or_false] at hc
    rcases hc with rfl | rfl | rfl | rfl | rfl
    · exact ⟨_, h1, fun v e => by cases e⟩
    · exact ⟨_, h2, fun v e => by cases e⟩
    · exact ⟨_, h3, fun v e => by cases e⟩
    · exact h4.obj
    · exact h5.obj
  · rintro i h h' ⟨h1, h2, ⟨a1, a2, h3⟩, h4, h5⟩ f
    exact ⟨f _ (by simp) _ h1, f _ (by simp) _ h2, ⟨a1, a2, f _ (by simp) _ h3⟩, h4.keep (f _ (by simp)), h5.keep (f _ (by simp))⟩
  · rintro X rfl rfl rfl hc i pins s σ H E I fp ⟨h1, h2, h3, h4, h5⟩ ⟨hi, q1, q2⟩
    obtain ⟨us, r1, s1, _⟩ := inv_sqB I q1
    obtain ⟨vs, r2, s2, _⟩ := inv_sqB I q2
    have l1 := r1.length
    have l2 := r2.length
    have hd : X.A.in1.handled = none := I.ok.hd hc
    have GG := GoesN.zip2 (prog := X.prog) (w := X.w) (A := X.A) (elts := elts) (x1 := kk) (pos := tpos) sep (drawsB hd k1 i1 a n1 us.toArray) (drawsB hd k2 i2 b n2 vs.toArray)
    refine GG.goes i s (fun u s2 => ∃ x H', L2.Inv X pins σ H' s2 ∧ RelV x u ∧ (ItzB X.K k1 k2 a b xs ys).yld i H x H' ∧ _ ∧ ∀ c ∈ [z, TI, TO, i1, i2], H' c = none) E (by simp only [List.size_toArray]; omega) ⟨h1, h2, h3, ⟨h4, s1⟩, ⟨h5, s2⟩⟩ ?_
    rintro v h' tk ⟨T, x, y, rfl, hT, p1, p2, iT⟩ ⟨z1, z2, z3, ⟨z4, _⟩, ⟨z5, _⟩⟩ fr tkl
    obtain ⟨xv, e1, rv1⟩ : ∃ xv, xs[i]? = some xv ∧ RelV xv x := by
      have hx : i < xs.length := by omega
      obtain ⟨u, eu, ru⟩ := r1.get (List.getElem?_eq_getElem hx)
      have p1' : us[i]? = some x := by simpa using p1
      rw [eu] at p1'; cases p1'
      exact ⟨_, List.getElem?_eq_getElem hx, ru⟩
    obtain ⟨yv, e2, rv2⟩ : ∃ yv, ys[i]? = some yv ∧ RelV yv y := by
      have hx : i < ys.length := by omega
      obtain ⟨u, eu, ru⟩ := r2.get (List.getElem?_eq_getElem hx)
      have p1' : vs[i]? = some y := by simpa using p2
      rw [eu] at p1'; cases p1'
      exact ⟨_, List.getElem?_eq_getElem hx, ru⟩
    have hTn : H T = none := I.hok.fresh hT
    have pT : ∀ c ∈ [z, TI, TO, i1, i2], c ≠ T := by
      have live : ∀ c ∈ [z, TI, TO, i1, i2], ∃ o, s.heap.get? c = some o := by
        intro c hc
        simp only [List.mem_cons, List.not_mem_nil, or_false] at hc
        rcases hc with rfl | rfl | rfl | rfl | rfl
        · exact ⟨_, h1⟩
        · exact ⟨_, h2⟩
        · obtain ⟨_, _, h3⟩ := h3; exact ⟨_, h3⟩
        · obtain ⟨o, ho, _⟩ := h4.obj; exact ⟨o, ho⟩
        · obtain ⟨o, ho, _⟩ := h5.obj; exact ⟨o, ho⟩
      intro c hc e
      obtain ⟨o, ho⟩ := live c hc
      have := Heap.lt_size ho
      rw [e] at this
      exact absurd this (Nat.not_lt.mpr hT)
    obtain ⟨o, ho, hcl, n, hdt⟩ := iT
    refine ⟨.ref T, upd H T (.tup [xv, yv]), I.turnedNew (ch := [z, TO, i1, i2]) fr (fun c hc => fp c (by simp only [List.mem_cons, List.not_mem_nil, or_false] at hc ⊢; rcases hc with h | h | h | h <;> simp [h])) hT ⟨by show 2 ≤ sizeLine; decide, [x, y], .cons rv1 (.cons rv2 .nil), ⟨o, ho, hcl, n, hdt⟩⟩, rfl, ⟨T, xv, yv, rfl, hTn, rfl, e1, e2⟩, ⟨z1, z2, z3, z4, z5⟩, fun c hc => ?_⟩
    rw [upd_ne (pT c hc)]
    exact (fp c hc).1
  · rintro X rfl rfl rfl hc i pins s σ H E I fp ⟨h1, h2, h3, h4, h5⟩ ⟨hi, q1, q2⟩
    obtain ⟨us, r1, s1, _⟩ := inv_sqB I q1
    obtain ⟨vs, r2, s2, _⟩ := inv_sqB I q2
    have l1 := r1.length
    have l2 := r2.length
    have hd : X.A.in1.handled = none := I.ok.hd hc
    have GG := GoesN.zip2 (prog := X.prog) (w := X.w) (A := X.A) (elts := elts) (x1 := kk) (pos := tpos) sep (drawsB hd k1 i1 a n1 us.toArray) (drawsB hd k2 i2 b n2 vs.toArray)
    have en : i = min us.toArray.size vs.toArray.size := by simp only [List.size_toArray]; omega
    refine GG.stops s (fun s1 => L2.Inv X pins σ H s1) E (by rw [← en]; exact ⟨h1, h2, h3, ⟨h4, s1⟩, ⟨h5, s2⟩⟩) ?_
    intro h' tk fr _
    exact I.turnedL (ch := [z, TO, i1, i2]) fr (fun c hc => fp c (by simp only [List.mem_cons, List.not_mem_nil, or_false] at hc ⊢; rcases hc with h | h | h | h <;> simp [h]))
  · rintro A i s Q E ⟨h1, _⟩ q
    exact wpAny_pyIter_zip h1 q
section
variable {X : Cx}
theorem pi_zipB {e e2 : Expr} {ta : TA} {p pos tpos : Pos} {elts : List Expr} {kk : Nat} (hg : Gl X "zip") (hm : X.mg "zip" = none) (ha : PA X [e, e2] ta)
    (he : starEach [e, e2] X.env = (false, eval e X.env) :: starEach [e2] X.env := by rfl) (hpl : (backTo pos (starEach [e2] X.env)).any (·.1) = false := by rfl) :
    PI X (.Tuple elts kk tpos) (.Call (.Name "zip" p) [e, e2] [] pos) (iZipB X.K ta) := by
  refine ⟨fun pins s σ H R I h => Call_ (ld_blt I hg hm boot_zip (callWith_type1 (thn (ha.run pos pins s σ H _ I h) ?_) he hpl))⟩
  rintro us s1 ⟨vs, H1, I1, r, k1, k2, a, b, xs, ys, rfl, q1, q2, hR⟩
  cases r with
  | cons ra r =>
    cases r with
    | cons rb r =>
      cases r
      cases ra; cases rb
      obtain ⟨us, r1, z1, la⟩ := inv_sqB I1 q1
      obtain ⟨vs, r2, z2, lb⟩ := inv_sqB I1 q2
      refine zip_begins2 (begins_B k1 a us.toArray) (begins_B k2 b vs.toArray) z1 z2 fun h' hz hTI hTO e1 e2 hsz keep => ?_
      refine wpAny_pyIter_zip hz ⟨_, _, _, _, H1, rfl, I1.kept keep, turn_zipB (zip_sep2 (N := s1.heap.objs.size) (fp1 := [a]) (fp2 := [b]) (by simpa using la) (by simpa using lb)) (Nat.ne_of_lt la) (Nat.ne_of_lt (Nat.lt_succ_of_lt lb)), ⟨hz, hTI, ⟨_, _, hTO⟩, itSt0 e1, itSt0 e2⟩, ?_, hR⟩
      intro c hc
      have : s1.heap.objs.size ≤ c := by
        simp only [List.mem_cons, List.not_mem_nil, or_false] at hc
        rcases hc with rfl | rfl | rfl | rfl | rfl <;> first | exact Nat.le_refl _ | exact Nat.le_add_right _ _
      exact I1.fpOk this (I1.hok.fresh this)
end
/-! ### enumerate over lists and tuples -/
def IteB (K : PySem.W.Frag) (k : Bool) (a : Addr) (xs : List V) : It where
  go i H := i < xs.length ∧ SqB K k H a xs
  yld := YPair (fun i => some (.int (i : Nat))) (fun i => xs[i]?)
  stop i H := i = xs.length ∧ SqB K k H a xs
def iEnumB (K : PySem.W.Frag) (ta : TA) : TI := fun σ H R => ta σ H fun vs H1 => ∃ k a xs, vs = [.ref a] ∧ SqB K k H1 a xs ∧ R (IteB K k a xs) H1
theorem turn_enumB {P : Program} {w : World} {K : PySem.W.Frag} {elts : List Expr} {kk : Nat} {tpos : Pos} {k : Bool} {a e it : Addr} {xs : List V} (n1 : a ≠ it) (n2 : e ≠ it) (n3 : e ≠ a) :
    Turn P w K (.Tuple elts kk tpos) (IteB K k a xs) [e, it] e (fun i h => (∃ old, IsEnum h e it (0 + (i : Nat)) old) ∧ ItSt k h it a i) := by
  refine ⟨by simp, ?_, ?_, ?_, ?_, ?_⟩
  · rintro i h ⟨⟨old, h1⟩, h4⟩ c hc
    simp only [List.mem_cons, List.not_mem_nil, or_false] at hc
    rcases hc with rfl | rfl
    · exact ⟨_, h1, fun v e => by cases e⟩
    · exact h4.obj
  · rintro i h h' ⟨⟨old, h1⟩, h4⟩ f
    exact ⟨⟨old, f _ (by simp) _ h1⟩, h4.keep (f _ (by simp))⟩
  · rintro X rfl rfl rfl hc i pins s σ H E I fp ⟨h1, h4⟩ ⟨hi, q1⟩
    obtain ⟨us, r1, s1, _⟩ := inv_sqB I q1
    have l1 := r1.length
    have hd : X.A.in1.handled = none := I.ok.hd hc
    have GG := GoesN.enumFrom (prog := X.prog) (w := X.w) (A := X.A) (elts := elts) (x1 := kk) (pos := tpos) 0 (drawsB hd k it a n1 us.toArray) e n2 (by simp [n2, n3]) (by simp)
    refine GG.goes i s (fun u s2 => ∃ x H', L2.Inv X pins σ H' s2 ∧ RelV x u ∧ (IteB X.K k a xs).yld i H x H' ∧ _ ∧ ∀ c ∈ [e, it], H' c = none) E (by simp only [List.size_toArray]; omega) ⟨h1, h4, s1⟩ ?_
    rintro v h' tk ⟨T, t, x, rfl, hT, p1, iT⟩ ⟨z1, z4, _⟩ fr tkl
    obtain ⟨xv, e1, rv1⟩ : ∃ xv, xs[i]? = some xv ∧ RelV xv x := by
      have hx : i < xs.length := by omega
      obtain ⟨u, eu, ru⟩ := r1.get (List.getElem?_eq_getElem hx)
      have p1' : us[i]? = some x := by simpa using p1
      rw [eu] at p1'; cases p1'
      exact ⟨_, List.getElem?_eq_getElem hx, ru⟩
    have hTn : H T = none := I.hok.fresh hT
    have pT : ∀ c ∈ [e, it], c ≠ T := by
      have live : ∀ c ∈ [e, it], ∃ o, s.heap.get? c = some o := by
        intro c hc
        simp only [List.mem_cons, List.not_mem_nil, or_false] at hc
        rcases hc with rfl | rfl
        · obtain ⟨old, h1⟩ := h1; exact ⟨_, h1⟩
        · obtain ⟨o, ho, _⟩ := h4.obj; exact ⟨o, ho⟩
      intro c hc e
      obtain ⟨o, ho⟩ := live c hc
      have := Heap.lt_size ho
      rw [e] at this
      exact absurd this (Nat.not_lt.mpr hT)
    obtain ⟨o, ho, hcl, n, hdt⟩ := iT
    refine ⟨.ref T, upd H T (.tup [.int (i : Nat), xv]), I.turnedNew (ch := [e, it]) fr (fun c hc => fp c hc) hT ⟨by show 2 ≤ sizeLine; decide, [.int (0 + (i : Nat)) t, x], .cons ⟨t, by rw [Int.zero_add]⟩ (.cons rv1 .nil), ⟨o, ho, hcl, n, hdt⟩⟩, rfl, ⟨T, _, xv, rfl, hTn, rfl, rfl, e1⟩, ⟨z1, z4⟩, fun c hc => ?_⟩
    rw [upd_ne (pT c hc)]
    exact (fp c hc).1
  · rintro X rfl rfl rfl hc i pins s σ H E I fp ⟨h1, h4⟩ ⟨hi, q1⟩
    obtain ⟨us, r1, s1, _⟩ := inv_sqB I q1
    have l1 := r1.length
    have hd : X.A.in1.handled = none := I.ok.hd hc
    have GG := GoesN.enumFrom (prog := X.prog) (w := X.w) (A := X.A) (elts := elts) (x1 := kk) (pos := tpos) 0 (drawsB hd k it a n1 us.toArray) e n2 (by simp [n2, n3]) (by simp)
    have en : i = us.toArray.size := by simp only [List.size_toArray]; omega
    refine GG.stops s (fun s1 => L2.Inv X pins σ H s1) E (by rw [← en]; exact ⟨h1, h4, s1⟩) ?_
    intro h' tk fr _
    exact I.turnedL (ch := [e, it]) fr (fun c hc => fp c hc)
  · rintro A i s Q E ⟨⟨old, h1⟩, _⟩ q
    exact wpAny_pyIter_enum h1 q
section
variable {X : Cx}
theorem pi_enumB {e : Expr} {ta : TA} {p pos tpos : Pos} {elts : List Expr} {kk : Nat} (hg : Gl X "enumerate") (hm : X.mg "enumerate" = none) (ha : PA X [e] ta)
    (he : starEach [e] X.env = (false, eval e X.env) :: starEach [] X.env := by rfl) (hpl : (backTo pos (starEach [] X.env)).any (·.1) = false := by rfl) :
    PI X (.Tuple elts kk tpos) (.Call (.Name "enumerate" p) [e] [] pos) (iEnumB X.K ta) := by
  refine ⟨fun pins s σ H R I h => Call_ (ld_blt I hg hm boot_enumerate (callWith_type1 (thn (ha.run pos pins s σ H _ I h) ?_) he hpl))⟩
  rintro us s1 ⟨vs, H1, I1, r, k, a, xs, rfl, q1, hR⟩
  cases r with
  | cons ra r =>
    cases r
    cases ra
    obtain ⟨us, r1, z1, la⟩ := inv_sqB I1 q1
    refine enum1 (begins_B k a us.toArray) z1 fun h' he h0 hsz keep => ?_
    refine wpAny_pyIter_enum he ⟨_, [s1.heap.objs.size + 1, s1.heap.objs.size], _, _, H1, rfl, I1.kept keep, turn_enumB (Nat.ne_of_lt la) (Nat.ne_of_gt (Nat.lt_succ_self _)) (Nat.ne_of_gt (Nat.lt_succ_of_lt la)), ⟨⟨_, by simpa using he⟩, itSt0 h0⟩, ?_, hR⟩
    intro c hc
    have : s1.heap.objs.size ≤ c := by
      simp only [List.mem_cons, List.not_mem_nil, or_false] at hc
      rcases hc with rfl | rfl <;> first | exact Nat.le_refl _ | exact Nat.le_add_right _ _
    exact I1.fpOk this (I1.hok.fresh this)
end
end Dl
set_option Elab.async false
set_option linter.all false
set_option maxRecDepth 100000
set_option maxHeartbeats 4000000
namespace Dl
open PySem PySem.Spec PyProof.Rows L2
theorem past_erase {items : Array Value} {n i : Nat} (sz : items.size ≤ sizeLine) : (Obj.mapSeq (fun x => x.eraseIdxIfInBounds i) { cls := .type "list", data := .seq items n }).data.pastItsLine = none := by
  have h := MeetsSeq.size_erased items i
  show (if (items.eraseIdxIfInBounds i).size > sizeLine + 1 then some "sequence:memory" else none) = none
  rw [if_neg (by omega)]
open AutoSeq1 (wpAny_loadPart') in
theorem remove_loopAt (l : Addr) (items : Array Value) (n : Nat) (x : Value) (e : Value → Bool) (j : Nat) (hj : j < items.size) (ej : e items[j] = true) (sz : items.size ≤ sizeLine) : ∀ (k i : Nat), j - i = k → i ≤ j → (∀ (m : Nat) (hm : m < items.size), i ≤ m → m < j → e items[m] = false) →
    Meets (Builtin.«list.remove.loop» ⟨[.ref l, x, rawInt (i : Nat)], []⟩) (fun A R s => s.heap.get? l = some { cls := .type "list", data := .seq items n } ∧ (∀ y ∈ items, SeqAt.EqAt A.in1 s y x (e y)) ∧
      R (.ok (.ret .none)) { heap := s.heap.update l (Obj.mapSeq fun xs => xs.eraseIdxIfInBounds j), gens := s.gens, drawn := s.drawn, toks := s.toks, os := s.os }) := by
  intro k
  induction k with
  | zero =>
    intro i hk hi hm
    have ij : i = j := by omega
    subst ij
    refine .of_wp fun prog w A R s h => ?_
    obtain ⟨hp, g, d, tk, os⟩ := s
    obtain ⟨hl, he, h⟩ := h
    have hq := he items[i] (Array.getElem_mem hj)
    rw [ej] at hq
    wp_walk using wpAny_loadPart' hl
    have e1 : items[((i : Nat) : Int).toNat]? = some items[i] := by rw [Int.toNat_natCast]; exact Array.getElem?_eq_getElem hj
    rw [e1]
    dsimp only
    refine wpAny_bind ?_
    refine hq _ _ _ _ ?_
    wp_walk using wpAny_loadPart' hl
    rw [past_erase sz]
    wp_walk using wpAny_loadPart' hl
    exact ⟨_, rfl, h⟩
  | succ k ih =>
    intro i hk hi hm
    have ij : i < j := by omega
    intro prog w A R s ⟨hl, he, h⟩
    have hi2 : i < items.size := by omega
    have hq := he items[i] (Array.getElem_mem hi2)
    rw [hm i hi2 (Nat.le_refl _) ij] at hq
    unfold Builtin.«list.remove.loop»
    wp_walk using wpAny_loadPart' hl
    have e1 : items[((i : Nat) : Int).toNat]? = some items[i] := by rw [Int.toNat_natCast]; exact Array.getElem?_eq_getElem hi2
    rw [e1]
    dsimp only
    refine wpAny_bind ?_
    refine hq _ _ _ _ ?_
    refine wpAny_ite_false (by decide) ?_
    have e2 : ((i : Nat) : Int) + 1 = ((i + 1 : Nat) : Int) := rfl
    rw [e2]
    refine wpAny_pure ⟨plainId_quiet MeetsSeq.plain_remove_loop _, ?_⟩
    refine codeAny_builtin MeetsSeq.entry_remove_loop ?_
    rw [Around.under_plainId MeetsSeq.plain_remove_loop]
    exact ih (i + 1) (by omega) (by omega) (fun m h1 h2 h3 => hm m h1 (by omega) h3) prog w A R s ⟨hl, he, h⟩
open AutoSeq1 (wpAny_loadPart') in
theorem list_removeAt (l : Addr) (items : Array Value) (n : Nat) (x : Value) (e : Value → Bool) (j : Nat) (hj : j < items.size) (ej : e items[j] = true) (sz : items.size ≤ sizeLine) (hm : ∀ (m : Nat) (hm : m < items.size), m < j → e items[m] = false) :
    Meets (Builtin.«list.remove» ⟨[.ref l, x], []⟩) (fun A R s => s.heap.get? l = some { cls := .type "list", data := .seq items n } ∧ (∀ y ∈ items, SeqAt.EqAt A.in1 s y x (e y)) ∧
      R (.ok (.ret .none)) { heap := s.heap.update l (Obj.mapSeq fun xs => xs.eraseIdxIfInBounds j), gens := s.gens, drawn := s.drawn, toks := s.toks, os := s.os }) := by
  intro prog w A R s ⟨hl, he, h⟩
  unfold Builtin.«list.remove»
  wp_walk
  refine ⟨plainId_quiet MeetsSeq.plain_remove_loop _, ?_⟩
  refine codeAny_builtin MeetsSeq.entry_remove_loop ?_
  rw [Around.under_plainId MeetsSeq.plain_remove_loop]
  exact remove_loopAt l items n x e j hj ej sz (j - 0) 0 rfl (Nat.zero_le _) (fun m h1 _ h3 => hm m h1 h3) prog w A R s ⟨hl, he, h⟩
/-- l.remove(y), nested data -/
def rRemD (K : PySem.W.Frag) : V → List V → Hp → VK → Prop := fun x xs H Q => ∃ (l : Addr) (ys : List V) (y : V) (ds : List PyData) (d z : PyData) (j : Nat), x = .ref l ∧ xs = [y] ∧ H l = some (.lst ys) ∧ DpAll K H ys ds ∧ Dp K H y d ∧ SeqAt.shaped d = true ∧ SeqAt.shaped (.list ds) = true ∧
  ds[j]? = some z ∧ PyData.eqv z d = true ∧ (∀ (m : Nat) (z' : PyData), m < j → ds[m]? = some z' → PyData.eqv z' d = false) ∧ Q .non (upd H l (.lst (ys.eraseIdx j)))
theorem mt_removeD {X : Cx} (hu : X.A.units + 65 < cLine) : MtM X "list.remove" (rRemD X.K) := by
  intro pins s σ H x xs v us Q I rv rs h
  obtain ⟨l, ys, y, ds, d, z, j, rfl, rfl, hl, da, dy, h1, h2, hj, hz, hn, q⟩ := h
  cases rv
  obtain ⟨u, rfl, ru⟩ := vals1 rs
  obtain ⟨hsz, its, n, vl, ln, hg⟩ := I.lstM hl
  obtain ⟨as, ra⟩ := Dp.readsAll I ds ys its da vl
  obtain ⟨bs, rd⟩ := Dp.reads I d y u dy ru
  have cl : PyData.canLayAll0 ds = true := by
    have := SeqAt.canLay_of_shaped h2
    simp only [PyData.canLay0] at this
    exact this
  have mp := SeqAt.readsAll_map ds its as cl ra
  have li : its.length = ds.length := by rw [← mp, List.length_map]
  have get : ∀ (m : Nat) (hm : m < its.toArray.size), ds[m]? = some (SeqAt.readOf s.heap its.toArray[m]) := fun m hm => by
    have hm' : m < its.length := by simpa using hm
    have e : ds[m]? = (its.map (SeqAt.readOf s.heap))[m]? := by rw [mp]
    rw [e, List.getElem?_map, List.getElem?_eq_getElem hm']
    simp
  have hj1 : j < its.toArray.size := by
    have := (List.getElem?_eq_some_iff.mp hj).1
    rw [List.size_toArray, li]; exact this
  refine call_meets F.slot_list_remove ⟨_, hg, rfl⟩ F.entry_list_remove (F.args_list_remove_2 _ _) (list_removeAt l its.toArray n u (fun y => (SeqAt.readOf s.heap y).eqv d) j hj1 ?_ (by rw [List.size_toArray, ← ln]; exact hsz) ?_) ⟨hg, ?_, ?_⟩
  · have := get j hj1
    rw [hj] at this
    cases this
    exact hz
  · intro m hm hmj
    exact hn m _ hmj (get m hm)
  · exact SeqAt.items_eqAt (vs := its.toArray) (by simpa using ra) rd cl (SeqAt.canLay_of_shaped h1) (room_in_shaped h1 hu)
  · have I2 := I.lset (l := l) (xs := ys) (ys := ys.eraseIdx j) (its := its) (its' := its.eraseIdx j) (n := n) (f := fun xs => xs.eraseIdxIfInBounds j) (t' := s.toks) hl hg (by
      rw [List.eraseIdxIfInBounds_toArray]) (Vals.eraseIdx j vl) (Nat.le_trans (List.length_eraseIdx_le ys j) hsz)
    exact ⟨.non, _, I2, rfl, q⟩
end Dl
set_option Elab.async false
set_option linter.all false
set_option maxRecDepth 100000
set_option maxHeartbeats 4000000
namespace Dl
open PySem PySem.Spec PyProof.Rows L2
/-- a list or a tuple of these -/
def Sqd (d : PyData) (l : List PyData) : Prop := d = .tuple l ∨ d = .list l
theorem Sqd.t {l : List PyData} : Sqd (.tuple l) l := .inl rfl
theorem Sqd.l {l : List PyData} : Sqd (.list l) l := .inr rfl
section
variable {K : PySem.W.Frag} {env : List Sl} {b : Option Addr} {ms : Ms} {te ta tb : TE} {P Pa Pb : PyData → Prop} {tt tu : TT} {Pt Pu : Bool → Prop} {D : Ends} {tw tz : TS} {ts : TS} {G0 H0 Gs G H : Hp} {σ : L2.St}
theorem dp_sqB {G : Hp} {v : V} {d : PyData} {l : List PyData} (p : Dp K G v d) (s : Sqd d l) : ∃ k a xs, v = .ref a ∧ SqB K k G a xs ∧ DpAll K G xs l := by
  rcases s with rfl | rfl
  · cases p with
    | tup sq da => exact ⟨false, _, _, rfl, sq, da⟩
  · cases p with
    | lst sq da => exact ⟨true, _, _, rfl, sq, da⟩
theorem sqB_mono {G G' : Hp} {k : Bool} {a : Addr} {xs : List V} (e : Same G G') (h : SqB K k G a xs) : SqB K k G' a xs := by
  cases k with
  | true => exact e.seq h
  | false => exact sqt_mono e h
theorem iter_zipB {k1 k2 : Bool} {a c : Addr} {xs ys : List V} {l m : List PyData} {G : Hp} (sx : SqB K k1 G a xs) (dx : DpAll K G xs l) (sy : SqB K k2 G c ys) (dy : DpAll K G ys m) : IterD K (ItzB K k1 k2 a c xs ys) (pairs l m) G := by
  have hl : (pairs l m).length = min xs.length ys.length := by rw [pairs_len, dpa_len dx, dpa_len dy]
  refine ⟨fun H => SqB K k1 H a xs ∧ SqB K k2 H c ys, YPair (fun i => xs[i]?) (fun i => ys[i]?), ⟨fun i H hi q => ⟨by omega, q.1, q.2⟩, fun H q => ⟨hl, q.1, q.2⟩, fun i H v H' _ q y => y⟩, fun G1 H s1 s2 => ⟨⟨sqB_mono s2 (sqB_mono s1 sx), sqB_mono s2 (sqB_mono s1 sy)⟩, fun i v H' hi y => ?_⟩⟩
  obtain ⟨T, x, z, rfl, h2, rfl, h4, h5⟩ := y
  obtain ⟨d1, e1, p1⟩ := dpa_getV dx h4
  obtain ⟨d2, e2, p2⟩ := dpa_getV dy h5
  obtain ⟨g, p⟩ := lay2 s2 h2 (dp_mono s1 _ _ p1) (dp_mono s1 _ _ p2)
  exact ⟨_, _, g, pairs_get e1 e2, p⟩
theorem iter_enumB {k : Bool} {a : Addr} {xs : List V} {l : List PyData} {G : Hp} (sx : SqB K k G a xs) (dx : DpAll K G xs l) : IterD K (IteB K k a xs) (pairs (intL l.length) l) G := by
  have hl : (pairs (intL l.length) l).length = xs.length := by rw [pairs_len, intL_len, dpa_len dx]; omega
  refine ⟨fun H => SqB K k H a xs, YPair (fun i => some (.int (i : Nat))) (fun i => xs[i]?), ⟨fun i H hi q => ⟨by omega, q⟩, fun H q => ⟨hl, q⟩, fun i H v H' _ q y => y⟩, fun G1 H s1 s2 => ⟨sqB_mono s2 (sqB_mono s1 sx), fun i v H' hi y => ?_⟩⟩
  obtain ⟨T, x, z, rfl, h2, rfl, h4, h5⟩ := y
  cases h4
  obtain ⟨d2, e2, p2⟩ := dpa_getV dx h5
  have il : i < l.length := (List.getElem?_eq_some_iff.mp e2).1
  obtain ⟨g, p⟩ := lay2 s2 h2 (.int (i : Nat)) (dp_mono s1 _ _ p2)
  exact ⟨_, _, g, pairs_get (intL_get il) e2, p⟩
theorem ei_zipB {t : TA} {dx dy : PyData} {l m : List PyData} (h : EaP K env b ms t (Is [dx, dy])) (sx : Sqd dx l) (sy : Sqd dy m) : EvI K env b ms (iZipB K t) (Is (pairs l m)) := fun σ G H e s j R k => h σ G H e s j _ fun vs ds G1 H1 g1 j1 p1 q1 => by
  cases q1
  cases p1 with
  | cons p q =>
    cases q with
    | cons p' q' =>
      cases q'
      obtain ⟨k1, a, xs, rfl, s1, d1⟩ := dp_sqB p sx
      obtain ⟨k2, c, ys, rfl, s2, d2⟩ := dp_sqB p' sy
      exact ⟨k1, k2, a, c, xs, ys, rfl, sqB_mono g1.gh s1, sqB_mono g1.gh s2, k _ _ G1 H1 g1 j1 (iter_zipB s1 d1 s2 d2) rfl⟩
def enumL (l : List PyData) : List PyData := pairs (intL l.length) l
theorem ei_enumB {t : TA} {dx : PyData} {l : List PyData} (h : EaP K env b ms t (Is [dx])) (sx : Sqd dx l) : EvI K env b ms (iEnumB K t) (Is (enumL l)) := fun σ G H e s j R k => h σ G H e s j _ fun vs ds G1 H1 g1 j1 p1 q1 => by
  cases q1
  cases p1 with
  | cons p q =>
    cases q
    obtain ⟨k1, a, xs, rfl, s1, d1⟩ := dp_sqB p sx
    exact ⟨k1, a, xs, rfl, sqB_mono g1.gh s1, k _ _ G1 H1 g1 j1 (iter_enumB s1 d1) rfl⟩

/-! ### walks over lists of ours, in comprehensions -/
def IterG (K : PySem.W.Frag) (b : Option Addr) (J : It) (l : List PyData) (G H : Hp) : Prop :=
  ∃ (W : Hp → Prop) (Y : Nat → Hp → V → Hp → Prop), Walk J l.length W Y ∧ ∀ G1 H1, Grow (Mb b) G H G1 H1 → W H1 ∧ ∀ i x H', i < l.length → Y i H1 x H' → ∃ G' d, Grow No G1 H1 G' H' ∧ l[i]? = some d ∧ Dp K G' x d
def EvG (K : PySem.W.Frag) (env : List Sl) (b : Option Addr) (ms : Ms) (wi : TI) (P : List PyData → Prop) : Prop :=
  ∀ (σ : L2.St) (G H : Hp), EnvOk K G σ env → Same G H → JB K b ms G H → ∀ R : It → Hp → Prop, (∀ J l G2 H2, Grow (Mb b) G H G2 H2 → JB K b ms G2 H2 → IterG K b J l G2 H2 → P l → R J H2) → wi σ H R
theorem EvI.g {wi : TI} {Pl : List PyData → Prop} (h : EvI K env b ms wi Pl) : EvG K env b ms wi Pl := fun σ G H e s j R k => h σ G H e s j R fun J l G2 H2 g2 j2 ⟨W, Y, wk, hw⟩ q => k J l G2 H2 g2 j2 ⟨W, Y, wk, fun G1 H1 g => hw G1 H1 g.g g.gh⟩ q
theorem eg_listM {i : Nat} {a : Addr} {l : List PyData} (hi : env[i]? = some (.a a)) (hm : (a, l.map Sl.d) ∈ ms) : EvG K env b ms (iList K (tVar i)) (Is l) := fun σ G H e s j R k => by
  obtain ⟨gn, nb, xs, hl, el⟩ := j.mu _ hm
  have da := dpa_of_env _ _ el
  refine ⟨.ref a, e.addr hi, a, rfl, ⟨xs, SqL.of hl⟩, k _ l G H (Grow.refl s) j ⟨_, _, by rw [← dpa_len da]; exact walk_list, fun G1 H1 g => ⟨SqL.of (g.keep _ _ hl nb), fun i x H' hi y => ?_⟩⟩ rfl⟩
  obtain ⟨rfl, e⟩ := y
  obtain ⟨d, e1, e2⟩ := dpa_getV da e
  exact ⟨G1, d, Grow.refl g.gh, e1, dp_mono g.g _ _ e2⟩
theorem en_lcG {wi : TI} {g : TG} {vs : List Nat} {Pl : List PyData → Prop} {f : PyData → List Sl → List Sl} {T : PyData → Bool → Prop} {E : PyData → PyData → Prop}
    (hi : EvG K env b ms wi Pl) (hl : ∀ l, Pl l → l.length ≤ 1000) (hg : ∀ l, Pl l → ∀ x ∈ l, TgP K g vs x (f x))
    (ht : ∀ l, Pl l → ∀ x ∈ l, EtP K (f x (wipeE env vs)) b ms tt (T x)) (he : ∀ l, Pl l → ∀ x ∈ l, T x true → EvP K (f x (wipeE env vs)) b ms te (E x)) :
    EvN K env b ms (tLc wi g tt te vs) (fun m => ∃ l, Pl l ∧ Lc T E l m) := fun σ G H e s j Q k => hi σ G H e s j _ fun J l G1 H1 g1 j1 it q1 => by
  obtain ⟨W, Y, wk, hw⟩ := it
  intro D hD
  have hlen := hl l q1
  have hDb : ¬ Mb b D := fun z => by
    obtain ⟨_, _, _, _, _, _, e0, _⟩ := j1.bag D z
    rw [hD] at e0; cases e0
  refine lc_it wk (fun i H2 => ∃ (G2 : Hp) (acc : List V) (m : List PyData), Grow (Mb b) G1 H1 G2 H2 ∧ JB K b ms G2 H2 ∧ G2 D = none ∧ H2 D = some (.lst acc) ∧ DpAll K G2 acc m ∧ Lc T E (l.take i) m)
    ⟨G1, [], [], Grow.lay0 g1.gh hD, j1.grow (Grow.lay0 g1.gh hD), g1.gh.free hD, upd_same, .nil, by rw [List.take_zero]; exact .nil⟩ ?_ ?_ ?_
  · rintro i H2 _ ⟨G2, acc, m, g2, _⟩
    exact (hw G2 H2 g2).1
  · rintro i x H2 H3 hi ⟨G2, acc, m, g2, j2, f2, hd2, da2, lc2⟩ y
    obtain ⟨G3, d, g3, hd, p3⟩ := (hw G2 H2 g2).2 i x H3 hi y
    have mem : d ∈ l := List.mem_of_getElem? hd
    have j3 := j2.grow g3
    have e3 : EnvOk K G3 σ env := e.mono (g1.g.trans (g2.g.trans g3.g))
    have hd3 : H3 D = some (.lst acc) := g3.keep _ _ hd2 fun z => z
    have nf : ∀ {Ga Ha Gb Hb : Hp}, Ha D = some (.lst acc) → Ga D = none → Grow (Mb b) Ga Ha Gb Hb → Gb D = none ∧ Hb D = some (.lst acc) := fun {Ga Ha Gb Hb} h1 h2 gg => by
      refine ⟨?_, gg.keep _ _ h1 hDb⟩
      cases r : Gb D with
      | none => rfl
      | some o =>
        rcases gg.new _ o r with z | z
        · rw [h2] at z; cases z
        · rw [h1] at z; cases z
    have f3 := (nf hd2 f2 g3.no).1
    refine hg l q1 d mem (wipeE env vs) (wipe σ vs) G3 H3 x (e3.wipe vs) g3.gh p3 _ fun σ2 e4 ew => ?_
    refine ⟨by rw [ew, wipe_wipe], ?_⟩
    have tk : l.take (i + 1) = l.take i ++ [d] := by rw [List.take_add_one, hd]; rfl
    have acl : acc.length ≤ 1000 := by
      have h1 := dpa_len da2
      have h2 := lc2.len
      rw [List.length_take] at h2
      omega
    refine ht l q1 d mem σ2 G3 H3 e4 g3.gh j3 _ fun c G4 H4 g4 j4 q4 => ?_
    obtain ⟨f4, hd4⟩ := nf hd3 f3 g4
    cases c with
    | false =>
      show ∃ _, _
      exact ⟨G4, acc, m, (g2.trans g3.no).trans g4, j4, f4, hd4, dpa_mono (g3.g.trans g4.g) _ _ da2, by rw [tk]; exact .no lc2 q4⟩
    | true =>
      show te σ2 H4 _
      refine he l q1 d mem q4 σ2 G4 H4 (e4.mono g4.g) g4.gh j4 _ fun v y5 G5 H5 g5 j5 p5 q5 => ?_
      obtain ⟨f5, hd5⟩ := nf hd4 f4 g5
      refine ⟨acc, hd5, Nat.lt_of_le_of_lt acl (by decide), G5, acc ++ [v], m ++ [y5], ?_, ?_, f5, upd_same, dpa_app (dpa_mono (g3.g.trans (g4.g.trans g5.g)) _ _ da2) (.cons p5 .nil), by rw [tk]; exact .yes lc2 q4 q5⟩
      · have gg := ((g2.trans g3.no).trans g4).trans g5
        refine ⟨gg.g, fun c o z => ?_, fun c z => ?_, fun c o z m => ?_, gg.new⟩
        · by_cases q : c = D
          · subst q; rw [f5] at z; cases z
          · rw [upd_ne q]; exact gg.gh c o z
        · by_cases q : c = D
          · subst q; rw [upd_same] at z; cases z
          · rw [upd_ne q] at z; exact gg.dom c z
        · by_cases q : c = D
          · subst q; rw [hD] at z; cases z
          · rw [upd_ne q]; exact gg.keep c o z m
      · refine ⟨fun c z => ?_, fun p hp => ?_⟩
        · obtain ⟨b1, z0, z1, z2, lb, cs, b2, b3⟩ := j5.bag c z
          exact ⟨b1, z0, z1, z2, lb, cs, by rw [upd_ne (show c ≠ D from fun q => hDb (by rw [← q]; exact z))]; exact b2, b3⟩
        · obtain ⟨m1, m2, xs, m3, m4⟩ := j5.mu p hp
          obtain ⟨_, _, _, m5, _⟩ := j1.mu p hp
          exact ⟨m1, m2, xs, by rw [upd_ne (ne_of_none m5 hD)]; exact m3, m4⟩
  · rintro H2 ⟨G2, acc, m, g2, j2, f2, hd2, da2, lc2⟩
    rw [List.take_length] at lc2
    exact k D acc m G2 H2 (g1.trans g2) j2 (g1.dom _ hD) f2 hd2 da2 ⟨l, q1, lc2⟩
/-- [e for x in walk], by a function and a test -/
theorem en_map {wi : TI} {g : TG} {vs : List Nat} {l : List PyData} {f : PyData → List Sl → List Sl} {F : PyData → PyData} (hi : EvG K env b ms wi (Is l)) (hl : l.length ≤ 1000) (hg : ∀ x ∈ l, TgP K g vs x (f x))
    (he : ∀ x ∈ l, EvP K (f x (wipeE env vs)) b ms te (Is (F x))) : EvN K env b ms (tLc wi g tYes te vs) (Is (l.map F)) := by
  refine en_imp (en_lcG (T := fun _ c => c = true) (E := fun x y => y = F x) hi (fun m e => by rw [e]; exact hl) (fun m e x hx => by rw [e] at hx; exact hg x hx) (fun m e x hx => et_yes) fun m e x hx _ => by rw [e] at hx; exact he x hx) ?_
  rintro m ⟨l', e1, lc⟩
  rw [← e1]; exact lc.map
theorem en_filter {wi : TI} {g : TG} {vs : List Nat} {l : List PyData} {f : PyData → List Sl → List Sl} {t : PyData → Bool} {F : PyData → PyData} (hi : EvG K env b ms wi (Is l)) (hl : l.length ≤ 1000) (hg : ∀ x ∈ l, TgP K g vs x (f x))
    (ht : ∀ x ∈ l, EtP K (f x (wipeE env vs)) b ms tt (Is (t x))) (he : ∀ x ∈ l, t x = true → EvP K (f x (wipeE env vs)) b ms te (Is (F x))) : EvN K env b ms (tLc wi g tt te vs) (Is ((l.filter t).map F)) := by
  refine en_imp (en_lcG (T := fun x c => c = t x) (E := fun x y => y = F x) hi (fun m e => by rw [e]; exact hl) (fun m e x hx => by rw [e] at hx; exact hg x hx) (fun m e x hx => by rw [e] at hx; exact ht x hx) fun m e x hx c => by rw [e] at hx; exact he x hx c.symm) ?_
  rintro m ⟨l', e1, lc⟩
  rw [← e1]; exact lc.filterMap
/-- a new list, still from now on, as data -/
theorem ev_newI {l : List PyData} (h : EvN K env b ms te (Is l)) : EvP K env b ms te (Is (.list l)) := ev_imp (ev_new h) fun d ⟨m, e, e2⟩ => by rw [e, e2]
theorem ev_tupNI {l : List PyData} (h : EvN K env b ms te (Is l)) : EvP K env b ms (tCB (rTupOf K) (tCons te tNil)) (Is (.tuple l)) := ev_imp (ev_tupN h) fun d ⟨m, e, e2⟩ => by rw [e, e2]
/-! ### built-in functions -/
abbrev rListOf (K : PySem.W.Frag) : List V → Hp → VK → Prop := fun xs H Q => ∃ p ys, xs = [.ref p] ∧ (SqL K H p ys ∨ SqT K H p ys) ∧ ∀ l : Addr, H l = none → Q (.ref l) (upd H l (.lst ys))
theorem sqB_or {k : Bool} {H : Hp} {a : Addr} {xs : List V} (h : SqB K k H a xs) : SqL K H a xs ∨ SqT K H a xs := by
  cases k with
  | true => exact .inl h
  | false => exact .inr h
/-- list(x) -/
theorem en_listOf {d : PyData} {l : List PyData} (h : EvP K env b ms te (Is d)) (s : Sqd d l) : EvN K env b ms (tCB (rListOf K) (tCons te tNil)) (Is l) := fun σ G H e s0 j Q k => h σ G H e s0 j _ fun v d' G1 H1 g1 j1 p1 q1 => by
  cases q1
  obtain ⟨k1, a, xs, rfl, s1, d1⟩ := dp_sqB p1 s
  refine ⟨a, xs, rfl, sqB_or (sqB_mono g1.gh s1), fun p hp => ?_⟩
  have g2 : Grow No G1 H1 G1 (upd H1 p (.lst xs)) := Grow.lay0 g1.gh hp
  exact k p xs l G1 _ (g1.trans g2.no) (j1.grow g2) (g1.dom _ hp) (g1.gh.free hp) upd_same d1 rfl
theorem rc_sum {ns : List Int} : RcP K b ms (rSum K) [.list (ns.map .int)] (Is (.int ns.sum)) := fun xs G H p s j Q k => by
  cases p with
  | cons p q =>
    cases q
    cases p with
    | lst sq da =>
      rw [dpa_ints_inv da] at sq
      exact ⟨_, ns, rfl, s.seq sq, k _ _ G H (Grow.refl s) j (.int _) rfl⟩
theorem rc_max {ns : List Int} (h0 : ns ≠ []) : RcP K b ms (rMax K) [.list (ns.map .int)] (fun d => ∃ m, d = .int m ∧ m ∈ ns ∧ ∀ y ∈ ns, y ≤ m) := fun xs G H p s j Q k => by
  cases p with
  | cons p q =>
    cases q
    cases p with
    | lst sq da =>
      rw [dpa_ints_inv da] at sq
      exact ⟨_, ns, rfl, s.seq sq, List.length_pos_iff.mpr h0, fun m h1 h2 => k _ _ G H (Grow.refl s) j (.int _) ⟨m, rfl, h1, h2⟩⟩
abbrev rMax2 : List V → Hp → VK → Prop := fun xs H Q => ∃ i j, xs = [.int i, .int j] ∧ Q (.int (if j > i then j else i)) H
theorem rc_max2 {i n : Int} : RcP K b ms rMax2 [.int i, .int n] (Is (.int (if n > i then n else i))) := fun xs G H p s j Q k => by
  cases p with
  | cons p q =>
    cases q with
    | cons p' q' =>
      cases q'; cases p; cases p'
      exact ⟨i, n, rfl, k _ _ G H (Grow.refl s) j (.int _) rfl⟩
/-- sorted([n]) -/
theorem rc_sorted1 {n : Int} : RcP K b ms (rSorted K) [.list [.int n]] (Is (.list [.int n])) := fun xs G H p s j Q k => by
  cases p with
  | cons p q =>
    cases q
    cases p with
    | lst sq da =>
      have da' : DpAll K G _ ([n].map PyData.int) := da
      rw [dpa_ints_inv da'] at sq
      refine ⟨_, [n], rfl, s.seq sq, (by show 1 < 64; decide), fun ns' p pm _ hp => ?_⟩
      have e : ns' = [n] := List.perm_singleton.mp pm
      subst e
      have g : Grow No G H (upd G p (.lst ([n].map V.int))) (upd H p (.lst ([n].map V.int))) := Grow.lay s hp
      exact k _ _ _ _ g.no (j.grow g) (.lst (SqL.of upd_same) (.cons (.int n) .nil)) rfl
/-- [..] * k -/
theorem en_rep {l : List PyData} {k : Nat} (ha : EvN K env b ms ta (Is l)) (hb : EvP K env b ms tb (Is (.int (k : Nat)))) (hk : k ≤ 1000) (hl : l.length ≤ 1000) : EvN K env b ms (tOp rRep ta tb) (Is (List.replicate k l).flatten) := fun σ G H e s j Q q =>
  ha σ G H e s j _ fun p xs ds G1 H1 g1 j1 n1 f1 h1 d1 q1 => hb σ G1 H1 (e.mono g1.g) g1.gh j1 _ fun v d G2 H2 g2 j2 p2 q2 => by
    cases q1; cases q2; cases p2
    have pb : ¬ Mb b p := fun z => by
      obtain ⟨_, _, _, _, _, _, e0, _⟩ := j.bag p z
      rw [n1] at e0; cases e0
    have xl := dpa_len d1
    have kk : (k : Int).toNat = k := by omega
    refine ⟨p, k, xs, rfl, rfl, g2.keep _ _ h1 pb, by omega, by omega, ?_, fun t ht => ?_⟩
    · rw [kk, xl]
      exact Nat.le_trans (Nat.mul_le_mul hl hk) (by decide)
    · have g3 : Grow No G2 H2 G2 (upd H2 t (.lst (List.replicate (k : Int).toNat xs).flatten)) := Grow.lay0 g2.gh ht
      refine q t _ _ G2 _ ((g1.trans g2).trans g3.no) (j2.grow g3) (g1.dom _ (g2.dom _ ht)) (g2.gh.free ht) upd_same ?_ rfl
      rw [kk]
      have rep : ∀ n : Nat, DpAll K G2 (List.replicate n xs).flatten (List.replicate n l).flatten := fun n => by
        induction n with
        | zero => exact .nil
        | succ n ih => rw [List.replicate_succ, List.replicate_succ, List.flatten_cons, List.flatten_cons]; exact dpa_app (dpa_mono g2.g _ _ d1) ih
      exact rep k
/-- x is None -/
def isNn : PyData → Bool
  | .none => true
  | _ => false
theorem et_isN {d : PyData} (ha : EvP K env b ms ta (Is d)) (hd : d = .none ∨ ∃ l, d = .tuple l) : EtP K env b ms (tTest (tOp (fun x y H Q => y = V.non ∧ Q (.bl (decide (x = V.non))) H) ta (tC .non))) (Is (isNn d)) := by
  refine et_T (ev_op ha ev_non fun d1 d2 e1 e2 => ?_)
  rw [e1, e2]
  intro x y G H p1 p2 s jb Q k
  cases p2
  refine ⟨rfl, ?_⟩
  have e : decide (x = V.non) = isNn d := by
    rcases hd with rfl | ⟨l, rfl⟩
    · cases p1; rfl
    · cases p1 with
      | tup s1 d1 => exact decide_eq_false (fun z => nomatch z)
  rw [e]
  exact k _ _ G H (Grow.refl s) jb (.bl _) rfl
/-- tuple + tuple -/
theorem rv_catA {l m : List PyData} (hz : l.length + m.length ≤ 1000) : RvP K b ms (rCatA K) (.tuple l) (.tuple m) (Is (.tuple (l ++ m))) := fun x y G H p1 p2 s j Q k => by
  cases p1 with
  | tup s1 d1 =>
    cases p2 with
    | tup s2 d2 =>
      rename_i a xs c ys
      have h1 := dpa_len d1
      have h2 := dpa_len d2
      refine ⟨a, c, xs, ys, rfl, rfl, sqt_mono s s1, sqt_mono s s2, Nat.le_trans (by omega : _ ≤ 1000) (by decide), fun e => ?_, fun _ e => ?_, fun _ _ p hp => ?_⟩
      · subst e
        cases d1
        exact k _ _ G H (Grow.refl s) j (.tup s2 d2) rfl
      · subst e
        cases d2
        exact k _ _ G H (Grow.refl s) j (.tup s1 d1) (by simp [Is])
      · have g : Grow No G H (upd G p (.tup (xs ++ ys))) (upd H p (.tup (xs ++ ys))) := Grow.lay s hp
        exact k _ _ _ _ g.no (j.grow g) (.tup (SqT.of upd_same) (dpa_mono g.g _ _ (dpa_app d1 d2))) rfl
theorem ev_catA {l m : List PyData} (ha : EvP K env b ms ta (Is (.tuple l))) (hb : EvP K env b ms tb (Is (.tuple m))) (hz : l.length + m.length ≤ 1000) : EvP K env b ms (tOp (rCatA K) ta tb) (Is (.tuple (l ++ m))) :=
  ev_op ha hb fun d1 d2 e1 e2 => by rw [e1, e2]; exact rv_catA hz
/-- a * among arguments -/
theorem ea_star {t : TA} {d : PyData} {l m : List PyData} (h : EvP K env b ms te (Is d)) (s : Sqd d l) (hr : EaP K env b ms t (Is m)) : EaP K env b ms (StX.tStar K te t) (Is (l ++ m)) := fun σ G H e s0 j Q k =>
  h σ G H e s0 j _ fun v d' G1 H1 g1 j1 p1 q1 => by
    cases q1
    obtain ⟨k1, a, xs, rfl, s1, d1⟩ := dp_sqB p1 s
    refine ⟨a, xs, rfl, (sqB_or (sqB_mono g1.gh s1)).symm, hr σ G1 H1 (e.mono g1.g) g1.gh j1 _ fun vs ds G2 H2 g2 j2 p2 q2 => ?_⟩
    exact k _ _ G2 H2 (g1.trans g2) j2 (dpa_app (dpa_mono g2.g _ _ d1) p2) (by rw [q2])
/-- whole numbers in a list or tuple -/
theorem inV_ints (n : Int) (ns : List Int) : inV (.int n) (ns.map V.int) = decide (n ∈ ns) := by
  induction ns with
  | nil => rfl
  | cons x ns ih =>
    unfold inV at ih ⊢
    rw [List.map_cons, List.any_cons, ih]
    have e : eqV (V.int x) (V.int n) = decide (x = n) := rfl
    rw [e]
    by_cases h : x = n
    · subst h; simp
    · have h' : ¬ n = x := fun z => h z.symm
      simp [h, h']
theorem ev_inI {neg : Bool} {n : Int} {d : PyData} {ns : List Int} (ha : EvP K env b ms ta (Is (.int n))) (hb : EvP K env b ms tb (Is d)) (sd : Sqd d (ns.map .int)) :
    EvP K env b ms (tOp (rIn K neg) ta tb) (Is (.bool (if neg then !decide (n ∈ ns) else decide (n ∈ ns)))) :=
  ev_op ha hb fun d1 d2 e1 e2 => by
    rw [e1, e2]
    intro x y G H p1 p2 s jb Q k
    cases p1
    obtain ⟨k1, a, xs, rfl, s1, da⟩ := dp_sqB p2 sd
    rw [dpa_ints_inv da] at s1
    refine ⟨a, ns.map V.int, rfl, sqB_or (sqB_mono s s1), rfl, ?_, ?_⟩
    · rw [List.all_eq_true]
      intro z hz
      obtain ⟨w, _, rfl⟩ := List.mem_map.mp hz
      rfl
    · rw [inV_ints]
      exact k _ _ G H (Grow.refl s) jb (.bl _) rfl
/-- nested data not in a list of ours -/
theorem ev_notInM {i : Nat} {a : Addr} {d : PyData} {l : List PyData} (ha : EvP K env b ms ta (Is d)) (hi : env[i]? = some (.a a)) (hm : (a, l.map Sl.d) ∈ ms) (h1 : SeqAt.shaped d = true) (h2 : SeqAt.shaped (.list l) = true) :
    EvP K env b ms (tOp (rNotInD K) ta (tVar i)) (Is (.bool (!l.any fun z => PyData.eqv z d))) := fun σ G H e s j Q k =>
  ha σ G H e s j _ fun v d1 G1 H1 g1 j1 p1 q1 => by
    cases q1
    obtain ⟨gn, nb, xs, hl, el⟩ := j1.mu _ hm
    have da := dpa_of_env _ _ el
    exact ⟨.ref a, e.addr hi, d, l, dp_mono g1.gh _ _ p1, .lst (SqL.of hl) (dpa_mono g1.gh _ _ da), h1, h2, k _ _ G1 H1 g1 j1 (.bl _) rfl⟩
end
end Dl
set_option Elab.async false
set_option linter.all false
set_option maxRecDepth 100000
set_option maxHeartbeats 4000000
namespace Dl
open PySem PySem.Spec PyProof.Rows L2
theorem eqv_int (a b : Int) : PyData.eqv (.int a) (.int b) = decide (a = b) := by
  simp only [PyData.eqv]
  by_cases h : a = b <;> simp [h]
theorem eqvAll_ints : ∀ (xs ys : List Int), PyData.eqvAll (xs.map .int) (ys.map .int) = decide (xs = ys)
  | [], [] => by simp [PyData.eqvAll]
  | [], y :: ys => by simp [PyData.eqvAll]
  | x :: xs, [] => by simp [PyData.eqvAll]
  | x :: xs, y :: ys => by
    simp only [List.map_cons, PyData.eqvAll, eqv_int, eqvAll_ints xs ys]
    by_cases h : x = y
    · by_cases h2 : xs = ys <;> simp [h, h2]
    · simp [h]
theorem eqv_listI (xs ys : List Int) : PyData.eqv (.list (xs.map .int)) (.list (ys.map .int)) = decide (xs = ys) := by
  simp only [PyData.eqv]; exact eqvAll_ints xs ys
theorem eqv_tupI (xs ys : List Int) : PyData.eqv (.tuple (xs.map .int)) (.tuple (ys.map .int)) = decide (xs = ys) := by
  simp only [PyData.eqv]; exact eqvAll_ints xs ys
theorem eqv_list0 (l : List PyData) : PyData.eqv (.list l) (.list []) = l.isEmpty := by
  cases l <;> simp [PyData.eqv, PyData.eqvAll]
theorem eqv_tup0 (l : List PyData) : PyData.eqv (.tuple l) (.tuple []) = l.isEmpty := by
  cases l <;> simp [PyData.eqv, PyData.eqvAll]
theorem eqv_frD (a b c d : Int) : PyData.eqv (FrD a b) (FrD c d) = decide (a = c ∧ b = d) := by
  have := eqv_tupI [a, b] [c, d]
  simpa [FrD] using this
section
variable {K : PySem.W.Frag} {env : List Sl} {b : Option Addr} {ms : Ms} {te ti ta tb : TE} {P Pa Pb : PyData → Prop} {tt tu : TT} {Pt Pu : Bool → Prop} {D : Ends} {tw tz : TS} {ts : TS} {G0 H0 Gs G H : Hp} {σ : L2.St}
theorem en_weak {ms2 : Ms} {Pl : List PyData → Prop} (h : ∀ p ∈ ms, p ∈ ms2) (e : EvN K env b ms te Pl) : EvN K env b ms2 te Pl := fun σ G H en s j Q k =>
  e σ G H en s (j.sub h) Q fun p xs ds G2 H2 g j2 n f hl da q => k p xs ds G2 H2 g (j.growB g j2.bag) n f hl da q
theorem At.less {ms2 : Ms} (A : At K env b ms G0 H0 Gs σ G H) (h : ms2.Sublist ms) : At K env b ms2 G0 H0 Gs σ G H :=
  ⟨A.env, A.gr, A.sg, A.j.sub fun p hp => h.subset hp, fun p hp => A.own p (h.subset hp), A.nd.sublist (h.map _)⟩
theorem At.newM {p : Addr} {xs : List V} {ds : List PyData} {G2 H2 : Hp} (A : At K env b ms G0 H0 Gs σ G H) (g : Grow (Mb b) G H G2 H2) (j : JB K b ms G2 H2) (n : H p = none) (f : G2 p = none) (hl : H2 p = some (.lst xs)) (da : DpAll K G2 xs ds) :
    b ≠ some p ∧ At K env b ((p, ds.map .d) :: ms) G0 H0 Gs σ G2 H2 := by
  have nb : b ≠ some p := fun z => by
    obtain ⟨_, _, _, _, _, _, e0, _⟩ := A.j.bag p z
    rw [n] at e0; cases e0
  have A2 := A.step g j
  refine ⟨nb, A2.env, A2.gr, A2.sg, ⟨j.bag, fun q hq => ?_⟩, fun q hq => ?_, ?_⟩
  · rcases List.mem_cons.mp hq with rfl | hq
    · exact ⟨f, nb, xs, hl, env_data da⟩
    · exact j.mu q hq
  · rcases List.mem_cons.mp hq with rfl | hq
    · exact A.gr.dom _ n
    · exact A.own q hq
  · rw [List.map_cons, List.nodup_cons]
    refine ⟨fun hm => ?_, A.nd⟩
    obtain ⟨q, hq, e⟩ := List.mem_map.mp hm
    obtain ⟨_, _, _, m, _⟩ := A.j.mu q hq
    rw [e, n] at m; cases m
/-- x, y = .., .. both new lists that will change -/
theorem q_parNN {i l : Nat} {P1 P2 : List PyData → Prop} (A : At K env b ms G0 H0 Gs σ G H) (h1 : EvN K env b ms ta P1) (h2 : EvN K env b ms tb P2)
    (k : ∀ a c ds es σ' G' H', P1 ds → P2 es → At K ((env.set i (.a a)).set l (.a c)) b ((c, es.map .d) :: (a, ds.map .d) :: ms) G0 H0 Gs σ' G' H' → tz D σ' H') : tSeq (tPar i l (tCons ta (tCons tb tNil))) tz D σ H :=
  h1 σ G H A.env A.gr.gh A.j _ fun p xs ds G1 H1 g1 j1 n1 f1 hl1 da1 q1 => by
    obtain ⟨nb1, A1⟩ := A.newM g1 j1 n1 f1 hl1 da1
    refine en_weak (fun p hp => List.mem_cons_of_mem _ hp) h2 σ G1 H1 A1.env A1.gr.gh A1.j _ fun q ys es G2 H2 g2 j2 n2 f2 hl2 da2 q2 => ?_
    obtain ⟨nb2, A2⟩ := A1.newM g2 j2 n2 f2 hl2 da2
    exact ⟨_, _, rfl, k p q ds es _ G2 H2 q1 q2 ((A2.put (i := i) (v := .ref p) (e := .a p) rfl).put (i := l) (v := .ref q) (e := .a q) rfl)⟩
/-- l.remove(y) -/
theorem s_remM {i n j : Nat} {l : Addr} {ds : List PyData} {d z : PyData} (A : At K env b ms G0 H0 Gs σ G H) (hi : env[i]? = some (.a l)) (hm : ms[n]? = some (l, ds.map .d)) (h : EvP K env b ms te (Is d)) (h1 : SeqAt.shaped d = true) (h2 : SeqAt.shaped (.list ds) = true)
    (hj : ds[j]? = some z) (hz : PyData.eqv z d = true) (hn : ∀ (m : Nat) (z' : PyData), m < j → ds[m]? = some z' → PyData.eqv z' d = false)
    (k : ∀ G' H', At K env b (ms.set n (l, (ds.eraseIdx j).map .d)) G0 H0 Gs σ G' H' → D.nx σ H') : tDrop (tBM K "list" (rRemD K) (tVar i) (tCons te tNil)) D σ H := by
  obtain ⟨gl, nb, xs, hl, el⟩ := A.j.mu _ (List.mem_of_getElem? hm)
  refine ⟨.ref l, A.env.addr hi, tyL hl, h σ G H A.env A.gr.gh A.j _ fun v d' G2 H2 g jj p q => ?_⟩
  cases q
  have hl2 : H2 l = some (.lst xs) := g.keep _ _ hl nb
  have da := dpa_mono g.g _ _ (dpa_of_env _ _ el)
  refine ⟨l, xs, v, ds, d, z, j, rfl, rfl, hl2, dpa_mono g.gh _ _ da, dp_mono g.gh _ _ p, h1, h2, hj, hz, hn, ?_⟩
  refine k G2 _ ((A.step g jj).write hm ?_)
  have : DpAll K G2 (xs.eraseIdx j) (ds.eraseIdx j) := by
    have e1 : ∀ {α : Type} (l : List α), l.eraseIdx j = l.take j ++ l.drop (j + 1) := fun l => List.eraseIdx_eq_take_drop_succ l j
    rw [e1, e1]
    exact dpa_app (dpa_take _ da) (dpa_drop _ da)
  exact env_data this
theorem q_remM {i n j : Nat} {l : Addr} {ds : List PyData} {d z : PyData} (A : At K env b ms G0 H0 Gs σ G H) (hi : env[i]? = some (.a l)) (hm : ms[n]? = some (l, ds.map .d)) (h : EvP K env b ms te (Is d)) (h1 : SeqAt.shaped d = true) (h2 : SeqAt.shaped (.list ds) = true)
    (hj : ds[j]? = some z) (hz : PyData.eqv z d = true) (hn : ∀ (m : Nat) (z' : PyData), m < j → ds[m]? = some z' → PyData.eqv z' d = false)
    (k : ∀ G' H', At K env b (ms.set n (l, (ds.eraseIdx j).map .d)) G0 H0 Gs σ G' H' → tz D σ H') : tSeq (tDrop (tBM K "list" (rRemD K) (tVar i) (tCons te tNil))) tz D σ H := s_remM (D := { D with nx := tz D }) A hi hm h h1 h2 hj hz hn k
theorem ixN_nat {n k : Nat} (h : k < n) : ixN n (k : Int) = some k := by
  have := atI_nat (xs := List.range n) (j := k) (v := k) (by simp [h])
  unfold atI at this
  rw [List.length_range] at this
  cases q : ixN n (k : Int) with
  | none => rw [q] at this; cases this
  | some m =>
    rw [q] at this
    have h2 : (List.range n)[m]? = some k := this
    obtain ⟨h3, h4⟩ := List.getElem?_eq_some_iff.mp h2
    rw [List.getElem_range] at h4
    rw [h4]
/-- l[k] = v -/
theorem s_setIx {i n k : Nat} {l : Addr} {es : List PyData} {d : PyData} (A : At K env b ms G0 H0 Gs σ G H) (hv : EvP K env b ms te (Is d)) (hi : env[i]? = some (.a l)) (hm : ms[n]? = some (l, es.map .d)) (hx : EvP K env b ms ti (Is (.int (k : Nat)))) (hk : k < es.length)
    (kk : ∀ G' H', At K env b (ms.set n (l, (es.set k d).map .d)) G0 H0 Gs σ G' H' → D.nx σ H') : tAsg te (gSub (tVar i) ti rSetL) D σ H := by
  refine hv σ G H A.env A.gr.gh A.j _ fun v d' G1 H1 g1 j1 p1 q1 => ?_
  cases q1
  have A1 := A.step g1 j1
  refine ⟨.ref l, A1.env.addr hi, hx σ G1 H1 A1.env A1.gr.gh A1.j _ fun w d2 G2 H2 g2 j2 p2 q2 => ?_⟩
  cases q2; cases p2
  have A2 := A1.step g2 j2
  obtain ⟨gl, nb, xs, hl, el⟩ := A2.j.mu _ (List.mem_of_getElem? hm)
  have xl : xs.length = es.length := by have := el.1; simpa using this
  refine ⟨l, xs, k, k, rfl, rfl, hl, ixN_nat (by omega), ?_⟩
  refine kk G2 _ (A2.write hm ?_)
  rw [List.map_set, List.map_set]
  exact el.set (slot_d (dp_mono g2.g _ _ p1))
theorem q_setIx {i n k : Nat} {l : Addr} {es : List PyData} {d : PyData} (A : At K env b ms G0 H0 Gs σ G H) (hv : EvP K env b ms te (Is d)) (hi : env[i]? = some (.a l)) (hm : ms[n]? = some (l, es.map .d)) (hx : EvP K env b ms ti (Is (.int (k : Nat)))) (hk : k < es.length)
    (kk : ∀ G' H', At K env b (ms.set n (l, (es.set k d).map .d)) G0 H0 Gs σ G' H' → tz D σ H') : tSeq (tAsg te (gSub (tVar i) ti rSetL)) tz D σ H := s_setIx (D := { D with nx := tz D }) A hv hi hm hx hk kk
/-- (x, y, z) = a tuple of three, in hand -/
theorem q_unp3 {i l m : Nat} {x y z : PyData} (A : At K env b ms G0 H0 Gs σ G H) (h : EvP K env b ms te (Is (.tuple [x, y, z]))) (k : ∀ σ' G' H', At K (((env.set i (.d x)).set l (.d y)).set m (.d z)) b ms G0 H0 Gs σ' G' H' → tw D σ' H') : tSeq (tAsg te (gTup K 3 (gCons (gName i) (gCons (gName l) (gCons (gName m) gNil))))) tw D σ H :=
  h σ G H A.env A.gr.gh A.j _ fun v d G2 H2 g j p q => by
    cases q
    cases p with
    | tup sq da =>
      cases da with
      | cons p1 t =>
        cases t with
        | cons p2 t =>
          cases t with
          | cons p3 t =>
            cases t
            exact ⟨_, _, rfl, sqt_mono g.gh sq, rfl, _, _, rfl, _, _, rfl, _, _, rfl, rfl, k _ G2 H2 ((((A.step g j).put (slot_d p1)).put (slot_d p2)).put (slot_d p3))⟩
theorem tg_trip {i j m : Nat} {vs : List Nat} {x y z : PyData} (hi : i ∈ vs) (hj : j ∈ vs) (hm : m ∈ vs) : TgP K (gTup K 3 (gCons (gName i) (gCons (gName j) (gCons (gName m) gNil)))) vs (.tuple [x, y, z]) (fun env => ((env.set i (.d x)).set j (.d y)).set m (.d z)) := fun env σ G H v e s p Q k => by
  cases p with
  | tup sq da =>
    cases da with
    | cons p1 t =>
      cases t with
      | cons p2 t =>
        cases t with
        | cons p3 t =>
          cases t
          exact ⟨_, _, rfl, sqt_mono s sq, rfl, _, _, rfl, _, _, rfl, _, _, rfl, rfl, k _ (((e.set (slot_d p1)).set (slot_d p2)).set (slot_d p3)) (by rw [wipe_set hm, wipe_set hj, wipe_set hi])⟩
end
def setTrip (i j m : Nat) : PyData → List Sl → List Sl
  | .tuple [p, q, r], env => ((env.set i (.d p)).set j (.d q)).set m (.d r)
  | _, env => env
theorem lookup_relabel {env : Env} {y : Str} : ∀ (l : List (Str × NameKind)), (List.lookup y l = some .cell ∨ List.lookup y l = some .free) →
    (List.lookup y (l.map fun x => match x with | (n, k) => if (k == NameKind.free && env.scope.kind == ScopeKind.function && env.kindOf n == some NameKind.cell) = true then (n, NameKind.cell) else (n, k)) = some .cell ∨
     List.lookup y (l.map fun x => match x with | (n, k) => if (k == NameKind.free && env.scope.kind == ScopeKind.function && env.kindOf n == some NameKind.cell) = true then (n, NameKind.cell) else (n, k)) = some .free)
  | [], h => by simp at h
  | (n, k) :: l, h => by
    rw [List.map_cons]
    dsimp only
    by_cases c : (k == NameKind.free && env.scope.kind == ScopeKind.function && env.kindOf n == some NameKind.cell) = true
    · rw [if_pos c]
      simp only [List.lookup_cons] at h ⊢
      cases q : y == n with
      | true => exact .inl rfl
      | false => rw [q] at h; exact lookup_relabel l h
    · rw [if_neg c]
      simp only [List.lookup_cons] at h ⊢
      cases q : y == n with
      | true => rw [q] at h; exact h
      | false => rw [q] at h; exact lookup_relabel l h
theorem blkOk_in {N : List Str} {scope scope2 : Scope} {env : Env} {own : List (Str × Nat)} (h : BlkOk N scope scope2 own) : BlkOk N (relabel scope env) scope2 own := ⟨h.kind, h.uniq, h.ix, fun y hy e => lookup_relabel scope.names (h.free y hy e), h.own⟩
end Dl
namespace Dl
open PySem L2
theorem units65 {k : Nat} {A : Around} (h : Room k A) : A.units + 65 < cLine := by
  have := h.un
  omega
end Dl
namespace Dl
open PySem L2
section
variable {X : Cx} {K : PySem.W.Frag}
theorem pi_tupK {tg l : Expr} {tl : TE} (h : PE X l tl) (hK : X.K = K := by rfl) : PI X tg l (iTup K tl) := hK ▸ pi_tup h
theorem pi_listK {tg l : Expr} {tl : TE} (h : PE X l tl) (hK : X.K = K := by rfl) : PI X tg l (iList K tl) := hK ▸ pi_list h
theorem pi_zipK {e e2 : Expr} {ta : TA} {p pos tpos : Pos} {elts : List Expr} {kk : Nat} (hg : Gl X "zip") (hm : X.mg "zip" = none) (ha : PA X [e, e2] ta) (hK : X.K = K := by rfl)
    (he : starEach [e, e2] X.env = (false, eval e X.env) :: starEach [e2] X.env := by rfl) (hpl : (backTo pos (starEach [e2] X.env)).any (·.1) = false := by rfl) :
    PI X (.Tuple elts kk tpos) (.Call (.Name "zip" p) [e, e2] [] pos) (iZipB K ta) := hK ▸ pi_zipB hg hm ha he hpl
theorem pi_enumK {e : Expr} {ta : TA} {p pos tpos : Pos} {elts : List Expr} {kk : Nat} (hg : Gl X "enumerate") (hm : X.mg "enumerate" = none) (ha : PA X [e] ta) (hK : X.K = K := by rfl)
    (he : starEach [e] X.env = (false, eval e X.env) :: starEach [] X.env := by rfl) (hpl : (backTo pos (starEach [] X.env)).any (·.1) = false := by rfl) :
    PI X (.Tuple elts kk tpos) (.Call (.Name "enumerate" p) [e] [] pos) (iEnumB K ta) := hK ▸ pi_enumB hg hm ha he hpl
end
end Dl
set_option Elab.async false
set_option linter.all false
set_option maxRecDepth 100000
set_option maxHeartbeats 4000000
namespace Dl
open PySem PySem.Spec PyProof.Rows L2
theorem snoc_ind {α : Type} {P : List α → Prop} (h0 : P []) (h1 : ∀ l x, P l → P (l ++ [x])) (l : List α) : P l := by
  have key : ∀ n (l : List α), l.length = n → P l := by
    intro n
    induction n with
    | zero => intro l h; rw [List.eq_nil_of_length_eq_zero h]; exact h0
    | succ n ih =>
      intro l h
      have hne : l ≠ [] := by intro e; subst e; cases h
      have e := List.dropLast_concat_getLast hne
      rw [← e]
      exact h1 _ _ (ih _ (by rw [List.length_dropLast]; omega))
  exact key l.length l rfl
theorem map_inj {α β : Type} {f : α → β} (hf : ∀ x y, f x = f y → x = y) : ∀ {a b : List α}, a.map f = b.map f → a = b
  | [], [], _ => rfl
  | [], _ :: _, h => by cases h
  | _ :: _, [], h => by cases h
  | x :: a, y :: b, h => by
    rw [List.map_cons, List.map_cons] at h
    injection h with h1 h2
    rw [hf _ _ h1, map_inj hf h2]
/-! ### great fractions -/
def Fg (a b : Int) : Prop := 0 < b ∧ a.natAbs < 2 ^ 4000 ∧ b.natAbs < 2 ^ 4000
theorem lt_up {x : Int} {a c : Nat} (h : x.natAbs < 2 ^ a) (ha : a ≤ c) : x.natAbs < 2 ^ c := Nat.lt_of_lt_of_le h (Nat.pow_le_pow_right (by decide) ha)
theorem Fg.of {a b : Int} {k : Nat} (h : 0 < b) (h1 : a.natAbs < 2 ^ k) (h2 : b.natAbs < 2 ^ k) (hk : k ≤ 4000) : Fg a b := ⟨h, lt_up h1 hk, lt_up h2 hk⟩
theorem Fg.fr {n d : Int} {k : Nat} (h : d ≠ 0) (h1 : n.natAbs < 2 ^ k) (h2 : d.natAbs < 2 ^ k) (hk : k ≤ 4000) : Fg (frN n d) (frD n d) :=
  .of (frD_pos h) (Nat.lt_of_le_of_lt (frN_le n d h) h1) (Nat.lt_of_le_of_lt (frD_le n d h) h2) hk
def dFracW (ds : List PyData) : Prop := ∃ n d : Int, ds = [.int n, .int d] ∧ d ≠ 0 ∧ d.natAbs < 2 ^ 8900
def dTwoW (ds : List PyData) : Prop := ∃ a b c d : Int, ds = [FrD a b, FrD c d] ∧ Fg a b ∧ Fg c d
def dOverW (ds : List PyData) : Prop := ∃ a b c d : Int, ds = [FrD a b, FrD c d] ∧ Fg a b ∧ Fg c d ∧ c ≠ 0
theorem cmW {x y : Int} (h1 : x.natAbs < 2 ^ 4000) (h2 : y.natAbs < 2 ^ 4000) : CMulW x y := wide_mul h1 h2 (by decide) (by decide) (by decide)
theorem cmWn {x y : Int} {a c : Nat} (h1 : x.natAbs < 2 ^ a) (h2 : y.natAbs < 2 ^ c) (ha : 0 < a) (hc : 0 < c) (hac : a + c ≤ 1000000) : CMulW x y := wide_mul h1 h2 ha hc hac
theorem prod8900 {x y : Int} (h1 : x.natAbs < 2 ^ 4000) (h2 : y.natAbs < 2 ^ 4000) : (x * y).natAbs < 2 ^ 8900 := lt_up (nat_mul_lt h1 h2) (by decide)
theorem plus_fr {a b c d : Int} (hb : b ≠ 0) (hd : d ≠ 0) : fPlus [fr a b, fr c d] = fr (a * d + c * b) (b * d) := by
  have x := fr_cross a b hb
  have y := fr_cross c d hd
  have p := frD_pos (n := a) hb
  have q := frD_pos (n := c) hd
  show fr (frN a b * frD c d + frN c d * frD a b) (frD a b * frD c d) = _
  refine fr_eq (Int.mul_ne_zero (by omega) (by omega)) (Int.mul_ne_zero hb hd) ?_
  generalize frN a b = u at x ⊢
  generalize frD a b = v at x p ⊢
  generalize frN c d = w at y ⊢
  generalize frD c d = z at y q ⊢
  grind
theorem minus_fr {a b c d : Int} (hb : b ≠ 0) (hd : d ≠ 0) : fMinus [fr a b, fr c d] = fr (a * d - c * b) (b * d) := by
  have x := fr_cross a b hb
  have y := fr_cross c d hd
  have p := frD_pos (n := a) hb
  have q := frD_pos (n := c) hd
  show fr (frN a b * frD c d - frN c d * frD a b) (frD a b * frD c d) = _
  refine fr_eq (Int.mul_ne_zero (by omega) (by omega)) (Int.mul_ne_zero hb hd) ?_
  generalize frN a b = u at x ⊢
  generalize frD a b = v at x p ⊢
  generalize frN c d = w at y ⊢
  generalize frD c d = z at y q ⊢
  grind
theorem times_fr {a b c d : Int} (hb : b ≠ 0) (hd : d ≠ 0) : fTimes [fr a b, fr c d] = fr (a * c) (b * d) := by
  have x := fr_cross a b hb
  have y := fr_cross c d hd
  have p := frD_pos (n := a) hb
  have q := frD_pos (n := c) hd
  show fr (frN a b * frN c d) (frD a b * frD c d) = _
  refine fr_eq (Int.mul_ne_zero (by omega) (by omega)) (Int.mul_ne_zero hb hd) ?_
  generalize frN a b = u at x ⊢
  generalize frD a b = v at x p ⊢
  generalize frN c d = w at y ⊢
  generalize frD c d = z at y q ⊢
  grind
theorem over_fr {a b c d : Int} (hb : b ≠ 0) (hd : d ≠ 0) (hc : c ≠ 0) : fOver [fr a b, fr c d] = fr (a * d) (b * c) := by
  have x := fr_cross a b hb
  have y := fr_cross c d hd
  have p := frD_pos (n := a) hb
  have q := frD_pos (n := c) hd
  have hw : frN c d ≠ 0 := fun z => by
    rw [z, Int.zero_mul] at y
    rcases Int.mul_eq_zero.mp y.symm with h | h
    · exact hc h
    · omega
  show fr (frN a b * frD c d) (frD a b * frN c d) = _
  refine fr_eq (Int.mul_ne_zero (by omega) hw) (Int.mul_ne_zero hb hc) ?_
  generalize frN a b = u at x ⊢
  generalize frD a b = v at x p ⊢
  generalize frN c d = w at y ⊢
  generalize frD c d = z at y q ⊢
  grind
theorem fr_one (n : Int) : fr n 1 = FrD n 1 := fr_self (by decide) (Nat.gcd_one_right _)
/-! ### readings of stands -/
abbrev Qs := List (Int × Int)
def rdT (ms : List Int) : PyData := .tuple (ms.map .int)
def stL (zs : Qs) : List PyData := zs.map fun p => FrD p.1 p.2
def stT (zs : Qs) : PyData := .tuple (stL zs)
def vS (a : Int × Int) (x : Int × (Int × Int)) : Int × Int := (a.1 * x.2.2 + x.1 * x.2.1 * a.2, a.2 * x.2.2)
def vA (l : List (Int × (Int × Int))) : Int × Int := l.foldl vS (0, 1)
theorem vA_snoc (l : List (Int × (Int × Int))) (x : Int × (Int × Int)) : vA (l ++ [x]) = vS (vA l) x := by simp [vA]
def vN (ms : List Int) (zs : Qs) : Int := (vA (ms.zip zs)).1
def vD (ms : List Int) (zs : Qs) : Int := (vA (ms.zip zs)).2
def val (ms : List Int) (zs : Qs) : PyData := fr (vN ms zs) (vD ms zs)
structure StOk (zs : Qs) : Prop where
  len : zs.length ≤ 6
  each : ∀ p ∈ zs, 0 < p.2 ∧ p.1.natAbs < 2 ^ 520 ∧ p.2.natAbs < 2 ^ 520
theorem vA_bound {c k : Nat} : ∀ (l : List (Int × (Int × Int))), (∀ x ∈ l, x.1.natAbs ≤ c ∧ 0 < x.2.2 ∧ x.2.1.natAbs ≤ 2 ^ k ∧ x.2.2.natAbs ≤ 2 ^ k) →
    0 < (vA l).2 ∧ (vA l).2.natAbs ≤ 2 ^ (k * l.length) ∧ (vA l).1.natAbs ≤ c * l.length * 2 ^ (k * l.length) := by
  intro l
  refine snoc_ind (P := fun l => (∀ x ∈ l, x.1.natAbs ≤ c ∧ 0 < x.2.2 ∧ x.2.1.natAbs ≤ 2 ^ k ∧ x.2.2.natAbs ≤ 2 ^ k) →
    0 < (vA l).2 ∧ (vA l).2.natAbs ≤ 2 ^ (k * l.length) ∧ (vA l).1.natAbs ≤ c * l.length * 2 ^ (k * l.length)) (fun _ => ⟨by decide, by simp [vA], by simp [vA]⟩) ?_ l
  · intro l x ih h
    obtain ⟨i1, i2, i3⟩ := ih fun y hy => h y (by simp [hy])
    obtain ⟨h1, h2, h3, h4⟩ := h x (by simp)
    rw [vA_snoc]
    have e : 2 ^ (k * (l ++ [x]).length) = 2 ^ (k * l.length) * 2 ^ k := by
      rw [List.length_append, show [x].length = 1 from rfl, Nat.mul_add, Nat.mul_one, Nat.pow_add]
    refine ⟨Int.mul_pos i1 h2, ?_, ?_⟩
    · show ((vA l).2 * x.2.2).natAbs ≤ _
      rw [Int.natAbs_mul, e]
      exact Nat.mul_le_mul i2 h4
    · show ((vA l).1 * x.2.2 + x.1 * x.2.1 * (vA l).2).natAbs ≤ _
      refine Nat.le_trans (Int.natAbs_add_le _ _) ?_
      rw [Int.natAbs_mul, Int.natAbs_mul, Int.natAbs_mul, e, List.length_append, show [x].length = 1 from rfl]
      have a1 := Nat.mul_le_mul i3 h4
      have a2 := Nat.mul_le_mul (Nat.mul_le_mul h1 h3) i2
      have e2 : c * (l.length + 1) * (2 ^ (k * l.length) * 2 ^ k) = c * l.length * 2 ^ (k * l.length) * 2 ^ k + c * 2 ^ k * 2 ^ (k * l.length) := by
        generalize 2 ^ (k * l.length) = p
        generalize 2 ^ k = q
        grind
      rw [e2]
      exact Nat.add_le_add a1 a2
theorem zip_mem {ms : List Int} {zs : Qs} {x : Int × (Int × Int)} (h : x ∈ ms.zip zs) : x.1 ∈ ms ∧ x.2 ∈ zs := List.of_mem_zip h
theorem vA_fg {ms : List Int} {zs : Qs} (hm : ∀ m ∈ ms, m.natAbs ≤ 4) (hz : StOk zs) (i : Nat) : 0 < (vA ((ms.zip zs).take i)).2 ∧ (vA ((ms.zip zs).take i)).1.natAbs < 2 ^ 3200 ∧ (vA ((ms.zip zs).take i)).2.natAbs < 2 ^ 3200 := by
  obtain ⟨h1, h2, h3⟩ := vA_bound (c := 4) (k := 520) ((ms.zip zs).take i) fun x hx => by
    obtain ⟨a, c⟩ := zip_mem (List.mem_of_mem_take hx)
    obtain ⟨u, v, w⟩ := hz.each _ c
    exact ⟨hm _ a, u, Nat.le_of_lt v, Nat.le_of_lt w⟩
  have hl : ((ms.zip zs).take i).length ≤ 6 := by
    rw [List.length_take, List.length_zip]
    have := hz.len
    omega
  have p1 : 2 ^ (520 * ((ms.zip zs).take i).length) ≤ 2 ^ 3120 := Nat.pow_le_pow_right (by decide) (Nat.mul_le_mul_left 520 hl)
  refine ⟨h1, ?_, ?_⟩
  · refine Nat.lt_of_le_of_lt (Nat.le_trans h3 (Nat.mul_le_mul (Nat.mul_le_mul_left 4 hl) p1)) ?_
    rw [show (2 : Nat) ^ 3200 = 2 ^ 80 * 2 ^ 3120 by rw [← Nat.pow_add]]
    exact Nat.mul_lt_mul_of_pos_right (by decide) (Nat.pow_pos (by decide))
  · exact Nat.lt_of_le_of_lt (Nat.le_trans h2 p1) (Nat.pow_lt_pow_right (by decide) (by decide))
theorem val_fg {ms : List Int} {zs : Qs} (hm : ∀ m ∈ ms, m.natAbs ≤ 4) (hz : StOk zs) : 0 < vD ms zs ∧ (vN ms zs).natAbs < 2 ^ 3200 ∧ (vD ms zs).natAbs < 2 ^ 3200 := by
  have := vA_fg hm hz (ms.zip zs).length
  rw [List.take_length] at this
  exact this
/-- one term more -/
theorem val_step {N D m n d : Int} (hD : D ≠ 0) (hd : d ≠ 0) : fPlus [fr N D, fr (m * n) d] = fr (vS (N, D) (m, (n, d))).1 (vS (N, D) (m, (n, d))).2 := plus_fr hD hd
theorem val_skip {N D m n d : Int} (hD : D ≠ 0) (hd : d ≠ 0) (h : m * n = 0) : fr N D = fr (vS (N, D) (m, (n, d))).1 (vS (N, D) (m, (n, d))).2 := by
  show fr N D = fr (N * d + m * n * D) (D * d)
  rw [h]
  refine fr_eq hD (Int.mul_ne_zero hD hd) ?_
  grind
def encP (x : Int × (Int × Int)) : PyData := .tuple [.int x.1, FrD x.2.1 x.2.2]
theorem pairs_rs : ∀ (ms : List Int) (zs : Qs), pairs (ms.map .int) (stL zs) = (ms.zip zs).map encP
  | [], zs => by cases zs <;> rfl
  | m :: ms, [] => rfl
  | m :: ms, z :: zs => by
    show PyData.tuple [.int m, FrD z.1 z.2] :: pairs (ms.map .int) (stL zs) = _
    rw [pairs_rs ms zs]; rfl
def dVal (ds : List PyData) : Prop := ∃ ms zs, ds = [rdT ms, stT zs] ∧ (∀ m ∈ ms, m.natAbs ≤ 4) ∧ StOk zs ∧ ms.length ≤ 100
def rVal (ds : List PyData) (d : PyData) : Prop := ∀ ms zs, ds = [rdT ms, stT zs] → d = val ms zs
theorem rdT_inj {a b : List Int} (h : rdT a = rdT b) : a = b := by
  have : a.map PyData.int = b.map PyData.int := by injection h
  exact map_inj (fun x y e => by injection e) this
theorem stT_inj {a b : Qs} (h : stT a = stT b) : a = b := by
  have : stL a = stL b := by injection h
  refine map_inj (fun x y e => ?_) this
  have e1 : FrD x.1 x.2 = FrD y.1 y.2 := e
  unfold FrD at e1
  simp only [PyData.tuple.injEq, List.cons.injEq, PyData.int.injEq, and_true] at e1
  exact Prod.ext e1.1 e1.2
/-! ### rules -/
structure Rl where
  s : Bool
  ms : List Int
  b : Int
def Rl.sg (r : Rl) : Str := if r.s then "=" else "<="
def ruD (r : Rl) : PyData := .tuple [.str r.sg, rdT r.ms, .int r.b]
def keepB (r : Rl) (zs : Qs) : Bool := if r.s then decide (frN (vN r.ms zs) (vD r.ms zs) = r.b ∧ frD (vN r.ms zs) (vD r.ms zs) = 1) else decide (frN (vN r.ms zs) (vD r.ms zs) * 1 ≤ r.b * frD (vN r.ms zs) (vD r.ms zs))
structure RlOk (r : Rl) : Prop where
  m : ∀ m ∈ r.ms, m.natAbs ≤ 4
  l : r.ms.length ≤ 6
  b : r.b.natAbs < 2 ^ 20
theorem sg_eq (r : Rl) : decide (r.sg = ("=" : Str)) = r.s := by
  unfold Rl.sg
  cases r.s with
  | true => rfl
  | false => exact decide_eq_false (by decide +kernel)
def dKeep (ds : List PyData) : Prop := ∃ r zs, ds = [ruD r, stT zs] ∧ RlOk r ∧ StOk zs
theorem ruD_inj {a b : Rl} (h : ruD a = ruD b) : a = b := by
  unfold ruD at h
  simp only [PyData.tuple.injEq, List.cons.injEq, PyData.int.injEq, PyData.str.injEq, and_true] at h
  obtain ⟨h1, h2, h3⟩ := h
  have e1 : a.s = b.s := by rw [← sg_eq a, ← sg_eq b, h1]
  have e2 := rdT_inj h2
  cases a; cases b
  simp_all
def rKeep (ds : List PyData) (d : PyData) : Prop := ∀ r zs, ds = [ruD r, stT zs] → d = .bool (keepB r zs)
/-- which rules are broken -/
def badI (rs : List Rl) (zs : Qs) : List Int := ((rs.zipIdx).filter fun x => !keepB x.1 zs).map fun x => (x.2 : Int)
theorem enum_map {α : Type} (e : α → PyData) : ∀ (l : List α) (k : Nat), pairs ((List.range' k l.length).map fun i => PyData.int (i : Nat)) (l.map e) = (l.zipIdx k).map fun x => .tuple [.int (x.2 : Nat), e x.1]
  | [], k => rfl
  | x :: l, k => by
    rw [List.length_cons, List.range'_succ, List.map_cons, List.map_cons, List.zipIdx_cons, List.map_cons]
    show _ :: pairs _ _ = _
    rw [enum_map e l (k + 1)]
theorem enumL_map {α : Type} (e : α → PyData) (l : List α) : enumL (l.map e) = l.zipIdx.map fun x => .tuple [.int (x.2 : Nat), e x.1] := by
  unfold enumL intL
  rw [List.length_map, List.range_eq_range']
  exact enum_map e l 0
end Dl
set_option Elab.async false
set_option linter.all false
set_option maxRecDepth 100000
set_option maxHeartbeats 4000000
namespace Dl
open PySem PySem.Spec PyProof.Rows L2
/-! ### comprehensions over encoded things -/
theorem Lc.dec {α : Type} {enc : α → PyData} {t : α → Bool} {g : α → PyData} {T : PyData → Bool → Prop} {E : PyData → PyData → Prop} {l m : List PyData} (h : Lc T E l m) : ∀ L : List α, l = L.map enc → (∀ a ∈ L, ∀ c, T (enc a) c → c = t a) → (∀ a ∈ L, ∀ y, E (enc a) y → y = g a) → m = (L.filter t).map g := by
  induction h with
  | nil =>
    intro L e _ _
    cases L with
    | nil => rfl
    | cons a L => cases e
  | @yes l m x y h1 h2 h3 ih =>
    intro L e ht he
    obtain ⟨L1, L2, rfl, e1, e2⟩ := List.map_eq_append_iff.mp e.symm
    cases L2 with
    | nil => cases e2
    | cons a L2 =>
      cases L2 with
      | nil =>
        have ea : enc a = x := by simpa using e2
        subst ea
        rw [List.filter_append, List.map_append, ← ih L1 e1.symm (fun b hb => ht b (by simp [hb])) (fun b hb => he b (by simp [hb])), he a (by simp) y h3]
        have := ht a (by simp) true h2
        simp [← this]
      | cons b L2 => simp at e2
  | @no l m x h1 h2 ih =>
    intro L e ht he
    obtain ⟨L1, L2, rfl, e1, e2⟩ := List.map_eq_append_iff.mp e.symm
    cases L2 with
    | nil => cases e2
    | cons a L2 =>
      cases L2 with
      | nil =>
        have ea : enc a = x := by simpa using e2
        subst ea
        rw [List.filter_append, List.map_append, ← ih L1 e1.symm (fun b hb => ht b (by simp [hb])) (fun b hb => he b (by simp [hb]))]
        have := ht a (by simp) false h2
        simp [← this]
      | cons b L2 => simp at e2
section
variable {K : PySem.W.Frag} {env : List Sl} {b : Option Addr} {ms : Ms} {te ti ta tb : TE} {P Pa Pb : PyData → Prop} {tt tu : TT} {Pt Pu : Bool → Prop} {D : Ends} {tw tz : TS} {ts : TS} {G0 H0 Gs G H : Hp} {σ : L2.St}
theorem en_dec {α : Type} {enc : α → PyData} {L : List α} {t : α → Bool} {g : α → PyData} {wi : TI} {tg : TG} {vs : List Nat} {f : PyData → List Sl → List Sl} (inj : ∀ a c, enc a = enc c → a = c) (hi : EvG K env b ms wi (Is (L.map enc))) (hl : L.length ≤ 1000) (hg : ∀ a ∈ L, TgP K tg vs (enc a) (f (enc a)))
    (ht : ∀ a ∈ L, EtP K (f (enc a) (wipeE env vs)) b ms tt (Is (t a))) (he : ∀ a ∈ L, t a = true → EvP K (f (enc a) (wipeE env vs)) b ms te (Is (g a))) : EvN K env b ms (tLc wi tg tt te vs) (Is ((L.filter t).map g)) := by
  refine en_imp (en_lcG (f := f) (T := fun x c => ∀ a ∈ L, x = enc a → c = t a) (E := fun x y => ∀ a ∈ L, x = enc a → y = g a) hi (fun l e => by rw [e, List.length_map]; exact hl) (fun l e x hx => ?_) (fun l e x hx => ?_) (fun l e x hx hT => ?_)) ?_
  · rw [e] at hx
    obtain ⟨a, ha, rfl⟩ := List.mem_map.mp hx
    exact hg a ha
  · rw [e] at hx
    obtain ⟨a, ha, rfl⟩ := List.mem_map.mp hx
    exact et_imp (ht a ha) fun c hc a' _ e' => by rw [← inj _ _ e']; exact hc
  · rw [e] at hx
    obtain ⟨a, ha, rfl⟩ := List.mem_map.mp hx
    exact ev_imp (he a ha (hT a ha rfl).symm) fun c hc a' _ e' => by rw [← inj _ _ e']; exact hc
  · rintro m ⟨l, e, lc⟩
    exact lc.dec L e (fun a ha c h => h a ha rfl) (fun a ha y h => h a ha rfl)
theorem en_decA {α : Type} {enc : α → PyData} {L : List α} {g : α → PyData} {wi : TI} {tg : TG} {vs : List Nat} {f : PyData → List Sl → List Sl} (inj : ∀ a c, enc a = enc c → a = c) (hi : EvG K env b ms wi (Is (L.map enc))) (hl : L.length ≤ 1000) (hg : ∀ a ∈ L, TgP K tg vs (enc a) (f (enc a)))
    (he : ∀ a ∈ L, EvP K (f (enc a) (wipeE env vs)) b ms te (Is (g a))) : EvN K env b ms (tLc wi tg tYes te vs) (Is (L.map g)) := by
  have h := en_dec (t := fun _ => true) (te := te) inj hi hl hg (fun a ha => et_yes) (fun a ha _ => he a ha)
  have e : L.filter (fun _ => true) = L := List.filter_eq_self.mpr fun _ _ => rfl
  rw [e] at h
  exact h
theorem evg_is {wi : TI} {l m : List PyData} (h : EvI K env b ms wi (Is l)) (e : l = m) : EvG K env b ms wi (Is m) := e ▸ h.g
end
theorem int_inj (a c : Int) (h : PyData.int a = PyData.int c) : a = c := by injection h
def encII (p : Int × Int) : PyData := .tuple [.int p.1, .int p.2]
theorem encII_inj (a c : Int × Int) (h : encII a = encII c) : a = c := by
  unfold encII at h
  simp only [PyData.tuple.injEq, List.cons.injEq, PyData.int.injEq, and_true] at h
  exact Prod.ext h.1 h.2
theorem pairs_ii : ∀ (xs ys : List Int), pairs (xs.map .int) (ys.map .int) = (xs.zip ys).map encII
  | [], ys => by cases ys <;> rfl
  | x :: xs, [] => rfl
  | x :: xs, y :: ys => by
    show PyData.tuple [.int x, .int y] :: pairs (xs.map .int) (ys.map .int) = _
    rw [pairs_ii xs ys]; rfl
def encEn {α : Type} (e : α → PyData) (x : α × Nat) : PyData := .tuple [.int (x.2 : Nat), e x.1]
theorem encEn_inj {α : Type} {e : α → PyData} (inj : ∀ a c, e a = e c → a = c) (a c : α × Nat) (h : encEn e a = encEn e c) : a = c := by
  unfold encEn at h
  simp only [PyData.tuple.injEq, List.cons.injEq, PyData.int.injEq, and_true] at h
  exact Prod.ext (inj _ _ h.2) (by omega)
def encQQ (p : (Int × Int) × (Int × Int)) : PyData := .tuple [FrD p.1.1 p.1.2, FrD p.2.1 p.2.2]
theorem frD_inj {a b c d : Int} (h : FrD a b = FrD c d) : a = c ∧ b = d := by
  unfold FrD at h
  simpa using h
theorem encQQ_inj (a c : (Int × Int) × (Int × Int)) (h : encQQ a = encQQ c) : a = c := by
  unfold encQQ at h
  simp only [PyData.tuple.injEq, List.cons.injEq, and_true] at h
  obtain ⟨h1, h2⟩ := frD_inj h.1
  obtain ⟨h3, h4⟩ := frD_inj h.2
  exact Prod.ext (Prod.ext h1 h2) (Prod.ext h3 h4)
def encQ (p : Int × Int) : PyData := FrD p.1 p.2
theorem encQ_inj (a c : Int × Int) (h : encQ a = encQ c) : a = c := let ⟨h1, h2⟩ := frD_inj h; Prod.ext h1 h2
theorem pairs_qq : ∀ (xs ys : Qs), pairs (stL xs) (stL ys) = (xs.zip ys).map encQQ
  | [], ys => by cases ys <;> rfl
  | x :: xs, [] => rfl
  | x :: xs, y :: ys => by
    show PyData.tuple [FrD x.1 x.2, FrD y.1 y.2] :: pairs (stL xs) (stL ys) = _
    rw [pairs_qq xs ys]; rfl
/-! ### what is fit for ==  -/
structure Lay (d : PyData) (h : Nat) : Prop where
  c : d.canLay0 = true
  d : d.depth ≤ h
structure LayA (l : List PyData) (h : Nat) : Prop where
  c : PyData.canLayAll0 l = true
  d : PyData.depthAll l ≤ h
theorem lay_int {i : Int} {h : Nat} : Lay (.int i) h := ⟨by simp only [PyData.canLay0], by simp only [PyData.depth]; omega⟩
theorem layA_all {l : List PyData} {h : Nat} (a : ∀ x ∈ l, Lay x h) : LayA l h := by
  induction l with
  | nil => exact ⟨by simp only [PyData.canLayAll0], by simp only [PyData.depthAll]; omega⟩
  | cons x l ih =>
    have h1 := a x (by simp)
    have h2 := ih fun y hy => a y (by simp [hy])
    exact ⟨by simp only [PyData.canLayAll0, h1.c, h2.c, Bool.and_self], by simp only [PyData.depthAll]; have := h1.d; have := h2.d; omega⟩
theorem lay_list {l : List PyData} {h : Nat} (a : LayA l h) : Lay (.list l) (h + 1) := ⟨by simp only [PyData.canLay0]; exact a.c, by simp only [PyData.depth]; have := a.d; omega⟩
theorem lay_tup {l : List PyData} {h : Nat} (a : LayA l h) : Lay (.tuple l) (h + 1) := ⟨by simp only [PyData.canLay0]; exact a.c, by simp only [PyData.depth]; have := a.d; omega⟩
theorem Lay.sh {d : PyData} {h : Nat} (s : Lay d h) (hh : h ≤ 60) : SeqAt.shaped d = true := by
  unfold SeqAt.shaped
  rw [s.c, decide_eq_true (by have := s.d; omega)]; rfl
theorem lay_ints {ns : List Int} {h : Nat} : LayA (ns.map .int) h := layA_all fun x hx => by obtain ⟨y, _, rfl⟩ := List.mem_map.mp hx; exact lay_int
theorem lay_frD {a b : Int} : Lay (FrD a b) 1 := lay_tup (layA_all fun x hx => by
  simp only [List.mem_cons, List.not_mem_nil, or_false] at hx
  rcases hx with rfl | rfl <;> exact lay_int)
theorem sh_nilT : SeqAt.shaped (.tuple []) = true := by decide +kernel
theorem sh_nilL : SeqAt.shaped (.list []) = true := by decide +kernel
/-! ### books -/
def bkD (f : PyData) (rs : List Rl) : PyData := .tuple [f, .tuple (rs.map ruD)]
def dBroken (ds : List PyData) : Prop := ∃ f rs zs, ds = [bkD f rs, stT zs] ∧ (∀ r ∈ rs, RlOk r) ∧ StOk zs ∧ rs.length ≤ 100
def rBroken (ds : List PyData) (d : PyData) : Prop := ∀ f rs zs, ds = [bkD f rs, stT zs] → d = rdT (badI rs zs)
def rGood (ds : List PyData) (d : PyData) : Prop := ∀ f rs zs, ds = [bkD f rs, stT zs] → d = .bool (badI rs zs).isEmpty
theorem rus_inj {a c : List Rl} (h : a.map ruD = c.map ruD) : a = c := map_inj (fun _ _ e => ruD_inj e) h
theorem bkD_inj {f g : PyData} {a c : List Rl} (h : bkD f a = bkD g c) : f = g ∧ a = c := by
  unfold bkD at h
  simp only [PyData.tuple.injEq, List.cons.injEq, and_true] at h
  exact ⟨h.1, rus_inj h.2⟩
def scR (t : Int) (r : Rl) : Rl := { r with b := r.b * t }
def addS (zs ys : Qs) : Qs := (zs.zip ys).map fun p => (frN (p.1.1 * p.2.2 + p.2.1 * p.1.2) (p.1.2 * p.2.2), frD (p.1.1 * p.2.2 + p.2.1 * p.1.2) (p.1.2 * p.2.2))
def mulS (p q : Int) (zs : Qs) : Qs := zs.map fun z => (frN (p * z.1) (q * z.2), frD (p * z.1) (q * z.2))
def unitV (at_ n : Nat) : List Int := (List.range n).map fun i => if i = at_ then 1 else 0
def dAddS (ds : List PyData) : Prop := ∃ zs ys : Qs, ds = [stT zs, stT ys] ∧ (∀ p ∈ zs, Fg p.1 p.2) ∧ (∀ p ∈ ys, Fg p.1 p.2) ∧ zs.length ≤ 100 ∧ ys.length ≤ 100
def rAddS (ds : List PyData) (d : PyData) : Prop := ∀ zs ys : Qs, ds = [stT zs, stT ys] → d = stT (addS zs ys)
def dMulS (ds : List PyData) : Prop := ∃ (p q : Int) (zs : Qs), ds = [FrD p q, stT zs] ∧ Fg p q ∧ (∀ p ∈ zs, Fg p.1 p.2) ∧ zs.length ≤ 100
def rMulS (ds : List PyData) (d : PyData) : Prop := ∀ (p q : Int) (zs : Qs), ds = [FrD p q, stT zs] → d = stT (mulS p q zs)
def dotI (xs ys : List Int) : Int := ((xs.zip ys).map fun p => p.1 * p.2).sum
def dDot (ds : List PyData) : Prop := ∃ xs ys : List Int, ds = [rdT xs, .list (ys.map .int)] ∧ (∀ x ∈ xs, x.natAbs < 2 ^ 4000) ∧ (∀ x ∈ ys, x.natAbs < 2 ^ 4000) ∧ xs.length ≤ 100
def rDot (ds : List PyData) (d : PyData) : Prop := ∀ xs ys : List Int, ds = [rdT xs, .list (ys.map .int)] → d = .int (dotI xs ys)
def dUnits (ds : List PyData) : Prop := ∃ a n : Nat, ds = [.list [.int (a : Nat)], .int (n : Nat)] ∧ n ≤ 100
def rUnits (ds : List PyData) (d : PyData) : Prop := ∀ a n : Nat, ds = [.list [.int (a : Nat)], .int (n : Nat)] → d = .tuple [rdT (unitV a n)]
theorem listI_inj {a c : List Int} (h : PyData.list (a.map .int) = .list (c.map .int)) : a = c := by
  have : a.map PyData.int = c.map PyData.int := by injection h
  exact map_inj (fun _ _ e => int_inj _ _ e) this
theorem intL_eq (n : Nat) : intL n = (List.range n).map fun i => .int (i : Nat) := rfl
theorem nat_inj (a c : Nat) (h : PyData.int (a : Nat) = PyData.int (c : Nat)) : a = c := by injection h with h; omega
end Dl
set_option Elab.async false
set_option linter.all false
set_option maxRecDepth 100000
set_option maxHeartbeats 4000000
namespace Dl
open PySem PySem.Spec PyProof.Rows L2
/-! ### rows of whole numbers, led to steps -/
def rowL (r : List Int) : PyData := .list (r.map .int)
theorem rowL_inj (a c : List Int) (h : rowL a = rowL c) : a = c := listI_inj h
def gl (l : List Int) : Int := l.foldl (fun c x => gI c (if x < 0 then -x else x)) 0
theorem gl_snoc (l : List Int) (x : Int) : gl (l ++ [x]) = gI (gl l) (if x < 0 then -x else x) := by simp [gl]
theorem gl_dvd (l : List Int) : 0 ≤ gl l ∧ ∀ x ∈ l, gl l ∣ x := by
  refine snoc_ind (P := fun l => 0 ≤ gl l ∧ ∀ x ∈ l, gl l ∣ x) ⟨by decide, fun x h => nomatch h⟩ (fun l x ih => ?_) l
  rw [gl_snoc]
  refine ⟨by unfold gI; omega, fun y hy => ?_⟩
  rcases List.mem_append.mp hy with hy | hy
  · exact Int.dvd_trans (gI_dvd1 _ _) (ih.2 y hy)
  · have e : y = x := by simpa using hy
    subst e
    have h := gI_dvd2 (gl l) (if y < 0 then -y else y)
    by_cases c : y < 0
    · rw [if_pos c] at h ⊢; exact Int.dvd_neg.mp h
    · rw [if_neg c] at h ⊢; exact h
theorem gl_pos {l : List Int} {x : Int} (h : x ∈ l) (h0 : x ≠ 0) : 0 < gl l ∧ (gl l).natAbs ≤ x.natAbs := by
  obtain ⟨h1, h2⟩ := gl_dvd l
  obtain ⟨c, hc⟩ := h2 x h
  have g0 : gl l ≠ 0 := fun z => h0 (by rw [hc, z, Int.zero_mul])
  refine ⟨by omega, ?_⟩
  have e := congrArg Int.natAbs hc
  rw [Int.natAbs_mul] at e
  have c0 : c ≠ 0 := fun z => h0 (by rw [hc, z, Int.mul_zero])
  rw [e]
  exact Nat.le_mul_of_pos_right _ (by omega)
def PrimOk (row row' : List Int) : Prop := ∃ c : Int, c ≠ 0 ∧ row = row'.map (fun y => c * y) ∧ ∀ f rest, (row.filter fun x => !decide (x = 0)) = f :: rest → 0 < c * f
theorem getD_map {l : List Int} {f : Int → Int} (h0 : f 0 = 0) (i : Nat) : (l.map f).getD i 0 = f (l.getD i 0) := by
  simp only [List.getD_eq_getElem?_getD, List.getElem?_map]
  cases l[i]? with
  | none => exact h0.symm
  | some x => rfl
theorem PrimOk.len {a c : List Int} (h : PrimOk a c) : c.length = a.length := by
  obtain ⟨k, _, e, _⟩ := h
  rw [e, List.length_map]
theorem PrimOk.get {a c : List Int} (h : PrimOk a c) : ∃ k : Int, k ≠ 0 ∧ ∀ i, a.getD i 0 = k * c.getD i 0 := by
  obtain ⟨k, hk, e, _⟩ := h
  exact ⟨k, hk, fun i => by rw [e]; exact getD_map (f := fun y => k * y) (Int.mul_zero k) i⟩
theorem PrimOk.zero {a c : List Int} (h : PrimOk a c) {i : Nat} (hi : a.getD i 0 = 0) : c.getD i 0 = 0 := by
  obtain ⟨k, hk, e⟩ := h.get
  have := e i
  rw [hi] at this
  rcases Int.mul_eq_zero.mp this.symm with z | z
  · exact absurd z hk
  · exact z
theorem PrimOk.bound {a c : List Int} {B : Nat} (h : PrimOk a c) (hb : ∀ x ∈ a, x.natAbs ≤ B) : ∀ y ∈ c, y.natAbs ≤ B := by
  obtain ⟨k, hk, e, _⟩ := h
  intro y hy
  have h1 := hb (k * y) (by rw [e]; exact List.mem_map.mpr ⟨y, hy, rfl⟩)
  rw [Int.natAbs_mul] at h1
  have := Nat.le_mul_of_pos_left y.natAbs (show 0 < k.natAbs by omega)
  omega
theorem filter_head : ∀ (l : List Int) (p : Nat), l.getD p 0 ≠ 0 → (∀ c < p, l.getD c 0 = 0) → ∃ rest, (l.filter fun x => !decide (x = 0)) = l.getD p 0 :: rest
  | [], p, h, _ => by simp at h
  | x :: l, 0, h, _ => by
    have hx : x ≠ 0 := by simpa using h
    exact ⟨l.filter fun x => !decide (x = 0), by simp [hx]⟩
  | x :: l, p + 1, h, hz => by
    have hx : x = 0 := by simpa using hz 0 (by omega)
    obtain ⟨rest, e⟩ := filter_head l p (by simpa using h) fun c hc => by simpa using hz (c + 1) (by omega)
    exact ⟨rest, by simpa [hx] using e⟩
theorem PrimOk.pos {a c : List Int} (h : PrimOk a c) {p : Nat} (hp : a.getD p 0 ≠ 0) (hz : ∀ i < p, a.getD i 0 = 0) : 0 < c.getD p 0 := by
  obtain ⟨rest, e⟩ := filter_head a p hp hz
  obtain ⟨k, hk, e2, e3⟩ := h
  have h1 := e3 _ _ e
  have h2 : a.getD p 0 = k * c.getD p 0 := by rw [e2]; exact getD_map (f := fun y => k * y) (Int.mul_zero k) p
  rw [h2] at h1
  have h3 : k * (k * c.getD p 0) = (k * k) * c.getD p 0 := (Int.mul_assoc _ _ _).symm
  rw [h3] at h1
  have kk : 0 < k * k := by
    rcases Int.lt_or_gt_of_ne hk with z | z
    · exact Int.mul_pos_of_neg_of_neg z z
    · exact Int.mul_pos z z
  rcases Int.lt_trichotomy (c.getD p 0) 0 with z | z | z
  · have := Int.mul_neg_of_pos_of_neg kk z; omega
  · rw [z, Int.mul_zero] at h1; omega
  · exact z
def comb (a c : Int) (row lead : List Int) : List Int := (row.zip lead).map fun p => a * p.1 - c * p.2
theorem comb_len {a c : Int} {row lead : List Int} {n : Nat} (h1 : row.length = n) (h2 : lead.length = n) : (comb a c row lead).length = n := by
  unfold comb
  rw [List.length_map, List.length_zip]; omega
theorem comb_get {a c : Int} {row lead : List Int} (h : row.length = lead.length) (i : Nat) : (comb a c row lead).getD i 0 = a * row.getD i 0 - c * lead.getD i 0 := by
  unfold comb
  simp only [List.getD_eq_getElem?_getD, List.getElem?_map]
  by_cases hi : i < row.length
  · have hi2 : i < lead.length := by omega
    have e : (row.zip lead)[i]? = some (row[i], lead[i]) := by
      rw [List.getElem?_eq_getElem (by rw [List.length_zip]; omega)]
      simp
    rw [e, List.getElem?_eq_getElem hi, List.getElem?_eq_getElem hi2]
    rfl
  · rw [List.getElem?_eq_none (by rw [List.length_zip]; omega), List.getElem?_eq_none (by omega), List.getElem?_eq_none (by omega)]
    simp
theorem comb_bound {a c : Int} {row lead : List Int} {B : Nat} (ha : a.natAbs ≤ B) (hc : c.natAbs ≤ B) (h1 : ∀ x ∈ row, x.natAbs ≤ B) (h2 : ∀ x ∈ lead, x.natAbs ≤ B) : ∀ x ∈ comb a c row lead, x.natAbs ≤ 2 * B * B := by
  intro x hx
  obtain ⟨p, hp, rfl⟩ := List.mem_map.mp hx
  obtain ⟨m1, m2⟩ := List.of_mem_zip hp
  have e1 := Nat.mul_le_mul ha (h1 _ m1)
  have e2 := Nat.mul_le_mul hc (h2 _ m2)
  have e3 : (a * p.1 - c * p.2).natAbs ≤ (a * p.1).natAbs + (c * p.2).natAbs := by omega
  rw [Int.natAbs_mul, Int.natAbs_mul] at e3
  have : 2 * B * B = B * B + B * B := by grind
  show (a * p.1 - c * p.2).natAbs ≤ _
  omega
def FB : Nat → Nat → Nat
  | 0, b => b
  | j + 1, b => 2 * FB j b * FB j b
theorem FB_pos {b : Nat} (h : 1 ≤ b) : ∀ j, 1 ≤ FB j b
  | 0 => h
  | j + 1 => by
    have := FB_pos h j
    show 1 ≤ 2 * FB j b * FB j b
    exact Nat.mul_pos (Nat.mul_pos (by decide) this) this
theorem FB_le_succ {b : Nat} (h : 1 ≤ b) (j : Nat) : FB j b ≤ FB (j + 1) b := by
  have := FB_pos h j
  show FB j b ≤ 2 * FB j b * FB j b
  exact Nat.le_mul_of_pos_left _ (by omega)
theorem FB_mono {b : Nat} (h : 1 ≤ b) {i j : Nat} (hij : i ≤ j) : FB i b ≤ FB j b := by
  induction hij with
  | refl => exact Nat.le_refl _
  | step _ ih => exact Nat.le_trans ih (FB_le_succ h _)
theorem FB_monoB {b c : Nat} (h : b ≤ c) : ∀ j, FB j b ≤ FB j c
  | 0 => h
  | j + 1 => Nat.mul_le_mul (Nat.mul_le_mul_left 2 (FB_monoB h j)) (FB_monoB h j)
abbrev Lds := List (Nat × List Int)
structure Ech (n at_ k0 b : Nat) (rows : List (List Int)) (L : Lds) : Prop where
  r : ∀ r ∈ rows, r.length = n ∧ (∀ x ∈ r, x.natAbs ≤ FB L.length b) ∧ ∀ c < at_, r.getD c 0 = 0
  l : ∀ q ∈ L, q.2.length = n ∧ (∀ x ∈ q.2, x.natAbs ≤ FB L.length b) ∧ q.1 < at_ ∧ 0 < q.2.getD q.1 0 ∧ ∀ c < q.1, q.2.getD c 0 = 0
  inc : L.Pairwise fun p q => p.1 < q.1
  cnt : rows.length + L.length ≤ k0
theorem inc_len : ∀ (L : Lds) (lo hi : Nat), (L.Pairwise fun p q => p.1 < q.1) → (∀ q ∈ L, lo ≤ q.1 ∧ q.1 < hi) → lo ≤ hi → L.length ≤ hi - lo
  | [], _, _, _, _, _ => by simp
  | q :: L, lo, hi, hp, hb, hl => by
    obtain ⟨h1, h2⟩ := List.pairwise_cons.mp hp
    have hq := hb q (by simp)
    have ih := inc_len L (q.1 + 1) hi h2 (fun r hr => ⟨h1 r hr, (hb r (by simp [hr])).2⟩) (by omega)
    rw [List.length_cons]; omega
theorem Ech.len {n at_ k0 b : Nat} {rows : List (List Int)} {L : Lds} (e : Ech n at_ k0 b rows L) : L.length ≤ at_ := by
  have := inc_len L 0 at_ e.inc (fun q hq => ⟨Nat.zero_le _, (e.l q hq).2.2.1⟩) (Nat.zero_le _)
  omega
theorem Ech.skip {n at_ k0 b : Nat} {rows : List (List Int)} {L : Lds} (e : Ech n at_ k0 b rows L) (h : ∀ r ∈ rows, r.getD at_ 0 = 0) : Ech n (at_ + 1) k0 b rows L := by
  refine ⟨fun r hr => ?_, fun q hq => ?_, e.inc, e.cnt⟩
  · obtain ⟨h1, h2, h3⟩ := e.r r hr
    refine ⟨h1, h2, fun c hc => ?_⟩
    by_cases q : c = at_
    · rw [q]; exact h r hr
    · exact h3 c (by omega)
  · obtain ⟨h1, h2, h3, h4⟩ := e.l q hq
    exact ⟨h1, h2, by omega, h4⟩
def Rel2 {α β : Type} (R : α → β → Prop) : List α → List β → Prop
  | [], [] => True
  | a :: l, c :: m => R a c ∧ Rel2 R l m
  | _, _ => False
theorem Rel2.snoc {α β : Type} {R : α → β → Prop} : ∀ {l : List α} {m : List β} {a : α} {c : β}, Rel2 R l m → R a c → Rel2 R (l ++ [a]) (m ++ [c])
  | [], [], _, _, _, h => ⟨h, trivial⟩
  | [], _ :: _, _, _, h, _ => h.elim
  | _ :: _, [], _, _, h, _ => h.elim
  | x :: l, y :: m, _, _, h, h2 => ⟨h.1, Rel2.snoc h.2 h2⟩
theorem Rel2.len {α β : Type} {R : α → β → Prop} : ∀ {l : List α} {m : List β}, Rel2 R l m → l.length = m.length
  | [], [], _ => rfl
  | [], _ :: _, h => h.elim
  | _ :: _, [], h => h.elim
  | x :: l, y :: m, h => congrArg (· + 1) (Rel2.len h.2)
/-- the leads anew, each with its own place -/
theorem Ech.step {n at_ k0 b : Nat} {rows rows1 rows3 : List (List Int)} {L : Lds} {lead lead' : List Int} {leads3 : List (List Int)} (hb : 1 ≤ b) (han : at_ < n) (e : Ech n at_ k0 b rows L) (hl : lead ∈ rows) (ha : lead.getD at_ 0 ≠ 0)
    (h1 : ∀ r ∈ rows1, r ∈ rows) (h1l : rows1.length + 1 ≤ rows.length)
    (h3 : ∀ r' ∈ rows3, ∃ r ∈ rows1, PrimOk (comb (lead.getD at_ 0) (r.getD at_ 0) r lead) r') (h3l : rows3.length ≤ rows1.length)
    (hL : Rel2 (fun (q : Nat × List Int) r' => PrimOk (comb (lead.getD at_ 0) (q.2.getD at_ 0) q.2 lead) r') L leads3) (hle : PrimOk lead lead') :
    ∃ L' : Lds, L'.map (·.2) = leads3 ++ [lead'] ∧ Ech n (at_ + 1) k0 b rows3 L' := by
  obtain ⟨l1, l2, l3⟩ := e.r lead hl
  have B0 := FB_le_succ hb L.length
  have getB : ∀ {r : List Int} {i : Nat}, (∀ x ∈ r, x.natAbs ≤ FB L.length b) → (r.getD i 0).natAbs ≤ FB L.length b := by
    intro r i h
    rw [List.getD_eq_getElem?_getD]
    cases q : r[i]? with
    | none => exact Nat.zero_le _
    | some x => exact h x (List.mem_of_getElem? q)
  have go : ∀ (L0 : Lds) (M : List (List Int)), (∀ q ∈ L0, q ∈ L) → Rel2 (fun (q : Nat × List Int) r' => PrimOk (comb (lead.getD at_ 0) (q.2.getD at_ 0) q.2 lead) r') L0 M →
      (L0.Pairwise fun p q => p.1 < q.1) → ∃ L' : Lds, L'.map (·.2) = M ∧ L'.map (·.1) = L0.map (·.1) ∧ ∀ q ∈ L', q.2.length = n ∧ (∀ x ∈ q.2, x.natAbs ≤ FB (L.length + 1) b) ∧ q.1 < at_ ∧ 0 < q.2.getD q.1 0 ∧ ∀ c < q.1, q.2.getD c 0 = 0 := by
    intro L0
    induction L0 with
    | nil =>
      intro M _ h _
      cases M with
      | nil => exact ⟨[], rfl, rfl, fun q hq => nomatch hq⟩
      | cons a M => exact h.elim
    | cons q L0 ih =>
      intro M hs h hp
      cases M with
      | nil => exact h.elim
      | cons r' M =>
        obtain ⟨hr, hM⟩ := h
        obtain ⟨L', e1, e2, e3⟩ := ih M (fun z hz => hs z (by simp [hz])) hM (List.pairwise_cons.mp hp).2
        obtain ⟨q1, q2, q3, q4, q5⟩ := e.l q (hs q (by simp))
        have ll : q.2.length = lead.length := by omega
        have cg := fun i => comb_get (a := lead.getD at_ 0) (c := q.2.getD at_ 0) ll i
        have z1 : ∀ c < q.1, (comb (lead.getD at_ 0) (q.2.getD at_ 0) q.2 lead).getD c 0 = 0 := fun c hc => by
          rw [cg, q5 c hc, l3 c (by omega), Int.mul_zero, Int.mul_zero]; rfl
        have n1 : (comb (lead.getD at_ 0) (q.2.getD at_ 0) q.2 lead).getD q.1 0 ≠ 0 := by
          rw [cg, l3 q.1 q3, Int.mul_zero, Int.sub_zero]
          exact Int.mul_ne_zero ha (by omega)
        refine ⟨(q.1, r') :: L', by rw [List.map_cons, e1], by rw [List.map_cons, List.map_cons, e2], fun z hz => ?_⟩
        rcases List.mem_cons.mp hz with rfl | hz
        · refine ⟨by rw [hr.len]; exact comb_len q1 l1, hr.bound (B := FB (L.length + 1) b) (comb_bound (getB l2) (getB q2) q2 l2), q3, hr.pos n1 z1, fun c hc => hr.zero (z1 c hc)⟩
        · exact e3 z hz
  obtain ⟨L', e1, e2, e3⟩ := go L leads3 (fun q h => h) hL e.inc
  have len1 : L'.length = L.length := by have := congrArg List.length e2; simpa using this
  have lenE : (L' ++ [(at_, lead')]).length = L.length + 1 := by rw [List.length_append, len1]; rfl
  refine ⟨L' ++ [(at_, lead')], by rw [List.map_append, e1]; rfl, fun r' hr' => ?_, fun q hq => ?_, ?_, ?_⟩
  · obtain ⟨r, hr, hp⟩ := h3 r' hr'
    obtain ⟨r1, r2, r3⟩ := e.r r (h1 r hr)
    have ll : r.length = lead.length := by omega
    have cg := fun i => comb_get (a := lead.getD at_ 0) (c := r.getD at_ 0) ll i
    rw [lenE]
    refine ⟨by rw [hp.len]; exact comb_len r1 l1, hp.bound (B := FB (L.length + 1) b) (comb_bound (getB l2) (getB r2) r2 l2), fun c hc => hp.zero ?_⟩
    rw [cg]
    by_cases q : c = at_
    · rw [q, Int.mul_comm]; omega
    · rw [r3 c (by omega), l3 c (by omega), Int.mul_zero, Int.mul_zero]; rfl
  · rw [lenE]
    rcases List.mem_append.mp hq with hq | hq
    · obtain ⟨q1, q2, q3, q4⟩ := e3 q hq
      exact ⟨q1, q2, by omega, q4⟩
    · have : q = (at_, lead') := by simpa using hq
      subst this
      exact ⟨by rw [hle.len]; exact l1, hle.bound fun x hx => Nat.le_trans (l2 x hx) B0, Nat.lt_succ_self _, hle.pos ha l3, fun c hc => hle.zero (l3 c hc)⟩
  · have hp : (L'.map (·.1)).Pairwise (· < ·) := by rw [e2]; exact List.pairwise_map.mpr e.inc
    refine List.pairwise_append.mpr ⟨List.pairwise_map.mp hp, List.pairwise_singleton _ _, fun p hp q hq => ?_⟩
    have : q = (at_, lead') := by simpa using hq
    subst this
    exact (e3 p hp).2.2.1
  · rw [lenE]
    have := e.cnt
    omega
end Dl
set_option Elab.async false
set_option linter.all false
set_option maxRecDepth 100000
set_option maxHeartbeats 4000000
namespace Dl
open PySem PySem.Spec PyProof.Rows L2
theorem Lc.rel {α β : Type} {enc : α → PyData} {dec : β → PyData} {R : α → β → Prop} {E : PyData → PyData → Prop} {l m : List PyData} (h : Lc (fun _ c => c = true) E l m) : ∀ L : List α, l = L.map enc → (∀ a ∈ L, ∀ y, E (enc a) y → ∃ c, y = dec c ∧ R a c) → ∃ M : List β, m = M.map dec ∧ Rel2 R L M := by
  induction h with
  | nil =>
    intro L e _
    cases L with
    | nil => exact ⟨[], rfl, trivial⟩
    | cons a L => cases e
  | @yes l m x y h1 h2 h3 ih =>
    intro L e he
    obtain ⟨L1, L2, rfl, e1, e2⟩ := List.map_eq_append_iff.mp e.symm
    cases L2 with
    | nil => cases e2
    | cons a L2 =>
      cases L2 with
      | nil =>
        have ea : enc a = x := by simpa using e2
        subst ea
        obtain ⟨M, eM, hM⟩ := ih L1 e1.symm (fun b hb => he b (by simp [hb]))
        obtain ⟨c, ec, hc⟩ := he a (by simp) y h3
        exact ⟨M ++ [c], by rw [List.map_append, eM, ec]; rfl, hM.snoc hc⟩
      | cons b L2 => simp at e2
  | no _ h _ => cases h
section
variable {K : PySem.W.Frag} {env : List Sl} {b : Option Addr} {ms : Ms} {te ti ta tb : TE} {P Pa Pb : PyData → Prop} {tt tu : TT} {Pt Pu : Bool → Prop} {D : Ends} {tw tz : TS} {ts : TS} {G0 H0 Gs G H : Hp} {σ : L2.St}
theorem en_rel {α β : Type} {enc : α → PyData} {dec : β → PyData} {R : α → β → Prop} {L : List α} {wi : TI} {tg : TG} {vs : List Nat} {f : PyData → List Sl → List Sl} (inj : ∀ a c, enc a = enc c → a = c) (hi : EvG K env b ms wi (Is (L.map enc))) (hl : L.length ≤ 1000) (hg : ∀ a ∈ L, TgP K tg vs (enc a) (f (enc a)))
    (he : ∀ a ∈ L, EvP K (f (enc a) (wipeE env vs)) b ms te (fun y => ∃ c, y = dec c ∧ R a c)) : EvN K env b ms (tLc wi tg tYes te vs) (fun m => ∃ M : List β, m = M.map dec ∧ Rel2 R L M) := by
  refine en_imp (en_lcG (f := f) (T := fun _ c => c = true) (E := fun x y => ∀ a ∈ L, x = enc a → ∃ c, y = dec c ∧ R a c) hi (fun l e => by rw [e, List.length_map]; exact hl) (fun l e x hx => ?_) (fun l e x hx => et_yes) (fun l e x hx _ => ?_)) ?_
  · rw [e] at hx
    obtain ⟨a, ha, rfl⟩ := List.mem_map.mp hx
    exact hg a ha
  · rw [e] at hx
    obtain ⟨a, ha, rfl⟩ := List.mem_map.mp hx
    exact ev_imp (he a ha) fun c hc a' _ e' => by rw [← inj _ _ e']; exact hc
  · rintro m ⟨l, e, lc⟩
    exact lc.rel L e fun a ha y h => h a ha rfl
theorem en_relF {α β : Type} {enc : α → PyData} {dec : β → PyData} {R : α → β → Prop} {L : List α} {t : α → Bool} {wi : TI} {tg : TG} {vs : List Nat} {f : PyData → List Sl → List Sl} (inj : ∀ a c, enc a = enc c → a = c) (hi : EvG K env b ms wi (Is (L.map enc))) (hl : L.length ≤ 1000) (hg : ∀ a ∈ L, TgP K tg vs (enc a) (f (enc a)))
    (ht : ∀ a ∈ L, EtP K (f (enc a) (wipeE env vs)) b ms tt (Is (t a))) (he : ∀ a ∈ L, t a = true → EvP K (f (enc a) (wipeE env vs)) b ms te (fun y => ∃ c, y = dec c ∧ R a c)) : EvN K env b ms (tLc wi tg tt te vs) (fun m => ∃ M : List β, m = M.map dec ∧ M.length ≤ L.length ∧ ∀ c ∈ M, ∃ a ∈ L, R a c) := by
  refine en_imp (en_lcG (f := f) (T := fun x c => ∀ a ∈ L, x = enc a → c = t a) (E := fun x y => ∀ a ∈ L, x = enc a → ∃ c, y = dec c ∧ R a c) hi (fun l e => by rw [e, List.length_map]; exact hl) (fun l e x hx => ?_) (fun l e x hx => ?_) (fun l e x hx hT => ?_)) ?_
  · rw [e] at hx
    obtain ⟨a, ha, rfl⟩ := List.mem_map.mp hx
    exact hg a ha
  · rw [e] at hx
    obtain ⟨a, ha, rfl⟩ := List.mem_map.mp hx
    exact et_imp (ht a ha) fun c hc a' _ e' => by rw [← inj _ _ e']; exact hc
  · rw [e] at hx
    obtain ⟨a, ha, rfl⟩ := List.mem_map.mp hx
    exact ev_imp (he a ha (hT a ha rfl).symm) fun c hc a' _ e' => by rw [← inj _ _ e']; exact hc
  · rintro m ⟨l, e, lc⟩
    subst e
    have hm : ∀ y ∈ m, ∃ c : β, y = dec c ∧ ∃ a ∈ L, R a c := fun y hy => by
      obtain ⟨x, hx, h⟩ := lc.mem y hy
      obtain ⟨a, ha, rfl⟩ := List.mem_map.mp hx
      obtain ⟨c, e, r⟩ := h a ha rfl
      exact ⟨c, e, a, ha, r⟩
    have go : ∀ m : List PyData, (∀ y ∈ m, ∃ c : β, y = dec c ∧ ∃ a ∈ L, R a c) → ∃ M : List β, m = M.map dec ∧ ∀ c ∈ M, ∃ a ∈ L, R a c := by
      intro m
      induction m with
      | nil => intro _; exact ⟨[], rfl, fun c h => nomatch h⟩
      | cons y m ih =>
        intro h
        obtain ⟨M, e, hM⟩ := ih fun z hz => h z (by simp [hz])
        obtain ⟨c, ec, hc⟩ := h y (by simp)
        exact ⟨c :: M, by rw [e, ec]; rfl, fun z hz => by
          rcases List.mem_cons.mp hz with rfl | hz
          · exact hc
          · exact hM z hz⟩
    obtain ⟨M, e, hM⟩ := go m hm
    refine ⟨M, e, ?_, hM⟩
    have := lc.len
    rw [e, List.length_map, List.length_map] at this
    exact this
/-- x, y = (.., ..), both new lists that will change -/
theorem q_unpNN {i l : Nat} {P1 P2 : List PyData → Prop} (A : At K env b ms G0 H0 Gs σ G H) (h1 : EvN K env b ms ta P1) (h2 : EvN K env b ms tb P2)
    (k : ∀ a c ds es σ' G' H', P1 ds → P2 es → At K ((env.set i (.a a)).set l (.a c)) b ((c, es.map .d) :: (a, ds.map .d) :: ms) G0 H0 Gs σ' G' H' → tz D σ' H') : tSeq (tAsg (tTup (tCons ta (tCons tb tNil))) (gTup K 2 (gCons (gName i) (gCons (gName l) gNil)))) tz D σ H :=
  h1 σ G H A.env A.gr.gh A.j _ fun p xs ds G1 H1 g1 j1 n1 f1 hl1 da1 q1 => by
    obtain ⟨nb1, A1⟩ := A.newM g1 j1 n1 f1 hl1 da1
    refine en_weak (fun p hp => List.mem_cons_of_mem _ hp) h2 σ G1 H1 A1.env A1.gr.gh A1.j _ fun q ys es G2 H2 g2 j2 n2 f2 hl2 da2 q2 => ?_
    obtain ⟨nb2, A2⟩ := A1.newM g2 j2 n2 f2 hl2 da2
    refine ⟨by show 2 ≤ sizeLine; decide, fun T hT => ?_⟩
    have g3 : Grow No G2 H2 G2 (upd H2 T (.tup [.ref p, .ref q])) := Grow.lay0 A2.gr.gh hT
    have A3 := A2.step g3.no (A2.j.grow g3)
    exact ⟨T, _, rfl, SqT.of upd_same, rfl, _, _, rfl, _, _, rfl, rfl, k p q ds es _ G2 _ q1 q2 ((A3.put (i := i) (v := .ref p) (e := .a p) rfl).put (i := l) (v := .ref q) (e := .a q) rfl)⟩
theorem At.off {p : Addr} {es : List Sl} (A : At K env b ((p, es) :: ms) G0 H0 Gs σ G H) {q : Addr × List Sl} (h : q ∈ ms) : q.1 ≠ p := fun e => by
  have := A.nd
  rw [List.map_cons, List.nodup_cons] at this
  exact this.1 (List.mem_map.mpr ⟨q, h, e⟩)
end
theorem first_ix : ∀ (l : List (List Int)) (x : List Int), x ∈ l → ∃ j : Nat, l[j]? = some x ∧ ∀ (m : Nat) z, m < j → l[m]? = some z → z ≠ x
  | y :: l, x, h => by
    by_cases e : y = x
    · exact ⟨0, by rw [e]; rfl, fun m z hm => by omega⟩
    · rcases List.mem_cons.mp h with h | h
      · exact absurd h.symm e
      · obtain ⟨j, h1, h2⟩ := first_ix l x h
        refine ⟨j + 1, by simpa using h1, fun m z hm hz => ?_⟩
        cases m with
        | zero => have : y = z := by simpa using hz
                  rw [← this]; exact e
        | succ m => exact h2 m z (by omega) (by simpa using hz)
theorem erase_map {α β : Type} (f : α → β) : ∀ (l : List α) (j : Nat), (l.map f).eraseIdx j = (l.eraseIdx j).map f
  | [], _ => by simp
  | x :: l, 0 => by simp
  | x :: l, j + 1 => by
    show f x :: (l.map f).eraseIdx j = f x :: (l.eraseIdx j).map f
    rw [erase_map f l j]
theorem eqv_rowL (a c : List Int) : PyData.eqv (rowL a) (rowL c) = decide (a = c) := eqv_listI a c
theorem atI_rowI {r : List Int} {i : Nat} (h : i < r.length) : atI (r.map PyData.int) (i : Int) = some (.int (r.getD i 0)) := by
  refine atI_nat ?_
  rw [List.getElem?_map, List.getElem?_eq_getElem h, List.getD_eq_getElem?_getD, List.getElem?_eq_getElem h]
  rfl
def dPrim (ds : List PyData) : Prop := ∃ row : List Int, ds = [rowL row] ∧ row.length ≤ 100 ∧ (∃ x ∈ row, x ≠ 0) ∧ ∀ x ∈ row, x.natAbs < 2 ^ 4000
def rPrim (ds : List PyData) (d : PyData) : Prop := ∀ row : List Int, ds = [rowL row] → ∃ row', d = rowL row' ∧ PrimOk row row'
def eqT (r : Rl) : Bool := r.s && !(r.ms.filter fun x => !decide (x = 0)).isEmpty
def eqR (rs : List Rl) : List (List Int) := (rs.filter eqT).map (·.ms)
def dEqR (ds : List PyData) : Prop := ∃ rs : List Rl, ds = [.tuple (rs.map ruD)] ∧ rs.length ≤ 100 ∧ ∀ r ∈ rs, r.ms.length ≤ 100
def rEqR (ds : List PyData) (d : PyData) : Prop := ∀ rs : List Rl, ds = [.tuple (rs.map ruD)] → d = .list ((eqR rs).map rdT)
def rowD (tl : Bool) (r : List Int) : PyData := match tl with
  | true => rdT r
  | false => rowL r
theorem rowD_inj {tl : Bool} (a c : List Int) (h : rowD tl a = rowD tl c) : a = c := by
  cases tl with
  | true => exact rdT_inj h
  | false => exact listI_inj h
theorem rowD_sq {tl : Bool} (r : List Int) : Sqd (rowD tl r) (r.map .int) := by
  cases tl with
  | true => exact .t
  | false => exact .l
def mx (vs : List (List Int)) : Nat := (vs.flatten.map Int.natAbs).foldl max 1
theorem foldl_max_le : ∀ (l : List Nat) (a b : Nat), a ≤ b → (∀ x ∈ l, x ≤ b) → l.foldl max a ≤ b
  | [], a, b, h, _ => h
  | x :: l, a, b, h, hx => foldl_max_le l (max a x) b (Nat.max_le.mpr ⟨h, hx x (by simp)⟩) fun y hy => hx y (by simp [hy])
theorem foldl_max_ge : ∀ (l : List Nat) (a : Nat), a ≤ l.foldl max a ∧ ∀ x ∈ l, x ≤ l.foldl max a
  | [], a => ⟨Nat.le_refl _, fun x h => nomatch h⟩
  | x :: l, a => by
    obtain ⟨h1, h2⟩ := foldl_max_ge l (max a x)
    refine ⟨Nat.le_trans (Nat.le_max_left a x) h1, fun y hy => ?_⟩
    rcases List.mem_cons.mp hy with rfl | hy
    · exact Nat.le_trans (Nat.le_max_right a _) h1
    · exact h2 y hy
theorem mx_le {vs : List (List Int)} {b : Nat} (h : 1 ≤ b) (hb : ∀ v ∈ vs, ∀ x ∈ v, x.natAbs ≤ b) : mx vs ≤ b := foldl_max_le _ _ _ h fun x hx => by
  obtain ⟨y, hy, rfl⟩ := List.mem_map.mp hx
  obtain ⟨v, hv, hy⟩ := List.mem_flatten.mp hy
  exact hb v hv y hy
theorem mx_pos (vs : List (List Int)) : 1 ≤ mx vs := (foldl_max_ge _ _).1
theorem mx_ge {vs : List (List Int)} : ∀ v ∈ vs, ∀ x ∈ v, x.natAbs ≤ mx vs := fun v hv x hx => (foldl_max_ge _ _).2 _ (List.mem_map.mpr ⟨x, List.mem_flatten.mpr ⟨v, hv, hx⟩, rfl⟩)
structure SpOut (n k b : Nat) (L : Lds) : Prop where
  l : ∀ q ∈ L, q.2.length = n ∧ (∀ x ∈ q.2, x.natAbs ≤ FB L.length b) ∧ q.1 < n ∧ 0 < q.2.getD q.1 0 ∧ ∀ c < q.1, q.2.getD c 0 = 0
  inc : L.Pairwise fun p q => p.1 < q.1
  cnt : L.length ≤ k
def dSpace (ds : List PyData) : Prop := ∃ (tl : Bool) (vs : List (List Int)) (n : Nat), ds = [.list (vs.map (rowD tl)), .int (n : Nat)] ∧ n ≤ 100 ∧ vs.length ≤ 100 ∧ (∀ v ∈ vs, v.length = n) ∧ FB (min vs.length n) (mx vs) < 2 ^ 2000
def rSpace (ds : List PyData) (d : PyData) : Prop := ∀ (tl : Bool) (vs : List (List Int)) (n : Nat), ds = [.list (vs.map (rowD tl)), .int (n : Nat)] → ∃ L : Lds, d = .tuple (L.map fun q => rdT q.2) ∧ SpOut n vs.length (mx vs) L
theorem rowsD_inj : ∀ {tl tl' : Bool} {a c : List (List Int)}, a.map (rowD tl) = c.map (rowD tl') → a = c
  | _, _, [], [], _ => rfl
  | _, _, [], _ :: _, h => by cases h
  | _, _, _ :: _, [], h => by cases h
  | tl, tl', x :: a, y :: c, h => by
    rw [List.map_cons, List.map_cons] at h
    injection h with h1 h2
    rw [rowsD_inj h2]
    cases tl <;> cases tl'
    · rw [rowL_inj _ _ h1]
    · cases h1
    · cases h1
    · rw [rdT_inj h1]
theorem getD_mem {l : List Int} {p : Nat} (h : p < l.length) : l.getD p 0 ∈ l := by
  rw [List.getD_eq_getElem?_getD, List.getElem?_eq_getElem h]
  exact List.getElem_mem h
end Dl
set_option Elab.async false
set_option linter.all false
set_option maxRecDepth 100000
set_option maxHeartbeats 4000000
namespace Dl
open PySem PySem.Spec PyProof.Rows L2
section
variable {K : PySem.W.Frag} {env : List Sl} {b : Option Addr} {ms : Ms} {te ti ta tb : TE} {P Pa Pb : PyData → Prop} {tt tu : TT} {Pt Pu : Bool → Prop} {D : Ends} {tw tz : TS} {ts : TS} {G0 H0 Gs G H : Hp} {σ : L2.St}
/-- x, y = data, a new list that will change -/
theorem q_parDN {i l : Nat} {d : PyData} {P2 : List PyData → Prop} (A : At K env b ms G0 H0 Gs σ G H) (h1 : EvP K env b ms ta (Is d)) (h2 : EvN K env b ms tb P2)
    (k : ∀ c es σ' G' H', P2 es → At K ((env.set i (.d d)).set l (.a c)) b ((c, es.map .d) :: ms) G0 H0 Gs σ' G' H' → tz D σ' H') : tSeq (tPar i l (tCons ta (tCons tb tNil))) tz D σ H :=
  h1 σ G H A.env A.gr.gh A.j _ fun v d' G1 H1 g1 j1 p1 q1 => by
    cases q1
    have A1 := A.step g1 j1
    refine h2 σ G1 H1 A1.env A1.gr.gh A1.j _ fun q ys es G2 H2 g2 j2 n2 f2 hl2 da2 q2 => ?_
    obtain ⟨nb2, A2⟩ := A1.newM g2 j2 n2 f2 hl2 da2
    exact ⟨_, _, rfl, k q es _ G2 H2 q2 ((A2.put (i := i) (v := v) (e := .d d) (slot_d (dp_mono g2.g _ _ p1))).put (i := l) (v := .ref q) (e := .a q) rfl)⟩
end
def fnz (r : List Int) : Nat := r.findIdx fun x => !decide (x = 0)
theorem fnz_eq : ∀ (r : List Int) (p : Nat), r.getD p 0 ≠ 0 → (∀ c < p, r.getD c 0 = 0) → fnz r = p
  | [], p, h, _ => by simp at h
  | x :: r, 0, h, _ => by
    have hx : x ≠ 0 := by simpa using h
    unfold fnz
    rw [List.findIdx_cons]
    simp [hx]
  | x :: r, p + 1, h, hz => by
    have hx : x = 0 := by simpa using hz 0 (by omega)
    have ih := fnz_eq r p (by simpa using h) fun c hc => by simpa using hz (c + 1) (by omega)
    unfold fnz at ih ⊢
    rw [List.findIdx_cons]
    simp [hx]
    simpa using ih
theorem nz_head : ∀ (r : List Int) (p k : Nat), r.getD p 0 ≠ 0 → (∀ c < p, r.getD c 0 = 0) → ∃ rest, ((r.zipIdx k).filter fun x => !decide (x.1 = 0)) = (r.getD p 0, k + p) :: rest
  | [], p, k, h, _ => by simp at h
  | x :: r, 0, k, h, _ => by
    have hx : x ≠ 0 := by simpa using h
    refine ⟨(r.zipIdx (k + 1)).filter fun x => !decide (x.1 = 0), ?_⟩
    rw [List.zipIdx_cons, List.filter_cons]
    simp [hx]
  | x :: r, p + 1, k, h, hz => by
    have hx : x = 0 := by simpa using hz 0 (by omega)
    obtain ⟨rest, e⟩ := nz_head r p (k + 1) (by simpa using h) fun c hc => by simpa using hz (c + 1) (by omega)
    refine ⟨rest, ?_⟩
    rw [List.zipIdx_cons, List.filter_cons]
    simp only [hx, decide_true, Bool.not_true, Bool.false_eq_true, if_false]
    rw [e]
    have e2 : k + 1 + p = k + (p + 1) := by omega
    rw [e2]
    rfl
theorem filt_succ : ∀ (L : Lds) (i : Nat), (L.Pairwise fun p q => p.1 < q.1) → (L.filter fun q => decide (q.1 < i + 1)).length ≤ (L.filter fun q => decide (q.1 < i)).length + 1
  | [], _, _ => by simp
  | q :: L, i, h => by
    obtain ⟨h1, h2⟩ := List.pairwise_cons.mp h
    have ih := filt_succ L i h2
    rw [List.filter_cons, List.filter_cons]
    by_cases c1 : q.1 < i
    · have c2 : q.1 < i + 1 := by omega
      simp only [c1, c2, decide_true, if_true, List.length_cons]
      omega
    · have e : (L.filter fun q => decide (q.1 < i + 1)) = [] := by
        refine List.filter_eq_nil_iff.mpr fun r hr => ?_
        have := h1 r hr
        simp only [decide_eq_true_eq]
        omega
      rw [e]
      by_cases c2 : q.1 < i + 1
      · simp [c1, c2]
      · simp [c1, c2]
theorem filt_out {L : Lds} {i : Nat} (h : ∀ q ∈ L, q.1 ≠ i) : (L.filter fun q => decide (q.1 < i + 1)) = L.filter fun q => decide (q.1 < i) := by
  refine List.filter_congr fun q hq => ?_
  have := h q hq
  exact decide_eq_decide.mpr (by omega)
def encLd (q : Nat × List Int) : PyData := .tuple [rdT q.2, .int (q.1 : Nat)]
theorem pairs_ld : ∀ L : Lds, pairs (L.map fun q => rdT q.2) (L.map fun q => .int (q.1 : Nat)) = L.map encLd
  | [] => rfl
  | q :: L => by
    show PyData.tuple [rdT q.2, .int (q.1 : Nat)] :: pairs _ _ = _
    rw [pairs_ld L]; rfl
structure SpN (n : Nat) (L : Lds) : Prop where
  l : ∀ q ∈ L, q.2.length = n ∧ q.1 < n ∧ 0 < q.2.getD q.1 0 ∧ ∀ c < q.1, q.2.getD c 0 = 0
  inc : L.Pairwise fun p q => p.1 < q.1
def LB (L : Lds) : Nat := mx (L.map (·.2))
def UBd (L : Lds) : Nat := LB L ^ (L.length + 1)
def dUp (ds : List PyData) : Prop := ∃ (L : Lds) (n : Nat), ds = [.tuple (L.map fun q => rdT q.2), .int (n : Nat)] ∧ n ≤ 100 ∧ SpN n L ∧ FB (n - L.length) (UBd L) < 2 ^ 2000
def rUp (ds : List PyData) (d : PyData) : Prop := ∀ (L : Lds) (n : Nat), ds = [.tuple (L.map fun q => rdT q.2), .int (n : Nat)] → SpN n L → ∃ L2 : Lds, d = .tuple (L2.map fun q => rdT q.2) ∧ SpOut n (n - L.length) (UBd L) L2
theorem SpOut.up {n k b b2 : Nat} {L : Lds} (h : SpOut n k b L) (hb : b ≤ b2) : SpOut n k b2 L := ⟨fun q hq => by
  obtain ⟨h1, h2, h3⟩ := h.l q hq
  exact ⟨h1, fun x hx => Nat.le_trans (h2 x hx) (FB_monoB hb _), h3⟩, h.inc, h.cnt⟩
theorem SpOut.n {n k b : Nat} {L : Lds} (h : SpOut n k b L) : SpN n L := ⟨fun q hq => ⟨(h.l q hq).1, (h.l q hq).2.2⟩, h.inc⟩
theorem SpN.len {n : Nat} {L : Lds} (h : SpN n L) : L.length ≤ n := by
  have := inc_len L 0 n h.inc (fun q hq => ⟨Nat.zero_le _, (h.l q hq).2.1⟩) (Nat.zero_le _)
  omega
theorem LB_le {n k b : Nat} {L : Lds} (hb : 1 ≤ b) (h : SpOut n k b L) : LB L ≤ FB L.length b := mx_le (FB_pos hb _) fun v hv x hx => by
  obtain ⟨q, hq, rfl⟩ := List.mem_map.mp hv
  exact (h.l q hq).2.1 x hx
theorem UBd_pos (L : Lds) : 1 ≤ UBd L := Nat.pow_pos (mx_pos _)
/-- the places are told by the rows -/
theorem lds_eq {n : Nat} : ∀ {L M : Lds}, SpN n L → SpN n M → L.map (·.2) = M.map (·.2) → L = M
  | [], [], _, _, _ => rfl
  | [], _ :: _, _, _, h => by cases h
  | _ :: _, [], _, _, h => by cases h
  | q :: L, p :: M, hL, hM, h => by
    rw [List.map_cons, List.map_cons] at h
    injection h with h1 h2
    obtain ⟨_, _, a1, a2⟩ := hL.l q (by simp)
    obtain ⟨_, _, b1, b2⟩ := hM.l p (by simp)
    have e1 := fnz_eq q.2 q.1 (by omega) a2
    have e2 := fnz_eq p.2 p.1 (by omega) b2
    have e3 : q = p := Prod.ext (by rw [← e1, ← e2]; exact congrArg fnz h1) h1
    rw [e3, lds_eq ⟨fun r hr => hL.l r (by simp [hr]), (List.pairwise_cons.mp hL.inc).2⟩ ⟨fun r hr => hM.l r (by simp [hr]), (List.pairwise_cons.mp hM.inc).2⟩ h2]
end Dl
set_option Elab.async false
set_option linter.all false
set_option maxRecDepth 100000
set_option maxHeartbeats 4000000
namespace Dl
open PySem PySem.Spec PyProof.Rows L2
/-! ### data that are shown in few signs -/
structure Sx (d : PyData) (w h : Nat) : Prop where
  can : d.canLay0 = true
  dep : d.depth ≤ h
  wei : d.weight ≤ w
  sho : d.leavesShort 602 = true
  shw : d.showable = true
structure SxA (l : List PyData) (w h : Nat) : Prop where
  can : PyData.canLayAll0 l = true
  dep : PyData.depthAll l ≤ h
  wei : PyData.weightAll l ≤ w
  sho : PyData.leavesShortAll 602 l = true
  shw : PyData.showableAll l = true
theorem sx_int {i : Int} {h k : Nat} (hi : i.natAbs < 2 ^ k) (hk : k ≤ 600) : Sx (.int i) k h := by
  have l : i ≠ 0 → i.natAbs.log2 < k := fun z => (Nat.log2_lt (by omega)).mpr hi
  have l6 : i.natAbs.log2 < 600 := by
    by_cases z : i.natAbs = 0
    · rw [z]; decide
    · exact Nat.lt_of_lt_of_le (l (by omega)) hk
  refine ⟨by simp only [PyData.canLay0], by simp only [PyData.depth]; omega, ?_, ?_, ?_⟩
  · simp only [PyData.weight]
    split
    · omega
    · rename_i h0
      have : i ≠ 0 := fun z => h0 (by simp [z])
      have := l this
      omega
  · have h1 := int_text_length_le (a := i) (k := 600) (by decide) l6
    simp only [PyData.leavesShort, decide_eq_true_eq]
    have e : (PyData.shown (.int i)).length = (Str.ofString (toString i)).length := by simp only [PyData.shown]
    rw [e]
    rw [PySem.ofString_length]
    omega
  · simp only [PyData.showable, decide_eq_true_eq]; omega
theorem sx_bool {c : Bool} {h : Nat} : Sx (.bool c) 0 h := ⟨by simp only [PyData.canLay0], by simp only [PyData.depth]; omega, by simp only [PyData.weight]; omega, by simp only [PyData.leavesShort], by simp only [PyData.showable]⟩
theorem sx_none {h : Nat} : Sx .none 0 h := ⟨by simp only [PyData.canLay0], by simp only [PyData.depth]; omega, by simp only [PyData.weight]; omega, by simp only [PyData.leavesShort], by simp only [PyData.showable]⟩
theorem Sx.le {d : PyData} {w w' h h' : Nat} (s : Sx d w h) (hw : w ≤ w') (hh : h ≤ h') : Sx d w' h' := ⟨s.can, Nat.le_trans s.dep hh, Nat.le_trans s.wei hw, s.sho, s.shw⟩
theorem SxA.le {d : List PyData} {w w' h h' : Nat} (s : SxA d w h) (hw : w ≤ w') (hh : h ≤ h') : SxA d w' h' := ⟨s.can, Nat.le_trans s.dep hh, Nat.le_trans s.wei hw, s.sho, s.shw⟩
theorem sxa_nil {h : Nat} : SxA [] 0 h := ⟨by simp only [PyData.canLayAll0], by simp only [PyData.depthAll]; omega, by simp only [PyData.weightAll]; omega, by simp only [PyData.leavesShortAll], by simp only [PyData.showableAll]⟩
theorem sxa_cons {d : PyData} {l : List PyData} {w w2 h : Nat} (a : Sx d w h) (b : SxA l w2 h) : SxA (d :: l) (w + 1 + w2) h :=
  ⟨by simp only [PyData.canLayAll0, a.can, b.can, Bool.and_self], by simp only [PyData.depthAll]; have := a.dep; have := b.dep; omega, by simp only [PyData.weightAll]; have := a.wei; have := b.wei; omega, by simp only [PyData.leavesShortAll, a.sho, b.sho, Bool.and_self], by simp only [PyData.showableAll, a.shw, b.shw, Bool.and_self]⟩
theorem sxa_app {l m : List PyData} {w w2 h : Nat} (a : SxA l w h) (b : SxA m w2 h) : SxA (l ++ m) (w + w2) h := by
  induction l generalizing w with
  | nil => exact b.le (by omega) (Nat.le_refl _)
  | cons x l ih =>
    obtain ⟨c, d, e, f, g⟩ := a
    simp only [PyData.canLayAll0, PyData.depthAll, PyData.weightAll, PyData.leavesShortAll, PyData.showableAll, Bool.and_eq_true] at c d e f g
    have h1 := ih (w := PyData.weightAll l) ⟨c.2, by omega, Nat.le_refl _, f.2, g.2⟩
    exact (sxa_cons (w := x.weight) ⟨c.1, by omega, Nat.le_refl _, f.1, g.1⟩ h1).le (by omega) (Nat.le_refl _)
theorem sxa_all {l : List PyData} {w h : Nat} (a : ∀ x ∈ l, Sx x w h) : SxA l ((w + 1) * l.length) h := by
  induction l with
  | nil => exact sxa_nil
  | cons x l ih =>
    have h1 := sxa_cons (a x (by simp)) (ih fun y hy => a y (by simp [hy]))
    refine h1.le ?_ (Nat.le_refl _)
    rw [List.length_cons, Nat.mul_add]; omega
theorem sx_list {l : List PyData} {w h : Nat} (a : SxA l w h) : Sx (.list l) w (h + 1) :=
  ⟨by simp only [PyData.canLay0]; exact a.can, by simp only [PyData.depth]; have := a.dep; omega, by simp only [PyData.weight]; exact a.wei, by simp only [PyData.leavesShort]; exact a.sho, by simp only [PyData.showable]; exact a.shw⟩
theorem sx_tup {l : List PyData} {w h : Nat} (a : SxA l w h) : Sx (.tuple l) w (h + 1) :=
  ⟨by simp only [PyData.canLay0]; exact a.can, by simp only [PyData.depth]; have := a.dep; omega, by simp only [PyData.weight]; exact a.wei, by simp only [PyData.leavesShort]; exact a.sho, by simp only [PyData.showable]; exact a.shw⟩
theorem Sx.shown {d : PyData} {w h : Nat} (s : Sx d w h) (hw : w ≤ 27000) : d.shown.length ≤ sizeLine := by
  have h1 := PyData.shown_le 602 (by decide) d s.sho
  have h2 : (602 + 2) * d.weight ≤ 604 * 27000 := Nat.mul_le_mul (Nat.le_refl _) (Nat.le_trans s.wei hw)
  rw [sizeLine_eq]
  omega
theorem Sx.shaped {d : PyData} {w h : Nat} (s : Sx d w h) (hh : h ≤ 60) : SeqAt.shaped d = true := by
  unfold SeqAt.shaped
  rw [s.can, decide_eq_true (by have := s.dep; omega)]; rfl

/-- two equal lists of data, compared and shown -/
def spAlikeX (K : PySem.W.Frag) : Sp := fun vs H Q _ => vs.length = 2 ∧ ∃ (l : List PyData) (G : Hp), Same G H ∧ DpAll K G vs [.list l, .list l] ∧ SxA l 27000 59 ∧ ∀ G' H', Grow No G H G' H' → Q (.bl true) H'
theorem alike_readX {K : PySem.W.Frag} {H : Hp} {vs : List V} {Q : VK} {E : XK} (h : spAlikeX K vs H Q E) {N : List Str} (hN : N.length = 2) :
    tRet (tAndV (tOp (rEqD K) (tVar 0) (tVar 1)) (tOp rEq (tCB (rRepr K) (tCons (tVar 0) tNil)) (tCB (rRepr K) (tCons (tVar 1) tNil)))) { nx := fun _ H' => Q .non H', rt := Q } (L2.start N vs) H := by
  obtain ⟨hl, l, G, sG, da, sm, k⟩ := h
  have A := at_pure (N := N) sG da (by omega)
  rw [hN] at A
  have S := sx_list sm
  have rr : RcP K none [] (rRepr K) [.list l] (Is (.str (PyData.list l).shown)) :=
    rc_repr (fun v G p => by cases p; exact ⟨_, rfl⟩) S.shw (PyData.hasDict_of_canLay _ S.can) S.dep (S.shown (Nat.le_refl _))
  refine s_ret A (ev_andV (ev_eqD (ev_var rfl) (ev_var rfl) (S.shaped (Nat.le_refl _)) (S.shaped (Nat.le_refl _))) fun _ => ev_eqS (ev_cb (ea_cons (ev_var rfl) ea_nil) rr) (ev_cb (ea_cons (ev_var rfl) ea_nil) rr)) ?_
  intro v d G' H' g j p e
  have e2 : PyData.eqv (.list l) (.list l) = true := SeqAt.eqv_refl _ S.can
  rw [e2, decide_eq_true rfl] at e
  subst e
  cases p
  exact k G' H' (g.wide fun b z => nomatch z)

end Dl
set_option Elab.async false
set_option linter.all false
set_option maxRecDepth 100000
set_option maxHeartbeats 4000000
namespace Dl
open PySem PySem.Spec PyProof.Rows L2
/-! ### sums of readings -/
theorem vA_cons (a : Int × Int) (x : Int × (Int × Int)) (l : List (Int × (Int × Int))) : (x :: l).foldl vS a = l.foldl vS (vS a x) := rfl
def one1 (ws : List Int) : Qs := ws.map fun w => (w, 1)
theorem lin {p q : Int} (hq : 0 < q) : ∀ (ms : List Int) (zs : Qs) (ws : List Int) (a a' : Int × Int) (S : Int), zs.length = ws.length → (∀ z ∈ zs, 0 < z.2) → a.2 ≠ 0 → a'.2 ≠ 0 → a'.1 * (a.2 * q) = (a.1 * q + p * S * a.2) * a'.2 →
    ((ms.zip (addS zs (mulS p q (one1 ws)))).foldl vS a').1 * (((ms.zip zs).foldl vS a).2 * q) = (((ms.zip zs).foldl vS a).1 * q + p * (S + dotI ms ws) * ((ms.zip zs).foldl vS a).2) * ((ms.zip (addS zs (mulS p q (one1 ws)))).foldl vS a').2 ∧
    ((ms.zip zs).foldl vS a).2 ≠ 0 ∧ ((ms.zip (addS zs (mulS p q (one1 ws)))).foldl vS a').2 ≠ 0
  | [], zs, ws, a, a', S, _, _, h1, h2, h3 => by
    have e : dotI [] ws = 0 := rfl
    rw [e, Int.add_zero]
    exact ⟨h3, h1, h2⟩
  | m :: ms, [], [], a, a', S, _, _, h1, h2, h3 => by
    have e : dotI (m :: ms) [] = 0 := rfl
    rw [e, Int.add_zero]
    exact ⟨h3, h1, h2⟩
  | m :: ms, [], w :: ws, a, a', S, hl, _, h1, h2, h3 => by cases hl
  | m :: ms, z :: zs, [], a, a', S, hl, _, h1, h2, h3 => by cases hl
  | m :: ms, z :: zs, w :: ws, a, a', S, hl, hz, h1, h2, h3 => by
    have z2 := hz z (by simp)
    have hy := frD_pos (n := p * w) (d := q * 1) (by omega)
    have hyc := fr_cross (p * w) (q * 1) (by omega)
    have hY : z.2 * frD (p * w) (q * 1) ≠ 0 := Int.mul_ne_zero (by omega) (by omega)
    have hX := frD_pos (n := z.1 * frD (p * w) (q * 1) + frN (p * w) (q * 1) * z.2) hY
    have hXc := fr_cross (z.1 * frD (p * w) (q * 1) + frN (p * w) (q * 1) * z.2) (z.2 * frD (p * w) (q * 1)) hY
    have ih := lin (p := p) hq ms zs ws (vS a (m, z)) (vS a' (m, (frN (z.1 * frD (p * w) (q * 1) + frN (p * w) (q * 1) * z.2) (z.2 * frD (p * w) (q * 1)), frD (z.1 * frD (p * w) (q * 1) + frN (p * w) (q * 1) * z.2) (z.2 * frD (p * w) (q * 1))))) (S + m * w)
      (by simpa using hl) (fun y hy => hz y (by simp [hy])) (Int.mul_ne_zero h1 (by show z.2 ≠ 0; omega)) (Int.mul_ne_zero h2 (by show frD _ _ ≠ 0; omega)) ?_
    · have e : S + m * w + dotI ms ws = S + dotI (m :: ms) (w :: ws) := by
        unfold dotI
        rw [List.zip_cons_cons, List.map_cons, List.sum_cons]
        exact Int.add_assoc _ _ _
      rw [e] at ih
      exact ih
    · show (a'.1 * _ + m * _ * a'.2) * (a.2 * z.2 * q) = ((a.1 * z.2 + m * z.1 * a.2) * q + p * (S + m * w) * (a.2 * z.2)) * (a'.2 * _)
      dsimp only
      generalize frD (p * w) (q * 1) = y2 at *
      generalize frN (p * w) (q * 1) = y1 at *
      generalize frD (z.1 * y2 + y1 * z.2) (z.2 * y2) = d' at *
      generalize frN (z.1 * y2 + y1 * z.2) (z.2 * y2) = n' at *
      have key : n' * (z.2 * q) = (z.1 * q + p * w * z.2) * d' := by
        have k1 : n' * (z.2 * q) * y2 = (z.1 * q + p * w * z.2) * d' * y2 := by grind
        exact Int.eq_of_mul_eq_mul_right (by omega) k1
      grind
theorem val_lin {p q : Int} (hq : 0 < q) {ms : List Int} {zs : Qs} {ws : List Int} (hl : zs.length = ws.length) (hz : ∀ z ∈ zs, 0 < z.2) :
    val ms (addS zs (mulS p q (one1 ws))) = fr (vN ms zs * q + p * dotI ms ws * vD ms zs) (vD ms zs * q) := by
  obtain ⟨h1, h2, h3⟩ := lin (p := p) hq ms zs ws (0, 1) (0, 1) 0 hl hz (by decide) (by decide) (by simp)
  rw [Int.zero_add] at h1
  exact fr_eq h3 (Int.mul_ne_zero h2 (by omega)) h1
theorem scl {t : Int} : ∀ (ms : List Int) (zs : Qs) (a a' : Int × Int), (∀ z ∈ zs, 0 < z.2) → a.2 ≠ 0 → a'.2 ≠ 0 → a'.1 * a.2 = t * a.1 * a'.2 →
    ((ms.zip (mulS t 1 zs)).foldl vS a').1 * ((ms.zip zs).foldl vS a).2 = t * ((ms.zip zs).foldl vS a).1 * ((ms.zip (mulS t 1 zs)).foldl vS a').2 ∧ ((ms.zip zs).foldl vS a).2 ≠ 0 ∧ ((ms.zip (mulS t 1 zs)).foldl vS a').2 ≠ 0
  | [], zs, a, a', _, h1, h2, h3 => ⟨h3, h1, h2⟩
  | m :: ms, [], a, a', _, h1, h2, h3 => ⟨h3, h1, h2⟩
  | m :: ms, z :: zs, a, a', hz, h1, h2, h3 => by
    have z2 := hz z (by simp)
    have hX := frD_pos (n := t * z.1) (d := 1 * z.2) (by omega)
    have hXc := fr_cross (t * z.1) (1 * z.2) (by omega)
    refine scl ms zs (vS a (m, z)) (vS a' (m, (frN (t * z.1) (1 * z.2), frD (t * z.1) (1 * z.2)))) (fun y hy => hz y (by simp [hy])) (Int.mul_ne_zero h1 (by show z.2 ≠ 0; omega)) (Int.mul_ne_zero h2 (by show frD _ _ ≠ 0; omega)) ?_
    show (a'.1 * _ + m * _ * a'.2) * (a.2 * z.2) = t * (a.1 * z.2 + m * z.1 * a.2) * (a'.2 * _)
    dsimp only
    generalize frD (t * z.1) (1 * z.2) = d' at *
    generalize frN (t * z.1) (1 * z.2) = n' at *
    grind
/-- a rule and a stand, both so many times as great -/
theorem keep_scl {t : Int} (ht : 0 < t) {r : Rl} {zs : Qs} (hz : ∀ z ∈ zs, 0 < z.2) : keepB (scR t r) (mulS t 1 zs) = keepB r zs := by
  obtain ⟨h1, h2, h3⟩ := scl (t := t) r.ms zs (0, 1) (0, 1) hz (by decide) (by decide) (by simp)
  have e : fr (vN r.ms (mulS t 1 zs)) (vD r.ms (mulS t 1 zs)) = fr (t * vN r.ms zs) (vD r.ms zs) := fr_eq h3 h2 h1
  have e2 : fr (vN r.ms (mulS t 1 zs)) (vD r.ms (mulS t 1 zs)) = FrD (frN (vN r.ms (mulS t 1 zs)) (vD r.ms (mulS t 1 zs))) (frD (vN r.ms (mulS t 1 zs)) (vD r.ms (mulS t 1 zs))) := rfl
  have e3 : fr (t * vN r.ms zs) (vD r.ms zs) = FrD (frN (t * vN r.ms zs) (vD r.ms zs)) (frD (t * vN r.ms zs) (vD r.ms zs)) := rfl
  rw [e2, e3] at e
  obtain ⟨eN, eD⟩ := frD_inj e
  unfold keepB scR
  dsimp only
  rw [eN, eD]
  have hD : vD r.ms zs ≠ 0 := h2
  have c1 := fr_cross (t * vN r.ms zs) (vD r.ms zs) hD
  have c2 := fr_cross (vN r.ms zs) (vD r.ms zs) hD
  have p1 := frD_pos (n := t * vN r.ms zs) hD
  have p2 := frD_pos (n := vN r.ms zs) hD
  have cu := fr_cop (t * vN r.ms zs) (vD r.ms zs) hD
  have cx := fr_cop (vN r.ms zs) (vD r.ms zs) hD
  generalize frN (t * vN r.ms zs) (vD r.ms zs) = u at *
  generalize frD (t * vN r.ms zs) (vD r.ms zs) = v at *
  generalize frN (vN r.ms zs) (vD r.ms zs) = x at *
  generalize frD (vN r.ms zs) (vD r.ms zs) = y at *
  have key : u * y = t * x * v := by
    have k1 : u * y * vD r.ms zs = t * x * v * vD r.ms zs := by grind
    exact Int.eq_of_mul_eq_mul_right hD k1
  have one : ∀ {a b : Int}, 0 < b → Nat.gcd a.natAbs b.natAbs = 1 → b ∣ a → b = 1 := fun {a b} h0 hg hd => by
    have h1 : b.natAbs ∣ a.natAbs := Int.natAbs_dvd_natAbs.mpr hd
    have h2 := Nat.gcd_eq_right h1
    rw [hg] at h2
    omega
  cases r.s with
  | true =>
    rw [if_pos rfl, if_pos rfl]
    refine decide_eq_decide.mpr ⟨fun ⟨hu, hv⟩ => ?_, fun ⟨hx, hy⟩ => ?_⟩
    · rw [hu, hv] at key
      have k2 : r.b * y = x := by
        have : t * (r.b * y) = t * x := by grind
        exact Int.eq_of_mul_eq_mul_left (by omega) this
      have y1 := one p2 cx ⟨r.b, by rw [← k2, Int.mul_comm]⟩
      rw [y1, Int.mul_one] at k2
      exact ⟨k2.symm, y1⟩
    · rw [hx, hy, Int.mul_one] at key
      have v1 := one p1 cu ⟨t * r.b, by rw [key, Int.mul_comm]⟩
      rw [v1, Int.mul_one] at key
      exact ⟨by rw [key, Int.mul_comm], v1⟩
  | false =>
    show decide _ = decide _
    refine decide_eq_decide.mpr ?_
    rw [Int.mul_one, Int.mul_one]
    have tv : 0 < t * v := Int.mul_pos ht p1
    constructor
    · intro h
      have h4 := Int.mul_le_mul_of_nonneg_right h (Int.le_of_lt p2)
      rw [key] at h4
      have h5 : (t * v) * x ≤ (t * v) * (r.b * y) := by
        have e1 : t * x * v = (t * v) * x := by grind
        have e2 : r.b * t * v * y = (t * v) * (r.b * y) := by grind
        rw [← e1, ← e2]; exact h4
      exact Int.le_of_mul_le_mul_left h5 tv
    · intro h
      have h4 := Int.mul_le_mul_of_nonneg_left h (Int.le_of_lt tv)
      have h5 : u * y ≤ r.b * t * v * y := by
        have e1 : (t * v) * x = u * y := by rw [key]; grind
        have e2 : (t * v) * (r.b * y) = r.b * t * v * y := by grind
        rw [← e1, ← e2]; exact h4
      exact Int.le_of_mul_le_mul_right h5 p2
/-- which rules are broken, when all is so many times as great -/
theorem bad_scl {t : Int} (ht : 0 < t) {rs : List Rl} {zs : Qs} (hz : ∀ z ∈ zs, 0 < z.2) : badI (rs.map (scR t)) (mulS t 1 zs) = badI rs zs := by
  unfold badI
  have go : ∀ (rs : List Rl) (k : Nat), (((rs.map (scR t)).zipIdx k).filter fun x => !keepB x.1 (mulS t 1 zs)).map (fun x => (x.2 : Int)) = ((rs.zipIdx k).filter fun x => !keepB x.1 zs).map fun x => (x.2 : Int) := by
    intro rs
    induction rs with
    | nil => intro k; rfl
    | cons r rs ih =>
      intro k
      rw [List.map_cons, List.zipIdx_cons, List.zipIdx_cons, List.filter_cons, List.filter_cons]
      dsimp only
      rw [keep_scl ht hz]
      split
      · rw [List.map_cons, List.map_cons, ih]
      · exact ih _
  exact go rs 0
theorem bad_snoc (rs : List Rl) (r : Rl) (zs : Qs) : (badI (rs ++ [r]) zs).isEmpty = ((badI rs zs).isEmpty && keepB r zs) := by
  have go : ∀ (rs : List Rl), (badI rs zs).isEmpty = rs.all fun r => keepB r zs := by
    intro rs
    unfold badI
    rw [List.isEmpty_map]
    have go2 : ∀ (rs : List Rl) (k : Nat), ((rs.zipIdx k).filter fun x => !keepB x.1 zs).isEmpty = rs.all fun r => keepB r zs := by
      intro rs
      induction rs with
      | nil => intro k; rfl
      | cons r rs ih =>
        intro k
        rw [List.zipIdx_cons, List.filter_cons, List.all_cons]
        dsimp only
        cases keepB r zs with
        | true => rw [if_neg (by decide), ih]; rfl
        | false => rfl
    exact go2 rs 0
  rw [go, go, List.all_append]
  simp
theorem good_iff (rs : List Rl) (zs : Qs) : (badI rs zs).isEmpty = decide (badI rs zs = []) := by
  cases badI rs zs <;> simp
theorem not_bad {rs : List Rl} {zs : Qs} {i : Nat} (h : i < rs.length) : (!decide (((i : Nat) : Int) ∈ badI rs zs)) = keepB rs[i] zs := by
  have key : ((i : Nat) : Int) ∈ badI rs zs ↔ keepB rs[i] zs = false := by
    unfold badI
    constructor
    · intro hm
      obtain ⟨x, hx, e⟩ := List.mem_map.mp hm
      obtain ⟨h1, h2⟩ := List.mem_filter.mp hx
      obtain ⟨h3, h4⟩ := List.mem_zipIdx' h1
      have e2 : x.2 = i := by omega
      have e3 : x.1 = rs[i] := by rw [h4]; simp [e2]
      rw [← e3]
      simpa using h2
    · intro hk
      refine List.mem_map.mpr ⟨(rs[i], i), List.mem_filter.mpr ⟨?_, by simp [hk]⟩, rfl⟩
      exact List.mem_zipIdx_iff_getElem?.mpr (List.getElem?_eq_getElem h)
  cases q : keepB rs[i] zs with
  | true =>
    have : ¬ ((i : Nat) : Int) ∈ badI rs zs := fun z => by rw [key, q] at z; cases z
    simp [this]
  | false => simp [key.mpr q]
end Dl
set_option Elab.async false
set_option linter.all false
set_option maxRecDepth 100000
set_option maxHeartbeats 4000000
namespace Dl
open PySem PySem.Spec PyProof.Rows L2
/-! ### frames, books, stands as they are drawn -/
def ways3 : List PyData := [.str "usual", .str "strict", .str "usual"]
structure FrOk (n : Nat) (d : PyData) (cells : List PyData) : Prop where
  ex : ∃ (gs : List (List PyData)) (free : List PyData) (way : PyData), d = .tuple [.tuple cells, .tuple (gs.map .tuple), .tuple free, way] ∧ gs.length ≤ 12 ∧ (∀ g ∈ gs, g.length ≤ 12 ∧ ∀ y ∈ g, y ∈ nm12) ∧ free.length ≤ 12 ∧ (∀ y ∈ free, y ∈ nm12) ∧ way ∈ ways3
  c1 : 1 ≤ cells.length
  c2 : cells.length ≤ n
  c3 : ∀ y ∈ cells, y ∈ nm12
def frameR2 (ds : List PyData) (d : PyData) : Prop := ∃ (n : Nat) (cells : List PyData), ds = [.int (n : Nat)] ∧ FrOk n d cells
theorem nm_sx {x : PyData} (hx : x ∈ nm12) {h : Nat} : Sx x 12 h := by
  simp only [nm12, List.mem_cons, List.not_mem_nil, or_false] at hx
  have key : ∀ s : Str, PyData.canLay0 (.str s) = true → PyData.leavesShort 602 (.str s) = true → PyData.weight (.str s) ≤ 12 → Sx (.str s) 12 h := fun s h1 h2 h3 =>
    ⟨h1, by simp only [PyData.depth]; omega, h3, h2, by simp only [PyData.showable]⟩
  rcases hx with rfl | rfl | rfl | rfl | rfl | rfl | rfl | rfl | rfl | rfl | rfl | rfl <;> exact key _ (by decide +kernel) (by decide +kernel) (by decide +kernel)
theorem way_sx {x : PyData} (hx : x ∈ ways3) {h : Nat} : Sx x 12 h := by
  simp only [ways3, List.mem_cons, List.not_mem_nil, or_false] at hx
  have key : ∀ s : Str, PyData.canLay0 (.str s) = true → PyData.leavesShort 602 (.str s) = true → PyData.weight (.str s) ≤ 12 → Sx (.str s) 12 h := fun s h1 h2 h3 =>
    ⟨h1, by simp only [PyData.depth]; omega, h3, h2, by simp only [PyData.showable]⟩
  rcases hx with rfl | rfl | rfl <;> exact key _ (by decide +kernel) (by decide +kernel) (by decide +kernel)
theorem FrOk.sx {n : Nat} {d : PyData} {cells : List PyData} (h : FrOk n d cells) (hn : n ≤ 12) : Sx d 2400 4 := by
  obtain ⟨gs, free, way, rfl, g1, g2, f1, f2, w⟩ := h.ex
  have sc : Sx (.tuple cells) 156 3 := (sx_tup (sxa_all (w := 12) (h := 2) fun x hx => nm_sx (h.c3 x hx))).le (by have := Nat.mul_le_mul_left 13 (Nat.le_trans h.c2 hn); omega) (by decide)
  have sf : Sx (.tuple free) 156 3 := (sx_tup (sxa_all (w := 12) (h := 2) fun x hx => nm_sx (f2 x hx))).le (by have := Nat.mul_le_mul_left 13 f1; omega) (by decide)
  have sg : Sx (.tuple (gs.map .tuple)) 1884 2 := (sx_tup (sxa_all (w := 156) (h := 1) fun x hx => by
    obtain ⟨g, hg, rfl⟩ := List.mem_map.mp hx
    exact (sx_tup (sxa_all (w := 12) (h := 0) fun x hx => nm_sx ((g2 g hg).2 x hx))).le (by have := Nat.mul_le_mul_left 13 (g2 g hg).1; omega) (by decide))).le (by rw [List.length_map]; have := Nat.mul_le_mul_left 157 g1; omega) (by decide)
  exact (sx_tup (sxa_cons sc (sxa_cons (sg.le (Nat.le_refl _) (by decide : 2 ≤ 3)) (sxa_cons sf (sxa_cons (way_sx w (h := 3)) sxa_nil))))).le (by decide) (Nat.le_refl _)
/-- a stand as it is drawn first -/
structure Sml (zs : Qs) : Prop where
  len : zs.length ≤ 5
  each : ∀ p ∈ zs, 0 < p.2 ∧ p.1.natAbs ≤ 4 ∧ p.2.natAbs ≤ 4
structure RlS (n : Nat) (r : Rl) : Prop where
  l : r.ms.length = n
  m : ∀ m ∈ r.ms, m.natAbs ≤ 3
  b : r.b.natAbs < 2 ^ 16
structure BkOk (n : Nat) (f : PyData) (rs : List Rl) (cells : List PyData) : Prop where
  fo : FrOk 5 f cells
  cn : cells.length = n
  rl : rs.length ≤ 16
  rr : ∀ r ∈ rs, RlS n r
theorem RlS.ok {n : Nat} {r : Rl} (h : RlS n r) (hn : n ≤ 6) : RlOk r := ⟨fun m hm => Nat.le_trans (h.m m hm) (by decide), by rw [h.l]; exact hn, Nat.lt_of_lt_of_le h.b (by decide)⟩
theorem Sml.ok {zs : Qs} (h : Sml zs) : StOk zs := ⟨by have := h.len; omega, fun p hp => by
  obtain ⟨h1, h2, h3⟩ := h.each p hp
  exact ⟨h1, lt_up (a := 3) (by omega) (by decide), lt_up (a := 3) (by omega) (by decide)⟩⟩
/-- the values of readings at it are not too long to be shown -/
def Vb (zs : Qs) : Prop := (∀ p ∈ zs, p.1.natAbs < 2 ^ 515 ∧ p.2.natAbs < 2 ^ 515) ∧ ∀ ms : List Int, ms.length = zs.length → (∀ m ∈ ms, m.natAbs ≤ 4) → (frN (vN ms zs) (vD ms zs)).natAbs < 2 ^ 600 ∧ (frD (vN ms zs) (vD ms zs)).natAbs < 2 ^ 600
theorem val_small {ms : List Int} {zs : Qs} {k : Nat} (hm : ∀ m ∈ ms, m.natAbs ≤ 4) (hl : zs.length ≤ 5) (hz : ∀ p ∈ zs, 0 < p.2 ∧ p.1.natAbs ≤ 2 ^ k ∧ p.2.natAbs ≤ 2 ^ k) : 0 < vD ms zs ∧ (vN ms zs).natAbs < 2 ^ (5 * k + 5) ∧ (vD ms zs).natAbs < 2 ^ (5 * k + 1) := by
  obtain ⟨h1, h2, h3⟩ := vA_bound (c := 4) (k := k) (ms.zip zs) fun x hx => by
    obtain ⟨a, c⟩ := zip_mem hx
    exact ⟨hm _ a, hz _ c⟩
  have ll : (ms.zip zs).length ≤ 5 := by rw [List.length_zip]; omega
  have p1 : 2 ^ (k * (ms.zip zs).length) ≤ 2 ^ (5 * k) := Nat.pow_le_pow_right (by decide) (by rw [Nat.mul_comm 5 k]; exact Nat.mul_le_mul_left k ll)
  refine ⟨h1, ?_, ?_⟩
  · refine Nat.lt_of_le_of_lt (Nat.le_trans h3 (Nat.mul_le_mul (Nat.mul_le_mul_left 4 ll) p1)) ?_
    rw [Nat.pow_add, Nat.mul_comm (2 ^ (5 * k))]
    exact Nat.mul_lt_mul_of_pos_right (by decide) (Nat.pow_pos (by decide))
  · refine Nat.lt_of_le_of_lt (Nat.le_trans h2 p1) (Nat.pow_lt_pow_right (by decide) (by omega))
theorem vb_small {zs : Qs} (hl : zs.length ≤ 5) (hz : ∀ p ∈ zs, 0 < p.2 ∧ p.1.natAbs ≤ 2 ^ 6 ∧ p.2.natAbs ≤ 2 ^ 6) : Vb zs := ⟨fun p hp => by
  obtain ⟨_, b, c⟩ := hz p hp
  exact ⟨lt_up (a := 7) (Nat.lt_of_le_of_lt b (by decide)) (by decide), lt_up (a := 7) (Nat.lt_of_le_of_lt c (by decide)) (by decide)⟩, fun ms _ hm => by
  obtain ⟨h1, h2, h3⟩ := val_small (k := 6) hm hl hz
  have h0 : vD ms zs ≠ 0 := by omega
  exact ⟨lt_up (Nat.lt_of_le_of_lt (frN_le _ _ h0) h2) (by decide), lt_up (Nat.lt_of_le_of_lt (frD_le _ _ h0) h3) (by decide)⟩⟩
theorem Sml.vb {zs : Qs} (h : Sml zs) : Vb zs := vb_small h.len fun p hp => by
  obtain ⟨a, b, c⟩ := h.each p hp
  exact ⟨a, Nat.le_trans b (by decide), Nat.le_trans c (by decide)⟩
def dRuleAt (ds : List PyData) : Prop := ∃ zs : Qs, ds = [stT zs] ∧ Sml zs ∧ 1 ≤ zs.length
def rRuleAt (ds : List PyData) (d : PyData) : Prop := ∀ zs : Qs, ds = [stT zs] → ∃ r, d = ruD r ∧ RlS zs.length r
def dBook (ds : List PyData) : Prop := ds = [.int ((5 : Nat) : Int), .int ((5 : Nat) : Int)]
def rBook (_ : List PyData) (d : PyData) : Prop := ∃ f rs zs cells, d = .tuple [bkD f rs, stT zs] ∧ BkOk zs.length f rs cells ∧ Sml zs ∧ 1 ≤ zs.length
theorem frN4 {n d : Int} (hd : 0 < d) (h1 : n.natAbs ≤ 4) (h2 : d.natAbs ≤ 4) : 0 < frD n d ∧ (frN n d).natAbs ≤ 4 ∧ (frD n d).natAbs ≤ 4 := ⟨frD_pos (by omega), Nat.le_trans (frN_le n d (by omega)) h1, Nat.le_trans (frD_le n d (by omega)) h2⟩
theorem stand_sml {n : PyData} {d : PyData} (h : standR [n] d) : ∃ (m : Nat) (zs : Qs), n = .int (m : Nat) ∧ d = stT zs ∧ zs.length = m ∧ ∀ p ∈ zs, 0 < p.2 ∧ p.1.natAbs ≤ 4 ∧ p.2.natAbs ≤ 4 := by
  obtain ⟨m, xs, e, rfl, hl, hx⟩ := h
  cases e
  have go : ∀ xs : List PyData, (∀ x ∈ xs, ∃ a c : Int, x = fr a c ∧ 0 < c ∧ c ≤ 3 ∧ a.natAbs ≤ 4) → ∃ zs : Qs, xs = stL zs ∧ ∀ p ∈ zs, 0 < p.2 ∧ p.1.natAbs ≤ 4 ∧ p.2.natAbs ≤ 4 := by
    intro xs
    induction xs with
    | nil => intro _; exact ⟨[], rfl, fun p hp => nomatch hp⟩
    | cons x xs ih =>
      intro h
      obtain ⟨zs, e, hz⟩ := ih fun y hy => h y (by simp [hy])
      obtain ⟨a, c, rfl, c0, c3, a4⟩ := h x (by simp)
      refine ⟨(frN a c, frD a c) :: zs, by rw [e]; rfl, fun p hp => ?_⟩
      rcases List.mem_cons.mp hp with rfl | hp
      · exact frN4 c0 a4 (by omega)
      · exact hz p hp
  obtain ⟨zs, e, hz⟩ := go xs hx
  refine ⟨m, zs, rfl, by rw [e]; rfl, ?_, hz⟩
  rw [e] at hl
  unfold stL at hl
  rw [List.length_map] at hl
  exact hl
theorem rls_of {P : Rl → Prop} : ∀ {m : List PyData}, (∀ y ∈ m, ∃ r, y = ruD r ∧ P r) → ∃ rs : List Rl, m = rs.map ruD ∧ ∀ r ∈ rs, P r
  | [], _ => ⟨[], rfl, fun r h => nomatch h⟩
  | y :: m, h => by
    obtain ⟨r, e, hr⟩ := h y (by simp)
    obtain ⟨rs, e2, h2⟩ := rls_of (m := m) fun z hz => h z (by simp [hz])
    exact ⟨r :: rs, by rw [e, e2]; rfl, fun z hz => by
      rcases List.mem_cons.mp hz with rfl | hz
      · exact hr
      · exact h2 z hz⟩
section
variable {K : PySem.W.Frag} {env : List Sl} {b : Option Addr} {ms : Ms} {te ti ta tb : TE} {P Pa Pb : PyData → Prop} {tt tu : TT} {Pt Pu : Bool → Prop} {D : Ends} {tw tz : TS} {ts : TS} {G0 H0 Gs G H : Hp} {σ : L2.St}
/-- range(a drawn number) -/
theorem ei_rngP {t : TA} {m : Nat} (h : EaP K env b ms t (fun l => ∃ n : Nat, l = [.int (n : Nat)] ∧ n ≤ m)) (hm : m < 2 ^ 60) : EvI K env b ms (iRng1 t) (fun l => ∃ n : Nat, l = intL n ∧ n ≤ m) := fun σ G H e s j R k => h σ G H e s j _ fun vs ds G1 H1 g1 j1 p1 ⟨n, q1, hn⟩ => by
  subst q1
  cases p1 with
  | cons p q =>
    cases q; cases p
    refine ⟨(n : Nat), rfl, by omega, by omega, ?_⟩
    have e : ((n : Nat) : Int).toNat = n := by omega
    rw [e]
    exact k _ _ G1 H1 g1 j1 iter_rng ⟨n, rfl, hn⟩
/-- a slice of a list that is drawn -/
theorem en_slLP {tl th : TO} {Pd : List PyData → Prop} {Pl Ph : Option Int → Prop} (h : EvP K env b ms te (fun d => ∃ l, d = .list l ∧ Pd l)) (hl : EoP K env b ms tl Pl) (hh : EoP K env b ms th Ph) :
    EvN K env b ms (tSl (rSlL K) te tl th) (fun x => ∃ l lo hi, Pd l ∧ Pl lo ∧ Ph hi ∧ x = cutD l lo hi) := fun σ G H e s j Q k => h σ G H e s j _ fun v d G1 H1 g1 j1 p1 ⟨l, q1, q1'⟩ => by
  subst q1
  cases p1 with
  | lst sq da =>
    rename_i a0 xs0
    refine hl σ G1 H1 (e.mono g1.g) g1.gh j1 _ fun lo G2 H2 g2 j2 q2 => hh σ G2 H2 (e.mono (g1.g.trans g2.g)) g2.gh j2 _ fun hi G3 H3 g3 j3 q3 => ?_
    have s3 := g2.g.trans g3.g
    refine ⟨_, _, rfl, (s3.trans g3.gh).seq sq, fun p hp => ?_⟩
    have g4 : Grow No G3 H3 G3 (upd H3 p (.lst (cutV xs0 lo hi))) := Grow.lay0 g3.gh hp
    exact k p _ _ G3 _ (((g1.trans g2).trans g3).trans g4.no) (j3.grow g4) (g1.dom _ (g2.dom _ (g3.dom _ hp))) (g3.gh.free hp) upd_same (dpa_mono s3 _ _ (dpa_cut da)) ⟨l, lo, hi, q1', q2, q3, rfl⟩
theorem et_orP {c : Bool} (h1 : EtP K env b ms tt (Is c)) (h2 : c = false → EtP K env b ms tu Pu) (h3 : c = true → Pu true) : EtP K env b ms (tOr tt tu) Pu := fun σ G H e s j Q k => h1 σ G H e s j _ fun x G1 H1 g1 j1 q1 => by
  subst q1
  cases x with
  | true => exact k true G1 H1 g1 j1 (h3 rfl)
  | false => exact h2 rfl σ G1 H1 (e.mono g1.g) g1.gh j1 Q fun y G2 H2 g2 j2 q2 => k y G2 H2 (g1.trans g2) j2 q2
theorem At.freezeR {i n : Nat} {l : Addr} {ds : List PyData} (A : At K env b ms G0 H0 Gs σ G H) (hi : env[i]? = some (.a l)) (hm : ms[n]? = some (l, ds.map .d)) : ∃ G2, At K (env.set i (.d (.list ds))) b [] G0 H0 Gs σ G2 H := by
  obtain ⟨G2, A2⟩ := A.freeze hi hm
  exact ⟨G2, A2.less (List.nil_sublist _)⟩
end
end Dl
namespace Dl
open PySem L2
theorem atI_st {zs : Qs} {i : Nat} (h : i < zs.length) : atI (stL zs) (i : Int) = some (FrD zs[i].1 zs[i].2) := by
  refine atI_nat ?_
  unfold stL
  rw [List.getElem?_map, List.getElem?_eq_getElem h]
  rfl
theorem unitV_len (i n : Nat) : (unitV i n).length = n := by simp [unitV]
theorem unitV_le {i n : Nat} : ∀ m ∈ unitV i n, m.natAbs ≤ 1 := fun m hm => by
  obtain ⟨j, _, rfl⟩ := List.mem_map.mp hm
  split <;> decide
section
variable {K : PySem.W.Frag} {env : List Sl} {b : Option Addr} {ms : Ms} {te ti ta tb : TE}
theorem et_notN {d : PyData} (ha : EvP K env b ms ta (Is d)) (hd : d = .none ∨ ∃ l, d = .tuple l) : EtP K env b ms (tTest (tOp (fun x y H Q => y = V.non ∧ Q (V.bl (!decide (x = V.non))) H) ta (tC .non))) (Is (!isNn d)) := by
  refine et_T (ev_op ha ev_non fun d1 d2 e1 e2 => ?_)
  rw [e1, e2]
  intro x y G H p1 p2 s jb Q k
  cases p2
  refine ⟨rfl, ?_⟩
  have e : decide (x = V.non) = isNn d := by
    rcases hd with rfl | ⟨l, rfl⟩
    · cases p1; rfl
    · cases p1 with
      | tup s1 d1 => exact decide_eq_false (fun z => nomatch z)
  rw [e]
  exact k _ _ G H (Grow.refl s) jb (.bl _) rfl
end
end Dl
namespace Dl
open PySem L2
section
variable {K : PySem.W.Frag} {env : List Sl} {b : Option Addr} {ms : Ms} {te ti ta tb : TE}
theorem ev_cmpX {g : Int → Int → Bool} {C1 C2 : Int → Prop} (ha : EvP K env b ms ta (fun d => ∃ i, d = .int i ∧ C1 i)) (hb : EvP K env b ms tb (fun d => ∃ i, d = .int i ∧ C2 i)) :
    EvP K env b ms (tOp (rI0 fun i j => .bl (g i j)) ta tb) (fun d => ∃ c, d = .bool c ∧ True) :=
  ev_op ha hb fun d1 d2 ⟨i, e1, c1⟩ ⟨j, e2, c2⟩ => by
    rw [e1, e2]
    exact fun x y G H p1 p2 s jb Q k => rv_B0 x y G H p1 p2 s jb Q fun v d G2 H2 g2 j2 p q => k v d G2 H2 g2 j2 p ⟨_, q, trivial⟩
theorem ev_cmpC {g : Int → Int → Bool} {C1 C2 : Int → Prop} {Pt : Bool → Prop} (ha : EvP K env b ms ta (fun d => ∃ i, d = .int i ∧ C1 i)) (hb : EvP K env b ms tb (fun d => ∃ i, d = .int i ∧ C2 i)) (h : ∀ i j, C1 i → C2 j → Pt (g i j)) :
    EvP K env b ms (tOp (rI0 fun i j => .bl (g i j)) ta tb) (fun d => ∃ c, d = .bool c ∧ Pt c) :=
  ev_op ha hb fun d1 d2 ⟨i, e1, c1⟩ ⟨j, e2, c2⟩ => by
    rw [e1, e2]
    exact fun x y G H p1 p2 s jb Q k => rv_B0 x y G H p1 p2 s jb Q fun v d G2 H2 g2 j2 p q => k v d G2 H2 g2 j2 p ⟨_, q, h i j c1 c2⟩
end
end Dl
set_option Elab.async false
set_option linter.all false
set_option maxRecDepth 100000
set_option maxHeartbeats 4000000
namespace Dl
open PySem PySem.Spec PyProof.Rows L2
theorem wb1 : ∀ r, r ≤ 5 → FB (5 - r) (FB r 3 ^ (r + 1)) < 2 ^ 2000
  | 0, _ => by decide +kernel
  | 1, _ => by decide +kernel
  | 2, _ => by decide +kernel
  | 3, _ => by decide +kernel
  | 4, _ => by decide +kernel
  | 5, _ => by decide +kernel
theorem wb2 : ∀ r, r ≤ 4 → FB (5 - r) (FB r 3 ^ (r + 1)) ≤ 2 ^ 410
  | 0, _ => by decide +kernel
  | 1, _ => by decide +kernel
  | 2, _ => by decide +kernel
  | 3, _ => by decide +kernel
  | 4, _ => by decide +kernel
theorem wb0 : FB 5 3 < 2 ^ 2000 := by decide +kernel
theorem dot_bound {c B : Nat} : ∀ (ms ws : List Int), (∀ m ∈ ms, m.natAbs ≤ c) → (∀ w ∈ ws, w.natAbs ≤ B) → (dotI ms ws).natAbs ≤ ms.length * (c * B)
  | [], ws, _, _ => by
    have e : dotI [] ws = 0 := rfl
    rw [e]; exact Nat.zero_le _
  | m :: ms, [], _, _ => by
    have e : dotI (m :: ms) [] = 0 := rfl
    rw [e]; exact Nat.zero_le _
  | m :: ms, w :: ws, hm, hw => by
    have ih := dot_bound ms ws (fun x hx => hm x (by simp [hx])) fun x hx => hw x (by simp [hx])
    have e : dotI (m :: ms) (w :: ws) = m * w + dotI ms ws := by
      unfold dotI
      rw [List.zip_cons_cons, List.map_cons, List.sum_cons]
    have h1 := Nat.mul_le_mul (hm m (by simp)) (hw w (by simp))
    rw [← Int.natAbs_mul] at h1
    rw [e, List.length_cons, Nat.add_mul, Nat.one_mul]
    have := Int.natAbs_add_le (m * w) (dotI ms ws)
    omega
def mq (p : Int × Int) : Int := if p.2 > (if p.1 < 0 then -p.1 else p.1) then p.2 else (if p.1 < 0 then -p.1 else p.1)
theorem mq_le {p : Int × Int} (h : 0 < p.2) : (p.1.natAbs : Int) ≤ mq p ∧ (p.2.natAbs : Int) ≤ mq p := by
  unfold mq
  split <;> split <;> (try split at *) <;> omega
def dGood (ds : List PyData) : Prop := ∃ f rs zs cells, ds = [bkD f rs, stT zs] ∧ BkOk zs.length f rs cells ∧ Sml zs ∧ 1 ≤ zs.length
def rGd (ds : List PyData) (d : PyData) : Prop := ∀ f rs zs, ds = [bkD f rs, stT zs] → ∃ ys : Qs, d = stT ys ∧ ys.length = zs.length ∧ StOk ys ∧ Vb ys
/-- a limit of the way, or none yet -/
def Mst (d : PyData) : Prop := d = .none ∨ ∃ p q : Int, d = FrD p q ∧ 0 < q ∧ p.natAbs < 2 ^ 83 ∧ q.natAbs < 2 ^ 482
theorem Mst.tup {d : PyData} (h : Mst d) : d = .none ∨ ∃ l, d = .tuple l := by
  rcases h with h | ⟨p, q, h, _⟩
  · exact .inl h
  · exact .inr ⟨_, h⟩
/-- a step along a way keeps what is small enough -/
theorem step_ok {p q : Int} {ys : Qs} {ws : List Int} (hq : 0 < q) (hp : p.natAbs < 2 ^ 83) (hqb : q.natAbs < 2 ^ 484) (hl : ys.length = ws.length) (h5 : ys.length ≤ 5) (hy : ∀ z ∈ ys, 0 < z.2 ∧ z.1.natAbs ≤ 5000 ∧ z.2.natAbs ≤ 5000) (hw : ∀ w ∈ ws, w.natAbs ≤ 2 ^ 412) :
    (addS ys (mulS p q (one1 ws))).length = ys.length ∧ StOk (addS ys (mulS p q (one1 ws))) ∧ Vb (addS ys (mulS p q (one1 ws))) := by
  have len : (addS ys (mulS p q (one1 ws))).length = ys.length := by
    unfold addS mulS one1
    simp only [List.length_map, List.length_zip]
    omega
  have each : ∀ z ∈ addS ys (mulS p q (one1 ws)), 0 < z.2 ∧ z.1.natAbs < 2 ^ 515 ∧ z.2.natAbs < 2 ^ 515 := by
    intro z hz
    obtain ⟨⟨a, b⟩, hab, rfl⟩ := List.mem_map.mp hz
    obtain ⟨ha, hb⟩ := List.of_mem_zip hab
    obtain ⟨y, hy2, rfl⟩ := List.mem_map.mp hb
    obtain ⟨w, hw2, rfl⟩ := List.mem_map.mp hy2
    obtain ⟨a0, a1, a2⟩ := hy a ha
    have wb := hw w hw2
    have q1 : q * 1 ≠ 0 := by omega
    have n1 : (frN (p * w) (q * 1)).natAbs < 2 ^ 496 := by
      refine Nat.lt_of_le_of_lt (frN_le _ _ q1) ?_
      exact lt_up (nat_mul_lt (b := 413) hp (Nat.lt_of_le_of_lt wb (Nat.pow_lt_pow_right (by decide) (by decide)))) (by decide)
    have d1 : (frD (p * w) (q * 1)).natAbs < 2 ^ 484 := Nat.lt_of_le_of_lt (frD_le _ _ q1) (by rw [Int.mul_one]; exact hqb)
    have d0 := frD_pos (n := p * w) q1
    have a1' : a.1.natAbs < 2 ^ 13 := Nat.lt_of_le_of_lt a1 (by decide)
    have a2' : a.2.natAbs < 2 ^ 13 := Nat.lt_of_le_of_lt a2 (by decide)
    have t1 := nat_mul_lt a1' d1
    have t2 := nat_mul_lt n1 a2'
    have t3 := nat_mul_lt a2' d1
    have hD : a.2 * frD (p * w) (q * 1) ≠ 0 := Int.mul_ne_zero (by omega) (by omega)
    have t4 : (a.1 * frD (p * w) (q * 1) + frN (p * w) (q * 1) * a.2).natAbs < 2 ^ 510 := by
      refine Nat.lt_of_le_of_lt (Int.natAbs_add_le _ _) ?_
      have e1 : (2 : Nat) ^ (13 + 484) ≤ 2 ^ 509 := Nat.pow_le_pow_right (by decide) (by decide)
      have e2 : (2 : Nat) ^ (496 + 13) = 2 ^ 509 := rfl
      have e3 : (2 : Nat) ^ 510 = 2 ^ 509 + 2 ^ 509 := by rw [show (510 : Nat) = 509 + 1 from rfl, Nat.pow_succ]; omega
      omega
    refine ⟨frD_pos hD, Nat.lt_of_le_of_lt (frN_le _ _ hD) (lt_up t4 (by decide)), Nat.lt_of_le_of_lt (frD_le _ _ hD) (lt_up t3 (by decide))⟩
  refine ⟨len, ⟨by omega, fun z hz => ⟨(each z hz).1, lt_up (each z hz).2.1 (by decide), lt_up (each z hz).2.2 (by decide)⟩⟩, fun z hz => (each z hz).2, fun ms hms hm => ?_⟩
  · have e := val_lin (p := p) hq (ms := ms) hl fun z hz => (hy z hz).1
    obtain ⟨v1, v2, v3⟩ := val_small (ms := ms) (k := 13) hm h5 fun z hz => by
      obtain ⟨a, b, c⟩ := hy z hz
      exact ⟨a, Nat.le_trans b (by decide), Nat.le_trans c (by decide)⟩
    have hD : vD ms ys * q ≠ 0 := Int.mul_ne_zero (by omega) (by omega)
    have db : (dotI ms ws).natAbs < 2 ^ 417 := by
      have h1 := dot_bound (c := 4) (B := 2 ^ 412) ms ws hm hw
      have h2 : ms.length ≤ 5 := by omega
      have h3 := Nat.mul_le_mul_right (4 * 2 ^ 412) h2
      have e3 : (2 : Nat) ^ 417 = 32 * 2 ^ 412 := by rw [show (417 : Nat) = 5 + 412 from rfl, Nat.pow_add]
      have : 0 < (2 : Nat) ^ 412 := Nat.pow_pos (by decide)
      omega
    have t1 := nat_mul_lt v2 hqb
    have t2 := nat_mul_lt (nat_mul_lt hp db) v3
    have t3 := nat_mul_lt v3 hqb
    have t4 : (vN ms ys * q + p * dotI ms ws * vD ms ys).natAbs < 2 ^ 570 := by
      refine Nat.lt_of_le_of_lt (Int.natAbs_add_le _ _) ?_
      have e1 : (2 : Nat) ^ (5 * 13 + 5 + 484) ≤ 2 ^ 569 := Nat.pow_le_pow_right (by decide) (by decide)
      have e2 : (2 : Nat) ^ (83 + 417 + (5 * 13 + 1)) ≤ 2 ^ 569 := Nat.pow_le_pow_right (by decide) (by decide)
      have e3 : (2 : Nat) ^ 570 = 2 ^ 569 + 2 ^ 569 := by rw [show (570 : Nat) = 569 + 1 from rfl, Nat.pow_succ]; omega
      omega
    have e2 : FrD (frN (vN ms (addS ys (mulS p q (one1 ws)))) (vD ms (addS ys (mulS p q (one1 ws))))) (frD (vN ms (addS ys (mulS p q (one1 ws)))) (vD ms (addS ys (mulS p q (one1 ws))))) = FrD (frN (vN ms ys * q + p * dotI ms ws * vD ms ys) (vD ms ys * q)) (frD (vN ms ys * q + p * dotI ms ws * vD ms ys) (vD ms ys * q)) := e
    obtain ⟨eN, eD⟩ := frD_inj e2
    rw [eN, eD]
    exact ⟨Nat.lt_of_le_of_lt (frN_le _ _ hD) (lt_up t4 (by decide)), Nat.lt_of_le_of_lt (frD_le _ _ hD) (lt_up t3 (by decide))⟩
/-- how far a rule lets go -/
theorem room_ok {r b : Int} {ms ws : List Int} {ys : Qs} {N D : Int} (hr : 0 < r) (hrb : r.natAbs < 2 ^ 416) (hb : b.natAbs < 2 ^ 16) (hD : 0 < D) (hN : N.natAbs < 2 ^ 70) (hDb : D.natAbs < 2 ^ 66) :
    ∃ p q : Int, fOver [fMinus [FrD b 1, FrD N D], FrD r 1] = FrD p q ∧ 0 < q ∧ p.natAbs < 2 ^ 83 ∧ q.natAbs < 2 ^ 482 := by
  have d1 : 1 * D ≠ 0 := by omega
  have u := frN_le (b * D - N * 1) (1 * D) d1
  have v := frD_le (b * D - N * 1) (1 * D) d1
  have v0 := frD_pos (n := b * D - N * 1) d1
  have ub : (b * D - N * 1).natAbs < 2 ^ 83 := by
    have t := nat_mul_lt hb hDb
    have e1 : (2 : Nat) ^ (16 + 66) = 2 ^ 82 := rfl
    have e2 : (2 : Nat) ^ 70 ≤ 2 ^ 82 := Nat.pow_le_pow_right (by decide) (by decide)
    have e3 : (2 : Nat) ^ 83 = 2 ^ 82 + 2 ^ 82 := by decide
    omega
  have q0 : frD (b * D - N * 1) (1 * D) * r ≠ 0 := Int.mul_ne_zero (by omega) (by omega)
  refine ⟨frN (frN (b * D - N * 1) (1 * D) * 1) (frD (b * D - N * 1) (1 * D) * r), frD (frN (b * D - N * 1) (1 * D) * 1) (frD (b * D - N * 1) (1 * D) * r), rfl, frD_pos q0, ?_, ?_⟩
  · refine Nat.lt_of_le_of_lt (frN_le _ _ q0) ?_
    rw [Int.mul_one]
    exact Nat.lt_of_le_of_lt u ub
  · refine Nat.lt_of_le_of_lt (frD_le _ _ q0) ?_
    have e : (frD (b * D - N * 1) (1 * D)).natAbs < 2 ^ 66 := Nat.lt_of_le_of_lt v (by rw [Int.one_mul]; exact hDb)
    exact nat_mul_lt e hrb
end Dl
set_option Elab.async false
set_option linter.all false
set_option maxRecDepth 100000
set_option maxHeartbeats 4000000
namespace Dl
open PySem PySem.Spec PyProof.Rows L2
theorem notbad_list (rs : List Rl) (ys : Qs) : (rs.map fun r => PyData.bool (keepB r ys)) = (List.range rs.length).map fun i => .bool (!decide (((i : Nat) : Int) ∈ badI rs ys)) := by
  apply List.ext_getElem?
  intro i
  rw [List.getElem?_map, List.getElem?_map]
  by_cases h : i < rs.length
  · rw [List.getElem?_eq_getElem h, List.getElem?_range h]
    exact congrArg (fun b => some (PyData.bool b)) (not_bad h).symm
  · rw [List.getElem?_eq_none (by omega), List.getElem?_eq_none (by simp; omega)]
    rfl
theorem add_sml {zs ys : Qs} (hz : Sml zs) (hy : Sml ys) (hl : zs.length = ys.length) : (addS zs ys).length = zs.length ∧ StOk (addS zs ys) ∧ Vb (addS zs ys) := by
  have len : (addS zs ys).length = zs.length := by
    unfold addS
    rw [List.length_map, List.length_zip]; omega
  have each : ∀ p ∈ addS zs ys, 0 < p.2 ∧ p.1.natAbs ≤ 2 ^ 6 ∧ p.2.natAbs ≤ 2 ^ 6 := by
    intro p hp
    obtain ⟨⟨a, b⟩, hab, rfl⟩ := List.mem_map.mp hp
    obtain ⟨ha, hb⟩ := List.of_mem_zip hab
    obtain ⟨a0, a1, a2⟩ := hz.each a ha
    obtain ⟨b0, b1, b2⟩ := hy.each b hb
    have hD : a.2 * b.2 ≠ 0 := Int.mul_ne_zero (by omega) (by omega)
    have t1 := Nat.mul_le_mul a1 b2
    have t2 := Nat.mul_le_mul b1 a2
    have t3 := Nat.mul_le_mul a2 b2
    rw [← Int.natAbs_mul] at t1 t2 t3
    refine ⟨frD_pos hD, Nat.le_trans (frN_le _ _ hD) ?_, Nat.le_trans (frD_le _ _ hD) ?_⟩
    · have := Int.natAbs_add_le (a.1 * b.2) (b.1 * a.2)
      show (a.1 * b.2 + b.1 * a.2).natAbs ≤ 64
      omega
    · show (a.2 * b.2).natAbs ≤ 64
      omega
  have h5 := hz.len
  refine ⟨len, ⟨by omega, fun p hp => ?_⟩, vb_small (by omega) each⟩
  obtain ⟨a, b, c⟩ := each p hp
  exact ⟨a, lt_up (a := 7) (Nat.lt_of_le_of_lt b (by decide)) (by decide), lt_up (a := 7) (Nat.lt_of_le_of_lt c (by decide)) (by decide)⟩
theorem mul_ok {t : Int} {ys : Qs} (ht : t.natAbs ≤ 7) (hy : StOk ys) (hv : Vb ys) : StOk (mulS t 1 ys) := ⟨by unfold mulS; rw [List.length_map]; exact hy.len, fun p hp => by
  obtain ⟨z, hz, rfl⟩ := List.mem_map.mp hp
  obtain ⟨z0, _, _⟩ := hy.each z hz
  obtain ⟨z1, z2⟩ := hv.1 z hz
  have hD : 1 * z.2 ≠ 0 := by omega
  refine ⟨frD_pos hD, Nat.lt_of_le_of_lt (frN_le _ _ hD) ?_, Nat.lt_of_le_of_lt (frD_le _ _ hD) ?_⟩
  · exact lt_up (nat_mul_lt (a := 3) (by omega) z1) (by decide)
  · rw [Int.one_mul]; exact lt_up z2 (by decide)⟩
/-! ### what is shown -/
theorem sg_sx (r : Rl) {h : Nat} : Sx (.str r.sg) 12 h := by
  have key : ∀ s : Str, PyData.canLay0 (.str s) = true → PyData.leavesShort 602 (.str s) = true → PyData.weight (.str s) ≤ 12 → Sx (.str s) 12 h := fun s h1 h2 h3 =>
    ⟨h1, by simp only [PyData.depth]; omega, h3, h2, by simp only [PyData.showable]⟩
  unfold Rl.sg
  cases r.s with
  | true => exact key _ (by decide +kernel) (by decide +kernel) (by decide +kernel)
  | false => exact key _ (by decide +kernel) (by decide +kernel) (by decide +kernel)
theorem ints_sx {ns : List Int} {k h : Nat} (hk : k ≤ 600) (hn : ∀ n ∈ ns, n.natAbs < 2 ^ k) : SxA (ns.map .int) ((k + 1) * ns.length) h := by
  have := sxa_all (l := ns.map PyData.int) (w := k) (h := h) fun x hx => by
    obtain ⟨n, hn2, rfl⟩ := List.mem_map.mp hx
    exact sx_int (hn n hn2) hk
  rw [List.length_map] at this
  exact this
theorem ru_sx {r : Rl} {h : Nat} (hm : ∀ m ∈ r.ms, m.natAbs ≤ 3) (hl : r.ms.length ≤ 5) (hb : r.b.natAbs < 2 ^ 20) : Sx (ruD r) 60 (h + 2) := by
  have s1 : Sx (rdT r.ms) 15 (h + 1) := (sx_tup (ints_sx (k := 2) (h := h) (by decide) fun m hm2 => Nat.lt_of_le_of_lt (hm m hm2) (by decide))).le (by have := Nat.mul_le_mul_left 3 hl; omega) (Nat.le_refl _)
  exact (sx_tup (sxa_cons (sg_sx r) (sxa_cons s1 (sxa_cons (sx_int (k := 20) hb (by decide)) sxa_nil)))).le (by decide) (Nat.le_refl _)
theorem bk_sx {f : PyData} {l : List PyData} {w : Nat} (hf : Sx f w 4) (hl : l.length ≤ 17) (hr : ∀ x ∈ l, Sx x 60 3) : Sx (.tuple [f, .tuple l]) (w + 1 + 1038) 5 :=
  (sx_tup (sxa_cons hf (sxa_cons (sx_tup (sxa_all hr)) sxa_nil))).le (by have := Nat.mul_le_mul_left 61 hl; omega) (Nat.le_refl _)
theorem fr_sx {a b : Int} {k : Nat} (hk : k ≤ 600) (h1 : a.natAbs < 2 ^ k) (h2 : b.natAbs < 2 ^ k) {h : Nat} : Sx (FrD a b) (2 * k + 2) (h + 1) := (sx_tup (sxa_cons (sx_int h1 hk) (sxa_cons (sx_int h2 hk) sxa_nil))).le (by omega) (Nat.le_refl _)
theorem st_sx {zs : Qs} (h : Sml zs) : Sx (stT zs) 60 2 := (sx_tup (sxa_all (w := 8) (h := 1) fun x hx => by
  obtain ⟨p, hp, rfl⟩ := List.mem_map.mp hx
  obtain ⟨a, b, c⟩ := h.each p hp
  exact fr_sx (k := 3) (by decide) (Nat.lt_of_le_of_lt b (by decide)) (Nat.lt_of_le_of_lt c (by decide)))).le (by unfold stL; rw [List.length_map]; have := Nat.mul_le_mul_left 9 h.len; omega) (Nat.le_refl _)
theorem bad_lt {rs : List Rl} {ys : Qs} (h : rs.length ≤ 17) : (badI rs ys).length ≤ 17 ∧ ∀ n ∈ badI rs ys, n.natAbs < 2 ^ 5 := by
  unfold badI
  refine ⟨?_, fun n hn => ?_⟩
  · rw [List.length_map]
    refine Nat.le_trans (List.length_filter_le _ _) ?_
    rw [List.length_zipIdx]; exact h
  · obtain ⟨x, hx, rfl⟩ := List.mem_map.mp hn
    have := (List.mem_zipIdx' (List.mem_filter.mp hx).1).1
    show ((x.2 : Int)).natAbs < 32
    omega
theorem rd_sx {rs : List Rl} {ys : Qs} (h : rs.length ≤ 17) : Sx (rdT (badI rs ys)) 110 1 := by
  obtain ⟨h1, h2⟩ := bad_lt (ys := ys) h
  exact (sx_tup (ints_sx (k := 5) (by decide) h2)).le (by have := Nat.mul_le_mul_left 6 h1; omega) (Nat.le_refl _)
theorem eqv_bad (rs : List Rl) (ys : Qs) : PyData.eqv (rdT (badI rs ys)) (.tuple []) = (badI rs ys).isEmpty := (eqv_tup0 _).trans List.isEmpty_map
section
variable {K : PySem.W.Frag} {env : List Sl} {b : Option Addr} {ms : Ms} {te ti ta tb : TE}
theorem ei_tupP {Pl : List PyData → Prop} (h : EvP K env b ms te (fun d => ∃ l, d = .tuple l ∧ Pl l)) : EvI K env b ms (iTup K te) Pl := fun σ G H e s j R k => h σ G H e s j _ fun v d G1 H1 g1 j1 p1 ⟨l, q1, q2⟩ => by
  subst q1
  cases p1 with
  | tup sq da => exact ⟨_, rfl, ⟨_, sqt_mono g1.gh sq⟩, k _ l G1 H1 g1 j1 (iter_tup sq da) q2⟩
theorem ev_neS {x y : Str} (ha : EvP K env b ms ta (Is (.str x))) (hb : EvP K env b ms tb (Is (.str y))) : EvP K env b ms (tOp rNe ta tb) (Is (.bool (!decide (x = y)))) :=
  ev_op ha hb fun d1 d2 e1 e2 => by
    rw [e1, e2]
    intro v w G H p1 p2 s jb Q k
    cases p1; cases p2
    have e : decide (V.str x = V.str y) = decide (x = y) := by by_cases h : x = y <;> simp [h]
    refine ⟨rfl, ?_⟩
    rw [e]
    exact k _ _ G H (Grow.refl s) jb (.bl _) rfl
theorem ev_repr2 {l : List PyData} {w h : Nat} (hs : Sx (.list l) w h) (hw : w ≤ 27000) (hh : h ≤ 60) (he : EvP K env b ms te (Is (.list l))) : EvP K env b ms (tCB (rRepr K) (tCons te tNil)) (Is (.str (PyData.list l).shown)) :=
  ev_cb (ea_cons he ea_nil) (rc_repr (fun v G p => by cases p; exact ⟨_, rfl⟩) hs.shw (PyData.hasDict_of_canLay _ hs.can) (Nat.le_trans hs.dep hh) (hs.shown hw))
theorem ev_alikeX {i j : Nat} {L : List PyData} (hi : env[i]? = some (.d (.list L))) (hj : env[j]? = some (.d (.list L))) (sm : SxA L 27000 59) : EvP K env b ms (tCall (spAlikeX K) [] E0 (tCons (tVar i) (tCons (tVar j) tNil))) (Is (.bool true)) := fun σ G H e s jb Q k => by
  obtain ⟨v, e1, p1⟩ := e.get hi
  obtain ⟨w, e2, p2⟩ := e.get hj
  exact ⟨v, e1, w, e2, rfl, L, G, s, .cons p1 (.cons p2 .nil), sm, fun G' H' g => k _ _ G' H' g.no (jb.grow g) (.bl true) rfl⟩
end
end Dl
set_option Elab.async false
set_option linter.all false
set_option maxRecDepth 100000
set_option maxHeartbeats 4000000
namespace Dl
open PySem L2
/-! drawn frames, whole: cells, groups, free cells -/
theorem lc_sub {T : PyData → Bool → Prop} {E : PyData → PyData → Prop} {l m : List PyData} (h : Lc T E l m) (e : ∀ x z, E x z → z = x) : m.Sublist l := by
  induction h with
  | nil => exact List.Sublist.refl _
  | yes _ h2 h3 ih => rw [e _ _ h3]; exact ih.append (List.Sublist.refl _)
  | no _ h ih => exact ih.trans (List.sublist_append_left _ _)
theorem lc_filt {T : PyData → Bool → Prop} {E : PyData → PyData → Prop} {t : PyData → Bool} {l m : List PyData} (h : Lc T E l m) (ht : ∀ x c, T x c → c = t x) (e : ∀ x z, E x z → z = x) : m = l.filter t := by
  induction h with
  | nil => rfl
  | yes _ h2 h3 ih => rw [e _ _ h3, List.filter_append, List.filter_cons, if_pos (ht _ _ h2).symm, ih]; rfl
  | no _ h ih => rw [List.filter_append, List.filter_cons, if_neg (by rw [← ht _ _ h]; simp), ih]; simp
def sTs (l : List Str) : List PyData := l.map .str
/-- the cells, the groups, the free cells, the way of a drawn frame -/
structure FrW (cells : List Str) (gs : List (List Str)) (free : List Str) (way : Str) : Prop where
  nd : cells.Nodup
  nm : ∀ y ∈ cells, PyData.str y ∈ nm12
  ne : cells ≠ []
  le : cells.length ≤ 12
  fr : free.Sublist cells
  ps : ∀ g ∈ gs, g ≠ [] ∧ g.Sublist cells
  pm : gs.flatten.Perm (cells.filter fun y => !decide (y ∈ free))
  hd : (gs.map fun g => g.headD "").Sublist cells
  wy : way = "usual" ∨ way = "strict"
def frTp (cells : List Str) (gs : List (List Str)) (free : List Str) (way : Str) : PyData := .tuple [.tuple (sTs cells), .tuple (gs.map fun g => .tuple (sTs g)), .tuple (sTs free), .str way]
def frameRW (ds : List PyData) (d : PyData) : Prop := ∃ n : Nat, ds = [.int (n : Nat)] ∧ ∃ cells gs free way, d = frTp cells gs free way ∧ FrW cells gs free way ∧ cells.length ≤ n
theorem str_inj {a b : Str} (h : PyData.str a = .str b) : a = b := by cases h; rfl
theorem sts_nd {l : List Str} : (sTs l).Nodup ↔ l.Nodup := ⟨fun h => (List.pairwise_map.mp h).imp fun h e => h (by rw [e]), fun h => List.pairwise_map.mpr (h.imp fun h e => h (str_inj e))⟩
theorem sts_of {l : List PyData} : (∀ y ∈ l, y ∈ nm12) → ∃ cs : List Str, l = sTs cs := by
  induction l with
  | nil => intro _; exact ⟨[], rfl⟩
  | cons y l ih =>
    intro h
    obtain ⟨cs, e⟩ := ih fun z hz => h z (by simp [hz])
    obtain ⟨s, e2, _⟩ := nm_ok y (h y (by simp))
    exact ⟨s :: cs, by rw [e, e2]; rfl⟩
theorem sts_inj : ∀ {a b : List Str}, sTs a = sTs b → a = b
  | [], [], _ => rfl
  | [], _ :: _, h => nomatch h
  | _ :: _, [], h => nomatch h
  | x :: a, y :: b, h => by
    injection h with h1 h2
    rw [str_inj h1, sts_inj h2]
theorem sts_mem {s : Str} {l : List Str} : PyData.str s ∈ sTs l ↔ s ∈ l := ⟨fun h => by
  obtain ⟨t, ht, e⟩ := List.mem_map.mp h
  rw [← str_inj e]; exact ht, fun h => List.mem_map_of_mem h⟩
theorem sts_sub {l : List PyData} {cs : List Str} (h : l.Sublist (sTs cs)) : ∃ l' : List Str, l = sTs l' ∧ l'.Sublist cs := by
  obtain ⟨l', h1, h2⟩ := List.sublist_map_iff.mp h
  exact ⟨l', h2, h1⟩
theorem strIn_mem {s : Str} {l : List Str} : strIn s (sTs l) = decide (s ∈ l) := by
  by_cases h : s ∈ l
  · rw [decide_eq_true h]
    exact strIn_iff.mpr (sts_mem.mpr h)
  · rw [decide_eq_false h]
    cases q : strIn s (sTs l) with
    | false => rfl
    | true => exact absurd (sts_mem.mp (strIn_iff.mp q)) h
/-- not among some texts -/
def nin (free : List PyData) : PyData → Bool
  | .str s => !strIn s free
  | _ => false
theorem nin_filter {cs fs : List Str} : (sTs cs).filter (nin (sTs fs)) = sTs (cs.filter fun y => !decide (y ∈ fs)) := by
  unfold sTs
  rw [List.filter_map]
  congr 1
  refine List.filter_congr fun y _ => ?_
  show (!strIn y (sTs fs)) = _
  rw [strIn_mem]
/-- one list of several grown at its end -/
def grown {α : Type} (a : Addr) (d : α) (p : Addr × List α) : Addr × List α := if p.1 = a then (p.1, p.2 ++ [d]) else p
theorem grown_off {α : Type} {a : Addr} {d : α} : ∀ {gs : List (Addr × List α)}, (∀ p ∈ gs, p.1 ≠ a) → gs.map (grown a d) = gs
  | [], _ => rfl
  | p :: r, h => by
    rw [List.map_cons, grown_off fun q hq => h q (by simp [hq])]
    unfold grown
    rw [if_neg (h p (by simp))]
theorem grown_fst {α : Type} {a : Addr} {d : α} (gs : List (Addr × List α)) : (gs.map (grown a d)).map (·.1) = gs.map (·.1) := by
  rw [List.map_map]
  refine List.map_congr_left fun p _ => ?_
  show (grown a d p).1 = _
  unfold grown
  split <;> rfl
theorem grown_perm {α : Type} {a : Addr} {d : α} : ∀ {gs : List (Addr × List α)}, (gs.map (·.1)).Nodup → (∃ p ∈ gs, p.1 = a) → ((gs.map (grown a d)).map (·.2)).flatten.Perm ((gs.map (·.2)).flatten ++ [d])
  | [], _, ⟨p, hp, _⟩ => nomatch hp
  | p :: r, nd, ⟨q, hq, e⟩ => by
    rw [List.map_cons, List.nodup_cons] at nd
    rw [List.map_cons, List.map_cons, List.flatten_cons, List.map_cons, List.flatten_cons]
    by_cases c : p.1 = a
    · have off : ∀ s ∈ r, s.1 ≠ a := fun s hs z => nd.1 (by rw [c, ← z]; exact List.mem_map_of_mem hs)
      rw [grown_off off]
      unfold grown
      rw [if_pos c]
      show ((p.2 ++ [d]) ++ _).Perm _
      rw [List.append_assoc, List.append_assoc]
      exact List.Perm.append_left _ List.perm_append_comm
    · have hr : ∃ s ∈ r, s.1 = a := by
        rcases List.mem_cons.mp hq with rfl | hq
        · exact absurd e c
        · exact ⟨q, hq, e⟩
      have ih := grown_perm (d := d) nd.2 hr
      have e2 : (grown a d p).2 = p.2 := by unfold grown; rw [if_neg c]
      rw [e2, List.append_assoc]
      exact List.Perm.append_left _ ih
theorem grown_head {a : Addr} {d : PyData} {gs : List (Addr × List PyData)} (h : ∀ p ∈ gs, p.2 ≠ []) : (gs.map (grown a d)).map (fun p => p.2.headD .none) = gs.map fun p => p.2.headD .none := by
  rw [List.map_map]
  refine List.map_congr_left fun p hp => ?_
  show (grown a d p).2.headD .none = _
  unfold grown
  split
  · have := h p hp
    cases q : p.2 with
    | nil => exact absurd q this
    | cons x y => rfl
  · rfl
end Dl
namespace Dl
open PySem L2
def nmS : List Str := ["a", "b", "rent", "x", "y", "sum", "ab", "abcdefghijkl", "z", "p", "tax", "q"]
theorem nm12_nd : nm12.Nodup := (sts_nd (l := nmS)).mpr (by decide +kernel)
/-- the groups as they grow over the cells t -/
structure GsW (gs : List (Addr × List PyData)) (t : List PyData) : Prop where
  nd : (gs.map (·.1)).Nodup
  pm : (gs.map (·.2)).flatten.Perm t
  ps : ∀ p ∈ gs, p.2 ≠ [] ∧ p.2.Sublist t
  hd : (gs.map fun p => p.2.headD .none).Sublist t
theorem gsw_nil {l : List PyData} : GsW [] (l.take 0) := by
  rw [List.take_zero]
  refine ⟨List.nodup_nil, List.Perm.refl _, fun p h => ?_, List.Sublist.refl _⟩
  cases h
theorem GsW.grow {gs : List (Addr × List PyData)} {t : List PyData} {y : PyData} {p0 : Addr × List PyData} (g : GsW gs t) (h : p0 ∈ gs) : GsW (gs.map fun p => if p.1 = p0.1 then (p.1, p.2 ++ [y]) else p) (t ++ [y]) := by
  have e : (gs.map fun p => if p.1 = p0.1 then (p.1, p.2 ++ [y]) else p) = gs.map (grown p0.1 y) := rfl
  rw [e]
  refine ⟨by rw [grown_fst]; exact g.nd, (grown_perm g.nd ⟨p0, h, rfl⟩).trans (g.pm.append_right _), fun p hp => ?_, ?_⟩
  · obtain ⟨q, hq, rfl⟩ := List.mem_map.mp hp
    have h2 := g.ps q hq
    unfold grown
    split
    · exact ⟨by simp, h2.2.append (List.Sublist.refl _)⟩
    · exact ⟨h2.1, h2.2.trans (List.sublist_append_left _ _)⟩
  · rw [grown_head fun p hp => (g.ps p hp).1]
    exact g.hd.trans (List.sublist_append_left _ _)
theorem GsW.new {gs : List (Addr × List PyData)} {t : List PyData} {y : PyData} {r : Addr} (g : GsW gs t) (h : ∀ p ∈ gs, p.1 ≠ r) : GsW (gs ++ [(r, [y])]) (t ++ [y]) := by
  refine ⟨?_, ?_, fun p hp => ?_, ?_⟩
  · rw [List.map_append, List.nodup_append]
    refine ⟨g.nd, by simp, fun a ha b hb => ?_⟩
    obtain ⟨p, hp, rfl⟩ := List.mem_map.mp ha
    have : b = r := by simpa using hb
    rw [this]
    exact h p hp
  · rw [List.map_append, List.flatten_append]
    exact g.pm.append_right _
  · rcases List.mem_append.mp hp with hp | hp
    · exact ⟨(g.ps p hp).1, (g.ps p hp).2.trans (List.sublist_append_left _ _)⟩
    · have : p = (r, [y]) := by simpa using hp
      subst this
      exact ⟨by simp, List.sublist_append_right _ _⟩
  · rw [List.map_append]
    exact g.hd.append (List.Sublist.refl _)
theorem GsW.frame {gs : List (Addr × List PyData)} {cells l free : List PyData} {way : PyData} (g : GsW gs (l.take l.length)) (nd : cells.Nodup) (nm : ∀ y ∈ cells, y ∈ nm12) (n1 : 1 ≤ cells.length) (n2 : cells.length ≤ 12) (fr : free.Sublist cells)
    (hl : l = cells.filter (nin free)) (wy : way = .str "usual" ∨ way = .str "strict") : ∃ cs gs' fs w, cells = sTs cs ∧ gs.map (·.2) = gs'.map sTs ∧ free = sTs fs ∧ way = .str w ∧ FrW cs gs' fs w := by
  rw [List.take_length] at g
  obtain ⟨cs, rfl⟩ := sts_of nm
  obtain ⟨fs, rfl, hf⟩ := sts_sub fr
  rw [nin_filter] at hl
  subst hl
  obtain ⟨w, rfl, hw⟩ : ∃ w : Str, way = .str w ∧ (w = "usual" ∨ w = "strict") := by
    rcases wy with rfl | rfl
    · exact ⟨_, rfl, .inl rfl⟩
    · exact ⟨_, rfl, .inr rfl⟩
  have go : ∀ gs : List (Addr × List PyData), (∀ p ∈ gs, p.2 ≠ [] ∧ p.2.Sublist (sTs (cs.filter fun y => !decide (y ∈ fs)))) → ∃ gs' : List (List Str), gs.map (·.2) = gs'.map sTs ∧ ∀ g ∈ gs', g ≠ [] ∧ g.Sublist cs := by
    intro gs
    induction gs with
    | nil => intro _; exact ⟨[], rfl, fun g h => nomatch h⟩
    | cons p r ih =>
      intro h
      obtain ⟨r', e, hr⟩ := ih fun q hq => h q (by simp [hq])
      obtain ⟨h1, h2⟩ := h p (by simp)
      obtain ⟨g, e2, h3⟩ := sts_sub h2
      refine ⟨g :: r', by rw [List.map_cons, e, e2]; rfl, fun q hq => ?_⟩
      rcases List.mem_cons.mp hq with rfl | hq
      · exact ⟨fun z => h1 (by rw [e2, z]; rfl), h3.trans List.filter_sublist⟩
      · exact hr q hq
  obtain ⟨gs', e, h⟩ := go gs g.ps
  refine ⟨cs, gs', fs, w, rfl, e, rfl, rfl, sts_nd.mp nd, fun y hy => nm _ (sts_mem.mpr hy), fun z => ?_, ?_, hf, h, ?_, ?_, hw⟩
  · rw [z] at n1; cases n1
  · unfold sTs at n2; rw [List.length_map] at n2; exact n2
  · have p := g.pm
    rw [e] at p
    have e2 : (gs'.map sTs).flatten = sTs gs'.flatten := by unfold sTs; rw [List.map_flatten]
    rw [e2] at p
    have b : ∀ l : List Str, (sTs l).map (fun d => match d with | PyData.str s => s | _ => "") = l := fun l => by
      unfold sTs
      rw [List.map_map]
      exact List.map_id _
    have q := List.Perm.map (fun d => match d with | PyData.str s => s | _ => "") p
    rw [b, b] at q
    exact q
  · have q := g.hd
    have e3 : (gs.map fun p => p.2.headD .none) = sTs (gs'.map fun g => g.headD "") := by
      have e4 : (gs.map fun p => p.2.headD PyData.none) = (gs.map (·.2)).map fun g => g.headD .none := by rw [List.map_map]; rfl
      rw [e4, e]
      unfold sTs
      rw [List.map_map, List.map_map]
      refine List.map_congr_left fun g hg => ?_
      have := (h g hg).1
      cases g with
      | nil => exact absurd rfl this
      | cons x y => rfl
    rw [e3] at q
    obtain ⟨l', q1, q2⟩ := sts_sub q
    rw [sts_inj q1]
    exact q2.trans List.filter_sublist
end Dl
set_option Elab.async false
set_option linter.all false
set_option maxRecDepth 100000
set_option maxHeartbeats 4000000
namespace Dl
open PySem PySem.Spec PyProof.Rows L2
/-! a try with several clauses, each of which binds one name -/
abbrev Clause := Value × (Addr → Value → Option Addr → TS)
/-- the ends of a suite: slot i is emptied behind it, but for a return -/
def offI (i : Nat) (D : Ends) : Ends := { nx := fun t H => D.nx (t.set i none) H, rt := D.rt, bk := fun t H => D.bk (t.set i none) H, ct := fun t H => D.ct (t.set i none) H }
def wCl (K : PySem.W.Frag) (i : Nat) (W0 : WX) (D : Ends) : List Clause → WX
  | [] => W0
  | q :: r => fun cls d t H => ∃ c, PySem.W.exmOne K cls q.1 = some c ∧ (c = true → ∀ a, H a = none → q.2 a cls d (offI i D) (t.set i (some (.ref a))) H) ∧ (c = false → wCl K i W0 D r cls d t H)
inductive ClOk (X : Cx) (n : Str) : List ExceptHandler → List Clause → Prop
  | nil : ClOk X n [] []
  | cons {x : Str} {q : Clause} {b0 : Stmt} {bs : List Stmt} {p1 p2 : Pos} {hd : List ExceptHandler} {l : List Clause} (nm : Names X x q.1)
      (su : ∀ (a : Addr) (o : Obj) (cls : Value) (d : Option Addr) (pn : List (Addr × Obj)), Zc cls d o → (∃ vs, o.data = .fields vs) → PSs (X.suite a ((a, o) :: pn)) (b0 :: bs) (q.2 a cls d)) (r : ClOk X n hd l) :
      ClOk X n (.ExceptHandler (some (.Name x p1)) (some n) (b0 :: bs) p2 :: hd) (q :: l)
section
variable {X : Cx} {n : Str} {i : Nat} {W0 : WX} {D : Ends} {pins : List (Addr × Obj)} {σ : L2.St} {H : Hp} {sI s1 : Shared} {B h : Heap} {a : Addr} {cls : Value} {d : Option Addr}
/-- the clauses, one after the other, the exception being noted -/
theorem cl_run (hs : X.stack = X.env :: X.outer) (hf : X.env.frame = some X.env.locals) (hN : X.N.Nodup) (hi : X.N[i]? = some n) (hln : X.env.kindOf n = some .local) (tk : Takes X W0)
    (J : Inv X pins σ H sI) (nb : ∀ b o, sI.heap.get? b = some o → b ∉ frs X.stack → B.get? b = some o) (up : sI.heap.UpToSlots h) (fl : HandSPX.FlyingZ B (X.env :: X.outer) a (Zc cls d) h) (na : H a = none) (os : s1.os = sI.os) (ag : AllBare s1.gens)
    {hd : List ExceptHandler} {l : List Clause} (hk : ClOk X n hd l) : wCl X.K i W0 D l cls d σ H → wpAny (model X.prog X.w) X.A (handleBy (.ref a) X.env hd) (SP X pins D) X.xe { s1 with heap := h } := by
  have ok := J.ok
  have J3 : Inv X pins σ H { s1 with heap := h } := J.landed nb fl.1 up os ag
  have off : ∀ {h : Heap} {o : Obj} {vs : Array Value}, h.FunFrames B (X.env :: X.outer) → h.get? a = some o → o.data = .fields vs → a ∉ frs (X.env :: X.outer) := by
    intro h o vs ff e dd hm
    obtain ⟨_, o2, e2, nf⟩ := ff.mem hm
    rw [e] at e2
    exact nf vs (by rw [← Option.some.inj e2]; exact dd)
  have two : ∀ {h : Heap} {o : Obj} {vs : Array Value}, h.FunFrames B (X.env :: X.outer) → h.get? a = some o → o.data = .fields vs → a ≠ X.env.locals ∧ a ∉ X.fs := by
    intro h o vs ff e dd
    have z := off ff e dd
    refine ⟨fun q => z (List.mem_filterMap.mpr ⟨X.env, by simp, by rw [hf, q]⟩), fun q => ?_⟩
    obtain ⟨y, hy, q⟩ := List.mem_filterMap.mp q
    exact z (List.mem_filterMap.mpr ⟨y, by simp [hy], q⟩)
  induction hk with
  | nil =>
    intro w
    refine wpAny_handleBy_nil ?_
    obtain ⟨_, _, _, oe, vs, T, _, _, he, _, hd, h1, _⟩ := id fl
    unfold PySem.passOn
    refine wpAny_bind (wpAny_field he hd h1 ?_)
    have nT : ¬ ((Value.ref T == Value.none) = true) := by simp
    rw [if_neg nT, hf]
    have last : wpAny (model X.prog X.w) X.A (setFlight (.ref a) (some X.env.locals)) (fun _ s4 => wpAny (model X.prog X.w) X.A (throw (.ref a) : Sem Flow) (SP X pins D) X.xe s4) X.xe { s1 with heap := h } :=
      HandSPX.setFlight_upZ fl fun h4 hh up4 => wpAny_throw (tk _ _ ⟨a, B, sI, pins, σ, H, cls, d, rfl, J, nb, up.trans up4, .inr (.inr (by rw [hs]; exact hh)), na, os, ag, w⟩)
    first | exact wpAny_bind (wpAny_pure (wpAny_bind last)) | exact wpAny_bind last
  | @cons x q b0 bs p1 p2 hd2 l2 nm su r ih =>
    rintro ⟨c, hc, yes, no⟩
    obtain ⟨oe3, vs3, he3, hz3, hd3⟩ := fl.there
    obtain ⟨nL, nF⟩ := two fl.2.2.1 he3 hd3
    have S3 := J3.suite he3 hd3 na nL nF
    refine wpAny_handleBy_cons (codeAny_handlers_test ?_) (fun z => nomatch z)
    have seen := PySem.W.exm_one (M := model X.prog X.w) J3.kIn (show PySem.W.Looks (model X.prog X.w) h (typeOf (.ref a)) cls from fun A Q E s k z => wpAny_typeOf_ref (k _ _ he3) (by rw [hz3.1]; exact z)) hc
    have named : ∀ {Q : Value → Shared → Prop} {E : Value → Shared → Prop}, Q q.1 { s1 with heap := h } → wpAny (model X.prog X.w) (X.A.mark (some (.ref a))) (eval (.Name x p1) X.env) Q E { s1 with heap := h } := by
      intro Q E z
      obtain ⟨g1, g2, g3⟩ := nm
      rcases g3 with g3 | ⟨g3, g4, g5⟩
      · exact ld_glob (X := X.suite a ((a, oe3) :: (X.pn ++ pins))) S3 g1 g3 z g2
      · exact ld_blt (X := X.suite a ((a, oe3) :: (X.pn ++ pins))) S3 g1 g3 g4 z g5 g2
    refine named (seen.here ?_)
    cases c with
    | false => exact ih (no rfl)
    | true =>
      refine codeAny_handlers_suite_as (HandSPX.lands_againZ fl fun h4 fl4 up4 => ?_)
      have J4 : Inv X pins σ H { s1 with heap := h4 } := J.landed nb fl4.1 (up.trans up4) os ag
      obtain ⟨oe4, vs4, he4, hz4, hd4⟩ := fl4.there
      obtain ⟨nL4, nF4⟩ := two fl4.2.2.1 he4 hd4
      refine store_ok (X := X.suite a ((a, oe4) :: (X.pn ++ pins))) (v := .ref a) (J4.suite he4 hd4 na nL4 nF4) hN hi (.inl hln) rfl (fun s5 S5 => ?_) (.inr hln)
      refine wpAny_mono ((su a oe4 cls d (X.pn ++ pins) hz4 ⟨_, hd4⟩).run [] s5 _ H _ S5 (yes rfl a na)) (fun f s6 hsp => ?_) fun _ _ z => z.elim
      have shut : ∀ {τ : L2.St} {H6 : Hp} {Q : Shared → Prop}, Inv (X.suite a ((a, oe4) :: (X.pn ++ pins))) [] τ H6 s6 → (∀ s7, Inv X pins (τ.set i none) H6 s7 → Q s7) →
          wpAny (model X.prog X.w) X.A (do bindName X.env n .none; unbindBehindTheSuite X.env n p2) (fun _ s7 => Q s7) X.xe s6 := fun S6 k => gone_ok (S6.unsuite ok) hN hi hln k
      match f, hsp with
      | .next, ⟨_, _, S6, z⟩ => exact shut S6 fun s7 J7 => ⟨_, _, J7, z⟩
      | .brk, ⟨_, _, S6, z⟩ => exact shut S6 fun s7 J7 => ⟨_, _, J7, z⟩
      | .cont, ⟨_, _, S6, z⟩ => exact shut S6 fun s7 J7 => ⟨_, _, J7, z⟩
      | .ret u, ⟨_, _, _, S6, r6, z⟩ => exact shut S6 fun s7 J7 => ⟨_, _, _, J7, r6, z⟩
/-- try: .. except A as n: .. except B as n: .. -/
theorem ps_clauses {body : List Stmt} {h0 : ExceptHandler} {hd : List ExceptHandler} {l : List Clause} {pos : Pos} {tb : WX → TS} (hs : X.stack = X.env :: X.outer) (hf : X.env.frame = some X.env.locals) (hN : X.N.Nodup) (hi : X.N[i]? = some n) (hln : X.env.kindOf n = some .local) (tk : Takes X W0)
    (hb : ∀ (W : WX) (pn : List (Addr × Obj)) (xe : Value → Shared → Prop), Takes (X.tr pn xe) W → PassesOwn (model X.prog X.w) X.A X.env xe → PSs (X.tr pn xe) body (tb W)) (hk : ClOk X n (h0 :: hd) l) :
    PS X (.Try body (h0 :: hd) [] [] pos) (fun D σ H => tb (wCl X.K i W0 D l) D σ H) := by
  refine ⟨fun pins s σ H D I h => wpAny_Try_except ?_⟩
  have ok := I.ok
  have fr : X.A.frames = some (X.env :: X.outer) := by rw [ok.frames, hs]
  let after : Value → Shared → Prop := fun e s2 => wpAny (model X.prog X.w) X.A (noteFrame e X.env) (fun _ s3 => wpAny (model X.prog X.w) X.A (setFlight e none) (fun _ s4 => wpAny (model X.prog X.w) X.A (handleBy e X.env (h0 :: hd)) (SP X pins D) X.xe s4) X.xe s3) X.xe s2
  have catches : Takes (X.tr (X.pn ++ pins) after) (wCl X.K i W0 D l) := by
    rintro u s2 ⟨a, B, sI, pins2, τ, H2, cls, d, rfl, J2, nb, up, sky, na, os, ag, w⟩
    have sky2 : Sky B (X.env :: X.outer) a (Zc cls d) X.env.locals s2.heap := by rw [← hs]; exact sky
    exact Sky.land Zc.steady fr hf sky2 fun h3 fl up3 => cl_run hs hf hN hi hln tk (J2.ofTry ok) nb (up.trans up3) fl na os ag hk w
  refine wpAny_mono ((hb _ (X.pn ++ pins) after catches PassesOwn.looking).run [] s σ H D (I.toTry _) h) (fun f s2 hsp => ?_) fun e s2 he => he
  match f, hsp with
  | .next, ⟨_, _, J, q⟩ => exact wpAny_execs_nil ⟨_, _, J.ofTry ok, q⟩
  | .brk, ⟨_, _, J, q⟩ => exact ⟨_, _, J.ofTry ok, q⟩
  | .cont, ⟨_, _, J, q⟩ => exact ⟨_, _, J.ofTry ok, q⟩
  | .ret _, ⟨_, _, _, J, r, q⟩ => exact ⟨_, _, _, J.ofTry ok, r, q⟩
end
end Dl
set_option Elab.async false
set_option linter.all false
set_option maxRecDepth 100000
set_option maxHeartbeats 4000000
namespace Dl
open PySem PySem.Spec PyProof.Rows L2
theorem takes_len {X : Cx} {W : WX} (t : Takes X W) : Takes X (fun cls d τ H => τ.length = X.N.length → W cls d τ H) := fun u s ⟨a, B, sI, pins, τ, H, cls, d, e, I, nb, up, sky, na, os, ag, w⟩ =>
  t u s ⟨a, B, sI, pins, τ, H, cls, d, e, I, nb, up, sky, na, os, ag, w I.len⟩
theorem pss_never {X : Cx} {b : List Stmt} : PSs X b (fun _ _ _ => False) := ⟨fun _ _ _ _ _ _ h => h.elim⟩
/-- told: the pair of a word and what the act gives; refused by C: the pair of another word and a field -/
def TTh (C : Addr) (f w1 w2 : Str) : (XK → Hp → VK → Prop) → Hp → VK → Prop := fun tl H Q =>
  tl (fun cls d H' => cls = .ref C ∧ ∃ (dd : Addr) (fs : List (Str × V)) (v : V), d = some dd ∧ H' dd = some (.xd fs) ∧ fs.lookup f = some v ∧ ∀ p, H' p = none → Q (.ref p) (upd H' p (.tup [.str w2, v])))
    H (fun v H' => [V.str w1, v].length ≤ sizeLine ∧ ∀ p, H' p = none → Q (.ref p) (upd H' p (.tup [.str w1, v])))
theorem two_ok {v w : V} : [v, w].length ≤ sizeLine := by show 2 ≤ sizeLine; decide
section
variable {X : Cx} {x q sgW sgT sgV wd wW wT wV wC fW fT fC fV : Str} {sg : Scope} {g CW CT CC CV : Addr} {cdg : Value} {j1 j2 j3 j4 j5 : Nat} {a1 a2 a3 a4 a5 a6 b1 b2 b3 b4 b5 b6 b7 c1 c2 c3 c4 c5 c6 c7 d1 d2 d3 d4 d5 d6 d7 e1 e2 e3 e4 e5 e6 e7 pz : Pos} {kt kE kF kG kH : Nat}
theorem heard_gives (hE : sg.names.lookup ("error" : Str) = some .local) (hC : sg.names.lookup ("Clash" : Str) = some .globalImplicit) (hW : sg.names.lookup ("Wrong" : Str) = some .globalImplicit) (hT : sg.names.lookup ("NoText" : Str) = some .globalImplicit) (hV : sg.names.lookup ("NoVersion" : Str) = some .globalImplicit)
    (mC : X.mg "Clash" = some (.ref CC)) (mW : X.mg "Wrong" = some (.ref CW)) (mT : X.mg "NoText" = some (.ref CT)) (mV : X.mg "NoVersion" = some (.ref CV))
    (eW : PySem.W.exmOne X.K (.ref CC) (.ref CW) = some false) (eT : PySem.W.exmOne X.K (.ref CC) (.ref CT) = some false) (eC : PySem.W.exmOne X.K (.ref CC) (.ref CC) = some true)
    (xf : XfC X.K CC) (no : PySem.W.findIn X.K (.ref CC) "groups" = some none) :
    LamX.GivesTo X ["act", "error"] x sg g cdg [.Try [.Return (some (.Tuple [.Constant (.str wd) j1 a1, .Call (.Name "act" a2) [] [] a3] kt a4)) a5]
      [.ExceptHandler (some (.Name "Wrong" b1)) (some "error") [.Return (some (.Tuple [.Constant (.str wW) j2 b2, .Attribute (.Name "error" b3) fW b4] kE b5)) b6] b7,
       .ExceptHandler (some (.Name "NoText" c1)) (some "error") [.Return (some (.Tuple [.Constant (.str wT) j3 c2, .Attribute (.Name "error" c3) fT c4] kF c5)) c6] c7,
       .ExceptHandler (some (.Name "Clash" d1)) (some "error") [.Return (some (.Tuple [.Constant (.str wC) j4 d2, .Attribute (.Name "error" d3) "groups" d4] kG d5)) d6] d7,
       .ExceptHandler (some (.Name "NoVersion" e1)) (some "error") [.Return (some (.Tuple [.Constant (.str wV) j5 e2, .Attribute (.Name "error" e3) fV e4] kH e5)) e6] e7] [] [] pz] "act" q (TTh CC "groups" wd wC) := by
  intro f c' s H Q tl act hc h
  refine ⟨_, pss_one (ps_clauses (X := (cxOf C8.CX0 X.prog X.w X.K X.mg X.base ["act", "error"] x sg g cdg X.A X.stack s H C8.E0).nox) (n := "error") (i := 1) (W0 := fun _ _ _ _ => False)
      (l := [(.ref CW, fun _ _ _ _ _ _ => False), (.ref CT, fun _ _ _ _ _ _ => False), (.ref CC, fun a cls d => tRet (tTup (tCons (tC (.str wC)) (tCons (tXf a cls d CC "groups" (tVar 1)) tNil)))), (.ref CV, fun _ _ _ _ _ _ => False)])
      (tb := fun W D σ H => ∃ Ech : XK, (∀ cls d τ H', τ.length = 2 → Ech cls d H' → W cls d τ H') ∧ tTup (tCons (tC (.str wd)) (tCons (fun τ HZ Q => τ[0]? = some (some (.ref f)) ∧ HZ c' = some (LamX.CodeO c' q) ∧ tl Ech HZ Q) tNil)) σ H D.rt)
      rfl rfl (show (["act", "error"] : List Str).Nodup from by decide) rfl hE L2.takes0 (fun W pn xe tk _ => ?_)
      (.cons ⟨hW, by decide, .inl mW⟩ (fun _ _ _ _ _ _ _ => pss_never) (.cons ⟨hT, by decide, .inl mT⟩ (fun _ _ _ _ _ _ _ => pss_never) (.cons ⟨hC, by decide, .inl mC⟩ (fun a o cls d pn hz hf => ?_) (.cons ⟨hV, by decide, .inl mV⟩ (fun _ _ _ _ _ _ _ => pss_never) .nil))))), ?_⟩
  · refine ⟨fun pins s' σ H' D I h' => ?_⟩
    obtain ⟨Ech, hw, h1⟩ := h'
    have hp := act (fun cls d τ H => τ.length = 2 → W cls d τ H) pn xe Ech a2 a3 (takes_len tk) (fun cls d τ H e l => hw cls d τ H l e)
    exact (pss_one (ps_ret (pos := a5) (pe_tup (pa_cons pe_str (pa_cons hp pa_nil))))).run pins s' σ H' D I h1
  · have pv : PE (((cxOf C8.CX0 X.prog X.w X.K X.mg X.base ["act", "error"] x sg g cdg X.A X.stack s H C8.E0).nox).suite a ((a, o) :: pn)) (.Name "error" d3) (tVar 1) := pe_var (x := "error") (i := 1) rfl (.inl hE) (by decide) (by decide)
    exact pss_one (ps_ret (pe_tup (pa_cons pe_str (pa_cons (pe_xf (X := (cxOf C8.CX0 X.prog X.w X.K X.mg X.base ["act", "error"] x sg g cdg X.A X.stack s H C8.E0).nox) xf no hz hf pv) pa_nil))))
  · refine ⟨fun cls d H' => cls = .ref CC ∧ ∃ (dd : Addr) (fs : List (Str × V)) (v : V), d = some dd ∧ H' dd = some (.xd fs) ∧ fs.lookup ("groups" : Str) = some v ∧ ∀ p, H' p = none → Q (.ref p) (upd H' p (.tup [.str wC, v])), ?_, ?_⟩
    · rintro cls d τ H' hl ⟨rfl, dd, fs, v, rfl, hd, hf, hq⟩
      refine ⟨false, eW, fun z => absurd z (by decide), fun _ => ⟨false, eT, fun z => absurd z (by decide), fun _ => ⟨true, eC, fun _ a ha => ?_, fun z => absurd z (by decide)⟩⟩⟩
      refine ⟨.ref a, ?_, rfl, rfl, dd, fs, v, rfl, hd, hf, two_ok, fun p hp => hq p hp⟩
      rw [List.getElem?_set_self (by omega)]
    · refine ⟨rfl, hc, ?_⟩
      exact h
end
end Dl
set_option Elab.async false
set_option linter.all false
set_option maxRecDepth 100000
set_option maxHeartbeats 4000000
namespace Dl
open PySem PySem.Spec PyProof.Rows L2
/-! data, and what else stands in a heap: tables of code objects may grow while the data stay -/
def AllDat (G : Hp) : Prop := ∀ b o, G b = some o → isDat o = true
/-- the data alone -/
def prune (G : Hp) : Hp := fun b => match G b with
  | some o => if isDat o then some o else none
  | none => none
/-- all else -/
def other (H : Hp) : Hp := fun b => match H b with
  | some o => if isDat o then none else some o
  | none => none
theorem prune_of {G : Hp} {b : Addr} {o : HO} (h : prune G b = some o) : G b = some o ∧ isDat o = true := by
  unfold prune at h
  split at h
  · rename_i u e
    split at h
    · rename_i d
      cases h
      exact ⟨e, d⟩
    · cases h
  · cases h
theorem prune_at {G : Hp} {b : Addr} {o : HO} (h : G b = some o) (d : isDat o = true) : prune G b = some o := by
  unfold prune
  rw [h]
  exact if_pos d
theorem prune_none {G : Hp} {b : Addr} (h : G b = none) : prune G b = none := by
  unfold prune
  rw [h]
theorem prune_dat {G : Hp} : AllDat (prune G) := fun b o h => (prune_of h).2
theorem prune_same {G : Hp} : Same (prune G) G := fun b o h => (prune_of h).1
theorem other_of {H : Hp} {b : Addr} {o : HO} (h : other H b = some o) : H b = some o ∧ isDat o = false := by
  unfold other at h
  split at h
  · rename_i u e
    split at h
    · cases h
    · rename_i d
      cases h
      exact ⟨e, by simpa using d⟩
  · cases h
theorem other_at {H : Hp} {b : Addr} {o : HO} (h : H b = some o) (d : isDat o = false) : other H b = some o := by
  unfold other
  rw [h]
  exact if_neg (by rw [d]; decide)
theorem other_none {H : Hp} {b : Addr} (h : H b = none) : other H b = none := by
  unfold other
  rw [h]
theorem other_dat {H : Hp} {b : Addr} {o : HO} (h : H b = some o) (d : isDat o = true) : other H b = none := by
  unfold other
  rw [h]
  exact if_pos d
section
variable {K : PySem.W.Frag} {G G' H H' : Hp}
theorem datIn_prune : DatIn G (prune G) := fun b o h d => prune_at h d
theorem sql_dat {a : Addr} {xs : List V} (e : DatIn G G') (h : SqL K G a xs) : SqL K G' a xs := by
  rcases h with (h | ⟨o, h⟩) | h
  · exact .inl (.inl (e _ _ h rfl))
  · exact .inl (.inr ⟨o, e _ _ h rfl⟩)
  · exact .inr h
theorem sqt_dat {a : Addr} {xs : List V} (e : DatIn G G') (h : SqT K G a xs) : SqT K G' a xs := by
  rcases h with (h | ⟨o, h⟩) | h
  · exact .inl (.inl (e _ _ h rfl))
  · exact .inl (.inr ⟨o, e _ _ h rfl⟩)
  · exact .inr h
mutual
theorem dp_dat (e : DatIn G G') : ∀ (d : PyData) (v : V), Dp K G v d → Dp K G' v d
  | .none, _, h => by cases h; exact .non
  | .bool b, _, h => by cases h; exact .bl b
  | .int i, _, h => by cases h; exact .int i
  | .str x, _, h => by cases h; exact .str x
  | .list ds, _, h => by
    cases h with
    | lst a b => exact .lst (sql_dat e a) (dpa_dat e ds _ b)
  | .tuple ds, _, h => by
    cases h with
    | tup a b => exact .tup (sqt_dat e a) (dpa_dat e ds _ b)
  | .dict _, _, h => by cases h
theorem dpa_dat (e : DatIn G G') : ∀ (ds : List PyData) (vs : List V), DpAll K G vs ds → DpAll K G' vs ds
  | [], _, h => by cases h; exact .nil
  | d :: ds, _, h => by
    cases h with
    | cons a b => exact .cons (dp_dat e d _ a) (dpa_dat e ds _ b)
end
theorem slot_dat {s : Option V} {x : Sl} (e : DatIn G G') (h : SlotOk K G s x) : SlotOk K G' s x := by
  cases x with
  | un => trivial
  | d y => obtain ⟨v, e1, e2⟩ := h; exact ⟨v, e1, dp_dat e _ _ e2⟩
  | a r => exact h
  | r R => obtain ⟨v, e1, e2⟩ := h; exact ⟨v, e1, e2.dat e⟩
theorem env_dat {σ : L2.St} {env : List Sl} (e : DatIn G G') (h : EnvOk K G σ env) : EnvOk K G' σ env := ⟨h.1, fun i x q => by
  obtain ⟨s, e1, e2⟩ := h.2 i x q
  exact ⟨s, e1, slot_dat e e2⟩⟩
/-- tables and what they tell grow, the data stay: from H to H' -/
theorem jb_dat {b : Option Addr} {ms : Ms} (j : JB K b ms G H) (e : DatIn G G') (n : ∀ a, G a = none → G' a = none) (k : DatIn H H') : JB K b ms G' H' := by
  refine ⟨fun x ex => ?_, fun p hp => ?_⟩
  · obtain ⟨g, z0, z1, z2, l, cs, e1, sq, r⟩ := j.bag x ex
    exact ⟨n _ g, z0, z1, z2, l, cs, k _ _ e1 rfl, sql_dat e sq, r⟩
  · obtain ⟨g, nb, xs, e1, q⟩ := j.mu p hp
    exact ⟨n _ g, nb, xs, k _ _ e1 rfl, env_dat e q⟩
/-- the tables' part -/
def nil' : Hp := fun _ => none
structure AtT (K : PySem.W.Frag) (env : List Sl) (b : Option Addr) (ms : Ms) (T : List (Addr × Str)) (Gs : Hp) (σ : L2.St) (G H : Hp) : Prop where
  a : At K env b ms nil' (other H) Gs σ G H
  t : LamX.Tabs T H
  d : AllDat G
theorem dat_of {b : Option Addr} {ms : Ms} {x : Addr} (j : JB K b ms G H) (h : b = some x) : other H x = none := by
  obtain ⟨_, _, _, _, _, _, e, _⟩ := j.bag x h
  exact other_dat e rfl
/-- laid down anew at what stands now -/
theorem at_base {env : List Sl} {b : Option Addr} {ms : Ms} {G0 H0 Gs : Hp} {σ : L2.St} (A : At K env b ms G0 H0 Gs σ G H) (hs : AllDat Gs) : At K env b ms nil' (other H) Gs σ (prune G) H := by
  refine ⟨env_dat datIn_prune A.env, ⟨fun c o e => (nomatch (show none = some o from e)), fun c o e => A.gr.gh c o (prune_of e).1, fun c e => other_none e, fun c o e _ => (other_of e).1, fun c o e => .inr ?_⟩, fun c o e => prune_at (A.sg c o e) (hs c o e), jb_dat A.j datIn_prune (fun a e => prune_none e) (fun c o e _ => e), fun p hp => ?_, A.nd⟩
  · exact other_dat (A.gr.gh c o (prune_of e).1) (prune_of e).2
  · obtain ⟨_, _, xs, e, _⟩ := A.j.mu p hp
    exact other_dat e rfl
theorem tabs_other {T : List (Addr × Str)} (t : LamX.Tabs T H) (k : ∀ b o, H b = some o → isDat o = false → H' b = some o) : LamX.Tabs T H' := fun p hp => by
  obtain ⟨ps, h1, h2, h3⟩ := t p hp
  refine ⟨ps, k _ _ h1 rfl, h2, fun pos cv hc => ?_⟩
  obtain ⟨c, e1, e2⟩ := h3 pos cv hc
  exact ⟨c, e1, k _ _ e2 rfl⟩
theorem AtT.next {env env2 : List Sl} {b : Option Addr} {ms ms2 : Ms} {T : List (Addr × Str)} {Gs G2 H2 : Hp} {σ σ2 : L2.St} (A : AtT K env b ms T Gs σ G H) (A2 : At K env2 b ms2 nil' (other H) Gs σ2 G2 H2) (hs : AllDat Gs) : AtT K env2 b ms2 T Gs σ2 (prune G2) H2 := by
  refine ⟨at_base A2 hs, tabs_other A.t fun c o e d => A2.gr.keep c o (other_at e d) fun z => ?_, prune_dat⟩
  have q := dat_of A.a.j z
  rw [other_at e d] at q
  cases q
/-- a reading in which a lambda may be made and called -/
def EvT (K : PySem.W.Frag) (env : List Sl) (b : Option Addr) (ms : Ms) (T : List (Addr × Str)) (te : TE) (P : PyData → Prop) : Prop :=
  ∀ (σ : L2.St) (G H : Hp), EnvOk K G σ env → Same G H → JB K b ms G H → AllDat G → LamX.Tabs T H → ∀ Q : VK,
    (∀ v d G2 H2, EnvOk K G2 σ env → Same G G2 → Same G2 H2 → JB K b ms G2 H2 → AllDat G2 → LamX.Tabs T H2 → Dp K G2 v d → P d → Q v H2) → te σ H Q
end
end Dl
namespace Dl
open PySem PySem.Spec PyProof.Rows L2
/-- a def that gives data, or raises C with one field -/
def spX (K : PySem.W.Frag) (n : Nat) (C : Addr) (f : Str) (dom : List PyData → Prop) (R Rx : List PyData → PyData → Prop) : Sp := fun vs H Q E => vs.length = n ∧ ∃ (ds : List PyData) (G : Hp), Same G H ∧ DpAll K G vs ds ∧ dom ds ∧
  (∀ v d G' H', Grow No G H G' H' → Dp K G' v d → R ds d → Q v H') ∧ ∀ v x dd G' H', Grow No G H G' H' → H' dd = some (.xd [(f, v)]) → Dp K G' v x → Rx ds x → E (.ref C) (some dd) H'
theorem spX_len {K : PySem.W.Frag} {n : Nat} {C : Addr} {f : Str} {dom : List PyData → Prop} {R Rx : List PyData → PyData → Prop} {vs : List V} {H : Hp} {Q : VK} {E : XK} (h : spX K n C f dom R Rx vs H Q E) : vs.length = n := h.1
section
variable {K : PySem.W.Frag} {env : List Sl} {b : Option Addr} {ms : Ms} {n : Nat} {C : Addr} {f : Str} {dom : List PyData → Prop} {R Rx : List PyData → PyData → Prop} {G H G' H' : Hp} {σ : L2.St}
theorem grow_dat (g : Grow No G H G' H') : DatIn H H' := fun c o e _ => g.keep c o e fun z => z
/-- where such a def is called, nothing going wrong -/
theorem ev_callX {t : TA} {Pl : List PyData → Prop} (ha : EaP K env b ms t Pl) (hd : ∀ ds, Pl ds → ds.length = n ∧ dom ds ∧ ∀ x, ¬ Rx ds x) : EvP K env b ms (tCall (spX K n C f dom R Rx) [] E0 t) (fun d => ∃ ds, Pl ds ∧ R ds d) := fun σ G H e s j Q k =>
  ha σ G H e s j _ fun vs ds G1 H1 g1 j1 p1 q1 => by
    obtain ⟨h1, h2, h3⟩ := hd ds q1
    rw [List.append_nil]
    exact ⟨by rw [dpa_len p1]; exact h1, ds, G1, g1.gh, p1, h2, fun v d G2 H2 g2 p2 r2 => k v d G2 H2 (g1.trans g2.no) (j1.grow g2) p2 ⟨ds, q1, r2⟩, fun v x dd G2 H2 g2 e2 p2 r2 => (h3 x r2).elim⟩
/-- told, or refused -/
def heardR (R Rx : List PyData → PyData → Prop) (ds : List PyData) (w1 w2 : Str) (d : PyData) : Prop := (∃ r, d = .tuple [.str w1, r] ∧ R ds r) ∨ ∃ x, d = .tuple [.str w2, x] ∧ Rx ds x
theorem et_lam {T : List (Addr × Str)} {w1 w2 : Str} {t : TA} {ds : List PyData} (ha : EaP K env b ms t (Is ds)) (hn : ds.length = n) (hd : dom ds) :
    EvT K env b ms T (LamX.tLam T (TTh C f w1 w2) fun E => tCall (spX K n C f dom R Rx) [] E t) (heardR R Rx ds w1 w2) := fun σ G H e s j d0 t0 Q k => by
  refine ⟨t0, fun H1 eN t1 => ?_⟩
  have k1 : DatIn H H1 := fun c o z d => eN c o z fun ps q => by
    rw [q] at d
    cases d
  have s1 : Same G H1 := fun c o z => k1 c o (s c o z) (d0 c o z)
  have j1 : JB K b ms G H1 := jb_dat j (fun c o z _ => z) (fun a z => z) k1
  refine ha σ G H1 e s1 j1 _ fun vs es G2 H2 g2 j2 p2 q2 => ?_
  subst q2
  rw [List.append_nil]
  have nb : ∀ c o, H1 c = some o → isDat o = false → ¬ Mb b c := fun c o z d q => by
    have := dat_of j1 q
    rw [other_at z d] at this
    cases this
  have fin : ∀ (w : Str) (v : V) (x : PyData) (G3 H3 : Hp), Grow No G2 H2 G3 H3 → Dp K G3 v x → heardR R Rx es w1 w2 (.tuple [.str w, x]) → ∀ p, H3 p = none → Q (.ref p) (upd H3 p (.tup [.str w, v])) := by
    intro w v x G3 H3 g3 p3 hr p hp
    have g4 : Grow No G3 H3 (upd G3 p (.tup [.str w, v])) (upd H3 p (.tup [.str w, v])) := Grow.lay g3.gh hp
    have gg : Grow (Mb b) G H1 _ _ := (g2.trans g3.no).trans g4.no
    have jj : JB K b ms _ _ := (j2.grow g3).grow g4
    have dp : Dp K (upd G3 p (.tup [.str w, v])) (.ref p) (.tuple [.str w, x]) := .tup (SqT.of upd_same) (dpa_mono g4.g _ _ (.cons (.str w) (.cons p3 .nil)))
    refine k _ (.tuple [.str w, x]) (prune (upd G3 p (.tup [.str w, v]))) _ (env_dat datIn_prune (e.mono gg.g)) (fun c o z => prune_at (gg.g c o z) (d0 c o z)) (fun c o z => gg.gh c o (prune_of z).1) (jb_dat jj datIn_prune (fun a z => prune_none z) fun c o z _ => z) prune_dat (tabs_other t1 fun c o z d => gg.keep c o z (nb c o z d)) (dp_dat datIn_prune _ _ dp) hr
  refine ⟨by rw [dpa_len p2]; exact hn, es, G2, g2.gh, p2, hd, fun v d G3 H3 g3 p3 r3 => ⟨two_ok, fin w1 v d G3 H3 g3 p3 (.inl ⟨d, rfl, r3⟩)⟩, fun v x dd G3 H3 g3 e3 p3 r3 => ⟨rfl, dd, _, v, rfl, e3, ?_, fin w2 v x G3 H3 g3 p3 (.inr ⟨x, rfl, r3⟩)⟩⟩
  simp [List.lookup]
end
end Dl
set_option Elab.async false
set_option linter.all false
set_option maxRecDepth 100000
set_option maxHeartbeats 4000000
namespace Dl
open PySem PySem.Spec PyProof.Rows L2
section
variable {K : PySem.W.Frag} {env : List Sl} {b : Option Addr} {ms : Ms} {T : List (Addr × Str)} {Gs G H : Hp} {σ : L2.St} {te : TE} {P : PyData → Prop} {D : Ends} {tz tu tw : TS}
theorem at_of (e : EnvOk K G σ env) (sg : Same Gs G) (s : Same G H) (j : JB K b ms G H) (d : AllDat G) (nd : (ms.map (·.1)).Nodup) : At K env b ms nil' (other H) Gs σ G H := by
  refine ⟨e, ⟨fun c o q => (nomatch (show none = some o from q)), s, fun c q => other_none q, fun c o q _ => (other_of q).1, fun c o q => .inr (other_dat (s c o q) (d c o q))⟩, sg, j, fun p hp => ?_, nd⟩
  obtain ⟨_, _, xs, q, _⟩ := j.mu p hp
  exact other_dat q rfl
/-- x = [what an act tells] -/
theorem qT_new {i : Nat} (A : AtT K env b ms T Gs σ G H) (h : EvT K env b ms T te P) (k : ∀ l d σ' G' H', P d → b ≠ some l → AtT K (env.set i (.a l)) b ((l, [.d d]) :: ms) T Gs σ' G' H' → tz D σ' H') : tSeq (tAsg (tLst (tCons te tNil)) (gName i)) tz D σ H := by
  refine h σ G H A.a.env A.a.gr.gh A.a.j A.d A.t _ fun v d G2 H2 e2 s2 g2 j2 d2 t2 p2 q2 => ⟨by show 1 ≤ sizeLine; decide, fun p hp => ?_⟩
  have gp : G2 p = none := g2.free hp
  have g3 : Grow No G2 H2 G2 (upd H2 p (.lst [v])) := Grow.lay0 g2 hp
  have nb : b ≠ some p := fun z => by
    obtain ⟨_, _, _, _, _, _, e0, _⟩ := j2.bag p z
    rw [hp] at e0; cases e0
  have j3 := j2.grow g3
  refine k p d _ G2 _ q2 nb ⟨at_of (e2.set rfl) (A.a.sg.trans s2) g3.gh ⟨j3.bag, fun q hq => ?_⟩ d2 ?_, tabs_other t2 fun c o z _ => g3.keep c o z fun z => z, d2⟩
  · rcases List.mem_cons.mp hq with rfl | hq
    · exact ⟨gp, nb, [v], upd_same, env_data (.cons p2 .nil)⟩
    · exact j3.mu q hq
  · rw [List.map_cons, List.nodup_cons]
    refine ⟨fun hm => ?_, A.a.nd⟩
    obtain ⟨q, hq, e⟩ := List.mem_map.mp hm
    obtain ⟨_, _, _, m, _⟩ := j2.mu q hq
    rw [e, hp] at m; cases m
/-- x.append(what an act tells) -/
theorem qT_app {i n : Nat} {l : Addr} {es : List Sl} (A : AtT K env b ms T Gs σ G H) (hi : env[i]? = some (.a l)) (hm : ms[n]? = some (l, es)) (h : EvT K env b ms T te P) (hz : es.length ≤ 2000)
    (k : ∀ d G' H', P d → AtT K env b (ms.set n (l, es ++ [.d d])) T Gs σ G' H' → tz D σ H') : tSeq (tDrop (tBM K "list" rAppend (tVar i) (tCons te tNil))) tz D σ H := by
  obtain ⟨gl, nb, xs, hl, el⟩ := A.a.j.mu _ (List.mem_of_getElem? hm)
  refine ⟨.ref l, A.a.env.addr hi, tyL hl, h σ G H A.a.env A.a.gr.gh A.a.j A.d A.t _ fun v d G2 H2 e2 s2 g2 j2 d2 t2 p2 q2 => ?_⟩
  obtain ⟨gl2, nb2, ys, hl2, el2⟩ := j2.mu _ (List.mem_of_getElem? hm)
  have yl : ys.length = es.length := by have := el2.1; simpa using this
  refine ⟨l, ys, v, rfl, rfl, hl2, Nat.lt_of_le_of_lt (by rw [yl]; exact hz) (by decide), ?_⟩
  have A2 : At K env b ms nil' (other H2) Gs σ G2 H2 := at_of e2 (A.a.sg.trans s2) g2 j2 d2 A.a.nd
  have A3 := A2.write hm (xs' := ys ++ [v]) (es' := es ++ [.d d]) (by rw [List.map_append]; exact env_app el2 (.cons (slot_d p2) .nil))
  have A4 : AtT K env b ms T Gs σ G2 H2 := ⟨A2, t2, d2⟩
  refine k d G2 _ q2 ⟨at_of A3.env A3.sg A3.gr.gh A3.j d2 A3.nd, tabs_other t2 fun c o z dd => ?_, d2⟩
  rw [upd_ne]
  · exact z
  · intro q
    rw [q, hl2] at z
    cases z
    cases dd
/-- an if whose test has an act told -/
def EtT (K : PySem.W.Frag) (env : List Sl) (b : Option Addr) (ms : Ms) (T : List (Addr × Str)) (tt : TT) (P : Bool → Prop) : Prop :=
  ∀ (σ : L2.St) (G H : Hp), EnvOk K G σ env → Same G H → JB K b ms G H → AllDat G → LamX.Tabs T H → ∀ Q : Bool → Hp → Prop,
    (∀ c G2 H2, EnvOk K G2 σ env → Same G G2 → Same G2 H2 → JB K b ms G2 H2 → AllDat G2 → LamX.Tabs T H2 → P c → Q c H2) → tt σ H Q
theorem qT_when {tt : TT} {Pt : Bool → Prop} (A : AtT K env b ms T Gs σ G H) (h : EtT K env b ms T tt Pt) (h1 : Pt true → ∀ G' H', AtT K env b ms T Gs σ G' H' → tu { D with nx := tz D } σ H') (h2 : Pt false → ∀ G' H', AtT K env b ms T Gs σ G' H' → tz D σ H') : tSeq (tIfS tt tu tNext) tz D σ H := by
  refine h σ G H A.a.env A.a.gr.gh A.a.j A.d A.t _ fun c G2 H2 e2 s2 g2 j2 d2 t2 q2 => ?_
  have A2 : AtT K env b ms T Gs σ G2 H2 := ⟨at_of e2 (A.a.sg.trans s2) g2 j2 d2 A.a.nd, t2, d2⟩
  cases c with
  | true => exact h1 q2 G2 H2 A2
  | false => exact h2 q2 G2 H2 A2
theorem etT_not {tt : TT} {c : Bool} (h : EtT K env b ms T tt (Is c)) : EtT K env b ms T (tNot tt) (Is (!c)) := fun σ G H e s j d t Q k =>
  h σ G H e s j d t _ fun c2 G2 H2 e2 s2 g2 j2 d2 t2 q2 => k _ G2 H2 e2 s2 g2 j2 d2 t2 (by rw [q2])
/-- two equal data, compared and shown -/
def spAlikeD (K : PySem.W.Frag) : Sp := fun vs H Q _ => vs.length = 2 ∧ ∃ (x : PyData) (G : Hp), Same G H ∧ DpAll K G vs [x, x] ∧ (∃ l, x = .list l ∨ x = .tuple l) ∧ Sx x 27000 60 ∧ ∀ G' H', Grow No G H G' H' → Q (.bl true) H'
theorem alike_readD {H : Hp} {vs : List V} {Q : VK} {E : XK} (h : spAlikeD K vs H Q E) {N : List Str} (hN : N.length = 2) :
    tRet (tAndV (tOp (rEqD K) (tVar 0) (tVar 1)) (tOp rEq (tCB (rRepr K) (tCons (tVar 0) tNil)) (tCB (rRepr K) (tCons (tVar 1) tNil)))) { nx := fun _ H' => Q .non H', rt := Q } (L2.start N vs) H := by
  obtain ⟨hl, x, G, sG, da, ⟨l, hx⟩, S, k⟩ := h
  have A := at_pure (N := N) sG da (by omega)
  rw [hN] at A
  have rr : RcP K none [] (rRepr K) [x] (Is (.str x.shown)) :=
    rc_repr (fun v G p => by
      rcases hx with rfl | rfl
      · cases p; exact ⟨_, rfl⟩
      · cases p; exact ⟨_, rfl⟩) S.shw (PyData.hasDict_of_canLay _ S.can) S.dep (S.shown (Nat.le_refl _))
  refine s_ret A (ev_andV (ev_eqD (ev_var rfl) (ev_var rfl) (S.shaped (Nat.le_refl _)) (S.shaped (Nat.le_refl _))) fun _ => ev_eqS (ev_cb (ea_cons (ev_var rfl) ea_nil) rr) (ev_cb (ea_cons (ev_var rfl) ea_nil) rr)) ?_
  intro v d G' H' g j p e
  have e2 : PyData.eqv x x = true := SeqAt.eqv_refl _ S.can
  rw [e2, decide_eq_true rfl] at e
  subst e
  cases p
  exact k G' H' (g.wide fun b z => nomatch z)
theorem ev_alikeD {ta : TA} {x : PyData} (ha : EaP K env b ms ta (Is [x, x])) (hx : ∃ l, x = .list l ∨ x = .tuple l) (sm : Sx x 27000 60) : EvP K env b ms (tCall (spAlikeD K) [] E0 ta) (Is (.bool true)) := fun σ G H e s jb Q k => by
  refine ha σ G H e s jb _ fun vs ds G2 H2 g j p q => ?_
  subst q
  rw [List.append_nil]
  exact ⟨by rw [dpa_len p]; rfl, x, G2, g.gh, p, hx, sm, fun G' H' g2 => k _ _ G' H' (g.trans g2.no) (j.grow g2) (.bl true) rfl⟩
theorem etT_alike {j : Nat} {x : PyData} (h : EvT K env b ms T te (Is x)) (hj : env[j]? = some (.d x)) (hx : ∃ l, x = .list l ∨ x = .tuple l) (sm : Sx x 27000 60) : EtT K env b ms T (tTest (tCall (spAlikeD K) [] E0 (tCons te (tCons (tVar j) tNil)))) (Is true) := fun σ G H e s jb d t Q k => by
  refine h σ G H e s jb d t _ fun v y G2 H2 e2 s2 g2 j2 d2 t2 p2 q2 => ?_
  subst q2
  obtain ⟨w, e3, p3⟩ := e2.get hj
  refine ⟨w, e3, ?_⟩
  unfold tNil
  refine (show spAlikeD K [v, w] H2 (fun x H' => ∃ c, x = V.bl c ∧ Q c H') E0 from ?_)
  refine ⟨rfl, y, G2, g2, .cons p2 (.cons p3 .nil), hx, sm, fun G' H' g3 => ⟨true, rfl, ?_⟩⟩
  refine k true (prune G') H' (env_dat datIn_prune (e2.mono g3.g)) (fun c o z => prune_at (g3.g c o (s2 c o z)) (d c o z)) (fun c o z => g3.gh c o (prune_of z).1) (jb_dat (j2.grow g3) datIn_prune (fun a z => prune_none z) fun c o z _ => z) prune_dat (tabs_other t2 fun c o z _ => g3.keep c o z fun z => z) rfl
end
end Dl
set_option Elab.async false
set_option linter.all false
set_option maxRecDepth 100000
set_option maxHeartbeats 4000000
namespace Dl
open PySem PySem.Spec PyProof.Rows L2
/-! comprehensions of two walks; in of flat and of nested data; the first place in a tuple; all -/
section
variable {K : PySem.W.Frag} {env : List Sl} {b : Option Addr} {ms : Ms} {te ti ta tb : TE} {P Pa Pb : PyData → Prop} {D0 : Ends} {G H : Hp} {σ : L2.St}
/-- a list at D that grows, all else still -/
structure Ac (K : PySem.W.Frag) (b : Option Addr) (ms : Ms) (G1 H1 : Hp) (D : Addr) (m : List PyData) (G2 H2 : Hp) (acc : List V) : Prop where
  g : Grow (Mb b) G1 H1 G2 H2
  j : JB K b ms G2 H2
  f : G2 D = none
  h : H2 D = some (.lst acc)
  d : DpAll K G2 acc m
theorem Ac.go {G1 H1 G2 H2 G3 H3 : Hp} {D : Addr} {m : List PyData} {acc : List V} (A : Ac K b ms G1 H1 D m G2 H2 acc) (hD : ¬ Mb b D) (g : Grow (Mb b) G2 H2 G3 H3) (j : JB K b ms G3 H3) : Ac K b ms G1 H1 D m G3 H3 acc := by
  refine ⟨A.g.trans g, j, ?_, g.keep _ _ A.h hD, dpa_mono g.g _ _ A.d⟩
  cases r : G3 D with
  | none => rfl
  | some o =>
    rcases g.new _ o r with z | z
    · rw [A.f] at z; cases z
    · rw [A.h] at z; cases z
theorem Ac.add {G1 H1 G2 H2 : Hp} {D : Addr} {m : List PyData} {acc : List V} {v : V} {y : PyData} (A : Ac K b ms G1 H1 D m G2 H2 acc) (hD : ¬ Mb b D) (h1 : H1 D = none) (p : Dp K G2 v y) (hm : ∀ q ∈ ms, q.1 ≠ D) : Ac K b ms G1 H1 D (m ++ [y]) G2 (upd H2 D (.lst (acc ++ [v]))) (acc ++ [v]) := by
  refine ⟨⟨A.g.g, fun c o z => ?_, fun c z => ?_, fun c o z n => ?_, A.g.new⟩, ⟨fun c z => ?_, fun q hq => ?_⟩, A.f, upd_same, dpa_app A.d (.cons p .nil)⟩
  · by_cases q : c = D
    · rw [q, A.f] at z; cases z
    · rw [upd_ne q]; exact A.g.gh c o z
  · by_cases q : c = D
    · rw [q, upd_same] at z; cases z
    · rw [upd_ne q] at z; exact A.g.dom c z
  · by_cases q : c = D
    · rw [q, h1] at z; cases z
    · rw [upd_ne q]; exact A.g.keep c o z n
  · obtain ⟨b1, z0, z1, z2, lb, cs, b2, b3⟩ := A.j.bag c z
    exact ⟨b1, z0, z1, z2, lb, cs, by rw [upd_ne (show c ≠ D from fun q => hD (by rw [← q]; exact z))]; exact b2, b3⟩
  · obtain ⟨gx, nb, xs, e1, e2⟩ := A.j.mu q hq
    exact ⟨gx, nb, xs, by rw [upd_ne (hm q hq)]; exact e1, e2⟩
theorem en_lc2 {α β : Type} {enc : α → PyData} {en2 : β → PyData} {L : List α} {M : α → List β} {g : α → β → PyData} {wi wi1 : TI} {tg tg1 : TG} {vs vs1 : List Nat} {f f1 : PyData → List Sl → List Sl}
    (hi : EvI K env b ms wi (Is (L.map enc))) (hg : ∀ a ∈ L, TgP K tg vs (enc a) (f (enc a)))
    (hi1 : ∀ a ∈ L, EvI K (f (enc a) (wipeE env vs)) b ms wi1 (Is ((M a).map en2))) (hg1 : ∀ a ∈ L, ∀ x ∈ M a, TgP K tg1 vs1 (en2 x) (f1 (en2 x)))
    (he : ∀ a ∈ L, ∀ x ∈ M a, EvP K (f1 (en2 x) (wipeE (f (enc a) (wipeE env vs)) vs1)) b ms te (Is (g a x))) (hz : (L.flatMap fun a => (M a).map (g a)).length ≤ 1000) :
    EvN K env b ms (tLc2 wi tg tYes wi1 tg1 tYes te vs vs1) (Is (L.flatMap fun a => (M a).map (g a))) := fun σ G H e s j Q k => hi σ G H e s j _ fun J l G1 H1 gr1 j1 it q1 => by
  subst q1
  obtain ⟨W, Y, wk, hw⟩ := it
  intro D hD
  have hDb : ¬ Mb b D := fun z => by
    obtain ⟨_, _, _, _, _, _, e0, _⟩ := j1.bag D z
    rw [hD] at e0; cases e0
  have hDm : ∀ q ∈ ms, q.1 ≠ D := fun q hq z => by
    obtain ⟨_, _, _, e0, _⟩ := j1.mu q hq
    rw [z, hD] at e0; cases e0
  let R : Nat → List PyData := fun i => (L.take i).flatMap fun a => (M a).map (g a)
  have start : ∃ G2 acc, Ac K b ms G1 H1 D (R 0) G2 (upd H1 D (.lst [])) acc := ⟨G1, [], ⟨Grow.lay0 gr1.gh hD, j1.grow (Grow.lay0 gr1.gh hD), gr1.gh.free hD, upd_same, .nil⟩⟩
  have short : ∀ (i : Nat) (a : α) (p : Nat), L[i]? = some a → p ≤ (M a).length → (R i ++ ((M a).take p).map (g a)).length ≤ 1000 := by
    intro i a p ha hp
    refine Nat.le_trans ?_ hz
    have e1 : L = L.take i ++ a :: L.drop (i + 1) := by
      have h1 := List.getElem?_eq_some_iff.mp ha
      obtain ⟨h2, h3⟩ := h1
      rw [← h3, List.getElem_cons_drop, List.take_append_drop]
    have e2 : (L.flatMap fun a => (M a).map (g a)) = R i ++ ((M a).map (g a) ++ ((L.drop (i + 1)).flatMap fun a => (M a).map (g a))) := by
      conv => lhs; rw [e1]
      rw [List.flatMap_append, List.flatMap_cons]
    rw [e2]
    simp only [List.length_append, List.length_map, List.length_take]
    omega
  refine ⟨fun i n H2 => n = (L.map enc).length - i ∧ i ≤ (L.map enc).length ∧ ∃ G2 acc, Ac K b ms G1 H1 D (R i) G2 H2 acc, ⟨_, rfl, Nat.zero_le _, start⟩, ?_⟩
  rintro i n H2 ⟨rfl, hin, G2, acc, A⟩
  by_cases hlt : i < (L.map enc).length
  · refine .inr ⟨wk.goes i H2 hlt (hw G2 H2 A.g.g A.g.gh).1, fun H' => ∃ G2 acc, Ac K b ms G1 H1 D (R (i + 1)) G2 H' acc, fun H' h' => ⟨(L.map enc).length - (i + 1), by omega, rfl, by omega, h'⟩, fun x H3 y => ?_⟩
    obtain ⟨G3, d, g3, hd, p3⟩ := (hw G2 H2 A.g.g A.g.gh).2 i x H3 hlt (wk.yields i H2 x H3 hlt (hw G2 H2 A.g.g A.g.gh).1 y)
    have A3 := A.go hDb g3.no (A.j.grow g3)
    obtain ⟨a, ha, rfl⟩ : ∃ a, L[i]? = some a ∧ enc a = d := by
      rw [List.getElem?_map] at hd
      cases q : L[i]? with
      | none => rw [q] at hd; cases hd
      | some a => rw [q] at hd; exact ⟨a, rfl, Option.some.inj hd⟩
    have am := List.mem_of_getElem? ha
    have Rn : R (i + 1) = R i ++ (M a).map (g a) := by
      show (L.take (i + 1)).flatMap _ = _
      rw [List.take_add_one, ha, List.flatMap_append]
      simp [R]
    refine hg a am (wipeE env vs) (wipe σ vs) G3 H3 x ((e.mono (gr1.g.trans A3.g.g)).wipe vs) A3.g.gh p3 _ fun σ2 e4 ew => ?_
    refine ⟨by rw [ew, wipe_wipe], ?_⟩
    show wi1 σ2 H3 _
    refine hi1 a am σ2 G3 H3 e4 A3.g.gh A3.j _ fun J1 l1 G4 H4 g4 j4 it1 q4 => ?_
    subst q4
    obtain ⟨W1, Y1, wk1, hw1⟩ := it1
    have A4 := A3.go hDb g4 j4
    refine ⟨fun p n H5 => n = ((M a).map en2).length - p ∧ p ≤ ((M a).map en2).length ∧ ∃ G5 acc5, Ac K b ms G1 H1 D (R i ++ ((M a).take p).map (g a)) G5 H5 acc5 ∧ Same G4 G5, ⟨_, rfl, Nat.zero_le _, G4, acc, by rw [List.take_zero, List.map_nil, List.append_nil]; exact A4, Same.refl _⟩, ?_⟩
    rintro p n H5 ⟨rfl, hp, G5, acc5, A5, s5⟩
    by_cases hlp : p < ((M a).map en2).length
    · refine .inr ⟨wk1.goes p H5 hlp (hw1 G5 H5 s5 A5.g.gh).1, fun H' => ∃ G5 acc5, Ac K b ms G1 H1 D (R i ++ ((M a).take (p + 1)).map (g a)) G5 H' acc5 ∧ Same G4 G5, fun H' h' => ⟨((M a).map en2).length - (p + 1), by omega, rfl, by omega, h'⟩, fun x2 H6 y2 => ?_⟩
      obtain ⟨G6, d6, g6, hd6, p6⟩ := (hw1 G5 H5 s5 A5.g.gh).2 p x2 H6 hlp (wk1.yields p H5 x2 H6 hlp (hw1 G5 H5 s5 A5.g.gh).1 y2)
      have A6 := A5.go hDb g6.no (A5.j.grow g6)
      obtain ⟨c, hc, rfl⟩ : ∃ c, (M a)[p]? = some c ∧ en2 c = d6 := by
        rw [List.getElem?_map] at hd6
        cases q : (M a)[p]? with
        | none => rw [q] at hd6; cases hd6
        | some c => rw [q] at hd6; exact ⟨c, rfl, Option.some.inj hd6⟩
      have cm := List.mem_of_getElem? hc
      refine hg1 a am c cm _ (wipe σ2 vs1) G6 H6 x2 (((e4.mono g4.g).mono (s5.trans g6.g)).wipe vs1) A6.g.gh p6 _ fun σ3 e7 ew7 => ?_
      refine ⟨by rw [ew7, wipe_wipe], ?_⟩
      show te σ3 H6 _
      refine he a am c cm σ3 G6 H6 e7 A6.g.gh A6.j _ fun v y7 G7 H7 g7 j7 p7 q7 => ?_
      subst q7
      have A7 := A6.go hDb g7 j7
      have al : acc5.length ≤ 1000 := by
        rw [dpa_len A5.d]
        exact short i a p ha (by rw [List.length_map] at hp; exact hp)
      refine ⟨acc5, A7.h, Nat.lt_of_le_of_lt al (by decide), G7, acc5 ++ [v], ?_, (s5.trans g6.g).trans g7.g⟩
      rw [List.take_add_one, hc, List.map_append, ← List.append_assoc]
      exact A7.add hDb hD p7 hDm
    · have ep : p = ((M a).map en2).length := by omega
      refine .inl ⟨by rw [ep]; exact wk1.stops H5 (hw1 G5 H5 s5 A5.g.gh).1, G5, acc5, ?_⟩
      have e : (M a).take p = M a := List.take_of_length_le (by rw [List.length_map] at hlp; omega)
      rw [e] at A5
      rw [Rn]
      exact A5
  · have ei : i = (L.map enc).length := by omega
    refine .inl ⟨by rw [ei]; exact wk.stops H2 (hw G2 H2 A.g.g A.g.gh).1, ?_⟩
    have e : R i = L.flatMap fun a => (M a).map (g a) := by
      show (L.take i).flatMap _ = _
      rw [List.take_of_length_le (by rw [List.length_map] at ei; omega)]
    rw [e] at A
    exact k D acc _ G2 H2 (gr1.trans A.g) A.j (gr1.dom _ hD) A.f A.h A.d rfl
end
end Dl
set_option Elab.async false
set_option linter.all false
set_option maxRecDepth 100000
set_option maxHeartbeats 4000000
namespace Dl
open PySem PySem.Spec PyProof.Rows L2
/-- flat values: None, numbers, texts -/
inductive Fl where
  | n | i (z : Int) | s (x : Str)
  deriving DecidableEq
def flD : Fl → PyData
  | .n => .none
  | .i z => .int z
  | .s x => .str x
def flV : Fl → V
  | .n => .non
  | .i z => .int z
  | .s x => .str x
theorem flD_inj : ∀ a c : Fl, flD a = flD c → a = c := by
  intro a c h
  cases a <;> cases c <;> first | rfl | (cases h; rfl) | cases h
section
variable {K : PySem.W.Frag} {env : List Sl} {b : Option Addr} {ms : Ms} {te ti ta tb : TE} {P Pa Pb : PyData → Prop} {G H : Hp} {σ : L2.St}
theorem dp_fl {x : Fl} {v : V} (h : Dp K G v (flD x)) : v = flV x := by
  cases x <;> cases h <;> rfl
theorem dpa_fl : ∀ {l : List Fl} {vs : List V}, DpAll K G vs (l.map flD) → vs = l.map flV
  | [], _, h => by cases h; rfl
  | x :: l, _, h => by
    cases h with
    | cons a t => rw [dp_fl a, dpa_fl t]; rfl
theorem eqV_fl (x y : Fl) : eqV (flV x) (flV y) = decide (x = y) := by
  cases x <;> cases y <;> first
    | rfl
    | (rename_i a c
       have e1 : eqV (flV (.i a)) (flV (.i c)) = decide (a = c) := rfl
       rw [e1]
       by_cases h : a = c
       · subst h; simp
       · have : ¬ Fl.i a = Fl.i c := fun z => h (by injection z)
         simp [h])
    | (rename_i a c
       have e1 : eqV (flV (.s a)) (flV (.s c)) = decide (a = c) := rfl
       rw [e1]
       by_cases h : a = c
       · subst h; simp
       · have : ¬ Fl.s a = Fl.s c := fun z => h (by injection z)
         simp [h])
theorem inV_fl {x : Fl} : ∀ l : List Fl, inV (flV x) (l.map flV) = decide (x ∈ l)
  | [] => by simp [inV]
  | y :: l => by
    have ih := inV_fl (x := x) l
    unfold inV at ih ⊢
    rw [List.map_cons, List.any_cons, ih, eqV_fl]
    by_cases h : y = x
    · subst h; simp
    · have h' : ¬ x = y := fun z => h z.symm
      simp [h, h']
/-- x in a list or tuple of flat values, or not in it -/
theorem ev_inF {neg : Bool} {x : Fl} {d y : PyData} {l : List Fl} (ha : EvP K env b ms ta (Is y)) (hb : EvP K env b ms tb (Is d)) (hy : y = flD x) (sd : Sqd d (l.map flD)) :
    EvP K env b ms (tOp (rIn K neg) ta tb) (Is (.bool (if neg then !decide (x ∈ l) else decide (x ∈ l)))) :=
  ev_op ha hb fun d1 d2 e1 e2 => by
    rw [e1, e2, hy]
    intro v w G H p1 p2 s jb Q k
    rw [dp_fl p1]
    obtain ⟨k1, a, xs, rfl, s1, da⟩ := dp_sqB p2 sd
    rw [dpa_fl da] at s1
    refine ⟨a, l.map flV, rfl, sqB_or (sqB_mono s s1), by cases x <;> rfl, ?_, ?_⟩
    · rw [List.all_eq_true]
      intro z hz
      obtain ⟨u, _, rfl⟩ := List.mem_map.mp hz
      cases u <;> rfl
    · rw [inV_fl]
      exact k _ _ G H (Grow.refl s) jb (.bl _) rfl
/-- nested data not in a tuple -/
def rNotInT (K : PySem.W.Frag) : R2 := fun x y H Q => ∃ (d : PyData) (ds : List PyData), Dp K H x d ∧ Dp K H y (.tuple ds) ∧ SeqAt.shaped d = true ∧ SeqAt.shaped (.tuple ds) = true ∧ Q (.bl (!ds.any fun z => PyData.eqv z d)) H
theorem op_notInT {X : Cx} (hu : X.A.units + 65 < cLine) : OpR X (compareOp .NotIn) (rNotInT X.K) := by
  intro pins s τ H x y v u Q I rx ry ⟨d, ds, h1, h2, s1, s2, q⟩
  obtain ⟨_, r1⟩ := Dp.reads I d x v h1 rx
  obtain ⟨_, r2⟩ := Dp.reads I (.tuple ds) y u h2 ry
  have c2 : PyData.canLayAll0 ds = true := SeqAt.canLay_of_shaped (d := .tuple ds) s2
  exact SeqAt.notIn_tuple_reads r2 r1 c2 (SeqAt.canLay_of_shaped s1) (room_in_shaped s1 hu) ⟨.bl _, H, I, rfl, q⟩
theorem ev_notInT {d : PyData} {ds : List PyData} (ha : EvP K env b ms ta (Is d)) (hb : EvP K env b ms tb (Is (.tuple ds))) (s1 : SeqAt.shaped d = true) (s2 : SeqAt.shaped (.tuple ds) = true) :
    EvP K env b ms (tOp (rNotInT K) ta tb) (Is (.bool (!ds.any fun z => PyData.eqv z d))) := ev_op ha hb fun d1 d2 e1 e2 => by
  rw [e1, e2]
  exact fun v w G H p1 p2 s jb Q k => ⟨d, ds, dp_mono s _ _ p1, dp_mono s _ _ p2, s1, s2, k _ _ G H (Grow.refl s) jb (.bl _) rfl⟩
/-- all(a list of truths) -/
theorem rc_all {bs : List Bool} : RcP K b ms (rAll K) [.list (bs.map .bool)] (Is (.bool (bs.all id))) := fun xs G H da s jb Q k => by
  cases da with
  | cons p t =>
    cases t
    cases p with
    | lst sq d =>
      rename_i a ys
      have e : ∀ {bs : List Bool} {ys : List V}, DpAll K G ys (bs.map .bool) → ys = bs.map V.bl := by
        intro bs
        induction bs with
        | nil => intro ys h; cases h; rfl
        | cons c bs ih =>
          intro ys h
          cases h with
          | cons p t => cases p; rw [ih t]; rfl
      rw [e d] at sq
      exact ⟨a, bs, rfl, s.seq sq, k _ _ G H (Grow.refl s) jb (.bl _) rfl⟩
/-- a value of which something is known -/
def EvU (K : PySem.W.Frag) (env : List Sl) (b : Option Addr) (ms : Ms) (te : TE) (R : Hp → V → Prop) : Prop :=
  ∀ (σ : L2.St) (G H : Hp), EnvOk K G σ env → Same G H → JB K b ms G H → ∀ Q : VK, (∀ v G2 H2, Grow (Mb b) G H G2 H2 → JB K b ms G2 H2 → Up R G2 v → Q v H2) → te σ H Q
theorem evu_var {i : Nat} {R : Hp → V → Prop} (h : env[i]? = some (.r R)) : EvU K env b ms (tVar i) R := fun σ G H e s j Q k => by
  obtain ⟨s0, e1, v, rfl, e2⟩ := e.2 i _ h
  exact ⟨v, e1, k v G H (Grow.refl s) j e2⟩
theorem ev_ofU {R : Hp → V → Prop} (h : EvU K env b ms te R) (hd : ∀ G v, R G v → ∃ d, Dp K G v d ∧ P d) : EvP K env b ms te P := fun σ G H e s j Q k =>
  h σ G H e s j Q fun v G2 H2 g j2 u => by
    obtain ⟨d, p, q⟩ := hd G2 v u.now
    exact k v d G2 H2 g j2 p q
/-- a tuple that is known whole: its object has no dict -/
def Tn (cs : List V) (G : Hp) (v : V) : Prop := ∃ (a : Addr) (o : Obj), v = .ref a ∧ G a = some (.frz o (.tup cs)) ∧ o.cls = .type "tuple" ∧ o.dict = none
theorem Tn.up {cs : List V} {G : Hp} {v : V} (h : Tn cs G v) : Up (Tn cs) G v := fun G2 e => by
  obtain ⟨a, o, e1, e2, e3⟩ := h
  exact ⟨a, o, e1, e _ _ e2 rfl, e3⟩
theorem vals_str {G : Hp} : ∀ {ys : List Str} {xs : List V}, DpAll K G xs (sTs ys) → xs = ys.map V.str
  | [], _, h => by cases h; rfl
  | c :: ys, _, h => by
    cases h with
    | cons p t => cases p; rw [vals_str t]; rfl
theorem str_vals {G : Hp} : ∀ ys : List Str, DpAll K G (ys.map V.str) (sTs ys)
  | [] => .nil
  | c :: ys => .cons (.str c) (str_vals ys)
theorem Tn.dp {ys : List Str} {G : Hp} {v : V} (h : Tn (ys.map V.str) G v) : Dp K G v (.tuple (sTs ys)) := by
  obtain ⟨a, o, rfl, e, _⟩ := h
  exact .tup (.inl (.inr ⟨o, e⟩)) (str_vals ys)
end
/-- tuple(l): the new tuple's object has no dict -/
def rTupF (K : PySem.W.Frag) : List V → Hp → VK → Prop := fun xs H Q => ∃ (p : Addr) (ys : List V), xs = [.ref p] ∧ SqL K H p ys ∧ ∀ (l : Addr) (o : Obj), H l = none → o.cls = .type "tuple" → o.dict = none → Q (.ref l) (upd H l (.frz o (.tup ys)))
theorem call_tupF {X : Cx} : CallR X (.type "tuple") (rTupF X.K) := by
  intro pins s τ H xs us Q I r ⟨p, ys, e, hq, q⟩
  subst e
  obtain ⟨u, rfl, rx⟩ := vals1 r
  cases rx
  obtain ⟨its, r2, pl, hz⟩ := I.list hq
  have hl := r2.length
  refine call_tuple_list pl.isList (fun h2 kp => ?_) (by simp only [List.size_toArray] <;> omega)
  have J : Inv X pins τ H { s with heap := h2 } := I.kept (t' := s.toks) kp
  let o : Obj := { cls := .type "tuple", data := .seq its.toArray }
  have J2 : Inv X pins τ (upd H h2.objs.size (.frz o (.tup ys))) { s with heap := h2.push o } :=
    J.laid (t' := s.toks) (fun b u e => Heap.get?_push_of_some _ e) (Nat.le_refl _) (show ObjOk X.prog X.w _ _ _ (.frz o (.tup ys)) from ⟨Heap.get?_push_size _ rfl, hz, its, r2, IsTup.new _ _⟩)
  exact ⟨.ref h2.objs.size, _, J2, rfl, q _ o (J.hok.fresh (Nat.le_refl _)) rfl rfl⟩
/-- a method of such an object -/
def tBMF (T : String) (r : V → List V → Hp → VK → Prop) (to : TE) (t : TA) : TE := fun σ H Q => to σ H fun x H1 => (∃ (p : Addr) (o : Obj) (u : HO), x = .ref p ∧ H1 p = some (.frz o u) ∧ o.cls = .type T ∧ o.dict = none) ∧ t σ H1 fun xs H2 => r x xs H2 Q
theorem pe_bmF {X : Cx} {o e : Expr} {es : List Expr} {to : TE} {t : TA} {name : Str} {apos cpos : Pos} {T id : String} {r : V → List V → Hp → VK → Prop} (pa : PlainAttrs T) (slot : Slot T name id) (hty : typeOf (.builtin id) = pure (.type "method_descriptor")) (hm : MtR X id r) (ho : PE X o to) (ha : PA X (e :: es) t)
    (h1 : attributeBase o name X.env (eval o X.env) = eval o X.env := by rfl)
    (h2 : ((backTo cpos (starEach (e :: es) X.env)).all (fun x => !x.1) && (backToKw cpos (keywordEach [] X.env)).all (fun x => x.1.isSome) && decide ((e :: es).length + ([] : List Keyword).length + (if ([] : List Keyword).isEmpty then 0 else 1) < 30)) = true := by rfl)
    (h3 : (apos.endLine == cpos.line) = true := by rfl) (h4 : starEach (e :: es) X.env = (false, eval e X.env) :: starEach es X.env := by rfl) (h5 : (backTo cpos (starEach es X.env)).any (·.1) = false := by rfl) :
    PE X (.Call (.Attribute o name apos) (e :: es) [] cpos) (tBMF T r to t) := by
  refine ⟨fun pins s τ H Q I h => wpAny_Call_method_late h1 h2 h3 rfl (thn (ho.run pins s τ H _ I h) fun v s1 ⟨x, H1, I1, r1, ⟨p, ob, u, ex, ep, ec, ed⟩, q1⟩ => ?_)⟩
  subst ex
  cases r1
  obtain ⟨hp, _⟩ : s1.heap.get? p = some ob ∧ _ := I1.hok p _ ep
  refine ⟨T, id, pa, slot, hty, ⟨ob, hp, ec⟩, fun a e2 => by cases e2; exact ⟨ob, hp, ed⟩, ?_⟩
  have hA := ha.run cpos pins s1 τ H1 _ I1 q1
  rw [h4] at hA ⊢
  refine Calls.callWith_builtin (by show (false || (backTo cpos (starEach es X.env)).any (·.1)) = false; rw [h5] <;> rfl) (Calls.evalArgs_plain (thn hA fun us s2 ⟨vs, H2, I2, r2, q2⟩ => hm pins s2 τ H2 (.ref p) vs _ us Q I2 rfl r2 q2))
def rTIx (K : PySem.W.Frag) : V → List V → Hp → VK → Prop := fun x xs H Q => ∃ p, ∃ ys : List Str, ∃ z j, x = .ref p ∧ xs = [.str z] ∧ SqT K H p (ys.map V.str) ∧ ys[j]? = some z ∧ (∀ m, m < j → ys[m]? ≠ some z) ∧ Q (.int (j : Nat)) H
section
variable {K : PySem.W.Frag} {env : List Sl} {b : Option Addr} {ms : Ms} {te ti ta tb : TE} {P Pa Pb : PyData → Prop} {G H : Hp} {σ : L2.St}
/-- t.index(x), t a tuple of texts -/
theorem ev_tIdx {ys : List Str} {z : Str} (ha : EvU K env b ms ta (Tn (ys.map V.str))) (hb : EvP K env b ms tb (Is (.str z))) (hz : z ∈ ys) : EvP K env b ms (tBMF "tuple" (rTIx K) ta (tCons tb tNil)) (Is (.int (ys.idxOf z : Nat))) := fun σ G H e s j Q k =>
  ha σ G H e s j _ fun v G1 H1 g1 j1 u1 => by
    obtain ⟨a, o, rfl, e1, e2, e3⟩ := u1.now
    refine ⟨⟨a, o, _, rfl, g1.gh _ _ e1, e2, e3⟩, hb σ G1 H1 (e.mono g1.g) g1.gh j1 _ fun w d2 G2 H2 g2 j2 p2 q2 => ?_⟩
    subst q2
    cases p2
    have lt := List.idxOf_lt_length_iff.mpr hz
    refine ⟨a, ys, z, ys.idxOf z, rfl, rfl, .inl (.inr ⟨o, g2.gh _ _ (g2.g _ _ e1)⟩), ?_, fun m hm q => ?_, k _ _ G2 H2 (g1.trans g2) j2 (.int _) rfl⟩
    · rw [List.getElem?_eq_getElem lt, List.getElem_idxOf lt]
    · have hm2 : m < ys.length := Nat.lt_trans hm lt
      rw [List.getElem?_eq_getElem hm2] at q
      have := List.not_of_lt_findIdx (p := fun x => x == z) (xs := ys) (i := m) hm
      simp at this
      exact this (Option.some.inj q)
/-- x = a value of which something is known -/
theorem q_asgU {D : Ends} {tz : TS} {i : Nat} {R : Hp → V → Prop} {G0 H0 Gs : Hp} (A : At K env b ms G0 H0 Gs σ G H) (h : EvU K env b ms te R) (k : ∀ σ' G' H', At K (env.set i (.r R)) b ms G0 H0 Gs σ' G' H' → tz D σ' H') : tSeq (tAsg te (gName i)) tz D σ H :=
  h σ G H A.env A.gr.gh A.j _ fun v G2 H2 g j u => k _ G2 H2 ((A.step g j).put (e := .r R) ⟨v, rfl, u⟩)
/-- tuple(a new list of texts), kept whole -/
theorem evu_tupF {Q : List Str → Prop} {Pr : List PyData → Prop} (h : EvN K env b ms te Pr) (hs : ∀ l, Pr l → ∃ cs, l = sTs cs ∧ Q cs) : EvU K env b ms (tCB (rTupF K) (tCons te tNil)) (fun G v => ∃ cs : List Str, Q cs ∧ Tn (cs.map V.str) G v) := fun σ G H e s j k0 k =>
  h σ G H e s j _ fun p xs ds G1 H1 g1 j1 n f hp da q => by
    obtain ⟨cs, rfl, qc⟩ := hs ds q
    rw [vals_str da] at hp
    refine ⟨p, cs.map V.str, rfl, SqL.of hp, fun l o hl hc hd => ?_⟩
    have g2 : Grow No G1 H1 (upd G1 l (.frz o (.tup (cs.map V.str)))) (upd H1 l (.frz o (.tup (cs.map V.str)))) := Grow.lay g1.gh hl
    exact k _ _ _ (g1.trans g2.no) (j1.grow g2) fun G3 e3 => ⟨cs, qc, Tn.up ⟨l, o, rfl, upd_same, hc, hd⟩ G3 e3⟩
end
end Dl
set_option Elab.async false
set_option linter.all false
set_option maxRecDepth 100000
set_option maxHeartbeats 4000000
namespace Dl
open PySem PySem.Spec PyProof.Rows L2
/-- _law_heard(lambda: ..) -/
theorem pe_heard {X : Cx} {k : Nat} {st : Stmt} {g c T0 : Addr} {fd : FuncData} {TT : (XK → Hp → VK → Prop) → Hp → VK → Prop} {params : Arguments} {body : Expr} {scope : Scope} {t : XK → TE} {p lpos pos : Pos}
    (D : Dc X.K X.mg "_law_heard" st ["act"] g fd) (S : FnScope ["act", "error"] ["act"] (defScope st)) (hG : ∀ cdv, LamX.GivesTo X ["act", "error"] "_law_heard" (defScope st) g cdv (defBody st) "act" (X.env.qual ++ "<lambda>") TT)
    (TB : LamX.TabB X.base X.mg c T0) (hcode : X.env.code = .ref c) (hg : Gl X "_law_heard") (hva : Vis (defScope st) "act") (hr : Room (k + 2) X.A) (L : LamX.LamS X.env.scope scope) (hdef : defaultsOf params X.env = ([], []))
    (hbind : ∀ (q : Str) (cl : List (Str × Addr)) (pm cv ctv : Value), bindArgs (PySem.W.kla_fn "<lambda>" q params body scope cl pm cv ctv) ⟨[], []⟩ = pure [])
    (hbody : ∀ (A : Around) (outer : List Env) (s : Shared) (H : Hp) (E : XK) (f c' : Addr), Room k (A.deeper (LamX.lamEnv X scope s.heap.objs.size f c')) → PE (LamX.lamCx X A outer s H E scope f c') body (t E)) :
    PE X (.Call (.Name "_law_heard" p) [.Lambda params body scope lpos] [] pos) (LamX.tLam [(T0, X.env.qual ++ "<lambda>")] TT t) := by
  obtain ⟨oc, od, kV, doc, pm, an, cdv, ct, osl, e, lk, hcd⟩ := D.fn.ex
  have bd := D.bd
  rw [e] at lk bd
  exact LamX.pe_lamcall (T := [(T0, X.env.qual ++ "<lambda>")]) (k := k) hg D.mg D.fn.kp lk hcd bd S rfl hva (hG cdv) TB hcode (by simp) (fun p hp _ => by
    have := List.mem_singleton.mp hp
    rw [this]) hr L hdef hbind hbody
/-- a frame: a tuple of four whose cells are known whole -/
def FrR (K : PySem.W.Frag) (cs : List Str) (gs : List (List Str)) (fs : List Str) (w : Str) (G : Hp) (v : V) : Prop := ∃ (a : Addr) (x y z u : V), v = .ref a ∧ SqT K G a [x, y, z, u] ∧ Tn (cs.map V.str) G x ∧ Dp K G y (.tuple (gs.map fun g => .tuple (sTs g))) ∧ Dp K G z (.tuple (sTs fs)) ∧ Dp K G u (.str w)
section
variable {K : PySem.W.Frag} {cs : List Str} {gs : List (List Str)} {fs : List Str} {w : Str} {G G2 : Hp} {v : V}
theorem tn_dat {cs : List V} (h : Tn cs G v) (e : DatIn G G2) : Tn cs G2 v := h.up G2 e
theorem FrR.up (h : FrR K cs gs fs w G v) : Up (FrR K cs gs fs w) G v := fun G2 e => by
  obtain ⟨a, x, y, z, u, rfl, s, h1, h2, h3, h4⟩ := h
  exact ⟨a, x, y, z, u, rfl, sqt_dat e s, tn_dat h1 e, dp_dat e _ _ h2, dp_dat e _ _ h3, dp_dat e _ _ h4⟩
theorem FrR.dp (h : FrR K cs gs fs w G v) : Dp K G v (frTp cs gs fs w) := by
  obtain ⟨a, x, y, z, u, rfl, s, h1, h2, h3, h4⟩ := h
  exact .tup s (.cons h1.dp (.cons h2 (.cons h3 (.cons h4 .nil))))
/-- a book: a frame and rules -/
def BkR (K : PySem.W.Frag) (cs : List Str) (gs : List (List Str)) (fs : List Str) (w : Str) (rs : List Rl) (G : Hp) (v : V) : Prop := ∃ (a : Addr) (x y : V), v = .ref a ∧ SqT K G a [x, y] ∧ FrR K cs gs fs w G x ∧ Dp K G y (.tuple (rs.map ruD))
theorem BkR.up {rs : List Rl} (h : BkR K cs gs fs w rs G v) : Up (BkR K cs gs fs w rs) G v := fun G2 e => by
  obtain ⟨a, x, y, rfl, s, h1, h2⟩ := h
  exact ⟨a, x, y, rfl, sqt_dat e s, h1.up G2 e, dp_dat e _ _ h2⟩
theorem BkR.dp {rs : List Rl} (h : BkR K cs gs fs w rs G v) : Dp K G v (bkD (frTp cs gs fs w) rs) := by
  obtain ⟨a, x, y, rfl, s, h1, h2⟩ := h
  exact .tup s (.cons h1.dp (.cons h2 .nil))
end
/-- a def of a value of which something is known, its first argument, and of data -/
def spV (K : PySem.W.Frag) {α : Type} (n : Nat) (F : α → Hp → V → Prop) (dom : α → List PyData → Prop) (R : α → List PyData → PyData → Prop) : Sp := fun vs H Q _ => ∃ (v : V) (ws : List V), vs = v :: ws ∧ ws.length = n ∧ ∃ (x : α) (ds : List PyData) (G : Hp), Same G H ∧ Up (F x) G v ∧ DpAll K G ws ds ∧ dom x ds ∧
  ∀ u d G' H', Grow No G H G' H' → Dp K G' u d → R x ds d → Q u H'
theorem spV_len {K : PySem.W.Frag} {α : Type} {n : Nat} {F : α → Hp → V → Prop} {dom : α → List PyData → Prop} {R : α → List PyData → PyData → Prop} {vs : List V} {H : Hp} {Q : VK} {E : XK} (h : spV K n F dom R vs H Q E) : vs.length = n + 1 := by
  obtain ⟨v, ws, rfl, e, _⟩ := h
  simp [e]
section
variable {K : PySem.W.Frag} {env : List Sl} {b : Option Addr} {ms : Ms} {te ti ta tb : TE} {P Pa Pb : PyData → Prop} {G H : Hp} {σ : L2.St}
theorem ev_callV2 {α : Type} {n : Nat} {F : α → Hp → V → Prop} {dom : α → List PyData → Prop} {R : α → List PyData → PyData → Prop} {t : TA} {Pl : List PyData → Prop} (x : α) (h : EvU K env b ms te (F x)) (ha : EaP K env b ms t Pl) (hd : ∀ ds, Pl ds → ds.length = n ∧ dom x ds) :
    EvP K env b ms (tCall (spV K n F dom R) [] E0 (tCons te t)) (fun d => ∃ ds, Pl ds ∧ R x ds d) := fun σ G H e s j Q k =>
  h σ G H e s j _ fun v G1 H1 g1 j1 u1 => ha σ G1 H1 (e.mono g1.g) g1.gh j1 _ fun vs ds G2 H2 g2 j2 p2 q2 => by
    obtain ⟨h1, h2⟩ := hd ds q2
    rw [List.append_nil]
    exact ⟨v, vs, rfl, by rw [dpa_len p2]; exact h1, x, ds, G2, g2.gh, u1.dat (Same.dat g2.g), p2, h2, fun u d G3 H3 g3 p3 r3 => k u d G3 H3 ((g1.trans g2).trans g3.no) (j2.grow g3) p3 ⟨ds, q2, r3⟩⟩
/-- f[0] of a frame: its cells -/
theorem evu_cells {cs : List Str} {gs : List (List Str)} {fs : List Str} {w : Str} (h : EvU K env b ms te (FrR K cs gs fs w)) : EvU K env b ms (tOp (rIxT K) te (tC (.int 0))) (Tn (cs.map V.str)) := fun σ G H e s j Q k =>
  h σ G H e s j _ fun v G1 H1 g1 j1 u1 => by
    obtain ⟨a, x, y, z, u, rfl, sq, h1, _⟩ := u1.now
    exact ⟨a, _, 0, x, rfl, rfl, sqt_mono g1.gh sq, rfl, k x G1 H1 g1 j1 h1.up⟩
/-- b[0] of a book: its frame -/
theorem evu_frame {cs : List Str} {gs : List (List Str)} {fs : List Str} {w : Str} {rs : List Rl} (h : EvU K env b ms te (BkR K cs gs fs w rs)) : EvU K env b ms (tOp (rIxT K) te (tC (.int 0))) (FrR K cs gs fs w) := fun σ G H e s j Q k =>
  h σ G H e s j _ fun v G1 H1 g1 j1 u1 => by
    obtain ⟨a, x, y, rfl, sq, h1, _⟩ := u1.now
    exact ⟨a, _, 0, x, rfl, rfl, sqt_mono g1.gh sq, rfl, k x G1 H1 g1 j1 h1.up⟩
/-- (cells, data, data, data): a frame -/
theorem evu_mkFrame {cs : List Str} {gs : List (List Str)} {fs : List Str} {w : Str} {t : TA} (h : EvU K env b ms te (Tn (cs.map V.str))) (ha : EaP K env b ms t (Is [.tuple (gs.map fun g => .tuple (sTs g)), .tuple (sTs fs), .str w])) :
    EvU K env b ms (tTup (tCons te t)) (FrR K cs gs fs w) := fun σ G H e s j Q k =>
  h σ G H e s j _ fun v G1 H1 g1 j1 u1 => ha σ G1 H1 (e.mono g1.g) g1.gh j1 _ fun vs ds G2 H2 g2 j2 p2 q2 => by
    subst q2
    cases p2 with
    | cons p t => cases t with
      | cons p' t => cases t with
        | cons p'' t =>
          cases t
          rename_i w1 w2 w3
          refine ⟨by show 4 ≤ sizeLine; decide, fun l hl => ?_⟩
          have g3 : Grow No G2 H2 (upd G2 l (.tup [v, w1, w2, w3])) (upd H2 l (.tup [v, w1, w2, w3])) := Grow.lay g2.gh hl
          refine k _ _ _ ((g1.trans g2).trans g3.no) (j2.grow g3) (FrR.up ⟨l, v, _, _, _, rfl, SqT.of upd_same, (u1.dat (Same.dat (g2.g.trans g3.g))).now, dp_mono g3.g _ _ p, dp_mono g3.g _ _ p', dp_mono g3.g _ _ p''⟩)
/-- (frame, rules): a book -/
theorem evu_mkBook {cs : List Str} {gs : List (List Str)} {fs : List Str} {w : Str} {rs : List Rl} (h : EvU K env b ms ta (FrR K cs gs fs w)) (hb : EvP K env b ms tb (Is (.tuple (rs.map ruD)))) :
    EvU K env b ms (tTup (tCons ta (tCons tb tNil))) (BkR K cs gs fs w rs) := fun σ G H e s j Q k =>
  h σ G H e s j _ fun v G1 H1 g1 j1 u1 => hb σ G1 H1 (e.mono g1.g) g1.gh j1 _ fun x d G2 H2 g2 j2 p2 q2 => by
    subst q2
    refine ⟨two_ok, fun l hl => ?_⟩
    have g3 : Grow No G2 H2 (upd G2 l (.tup [v, x])) (upd H2 l (.tup [v, x])) := Grow.lay g2.gh hl
    exact k _ _ _ ((g1.trans g2).trans g3.no) (j2.grow g3) (BkR.up ⟨l, v, x, rfl, SqT.of upd_same, (u1.dat (Same.dat (g2.g.trans g3.g))).now, dp_mono g3.g _ _ p2⟩)
end
end Dl
set_option Elab.async false
set_option linter.all false
set_option maxRecDepth 100000
set_option maxHeartbeats 4000000
namespace Dl
open PySem L2
/-! merges of stands, by places -/
def Cq (p : Int × Int) : Prop := 0 < p.2 ∧ Nat.gcd p.1.natAbs p.2.natAbs = 1
def subQ (p q : Int × Int) : Int × Int := (frN (p.1 * q.2 - q.1 * p.2) (p.2 * q.2), frD (p.1 * q.2 - q.1 * p.2) (p.2 * q.2))
def addQ (p q : Int × Int) : Int × Int := (frN (p.1 * q.2 + q.1 * p.2) (p.2 * q.2), frD (p.1 * q.2 + q.1 * p.2) (p.2 * q.2))
theorem cq_fr {n d : Int} (h : d ≠ 0) : Cq (frN n d, frD n d) := ⟨frD_pos h, fr_cop n d h⟩
theorem cq_eq {p q : Int × Int} (hp : Cq p) (hq : Cq q) (h : p.1 * q.2 = q.1 * p.2) : p = q := by
  have e : fr p.1 p.2 = fr q.1 q.2 := fr_eq (by have := hp.1; omega) (by have := hq.1; omega) h
  rw [fr_self hp.1 hp.2, fr_self hq.1 hq.2] at e
  obtain ⟨h1, h2⟩ := frD_inj (show FrD p.1 p.2 = FrD q.1 q.2 from e)
  exact Prod.ext h1 h2
theorem mul_ne {p q : Int × Int} (hp : Cq p) (hq : Cq q) : p.2 * q.2 ≠ 0 := Int.mul_ne_zero (by have := hp.1; omega) (by have := hq.1; omega)
theorem subQ_cq {p q : Int × Int} (hp : Cq p) (hq : Cq q) : Cq (subQ p q) := cq_fr (mul_ne hp hq)
theorem addQ_cq {p q : Int × Int} (hp : Cq p) (hq : Cq q) : Cq (addQ p q) := cq_fr (mul_ne hp hq)
theorem addQ_comm (p q : Int × Int) : addQ p q = addQ q p := by
  unfold addQ
  rw [Int.mul_comm p.2 q.2, Int.add_comm (p.1 * q.2) (q.1 * p.2)]
theorem subQ_zero {p q : Int × Int} (hp : Cq p) (hq : Cq q) : (subQ p q).1 = 0 ↔ p = q := by
  have hn := mul_ne hp hq
  have c := fr_cross (p.1 * q.2 - q.1 * p.2) (p.2 * q.2) hn
  have d0 := frD_pos (n := p.1 * q.2 - q.1 * p.2) hn
  constructor
  · intro h
    have h : frN (p.1 * q.2 - q.1 * p.2) (p.2 * q.2) = 0 := h
    rw [h, Int.zero_mul] at c
    have h2 : p.1 * q.2 - q.1 * p.2 = 0 := by
      rcases Int.mul_eq_zero.mp c.symm with z | z
      · exact z
      · omega
    exact cq_eq hp hq (by omega)
  · intro h
    subst h
    show frN (p.1 * p.2 - p.1 * p.2) (p.2 * p.2) = 0
    rw [Int.sub_self] at c ⊢
    rw [Int.zero_mul] at c
    rcases Int.mul_eq_zero.mp c with z | z
    · exact z
    · exact absurd z hn
theorem sub_addQ {b y : Int × Int} (hb : Cq b) (hy : Cq y) : subQ (addQ b y) b = y := by
  have hn := mul_ne hb hy
  have c := fr_cross (b.1 * y.2 + y.1 * b.2) (b.2 * y.2) hn
  have ha := addQ_cq hb hy
  have e : fr ((addQ b y).1 * b.2 - b.1 * (addQ b y).2) ((addQ b y).2 * b.2) = fr y.1 y.2 := by
    refine fr_eq (mul_ne ha hb) (by have := hy.1; omega) ?_
    show (frN (b.1 * y.2 + y.1 * b.2) (b.2 * y.2) * b.2 - b.1 * frD (b.1 * y.2 + y.1 * b.2) (b.2 * y.2)) * y.2 = y.1 * (frD (b.1 * y.2 + y.1 * b.2) (b.2 * y.2) * b.2)
    generalize frN (b.1 * y.2 + y.1 * b.2) (b.2 * y.2) = N at *
    generalize frD (b.1 * y.2 + y.1 * b.2) (b.2 * y.2) = D at *
    have e1 : (N * b.2 - b.1 * D) * y.2 = N * (b.2 * y.2) - b.1 * y.2 * D := by
      rw [Int.sub_mul, Int.mul_assoc, Int.mul_right_comm b.1 D y.2]
    have e2 : y.1 * (D * b.2) = y.1 * b.2 * D := by rw [Int.mul_comm D b.2, ← Int.mul_assoc]
    rw [e1, c, e2, Int.add_mul]
    omega
  rw [fr_self hy.1 hy.2] at e
  obtain ⟨h1, h2⟩ := frD_inj (show FrD _ _ = FrD y.1 y.2 from e)
  exact Prod.ext h1 h2
theorem subQ_addQ' {b m : Int × Int} (hb : Cq b) (hm : Cq m) : subQ (addQ m b) b = m := by rw [addQ_comm, sub_addQ hb hm]
/-- the item of a stand -/
def atZ (zs : Qs) (p : Nat) : Int × Int := zs.getD p (0, 1)
theorem cq0 : Cq (0, 1) := ⟨by decide, by decide⟩
theorem atZ_cq {zs : Qs} (h : ∀ z ∈ zs, Cq z) (p : Nat) : Cq (atZ zs p) := by
  unfold atZ
  rw [List.getD_eq_getElem?_getD]
  cases q : zs[p]? with
  | none => exact cq0
  | some z => exact h z (List.mem_of_getElem? q)
def subS (zs ys : Qs) : Qs := (zs.zip ys).map fun p => subQ p.1 p.2
theorem subS_len {zs ys : Qs} (h : zs.length = ys.length) : (subS zs ys).length = zs.length := by
  unfold subS
  rw [List.length_map, List.length_zip]
  omega
theorem subS_at {zs ys : Qs} (h : zs.length = ys.length) {p : Nat} (hp : p < zs.length) : atZ (subS zs ys) p = subQ (atZ zs p) (atZ ys p) := by
  have h2 : p < ys.length := by omega
  have e : (zs.zip ys)[p]? = some (zs[p], ys[p]) := List.getElem?_zip_eq_some.mpr ⟨List.getElem?_eq_getElem hp, List.getElem?_eq_getElem h2⟩
  unfold atZ subS
  rw [List.getD_eq_getElem?_getD, List.getD_eq_getElem?_getD, List.getD_eq_getElem?_getD, List.getElem?_map, e, List.getElem?_eq_getElem hp, List.getElem?_eq_getElem h2]
  rfl
/-- the groups that a vector touches -/
def mvd (zs : Qs) (p : Nat) : Bool := decide ((atZ zs p).1 ≠ 0)
def tch (cs : List Str) (gs : List (List Str)) (zs : Qs) : List Nat := (List.range gs.length).filter fun i => (gs.getD i []).any fun c => mvd zs (cs.idxOf c)
def lik (cs : List Str) (g : List Str) (m y : Qs) : Bool := g.all fun c => decide (atZ m (cs.idxOf c) = atZ y (cs.idxOf c))
def cla (cs : List Str) (gs : List (List Str)) (w : Str) (b m y : Qs) : List Nat := (List.range gs.length).filter fun i => decide (i ∈ tch cs gs (subS m b)) && decide (i ∈ tch cs gs (subS y b)) && (decide (w = "strict") || !lik cs (gs.getD i []) m y)
def grp (gs : List (List Str)) (c : Str) : Option Nat := gs.findIdx? fun g => decide (c ∈ g)
def mrg (cs : List Str) (gs : List (List Str)) (b m y : Qs) : Qs := (List.range cs.length).map fun p => match grp gs (cs.getD p "") with
  | none => subQ (addQ (atZ m p) (atZ y p)) (atZ b p)
  | some i => if i ∈ tch cs gs (subS m b) then atZ m p else atZ y p
theorem grp_none {gs : List (List Str)} {c : Str} : grp gs c = none ↔ c ∉ gs.flatten := by
  unfold grp
  rw [List.findIdx?_eq_none_iff]
  constructor
  · intro h hc
    obtain ⟨g, hg, hcg⟩ := List.mem_flatten.mp hc
    have := h g hg
    simp [hcg] at this
  · intro h g hg
    have : c ∉ g := fun hc => h (List.mem_flatten.mpr ⟨g, hg, hc⟩)
    simp [this]
theorem grp_mem {gs : List (List Str)} {c : Str} {i : Nat} (h : grp gs c = some i) : i < gs.length ∧ c ∈ gs.getD i [] := by
  unfold grp at h
  obtain ⟨h1, h2, _⟩ := List.findIdx?_eq_some_iff_getElem.mp h
  refine ⟨h1, ?_⟩
  rw [List.getD_eq_getElem?_getD, List.getElem?_eq_getElem h1]
  exact of_decide_eq_true h2
theorem grp_of {c : Str} : ∀ {gs : List (List Str)} {i : Nat}, gs.flatten.Nodup → i < gs.length → c ∈ gs.getD i [] → grp gs c = some i
  | [], i, _, h, _ => absurd h (Nat.not_lt_zero _)
  | g :: gs, 0, _, _, h => by
    have h : c ∈ g := h
    unfold grp
    rw [List.findIdx?_cons]
    simp [h]
  | g :: gs, i + 1, nd, hi, h => by
    rw [List.flatten_cons, List.nodup_append] at nd
    have h : c ∈ gs.getD i [] := by simpa using h
    have hi : i < gs.length := by simpa using hi
    have hf : c ∈ gs.flatten := by
      rw [List.getD_eq_getElem?_getD, List.getElem?_eq_getElem hi] at h
      exact List.mem_flatten.mpr ⟨_, List.getElem_mem hi, h⟩
    have ng : c ∉ g := fun z => nd.2.2 c z c hf rfl
    have ih := grp_of (c := c) nd.2.1 hi h
    unfold grp at ih ⊢
    rw [List.findIdx?_cons, ih]
    simp [ng]
section
variable {cs : List Str} {gs : List (List Str)} {fs : List Str} {w : Str} {b m y : Qs}
theorem FrW.fn (F : FrW cs gs fs w) : gs.flatten.Nodup := F.pm.nodup_iff.mpr (F.nd.sublist List.filter_sublist)
theorem FrW.cell (F : FrW cs gs fs w) {i : Nat} {c : Str} (h : c ∈ gs.getD i []) : c ∈ cs ∧ i < gs.length := by
  rw [List.getD_eq_getElem?_getD] at h
  cases q : gs[i]? with
  | none => rw [q] at h; simp at h
  | some g =>
    rw [q] at h
    exact ⟨(F.ps g (List.mem_of_getElem? q)).2.subset h, (List.getElem?_eq_some_iff.mp q).1⟩
theorem tch_mem {zs : Qs} {i : Nat} : i ∈ tch cs gs zs ↔ i < gs.length ∧ ∃ c ∈ gs.getD i [], (atZ zs (cs.idxOf c)).1 ≠ 0 := by
  unfold tch mvd
  simp only [List.mem_filter, List.mem_range, List.any_eq_true, decide_eq_true_eq]
theorem idx_lt {c : Str} (h : c ∈ cs) : cs.idxOf c < cs.length := List.idxOf_lt_length_iff.mpr h
/-- a group that isn't touched: nothing of it is moved -/
theorem untouched (F : FrW cs gs fs w) (lm : m.length = cs.length) (lb : b.length = cs.length) (cm : ∀ z ∈ m, Cq z) (cb : ∀ z ∈ b, Cq z) {i : Nat} {c : Str} (hi : i ∉ tch cs gs (subS m b)) (hc : c ∈ gs.getD i []) : atZ m (cs.idxOf c) = atZ b (cs.idxOf c) := by
  obtain ⟨h1, h2⟩ := F.cell hc
  have hp := idx_lt h1
  have e := subS_at (zs := m) (ys := b) (by omega) (p := cs.idxOf c) (by omega)
  refine (subQ_zero (atZ_cq cm _) (atZ_cq cb _)).mp ?_
  rw [← e]
  refine Classical.byContradiction fun z => hi (tch_mem.mpr ⟨h2, c, hc, z⟩)
theorem getD_idx {p : Nat} (nd : cs.Nodup) (hp : p < cs.length) : cs.idxOf (cs.getD p "") = p := by
  rw [List.getD_eq_getElem?_getD, List.getElem?_eq_getElem hp]
  exact nd.idxOf_getElem p hp
theorem cellD_mem {p : Nat} (hp : p < cs.length) : cs.getD p "" ∈ cs := by
  rw [List.getD_eq_getElem?_getD, List.getElem?_eq_getElem hp]
  exact List.getElem_mem hp
theorem cla_symm : cla cs gs w b m y = cla cs gs w b y m := by
  unfold cla
  refine List.filter_congr fun i _ => ?_
  have e : lik cs (gs.getD i []) m y = lik cs (gs.getD i []) y m := by
    unfold lik
    congr 1
    funext c
    exact decide_eq_decide.mpr ⟨Eq.symm, Eq.symm⟩
  rw [e, Bool.and_comm (decide (i ∈ tch cs gs (subS m b)))]
theorem cla_nil {i : Nat} (h : cla cs gs w b m y = []) (h1 : i ∈ tch cs gs (subS m b)) (h2 : i ∈ tch cs gs (subS y b)) {c : Str} (hc : c ∈ gs.getD i []) : atZ m (cs.idxOf c) = atZ y (cs.idxOf c) := by
  unfold cla at h
  rw [List.filter_eq_nil_iff] at h
  have hl := (tch_mem.mp h1).1
  have := h i (List.mem_range.mpr hl)
  rw [decide_eq_true h1, decide_eq_true h2] at this
  simp only [Bool.true_and, Bool.or_eq_true, not_or, Bool.not_eq_true', Bool.not_eq_false] at this
  have h3 := this.2
  unfold lik at h3
  rw [List.all_eq_true] at h3
  exact of_decide_eq_true (h3 c hc)
theorem mrg_at (F : FrW cs gs fs w) {p : Nat} (hp : p < cs.length) {i : Nat} (h : grp gs (cs.getD p "") = some i) : p = cs.idxOf (cs.getD p "") ∧ cs.getD p "" ∈ gs.getD i [] := ⟨(getD_idx F.nd hp).symm, (grp_mem h).2⟩
theorem mrg_symm (F : FrW cs gs fs w) (lm : m.length = cs.length) (ly : y.length = cs.length) (lb : b.length = cs.length) (cm : ∀ z ∈ m, Cq z) (cy : ∀ z ∈ y, Cq z) (cb : ∀ z ∈ b, Cq z) (h : cla cs gs w b m y = []) : mrg cs gs b m y = mrg cs gs b y m := by
  unfold mrg
  refine List.map_congr_left fun p hp => ?_
  have hp := List.mem_range.mp hp
  cases q : grp gs (cs.getD p "") with
  | none =>
    show subQ (addQ _ _) _ = subQ (addQ _ _) _
    rw [addQ_comm]
  | some i =>
    obtain ⟨e1, hc⟩ := mrg_at F hp q
    show (if i ∈ tch cs gs (subS m b) then _ else _) = (if i ∈ tch cs gs (subS y b) then _ else _)
    by_cases h1 : i ∈ tch cs gs (subS m b)
    · by_cases h2 : i ∈ tch cs gs (subS y b)
      · rw [if_pos h1, if_pos h2, e1]
        exact cla_nil h h1 h2 hc
      · rw [if_pos h1, if_neg h2]
    · by_cases h2 : i ∈ tch cs gs (subS y b)
      · rw [if_neg h1, if_pos h2]
      · rw [if_neg h1, if_neg h2, e1, untouched F lm lb cm cb h1 hc, untouched F ly lb cy cb h2 hc]
theorem tch_self (cb : ∀ z ∈ b, Cq z) : tch cs gs (subS b b) = [] := by
  unfold tch
  rw [List.filter_eq_nil_iff]
  intro i _
  simp only [List.any_eq_true, not_exists, not_and]
  intro c _
  unfold mvd
  simp only [ne_eq, decide_eq_true_eq, Classical.not_not]
  by_cases hp : cs.idxOf c < b.length
  · rw [subS_at rfl hp]
    exact (subQ_zero (atZ_cq cb _) (atZ_cq cb _)).mpr rfl
  · unfold atZ
    rw [List.getD_eq_getElem?_getD, List.getElem?_eq_none (by rw [subS_len rfl]; omega)]
    rfl
theorem cla_l (cb : ∀ z ∈ b, Cq z) : cla cs gs w b b y = [] := by
  unfold cla
  rw [List.filter_eq_nil_iff]
  intro i _
  rw [tch_self cb]
  simp
theorem cla_r (cb : ∀ z ∈ b, Cq z) : cla cs gs w b m b = [] := by rw [cla_symm]; exact cla_l cb
theorem map_atZ {n : Nat} (h : y.length = n) : (List.range n).map (atZ y) = y := by
  apply List.ext_getElem?
  intro i
  rw [List.getElem?_map]
  by_cases hi : i < n
  · rw [List.getElem?_range hi, List.getElem?_eq_getElem (by omega)]
    unfold atZ
    rw [Option.map_some, List.getD_eq_getElem?_getD, List.getElem?_eq_getElem (by omega)]
    rfl
  · rw [List.getElem?_eq_none (by simp; omega), List.getElem?_eq_none (by omega)]
    rfl
theorem mrg_l (F : FrW cs gs fs w) (ly : y.length = cs.length) (cy : ∀ z ∈ y, Cq z) (cb : ∀ z ∈ b, Cq z) : mrg cs gs b b y = y := by
  have e := map_atZ (y := y) ly
  conv => rhs; rw [← e]
  unfold mrg
  refine List.map_congr_left fun p hp => ?_
  cases q : grp gs (cs.getD p "") with
  | none => exact sub_addQ (atZ_cq cb _) (atZ_cq cy _)
  | some i =>
    show (if i ∈ tch cs gs (subS b b) then _ else _) = _
    rw [tch_self cb]
    simp
theorem mrg_r (F : FrW cs gs fs w) (lm : m.length = cs.length) (lb : b.length = cs.length) (cm : ∀ z ∈ m, Cq z) (cb : ∀ z ∈ b, Cq z) : mrg cs gs b m b = m := by
  rw [mrg_symm F lm lb lb cm cb cb (cla_r cb)]
  exact mrg_l F lm cm cb
end
end Dl
set_option Elab.async false
set_option linter.all false
set_option maxRecDepth 100000
set_option maxHeartbeats 4000000
namespace Dl
open PySem PySem.Spec PyProof.Rows L2
/-! what the defs of frames promise -/
theorem sts_fl (g : List Str) : sTs g = (g.map Fl.s).map flD := by unfold sTs; rw [List.map_map]; rfl
theorem flS_mem {c : Str} {l : List Str} : decide (Fl.s c ∈ l.map Fl.s) = decide (c ∈ l) := by
  refine decide_eq_decide.mpr ⟨fun h => ?_, fun h => List.mem_map_of_mem h⟩
  obtain ⟨d, hd, e⟩ := List.mem_map.mp h
  injection e with e
  rw [← e]; exact hd
theorem nats_fl (l : List Nat) : l.map (fun i : Nat => PyData.int (i : Nat)) = (l.map fun i : Nat => Fl.i (i : Nat)).map flD := by rw [List.map_map]; rfl
theorem flI_mem {c : Nat} {l : List Nat} : decide (Fl.i (c : Nat) ∈ l.map fun i : Nat => Fl.i (i : Nat)) = decide (c ∈ l) := by
  refine decide_eq_decide.mpr ⟨fun h => ?_, fun h => List.mem_map_of_mem h⟩
  obtain ⟨d, hd, e⟩ := List.mem_map.mp h
  injection e with e
  have : d = c := by omega
  rw [← this]; exact hd
section
variable {K : PySem.W.Frag} {env : List Sl} {b : Option Addr} {ms : Ms} {te ti ta tb : TE} {P Pa Pb : PyData → Prop} {G H : Hp} {σ : L2.St}
/-- a text in a list or tuple of texts -/
theorem ev_inT {neg : Bool} {c : Str} {d : PyData} {l : List Str} (ha : EvP K env b ms ta (Is (.str c))) (hb : EvP K env b ms tb (Is d)) (sd : Sqd d (sTs l)) : EvP K env b ms (tOp (rIn K neg) ta tb) (Is (.bool (if neg then !decide (c ∈ l) else decide (c ∈ l)))) := by
  have h := ev_inF (neg := neg) (x := .s c) (l := l.map Fl.s) ha hb rfl (by rw [← sts_fl]; exact sd)
  rw [flS_mem] at h
  exact h
/-- a place among places -/
def natL (l : List Nat) : List PyData := l.map fun i : Nat => .int (i : Nat)
theorem ev_inN {neg : Bool} {c : Nat} {d : PyData} {l : List Nat} (ha : EvP K env b ms ta (Is (.int (c : Nat)))) (hb : EvP K env b ms tb (Is d)) (sd : Sqd d (natL l)) : EvP K env b ms (tOp (rIn K neg) ta tb) (Is (.bool (if neg then !decide (c ∈ l) else decide (c ∈ l)))) := by
  have h := ev_inF (neg := neg) (x := .i (c : Nat)) (l := l.map fun i : Nat => Fl.i (i : Nat)) ha hb rfl (by rw [← nats_fl]; exact sd)
  rw [flI_mem] at h
  exact h
end
theorem natL_len (l : List Nat) : (natL l).length = l.length := by unfold natL; rw [List.length_map]
theorem natL_inj {a c : List Nat} (h : natL a = natL c) : a = c := map_inj (fun _ _ e => nat_inj _ _ e) h
def gsD (gs : List (List Str)) : List PyData := gs.map fun g => .tuple (sTs g)
theorem tupS_inj (a c : List Str) (h : PyData.tuple (sTs a) = .tuple (sTs c)) : a = c := sts_inj (by injection h)
theorem frTp_inj {cs cs' : List Str} {gs gs' : List (List Str)} {fs fs' : List Str} {w w' : Str} (h : frTp cs gs fs w = frTp cs' gs' fs' w') : cs = cs' ∧ gs = gs' ∧ fs = fs' ∧ w = w' := by
  unfold frTp at h
  simp only [PyData.tuple.injEq, List.cons.injEq, and_true, PyData.str.injEq] at h
  exact ⟨sts_inj h.1, map_inj (fun a c e => tupS_inj a c e) h.2.1, sts_inj h.2.2.1, h.2.2.2⟩
theorem FrW.gl {cs : List Str} {gs : List (List Str)} {fs : List Str} {w : Str} (F : FrW cs gs fs w) : gs.length ≤ 12 := by
  have h := F.hd.length_le
  rw [List.length_map] at h
  exact Nat.le_trans h F.le
theorem FrW.gg {cs : List Str} {gs : List (List Str)} {fs : List Str} {w : Str} (F : FrW cs gs fs w) {g : List Str} (h : g ∈ gs) : g.length ≤ 12 := Nat.le_trans (F.ps g h).2.length_le F.le
theorem FrW.fl {cs : List Str} {gs : List (List Str)} {fs : List Str} {w : Str} (F : FrW cs gs fs w) : fs.length ≤ 12 := Nat.le_trans F.fr.length_le F.le
/-- which group, if any -/
def gO : Option Nat → Fl
  | none => .n
  | some i => .i (i : Nat)
def dGrp (ds : List PyData) : Prop := ∃ cs gs fs w c, ds = [frTp cs gs fs w, .str c] ∧ FrW cs gs fs w
def rGrp (ds : List PyData) (d : PyData) : Prop := ∀ cs gs fs w c, ds = [frTp cs gs fs w, .str c] → d = flD (gO (grp gs c))
/-- places by a word on cells -/
def plc (cs : List Str) (t : Str → Bool) : List Nat := (cs.zipIdx.filter fun x => t x.1).map (·.2)
theorem plc_mem {cs : List Str} {t : Str → Bool} {p : Nat} : p ∈ plc cs t ↔ p < cs.length ∧ t (cs.getD p "") = true := by
  unfold plc
  simp only [List.mem_map, List.mem_filter]
  constructor
  · rintro ⟨⟨c, q⟩, ⟨h1, h2⟩, rfl⟩
    have h3 := List.mem_zipIdx_iff_getElem?.mp h1
    obtain ⟨h4, h5⟩ := List.getElem?_eq_some_iff.mp h3
    refine ⟨h4, ?_⟩
    rw [List.getD_eq_getElem?_getD, h3]
    exact h2
  · rintro ⟨h1, h2⟩
    refine ⟨(cs[p], p), ⟨List.mem_zipIdx_iff_getElem?.mpr (List.getElem?_eq_getElem h1), ?_⟩, rfl⟩
    rw [List.getD_eq_getElem?_getD, List.getElem?_eq_getElem h1] at h2
    exact h2
theorem plc_len (cs : List Str) (t : Str → Bool) : (plc cs t).length ≤ cs.length := by
  unfold plc
  rw [List.length_map]
  refine Nat.le_trans (List.length_filter_le _ _) ?_
  rw [List.length_zipIdx]
  exact Nat.le_refl _
def dPlc (ds : List PyData) : Prop := ∃ cs gs fs w l d, ds = [frTp cs gs fs w, d] ∧ FrW cs gs fs w ∧ Sqd d (sTs l)
def rPlc (ds : List PyData) (x : PyData) : Prop := ∀ cs gs fs w l d, ds = [frTp cs gs fs w, d] → Sqd d (sTs l) → x = .tuple (natL (plc cs fun c => decide (c ∈ l)))
theorem sqd_inj {d : PyData} {l m : List Str} (h1 : Sqd d (sTs l)) (h2 : Sqd d (sTs m)) : l = m := by
  rcases h1 with rfl | rfl <;> rcases h2 with h | h <;> first | (injection h with h; exact sts_inj h) | cases h
def dAdd (ds : List PyData) : Prop := ∃ cs gs fs w, ds = [frTp cs gs fs w] ∧ FrW cs gs fs w
def rAdd (ds : List PyData) (x : PyData) : Prop := ∀ cs gs fs w, ds = [frTp cs gs fs w] → x = .tuple (natL (plc cs fun c => decide (c ∈ fs)))
/-- the cells of some groups -/
def cellsOf (gs : List (List Str)) (l : List Nat) : List Str := l.flatMap fun i => gs.getD i []
def dPlo (ds : List PyData) : Prop := ∃ cs gs fs w l, ds = [frTp cs gs fs w, .tuple (natL l)] ∧ FrW cs gs fs w ∧ (∀ i ∈ l, i < gs.length) ∧ l.length ≤ 12
def rPlo (ds : List PyData) (x : PyData) : Prop := ∀ cs gs fs w l, ds = [frTp cs gs fs w, .tuple (natL l)] → x = .tuple (natL (plc cs fun c => decide (c ∈ cellsOf gs l)))
/-- the places that a vector moves -/
def mvs (zs : Qs) : List Nat := (zs.zipIdx.filter fun x => !decide (x.1.1 = 0)).map (·.2)
theorem mvs_mem {zs : Qs} {p : Nat} : p ∈ mvs zs ↔ p < zs.length ∧ (atZ zs p).1 ≠ 0 := by
  unfold mvs atZ
  simp only [List.mem_map, List.mem_filter]
  constructor
  · rintro ⟨⟨c, q⟩, ⟨h1, h2⟩, rfl⟩
    have h3 := List.mem_zipIdx_iff_getElem?.mp h1
    refine ⟨(List.getElem?_eq_some_iff.mp h3).1, ?_⟩
    rw [List.getD_eq_getElem?_getD, h3]
    simpa using h2
  · rintro ⟨h1, h2⟩
    refine ⟨(zs[p], p), ⟨List.mem_zipIdx_iff_getElem?.mpr (List.getElem?_eq_getElem h1), ?_⟩, rfl⟩
    rw [List.getD_eq_getElem?_getD, List.getElem?_eq_getElem h1] at h2
    simpa using h2
theorem mvs_len (zs : Qs) : (mvs zs).length ≤ zs.length := by
  unfold mvs
  rw [List.length_map]
  refine Nat.le_trans (List.length_filter_le _ _) ?_
  rw [List.length_zipIdx]
  exact Nat.le_refl _
def dMvd (ds : List PyData) : Prop := ∃ zs : Qs, ds = [stT zs] ∧ zs.length ≤ 100
def rMvd (ds : List PyData) (x : PyData) : Prop := ∀ zs : Qs, ds = [stT zs] → x = .tuple (natL (mvs zs))
def dTch (ds : List PyData) : Prop := ∃ cs gs fs w zs, ds = [frTp cs gs fs w, stT zs] ∧ FrW cs gs fs w ∧ zs.length = cs.length
def rTch (ds : List PyData) (x : PyData) : Prop := ∀ cs gs fs w zs, ds = [frTp cs gs fs w, stT zs] → x = .tuple (natL (tch cs gs zs))
/-- two ways to say which groups are touched -/
theorem tch_by {cs : List Str} {gs : List (List Str)} {fs : List Str} {w : Str} {zs : Qs} (F : FrW cs gs fs w) (hl : zs.length = cs.length) {i : Nat} (hi : i < gs.length) :
    gO (some i) ∈ (mvs zs).map (fun p => gO (grp gs (cs.getD p ""))) ↔ i ∈ tch cs gs zs := by
  rw [tch_mem, List.mem_map]
  constructor
  · rintro ⟨p, hp, e⟩
    obtain ⟨h1, h2⟩ := mvs_mem.mp hp
    have hg : grp gs (cs.getD p "") = some i := by
      cases q : grp gs (cs.getD p "") with
      | none => rw [q] at e; cases e
      | some j =>
        rw [q] at e
        unfold gO at e
        injection e with e
        exact congrArg some (by omega)
    refine ⟨hi, cs.getD p "", (grp_mem hg).2, ?_⟩
    rw [getD_idx F.nd (by omega)]
    exact h2
  · rintro ⟨_, c, hc, h2⟩
    have hm := (F.cell hc).1
    refine ⟨cs.idxOf c, mvs_mem.mpr ⟨by rw [hl]; exact idx_lt hm, h2⟩, ?_⟩
    have e : cs.getD (cs.idxOf c) "" = c := by
      rw [List.getD_eq_getElem?_getD, List.getElem?_eq_getElem (idx_lt hm), List.getElem_idxOf (idx_lt hm)]
      rfl
    rw [e, grp_of F.fn hi hc]
end Dl
set_option Elab.async false
set_option linter.all false
set_option maxRecDepth 100000
set_option maxHeartbeats 4000000
namespace Dl
open PySem PySem.Spec PyProof.Rows L2
theorem filt_self {l : List Nat} {t : Nat → Bool} : l.filter (fun i => decide (i ∈ l.filter t)) = l.filter t := by
  refine List.filter_congr fun i hi => ?_
  by_cases h : t i = true
  · rw [h]
    exact decide_eq_true (List.mem_filter.mpr ⟨hi, h⟩)
  · rw [Bool.eq_false_iff.mpr h]
    exact decide_eq_false fun z => h (List.mem_filter.mp z).2
end Dl
set_option Elab.async false
set_option linter.all false
set_option maxRecDepth 100000
set_option maxHeartbeats 4000000
namespace Dl
open PySem PySem.Spec PyProof.Rows L2
/-- a stand: as long as there are cells, in lowest terms, not too great -/
structure Sg (n : Nat) (zs : Qs) : Prop where
  len : zs.length = n
  cq : ∀ z ∈ zs, Cq z
  sz : ∀ z ∈ zs, z.1.natAbs < 2 ^ 600 ∧ z.2.natAbs < 2 ^ 600
theorem Sg.at {n : Nat} {zs : Qs} (s : Sg n zs) (p : Nat) : Cq (atZ zs p) ∧ (atZ zs p).1.natAbs < 2 ^ 600 ∧ (atZ zs p).2.natAbs < 2 ^ 600 := by
  refine ⟨atZ_cq s.cq p, ?_⟩
  unfold atZ
  rw [List.getD_eq_getElem?_getD]
  cases q : zs[p]? with
  | none => exact ⟨by decide, Nat.lt_of_lt_of_le (show (1 : Int).natAbs < 2 ^ 1 by decide) (Nat.pow_le_pow_right (by decide) (by decide))⟩
  | some z => exact s.sz z (List.mem_of_getElem? q)
theorem Sg.fg {n : Nat} {zs : Qs} (s : Sg n zs) (p : Nat) : Fg (atZ zs p).1 (atZ zs p).2 := by
  obtain ⟨h1, h2, h3⟩ := s.at p
  exact .of h1.1 h2 h3 (by decide)
theorem Sg.fg2 {n : Nat} {zs : Qs} (s : Sg n zs) : ∀ p ∈ zs, Fg p.1 p.2 := fun p hp => .of (s.cq p hp).1 (s.sz p hp).1 (s.sz p hp).2 (by decide)
theorem stT_at {zs : Qs} {p : Nat} (h : p < zs.length) : atI (stL zs) (p : Int) = some (encQ (atZ zs p)) := by
  refine atI_nat ?_
  unfold stL atZ
  rw [List.getElem?_map, List.getD_eq_getElem?_getD, List.getElem?_eq_getElem h]
  rfl
theorem addQ_fg {a c : Int × Int} (h1 : Cq a) (h2 : Cq c) (a1 : a.1.natAbs < 2 ^ 600) (a2 : a.2.natAbs < 2 ^ 600) (c1 : c.1.natAbs < 2 ^ 600) (c2 : c.2.natAbs < 2 ^ 600) : (addQ a c).1.natAbs < 2 ^ 1201 ∧ (addQ a c).2.natAbs < 2 ^ 1201 := by
  have hn := mul_ne h1 h2
  have t1 := nat_mul_lt a1 c2
  have t2 := nat_mul_lt c1 a2
  have t3 := nat_mul_lt a2 c2
  have e : (2 : Nat) ^ 1201 = 2 ^ 1200 + 2 ^ 1200 := by rw [show (1201 : Nat) = 1200 + 1 from rfl, Nat.pow_succ]; omega
  have t4 : (a.1 * c.2 + c.1 * a.2).natAbs < 2 ^ 1201 := by
    refine Nat.lt_of_le_of_lt (Int.natAbs_add_le _ _) ?_
    have e1 : (2 : Nat) ^ (600 + 600) = 2 ^ 1200 := rfl
    omega
  exact ⟨Nat.lt_of_le_of_lt (frN_le _ _ hn) t4, Nat.lt_of_le_of_lt (frD_le _ _ hn) (lt_up t3 (by decide))⟩
def rSubS (ds : List PyData) (d : PyData) : Prop := ∀ zs ys : Qs, ds = [stT zs, stT ys] → d = stT (subS zs ys)
def rChg (ds : List PyData) (d : PyData) : Prop := ∀ zs ys : Qs, ds = [stT zs, stT ys] → d = stT (subS ys zs)
theorem subS_data (zs ys : Qs) : ((zs.zip ys).map fun p => fMinus [FrD p.1.1 p.1.2, FrD p.2.1 p.2.2]) = stL (subS zs ys) := by
  unfold stL subS
  rw [List.map_map]
  rfl
def dFour (ds : List PyData) : Prop := ∃ cs gs fs w b m y, ds = [frTp cs gs fs w, stT b, stT m, stT y] ∧ FrW cs gs fs w ∧ Sg cs.length b ∧ Sg cs.length m ∧ Sg cs.length y
def rCla (ds : List PyData) (d : PyData) : Prop := ∀ cs gs fs w b m y, ds = [frTp cs gs fs w, stT b, stT m, stT y] → d = .tuple (natL (cla cs gs w b m y))
def rMrg (ds : List PyData) (d : PyData) : Prop := ∀ cs gs fs w b m y, ds = [frTp cs gs fs w, stT b, stT m, stT y] → cla cs gs w b m y = [] ∧ d = stT (mrg cs gs b m y)
def xMrg (ds : List PyData) (d : PyData) : Prop := ∀ cs gs fs w b m y, ds = [frTp cs gs fs w, stT b, stT m, stT y] → cla cs gs w b m y ≠ [] ∧ d = .tuple (natL (cla cs gs w b m y))
theorem four_inj {cs cs' : List Str} {gs gs' : List (List Str)} {fs fs' : List Str} {w w' : Str} {b b' m m' y y' : Qs} (h : [frTp cs gs fs w, stT b, stT m, stT y] = [frTp cs' gs' fs' w', stT b', stT m', stT y']) : cs = cs' ∧ gs = gs' ∧ fs = fs' ∧ w = w' ∧ b = b' ∧ m = m' ∧ y = y' := by
  simp only [List.cons.injEq, and_true] at h
  obtain ⟨h1, h2, h3, h4⟩ := frTp_inj h.1
  exact ⟨h1, h2, h3, h4, stT_inj h.2.1, stT_inj h.2.2.1, stT_inj h.2.2.2⟩
def dLik (ds : List PyData) : Prop := ∃ cs gs fs w, ∃ i : Nat, ∃ m y, ds = [frTp cs gs fs w, .int (i : Nat), stT m, stT y] ∧ FrW cs gs fs w ∧ i < gs.length ∧ Sg cs.length m ∧ Sg cs.length y
def rLik (ds : List PyData) (d : PyData) : Prop := ∀ cs gs fs w, ∀ i : Nat, ∀ m y, ds = [frTp cs gs fs w, .int (i : Nat), stT m, stT y] → d = .bool (lik cs (gs.getD i []) m y)
section
variable {cs : List Str} {gs : List (List Str)} {fs : List Str} {w : Str} {b m y : Qs}
theorem cellD_idx {c : Str} (h : c ∈ cs) : cs.getD (cs.idxOf c) "" = c := by
  rw [List.getD_eq_getElem?_getD, List.getElem?_eq_getElem (idx_lt h), List.getElem_idxOf (idx_lt h)]
  rfl
theorem lik_by (F : FrW cs gs fs w) {i : Nat} : (plc cs fun c => decide (c ∈ cellsOf gs [i])).all (fun p => decide (atZ m p = atZ y p)) = lik cs (gs.getD i []) m y := by
  have e1 : cellsOf gs [i] = gs.getD i [] := by simp [cellsOf]
  rw [e1, Bool.eq_iff_iff, List.all_eq_true]
  unfold lik
  rw [List.all_eq_true]
  constructor
  · intro h c hc
    have hm := (F.cell hc).1
    exact h _ (plc_mem.mpr ⟨idx_lt hm, by rw [cellD_idx hm]; exact decide_eq_true hc⟩)
  · intro h p hp
    obtain ⟨h1, h2⟩ := plc_mem.mp hp
    have := h _ (of_decide_eq_true h2)
    rw [getD_idx F.nd h1] at this
    exact this
theorem cla_by : ((tch cs gs (subS m b)).filter fun i => decide (i ∈ tch cs gs (subS y b))).filter (fun i => decide (w = "strict") || !lik cs (gs.getD i []) m y) = cla cs gs w b m y := by
  unfold cla
  have e : tch cs gs (subS m b) = (List.range gs.length).filter fun i => decide (i ∈ tch cs gs (subS m b)) := filt_self.symm
  conv => lhs; rw [e]
  rw [List.filter_filter, List.filter_filter]
  refine List.filter_congr fun i _ => ?_
  rw [Bool.and_comm, ← Bool.and_assoc, Bool.and_comm (decide (i ∈ tch cs gs (subS m b)))]
  cases decide (i ∈ tch cs gs (subS m b)) <;> cases decide (i ∈ tch cs gs (subS y b)) <;> simp
theorem cla_lt {i : Nat} (h : i ∈ cla cs gs w b m y) : i < gs.length := List.mem_range.mp (List.mem_filter.mp h).1
theorem tch_lt {zs : Qs} {i : Nat} (h : i ∈ tch cs gs zs) : i < gs.length := (tch_mem.mp h).1
theorem tch_len {zs : Qs} : (tch cs gs zs).length ≤ gs.length := by
  unfold tch
  refine Nat.le_trans (List.length_filter_le _ _) ?_
  rw [List.length_range]
  exact Nat.le_refl _
theorem cla_len : (cla cs gs w b m y).length ≤ gs.length := by
  unfold cla
  refine Nat.le_trans (List.length_filter_le _ _) ?_
  rw [List.length_range]
  exact Nat.le_refl _
/-- a cell is in one group, or free -/
theorem FrW.free (F : FrW cs gs fs w) {c : Str} (hc : c ∈ cs) : grp gs c = none ↔ c ∈ fs := by
  rw [grp_none]
  have h : c ∈ gs.flatten ↔ c ∉ fs := by
    rw [F.pm.mem_iff, List.mem_filter]
    simp [hc]
  rw [h, Classical.not_not]
theorem cellsOf_mem (F : FrW cs gs fs w) {c : Str} {i : Nat} {l : List Nat} (h : grp gs c = some i) (hl : ∀ j ∈ l, j < gs.length) : c ∈ cellsOf gs l ↔ i ∈ l := by
  unfold cellsOf
  rw [List.mem_flatMap]
  constructor
  · rintro ⟨j, hj, hc⟩
    have := grp_of F.fn (hl j hj) hc
    rw [h] at this
    rw [Option.some.inj this]
    exact hj
  · intro hi
    exact ⟨i, hi, (grp_mem h).2⟩
theorem mrg_by (F : FrW cs gs fs w) {p : Nat} (hp : p < cs.length) :
    (if p ∈ plc cs (fun c => decide (c ∈ fs)) then subQ (addQ (atZ m p) (atZ y p)) (atZ b p) else if p ∈ plc cs (fun c => decide (c ∈ cellsOf gs (tch cs gs (subS m b)))) then atZ m p else atZ y p) =
      (match grp gs (cs.getD p "") with
        | none => subQ (addQ (atZ m p) (atZ y p)) (atZ b p)
        | some i => if i ∈ tch cs gs (subS m b) then atZ m p else atZ y p) := by
  have hc := cellD_mem (cs := cs) hp
  cases q : grp gs (cs.getD p "") with
  | none =>
    have h := (F.free hc).mp q
    rw [if_pos (plc_mem.mpr ⟨hp, decide_eq_true h⟩)]
  | some i =>
    have h : ¬ cs.getD p "" ∈ fs := fun z => by
      rw [(F.free hc).mpr z] at q
      cases q
    rw [if_neg (fun z => h (of_decide_eq_true (plc_mem.mp z).2))]
    have h2 := cellsOf_mem F q (l := tch cs gs (subS m b)) (fun j hj => tch_lt hj)
    by_cases hi : i ∈ tch cs gs (subS m b)
    · rw [if_pos (plc_mem.mpr ⟨hp, decide_eq_true (h2.mpr hi)⟩)]
      show _ = if i ∈ _ then _ else _
      rw [if_pos hi]
    · rw [if_neg (fun z => hi (h2.mp (of_decide_eq_true (plc_mem.mp z).2)))]
      show _ = if i ∈ _ then _ else _
      rw [if_neg hi]
end
/-- a list by places, one of them written -/
theorem set_map {n p : Nat} {f : Nat → PyData} {d : PyData} (h : p < n) : ((List.range n).map f).set p d = (List.range n).map fun q => if q = p then d else f q := by
  apply List.ext_getElem?
  intro i
  by_cases hi : i < n
  · rw [List.getElem?_map, List.getElem?_range hi, List.getElem?_set]
    by_cases e : p = i
    · subst e
      simp [hi]
    · have e' : ¬ i = p := fun z => e z.symm
      simp [e, e', hi]
  · rw [List.getElem?_eq_none (by simp; omega), List.getElem?_eq_none (by simp; omega)]
theorem stL_by {n : Nat} {zs : Qs} (h : zs.length = n) : stL zs = (List.range n).map fun p => encQ (atZ zs p) := by
  have e := map_atZ h
  conv => lhs; rw [← e]
  unfold stL
  rw [List.map_map]
  rfl
end Dl
set_option Elab.async false
set_option linter.all false
set_option maxRecDepth 100000
set_option maxHeartbeats 4000000
namespace Dl
open PySem PySem.Spec PyProof.Rows L2
structure FrX where
  cs : List Str
  gs : List (List Str)
  fs : List Str
  w : Str
def FrX.R (K : PySem.W.Frag) (x : FrX) : Hp → V → Prop := FrR K x.cs x.gs x.fs x.w
def FrX.ok (x : FrX) : Prop := FrW x.cs x.gs x.fs x.w
section
variable {K : PySem.W.Frag} {env : List Sl} {b : Option Addr} {ms : Ms} {te ti ta tb : TE} {G H : Hp} {σ : L2.St}
theorem ev_fr {x : FrX} (h : EvU K env b ms te (x.R K)) : EvP K env b ms te (Is (frTp x.cs x.gs x.fs x.w)) := ev_ofU h fun G v u => ⟨_, FrR.dp u, rfl⟩
theorem at_pureV {v : V} {R : Hp → V → Prop} {vs : List V} {ds : List PyData} {N : List Str} (s : Same G H) (u : Up R G v) (da : DpAll K G vs ds) (hn : vs.length + 1 ≤ N.length) : At K (.r R :: (ds.map .d ++ List.replicate (N.length - 1 - ds.length) .un)) none [] G H G (start N (v :: vs)) G H := by
  refine ⟨?_, Grow.refl s, Same.refl _, ⟨fun x e => (nomatch e), fun p hp => (nomatch hp)⟩, fun p hp => (nomatch hp), List.nodup_nil⟩
  have e : start N (v :: vs) = some v :: (vs.map some ++ List.replicate (N.length - 1 - ds.length) none) := by
    unfold L2.start
    rw [List.map_cons, List.cons_append, List.length_cons, dpa_len da]
    congr 3
    omega
  rw [e]
  refine .cons ⟨v, rfl, u⟩ (env_app (env_data da) ⟨by simp, fun i e he => ?_⟩)
  rw [List.getElem?_replicate] at he ⊢
  split at he
  · cases he
    exact ⟨none, if_pos (by assumption), trivial⟩
  · cases he
end
/-- the places of the cells of each group -/
def plL (cs : List Str) (gs : List (List Str)) : List (List Nat) := gs.map fun g => g.map cs.idxOf
def plD (l : List (List Nat)) : PyData := .list (l.map fun g => .list (natL g))
theorem natLL_inj (a c : List Nat) (h : PyData.list (natL a) = .list (natL c)) : a = c := natL_inj (by injection h)
theorem zipIdx_range {α : Type} (d : α) (l : List α) : l.zipIdx = (List.range l.length).map fun i => (l.getD i d, i) := by
  apply List.ext_getElem?
  intro i
  rw [List.getElem?_zipIdx, List.getElem?_map]
  by_cases hi : i < l.length
  · rw [List.getElem?_range hi, List.getElem?_eq_getElem hi, Option.map_some, Option.map_some, List.getD_eq_getElem?_getD, List.getElem?_eq_getElem hi]
    simp
  · rw [List.getElem?_eq_none (by omega), List.getElem?_eq_none (by simp; omega)]
    rfl
theorem zip_filter {α : Type} (d : α) (l : List α) (t : α → Bool) : ((l.zipIdx).filter fun x => t x.1).map (·.2) = (List.range l.length).filter fun i => t (l.getD i d) := by
  rw [zipIdx_range d l, List.filter_map, List.map_map]
  have e : ((fun x : α × Nat => x.2) ∘ fun i => (l.getD i d, i)) = id := rfl
  rw [e, List.map_id]
  rfl
def dMvl (ds : List PyData) : Prop := ∃ zs : Qs, ds = [stT zs] ∧ zs.length ≤ 100 ∧ ∀ z ∈ zs, Cq z
def rMvl (ds : List PyData) (x : PyData) : Prop := ∀ zs : Qs, ds = [stT zs] → x = .list (natL (mvs zs))
theorem eqv_nought (a c : Int) : ([PyData.int 0, .tuple [.int 0, .int 1]].any fun z => PyData.eqv z (FrD a c)) = decide (a = 0 ∧ c = 1) := by
  have e1 : PyData.eqv (.int 0) (FrD a c) = false := by unfold FrD; simp [PyData.eqv]
  have e2 : PyData.eqv (.tuple [.int 0, .int 1]) (FrD a c) = decide (0 = a ∧ 1 = c) := eqv_frD 0 1 a c
  rw [List.any_cons, List.any_cons, List.any_nil, e1, e2, Bool.false_or, Bool.or_false]
  refine decide_eq_decide.mpr ⟨fun h => ⟨h.1.symm, h.2.symm⟩, fun h => ⟨h.1.symm, h.2.symm⟩⟩
theorem cq_nought {z : Int × Int} (h : Cq z) : (z.1 = 0 ∧ z.2 = 1) ↔ z.1 = 0 := by
  refine ⟨fun h => h.1, fun h1 => ⟨h1, ?_⟩⟩
  obtain ⟨h2, h3⟩ := h
  rw [h1] at h3
  have : z.2.natAbs = 1 := by simpa using h3
  omega
theorem plL_len (cs : List Str) (gs : List (List Str)) : (plL cs gs).length = gs.length := by unfold plL; rw [List.length_map]
theorem plL_at {cs : List Str} {gs : List (List Str)} {i : Nat} (h : i < gs.length) : (plL cs gs).getD i [] = (gs.getD i []).map cs.idxOf := by
  unfold plL
  rw [List.getD_eq_getElem?_getD, List.getD_eq_getElem?_getD, List.getElem?_map, List.getElem?_eq_getElem h]
  rfl
/-- the law's way to say which groups are touched -/
theorem tch_law {cs : List Str} {gs : List (List Str)} {fs : List Str} {w : Str} {zs : Qs} (F : FrW cs gs fs w) (hl : zs.length = cs.length) :
    (((plL cs gs).zipIdx).filter fun x => !(x.1.filter fun p => decide (p ∈ mvs zs)).isEmpty).map (·.2) = tch cs gs zs := by
  rw [zip_filter []  (plL cs gs) fun q => !(q.filter fun p => decide (p ∈ mvs zs)).isEmpty, plL_len]
  unfold tch
  refine List.filter_congr fun i hi => ?_
  have hi := List.mem_range.mp hi
  rw [plL_at hi, Bool.eq_iff_iff]
  rw [Bool.not_eq_true', List.isEmpty_eq_false_iff]
  rw [List.any_eq_true]
  constructor
  · intro h
    obtain ⟨p, hp⟩ := List.exists_mem_of_ne_nil _ h
    obtain ⟨h1, h2⟩ := List.mem_filter.mp hp
    obtain ⟨c, hc, rfl⟩ := List.mem_map.mp h1
    have h3 := (mvs_mem.mp (of_decide_eq_true h2)).2
    refine ⟨c, hc, ?_⟩
    unfold mvd
    exact decide_eq_true h3
  · rintro ⟨c, hc, h⟩
    unfold mvd at h
    have h := of_decide_eq_true h
    have hm := (F.cell hc).1
    refine List.ne_nil_of_mem (a := cs.idxOf c) (List.mem_filter.mpr ⟨List.mem_map_of_mem hc, decide_eq_true (mvs_mem.mpr ⟨by rw [hl]; exact idx_lt hm, h⟩)⟩)
/-- how a merge is told -/
def mgD (x : FrX) (b m y : Qs) (w1 : Str) : PyData := if cla x.cs x.gs x.w b m y = [] then .tuple [.str w1, stT (mrg x.cs x.gs b m y)] else .tuple [.str "clash", .tuple (natL (cla x.cs x.gs x.w b m y))]
def dTri (x : FrX) (ds : List PyData) : Prop := x.ok ∧ ∃ b m y, ds = [stT b, stT m, stT y] ∧ Sg x.cs.length b ∧ Sg x.cs.length m ∧ Sg x.cs.length y
def rTri (w1 : Str) (x : FrX) (ds : List PyData) (d : PyData) : Prop := ∀ b m y, ds = [stT b, stT m, stT y] → d = mgD x b m y w1
theorem tri_inj {b m y b' m' y' : Qs} (h : [stT b, stT m, stT y] = [stT b', stT m', stT y']) : b = b' ∧ m = m' ∧ y = y' := by
  simp only [List.cons.injEq, and_true] at h
  exact ⟨stT_inj h.1, stT_inj h.2.1, stT_inj h.2.2⟩
/-- what the law has filled in: the places for which q says so -/
def vlq (x : FrX) (b m y : Qs) (p : Nat) : Int × Int := match grp x.gs (x.cs.getD p "") with
  | none => subQ (addQ (atZ m p) (atZ y p)) (atZ b p)
  | some i => if i ∈ tch x.cs x.gs (subS m b) then atZ m p else atZ y p
def fil (x : FrX) (b m y : Qs) (q : Nat → Bool) : List PyData := (List.range x.cs.length).map fun p => if q p then encQ (vlq x b m y p) else .none
theorem fil_set {x : FrX} {b m y : Qs} {q q2 : Nat → Bool} {p : Nat} (hp : p < x.cs.length) (h : ∀ r, r < x.cs.length → q2 r = (decide (r = p) || q r)) : (fil x b m y q).set p (encQ (vlq x b m y p)) = fil x b m y q2 := by
  unfold fil
  rw [set_map hp]
  refine List.map_congr_left fun r hr => ?_
  rw [h r (List.mem_range.mp hr)]
  by_cases e : r = p
  · subst e; simp
  · simp [e]
theorem fil_all {x : FrX} {b m y : Qs} {q : Nat → Bool} (h : ∀ p, p < x.cs.length → q p = true) : PyData.tuple (fil x b m y q) = stT (mrg x.cs x.gs b m y) := by
  unfold fil stT stL mrg
  rw [List.map_map]
  refine congrArg PyData.tuple (List.map_congr_left fun p hp => ?_)
  rw [h p (List.mem_range.mp hp)]
  rfl
theorem fil_len (x : FrX) (b m y : Qs) (q : Nat → Bool) : (fil x b m y q).length = x.cs.length := by unfold fil; rw [List.length_map, List.length_range]
/-- which groups clash, as the law looks for it -/
def isCl (x : FrX) (b m y : Qs) (i : Nat) : Bool := decide (i ∈ tch x.cs x.gs (subS m b)) && decide (i ∈ tch x.cs x.gs (subS y b)) && (decide (x.w = "strict") || !lik x.cs (x.gs.getD i []) m y)
theorem cla_isCl (x : FrX) (b m y : Qs) : cla x.cs x.gs x.w b m y = (List.range x.gs.length).filter (isCl x b m y) := rfl
theorem lik_law {cs : List Str} {g : List Str} {m y : Qs} : ((g.map cs.idxOf).filter fun p => !decide (atZ m p = atZ y p)).isEmpty = lik cs g m y := by
  unfold lik
  rw [Bool.eq_iff_iff, List.isEmpty_iff, List.filter_eq_nil_iff, List.all_eq_true]
  constructor
  · intro h c hc
    have := h _ (List.mem_map_of_mem hc)
    simpa using this
  · intro h p hp
    obtain ⟨c, hc, rfl⟩ := List.mem_map.mp hp
    have := h c hc
    simpa using this
end Dl
set_option Elab.async false
set_option linter.all false
set_option maxRecDepth 100000
set_option maxHeartbeats 4000000
namespace Dl
open PySem PySem.Spec PyProof.Rows L2
/-! books of up to six cells -/
theorem val_small6 {ms : List Int} {zs : Qs} {k : Nat} (hm : ∀ m ∈ ms, m.natAbs ≤ 4) (hl : zs.length ≤ 6) (hz : ∀ p ∈ zs, 0 < p.2 ∧ p.1.natAbs ≤ 2 ^ k ∧ p.2.natAbs ≤ 2 ^ k) : 0 < vD ms zs ∧ (vN ms zs).natAbs < 2 ^ (6 * k + 5) ∧ (vD ms zs).natAbs < 2 ^ (6 * k + 1) := by
  obtain ⟨h1, h2, h3⟩ := vA_bound (c := 4) (k := k) (ms.zip zs) fun x hx => by
    obtain ⟨a, c⟩ := zip_mem hx
    exact ⟨hm _ a, hz _ c⟩
  have ll : (ms.zip zs).length ≤ 6 := by rw [List.length_zip]; omega
  have p1 : 2 ^ (k * (ms.zip zs).length) ≤ 2 ^ (6 * k) := Nat.pow_le_pow_right (by decide) (by rw [Nat.mul_comm 6 k]; exact Nat.mul_le_mul_left k ll)
  refine ⟨h1, ?_, ?_⟩
  · refine Nat.lt_of_le_of_lt (Nat.le_trans h3 (Nat.mul_le_mul (Nat.mul_le_mul_left 4 ll) p1)) ?_
    rw [Nat.pow_add, Nat.mul_comm (2 ^ (6 * k))]
    exact Nat.mul_lt_mul_of_pos_right (by decide) (Nat.pow_pos (by decide))
  · refine Nat.lt_of_le_of_lt (Nat.le_trans h2 p1) (Nat.pow_lt_pow_right (by decide) (by omega))
structure Sm6 (zs : Qs) : Prop where
  len : zs.length ≤ 6
  each : ∀ p ∈ zs, 0 < p.2 ∧ p.1.natAbs ≤ 4 ∧ p.2.natAbs ≤ 4
  cq : ∀ p ∈ zs, Cq p
theorem Sm6.ok {zs : Qs} (h : Sm6 zs) : StOk zs := ⟨h.len, fun p hp => by
  obtain ⟨h1, h2, h3⟩ := h.each p hp
  exact ⟨h1, lt_up (a := 3) (by omega) (by decide), lt_up (a := 3) (by omega) (by decide)⟩⟩
theorem Sm6.sg {zs : Qs} (h : Sm6 zs) : Sg zs.length zs := ⟨rfl, h.cq, fun p hp => by
  obtain ⟨h1, h2, h3⟩ := h.each p hp
  exact ⟨lt_up (a := 3) (by omega) (by decide), lt_up (a := 3) (by omega) (by decide)⟩⟩
theorem stand_sm6 {n : PyData} {d : PyData} (h : standR [n] d) : ∃ (m : Nat) (zs : Qs), n = .int (m : Nat) ∧ d = stT zs ∧ zs.length = m ∧ (∀ p ∈ zs, 0 < p.2 ∧ p.1.natAbs ≤ 4 ∧ p.2.natAbs ≤ 4) ∧ ∀ p ∈ zs, Cq p := by
  obtain ⟨m, xs, e, rfl, hl, hx⟩ := h
  cases e
  have go : ∀ xs : List PyData, (∀ x ∈ xs, ∃ a c : Int, x = fr a c ∧ 0 < c ∧ c ≤ 3 ∧ a.natAbs ≤ 4) → ∃ zs : Qs, xs = stL zs ∧ (∀ p ∈ zs, 0 < p.2 ∧ p.1.natAbs ≤ 4 ∧ p.2.natAbs ≤ 4) ∧ ∀ p ∈ zs, Cq p := by
    intro xs
    induction xs with
    | nil => intro _; exact ⟨[], rfl, (fun p hp => nomatch hp), (fun p hp => nomatch hp)⟩
    | cons x xs ih =>
      intro h
      obtain ⟨zs, e, hz, hc⟩ := ih fun y hy => h y (by simp [hy])
      obtain ⟨a, c, rfl, c0, c3, a4⟩ := h x (by simp)
      refine ⟨(frN a c, frD a c) :: zs, by rw [e]; rfl, fun p hp => ?_, fun p hp => ?_⟩
      · rcases List.mem_cons.mp hp with rfl | hp
        · exact frN4 c0 a4 (by omega)
        · exact hz p hp
      · rcases List.mem_cons.mp hp with rfl | hp
        · exact cq_fr (by omega)
        · exact hc p hp
  obtain ⟨zs, e, hz, hc⟩ := go xs hx
  refine ⟨m, zs, rfl, by rw [e]; rfl, ?_, hz, hc⟩
  rw [e] at hl
  unfold stL at hl
  rw [List.length_map] at hl
  exact hl
structure RlT (n : Nat) (r : Rl) : Prop where
  l : r.ms.length = n
  m : ∀ m ∈ r.ms, m.natAbs ≤ 3
  b : r.b.natAbs < 2 ^ 18
structure BkT (n : Nat) (rs : List Rl) : Prop where
  rl : rs.length ≤ 16
  rr : ∀ r ∈ rs, RlT n r
  eq : (rs.filter (·.s)).length ≤ 2
theorem BkT.eqn {n : Nat} {rs : List Rl} (h : BkT n rs) : (eqR rs).length ≤ 2 := by
  unfold eqR
  rw [List.length_map]
  refine Nat.le_trans ?_ h.eq
  rw [← List.countP_eq_length_filter, ← List.countP_eq_length_filter]
  refine List.countP_mono_left fun r _ hr => ?_
  unfold eqT at hr
  rw [Bool.and_eq_true] at hr
  exact hr.1
def dRuT (ds : List PyData) : Prop := ∃ zs : Qs, ds = [stT zs] ∧ Sm6 zs ∧ 1 ≤ zs.length
def rRuT (ds : List PyData) (d : PyData) : Prop := ∀ zs : Qs, ds = [stT zs] → ∃ r, d = ruD r ∧ RlT zs.length r
/-- whether a row's data begin with "=" -/
def isE : PyData → Bool
  | .tuple (.str s :: _) => decide (s = ("=" : Str))
  | _ => false
theorem isE_ruD (r : Rl) : isE (ruD r) = r.s := by
  rw [← sg_eq r]
  rfl
theorem cnt_ruD (rs : List Rl) : (rs.map ruD).countP isE = (rs.filter (·.s)).length := by
  rw [List.countP_map, List.countP_eq_length_filter]
  congr 1
  refine List.filter_congr fun r _ => isE_ruD r
theorem wc1 : ∀ r, r ≤ 2 → FB (6 - r) (FB r 3 ^ (r + 1)) ≤ 2 ^ 464
  | 0, _ => by decide +kernel
  | 1, _ => by decide +kernel
  | 2, _ => by decide +kernel
theorem wc0 : FB 2 3 < 2 ^ 2000 := by decide +kernel
/-- a step along a way -/
theorem step6 {p q : Int} {ys : Qs} {ws : List Int} (hq : 0 < q) (hp : p.natAbs < 2 ^ 98) (hqb : q.natAbs < 2 ^ 552) (hl : ys.length = ws.length) (hy : ∀ z ∈ ys, 0 < z.2 ∧ z.1.natAbs ≤ 5000 ∧ z.2.natAbs ≤ 5000) (hw : ∀ w ∈ ws, w.natAbs ≤ 2 ^ 466) :
    Sg ys.length (addS ys (mulS p q (one1 ws))) := by
  have len : (addS ys (mulS p q (one1 ws))).length = ys.length := by
    unfold addS mulS one1
    simp only [List.length_map, List.length_zip]
    omega
  have each : ∀ z ∈ addS ys (mulS p q (one1 ws)), Cq z ∧ z.1.natAbs < 2 ^ 600 ∧ z.2.natAbs < 2 ^ 600 := by
    intro z hz
    obtain ⟨⟨a, b⟩, hab, rfl⟩ := List.mem_map.mp hz
    obtain ⟨ha, hb⟩ := List.of_mem_zip hab
    obtain ⟨y, hy2, rfl⟩ := List.mem_map.mp hb
    obtain ⟨w, hw2, rfl⟩ := List.mem_map.mp hy2
    obtain ⟨a0, a1, a2⟩ := hy a ha
    have wb := hw w hw2
    have q1 : q * 1 ≠ 0 := by omega
    have n1 : (frN (p * w) (q * 1)).natAbs < 2 ^ 565 := by
      refine Nat.lt_of_le_of_lt (frN_le _ _ q1) ?_
      exact lt_up (nat_mul_lt (b := 467) hp (Nat.lt_of_le_of_lt wb (Nat.pow_lt_pow_right (by decide) (by decide)))) (by decide)
    have d1 : (frD (p * w) (q * 1)).natAbs < 2 ^ 552 := Nat.lt_of_le_of_lt (frD_le _ _ q1) (by rw [Int.mul_one]; exact hqb)
    have d0 := frD_pos (n := p * w) q1
    have a1' : a.1.natAbs < 2 ^ 13 := Nat.lt_of_le_of_lt a1 (by decide)
    have a2' : a.2.natAbs < 2 ^ 13 := Nat.lt_of_le_of_lt a2 (by decide)
    have t1 := nat_mul_lt a1' d1
    have t2 := nat_mul_lt n1 a2'
    have t3 := nat_mul_lt a2' d1
    have hD : a.2 * frD (p * w) (q * 1) ≠ 0 := Int.mul_ne_zero (by omega) (by omega)
    have t4 : (a.1 * frD (p * w) (q * 1) + frN (p * w) (q * 1) * a.2).natAbs < 2 ^ 579 := by
      refine Nat.lt_of_le_of_lt (Int.natAbs_add_le _ _) ?_
      have e1 : (2 : Nat) ^ (13 + 552) ≤ 2 ^ 578 := Nat.pow_le_pow_right (by decide) (by decide)
      have e2 : (2 : Nat) ^ (565 + 13) = 2 ^ 578 := rfl
      have e3 : (2 : Nat) ^ 579 = 2 ^ 578 + 2 ^ 578 := by rw [show (579 : Nat) = 578 + 1 from rfl, Nat.pow_succ]; omega
      omega
    refine ⟨cq_fr hD, Nat.lt_of_le_of_lt (frN_le _ _ hD) (lt_up t4 (by decide)), Nat.lt_of_le_of_lt (frD_le _ _ hD) (lt_up t3 (by decide))⟩
  exact ⟨len, fun z hz => (each z hz).1, fun z hz => (each z hz).2⟩
/-- how far a rule lets go -/
theorem room6 {r b : Int} {N D : Int} (hr : 0 < r) (hrb : r.natAbs < 2 ^ 471) (hb : b.natAbs < 2 ^ 18) (hD : 0 < D) (hN : N.natAbs < 2 ^ 83) (hDb : D.natAbs < 2 ^ 79) :
    ∃ p q : Int, fOver [fMinus [FrD b 1, FrD N D], FrD r 1] = FrD p q ∧ 0 < q ∧ p.natAbs < 2 ^ 98 ∧ q.natAbs < 2 ^ 550 := by
  have d1 : 1 * D ≠ 0 := by omega
  have u := frN_le (b * D - N * 1) (1 * D) d1
  have v := frD_le (b * D - N * 1) (1 * D) d1
  have v0 := frD_pos (n := b * D - N * 1) d1
  have ub : (b * D - N * 1).natAbs < 2 ^ 98 := by
    have t := nat_mul_lt hb hDb
    have e1 : (2 : Nat) ^ (18 + 79) = 2 ^ 97 := rfl
    have e2 : (2 : Nat) ^ 83 ≤ 2 ^ 97 := Nat.pow_le_pow_right (by decide) (by decide)
    have e3 : (2 : Nat) ^ 98 = 2 ^ 97 + 2 ^ 97 := by decide
    omega
  have q0 : frD (b * D - N * 1) (1 * D) * r ≠ 0 := Int.mul_ne_zero (by omega) (by omega)
  refine ⟨frN (frN (b * D - N * 1) (1 * D) * 1) (frD (b * D - N * 1) (1 * D) * r), frD (frN (b * D - N * 1) (1 * D) * 1) (frD (b * D - N * 1) (1 * D) * r), rfl, frD_pos q0, ?_, ?_⟩
  · refine Nat.lt_of_le_of_lt (frN_le _ _ q0) ?_
    rw [Int.mul_one]
    exact Nat.lt_of_le_of_lt u ub
  · refine Nat.lt_of_le_of_lt (frD_le _ _ q0) ?_
    have e : (frD (b * D - N * 1) (1 * D)).natAbs < 2 ^ 79 := Nat.lt_of_le_of_lt v (by rw [Int.one_mul]; exact hDb)
    exact nat_mul_lt e hrb
/-- limits so far -/
def Ms6 (d : PyData) : Prop := d = .none ∨ ∃ p q : Int, d = FrD p q ∧ 0 < q ∧ p.natAbs < 2 ^ 98 ∧ q.natAbs < 2 ^ 550
theorem Ms6.tup {d : PyData} (h : Ms6 d) : d = .none ∨ ∃ l, d = .tuple l := by
  rcases h with h | ⟨p, q, h, _⟩
  · exact .inl h
  · exact .inr ⟨_, h⟩
def dGo6 (ds : List PyData) : Prop := ∃ (x : FrX) (rs : List Rl) (zs : Qs), ds = [bkD (frTp x.cs x.gs x.fs x.w) rs, stT zs] ∧ x.cs.length = zs.length ∧ BkT zs.length rs ∧ Sm6 zs ∧ 1 ≤ zs.length
def rGo6 (ds : List PyData) (d : PyData) : Prop := ∀ f rs zs, ds = [bkD f rs, stT zs] → ∃ ys : Qs, d = stT ys ∧ Sg zs.length ys
end Dl
set_option Elab.async false
set_option linter.all false
set_option maxRecDepth 100000
set_option maxHeartbeats 4000000
namespace Dl
open PySem PySem.Spec PyProof.Rows L2
/-! values of which something is known, found with their names -/
section
variable {K : PySem.W.Frag} {env : List Sl} {b : Option Addr} {ms : Ms} {te ti ta tb : TE} {P Pa Pb : PyData → Prop} {G H G0 H0 Gs : Hp} {σ : L2.St} {D : Ends} {tz : TS}
def EvE (K : PySem.W.Frag) (env : List Sl) (b : Option Addr) (ms : Ms) (te : TE) {α : Type} (P : α → Prop) (F : α → Hp → V → Prop) : Prop :=
  ∀ (σ : L2.St) (G H : Hp), EnvOk K G σ env → Same G H → JB K b ms G H → ∀ Q : VK, (∀ x v G2 H2, Grow (Mb b) G H G2 H2 → JB K b ms G2 H2 → P x → Up (F x) G2 v → Q v H2) → te σ H Q
theorem q_asgE {α : Type} {Px : α → Prop} {F : α → Hp → V → Prop} {i : Nat} (A : At K env b ms G0 H0 Gs σ G H) (h : EvE K env b ms te Px F) (k : ∀ x σ' G' H', Px x → At K (env.set i (.r (F x))) b ms G0 H0 Gs σ' G' H' → tz D σ' H') : tSeq (tAsg te (gName i)) tz D σ H :=
  h σ G H A.env A.gr.gh A.j _ fun x v G2 H2 g j p u => k x _ G2 H2 p ((A.step g j).put (e := .r (F x)) ⟨v, rfl, u⟩)
theorem s_retE {α : Type} {Px : α → Prop} {F : α → Hp → V → Prop} (A : At K env b ms G0 H0 Gs σ G H) (h : EvE K env b ms te Px F) (k : ∀ x v G' H', Grow (Mb b) G0 H0 G' H' → JB K b ms G' H' → Px x → Up (F x) G' v → D.rt v H') : tRet te D σ H :=
  h σ G H A.env A.gr.gh A.j _ fun x v G2 H2 g j p u => k x v G2 H2 (A.gr.trans g) j p u
theorem s_retU {R : Hp → V → Prop} (A : At K env b ms G0 H0 Gs σ G H) (h : EvU K env b ms te R) (k : ∀ v G' H', Grow (Mb b) G0 H0 G' H' → JB K b ms G' H' → Up R G' v → D.rt v H') : tRet te D σ H :=
  h σ G H A.env A.gr.gh A.j _ fun v G2 H2 g j u => k v G2 H2 (A.gr.trans g) j u
theorem eve_tupF {Q : List Str → Prop} {Pr : List PyData → Prop} (h : EvN K env b ms te Pr) (hs : ∀ l, Pr l → ∃ cs, l = sTs cs ∧ Q cs) : EvE K env b ms (tCB (rTupF K) (tCons te tNil)) Q (fun cs => Tn (cs.map V.str)) := fun σ G H e s j k0 k =>
  h σ G H e s j _ fun p xs ds G1 H1 g1 j1 n f hp da q => by
    obtain ⟨cs, rfl, qc⟩ := hs ds q
    rw [vals_str da] at hp
    refine ⟨p, cs.map V.str, rfl, SqL.of hp, fun l o hl hc hd => ?_⟩
    have g2 : Grow No G1 H1 (upd G1 l (.frz o (.tup (cs.map V.str)))) (upd H1 l (.frz o (.tup (cs.map V.str)))) := Grow.lay g1.gh hl
    exact k cs _ _ _ (g1.trans g2.no) (j1.grow g2) qc (Tn.up ⟨l, o, rfl, upd_same, hc, hd⟩)
theorem ev_tn {cs : List Str} (h : EvU K env b ms te (Tn (cs.map V.str))) : EvP K env b ms te (Is (.tuple (sTs cs))) := ev_ofU h fun G v u => ⟨_, u.dp, rfl⟩
/-- a def that draws from the bag and gives a value of which something is known -/
def spBU (K : PySem.W.Frag) {α : Type} (n : Nat) (dom : List PyData → Prop) (P : List PyData → α → Prop) (F : α → Hp → V → Prop) : Sp := fun vs H Q _ => ∃ (x : Addr) (ws : List V), vs = .ref x :: ws ∧ ws.length = n ∧ ∃ (ds : List PyData) (G : Hp), Same G H ∧ BagAt K x G H ∧ DpAll K G ws ds ∧ dom ds ∧
  ∀ y v G' H', Grow (Mb (some x)) G H G' H' → BagAt K x G' H' → P ds y → Up (F y) G' v → Q v H'
theorem spBU_len {α : Type} {n : Nat} {dom : List PyData → Prop} {P : List PyData → α → Prop} {F : α → Hp → V → Prop} {vs : List V} {Q : VK} {E : XK} (h : spBU K n dom P F vs H Q E) : vs.length = n + 1 := by
  obtain ⟨x, ws, rfl, e, _⟩ := h
  simp [e]
theorem eve_callB {α : Type} {n : Nat} {dom : List PyData → Prop} {Px : List PyData → α → Prop} {F : α → Hp → V → Prop} {t : TA} {i : Nat} {x : Addr} {Pl : List PyData → Prop} (hi : env[i]? = some (.a x)) (hb : b = some x) (ha : EaP K env b ms t Pl) (hd : ∀ ds, Pl ds → ds.length = n ∧ dom ds) :
    EvE K env b ms (tCall (spBU K n dom Px F) [] E0 (tCons (tVar i) t)) (fun y => ∃ ds, Pl ds ∧ Px ds y) F := fun σ G H e s j Q k =>
  ⟨.ref x, e.addr hi, ha σ G H e s j _ fun vs ds G1 H1 g1 j1 p1 q1 => by
    obtain ⟨h1, h2⟩ := hd ds q1
    rw [List.append_nil]
    refine ⟨x, vs, rfl, by rw [dpa_len p1]; exact h1, ds, G1, g1.gh, j1.bag x hb, p1, h2, fun y v G2 H2 g2 bg p2 u2 => ?_⟩
    have g2 : Grow (Mb b) G1 H1 G2 H2 := by rw [hb]; exact g2
    exact k y v G2 H2 (g1.trans g2) (j1.growB g2 fun z ez => by rw [hb] at ez; cases ez; exact bg) ⟨ds, q1, p2⟩ u2⟩
/-- a frame's book and a stand, one tuple -/
def BsR (K : PySem.W.Frag) (x : FrX × List Rl × Qs) (G : Hp) (v : V) : Prop := ∃ (a : Addr) (u s : V), v = .ref a ∧ SqT K G a [u, s] ∧ BkR K x.1.cs x.1.gs x.1.fs x.1.w x.2.1 G u ∧ Dp K G s (stT x.2.2)
theorem BsR.up {x : FrX × List Rl × Qs} {v : V} (h : BsR K x G v) : Up (BsR K x) G v := fun G2 e => by
  obtain ⟨a, u, s, rfl, q, h1, h2⟩ := h
  exact ⟨a, u, s, rfl, sqt_dat e q, h1.up G2 e, dp_dat e _ _ h2⟩
theorem eve_mkBs {fx : FrX} {zs : Qs} {Pr : List Rl → Prop} {tf tr ts : TE} (hf : EvU K env b ms tf (fx.R K)) (hr : EvP K env b ms tr (fun d => ∃ rs : List Rl, d = .tuple (rs.map ruD) ∧ Pr rs)) (hs : EvP K env b ms ts (Is (stT zs))) :
    EvE K env b ms (tTup (tCons (tTup (tCons tf (tCons tr tNil))) (tCons ts tNil))) (fun x : FrX × List Rl × Qs => x.1 = fx ∧ Pr x.2.1 ∧ x.2.2 = zs) (BsR K) := fun σ G H e s j Q k =>
  hf σ G H e s j _ fun v G1 H1 g1 j1 u1 => hr σ G1 H1 (e.mono g1.g) g1.gh j1 _ fun w d G2 H2 g2 j2 p2 q2 => by
    obtain ⟨rs, rfl, pr⟩ := q2
    refine ⟨two_ok, fun l hl => ?_⟩
    have g3 : Grow No G2 H2 (upd G2 l (.tup [v, w])) (upd H2 l (.tup [v, w])) := Grow.lay g2.gh hl
    have ub : BkR K fx.cs fx.gs fx.fs fx.w rs (upd G2 l (.tup [v, w])) (.ref l) := ⟨l, v, w, rfl, SqT.of upd_same, (u1.dat (Same.dat (g2.g.trans g3.g))).now, dp_mono g3.g _ _ p2⟩
    refine hs σ _ _ (e.mono ((g1.g.trans g2.g).trans g3.g)) g3.gh (j2.grow g3) _ fun z d2 G4 H4 g4 j4 p4 q4 => ?_
    subst q4
    refine ⟨two_ok, fun l2 hl2 => ?_⟩
    have g5 : Grow No G4 H4 (upd G4 l2 (.tup [.ref l, z])) (upd H4 l2 (.tup [.ref l, z])) := Grow.lay g4.gh hl2
    exact k (fx, rs, zs) _ _ _ ((((g1.trans g2).trans g3.no).trans g4).trans g5.no) (j4.grow g5) ⟨rfl, pr, rfl⟩ (BsR.up ⟨l2, .ref l, z, rfl, SqT.of upd_same, (ub.up _ (Same.dat (g4.g.trans g5.g))), dp_mono g5.g _ _ p4⟩)
/-- book, stand = .. -/
theorem q_unpBs {i l : Nat} {Px : FrX × List Rl × Qs → Prop} (A : At K env b ms G0 H0 Gs σ G H) (h : EvE K env b ms te Px (BsR K))
    (k : ∀ x σ' G' H', Px x → At K ((env.set i (.r (BkR K x.1.cs x.1.gs x.1.fs x.1.w x.2.1))).set l (.d (stT x.2.2))) b ms G0 H0 Gs σ' G' H' → tz D σ' H') : tSeq (tAsg te (gTup K 2 (gCons (gName i) (gCons (gName l) gNil)))) tz D σ H :=
  h σ G H A.env A.gr.gh A.j _ fun x v G2 H2 g j p u => by
    obtain ⟨a, v1, v2, rfl, q, h1, h2⟩ := u.now
    exact ⟨_, _, rfl, sqt_mono g.gh q, rfl, _, _, rfl, _, _, rfl, rfl, k x _ G2 H2 p (((A.step g j).put (e := .r _) ⟨v1, rfl, h1.up⟩).put (slot_d h2))⟩
end
end Dl
set_option Elab.async false
set_option linter.all false
set_option maxRecDepth 100000
set_option maxHeartbeats 4000000
namespace Dl
open PySem PySem.Spec PyProof.Rows L2
/-! data of not too many parts, none of which is too long to be shown -/
structure Sz (d : PyData) (w h : Nat) : Prop where
  can : d.canLay0 = true
  dep : d.depth ≤ h
  blk : d.bulk ≤ w
  sho : d.leavesShort 1910 = true
  shw : d.showable = true
structure SzA (l : List PyData) (w h : Nat) : Prop where
  can : PyData.canLayAll0 l = true
  dep : PyData.depthAll l ≤ h
  blk : PyData.bulkAll l ≤ w
  sho : PyData.leavesShortAll 1910 l = true
  shw : PyData.showableAll l = true
theorem sz_int {i : Int} {h : Nat} (hi : i.natAbs < 2 ^ 1900) : Sz (.int i) 0 h := by
  have l6 : i.natAbs.log2 < 1900 := by
    by_cases z : i.natAbs = 0
    · rw [z]; decide
    · exact (Nat.log2_lt z).mpr hi
  refine ⟨by simp only [PyData.canLay0], by simp only [PyData.depth]; omega, by simp only [PyData.bulk]; omega, ?_, ?_⟩
  · have h1 := int_text_length_le (a := i) (k := 1900) (by decide) l6
    simp only [PyData.leavesShort, decide_eq_true_eq]
    have e : (PyData.shown (.int i)).length = (Str.ofString (toString i)).length := by simp only [PyData.shown]
    rw [e, PySem.ofString_length]
    omega
  · simp only [PyData.showable, decide_eq_true_eq]; omega
theorem Sz.le {d : PyData} {w w' h h' : Nat} (s : Sz d w h) (hw : w ≤ w') (hh : h ≤ h') : Sz d w' h' := ⟨s.can, Nat.le_trans s.dep hh, Nat.le_trans s.blk hw, s.sho, s.shw⟩
theorem SzA.le {d : List PyData} {w w' h h' : Nat} (s : SzA d w h) (hw : w ≤ w') (hh : h ≤ h') : SzA d w' h' := ⟨s.can, Nat.le_trans s.dep hh, Nat.le_trans s.blk hw, s.sho, s.shw⟩
theorem sza_nil {h : Nat} : SzA [] 0 h := ⟨by simp only [PyData.canLayAll0], by simp only [PyData.depthAll]; omega, by simp only [PyData.bulkAll]; omega, by simp only [PyData.leavesShortAll], by simp only [PyData.showableAll]⟩
theorem sza_cons {d : PyData} {l : List PyData} {w w2 h : Nat} (a : Sz d w h) (b : SzA l w2 h) : SzA (d :: l) (w + 1 + w2) h :=
  ⟨by simp only [PyData.canLayAll0, a.can, b.can, Bool.and_self], by simp only [PyData.depthAll]; have := a.dep; have := b.dep; omega, by simp only [PyData.bulkAll]; have := a.blk; have := b.blk; omega, by simp only [PyData.leavesShortAll, a.sho, b.sho, Bool.and_self], by simp only [PyData.showableAll, a.shw, b.shw, Bool.and_self]⟩
theorem sza_all {l : List PyData} {w h : Nat} (a : ∀ x ∈ l, Sz x w h) : SzA l ((w + 1) * l.length) h := by
  induction l with
  | nil => exact sza_nil
  | cons x l ih =>
    have h1 := sza_cons (a x (by simp)) (ih fun y hy => a y (by simp [hy]))
    refine h1.le ?_ (Nat.le_refl _)
    rw [List.length_cons, Nat.mul_add]; omega
theorem sz_list {l : List PyData} {w h : Nat} (a : SzA l w h) : Sz (.list l) w (h + 1) :=
  ⟨by simp only [PyData.canLay0]; exact a.can, by simp only [PyData.depth]; have := a.dep; omega, by simp only [PyData.bulk]; exact a.blk, by simp only [PyData.leavesShort]; exact a.sho, by simp only [PyData.showable]; exact a.shw⟩
theorem sz_tup {l : List PyData} {w h : Nat} (a : SzA l w h) : Sz (.tuple l) w (h + 1) :=
  ⟨by simp only [PyData.canLay0]; exact a.can, by simp only [PyData.depth]; have := a.dep; omega, by simp only [PyData.bulk]; exact a.blk, by simp only [PyData.leavesShort]; exact a.sho, by simp only [PyData.showable]; exact a.shw⟩
theorem Sz.shown {d : PyData} {w h : Nat} (s : Sz d w h) (hw : w ≤ 8000) : d.shown.length ≤ sizeLine := by
  have h1 := PyData.shown_le_bulk 1910 (by decide) d s.sho
  have h2 : (1910 + 2) * d.bulk ≤ 1912 * 8000 := Nat.mul_le_mul (Nat.le_refl _) (Nat.le_trans s.blk hw)
  rw [sizeLine_eq]
  omega
theorem Sz.shaped {d : PyData} {w h : Nat} (s : Sz d w h) (hh : h ≤ 60) : SeqAt.shaped d = true := by
  unfold SeqAt.shaped
  rw [s.can, decide_eq_true (by have := s.dep; omega)]; rfl
theorem sz_q {q : Int × Int} (h1 : q.1.natAbs < 2 ^ 1900) (h2 : q.2.natAbs < 2 ^ 1900) {h : Nat} : Sz (encQ q) 2 (h + 1) := sz_tup (sza_cons (sz_int h1) (sza_cons (sz_int h2) sza_nil))
theorem sz_st {zs : Qs} (hl : zs.length ≤ 12) (hz : ∀ z ∈ zs, z.1.natAbs < 2 ^ 1900 ∧ z.2.natAbs < 2 ^ 1900) {h : Nat} : Sz (stT zs) 36 (h + 2) := by
  refine (sz_tup (sza_all (w := 2) (h := h + 1) fun x hx => ?_)).le ?_ (Nat.le_refl _)
  · obtain ⟨z, hz2, rfl⟩ := List.mem_map.mp hx
    exact sz_q (hz z hz2).1 (hz z hz2).2
  · unfold stL
    rw [List.length_map]
    omega
theorem sz_nats {l : List Nat} (hl : l.length ≤ 12) (hb : ∀ i ∈ l, i < 2 ^ 60) {h : Nat} : Sz (.tuple (natL l)) 12 (h + 1) := by
  refine (sz_tup (sza_all (w := 0) (h := h) fun x hx => ?_)).le (by rw [natL_len]; omega) (Nat.le_refl _)
  obtain ⟨i, hi, rfl⟩ := List.mem_map.mp hx
  exact sz_int (Nat.lt_trans (show ((i : Nat) : Int).natAbs < 2 ^ 60 from by have := hb i hi; omega) (Nat.pow_lt_pow_right (by decide) (by decide)))
theorem sz_nm {x : PyData} (hx : x ∈ nm12) {h : Nat} : Sz x 12 h := by
  simp only [nm12, List.mem_cons, List.not_mem_nil, or_false] at hx
  have key : ∀ s : Str, PyData.canLay0 (.str s) = true → PyData.leavesShort 1910 (.str s) = true → PyData.bulk (.str s) ≤ 12 → Sz (.str s) 12 h := fun s h1 h2 h3 => ⟨h1, by simp only [PyData.depth]; omega, h3, h2, by simp only [PyData.showable]⟩
  rcases hx with rfl | rfl | rfl | rfl | rfl | rfl | rfl | rfl | rfl | rfl | rfl | rfl <;> exact key _ (by decide +kernel) (by decide +kernel) (by decide +kernel)
theorem sz_word {s : Str} (hs : s = "usual" ∨ s = "strict" ∨ s = "told" ∨ s = "clash") {h : Nat} : Sz (.str s) 12 h := by
  have key : ∀ s : Str, PyData.canLay0 (.str s) = true → PyData.leavesShort 1910 (.str s) = true → PyData.bulk (.str s) ≤ 12 → Sz (.str s) 12 h := fun s h1 h2 h3 => ⟨h1, by simp only [PyData.depth]; omega, h3, h2, by simp only [PyData.showable]⟩
  rcases hs with rfl | rfl | rfl | rfl <;> exact key _ (by decide +kernel) (by decide +kernel) (by decide +kernel)
theorem sz_names {l : List Str} (hl : l.length ≤ 12) (hm : ∀ c ∈ l, PyData.str c ∈ nm12) {h : Nat} : Sz (.tuple (sTs l)) 156 (h + 1) := by
  refine (sz_tup (sza_all (w := 12) (h := h) fun x hx => ?_)).le (by unfold sTs; rw [List.length_map]; omega) (Nat.le_refl _)
  obtain ⟨c, hc, rfl⟩ := List.mem_map.mp hx
  exact sz_nm (hm c hc)
theorem FrW.sz {cs : List Str} {gs : List (List Str)} {fs : List Str} {w : Str} (F : FrW cs gs fs w) {h : Nat} : Sz (frTp cs gs fs w) 2400 (h + 4) := by
  have s1 : Sz (.tuple (sTs cs)) 156 (h + 3) := sz_names F.le F.nm
  have s2 : Sz (.tuple (sTs fs)) 156 (h + 3) := sz_names F.fl fun c hc => F.nm c (F.fr.subset hc)
  have s3 : Sz (.tuple (gs.map fun g => .tuple (sTs g))) 1884 (h + 3) := by
    refine (sz_tup (sza_all (w := 156) (h := h + 2) fun x hx => ?_)).le (by rw [List.length_map]; have := F.gl; omega) (Nat.le_refl _)
    obtain ⟨g, hg, rfl⟩ := List.mem_map.mp hx
    exact sz_names (F.gg hg) fun c hc => F.nm c ((F.ps g hg).2.subset hc)
  exact (sz_tup (sza_cons s1 (sza_cons s3 (sza_cons s2 (sza_cons (sz_word (h := h + 3) (by rcases F.wy with h | h; exact .inl h; exact .inr (.inl h))) sza_nil))))).le (by decide) (Nat.le_refl _)
section
variable {K : PySem.W.Frag} {env : List Sl} {b : Option Addr} {ms : Ms} {te : TE} {T : List (Addr × Str)} {G H : Hp} {σ : L2.St}
theorem ev_reprZ {l : List PyData} {w h : Nat} (hs : Sz (.list l) w h) (hw : w ≤ 8000) (hh : h ≤ 60) (he : EvP K env b ms te (Is (.list l))) : EvP K env b ms (tCB (rRepr K) (tCons te tNil)) (Is (.str (PyData.list l).shown)) :=
  ev_cb (ea_cons he ea_nil) (rc_repr (fun v G p => by cases p; exact ⟨_, rfl⟩) hs.shw (PyData.hasDict_of_canLay _ hs.can) (Nat.le_trans hs.dep hh) (hs.shown hw))
/-- two equal data, compared and shown -/
def spAlikeZ (K : PySem.W.Frag) : Sp := fun vs H Q _ => vs.length = 2 ∧ ∃ (x : PyData) (G : Hp), Same G H ∧ DpAll K G vs [x, x] ∧ (∃ l, x = .list l ∨ x = .tuple l) ∧ Sz x 8000 60 ∧ ∀ G' H', Grow No G H G' H' → Q (.bl true) H'
theorem alike_readZ {H : Hp} {vs : List V} {Q : VK} {E : XK} (h : spAlikeZ K vs H Q E) {N : List Str} (hN : N.length = 2) :
    tRet (tAndV (tOp (rEqD K) (tVar 0) (tVar 1)) (tOp rEq (tCB (rRepr K) (tCons (tVar 0) tNil)) (tCB (rRepr K) (tCons (tVar 1) tNil)))) { nx := fun _ H' => Q .non H', rt := Q } (L2.start N vs) H := by
  obtain ⟨hl, x, G, sG, da, ⟨l, hx⟩, S, k⟩ := h
  have A := at_pure (N := N) sG da (by omega)
  rw [hN] at A
  have rr : RcP K none [] (rRepr K) [x] (Is (.str x.shown)) :=
    rc_repr (fun v G p => by
      rcases hx with rfl | rfl
      · cases p; exact ⟨_, rfl⟩
      · cases p; exact ⟨_, rfl⟩) S.shw (PyData.hasDict_of_canLay _ S.can) S.dep (S.shown (Nat.le_refl _))
  refine s_ret A (ev_andV (ev_eqD (ev_var rfl) (ev_var rfl) (S.shaped (Nat.le_refl _)) (S.shaped (Nat.le_refl _))) fun _ => ev_eqS (ev_cb (ea_cons (ev_var rfl) ea_nil) rr) (ev_cb (ea_cons (ev_var rfl) ea_nil) rr)) ?_
  intro v d G' H' g j p e
  have e2 : PyData.eqv x x = true := SeqAt.eqv_refl _ S.can
  rw [e2, decide_eq_true rfl] at e
  subst e
  cases p
  exact k G' H' (g.wide fun b z => nomatch z)
theorem ev_alikeZ {ta : TA} {x : PyData} (ha : EaP K env b ms ta (Is [x, x])) (hx : ∃ l, x = .list l ∨ x = .tuple l) (sm : Sz x 8000 60) : EvP K env b ms (tCall (spAlikeZ K) [] E0 ta) (Is (.bool true)) := fun σ G H e s jb Q k => by
  refine ha σ G H e s jb _ fun vs ds G2 H2 g j p q => ?_
  subst q
  rw [List.append_nil]
  exact ⟨by rw [dpa_len p]; rfl, x, G2, g.gh, p, hx, sm, fun G' H' g2 => k _ _ G' H' (g.trans g2.no) (j.grow g2) (.bl true) rfl⟩
theorem etT_alikeZ {j : Nat} {x : PyData} (h : EvT K env b ms T te (Is x)) (hj : env[j]? = some (.d x)) (hx : ∃ l, x = .list l ∨ x = .tuple l) (sm : Sz x 8000 60) : EtT K env b ms T (tTest (tCall (spAlikeZ K) [] E0 (tCons te (tCons (tVar j) tNil)))) (Is true) := fun σ G H e s jb d t Q k => by
  refine h σ G H e s jb d t _ fun v y G2 H2 e2 s2 g2 j2 d2 t2 p2 q2 => ?_
  subst q2
  obtain ⟨w, e3, p3⟩ := e2.get hj
  refine ⟨w, e3, ?_⟩
  unfold tNil
  refine (show spAlikeZ K [v, w] H2 (fun x H' => ∃ c, x = V.bl c ∧ Q c H') E0 from ?_)
  refine ⟨rfl, y, G2, g2, .cons p2 (.cons p3 .nil), hx, sm, fun G' H' g3 => ⟨true, rfl, ?_⟩⟩
  refine k true (prune G') H' (env_dat datIn_prune (e2.mono g3.g)) (fun c o z => prune_at (g3.g c o (s2 c o z)) (d c o z)) (fun c o z => g3.gh c o (prune_of z).1) (jb_dat (j2.grow g3) datIn_prune (fun a z => prune_none z) fun c o z _ => z) prune_dat (tabs_other t2 fun c o z _ => g3.keep c o z fun z => z) rfl
theorem evt_imp {P P' : PyData → Prop} (h : EvT K env b ms T te P) (i : ∀ d, P d → P' d) : EvT K env b ms T te P' := fun σ G H e s j d t Q k =>
  h σ G H e s j d t Q fun v x G2 H2 e2 s2 g2 j2 d2 t2 p2 q2 => k v x G2 H2 e2 s2 g2 j2 d2 t2 p2 (i x q2)
theorem nil_dat : AllDat nil' := fun b o e => nomatch (show none = some o from e)
/-- for x in range(n): .., an act told within -/
theorem q_forT {D : Ends} {tz tu : TS} {n i : Nat} {t : TA} (A : AtT K env b ms T nil' σ G H) (ht : EaP K env b ms t (Is [.int (n : Nat)])) (hn : n < 2 ^ 60) (Pv : Nat → List Sl → Ms → Prop) (h0 : Pv 0 env ms)
    (hs : ∀ j env' ms' σ' G' H', j < n → Pv j env' ms' → AtT K (env'.set i (.d (.int (j : Nat)))) b ms' T nil' σ' G' H' →
      ∀ nx : L2.St → Hp → Prop, (∀ env2 ms2 σ2 G2 H2, Pv (j + 1) env2 ms2 → AtT K env2 b ms2 T nil' σ2 G2 H2 → nx σ2 H2) → tu { D with nx := nx, ct := nx, bk := tz D } σ' H')
    (hd : ∀ env' ms' σ' G' H', Pv n env' ms' → AtT K env' b ms' T nil' σ' G' H' → tz D σ' H') : tSeq (tFor (iRng1 t) (gName i) tu) tz D σ H :=
  ht σ G H A.a.env A.a.gr.gh A.a.j _ fun vs ds G1 H1 g1 j1 p1 q1 => by
    subst q1
    cases p1 with
    | cons p q =>
      cases q; cases p
      refine ⟨(n : Nat), rfl, by omega, by omega, ?_⟩
      have e : ((n : Nat) : Int).toNat = n := by omega
      rw [e]
      have A1 : AtT K env b ms T nil' σ (prune G1) H1 := A.next (A.a.step g1 j1) nil_dat
      obtain ⟨W, Y, wk, hw⟩ := iter_rng (K := K) (n := n) (G := nil')
      have ln : (intL n).length = n := intL_len n
      refine for_it wk (fun j σ2 H2 => j ≤ n ∧ ∃ env2 ms2 G2, Pv j env2 ms2 ∧ AtT K env2 b ms2 T nil' σ2 G2 H2) ⟨Nat.zero_le _, env, ms, _, h0, A1⟩ ?_ ?_ ?_
      · rintro j σ2 H2 _ ⟨_, env2, ms2, G2, _, A2⟩
        exact (hw G2 H2 A2.a.sg A2.a.gr.gh).1
      · rintro j x σ2 H2 H3 hlt ⟨_, env2, ms2, G2, p2, A2⟩ y
        obtain ⟨G3, d, g3, hd3, p3⟩ := (hw G2 H2 A2.a.sg A2.a.gr.gh).2 j x H3 hlt y
        rw [ln] at hlt
        rw [intL_get hlt] at hd3
        cases hd3
        have A3 := A2.next ((A2.a.step g3.no (A2.a.j.grow g3)).put (i := i) (slot_d p3)) nil_dat
        exact hs j env2 ms2 _ _ H3 hlt p2 A3 _ fun env5 ms5 σ5 G5 H5 p5 A5 => ⟨hlt, env5, ms5, G5, p5, A5⟩
      · rintro σ2 H2 ⟨_, env2, ms2, G2, p2, A2⟩
        rw [ln] at p2
        exact hd env2 ms2 σ2 G2 H2 p2 A2
end
end Dl
set_option Elab.async false
set_option linter.all false
set_option maxRecDepth 100000
set_option maxHeartbeats 4000000
namespace Dl
open PySem L2
/-! who stands above whom: parents by places, all below -/
abbrev Pars := List (List Nat)
def Below (ps : Pars) : Prop := ∀ (k : Nat) (l : List Nat), ps[k]? = some l → ∀ p ∈ l, p < k
inductive Reach (ps : Pars) (v : Nat) : Nat → Prop where
  | self : Reach ps v v
  | step {k p : Nat} {l : List Nat} : Reach ps v k → ps[k]? = some l → p ∈ l → Reach ps v p
theorem Reach.le {ps : Pars} {v k : Nat} (hb : Below ps) (h : Reach ps v k) : k ≤ v := by
  induction h with
  | self => exact Nat.le_refl _
  | step _ e m ih => exact Nat.le_trans (Nat.le_of_lt (hb _ _ e _ m)) ih
theorem Reach.trans {ps : Pars} {a b c : Nat} (h : Reach ps a b) (g : Reach ps b c) : Reach ps a c := by
  induction g with
  | self => exact h
  | step _ e m ih => exact ih.step e m
open scoped Classical in
/-- the elders of v, rising -/
noncomputable def eld (ps : Pars) (v : Nat) : List Nat := (List.range (v + 1)).filter fun k => decide (Reach ps v k)
open scoped Classical in
theorem mem_eld {ps : Pars} {v k : Nat} (hb : Below ps) : k ∈ eld ps v ↔ Reach ps v k := by
  unfold eld
  rw [List.mem_filter, List.mem_range]
  constructor
  · rintro ⟨_, h⟩; exact of_decide_eq_true h
  · intro h; exact ⟨Nat.lt_succ_of_le (h.le hb), decide_eq_true h⟩
theorem eld_rise {ps : Pars} {v : Nat} : (eld ps v).Pairwise (· < ·) := List.Pairwise.filter _ List.pairwise_lt_range
theorem eld_len {ps : Pars} {v : Nat} : (eld ps v).length ≤ v + 1 := by
  have := List.length_filter_le (fun k => @decide (Reach ps v k) (Classical.propDecidable _)) (List.range (v + 1))
  rw [List.length_range] at this
  exact this
/-- two rising lists with the same members are one -/
theorem rise_ext : ∀ {a b : List Nat}, a.Pairwise (· < ·) → b.Pairwise (· < ·) → (∀ x, x ∈ a ↔ x ∈ b) → a = b
  | [], [], _, _, _ => rfl
  | [], y :: b, _, _, h => absurd ((h y).mpr (List.mem_cons_self ..)) (by simp)
  | x :: a, [], _, _, h => absurd ((h x).mp (List.mem_cons_self ..)) (by simp)
  | x :: a, y :: b, pa, pb, h => by
    have a1 := (List.pairwise_cons.mp pa).1
    have b1 := (List.pairwise_cons.mp pb).1
    have xy : x = y := by
      have hx := (h x).mp (List.mem_cons_self ..)
      have hy := (h y).mpr (List.mem_cons_self ..)
      rcases List.mem_cons.mp hx with e | m
      · exact e
      · rcases List.mem_cons.mp hy with e | m2
        · exact e.symm
        · have := b1 x m; have := a1 y m2; omega
    subst xy
    have := rise_ext (List.pairwise_cons.mp pa).2 (List.pairwise_cons.mp pb).2 fun z => by
      constructor
      · intro m
        rcases List.mem_cons.mp ((h z).mp (List.mem_cons_of_mem _ m)) with e | m2
        · subst e; exact absurd (a1 _ m) (Nat.lt_irrefl _)
        · exact m2
      · intro m
        rcases List.mem_cons.mp ((h z).mpr (List.mem_cons_of_mem _ m)) with e | m2
        · subst e; exact absurd (b1 _ m) (Nat.lt_irrefl _)
        · exact m2
    rw [this]
/-- a closed lot that holds v, of such as are reached, is the elders -/
theorem closed_reach {ps : Pars} {v : Nat} {f : List Nat} (hv : v ∈ f) (h : ∀ x ∈ f, ∀ l, ps[x]? = some l → ∀ p ∈ l, p ∈ f) {k : Nat} (r : Reach ps v k) : k ∈ f := by
  induction r with
  | self => exact hv
  | step _ e m ih => exact h _ ih _ e _ m
/-- sorted(found) -/
theorem eld_of {ps : Pars} {v : Nat} {f s : List Nat} (hb : Below ps) (nd : f.Nodup) (hv : v ∈ f) (hr : ∀ x ∈ f, Reach ps v x) (hc : ∀ x ∈ f, ∀ l, ps[x]? = some l → ∀ p ∈ l, p ∈ f)
    (hp : s.Perm f) (hs : s.Pairwise (· ≤ ·)) : s = eld ps v := by
  have nds : s.Nodup := hp.symm.nodup nd
  refine rise_ext ?_ eld_rise fun x => ?_
  · have both : s.Pairwise (fun a b => a ≤ b ∧ a ≠ b) := List.Pairwise.and hs nds
    exact both.imp fun {a b} h => by omega
  · rw [mem_eld hb, hp.mem_iff]
    exact ⟨hr x, closed_reach hv hc⟩
/-! marks from above: what is marked when all above k are done -/
def Mk (ps : Pars) (v k j : Nat) : Prop := j = v ∨ ∃ q l, k < q ∧ Reach ps v q ∧ ps[q]? = some l ∧ j ∈ l
theorem mk_top {ps : Pars} {v j : Nat} (hb : Below ps) : Mk ps v v j ↔ j = v := by
  constructor
  · rintro (e | ⟨q, l, h, r, _, _⟩)
    · exact e
    · have := r.le hb; omega
  · exact .inl
theorem mk_at {ps : Pars} {v k : Nat} (hb : Below ps) : Mk ps v k k ↔ Reach ps v k := by
  constructor
  · rintro (e | ⟨q, l, _, r, e, m⟩)
    · rw [e]; exact .self
    · exact r.step e m
  · intro r
    cases r with
    | self => exact .inl rfl
    | step r e m => exact .inr ⟨_, _, hb _ _ e _ m, r, e, m⟩
theorem mk_step {ps : Pars} {v k j : Nat} {l : List Nat} (e : ps[k + 1]? = some l) : Mk ps v k j ↔ Mk ps v (k + 1) j ∨ (Reach ps v (k + 1) ∧ j ∈ l) := by
  constructor
  · rintro (h | ⟨q, l', h, r, e', m⟩)
    · exact .inl (.inl h)
    · by_cases c : q = k + 1
      · subst c
        rw [e] at e'; cases e'
        exact .inr ⟨r, m⟩
      · exact .inl (.inr ⟨q, l', by omega, r, e', m⟩)
  · rintro ((h | ⟨q, l', h, r, e', m⟩) | ⟨r, m⟩)
    · exact .inl h
    · exact .inr ⟨q, l', by omega, r, e', m⟩
    · exact .inr ⟨_, _, by omega, r, e, m⟩
/-- parents written otherwise, with the same members -/
theorem reach_same {ps qs : Pars} (h : ∀ (k : Nat) (l : List Nat), ps[k]? = some l → ∃ l', qs[k]? = some l' ∧ ∀ p ∈ l, p ∈ l') {v k : Nat} (r : Reach ps v k) : Reach qs v k := by
  induction r with
  | self => exact .self
  | step _ e m ih =>
    obtain ⟨l', e', h'⟩ := h _ _ e
    exact ih.step e' (h' _ m)
end Dl
set_option Elab.async false
set_option linter.all false
set_option maxRecDepth 100000
set_option maxHeartbeats 4000000
namespace Dl
open PySem PySem.Spec PyProof.Rows L2
/-! while; a list of ours lent to a def; the last of a list taken off within a row -/
section
variable {K : PySem.W.Frag} {env : List Sl} {b : Option Addr} {ms : Ms} {G0 H0 Gs G H : Hp} {σ : L2.St} {te ta tb : TE} {P Pa Pb : PyData → Prop} {tt : TT} {Pt : Bool → Prop} {D : Ends} {tu tw tz : TS}
/-- while tt: tu -/
theorem q_while (A : At K env b ms G0 H0 Gs σ G H) (Pv : Nat → List Sl → Ms → Prop) (Pc : Nat → List Sl → Ms → Bool → Prop) (m0 : Nat) (h0 : Pv m0 env ms)
    (ht : ∀ m env' ms', Pv m env' ms' → EtP K env' b ms' tt (Pc m env' ms'))
    (hs : ∀ m env' ms' Gt σ' G' H', Pv m env' ms' → Pc m env' ms' true → At K env' b ms' G0 H0 Gt σ' G' H' → ∀ nx : L2.St → Hp → Prop, (∀ m2 env2 ms2 σ2 G2 H2, m2 < m → Pv m2 env2 ms2 → At K env2 b ms2 G0 H0 Gt σ2 G2 H2 → nx σ2 H2) → tu { D with nx := nx, ct := nx, bk := tz D } σ' H')
    (hd : ∀ m env' ms' σ' G' H', Pv m env' ms' → Pc m env' ms' false → At K env' b ms' G0 H0 Gs σ' G' H' → tz D σ' H') : tSeq (tWhile tt tu) tz D σ H := by
  refine ⟨fun m σ' H' => ∃ env' ms' G', Pv m env' ms' ∧ At K env' b ms' G0 H0 G σ' G' H', ⟨m0, env, ms, G, h0, A.since (Same.refl _)⟩, ?_⟩
  rintro m σ1 H1 ⟨env1, ms1, G1, p1, A1⟩
  refine ht m env1 ms1 p1 σ1 G1 H1 A1.env A1.gr.gh A1.j _ fun c G2 H2 g2 j2 q2 => ?_
  have A2 := A1.step g2 j2
  cases c with
  | true =>
    rw [if_pos rfl]
    exact ⟨fun σ' H' => ∃ m', m' < m ∧ ∃ env' ms' G', Pv m' env' ms' ∧ At K env' b ms' G0 H0 G σ' G' H', fun σ' H' h => h,
      hs m env1 ms1 G σ1 G2 H2 p1 q2 A2 _ fun m2 env3 ms3 σ3 G3 H3 l p3 A3 => ⟨m2, l, env3, ms3, G3, p3, A3⟩⟩
  | false =>
    rw [if_neg (by decide)]
    exact hd m env1 ms1 σ1 G2 H2 p1 q2 (A2.since (A.sg.trans A2.sg))
/-- f(l, ..): l a list of ours, of tuples; what comes is a lot of whole numbers -/
theorem ev_lend {n i q : Nat} {l : Addr} {dom : List PyData → Prop} {R : List PyData → PyData → Prop} {t : TA} {d0 : List PyData} {ds es : List PyData} (hi : env[i]? = some (.a l)) (hm : ms[q]? = some (l, (.tuple d0 :: ds).map .d)) (ha : EaP K env b ms t (Is es)) (hl : es.length + 1 = n) (hd : dom (.list (.tuple d0 :: ds) :: es))
    (hR : ∀ d, R (.list (.tuple d0 :: ds) :: es) d → ∃ ns : List Int, d = .list (ns.map .int) ∧ ns ≠ []) : EvP K env b ms (tCall (spR K n dom R) [] E0 (tCons (tVar i) t)) (R (.list (.tuple d0 :: ds) :: es)) := fun σ G H e s j Q k =>
  ⟨.ref l, e.addr hi, ha σ G H e s j _ fun vs es' G1 H1 g1 j1 p1 q1 => by
    cases q1
    rw [List.append_nil]
    obtain ⟨gl, nb, xs, hl1, el⟩ := j1.mu _ (List.mem_of_getElem? hm)
    have up : Same G1 (upd G1 l (.lst xs)) := fun c o z => by rw [upd_ne (ne_of_none z gl)]; exact z
    have da : DpAll K G1 xs (.tuple d0 :: ds) := dpa_of_env _ _ el
    have gh : Same (upd G1 l (.lst xs)) H1 := fun c o z => by
      by_cases q : c = l
      · subst q; rw [upd_same] at z; cases z; exact hl1
      · rw [upd_ne q] at z; exact g1.gh _ _ z
    refine ⟨by rw [List.length_cons, dpa_len p1]; exact hl, _, upd G1 l (.lst xs), gh, .cons (.lst (.inl (.inl (upd_same ..))) (dpa_mono up _ _ da)) (dpa_mono up _ _ p1), hd, fun v d G2 H2 g2 p2 r2 => ?_⟩
    obtain ⟨ns, rfl, ne⟩ := hR d r2
    cases p2 with
    | lst sq dv =>
      rename_i p ys
      have ey := dpa_ints_inv dv
      subst ey
      -- p is not l
      have hx : ∃ a xs', xs = .ref a :: xs' := by
        cases da with
        | cons h t => cases h with
          | tup _ _ => exact ⟨_, _, rfl⟩
      have off : ∀ o, G2 p = some o → (o = .lst (ns.map V.int) ∨ ∃ u, o = .frz u (.lst (ns.map V.int))) → p ≠ l := by
        rintro o ho hc rfl
        have h2 := g2.g p _ (upd_same ..)
        rw [h2] at ho
        cases ho
        rcases hc with hc | ⟨u, hc⟩
        · obtain ⟨a, xs', rfl⟩ := hx
          cases ns with
          | nil => exact ne rfl
          | cons z r => injection hc with hc; injection hc with hc _; cases hc
        · cases hc
      have key : ∀ o, G2 p = some o → p ≠ l → Grow No G1 H1 (upd G1 p o) H2 := by
        intro o ho pl
        have sm : ∀ u, G1 p = some u → u = o := fun u hu => by
          have := g2.g p u (up p u hu)
          rw [ho] at this; exact (Option.some.inj this).symm
        refine ⟨fun c u z => ?_, fun c u z => ?_, g2.dom, g2.keep, fun c u z => ?_⟩
        · by_cases q : c = p
          · subst q; rw [upd_same]; rw [sm u z]
          · rw [upd_ne q]; exact z
        · by_cases q : c = p
          · subst q; rw [upd_same] at z; cases z; exact g2.gh _ _ ho
          · rw [upd_ne q] at z; exact g2.gh _ _ (g2.g _ _ (up _ _ z))
        · by_cases q : c = p
          · subst q; rw [upd_same] at z; cases z
            rcases g2.new _ _ ho with h | h
            · rw [upd_ne pl] at h; exact .inl h
            · exact .inr h
          · rw [upd_ne q] at z; exact .inl z
      rcases sq with (h | ⟨u, h⟩) | h
      · have pl := off _ h (.inl rfl)
        exact k (.ref p) _ _ H2 (g1.trans (key _ h pl).no) (j1.grow (key _ h pl)) (.lst (.inl (.inl (upd_same ..))) (dpa_ints ns)) r2
      · have pl := off _ h (.inr ⟨u, rfl⟩)
        exact k (.ref p) _ _ H2 (g1.trans (key _ h pl).no) (j1.grow (key _ h pl)) (.lst (.inl (.inr ⟨u, upd_same ..⟩)) (dpa_ints ns)) r2
      · have g3 : Grow No G1 H1 G1 H2 := ⟨Same.refl _, fun c u z => g2.gh _ _ (g2.g _ _ (up _ _ z)), g2.dom, g2.keep, fun c u z => .inl z⟩
        exact k (.ref p) _ G1 H2 (g1.trans g3.no) (j1.grow g3) (.lst (.inr h) (dpa_ints ns)) r2⟩
end
end Dl
set_option Elab.async false
set_option linter.all false
set_option maxRecDepth 100000
set_option maxHeartbeats 4000000
namespace Dl
open PySem PySem.Spec PyProof.Rows L2
/-! sets of tuples of whole numbers, sorted; a table of the module -/
/-- set(t), t a tuple of whole numbers -/
def rSetT (K : PySem.W.Frag) (w : World) : List V → Hp → VK → Prop := fun xs H Q => ∃ (a : Addr) (ns : List Int), xs = [.ref a] ∧ SqT K H a (ns.map V.int) ∧ ns.length ≤ 60 ∧
  ∀ (p : Addr) (n : Nat), H p = none → n ≤ ns.length → Q (.ref p) (upd H p (SetO w p (fun j => decide (j ∈ ns)) n))
theorem cr_setTupI {X : Cx} (hc : X.calm = true) : CallR X (.type "set") (rSetT X.K X.w) := by
  intro pins s σ H xs us Q I r h
  obtain ⟨a, ns, rfl, hq, hl, q⟩ := h
  rw [Vals.ref1 r]
  obtain ⟨its, rv, pt, hz⟩ := I.tuple hq
  have hi : IntsAre its.toArray.toList ns := ints_of_vals rv
  have hd := I.ok.hd hc
  refine call_set_tupI ns hd (show s.heap.IsTuple a its.toArray from pt) hi (by unfold scanBound; omega) fun h' tk c R1 hcn k => ?_
  exact ⟨.ref _, upd H s.heap.objs.size (SetO X.w s.heap.objs.size (fun j => decide (j ∈ ns)) c), I.laid (t' := tk) (fun b u e => k b u e) (Nat.le_refl _) (setO_new R1), rfl, q _ c (I.hok.fresh (Nat.le_refl _)) hcn⟩
section
variable {K : PySem.W.Frag} {env : List Sl} {b : Option Addr} {ms : Ms} {te ta tb : TE} {P : PyData → Prop} {w : World}
/-- sorted(set(t)) -/
def srt (l s : List Nat) : Prop := s.Pairwise (· < ·) ∧ ∀ x, x ∈ s ↔ x ∈ l
theorem ints_nat : ∀ {ns : List Int} {l : List Nat}, (∀ k : Int, k ∈ ns → ∃ x ∈ l, k = ((x : Nat) : Int)) → ∃ s : List Nat, ns = s.map fun x => ((x : Nat) : Int)
  | [], _, _ => ⟨[], rfl⟩
  | n :: r, l, h => by
    obtain ⟨x, _, e⟩ := h n (List.mem_cons_self ..)
    obtain ⟨s, e2⟩ := ints_nat (ns := r) (l := l) fun k hk => h k (List.mem_cons_of_mem _ hk)
    exact ⟨x :: s, by rw [e, e2]; rfl⟩
theorem ev_sortSet {l : List Nat} (h : EvP K env b ms te (Is (.tuple (natL l)))) (hl : l.length ≤ 60) : EvP K env b ms (tCB (rSortedSet w) (tCons (tCB (rSetT K w) (tCons te tNil)) tNil)) (fun d => ∃ s, srt l s ∧ d = .list (natL s)) := fun σ G H e s j Q k =>
  h σ G H e s j _ fun v d G1 H1 g1 j1 p1 q1 => by
    cases q1
    cases p1 with
    | tup sq da =>
      rename_i a vs
      have el : natL l = (l.map fun x => ((x : Nat) : Int)).map PyData.int := by unfold natL; rw [List.map_map]; rfl
      rw [el] at da
      have ev := dpa_ints_inv da
      subst ev
      refine ⟨a, _, rfl, sqt_mono g1.gh sq, by rw [List.length_map]; exact hl, fun p n hp hn => ?_⟩
      have gp : G1 p = none := g1.gh.free hp
      refine ⟨p, _, n, rfl, upd_same .., by rw [List.length_map] at hn; omega, fun ns q hs hm hlen hq => ?_⟩
      have hqp : q ≠ p := fun z => by subst z; rw [upd_same] at hq; cases hq
      rw [upd_ne hqp] at hq
      have gq : G1 q = none := g1.gh.free hq
      obtain ⟨s', es⟩ := ints_nat (ns := ns) (l := l) fun k hk => by
        have := (hm k).mp hk
        rw [decide_eq_true_eq] at this
        obtain ⟨x, hx, e⟩ := List.mem_map.mp this
        exact ⟨x, hx, e.symm⟩
      subst es
      let U := upd (upd H1 p (SetO w p (fun j => decide (j ∈ l.map fun x => ((x : Nat) : Int))) n)) q (.lst ((s'.map fun x => ((x : Nat) : Int)).map V.int))
      have g2 : Grow No G1 H1 (upd G1 q (.lst ((s'.map fun x => ((x : Nat) : Int)).map V.int))) U := by
        refine ⟨fun c u z => ?_, fun c u z => ?_, fun c z => ?_, fun c u z _ => ?_, fun c u z => ?_⟩
        · rw [upd_ne (ne_of_none z gq)]; exact z
        · by_cases e : c = q
          · subst e; rw [upd_same] at z; cases z; exact upd_same ..
          · rw [upd_ne e] at z
            show upd (upd H1 p _) q _ c = _
            rw [upd_ne e, upd_ne (ne_of_none z gp)]
            exact g1.gh _ _ z
        · by_cases e : c = q
          · subst e; exact hq
          · have z' : upd (upd H1 p (SetO w p (fun j => decide (j ∈ l.map fun x => ((x : Nat) : Int))) n)) q (.lst ((s'.map fun x => ((x : Nat) : Int)).map V.int)) c = none := z
            rw [upd_ne e] at z'
            by_cases e2 : c = p
            · subst e2; exact hp
            · rw [upd_ne e2] at z'; exact z'
        · show upd (upd H1 p _) q _ c = _
          rw [upd_ne (ne_of_none z hq), upd_ne (ne_of_none z hp)]
          exact z
        · by_cases e : c = q
          · subst e; exact .inr hq
          · rw [upd_ne e] at z; exact .inl z
      refine k (.ref q) (.list (natL s')) _ U (g1.trans g2.no) (j1.grow g2) ?_ ⟨s', ⟨?_, fun x => ?_⟩, rfl⟩
      · refine .lst (.inl (.inl (upd_same ..))) ?_
        have e2 : natL s' = (s'.map fun x => ((x : Nat) : Int)).map PyData.int := by unfold natL; rw [List.map_map]; rfl
        rw [e2]
        exact dpa_ints _
      · rw [List.pairwise_map] at hs
        exact hs.imp fun {a b} h => by omega
      · have := hm ((x : Nat) : Int)
        rw [decide_eq_true_eq, List.mem_map, List.mem_map] at this
        constructor
        · intro hx
          obtain ⟨y, hy, e⟩ := this.mp ⟨x, hx, rfl⟩
          have : y = x := by omega
          subst this; exact hy
        · intro hx
          obtain ⟨y, hy, e⟩ := this.mpr ⟨x, hx, rfl⟩
          have : y = x := by omega
          subst this; exact hy
/-- a table of the module: at x a tuple of whole numbers -/
def RowAt (K : PySem.W.Frag) (w : World) (D : Addr) (x : Str) (ns : List Int) : Prop := ∃ a, KDct K w D x (.ref a) ∧ ∀ H, SqT K H a (ns.map V.int)
theorem ev_row {D : Addr} {x : Str} {ns : List Int} (r : RowAt K w D x ns) (h : EvP K env b ms te (Is (.str x))) : EvP K env b ms (tOp (rIxD K w) (tC (.ref D)) te) (Is (.tuple (ns.map .int))) := fun σ G H e s j Q k =>
  h σ G H e s j _ fun v d G1 H1 g1 j1 p1 q1 => by
    cases q1
    cases p1
    obtain ⟨a, kd, sq⟩ := r
    exact ⟨D, x, .ref a, rfl, rfl, kd, k (.ref a) _ G1 H1 g1 j1 (.tup (sq G1) (dpa_ints ns)) rfl⟩
end
end Dl
set_option Elab.async false
set_option linter.all false
set_option maxRecDepth 100000
set_option maxHeartbeats 4000000
namespace Dl
open PySem PySem.Spec PyProof.Rows L2
/-! deeds -/
inductive Dd where
  | fst (s : Qs) | edt (i : Nat) (s : Qs) | stl (i j : Nat) (s : Qs) | mrg (i j b : Nat) | pck (i j k : Nat) | rev (i j k : Nat)
abbrev nI (i : Nat) : PyData := .int ((i : Nat) : Int)
def Dd.D : Dd → PyData
  | .fst s => .tuple [.str "first", stT s]
  | .edt i s => .tuple [.str "edit", nI i, stT s]
  | .stl i j s => .tuple [.str "settle", nI i, nI j, stT s]
  | .mrg i j b => .tuple [.str "merge", nI i, nI j, nI b]
  | .pck i j k => .tuple [.str "pick", nI i, nI j, nI k]
  | .rev i j k => .tuple [.str "revert", nI i, nI j, nI k]
def Dd.w : Dd → Str
  | .fst _ => "first" | .edt _ _ => "edit" | .stl _ _ _ => "settle" | .mrg _ _ _ => "merge" | .pck _ _ _ => "pick" | .rev _ _ _ => "revert"
/-- how many versions it names, how many parents, whether it has a stand -/
def Dd.n : Dd → List Int
  | .fst _ => [0, 0, 1] | .edt _ _ => [1, 1, 1] | .stl _ _ _ => [2, 2, 1] | .mrg _ _ _ => [3, 2, 0] | .pck _ _ _ => [3, 1, 0] | .rev _ _ _ => [3, 1, 0]
def Dd.par : Dd → List Nat
  | .fst _ => [] | .edt i _ => [i] | .stl i j _ => [i, j] | .mrg i j _ => [i, j] | .pck i _ _ => [i] | .rev i _ _ => [i]
/-- all versions that it names -/
def Dd.all : Dd → List Nat
  | .fst _ => [] | .edt i _ => [i] | .stl i j _ => [i, j] | .mrg i j b => [i, j, b] | .pck i j k => [i, j, k] | .rev i j k => [i, j, k]
def Dd.st : Dd → Option Qs
  | .fst s => some s | .edt _ s => some s | .stl _ _ s => some s | .mrg _ _ _ => none | .pck _ _ _ => none | .rev _ _ _ => none
/-- sorted(set(..)) of at most two -/
def srtU : List Nat → List Nat
  | [i, j] => if i < j then [i, j] else if j < i then [j, i] else [i]
  | l => l
theorem srtU_ok : ∀ d : Dd, srt d.par (srtU d.par) := by
  have one : ∀ i : Nat, srt [i] (srtU [i]) := fun i => ⟨List.pairwise_singleton _ _, fun x => Iff.rfl⟩
  have two : ∀ i j : Nat, srt [i, j] (srtU [i, j]) := fun i j => by
    show srt [i, j] (if i < j then [i, j] else if j < i then [j, i] else [i])
    by_cases c : i < j
    · rw [if_pos c]; exact ⟨by simp [c], fun x => Iff.rfl⟩
    · rw [if_neg c]
      by_cases c2 : j < i
      · rw [if_pos c2]; exact ⟨by simp [c2], fun x => by simp [or_comm]⟩
      · rw [if_neg c2]
        have : i = j := by omega
        subst this
        exact ⟨List.pairwise_singleton _ _, fun x => by simp⟩
  intro d
  cases d with
  | fst s => exact ⟨List.Pairwise.nil, fun x => Iff.rfl⟩
  | edt i s => exact one i
  | stl i j s => exact two i j
  | mrg i j b => exact two i j
  | pck i j k => exact one i
  | rev i j k => exact one i
theorem srt_uniq {l s t : List Nat} (h : srt l s) (g : srt l t) : s = t := rise_ext h.1 g.1 fun x => by rw [h.2, g.2]
theorem srtU_mem (d : Dd) (x : Nat) : x ∈ srtU d.par ↔ x ∈ d.par := (srtU_ok d).2 x
theorem par_len (d : Dd) : d.par.length ≤ 2 := by cases d <;> simp [Dd.par]
theorem par_all (d : Dd) : ∀ x ∈ d.par, x ∈ d.all := by
  intro x hx
  cases d <;> simp only [Dd.par, Dd.all, List.mem_cons, List.not_mem_nil, or_false] at hx ⊢
  all_goals (first | exact hx | (rcases hx with h | h <;> simp [h]) | simp [hx])
abbrev Hs := List Dd
def hD (hs : Hs) : PyData := .tuple (hs.map Dd.D)
/-- every deed names earlier versions alone -/
def Hok (hs : Hs) : Prop := ∀ (k : Nat) (d : Dd), hs[k]? = some d → ∀ p ∈ d.all, p < k
def pars (hs : Hs) : Pars := hs.map fun d => srtU d.par
theorem pars_at {hs : Hs} {k : Nat} {d : Dd} (h : hs[k]? = some d) : (pars hs)[k]? = some (srtU d.par) := by unfold pars; rw [List.getElem?_map, h]; rfl
theorem pars_below {hs : Hs} (h : Hok hs) : Below (pars hs) := fun k l e p hp => by
  unfold pars at e
  rw [List.getElem?_map] at e
  cases q : hs[k]? with
  | none => rw [q] at e; cases e
  | some d => rw [q] at e; cases e; exact h k d q p (par_all d p ((srtU_mem d p).mp hp))
theorem hD_at {hs : Hs} {k : Nat} {d : Dd} (h : hs[k]? = some d) : (hs.map Dd.D)[k]? = some d.D := by rw [List.getElem?_map, h]; rfl
theorem D_tup (d : Dd) : ∃ r, d.D = .tuple (.str d.w :: r) := by cases d <;> exact ⟨_, rfl⟩
/-- deed[1:1 + its parents] -/
theorem D_par (d : Dd) : ∃ l m : List PyData, d.D = .tuple l ∧ ∃ i : Int, d.n[1]? = some i ∧ cutD l (some 1) (some (1 + i)) = natL d.par := by
  cases d <;> exact ⟨_, [], rfl, _, rfl, rfl⟩
section
variable {K : PySem.W.Frag} {env : List Sl} {b : Option Addr} {ms : Ms} {te : TE} {ta : TA} {P : PyData → Prop} {D : Ends} {G0 H0 Gs G H : Hp} {σ : L2.St} {C : Addr} {f : Str} {E : XK} {n : Nat} {dom : List PyData → Prop} {R Rx : List PyData → PyData → Prop} {tz : TS}
/-- a call of a def that may refuse, where it doesn't -/
theorem ev_callXE {t : TA} {Pl : List PyData → Prop} (ha : EaP K env b ms t Pl) (hd : ∀ ds, Pl ds → ds.length = n ∧ dom ds ∧ ∀ x, ¬ Rx ds x) : EvP K env b ms (tCall (spX K n C f dom R Rx) [] E t) (fun d => ∃ ds, Pl ds ∧ R ds d) := fun σ G H e s j Q k =>
  ha σ G H e s j _ fun vs ds G1 H1 g1 j1 p1 q1 => by
    obtain ⟨h1, h2, h3⟩ := hd ds q1
    rw [List.append_nil]
    exact ⟨by rw [dpa_len p1]; exact h1, ds, G1, g1.gh, p1, h2, fun v d G2 H2 g2 p2 r2 => k v d G2 H2 (g1.trans g2.no) (j1.grow g2) p2 ⟨ds, q1, r2⟩, fun v x dd G2 H2 _ _ _ z => (h3 x z).elim⟩
/-- such a call as it comes -/
theorem at_callX {ds : List PyData} {Q : VK} (A : At K env b ms G0 H0 Gs σ G H) (ha : EaP K env b ms ta (Is ds)) (hn : ds.length = n) (hd : dom ds)
    (k : ∀ v d G' H', At K env b ms G0 H0 Gs σ G' H' → Same G G' → Dp K G' v d → R ds d → Q v H') (kx : ∀ v x dd G' H', Grow (Mb b) G0 H0 G' H' → H' dd = some (.xd [(f, v)]) → Dp K G' v x → Rx ds x → E (.ref C) (some dd) H') :
    tCall (spX K n C f dom R Rx) [] E ta σ H Q := by
  refine ha σ G H A.env A.gr.gh A.j _ fun vs es G1 H1 g1 j1 p1 q1 => ?_
  subst q1
  rw [List.append_nil]
  exact ⟨by rw [dpa_len p1]; exact hn, es, G1, g1.gh, p1, hd, fun v d G2 H2 g2 p2 r2 => k v d G2 H2 ((A.step g1 j1).step g2.no (j1.grow g2)) (g1.g.trans g2.g) p2 r2, fun v x dd G2 H2 g2 e2 p2 r2 => kx v x dd G2 H2 ((A.gr.trans g1).trans g2.no) e2 p2 r2⟩
/-- f(..) as a row, that may refuse -/
theorem q_callX {ds : List PyData} (A : At K env b ms G0 H0 Gs σ G H) (ha : EaP K env b ms ta (Is ds)) (hn : ds.length = n) (hd : dom ds)
    (k : ∀ d G' H', At K env b ms G0 H0 Gs σ G' H' → R ds d → tz D σ H') (kx : ∀ v x dd G' H', Grow (Mb b) G0 H0 G' H' → H' dd = some (.xd [(f, v)]) → Dp K G' v x → Rx ds x → E (.ref C) (some dd) H') :
    tSeq (tDrop (tCall (spX K n C f dom R Rx) [] E ta)) tz D σ H :=
  at_callX A ha hn hd (fun v d G' H' A' _ _ r => k d G' H' A' r) kx
/-- x = f(..), that may refuse -/
theorem q_asgX {i : Nat} {ds : List PyData} (A : At K env b ms G0 H0 Gs σ G H) (ha : EaP K env b ms ta (Is ds)) (hn : ds.length = n) (hd : dom ds)
    (k : ∀ d σ' G' H', R ds d → At K (env.set i (.d d)) b ms G0 H0 Gs σ' G' H' → tz D σ' H') (kx : ∀ v x dd G' H', Grow (Mb b) G0 H0 G' H' → H' dd = some (.xd [(f, v)]) → Dp K G' v x → Rx ds x → E (.ref C) (some dd) H') :
    tSeq (tAsg (tCall (spX K n C f dom R Rx) [] E ta) (gName i)) tz D σ H :=
  at_callX A ha hn hd (fun v d G' H' A' _ p r => k d _ G' H' r (A'.put (slot_d p))) kx
end
end Dl
set_option Elab.async false
set_option linter.all false
set_option maxRecDepth 100000
set_option maxHeartbeats 4000000
namespace Dl
open PySem PySem.Spec PyProof.Rows L2
section
variable {K : PySem.W.Frag} {env : List Sl} {b : Option Addr} {ms : Ms} {te : TE} {P : PyData → Prop} {D : Ends} {G0 H0 Gs G H : Hp} {σ : L2.St} {tu tz : TS}
/-- sorted(l), l a list of ours, of versions -/
theorem ev_sortM {i n : Nat} {l : Addr} {xs : List Nat} (hi : env[i]? = some (.a l)) (hm : ms[n]? = some (l, (natL xs).map .d)) : EvP K env b ms (tCB (rSortedI K) (tCons (tVar i) tNil)) (fun d => ∃ s : List Nat, s.Perm xs ∧ s.Pairwise (· ≤ ·) ∧ d = .list (natL s)) := fun σ G H e s j Q k => by
  obtain ⟨gl, nb, vs, hl, el⟩ := j.mu _ (List.mem_of_getElem? hm)
  have da : DpAll K G vs (natL xs) := dpa_of_env _ _ el
  have e1 : natL xs = (xs.map fun x => ((x : Nat) : Int)).map PyData.int := by unfold natL; rw [List.map_map]; rfl
  rw [e1] at da
  have ev := dpa_ints_inv da
  subst ev
  refine ⟨.ref l, e.addr hi, l, _, rfl, .inl (.inl hl), fun ns p pm rise hp => ?_⟩
  obtain ⟨s', es⟩ := ints_nat (ns := ns) (l := xs) fun k hk => by
    obtain ⟨x, hx, e⟩ := List.mem_map.mp (pm.mem_iff.mp hk)
    exact ⟨x, hx, e.symm⟩
  subst es
  have gp : G p = none := s.free hp
  have g2 : Grow No G H (upd G p (.lst ((s'.map fun x => ((x : Nat) : Int)).map V.int))) (upd H p (.lst ((s'.map fun x => ((x : Nat) : Int)).map V.int))) := Grow.lay s hp
  refine k (.ref p) (.list (natL s')) _ _ g2.no (j.grow g2) (.lst (.inl (.inl (upd_same ..))) ?_) ⟨s', ?_, ?_, rfl⟩
  · have e2 : natL s' = (s'.map fun x => ((x : Nat) : Int)).map PyData.int := by unfold natL; rw [List.map_map]; rfl
    rw [e2]
    exact dpa_ints _
  · have := pm.map Int.toNat
    rw [List.map_map, List.map_map] at this
    have id1 : ∀ l : List Nat, l.map (Int.toNat ∘ fun x : Nat => (x : Int)) = l := fun l => by
      conv => rhs; rw [← List.map_id l]
      exact List.map_congr_left fun x _ => rfl
    rw [id1, id1] at this
    exact this
  · rw [List.pairwise_map] at rise
    exact rise.imp fun {a b} h => by omega
/-- for x in p[l.pop()]: p data, l a list of ours, of versions -/
theorem s_forPop {i q n j : Nat} {l : Addr} {xs : List Nat} {x : Nat} {ps : List PyData} {t : List PyData} (A : At K env b ms G0 H0 Gs σ G H) (hp : env[i]? = some (.d (.list ps))) (hi : env[q]? = some (.a l)) (hm : ms[n]? = some (l, (natL (xs ++ [x])).map .d)) (ht : ps[x]? = some (.tuple t))
    (Pv : Nat → List Sl → Ms → Prop) (h0 : Pv 0 env (ms.set n (l, (natL xs).map .d)))
    (hs : ∀ i x env' ms' Gt σ' G' H', t[i]? = some x → Pv i env' ms' → At K (env'.set j (.d x)) b ms' G0 H0 Gt σ' G' H' →
      ∀ nx : L2.St → Hp → Prop, (∀ env2 ms2 σ2 G2 H2, Pv (i + 1) env2 ms2 → At K env2 b ms2 G0 H0 Gt σ2 G2 H2 → nx σ2 H2) → tu { D with nx := nx, ct := nx, bk := D.nx } σ' H')
    (hd : ∀ env' ms' σ' G' H', Pv t.length env' ms' → At K env' b ms' G0 H0 Gs σ' G' H' → D.nx σ' H') : tFor (iTup K (tOp (rIxL K) (tVar i) (tBM0 K "list" rPop (tVar q)))) (gName j) tu D σ H := by
  obtain ⟨gl, nb, vs, hl, el⟩ := A.j.mu _ (List.mem_of_getElem? hm)
  have da : DpAll K G vs (natL (xs ++ [x])) := dpa_of_env _ _ el
  obtain ⟨v, hv, pv⟩ := A.env.get hp
  have lv : vs.length = xs.length + 1 := by rw [dpa_len da, natL_len, List.length_append]; rfl
  cases pv with
  | lst sq dp =>
    rename_i a ys
    obtain ⟨y, hy, py⟩ := dpa_get dp ht
    cases py with
    | tup sq2 dt =>
      rename_i c zs
      obtain ⟨u, hu, pu⟩ := dpa_get da (i := xs.length) (d := .int ((x : Nat) : Int)) (by unfold natL; rw [List.getElem?_map, List.getElem?_append_right (Nat.le_refl _)]; simp)
      cases pu
      have A2 : At K env b (ms.set n (l, (natL xs).map .d)) G0 H0 Gs σ G (upd H l (.lst vs.dropLast)) := A.write hm (by
        rw [List.dropLast_eq_take, lv, Nat.add_sub_cancel]
        have h2 := dpa_take xs.length da
        have h3 : (natL (xs ++ [x])).take xs.length = natL xs := by unfold natL; rw [← List.map_take, List.take_left']; rfl
        rw [h3] at h2
        exact env_data h2)
      have sq' : SqL K (upd H l (.lst vs.dropLast)) a ys := A2.gr.gh.seq sq
      have sq2' : SqT K (upd H l (.lst vs.dropLast)) c zs := sqt_mono A2.gr.gh sq2
      refine ⟨.ref a, hv, .ref l, A.env.addr hi, tyL hl, l, vs, .int ((x : Nat) : Int), rfl, rfl, hl, by rw [lv]; exact hu, a, ys, ((x : Nat) : Int), .ref c, rfl, rfl, sq', atI_nat hy, c, rfl, ⟨_, sq2'⟩, ?_⟩
      obtain ⟨W, Y, wk, hw⟩ := iter_tup (K := K) sq2 dt
      refine for_it wk (fun i σ2 H2 => ∃ env2 ms2 G2, Pv i env2 ms2 ∧ At K env2 b ms2 G0 H0 G σ2 G2 H2) ⟨env, _, G, h0, A2.since (Same.refl _)⟩ ?_ ?_ ?_
      · rintro i σ2 H2 _ ⟨env2, ms2, G2, _, A3⟩
        exact (hw G2 H2 A3.sg A3.gr.gh).1
      · rintro i x2 σ2 H2 H3 hlt ⟨env2, ms2, G2, p2, A3⟩ y2
        obtain ⟨G3, d, g3, hd3, p3⟩ := (hw G2 H2 A3.sg A3.gr.gh).2 i x2 H3 hlt y2
        have A4 := A3.step g3.no (A3.j.grow g3)
        exact hs i d env2 ms2 G _ G3 H3 hd3 p2 (A4.put (slot_d p3)) _ fun env5 ms5 σ5 G5 H5 p5 A5 => ⟨env5, ms5, G5, p5, A5⟩
      · rintro σ2 H2 ⟨env2, ms2, G2, p2, A3⟩
        exact hd env2 ms2 σ2 G2 H2 p2 (A3.since (A.sg.trans A3.sg))
end
end Dl
set_option Elab.async false
set_option linter.all false
set_option maxRecDepth 100000
set_option maxHeartbeats 4000000
namespace Dl
open PySem L2
theorem nd_sub : ∀ (l D : List Nat), l.Nodup → (∀ x ∈ l, x ∈ D) → l.length ≤ D.length
  | [], _, _, _ => Nat.zero_le _
  | x :: l, D, hn, hs => by
    obtain ⟨h1, h2⟩ := List.nodup_cons.mp hn
    have hx : x ∈ D := hs x (List.mem_cons_self ..)
    have ih := nd_sub l (D.erase x) h2 fun y hy => (List.mem_erase_of_ne (a := y) (b := x) fun e => h1 (by rw [← e]; exact hy)).2 (hs y (List.mem_cons_of_mem _ hy))
    have e := List.length_erase_of_mem hx
    have hp : 0 < D.length := List.length_pos_of_mem hx
    rw [List.length_cons]
    omega
theorem nd_len (n : Nat) (l : List Nat) (nd : l.Nodup) (h : ∀ x ∈ l, x < n) : l.length ≤ n := by
  have := nd_sub l (List.range n) nd fun x hx => List.mem_range.mpr (h x hx)
  rw [List.length_range] at this
  exact this
theorem nd_one (x : Nat) : [x].Nodup := List.pairwise_singleton _ _
/-- what is found so far, and what of it is left -/
structure Fd (ps : Pars) (v : Nat) (f l : List Nat) : Prop where
  nd : f.Nodup
  ln : l.Nodup
  hv : v ∈ f
  re : ∀ x ∈ f, Reach ps v x
  lf : ∀ x ∈ l, x ∈ f
  cl : ∀ x ∈ f, x ∉ l → ∀ q, ps[x]? = some q → ∀ p ∈ q, p ∈ f
/-- while x's parents are looked at -/
structure Fx (ps : Pars) (v x : Nat) (q : List Nat) (i : Nat) (f l : List Nat) : Prop where
  nd : f.Nodup
  ln : l.Nodup
  hv : v ∈ f
  xf : x ∈ f
  xl : x ∉ l
  re : ∀ y ∈ f, Reach ps v y
  lf : ∀ y ∈ l, y ∈ f
  tk : ∀ p ∈ q.take i, p ∈ f
  cl : ∀ y ∈ f, y ∉ l → y ≠ x → ∀ q, ps[y]? = some q → ∀ p ∈ q, p ∈ f
theorem Fd.len {ps : Pars} {v : Nat} {f l : List Nat} (hb : Below ps) (F : Fd ps v f l) : f.length ≤ v + 1 := nd_len _ _ F.nd fun x hx => Nat.lt_succ_of_le ((F.re x hx).le hb)
theorem Fx.len {ps : Pars} {v x i : Nat} {q f l : List Nat} (hb : Below ps) (F : Fx ps v x q i f l) : f.length ≤ v + 1 := nd_len _ _ F.nd fun x hx => Nat.lt_succ_of_le ((F.re x hx).le hb)
theorem Fx.llen {ps : Pars} {v x i : Nat} {q f l : List Nat} (hb : Below ps) (F : Fx ps v x q i f l) : l.length ≤ v + 1 := nd_len _ _ F.ln fun x hx => Nat.lt_succ_of_le ((F.re x (F.lf x hx)).le hb)
theorem Fd.start {ps : Pars} {v : Nat} : Fd ps v [v] [v] :=
  ⟨nd_one _, nd_one _, List.mem_singleton.mpr rfl, fun x hx => by rw [List.mem_singleton.mp hx]; exact .self, fun x hx => hx, fun x hx hn => absurd hx hn⟩
theorem Fd.pop {ps : Pars} {v x : Nat} {q f l : List Nat} (F : Fd ps v f (l ++ [x])) : Fx ps v x q 0 f l := by
  have nd := List.nodup_append.mp F.ln
  refine ⟨F.nd, nd.1, F.hv, F.lf x (by simp), fun h => nd.2.2 x h x (by simp) rfl, F.re, fun y hy => F.lf y (by simp [hy]), fun p hp => by simp at hp, fun y hy hn ne => F.cl y hy (by simp [hn, ne])⟩
theorem Fx.skip {ps : Pars} {v x i p : Nat} {q f l : List Nat} (F : Fx ps v x q i f l) (hp : q[i]? = some p) (h : p ∈ f) : Fx ps v x q (i + 1) f l := by
  refine { F with tk := fun y hy => ?_ }
  rw [List.take_add_one, hp] at hy
  rcases List.mem_append.mp hy with hy | hy
  · exact F.tk y hy
  · rw [Option.toList_some, List.mem_singleton] at hy; rw [hy]; exact h
theorem Fx.add {ps : Pars} {v x i p : Nat} {q f l : List Nat} (F : Fx ps v x q i f l) (hq : ps[x]? = some q) (hp : q[i]? = some p) (h : p ∉ f) : Fx ps v x q (i + 1) (f ++ [p]) (l ++ [p]) := by
  have px : p ≠ x := fun e => h (by rw [e]; exact F.xf)
  refine ⟨?_, ?_, by simp [F.hv], by simp [F.xf], by simp [F.xl, Ne.symm px], fun y hy => ?_, fun y hy => ?_, fun y hy => ?_, fun y hy hn ne q' hq' p' hp' => ?_⟩
  · exact List.nodup_append.mpr ⟨F.nd, nd_one _, fun a ha c hc e => h (by rw [List.mem_singleton] at hc; rw [← hc, ← e]; exact ha)⟩
  · exact List.nodup_append.mpr ⟨F.ln, nd_one _, fun a ha c hc e => h (by rw [List.mem_singleton] at hc; rw [← hc, ← e]; exact F.lf a ha)⟩
  · rcases List.mem_append.mp hy with hy | hy
    · exact F.re y hy
    · rw [List.mem_singleton.mp hy]; exact (F.re x F.xf).step hq (List.mem_of_getElem? hp)
  · rcases List.mem_append.mp hy with hy | hy
    · simp [F.lf y hy]
    · simp [List.mem_singleton.mp hy]
  · rw [List.take_add_one, hp] at hy
    rcases List.mem_append.mp hy with hy | hy
    · simp [F.tk y hy]
    · rw [Option.toList_some, List.mem_singleton] at hy; simp [hy]
  · rcases List.mem_append.mp hy with hy | hy
    · have := F.cl y hy (fun z => hn (by simp [z])) ne q' hq' p' hp'
      simp [this]
    · rw [List.mem_singleton] at hy
      exact absurd (by simp [hy]) hn
theorem Fx.done {ps : Pars} {v x : Nat} {q f l : List Nat} (F : Fx ps v x q q.length f l) (hq : ps[x]? = some q) : Fd ps v f l := by
  refine ⟨F.nd, F.ln, F.hv, F.re, F.lf, fun y hy hn q' hq' p hp => ?_⟩
  by_cases e : y = x
  · subst e
    rw [hq] at hq'; cases hq'
    exact F.tk p (by rw [List.take_length]; exact hp)
  · exact F.cl y hy hn e q' hq' p hp
theorem Fd.sorted {ps : Pars} {v : Nat} {f s : List Nat} (hb : Below ps) (F : Fd ps v f []) (hp : s.Perm f) (hs : s.Pairwise (· ≤ ·)) : s = eld ps v :=
  eld_of hb F.nd F.hv F.re (fun x hx l e => F.cl x hx (by simp) l e) hp hs
def parD (ps : Pars) : List PyData := ps.map fun l => .tuple (natL l)
theorem parD_at {ps : Pars} {x : Nat} {q : List Nat} (h : ps[x]? = some q) : (parD ps)[x]? = some (.tuple (natL q)) := by unfold parD; rw [List.getElem?_map, h]; rfl
theorem parD_inj {a c : Pars} (h : parD a = parD c) : a = c := map_inj (fun x y e => natL_inj (by injection e)) h
def dEld : List PyData → Prop := fun ds => ∃ (ps : Pars) (v : Nat), ds = [.list (parD ps), .int ((v : Nat) : Int)] ∧ Below ps ∧ v < ps.length ∧ ps.length ≤ 60
def rEld : List PyData → PyData → Prop := fun ds d => ∀ (ps : Pars) (v : Nat), ds = [.list (parD ps), .int ((v : Nat) : Int)] → d = .list (natL (eld ps v))
theorem eld_inj {ps ps' : Pars} {v v' : Nat} (h : [PyData.list (parD ps), .int ((v : Nat) : Int)] = [.list (parD ps'), .int ((v' : Nat) : Int)]) : ps = ps' ∧ v = v' := by
  simp only [List.cons.injEq, and_true, PyData.list.injEq, PyData.int.injEq] at h
  exact ⟨parD_inj h.1, by omega⟩
end Dl
set_option Elab.async false
set_option linter.all false
set_option maxRecDepth 100000
set_option maxHeartbeats 4000000
namespace Dl
open PySem PySem.Spec PyProof.Rows L2
section
variable {K : PySem.W.Frag} {env : List Sl} {b : Option Addr} {ms : Ms} {te ta tb tc : TE} {P : PyData → Prop} {D : Ends} {G0 H0 Gs G H : Hp} {σ : L2.St} {tz : TS}
theorem ev_chain {i x n : Int} (ha : EvP K env b ms ta (Is (.int i))) (hb : EvP K env b ms tb (Is (.int x))) (hc : EvP K env b ms tc (Is (.int n))) : EvP K env b ms (tChain (rI0 fun i j => .bl (decide (i ≤ j))) (rI0 fun i j => .bl (decide (i < j))) ta tb tc) (Is (.bool (decide (i ≤ x) && decide (x < n)))) := fun σ G H e s j Q k =>
  ha σ G H e s j _ fun v1 d1 G1 H1 g1 j1 p1 q1 => by
    cases q1; cases p1
    refine hb σ G1 H1 (e.mono g1.g) g1.gh j1 _ fun v2 d2 G2 H2 g2 j2 p2 q2 => ?_
    cases q2; cases p2
    refine ⟨i, x, rfl, rfl, _, rfl, ?_⟩
    by_cases c : i ≤ x
    · rw [if_pos (decide_eq_true c)]
      refine hc σ G2 H2 ((e.mono g1.g).mono g2.g) g2.gh j2 _ fun v3 d3 G3 H3 g3 j3 p3 q3 => ?_
      cases q3; cases p3
      exact ⟨x, n, rfl, rfl, k _ _ G3 H3 ((g1.trans g2).trans g3) j3 (.bl _) (by rw [decide_eq_true c, Bool.true_and])⟩
    · rw [if_neg (by simp [c])]
      exact k _ _ G2 H2 (g1.trans g2) j2 (.bl false) (by rw [decide_eq_false c, Bool.false_and])
end
/-! histories: what is asked of them -/
def dVer : List PyData → Prop := fun ds => ∃ (l : List PyData) (i : Int), ds = [.tuple l, .int i]
def rVer : List PyData → PyData → Prop := fun ds _ => ∀ (l : List PyData) (i : Int), ds = [.tuple l, .int i] → 0 ≤ i ∧ i < l.length
def xVer : List PyData → PyData → Prop := fun ds x => ∀ (l : List PyData) (i : Int), ds = [.tuple l, .int i] → ¬ (0 ≤ i ∧ i < l.length) ∧ x = .int i
def dHis : List PyData → Prop := fun ds => ∃ (hs : Hs) (i : Int), ds = [hD hs, .int i] ∧ Hok hs ∧ hs.length ≤ 60
theorem stT_inj' {a c : Qs} (h : stT a = stT c) : a = c := by
  unfold stT stL at h
  injection h with h
  refine map_inj (fun x y e => ?_) h
  unfold FrD at e
  simp only [PyData.tuple.injEq, List.cons.injEq, PyData.int.injEq, and_true] at e
  exact Prod.ext e.1 e.2
theorem Dd_inj {d e : Dd} (h : d.D = e.D) : d = e := by
  cases d <;> cases e <;> simp only [Dd.D, nI, PyData.tuple.injEq, List.cons.injEq, and_true, PyData.str.injEq, PyData.int.injEq] at h
  all_goals first
    | (exact absurd h.1 (by decide))
    | (obtain ⟨_, h2⟩ := h; rw [stT_inj' h2])
    | (obtain ⟨_, h1, h2⟩ := h; rw [stT_inj' h2, Int.ofNat.inj h1])
    | (obtain ⟨_, h1, h2, h3⟩ := h; rw [stT_inj' h3, Int.ofNat.inj h1, Int.ofNat.inj h2])
    | (obtain ⟨_, h1, h2, h3⟩ := h; rw [Int.ofNat.inj h1, Int.ofNat.inj h2, Int.ofNat.inj h3])
theorem hD_inj {a c : Hs} (h : hD a = hD c) : a = c := map_inj (fun x y e => Dd_inj e) (by injection h)
theorem his_inj {a c : Hs} {i j : Int} (h : [hD a, .int i] = [hD c, .int j]) : a = c ∧ i = j := by
  simp only [List.cons.injEq, and_true, PyData.int.injEq] at h
  exact ⟨hD_inj h.1, h.2⟩
def rPar : List PyData → PyData → Prop := fun ds d => ∀ (hs : Hs) (i : Int), ds = [hD hs, .int i] → ∃ (v : Nat) (x : Dd), i = v ∧ hs[v]? = some x ∧ d = .tuple (natL (srtU x.par))
def xHis : List PyData → PyData → Prop := fun ds x => ∀ (hs : Hs) (i : Int), ds = [hD hs, .int i] → ¬ (0 ≤ i ∧ i < hs.length) ∧ x = .int i
def rEls : List PyData → PyData → Prop := fun ds d => ∀ (hs : Hs) (i : Int), ds = [hD hs, .int i] → ∃ v : Nat, i = v ∧ v < hs.length ∧ d = .tuple (natL (eld (pars hs) v))
theorem atI_head {x : PyData} {r : List PyData} : atI (x :: r) 0 = some x := atI_nat (j := 0) rfl
theorem atI_n1 {l : List Int} {i : Int} (h : l[1]? = some i) : atI (l.map PyData.int) 1 = some (.int i) := atI_nat (j := 1) (by rw [List.getElem?_map, h]; rfl)
/-- tuple(a list of ..) -/
theorem ev_tupLP {K : PySem.W.Frag} {env : List Sl} {b : Option Addr} {ms : Ms} {te : TE} {Pl : List PyData → Prop} (h : EvP K env b ms te (fun d => ∃ l, d = .list l ∧ Pl l)) : EvP K env b ms (tCB (rTupOf K) (tCons te tNil)) (fun d => ∃ l, d = .tuple l ∧ Pl l) :=
  ev_cbP (Pl := fun ds => ∃ l, ds = [.list l] ∧ Pl l) (fun σ G H e s j Q k => ea_consP h ea_nil σ G H e s j Q fun vs ds G1 H1 g1 j1 p1 ⟨d, ds', e1, ⟨l, e2, e3⟩, e4⟩ => k vs ds G1 H1 g1 j1 p1 ⟨l, by rw [e1, e2, e4], e3⟩)
    fun ds ⟨l, e, pl⟩ => by rw [e]; exact fun xs G H p s j Q k => rc_tupL xs G H p s j Q fun v d G1 H1 g1 j1 p1 q1 => k v d G1 H1 g1 j1 p1 ⟨l, q1, pl⟩
theorem hD_len (hs : Hs) : (hs.map Dd.D).length = hs.length := List.length_map ..
theorem ver_in {i : Int} {n : Nat} (h : 0 ≤ i ∧ i < n) : ∃ v : Nat, i = v ∧ v < n := ⟨i.toNat, by omega, by omega⟩
end Dl
set_option Elab.async false
set_option linter.all false
set_option maxRecDepth 100000
set_option maxHeartbeats 4000000
namespace Dl
open PySem PySem.Spec PyProof.Rows L2
section
variable {K : PySem.W.Frag} {env : List Sl} {b : Option Addr} {ms : Ms} {D : Ends} {G0 H0 Gs G H : Hp} {σ : L2.St} {C : Addr} {f : Str} {E : XK} {n : Nat} {dom : List PyData → Prop} {R Rx : List PyData → PyData → Prop} {tz : TS}
/-- x, y = f(..), f(..), each of which may refuse -/
theorem q_twoX {i j : Nat} {t1 t2 : TA} {ds1 ds2 : List PyData} (A : At K env b ms G0 H0 Gs σ G H) (h1 : EaP K env b ms t1 (Is ds1)) (h2 : EaP K env b ms t2 (Is ds2)) (n1 : ds1.length = n) (n2 : ds2.length = n) (m1 : dom ds1) (m2 : dom ds2)
    (k : ∀ d1 d2 σ' G' H', R ds1 d1 → R ds2 d2 → At K ((env.set i (.d d1)).set j (.d d2)) b ms G0 H0 Gs σ' G' H' → tz D σ' H')
    (kx : ∀ v x dd G' H', Grow (Mb b) G0 H0 G' H' → H' dd = some (.xd [(f, v)]) → Dp K G' v x → Rx ds1 x → E (.ref C) (some dd) H')
    (kx2 : ∀ d1 v x dd G' H', R ds1 d1 → Grow (Mb b) G0 H0 G' H' → H' dd = some (.xd [(f, v)]) → Dp K G' v x → Rx ds2 x → E (.ref C) (some dd) H') :
    tSeq (tAsg (tTup (tCons (tCall (spX K n C f dom R Rx) [] E t1) (tCons (tCall (spX K n C f dom R Rx) [] E t2) tNil))) (gTup K 2 (gCons (gName i) (gCons (gName j) gNil)))) tz D σ H := by
  refine at_callX A h1 n1 m1 (fun v1 d1 G1 H1 A1 s1 p1 r1 => ?_) kx
  refine at_callX A1 h2 n2 m2 (fun v2 d2 G2 H2 A2 s2 p2 r2 => ?_) (fun v x dd G' H' g e p r => kx2 d1 v x dd G' H' r1 g e p r)
  refine ⟨by show 2 ≤ sizeLine; decide, fun p hp => ?_⟩
  have g : Grow No G2 H2 G2 (upd H2 p (.tup [v1, v2])) := Grow.lay0 A2.gr.gh hp
  have A3 := A2.step g.no (A2.j.grow g)
  exact ⟨p, [v1, v2], rfl, .inl (.inl upd_same), rfl, _, _, rfl, _, _, rfl, rfl, k d1 d2 _ G2 _ r1 r2 ((A3.put (slot_d (dp_mono s2 _ _ p1))).put (slot_d p2))⟩
end
noncomputable def com (ps : Pars) (v w : Nat) : List Nat := (eld ps v).filter fun k => decide (k ∈ eld ps w)
theorem com_mem {ps : Pars} {v w k : Nat} (hb : Below ps) : k ∈ com ps v w ↔ Reach ps v k ∧ Reach ps w k := by
  unfold com
  rw [List.mem_filter, decide_eq_true_eq, mem_eld hb, mem_eld hb]
theorem com_len {ps : Pars} {v w : Nat} : (com ps v w).length ≤ v + 1 := Nat.le_trans (List.length_filter_le _ _) eld_len
/-- the parents of some, one behind the other -/
def prs (ps : Pars) (l : List Nat) : List Nat := (l.map fun c => ps.getD c []).flatten
theorem prs_mem {ps : Pars} {l : List Nat} {k : Nat} : k ∈ prs ps l ↔ ∃ c ∈ l, k ∈ ps.getD c [] := by
  unfold prs
  rw [List.mem_flatten]
  constructor
  · rintro ⟨m, hm, hk⟩
    obtain ⟨c, hc, rfl⟩ := List.mem_map.mp hm
    exact ⟨c, hc, hk⟩
  · rintro ⟨c, hc, hk⟩
    exact ⟨_, List.mem_map.mpr ⟨c, hc, rfl⟩, hk⟩
noncomputable def lst (ps : Pars) (v w : Nat) : List Nat := (com ps v w).filter fun k => !decide (k ∈ prs ps (com ps v w))
/-- no other common elder has it for an elder -/
theorem lst_law {ps : Pars} {v w : Nat} (hb : Below ps) : (com ps v w).filter (fun k => ((com ps v w).filter fun u => decide (u ≠ k) && decide (k ∈ eld ps u)).isEmpty) = lst ps v w := by
  unfold lst
  refine List.filter_congr fun k hk => ?_
  have key : ((com ps v w).filter fun u => decide (u ≠ k) && decide (k ∈ eld ps u)) = [] ↔ k ∉ prs ps (com ps v w) := by
    rw [List.filter_eq_nil_iff]
    constructor
    · intro h hp
      obtain ⟨c, hc, hkc⟩ := prs_mem.mp hp
      cases e : ps[c]? with
      | none => rw [List.getD_eq_getElem?_getD, e] at hkc; cases hkc
      | some l =>
        rw [List.getD_eq_getElem?_getD, e] at hkc
        have lt := hb _ _ e _ hkc
        refine h c hc ?_
        rw [Bool.and_eq_true, decide_eq_true_eq, decide_eq_true_eq, mem_eld hb]
        exact ⟨by omega, Reach.self.step e hkc⟩
    · intro h u hu z
      rw [Bool.and_eq_true, decide_eq_true_eq, decide_eq_true_eq, mem_eld hb] at z
      obtain ⟨ne, r⟩ := z
      cases r with
      | self => exact ne rfl
      | step r e m =>
        rename_i q l
        obtain ⟨h1, h2⟩ := (com_mem hb).mp hu
        exact h (prs_mem.mpr ⟨q, (com_mem hb).mpr ⟨h1.trans r, h2.trans r⟩, by rw [List.getD_eq_getElem?_getD, e]; exact m⟩)
  by_cases c : k ∈ prs ps (com ps v w)
  · have : ((com ps v w).filter fun u => decide (u ≠ k) && decide (k ∈ eld ps u)) ≠ [] := fun z => (key.mp z) c
    rw [decide_eq_true c]
    cases q : ((com ps v w).filter fun u => decide (u ≠ k) && decide (k ∈ eld ps u)) with
    | nil => exact absurd q this
    | cons a r => rfl
  · rw [key.mpr c, decide_eq_false c]; rfl
def dHis3 : List PyData → Prop := fun ds => ∃ (hs : Hs) (i j : Int), ds = [hD hs, .int i, .int j] ∧ Hok hs ∧ hs.length ≤ 60
def xHis3 : List PyData → PyData → Prop := fun ds x => ∀ (hs : Hs) (i j : Int), ds = [hD hs, .int i, .int j] → (¬ (0 ≤ i ∧ i < hs.length) ∧ x = .int i) ∨ ((0 ≤ i ∧ i < hs.length) ∧ ¬ (0 ≤ j ∧ j < hs.length) ∧ x = .int j)
def rCom : List PyData → PyData → Prop := fun ds d => ∀ (hs : Hs) (i j : Int), ds = [hD hs, .int i, .int j] → ∃ v w : Nat, i = v ∧ j = w ∧ v < hs.length ∧ w < hs.length ∧ d = .tuple (natL (com (pars hs) v w))
def rLst : List PyData → PyData → Prop := fun ds d => ∀ (hs : Hs) (i j : Int), ds = [hD hs, .int i, .int j] → ∃ v w : Nat, i = v ∧ j = w ∧ v < hs.length ∧ w < hs.length ∧ d = .tuple (natL (lst (pars hs) v w))
theorem his3_inj {a c : Hs} {i j k l : Int} (h : [hD a, .int i, .int j] = [hD c, .int k, .int l]) : a = c ∧ i = k ∧ j = l := by
  simp only [List.cons.injEq, and_true, PyData.int.injEq] at h
  exact ⟨hD_inj h.1, h.2⟩
def dEld3 : List PyData → Prop := fun ds => ∃ (ps : Pars) (v w : Nat), ds = [.list (parD ps), .int ((v : Nat) : Int), .int ((w : Nat) : Int)] ∧ Below ps ∧ v < ps.length ∧ w < ps.length ∧ ps.length ≤ 60
def rCmn : List PyData → PyData → Prop := fun ds d => ∀ (ps : Pars) (v w : Nat), ds = [.list (parD ps), .int ((v : Nat) : Int), .int ((w : Nat) : Int)] → d = .list (natL (com ps v w))
theorem eld3_inj {ps ps' : Pars} {v v' w w' : Nat} (h : [PyData.list (parD ps), .int ((v : Nat) : Int), .int ((w : Nat) : Int)] = [.list (parD ps'), .int ((v' : Nat) : Int), .int ((w' : Nat) : Int)]) : ps = ps' ∧ v = v' ∧ w = w' := by
  simp only [List.cons.injEq, and_true, PyData.list.injEq, PyData.int.injEq] at h
  exact ⟨parD_inj h.1, by omega, by omega⟩
theorem pars_getD {hs : Hs} {v : Nat} {x : Dd} (h : hs[v]? = some x) : (pars hs).getD v [] = srtU x.par := by rw [List.getD_eq_getElem?_getD, pars_at h]; rfl
end Dl
set_option Elab.async false
set_option linter.all false
set_option maxRecDepth 100000
set_option maxHeartbeats 4000000
namespace Dl
open PySem PySem.Spec PyProof.Rows L2
/-! isinstance of data -/
def tyD : PyData → String
  | .none => "NoneType"
  | .bool _ => "bool"
  | .int _ => "int"
  | .str _ => "str"
  | .list _ => "list"
  | .tuple _ => "tuple"
  | .dict _ => "dict"
theorem tyx_dp {K : PySem.W.Frag} {H : Hp} {v : V} {d : PyData} (h : Dp K H v d) : TyX K H v (.type (tyD d)) := by
  cases d with
  | none => cases h; exact .base .non
  | bool b => cases h; exact .base (.bl b)
  | int i => cases h; exact .base (.int i)
  | str x => cases h; exact .base (.str x)
  | list ds =>
    cases h with
    | lst a _ =>
      rcases a with (e | ⟨o, e⟩) | ⟨o, its, n, e, c, _⟩
      · exact .base (.lst e)
      · exact .base (.frz e)
      · exact .kList e c
  | tuple ds =>
    cases h with
    | tup a _ =>
      rcases a with (e | ⟨o, e⟩) | ⟨o, its, n, e, c, _⟩
      · exact .base (.tup e)
      · exact .fTuple e
      · exact .kTuple e c
  | dict _ => cases h
/-- what isinstance answers -/
def isB (T : String) : PyData → Bool
  | .none => decide (T = "NoneType")
  | .bool _ => decide (T = "bool" ∨ T = "int")
  | .int _ => decide (T = "int")
  | .str _ => decide (T = "str")
  | .list _ => decide (T = "list")
  | .tuple _ => decide (T = "tuple")
  | .dict _ => decide (T = "dict")
section
variable {K : PySem.W.Frag} {env : List Sl} {b : Option Addr} {ms : Ms} {te : TE} {P : PyData → Prop}
theorem ev_isiT {T : String} {d : PyData} (h : EvP K env b ms te (Is d)) (hT : kitB (tyD d) T = some (isB T d)) : EvP K env b ms (tCB (rIsi K) (tCons te (tCons (tC (.ty T)) tNil))) (Is (.bool (isB T d))) := fun σ G H e s j Q k =>
  h σ G H e s j _ fun v d1 G1 H1 g1 j1 p1 q1 => by
    cases q1
    exact ⟨v, .ty T, _, _, _, rfl, .ty T, tyx_dp (dp_mono g1.gh _ _ p1), kit_ty hT, k _ _ G1 H1 g1 j1 (.bl _) rfl⟩
theorem kit_int (d : PyData) : kitB (tyD d) "int" = some (isB "int" d) := by cases d <;> simp only [tyD, isB] <;> decide +kernel
theorem kit_bool (d : PyData) : kitB (tyD d) "bool" = some (isB "bool" d) := by cases d <;> simp only [tyD, isB] <;> decide +kernel
theorem kit_tuple (d : PyData) : kitB (tyD d) "tuple" = some (isB "tuple" d) := by cases d <;> simp only [tyD, isB] <;> decide +kernel
theorem kit_str (d : PyData) : kitB (tyD d) "str" = some (isB "str" d) := by cases d <;> simp only [tyD, isB] <;> decide +kernel
end
/-- a whole number that is no truth -/
def isN : PyData → Bool
  | .int _ => true
  | _ => false
/-- the number of a version -/
def isVer (d : PyData) (n : Nat) : Bool := match d with
  | .int i => decide (0 ≤ i ∧ i < n)
  | _ => false
theorem isN_by (d : PyData) : (isB "int" d && !isB "bool" d) = isN d := by cases d <;> rfl
end Dl
set_option Elab.async false
set_option linter.all false
set_option maxRecDepth 100000
set_option maxHeartbeats 4000000
namespace Dl
open PySem PySem.Spec PyProof.Rows L2
/-! sorted of a list of rows: lists of whole numbers -/
abbrev rowLe : List Int → List Int → Bool := fun p q => decide (p ≤ q)
theorem dpa_zip {K : PySem.W.Frag} {H : Hp} {α : Type} {enc : α → PyData} : ∀ {xs : List V} {l : List α}, DpAll K H xs (l.map enc) → ∀ p ∈ xs.zip l, Dp K H p.1 (enc p.2)
  | [], _, _, p, hp => by simp at hp
  | _ :: _, [], _, p, hp => by simp at hp
  | x :: xs, a :: l, h, p, hp => by
    rw [List.map_cons] at h
    cases h with
    | cons h1 h2 =>
      rw [List.zip_cons_cons] at hp
      rcases List.mem_cons.mp hp with e | hp
      · rw [e]; exact h1
      · exact dpa_zip h2 p hp
theorem dpa_pairs {K : PySem.W.Frag} {H : Hp} {α : Type} {enc : α → PyData} : ∀ {l : List (V × α)}, (∀ p ∈ l, Dp K H p.1 (enc p.2)) → DpAll K H (l.map (·.1)) ((l.map (·.2)).map enc)
  | [], _ => .nil
  | p :: l, h => .cons (h p List.mem_cons_self) (dpa_pairs fun q hq => h q (List.mem_cons_of_mem _ hq))
def rSortedR (K : PySem.W.Frag) : List V → Hp → VK → Prop := fun vs H Q => ∃ (a : Addr) (xs : List V) (rows : List (List Int)), vs = [.ref a] ∧ SqL K H a xs ∧ DpAll K H xs (rows.map rowL) ∧
  ∀ p : Addr, H p = none → Q (.ref p) (upd H p (.lst (((xs.zip rows).mergeSort fun p q => rowLe p.2 q.2).map (·.1))))
/-- the sorted values read as the sorted rows -/
theorem dpa_sort {K : PySem.W.Frag} {H : Hp} {xs : List V} {rows : List (List Int)} (da : DpAll K H xs (rows.map rowL)) : DpAll K H (((xs.zip rows).mergeSort fun p q => rowLe p.2 q.2).map (·.1)) ((rows.mergeSort rowLe).map rowL) := by
  have lx : xs.length = rows.length := by rw [dpa_len da, List.length_map]
  have s2 : ((xs.zip rows).mergeSort fun p q => rowLe p.2 q.2).map (·.2) = rows.mergeSort rowLe := by
    rw [PySem.W.sort_maps (s := rowLe) (fun c : V × List Int => c.2) (fun _ _ _ _ => rfl), List.map_snd_zip (by omega)]
  rw [← s2]
  exact dpa_pairs fun p hp => dpa_zip da p ((List.mergeSort_perm _ _).mem_iff.mp hp)
theorem cr_sortedR {X : Cx} (hu : X.A.units + 64 < cLine) : CallR X (.builtin "sorted") (rSortedR X.K) := by
  intro pins s σ H vs us Q I r h
  obtain ⟨a, xs, rows, rfl, hs, da, q⟩ := h
  obtain ⟨its, rv, hl, hz⟩ := I.list hs
  rw [Vals.ref1 r]
  have lx : xs.length = rows.length := by rw [dpa_len da, List.length_map]
  have hz2 : (xs.zip rows).length ≤ sizeLine := by
    rw [List.length_zip, ← lx, Nat.min_self]
    exact hz
  have each : ∀ {xs : List V} {us : List Value} {rows : List (List Int)}, Vals xs us → xs.length = rows.length → PySem.W.EachIs (fun v (b : V × List Int) => RelV b.1 v) us (xs.zip rows) := by
    intro xs us rows h
    induction h generalizing rows with
    | nil => intro _; simpa using PySem.W.EachIs.nil
    | cons h1 h2 ih =>
      intro e
      cases rows with
      | nil => simp at e
      | cons b rows => exact .cons h1 (ih (by simpa using e))
  have e1 := each rv lx
  have e2 : PySem.W.EachIs (fun v (b : V × List Int) => ∃ as, Reads s.heap v (rowL b.2) as) its (xs.zip rows) := by
    have dz := dpa_zip (enc := rowL) da
    refine PySem.W.EachIs.of_zip e1.length fun p hp => ?_
    have h1 := e1.zip p hp
    exact Dp.reads I _ _ _ (dz p.2 (List.of_mem_zip hp).2) h1
  refine PySem.W.sorted_data (enc := fun b : V × List Int => rowL b.2) hl.isList e1 e2 (PySem.W.AllAlike.of (enc := fun b : V × List Int => rowL b.2) fun b b' => ?_) (PySem.W.Sortable.others (enc := fun b : V × List Int => rowL b.2) fun b => ⟨fun e => PyData.noConfusion e, fun xs e => PyData.noConfusion e⟩) hz2 (fun b hb => ?_) fun out ho eo => ?_
  · show PySem.W.alike (.list _) (.list _) = true
    unfold PySem.W.alike
    exact PySem.W.alike_ints _ _
  · show X.A.units + 2 + (PyData.list _).depth < cLine
    have : (PyData.list (b.2.map .int)).depth ≤ 1 := by
      simp only [PyData.depth, PySem.W.depth_ints]; omega
    omega
  · obtain ⟨ep, he'⟩ := PyProof.Rows.sortedAll_at s.heap its out.toArray
    rw [show (fun b : V × List Int => rowL b.2) = fun b => PyData.list ((fun c : V × List Int => c.2) b |>.map .int) from rfl, PySem.W.dataLe_rows] at eo
    have m1 : ∀ {us : List Value} {l : List (V × List Int)}, PySem.W.EachIs (fun v (b : V × List Int) => RelV b.1 v) us l → Vals (l.map (·.1)) us := by
      intro us l h
      induction h with
      | nil => exact .nil
      | cons h1 h2 ih => exact .cons h1 ih
    have vo := m1 eo
    refine ⟨.ref _, upd H (s.heap.objs.size + 1) (.lst _), I.laid (t' := s.toks) (fun _ _ => PyProof.Rows.sortedAll_old) (Nat.le_succ _) ⟨?_, out, ep, vo, he'⟩, rfl, q _ (I.hok.fresh (Nat.le_succ _))⟩
    rw [List.length_map, List.length_mergeSort]
    exact hz2
section
variable {K : PySem.W.Frag} {env : List Sl} {b : Option Addr} {ms : Ms} {te : TE}
theorem ev_sortR {rows : List (List Int)} (h : EvP K env b ms te (Is (.list (rows.map rowL)))) : EvP K env b ms (tCB (rSortedR K) (tCons te tNil)) (Is (.list ((rows.mergeSort rowLe).map rowL))) := fun σ G H e s j Q k =>
  h σ G H e s j _ fun v d G1 H1 g1 j1 p1 q1 => by
    cases q1
    cases p1 with
    | lst sq da =>
      rename_i a xs
      refine ⟨a, xs, rows, rfl, g1.gh.seq sq, dpa_mono g1.gh _ _ da, fun p hp => ?_⟩
      have g2 : Grow No G1 H1 (upd G1 p (.lst (((xs.zip rows).mergeSort fun p q => rowLe p.2 q.2).map (·.1)))) (upd H1 p (.lst (((xs.zip rows).mergeSort fun p q => rowLe p.2 q.2).map (·.1)))) := Grow.lay g1.gh hp
      exact k _ _ _ _ (g1.trans g2.no) (j1.grow g2) (.lst (SqL.of upd_same) (dpa_mono g2.g _ _ (dpa_sort da))) rfl
end
end Dl
set_option Elab.async false
set_option linter.all false
set_option maxRecDepth 100000
set_option maxHeartbeats 4000000
namespace Dl
open PySem PySem.Spec PyProof.Rows L2
/-! dicts whose keys are texts, whose values are data -/
def kvsOf (ks : List Str) (vs : List V) : List (Key × V) := (ks.zip vs).map fun p => (.inr p.1, p.2)
theorem valV_ks {x : Str} : ∀ {ks : List Str} {vs : List V}, ks.length = vs.length → valV (kvsOf ks vs) (.inr x) = vs[ks.idxOf x]?
  | [], [], _ => rfl
  | [], _ :: _, h => by simp at h
  | _ :: _, [], h => by simp at h
  | k :: ks, v :: vs, h => by
    by_cases e : k = x
    · have : kvsOf (k :: ks) (v :: vs) = (.inr k, v) :: kvsOf ks vs := rfl
      rw [this, valV_pos (by rw [e])]
      simp [e]
    · have : kvsOf (k :: ks) (v :: vs) = (.inr k, v) :: kvsOf ks vs := rfl
      rw [this, valV_neg (fun z => e (Sum.inr.inj z)), valV_ks (by simpa using h)]
      have : (k == x) = false := beq_eq_false_iff_ne.mpr e
      rw [List.idxOf_cons, this]
      rfl
theorem putK_ks {x : Str} {v : V} {ks : List Str} {vs : List V} (h : ks.length = vs.length) (hx : x ∉ ks) : putK (kvsOf ks vs) (.inr x) v = kvsOf (ks ++ [x]) (vs ++ [v]) := by
  unfold putK
  rw [if_neg]
  · unfold kvsOf
    rw [List.zip_append h, List.map_append]
    rfl
  · rw [valV_any, valV_ks h, List.getElem?_eq_none]
    · decide
    · rw [List.idxOf_eq_length hx, h]
      exact Nat.le_refl _
theorem kvs_len {ks : List Str} {vs : List V} (h : ks.length = vs.length) : (kvsOf ks vs).length = ks.length := by
  unfold kvsOf
  rw [List.length_map, List.length_zip, ← h, Nat.min_self]
/-- a dict of texts -/
def DkR (K : PySem.W.Frag) (ks : List Str) (ds : List PyData) (G : Hp) (v : V) : Prop := ∃ (a : Addr) (vs : List V), v = .ref a ∧ G a = some (.dK (kvsOf ks vs)) ∧ DpAll K G vs ds ∧ ks.length = ds.length
section
variable {K : PySem.W.Frag} {env : List Sl} {b : Option Addr} {ms : Ms} {te ta tb tk tv : TE} {P : PyData → Prop} {tt : TT} {v : V} {G G2 H : Hp} {σ : L2.St}
theorem DkR.up {ks : List Str} {ds : List PyData} (h : DkR K ks ds G v) : Up (DkR K ks ds) G v := fun G2 e => by
  obtain ⟨a, vs, e1, e2, e3, e4⟩ := h
  exact ⟨a, vs, e1, e _ _ e2 rfl, dpa_dat e _ _ e3, e4⟩
/-- d[k], the key there -/
theorem ev_dGet {ks : List Str} {ds : List PyData} {x : Str} {d : PyData} (h : EvU K env b ms ta (DkR K ks ds)) (hb : EvP K env b ms tb (Is (.str x))) (hd : ds[ks.idxOf x]? = some d) : EvP K env b ms (tDGet ta tb) (Is d) := fun σ G H e s j Q k =>
  h σ G H e s j _ fun v G1 H1 g1 j1 u1 => hb σ G1 H1 (e.mono g1.g) g1.gh j1 _ fun y dy G2 H2 g2 j2 p2 q2 => by
    cases q2
    cases p2
    obtain ⟨a, vs, rfl, e2, e3, e4⟩ := u1.now
    obtain ⟨w, hw, pw⟩ := dpa_get e3 hd
    have lk : ks.length = vs.length := by rw [e4, dpa_len e3]
    refine ⟨a, w, rfl, .inl ⟨_, .inr x, .inl (g2.gh _ _ (g2.g _ _ e2)), rfl, ?_⟩, k w d G2 H2 (g1.trans g2) j2 (dp_mono g2.g _ _ pw) rfl⟩
    rw [valV_ks lk, hw]
/-- k in d -/
theorem et_dIn {ks : List Str} {ds : List PyData} {x : Str} (hb : EvP K env b ms tb (Is (.str x))) (h : EvU K env b ms ta (DkR K ks ds)) : EvP K env b ms (tDIn tb ta) (Is (.bool (decide (x ∈ ks)))) := fun σ G H e s j Q k =>
  hb σ G H e s j _ fun y dy G1 H1 g1 j1 p1 q1 => h σ G1 H1 (e.mono g1.g) g1.gh j1 _ fun v G2 H2 g2 j2 u2 => by
    cases q1
    cases p1
    obtain ⟨a, vs, rfl, e2, e3, e4⟩ := u2.now
    have lk : ks.length = vs.length := by rw [e4, dpa_len e3]
    refine ⟨a, vs[ks.idxOf x]?, rfl, .inl ⟨_, .inr x, .inl (g2.gh _ _ e2), rfl, (valV_ks lk).symm⟩, ?_⟩
    have : (vs[ks.idxOf x]?).isSome = decide (x ∈ ks) := by
      by_cases hx : x ∈ ks
      · have := List.idxOf_lt_length_iff.mpr hx
        rw [List.getElem?_eq_getElem (by omega)]
        simp [hx]
      · rw [List.getElem?_eq_none (by rw [List.idxOf_eq_length hx]; omega)]
        simp [hx]
    rw [this]
    exact k _ _ G2 H2 (g1.trans g2) j2 (.bl _) rfl
/-- a dict comprehension over a walk, keys unlike one another -/
theorem dc_it {J : It} {n : Nat} {G : Hp → Prop} {Y : Nat → Hp → V → Hp → Prop} (w : Walk J n G Y) {g : TG} {tt : TT} {tk tv : TE} {vs : List Nat} {σ : L2.St} {H1 : Hp} {D : Addr} {Qd : Hp → Prop} (Pv : Nat → Hp → Prop) (h0 : Pv 0 (upd H1 D (.dK []))) (hG : ∀ i H, i ≤ n → Pv i H → G H)
    (hs : ∀ i x H H', i < n → Pv i H → Y i H x H' → g x (wipe σ vs) H' fun σ2 H2 => wipe σ2 vs = wipe σ vs ∧ tt σ2 H2 fun b H3 =>
      if b = true then tk σ2 H3 fun y H4 => tv σ2 H4 fun z H5 => ∃ kvs k, y = kV k ∧ H5 D = some (.dK kvs) ∧ kvs.length < sizeLine ∧ Pv (i + 1) (upd H5 D (.dK (putK kvs k z))) else Pv (i + 1) H3) (hd : ∀ H, Pv n H → Qd H) :
    ∃ W : Nat → Nat → Hp → Prop, (∃ m, W 0 m (upd H1 D (.dK []))) ∧ ∀ i m H, W i m H →
      (J.stop i H ∧ Qd H) ∨ (J.go i H ∧ ∃ Nx : Hp → Prop, (∀ H', Nx H' → ∃ m', m' < m ∧ W (i + 1) m' H') ∧ ∀ x H', J.yld i H x H' → g x (wipe σ vs) H' fun σ2 H2 => wipe σ2 vs = wipe σ vs ∧ tt σ2 H2 fun b H3 =>
        if b = true then tk σ2 H3 fun y H4 => tv σ2 H4 fun z H5 => ∃ kvs k, y = kV k ∧ H5 D = some (.dK kvs) ∧ kvs.length < sizeLine ∧ Nx (upd H5 D (.dK (putK kvs k z))) else Nx H3) := by
  refine ⟨fun i m H => m = n - i ∧ i ≤ n ∧ Pv i H, ⟨n, by simp, Nat.zero_le _, h0⟩, ?_⟩
  rintro i m H ⟨rfl, hi, p⟩
  have q := hG i H hi p
  by_cases hlt : i < n
  · refine .inr ⟨w.goes i H hlt q, Pv (i + 1), fun H' p' => ⟨n - (i + 1), by omega, rfl, hlt, p'⟩, fun x H' y => hs i x H H' hlt p (w.yields i H x H' hlt q y)⟩
  · have e : i = n := by omega
    subst e
    exact .inl ⟨w.stops H q, hd H p⟩
/-- {k: v for t in w}: item i gives the key ks[i], the value ds[i] -/
theorem evu_dc {α : Type} {enc : α → PyData} {fk : α → Str} {fv : α → PyData} {L : List α} {wi : TI} {g : TG} {vs : List Nat} {f : PyData → List Sl → List Sl}
    (hi : EvI K env b ms wi (Is (L.map enc))) (hl : L.length ≤ 1000) (hg : ∀ x ∈ L, TgP K g vs (enc x) (f (enc x))) (nd : (L.map fk).Nodup)
    (hk : ∀ x ∈ L, EvP K (f (enc x) (wipeE env vs)) b ms tk (Is (.str (fk x)))) (hv : ∀ x ∈ L, EvP K (f (enc x) (wipeE env vs)) b ms tv (Is (fv x))) :
    EvU K env b ms (tDc wi g tYes tk tv vs) (DkR K (L.map fk) (L.map fv)) := fun σ G H e s j Q k => hi σ G H e s j _ fun J l G1 H1 g1 j1 it q1 => by
  subst q1
  obtain ⟨W, Y, wk, hw⟩ := it
  rw [List.length_map] at wk
  rw [List.length_map] at hw
  intro D hD
  have hDb : ¬ Mb b D := fun z => by
    obtain ⟨_, _, _, _, _, _, e0, _⟩ := j1.bag D z
    rw [hD] at e0; cases e0
  refine dc_it wk (fun i H2 => ∃ (G2 : Hp) (acc : List V), Grow (Mb b) G1 H1 G2 H2 ∧ JB K b ms G2 H2 ∧ G2 D = none ∧ H2 D = some (.dK (kvsOf ((L.take i).map fk) acc)) ∧ DpAll K G2 acc ((L.take i).map fv))
    ⟨G1, [], Grow.lay0 g1.gh hD, j1.grow (Grow.lay0 g1.gh hD), g1.gh.free hD, upd_same, .nil⟩ ?_ ?_ ?_
  · rintro i H2 _ ⟨G2, acc, g2, _⟩
    exact (hw G2 H2 g2.g g2.gh).1
  · rintro i x H2 H3 hi ⟨G2, acc, g2, j2, f2, hd2, da2⟩ y
    obtain ⟨G3, d, g3, hd, p3⟩ := (hw G2 H2 g2.g g2.gh).2 i x H3 hi y
    obtain ⟨a, ha, rfl⟩ : ∃ a, L[i]? = some a ∧ d = enc a := by
      rw [List.getElem?_map] at hd
      cases q : L[i]? with
      | none => rw [q] at hd; cases hd
      | some a => rw [q] at hd; exact ⟨a, rfl, (Option.some.inj hd).symm⟩
    have mem : a ∈ L := List.mem_of_getElem? ha
    have j3 := j2.grow g3
    have e3 : EnvOk K G3 σ env := e.mono (g1.g.trans (g2.g.trans g3.g))
    have nf : ∀ {o : HO} {Ga Ha Gb Hb : Hp}, Ha D = some o → Ga D = none → Grow (Mb b) Ga Ha Gb Hb → Gb D = none ∧ Hb D = some o := fun {o Ga Ha Gb Hb} h1 h2 gg => by
      refine ⟨?_, gg.keep _ _ h1 hDb⟩
      cases r : Gb D with
      | none => rfl
      | some o =>
        rcases gg.new _ o r with z | z
        · rw [h2] at z; cases z
        · rw [h1] at z; cases z
    obtain ⟨f3, hd3⟩ := nf hd2 f2 g3.no
    refine hg a mem (wipeE env vs) (wipe σ vs) G3 H3 x (e3.wipe vs) g3.gh p3 _ fun σ2 e4 ew => ?_
    refine ⟨by rw [ew, wipe_wipe], ?_⟩
    have tkE : L.take (i + 1) = L.take i ++ [a] := by rw [List.take_add_one, ha]; rfl
    have la : ((L.take i).map fk).length = acc.length := by rw [dpa_len da2, List.length_map, List.length_map]
    show tk σ2 H3 _
    refine hk a mem σ2 G3 H3 e4 g3.gh j3 _ fun v dk G4 H4 g4 j4 p4 q4 => ?_
    obtain ⟨f4, hd4⟩ := nf hd3 f3 g4
    cases q4
    cases p4
    refine hv a mem σ2 G4 H4 (e4.mono g4.g) g4.gh j4 _ fun v y5 G5 H5 g5 j5 p5 q5 => ?_
    obtain ⟨f5, hd5⟩ := nf hd4 f4 g5
    cases q5
    have fresh : fk a ∉ (L.take i).map fk := fun hm => by
      obtain ⟨c, hc, e⟩ := List.mem_map.mp hm
      have nd2 : ((L.take (i + 1)).map fk).Nodup := nd.sublist ((List.take_sublist _ _).map fk)
      rw [tkE, List.map_append, List.nodup_append] at nd2
      exact nd2.2.2 _ hm _ (by simp) rfl
    refine ⟨_, .inr (fk a), rfl, hd5, ?_, G5, acc ++ [v], ?_, ?_, f5, ?_, ?_⟩
    · rw [kvs_len la, List.length_map, List.length_take]
      exact Nat.lt_of_le_of_lt (show min i L.length ≤ 1000 by omega) (by decide)
    · have gg := ((g2.trans g3.no).trans g4).trans g5
      refine ⟨gg.g, fun c o z => ?_, fun c z => ?_, fun c o z m => ?_, gg.new⟩
      · by_cases q : c = D
        · subst q; rw [f5] at z; cases z
        · rw [upd_ne q]; exact gg.gh c o z
      · by_cases q : c = D
        · subst q; rw [upd_same] at z; cases z
        · rw [upd_ne q] at z; exact gg.dom c z
      · by_cases q : c = D
        · subst q; rw [hD] at z; cases z
        · rw [upd_ne q]; exact gg.keep c o z m
    · refine ⟨fun c z => ?_, fun p hp => ?_⟩
      · obtain ⟨b1, z0, z1, z2, lb, cs, b2, b3⟩ := j5.bag c z
        exact ⟨b1, z0, z1, z2, lb, cs, by rw [upd_ne (show c ≠ D from fun q => hDb (by rw [← q]; exact z))]; exact b2, b3⟩
      · obtain ⟨m1, m2, xs, m3, m4⟩ := j5.mu p hp
        obtain ⟨_, _, _, m5, _⟩ := j1.mu p hp
        exact ⟨m1, m2, xs, by rw [upd_ne (ne_of_none m5 hD)]; exact m3, m4⟩
    · rw [upd_same, putK_ks la fresh, tkE, List.map_append]
      rfl
    · rw [tkE, List.map_append]
      exact dpa_app (dpa_mono (g3.g.trans (g4.g.trans g5.g)) _ _ da2) (.cons p5 .nil)
  · rintro H2 ⟨G2, acc, g2, j2, f2, hd2, da2⟩
    rw [List.take_length] at hd2 da2
    -- from now on still
    have st : Grow (Mb b) G H (upd G2 D (.dK (kvsOf (L.map fk) acc))) H2 := (g1.trans g2).still hd2 (g1.dom _ hD) f2
    have up : Same G2 (upd G2 D (.dK (kvsOf (L.map fk) acc))) := fun c o z => by rw [upd_ne (ne_of_none z f2)]; exact z
    refine k (.ref D) _ H2 st ⟨fun x ex => ?_, fun m hm => ?_⟩ (DkR.up ⟨D, acc, rfl, upd_same, dpa_mono up _ _ da2, by simp⟩)
    · obtain ⟨gx, z0, z1, z2, l, cs, e1, sq, r⟩ := j2.bag x ex
      obtain ⟨_, _, _, _, _, _, e0, _⟩ := j.bag x ex
      exact ⟨by rw [upd_ne (ne_of_none e0 (g1.dom _ hD))]; exact gx, z0, z1, z2, l, cs, e1, up.seq sq, r⟩
    · obtain ⟨gx, nb, ys, e1, q1⟩ := j2.mu m hm
      obtain ⟨_, _, _, e0, _⟩ := j.mu m hm
      exact ⟨by rw [upd_ne (ne_of_none e0 (g1.dom _ hD))]; exact gx, nb, ys, e1, q1.mono up⟩
end
end Dl
set_option Elab.async false
set_option linter.all false
set_option maxRecDepth 100000
set_option maxHeartbeats 6400000
/-! set(t) of a tuple of texts, all unlike; len of it -/
namespace Dl
open PySem PySem.Spec PyProof.Rows L2
section
variable {prog : Program} {w : World} {A : Around} {R : Result → Shared → Prop} {I : Addr} {fp wr : List Addr} {Gn : Array GenState → Array GenState → Prop} {n : Nat} {Pv : Nat → Value → Prop} {St : Nat → Shared → Prop}
abbrev txIn (xs : List Str) (i : Nat) : Str → Bool := fun c => decide (c ∈ xs.take i)
theorem tx_step {xs : List Str} (nd : xs.Nodup) {i : Nat} (h : i < xs.length) : xs.getD i Str.empty ∉ xs.take i ∧ ∀ c, (txIn xs i c || decide (c = xs.getD i Str.empty)) = txIn xs (i + 1) c := by
  have g : xs.getD i Str.empty = xs[i] := by rw [List.getD_eq_getElem?_getD, List.getElem?_eq_getElem h]; rfl
  have tk : xs.take (i + 1) = xs.take i ++ [xs[i]] := by rw [List.take_add_one, List.getElem?_eq_getElem h]; rfl
  rw [g]
  refine ⟨fun hm => ?_, fun c => ?_⟩
  · have q := nd.sublist (List.take_sublist (i + 1) xs)
    rw [tk, List.nodup_append] at q
    exact q.2.2 _ hm _ (by simp) rfl
  · show (decide (c ∈ xs.take i) || decide (c = xs[i])) = decide (c ∈ xs.take (i + 1))
    rw [Bool.eq_iff_iff, Bool.or_eq_true, decide_eq_true_eq, decide_eq_true_eq, decide_eq_true_eq, tk, List.mem_append, List.mem_singleton]
/-- the loop that fills it -/
theorem tx_loop (W : WalksS prog w A.in1 I fp wr Gn n Pv St) {S : Addr} (off : S ∉ fp) {xs : List Str} (len : xs.length = n) (nd : xs.Nodup) (room : n + 1 < scanBound) (val : ∀ i v, Pv i v → ∃ t, v = .str (xs.getD i Str.empty) t)
    (fin : ∀ s1 s2 : Shared, Moved (S :: wr) Gn s1 s2 → True) :
    ∀ (todo i : Nat) (s : Shared), i + todo = n → St i s → s.heap.SetOf (PySem.strKind prog w) S (txIn xs i) i →
      (∀ s2, Moved (S :: wr) Gn s s2 → s2.heap.SetOf (PySem.strKind prog w) S (txIn xs n) n → R (.ok (.ret .none)) s2) → codeAny (model prog w) A (.builtin "set.update.loop" ⟨[.ref S, .ref I], []⟩) R s := by
  have offw : S ∉ wr := fun z => off (W.sub _ z)
  intro todo
  induction todo with
  | zero =>
    intro i s hi st so out
    obtain rfl : i = n := by omega
    refine codeAny_builtin F.entry_set_update_loop ?_
    rw [Around.under_plainId F.plain_set_update_loop _]
    show wpAny _ A.in1 (pyNext (.ref I) >>= _) _ _ s
    refine wpAny_bind (W.done s _ _ st fun s2 mv => ?_)
    obtain ⟨o, es, ep, t, ho, more⟩ := so
    show wpAny _ A.in1 (ret Value.none) _ _ s2
    exact wpAny_pure (out s2 (mv.mono fun c hc => List.mem_cons_of_mem _ hc) ⟨o, es, ep, t, mv.heap S _ offw ho, more⟩)
  | succ todo ih =>
    intro i s hi st so out
    have lt : i < n := by omega
    obtain ⟨new, grown⟩ := tx_step nd (show i < xs.length by omega)
    refine codeAny_builtin F.entry_set_update_loop ?_
    rw [Around.under_plainId F.plain_set_update_loop _]
    show wpAny _ A.in1 (pyNext (.ref I) >>= _) _ _ s
    refine wpAny_bind (W.item i s _ _ lt st fun v s2 pv st2 mv => ?_)
    obtain ⟨t, rfl⟩ := val i v pv
    have so2 : s2.heap.SetOf (PySem.strKind prog w) S (txIn xs i) i := by
      obtain ⟨o, es, ep, tb, ho, more⟩ := so
      exact ⟨o, es, ep, tb, mv.heap S _ offw ho, more⟩
    generalize xs.getD i Str.empty = x at new grown ⊢
    show wpAny _ A.in1 (holding [Value.str x t] (setAdd S (.str x t)) >>= _) _ _ s2
    refine wpAny_bind (wpAny_holding ?_)
    unfold setAdd
    refine wpAny_holding ?_
    refine wpAny_bind ((PySem.strKind prog w).pyHash (k := x) (strKind_is _ _ _ _) ?_)
    refine wpAny_setAddHashed_of (knd := PySem.strKind prog w) (s := { s2 with toks := s2.toks + 1 }) (strKind_is _ _ _ _) rfl so2 (by omega) fun h3 sb so3 => ?_
    have so4 : h3.SetOf (PySem.strKind prog w) S (txIn xs (i + 1)) (i + 1) := SetOf_congr so3 grown (by
      have : txIn xs i x = false := decide_eq_false new
      rw [this]; rfl)
    have keep : ∀ c o, c ≠ S → s2.heap.get? c = some o → h3.get? c = some o := fun c o ne e => by rw [sb.2 c ne]; exact e
    refine wpAny_pure ⟨plainId_quiet F.plain_set_update_loop _, ih (i + 1) _ (by omega) (W.frame _ s2 _ _ st2 (Nat.le_succ _) fun c hc o e => keep c o (fun z => off (by rw [← z]; exact hc)) e) so4 fun s5 mv5 so5 => ?_⟩
    refine out s5 (Moved.trans W.gtrans ((mv.mono fun c hc => List.mem_cons_of_mem _ hc).then_heap (Nat.le_succ _) fun c o hc e => keep c o (fun z => hc (by rw [z]; exact List.mem_cons_self)) e) mv5) so5
end
section
variable {prog : Program} {w : World} {A : Around} {E : Value → Shared → Prop} {s : Shared}
/-- set(t) -/
theorem call_setTx {l : Addr} {items : Array Value} {xs : List Str} {Q : Value → Shared → Prop} (hh : A.handled = none) (tup : s.heap.IsTuple l items) (tx : StrsAre items.toList xs) (nd : xs.Nodup) (room : items.size + 1 < scanBound)
    (q : ∀ (h2 : Heap) (tk : Nat), h2.SetOf (PySem.strKind prog w) s.heap.objs.size (txIn xs items.size) items.size → (∀ c o, c < s.heap.objs.size → s.heap.get? c = some o → h2.get? c = some o) → Q (.ref s.heap.objs.size) { s with heap := h2, toks := tk }) :
    wpAny (model prog w) A (call (.type "set") [.ref l]) Q E s := by
  obtain ⟨c0, tl, hmro⟩ := PySem.F.called_set.mro
  have k1 := PySem.F.called_set.made
  have k2 := PySem.F.called_set.sub
  have k3 := PySem.F.called_set.notType
  have k4 := PySem.F.called_set.canCreate
  have k5 := PySem.F.typeCall_set_1 (.ref l)
  refine wpAny_call (codeAny_of_tree ?_)
  show wpAny _ _ (callAny (.type "set") _) _ _ _
  refine wpAny_pure ⟨Code.quiet_builtin _ (by decide +kernel), codeAny_builtin PySem.F.entry_type_call ?_⟩
  rw [Around.under_plain (weight_type_call_type "set" [.ref l] []) rfl]
  repeat (any_goals (first | assumption | wp_step))
  let fresh : Bool → Obj := fun led => { cls := .type "set", dict := none, data := .set #[] 0 (.fresh 0 0 led) }
  refine codeAny_mono (code_set_new_1 (.ref l) (E := E) (Q₁ := fun obj s1 => ∃ led : Bool, obj = .ref s.heap.objs.size ∧ s1 = { s with heap := s.heap.push (fresh led) }) fun led => ⟨led, rfl, rfl⟩) fun r s1 hr => ?_
  cases r with
  | error e => exact hr
  | ok fl =>
    cases fl with
    | ret obj =>
      obtain ⟨led, rfl, rfl⟩ := hr
      have at0 : (s.heap.push (fresh led)).get? s.heap.objs.size = some (fresh led) := Heap.get?_push_size _ rfl
      have ty0 : Shared.TypeIs { s with heap := s.heap.push (fresh led) } (.ref s.heap.objs.size) "set" := ⟨_, at0, rfl⟩
      have k6 := PySem.F.called_set.init.lookup
      have k7 := PySem.F.called_set.init.bind (.ref s.heap.objs.size)
      repeat (any_goals (first | assumption | wp_step))
      refine codeAny_mono (codeAny_call_builtin (R := wants (fun r s2 => r = .none ∧ ∃ h2 tk, s2 = { s with heap := h2, toks := tk } ∧ h2.SetOf (PySem.strKind prog w) s.heap.objs.size (txIn xs items.size) items.size ∧ ∀ c o, c < s.heap.objs.size → s.heap.get? c = some o → h2.get? c = some o) E)
        PySem.F.called_set.init.plain PySem.F.entry_set_init (check_set_init_1 ty0 ?_)) fun r2 s2 hr2 => ?_
      · obtain ⟨ol, hol, hcl, nl, hdl⟩ := tup
        obtain ⟨ocls, odict, odata, oslots⟩ := ol
        simp only at hcl hdl
        subst hcl hdl
        have hol2 : (s.heap.push (fresh led)).get? l = some { cls := .type "tuple", dict := odict, data := .seq items nl, slots := oslots } := Heap.get?_push_of_some _ hol
        have m1 := PySem.F.sub_tuple_set
        have m2 := PySem.F.sub_tuple_frozenset
        have m3 : (Value.type "tuple" == Value.type "dict") = false := by decide
        have tup1 : (s.heap.push (fresh led)).IsTuple l items := ⟨_, hol2, rfl, nl, rfl⟩
        unfold Builtin.«set.__init__» noKeywords Builtin.Frozenset.updateFrom
        generalize hPI : pyIter = PI
        wp_walk
        subst hPI
        refine wpAny_pyIter_tuple tup1 ?_
        refine wpAny_bind (wpAny_runValue ?_)
        have ls : l < s.heap.objs.size := Heap.lt_size hol
        have hh3 : A.in1.in1.in1.handled = none := by simp [hh]
        have sz : (s.heap.push (fresh led)).objs.size = s.heap.objs.size + 1 := Heap.size_push ..
        have ne : l ≠ (s.heap.push (fresh led)).objs.size := by rw [sz]; exact Nat.ne_of_lt (Nat.lt_succ_of_lt ls)
        have off : s.heap.objs.size ∉ [(s.heap.push (fresh led)).objs.size, l] := by
          rw [sz]
          intro z
          rcases List.mem_cons.mp z with z | z
          · exact Nat.ne_of_lt (Nat.lt_succ_self _) z
          · exact Nat.ne_of_gt ls (List.mem_singleton.mp z)
        have lx : xs.length = items.size := by rw [← StrsAre.len_eq tx, Array.length_toList]
        refine tx_loop ((Walks.tuple hh3 _ l ne items).toS) off lx nd room (fun i v hv => SS.strs_at tx i v (by rw [Array.getElem?_toList]; exact hv)) (fun _ _ _ => trivial) items.size 0 _ (by omega) ⟨⟨_, Heap.get?_push_size _ rfl, rfl, rfl⟩, (tup1.push _)⟩ ?_ ?_
        · have at1 : ((s.heap.push (fresh led)).push { cls := .type "tuple_iterator", data := .fields #[.ref l, .int 0 0] }).get? s.heap.objs.size = some (fresh led) := Heap.get?_push_of_some _ at0
          exact SetOf_congr ((setObjOf_fresh (knd := PySem.strKind prog w) led).setOf at1 (by unfold scanBound; omega)) (fun _ => rfl) rfl
        · intro s5 mv so
          obtain ⟨h5, g5, d5, tk5, os5⟩ := s5
          have q1 : g5 = s.gens := mv.gens
          have q2 : d5 = s.drawn := mv.drawn
          have q3 : os5 = s.os := mv.os
          subst q1 q2 q3
          refine wpAny_pure ?_
          show wpAny _ _ (ret Value.none) _ _ _
          refine wpAny_pure ⟨rfl, h5, tk5, rfl, so, fun c o hc e => mv.heap c o (fun z => ?_) (Heap.get?_push_of_some _ (Heap.get?_push_of_some _ e))⟩
          rcases List.mem_cons.mp z with z | z
          · exact Nat.ne_of_lt hc z
          · have e2 := List.mem_singleton.mp z
            rw [sz] at e2
            exact Nat.ne_of_lt (Nat.lt_succ_of_lt hc) e2
      · cases r2 with
        | error e => exact hr2
        | ok fl2 =>
          cases fl2 with
          | ret r =>
            obtain ⟨rfl, h2, tk, rfl, so, kp⟩ := hr2
            repeat (any_goals (first | assumption | wp_step))
            exact q _ _ so kp
          | _ => exact hr2.elim
    | _ => exact hr.elim
end
/-- len(set(t)) -/
def tLenTx (K : PySem.W.Frag) (ta : TE) : TE := fun σ H Q => ta σ H fun x H1 => ∃ (l : Addr) (xs : List Str), x = .ref l ∧ SqT K H1 l (xs.map V.str) ∧ xs.Nodup ∧ xs.length ≤ 1000 ∧ Q (.int (xs.length : Nat)) H1
theorem pe_lenTx {X : Cx} {a : Expr} {ta : TE} {p p2 q pos : Pos} (hg : Gl X "len") (hm : X.mg "len" = none) (hg2 : Gl X "set") (hm2 : X.mg "set" = none) (ha : PE X a ta) (hc : X.calm = true := by rfl)
    (na : starEach [a] X.env = (false, eval a X.env) :: starEach [] X.env := by rfl) : PE X (.Call (.Name "len" p) [.Call (.Name "set" p2) [a] [] q] [] pos) (tLenTx X.K ta) := by
  refine ⟨fun pins s σ H Q I h => ?_⟩
  refine Call_ (ld_blt I hg hm boot_len (PyProof.Rows.callWith_builtin1 (PyProof.Rows.args_cons ?_ rfl) rfl rfl))
  refine Call_ (ld_blt I hg2 hm2 boot_set (PyProof.Rows.callWith_type1 (PyProof.Rows.args_cons (thn (ha.run pins s σ H _ I h) fun v s1 ⟨x, H1, I1, r1, q1⟩ => PyProof.Rows.args_nil ?_) na) na rfl))
  obtain ⟨l, xs, rfl, hq, nd, hl, q1⟩ := q1
  cases r1
  obtain ⟨its, r, pt, hz⟩ := I1.tuple hq
  have li : its.toArray.size = xs.length := by rw [List.size_toArray, ← r.length, List.length_map]
  refine call_setTx (I1.ok.hd hc) (show s1.heap.IsTuple l its.toArray from pt) (by simpa using strsAre_of r) nd (by rw [li]; unfold scanBound; omega) fun h2 tk so kp => PyProof.Rows.args_nil ?_
  rw [li] at so
  obtain ⟨o, es, ep, t, ho, hex, hd, _, _, _, hf, hn⟩ := so
  have I2 : Inv X pins σ H1 { s1 with heap := h2, toks := tk } := I1.kept fun b o e => kp b o (Heap.lt_size e) e
  exact call_len_set ho hex hd hf (by rw [hn] <;> omega) ⟨.int xs.length, H1, I2.tok _, ⟨_, by rw [hn]⟩, q1⟩
section
variable {K : PySem.W.Frag} {env : List Sl} {b : Option Addr} {ms : Ms} {te : TE}
theorem ev_lenTx {l : List Str} (h : EvP K env b ms te (Is (.tuple (sTs l)))) (nd : l.Nodup) (hl : l.length ≤ 1000) : EvP K env b ms (tLenTx K te) (Is (.int (l.length : Nat))) := fun σ G H e s j Q k =>
  h σ G H e s j _ fun v d G1 H1 g1 j1 p1 q1 => by
    cases q1
    cases p1 with
    | tup sq da =>
      rename_i a vs
      have ev := vals_str da
      subst ev
      exact ⟨a, l, rfl, sqt_mono g1.gh sq, nd, hl, k _ _ G1 H1 g1 j1 (.int _) rfl⟩
end
end Dl
set_option Elab.async false
set_option linter.all false
set_option maxRecDepth 100000
set_option maxHeartbeats 4000000
namespace Dl
open PySem PySem.Spec PyProof.Rows L2
section
variable {K : PySem.W.Frag} {env : List Sl} {b : Option Addr} {ms : Ms} {te ta tb tc : TE} {P : PyData → Prop} {tt : TT} {v : V} {G G2 H : Hp} {σ : L2.St}
/-! texts, sign by sign -/
def sgL (x : Str) : List PyData := x.cps.toList.map fun c => .str ⟨#[c]⟩
theorem iter_str {x : Str} : IterD K (Its x) (sgL x) G := by
  refine ⟨fun _ => True, fun i H v H' => H' = H ∧ ∃ c, x.cps[i]? = some c ∧ v = .str ⟨#[c]⟩, ?_, fun G1 H _ s => ⟨trivial, fun i v H' hi y => ?_⟩⟩
  · have := walk_str (z := x)
    rw [show (sgL x).length = x.cps.size by unfold sgL; simp]
    exact this
  · obtain ⟨rfl, c, hc, rfl⟩ := y
    refine ⟨G1, _, Grow.refl s, ?_, .str _⟩
    unfold sgL
    rw [List.getElem?_map, Array.getElem?_toList, hc]
    rfl
theorem ei_str {x : Str} (h : EvP K env b ms te (Is (.str x))) : EvI K env b ms (iStr te) (Is (sgL x)) := fun σ G H e s j R k => h σ G H e s j _ fun v d G1 H1 g1 j1 p1 q1 => by
  cases q1
  cases p1
  exact ⟨x, rfl, k _ _ G1 H1 g1 j1 iter_str rfl⟩
def rLenS : List V → Hp → VK → Prop := fun xs H Q => ∃ z : Str, xs = [.str z] ∧ z.length ≤ sizeLine ∧ Q (.int z.length) H
theorem cr_lenS {X : Cx} : CallR X (.builtin "len") rLenS := call_len_str
theorem rc_lenS {z : Str} (h : z.length ≤ 1000) : RcP K b ms rLenS [.str z] (Is (.int (z.length : Nat))) := fun xs G H p s j Q k => by
  cases p with
  | cons p1 p2 =>
    cases p1
    cases p2
    exact ⟨z, rfl, sz1000 h, k _ _ G H (Grow.refl s) j (.int _) rfl⟩
/-- the one text within the other -/
def subS' (x y : Str) : Bool := !(Builtin.Str.occurrences y x 0 y.length 1).isEmpty
def rInStr : R2 := fun x y H Q => ∃ i j : Str, x = .str i ∧ y = .str j ∧ Q (.bl (subS' i j)) H
theorem op_inStr {X : Cx} : OpR X (compareOp .In) rInStr := op_in_str
theorem ev_inStr {x y : Str} (ha : EvP K env b ms ta (Is (.str x))) (hb : EvP K env b ms tb (Is (.str y))) : EvP K env b ms (tOp rInStr ta tb) (Is (.bool (subS' x y))) :=
  ev_op ha hb fun d1 d2 e1 e2 => by
    rw [e1, e2]
    intro v w G H p1 p2 s jb Q k
    cases p1
    cases p2
    exact ⟨x, y, rfl, rfl, k _ _ G H (Grow.refl s) jb (.bl _) rfl⟩
def alphaS : Str := "abcdefghijklmnopqrstuvwxyz"
/-- names: what the laws draw -/
def nmAll : List Str := ["a", "b", "rent", "x", "y", "sum", "ab", "abcdefghijkl", "z", "p", "tax", "q", "zz"]
theorem nmAll_ok : ∀ x ∈ nmAll, 1 ≤ x.length ∧ x.length ≤ 12 ∧ (x.cps.toList.all fun c => subS' ⟨#[c]⟩ alphaS) = true := by
  decide +kernel
/-- 1 <= x <= 12 -/
theorem ev_chainLL {i x n : Int} (ha : EvP K env b ms ta (Is (.int i))) (hb : EvP K env b ms tb (Is (.int x))) (hc : EvP K env b ms tc (Is (.int n))) :
    EvP K env b ms (tChain (rI0 fun i j => .bl (decide (i ≤ j))) (rI0 fun i j => .bl (decide (i ≤ j))) ta tb tc) (Is (.bool (decide (i ≤ x) && decide (x ≤ n)))) := fun σ G H e s j Q k =>
  ha σ G H e s j _ fun v1 d1 G1 H1 g1 j1 p1 q1 => by
    cases q1; cases p1
    refine hb σ G1 H1 (e.mono g1.g) g1.gh j1 _ fun v2 d2 G2 H2 g2 j2 p2 q2 => ?_
    cases q2; cases p2
    refine ⟨i, x, rfl, rfl, _, rfl, ?_⟩
    by_cases c : i ≤ x
    · rw [if_pos (decide_eq_true c)]
      refine hc σ G2 H2 ((e.mono g1.g).mono g2.g) g2.gh j2 _ fun v3 d3 G3 H3 g3 j3 p3 q3 => ?_
      cases q3; cases p3
      exact ⟨x, n, rfl, rfl, k _ _ G3 H3 ((g1.trans g2).trans g3) j3 (.bl _) (by rw [decide_eq_true c, Bool.true_and])⟩
    · rw [if_neg (by simp [c])]
      exact k _ _ G2 H2 (g1.trans g2) j2 (.bl false) (by rw [decide_eq_false c, Bool.false_and])
/-- a tuple of the module -/
def TupAt (K : PySem.W.Frag) (D : Addr) (ss : List Str) : Prop := ∀ H, SqT K H D (ss.map V.str)
theorem ev_ctup {D : Addr} {ss : List Str} (t : TupAt K D ss) : EvP K env b ms (tC (.ref D)) (Is (.tuple (sTs ss))) := fun σ G H e s j Q k => k _ _ G H (Grow.refl s) j (.tup (t G) (str_vals ss)) rfl
/-- min(i, j) -/
def rMin2 : List V → Hp → VK → Prop := fun xs H Q => ∃ i j, xs = [.int i, .int j] ∧ Q (.int (if j < i then j else i)) H
theorem cr_min2 {X : Cx} (hc : X.calm = true) : CallR X (.builtin "min") rMin2 := call_min2 hc
theorem rc_min2 {i n : Int} : RcP K b ms rMin2 [.int i, .int n] (Is (.int (if n < i then n else i))) := fun xs G H p s j Q k => by
  cases p with
  | cons p1 p2 =>
    cases p1
    cases p2 with
    | cons p3 p4 =>
      cases p3
      cases p4
      exact ⟨i, n, rfl, k _ _ G H (Grow.refl s) j (.int _) rfl⟩
end
end Dl
set_option Elab.async false
set_option linter.all false
set_option maxRecDepth 100000
set_option maxHeartbeats 6400000
namespace Dl
open PySem PySem.Spec PyProof.Rows L2
/-! t[::-1] of a tuple -/
section
variable {prog : Program} {w : World} {A : Around} {E : Value → Shared → Prop} {s : Shared}
theorem back_adj (n : Nat) : Builtin.Slice.sliceAdjust none none (-1) (n : Int) = ((n : Int) - 1, -1) := by
  unfold Builtin.Slice.sliceAdjust
  simp
  try omega
theorem back_places (n : Nat) : Builtin.Slice.slicePlaces ((n : Int) - 1) (-1) (-1) = n := by
  unfold Builtin.Slice.slicePlaces
  simp
  try omega
theorem fm_congr {α β : Type} {f g : α → Option β} : ∀ {l : List α}, (∀ x ∈ l, f x = g x) → l.filterMap f = l.filterMap g
  | [], _ => rfl
  | x :: l, h => by
    rw [List.filterMap_cons, List.filterMap_cons, h x List.mem_cons_self, fm_congr fun y hy => h y (List.mem_cons_of_mem _ hy)]
theorem back_pick (xs : Array Value) : ((List.range xs.size).filterMap fun (m : Nat) => xs[(((xs.size : Int) - 1) + (m : Int) * (-1)).toNat]?).toArray = xs.toList.reverse.toArray := by
  have e : ∀ m ∈ List.range xs.size, xs[(((xs.size : Int) - 1) + (m : Int) * (-1)).toNat]? = xs.toList.reverse[m]? := fun m hm => by
    have := List.mem_range.mp hm
    rw [List.getElem?_reverse (by rw [Array.length_toList]; exact this), Array.getElem?_toList, Array.length_toList]
    congr 1
    omega
  have := PySem.W.krv_all xs.toList.reverse.toArray
  rw [List.size_toArray, List.length_reverse, Array.length_toList] at this
  rw [fm_congr (g := fun m => xs.toList.reverse.toArray[m]?) fun m hm => by rw [e m hm, List.getElem?_toArray]]
  exact congrArg List.toArray this
theorem sl_back {sl : Addr} {n : Nat} {vl vu vs : Value} {Q : Int × Int × Nat → Shared → Prop} (hs : s.heap.IsSliceOf sl vl vu vs) (pl : IsPart vl none) (pu : IsPart vu none) (ps : IsPart vs (some (-1)))
    (h : Q ((n : Int) - 1, -1, n) s) : wpAny (model prog w) A (Builtin.Slice.sliceApplied (.ref sl) (pure (n : Int))) Q E s := by
  obtain ⟨os, hos, hcs, hds⟩ := id hs
  unfold Builtin.Slice.sliceApplied Builtin.Slice.sliceFields
  refine wpAny_bind (wpAny_bind (wpAny_field hos hds (x := vl) rfl (wpAny_bind (wpAny_field hos hds (x := vu) rfl (wpAny_bind (wpAny_field hos hds (x := vs) rfl (wpAny_pure ?_)))))))
  refine wpAny_bind (HT.slicePart_ ps ?_)
  show wpAny _ _ (if ((-1 : Int) == 0) = true then _ else _) _ _ s
  rw [if_neg (by decide)]
  refine wpAny_bind (HT.slicePart_ pl (wpAny_bind (HT.slicePart_ pu (wpAny_bind (wpAny_pure ?_)))))
  show wpAny _ _ (match Builtin.Slice.sliceAdjust none none (-1) (n : Int) with | (lo, hi) => pure (lo, (-1 : Int), Builtin.Slice.slicePlaces lo hi (-1))) _ _ s
  rw [back_adj]
  show wpAny _ _ (pure ((n : Int) - 1, (-1 : Int), Builtin.Slice.slicePlaces ((n : Int) - 1) (-1) (-1))) _ _ s
  rw [back_places]
  exact wpAny_pure h
theorem getItem_back {t sl : Addr} {items : Array Value} {vl vu vs : Value} {Q : Value → Shared → Prop} (ht : IsTup s.heap t items) (hs : s.heap.IsSliceOf sl vl vu vs) (pl : IsPart vl none) (pu : IsPart vu none) (ps : IsPart vs (some (-1)))
    (h : Q (.ref s.heap.objs.size) { s with heap := s.heap.push { cls := .type "tuple", data := .seq items.toList.reverse.toArray } }) (hsz : items.size ≤ sizeLine) : wpAny (model prog w) A (getItem (.ref t) (.ref sl)) Q E s := by
  have hz : sizeOk (.seq items.toList.reverse.toArray) := by
    show items.toList.reverse.toArray.size ≤ sizeLine
    rw [List.size_toArray, List.length_reverse, Array.length_toList]
    exact hsz
  obtain ⟨os, hos, hcs, hds⟩ := id hs
  have ty : s.TypeIs (.ref sl) "slice" := ⟨os, hos, hcs⟩
  unfold getItem
  try with_reducible refine wpAny_holding ?_
  first | refine wpAny_bind (wpAny_pure ?_) | skip
  refine wpAny_bind (wpAny_sequenceKey ht.typeIs (by decide) ?_)
  refine wpAny_bind (wpAny_callSpecial?_slot (name := Str.ofString "__getitem__") ht.typeIs PyProof.Rows.slot_tuple_getitem (wpAny_call_entry PyProof.Rows.slot_tuple_getitem ht.typeIs entry_tuple_getitem ?_ (args_tuple_getitem _ _)))
  show wpAny _ _ (Builtin.Tuple.tupleItemsOf (.ref t) >>= _) _ _ s
  refine wpAny_bind (tupleItemsOf_ ht ?_)
  refine wpAny_bind (wpAny_typeOf ty ?_)
  rw [if_pos (by decide)]
  refine wpAny_bind (sl_back (n := items.size) hs pl pu ps ?_)
  show wpAny _ _ (if (((items.size : Int) - 1) == 0 && (-1 : Int) == 1 && items.size == items.size) = true then _ else _) _ _ s
  rw [if_neg (by simp), back_pick]
  first
    | exact wpAny_bind (m := Builtin.Tuple.tupleExact _) (wpAny_newObj_type (wpAny_pure ⟨_, rfl, wpAny_pure h⟩) hz)
    | exact wpAny_bind (m := Builtin.Tuple.tupleExact _) (wpAny_newObj_type (wpAny_bind (wpAny_pure (wpAny_pure ⟨_, rfl, wpAny_pure h⟩))) hz)
    | exact wpAny_bind (wpAny_bind (m := Builtin.Tuple.tupleExact _) (wpAny_newObj_type (wpAny_pure (wpAny_pure ⟨_, rfl, wpAny_pure h⟩)) hz))
    | exact wpAny_bind (wpAny_bind (m := Builtin.Tuple.tupleExact _) (wpAny_newObj_type (wpAny_pure ⟨_, rfl, wpAny_pure h⟩) hz))
end
def tRevT (K : PySem.W.Frag) (te : TE) : TE := fun σ H Q => te σ H fun x H1 => ∃ a xs, x = .ref a ∧ SqT K H1 a xs ∧ ∀ p, H1 p = none → Q (.ref p) (upd H1 p (.tup xs.reverse))
theorem pe_revT {X : Cx} {e : Expr} {te : TE} {k : Nat} {p1 p2 p3 pos : Pos} (he : PE X e te) : PE X (.Subscript e (.Slice none none (some (.UnaryOp .USub (.Constant (.int 1) k p1) p2)) p3) pos) (tRevT X.K te) := by
  refine ⟨fun pins s σ H Q I h => ?_⟩
  refine Subscript_ (thn (he.run pins s σ H _ I h) fun v s1 ⟨x, H1, I1, r1, q1⟩ => ?_)
  obtain ⟨a, xs, ex, hx, q⟩ := q1
  subst ex
  cases r1
  have hst : PO X (some (.UnaryOp .USub (.Constant (.int 1) k p1) p2)) (tPart (tUn (rU fun i => .int (-i)) (tC (.int 1)))) := po_some (pe_un un_neg pe_int)
  refine wpAny_Slice (thn (po_none.run pins s1 σ H1 (fun o H2 => o = none ∧ H2 = H1) I1 ⟨rfl, rfl⟩) fun vl s2 ⟨l, H2, I2, pl, el, e2⟩ => ?_)
  subst el e2
  refine thn (po_none.run pins s2 σ H2 (fun o H3 => o = none ∧ H3 = H2) I2 ⟨rfl, rfl⟩) fun vu s3 ⟨u, H3, I3, pu, eu, e3⟩ => ?_
  subst eu e3
  refine thn (hst.run pins s3 σ H3 (fun o H4 => o = some (-1) ∧ H4 = H3) I3 ⟨1, rfl, -1, rfl, rfl, rfl⟩) fun vs s4 ⟨o, H4, I4, ps, eo, e4⟩ => ?_
  subst eo e4
  have I5 : Inv X pins σ H4 { s4 with heap := s4.heap.push { cls := .type "slice", data := .fields #[vl, vu, vs] } } := I4.kept (t' := s4.toks) fun b ob q => Heap.get?_push_of_some _ q
  obtain ⟨its, r, ht, hz⟩ := I5.tuple hx
  show wpAny (model X.prog X.w) X.A (subscriptTail e (.Slice none none (some (.UnaryOp .USub (.Constant (.int 1) k p1) p2)) p3) (.ref a) (.ref s4.heap.objs.size)) (EP X pins σ Q) X.xe { s4 with heap := s4.heap.push { cls := .type "slice", data := .fields #[vl, vu, vs] } }
  refine tail_any (ops := [.ref a, .ref s4.heap.objs.size]) ht.typeIs (PyProof.Rows.slot_tuple_getitem.lookup) ?_ (by with_unfolding_all rfl)
  refine getItem_back ht (Heap.IsSliceOf.new _ vl vu vs) pl pu ps ?_ (by rw [List.size_toArray, ← r.length]; exact hz)
  refine ⟨.ref _, _, I5.laid (t' := s4.toks) (o := .tup xs.reverse) (fun b ob q => Heap.get?_push_of_some _ q) (Nat.le_refl _) ?_, rfl, q _ (I5.hok.fresh (Nat.le_refl _))⟩
  exact ⟨by rw [List.length_reverse]; exact hz, _, r.reverse, IsTup.new _ _⟩
/-! l.extend(t) of a tuple -/
theorem extend_tup (l : Addr) (items : Array Value) (n : Nat) (b : Addr) (items2 : Array Value) (n2 : Nat) (dd : Option Addr) (sl : Array (Option Value)) (hs0 : ¬(!items.isEmpty && Builtin.List.listTooLong (items.size + items2.size)) = true) (hs1 : items.size ≤ sizeLine) (hs2 : items.size + items2.size ≤ sizeLine + 1) :
    Meets (Builtin.«list.extend» ⟨[.ref l, .ref b], []⟩) (fun _ R s => s.heap.get? l = some { cls := .type "list", dict := none, data := .seq items n, slots := #[] } ∧ s.heap.get? b = some { cls := .type "tuple", dict := dd, data := .seq items2 n2, slots := sl } ∧ R (.ok (.ret Value.none)) { s with heap := s.heap.update l (Obj.mapSeq fun x => x ++ items2), toks := s.toks }) :=
  .of_wp fun prog w A R s h => by
    obtain ⟨hp, g, d, tk, os⟩ := s
    obtain ⟨hl, hb, h⟩ := h
    have f1 := PySem.AutoSeq1.sub_tuple_tuple
    have f2 := PySem.AutoSeq1.sub_tuple_list
    have f3 := PySem.AutoSeq1.sub_list_list
    have hz : (items ++ items2).size ≤ sizeLine + 1 := by rw [Array.size_append]; exact hs2
    wp_walk using (PySem.wpAny_updateSeq hl rfl (hz := hs1) (_hz' := hz)), AutoSeq1.wpAny_loadPart' hl, AutoSeq1.wpAny_loadPart' hb
    exact ⟨_, rfl, h⟩
def rExtT (K : PySem.W.Frag) : V → List V → Hp → VK → Prop := fun x vs H Q => ∃ l b xs zs, x = .ref l ∧ vs = [.ref b] ∧ H l = some (.lst xs) ∧ SqT K H b zs ∧ xs.length + zs.length ≤ sizeLine ∧ Q .non (upd H l (.lst (xs ++ zs)))
theorem mt_extT {X : Cx} : MtM X "list.extend" (rExtT X.K) := by
  intro pins s σ H x vs v us Q I rx rv h
  obtain ⟨l, b, xs, zs, rfl, rfl, hH, hB, hz, q⟩ := h
  cases rx
  obtain ⟨u, rfl, ru⟩ := rv.one
  cases ru
  obtain ⟨z, its, n, r, hl, e⟩ := I.lstM hH
  obtain ⟨its2, r2, pt, hz2⟩ := I.tuple hB
  obtain ⟨⟨cls, dd, data, sl⟩, ho, hc, n2, hd⟩ := id pt
  simp only at hc hd
  subst hc hd
  have l1 := r.length
  have l2 := r2.length
  have hsz : its.toArray.size + its2.toArray.size ≤ sizeLine := by rw [List.size_toArray, List.size_toArray]; omega
  have hlong : ¬ (!its.toArray.isEmpty && Builtin.List.listTooLong (its.toArray.size + its2.toArray.size)) = true := by
    rw [notLongL hsz, Bool.and_false]
    exact Bool.false_ne_true
  refine call_meets F.slot_list_extend ⟨_, e, rfl⟩ F.entry_list_extend (F.args_list_extend_2 _ _) (extend_tup l its.toArray n b its2.toArray n2 dd sl hlong (by rw [List.size_toArray]; omega) (by omega)) ⟨e, ho, ?_⟩
  refine ⟨.non, _, I.lset (its' := its ++ its2) hH e (by simp) (r.append r2) ?_, rfl, q⟩
  rw [List.length_append]
  omega
end Dl
set_option Elab.async false
set_option linter.all false
set_option maxRecDepth 100000
set_option maxHeartbeats 4000000
namespace Dl
open PySem PySem.Spec PyProof.Rows L2
/-! dict(zip(a, b)) of two lists, the first one of texts -/
def tDictZip (K : PySem.W.Frag) (ta : TA) : TE := fun σ H Q => ta σ H fun vs H1 => ∃ (a b : Addr) (ks : List Str) (ys : List V), vs = [.ref a, .ref b] ∧ SqL K H1 a (ks.map V.str) ∧ SqL K H1 b ys ∧ ks.length = ys.length ∧
  ∀ p, H1 p = none → Q (.ref p) (upd H1 p (.dK (mergeK [] (kvsOf ks ys))))
theorem kv_zip : ∀ {ks : List Str} {ys : List V} {us : List Value}, Vals ys us → ks.length = ys.length → KV (kvsOf ks ys) ((ks.zip us).map fun p => ((.inr p.1 : Key), p.2))
  | [], _, _, .nil, _ => .nil
  | _ :: _, _, _, .nil, h => by simp at h
  | [], _, _, .cons _ _, h => by simp at h
  | k :: ks, _, _, .cons r t, h => .cons ⟨rfl, r⟩ (kv_zip t (by simpa using h))
theorem vals_at : ∀ {xs : List V} {us : List Value} {i : Nat} {u : Value}, Vals xs us → us[i]? = some u → ∃ x, xs[i]? = some x ∧ RelV x u
  | _, _, _, _, .nil, h => by simp at h
  | _, _, 0, _, .cons r _, h => by simp at h; subst h; exact ⟨_, rfl, r⟩
  | _, _, i + 1, u, .cons _ t, h => by
    obtain ⟨x, h1, h2⟩ := vals_at (i := i) t (by simpa using h)
    exact ⟨x, by simpa using h1, h2⟩
theorem pe_dictZip {X : Cx} {e1 e2 : Expr} {ta : TA} {p p2 q pos : Pos} (hg : Gl X "dict") (hm : X.mg "dict" = none) (hg2 : Gl X "zip") (hm2 : X.mg "zip" = none) (ha : PA X [e1, e2] ta) (hc : X.calm = true := by rfl)
    (he : starEach [e1, e2] X.env = (false, eval e1 X.env) :: starEach [e2] X.env := by rfl) (hpl : (backTo q (starEach [e2] X.env)).any (·.1) = false := by rfl) : PE X (.Call (.Name "dict" p) [.Call (.Name "zip" p2) [e1, e2] [] q] [] pos) (tDictZip X.K ta) := by
  refine ⟨fun pins s σ H Q I h => ?_⟩
  refine Call_ (ld_blt I hg hm (u := .type "dict") (by rfl) (PyProof.Rows.callWith_type1 (PyProof.Rows.args_cons ?_ rfl) rfl rfl))
  refine Call_ (ld_blt I hg2 hm2 boot_zip (PyProof.Rows.callWith_type1 (thn (ha.run q pins s σ H _ I h) ?_) he hpl))
  rintro us s1 ⟨vs, H1, I1, r, a, b, ks, ys, rfl, q1, q2, ln, hR⟩
  cases r with
  | cons ra r =>
    cases r with
    | cons rb r =>
      cases r
      cases ra; cases rb
      obtain ⟨us, r1, l1, z1⟩ := I1.list q1
      obtain ⟨vs, r2, l2, z2⟩ := I1.list q2
      have la : a < s1.heap.objs.size := by
        obtain ⟨o, _, ho, _⟩ := l1
        exact Heap.lt_size ho
      have lb : b < s1.heap.objs.size := by
        obtain ⟨o, _, ho, _⟩ := l2
        exact Heap.lt_size ho
      have lu : us.toArray.size = ks.length := by rw [List.size_toArray, ← r1.length, List.length_map]
      have lv : vs.toArray.size = ks.length := by rw [List.size_toArray, ← r2.length, ln]
      refine call_zip_2 l1.isList l2.isList fun h2 hz hTI hTO e1 e2 hsz keep => PyProof.Rows.args_nil ?_
      have I2 : Inv X pins σ H1 { s1 with heap := h2 } := I1.kept keep
      have apart : ZipApart (s1.heap.objs.size + 4) (s1.heap.objs.size + 2) (s1.heap.objs.size + 3) s1.heap.objs.size (s1.heap.objs.size + 1) a b := by
        constructor <;> first | exact Nat.ne_of_lt (by omega) | exact Nat.ne_of_gt (by omega) | exact Nat.ne_of_lt (Nat.lt_of_lt_of_le la (by omega)) | exact Nat.ne_of_lt (Nat.lt_of_lt_of_le lb (by omega))
      have mp : min us.toArray.size vs.toArray.size = ks.length := by rw [lu, lv, Nat.min_self]
      refine call_dict_pairs (knd := mixKind X.prog X.w) (kvs := (ks.zip vs).map fun p => ((.inr p.1 : Key), p.2)) (PairArg.zip _ _ _ _ _ a b apart us.toArray vs.toArray) (I2.ok.hd hc) ⟨hz, hTI, ⟨_, _, hTO⟩, e1, e2, (l1.isList).at (fun o x => keep _ o x), (l2.isList).at (fun o x => keep _ o x)⟩ ⟨?_, fun i key v hi => ?_⟩ ?_ fun h3 tk dd kp => ?_
      · rw [List.length_map, List.length_zip, mp]
        have : vs.length = ks.length := by simpa using lv
        omega
      · obtain ⟨h1, h2⟩ := hi
        have hk : ∃ x, ks[i]? = some x ∧ ∃ t, key = .str x t := by
          have h1 : us[i]? = some key := by simpa using h1
          obtain ⟨y, hy, ry⟩ := vals_at r1 h1
          rw [List.getElem?_map] at hy
          cases e : ks[i]? with
          | none => rw [e] at hy; cases hy
          | some x =>
            rw [e] at hy
            cases hy
            exact ⟨x, rfl, ry⟩
        obtain ⟨x, hx, t, rfl⟩ := hk
        have h2 : vs[i]? = some v := by simpa using h2
        refine ⟨.inr x, ?_, kV_is (k := .inr x) ⟨t, rfl⟩⟩
        rw [List.getElem?_map, List.getElem?_zip_eq_some.mpr (show ks[i]? = some ((x, v) : Str × Value).1 ∧ vs[i]? = some ((x, v) : Str × Value).2 from ⟨hx, h2⟩)]
        rfl
      · rw [mp, ← lv, List.size_toArray, ← r2.length]
        exact z2
      · have kz := kv_zip r2 ln (ks := ks)
        have low : (h2.objs.size == sysModules) = false := beq_eq_false_iff_ne.mpr (Nat.ne_of_gt I2.big)
        have hlen : (mergeK [] (kvsOf ks ys)).length ≤ sizeLine := by
          refine Nat.le_trans (length_mergeK _ []) ?_
          rw [List.length_nil, Nat.zero_add, kvs_len ln, ln]
          exact z2
        have old : ∀ c o, s1.heap.get? c = some o → h3.get? c = some o := fun c o e => kp c o (fun hm => by
          have := Heap.lt_size e
          simp only [List.mem_cons, List.not_mem_nil, or_false] at hm
          rcases hm with rfl | rfl | rfl | rfl <;> first | exact Nat.lt_irrefl _ this | exact Nat.not_lt_of_le (Nat.le_add_right _ _) this) (keep c o e)
        refine ⟨.ref h2.objs.size, upd H1 h2.objs.size (.dK (mergeK [] (kvsOf ks ys))), I1.laid (t' := tk) old (by rw [hsz]; omega) (show ObjOk X.prog X.w _ _ _ (.dK (mergeK [] (kvsOf ks ys))) from ⟨hlen, low, merged [] _, KV.merge kz .nil, dd⟩), rfl, hR _ (I1.hok.fresh (by rw [hsz]; omega))⟩
end Dl
set_option Elab.async false
set_option linter.all false
set_option maxRecDepth 100000
set_option maxHeartbeats 4000000
namespace Dl
open PySem PySem.Spec PyProof.Rows L2
section
variable {K : PySem.W.Frag} {env : List Sl} {b : Option Addr} {ms : Ms} {te ta tb tc : TE} {P : PyData → Prop} {tt : TT} {v : V} {G0 H0 Gs G G2 H : Hp} {σ : L2.St} {D : Ends} {tz : TS}
theorem mergeK_ks {ks : List Str} {vs : List V} (h : ks.length = vs.length) (nd : ks.Nodup) : mergeK [] (kvsOf ks vs) = kvsOf ks vs := by
  have go : ∀ (n : Nat), n ≤ ks.length → mergeK [] (kvsOf (ks.take n) (vs.take n)) = kvsOf (ks.take n) (vs.take n) := by
    intro n
    induction n with
    | zero => intro _; rfl
    | succ n ih =>
      intro hn
      have h1 : ks.take (n + 1) = ks.take n ++ [ks[n]'(by omega)] := by rw [List.take_add_one, List.getElem?_eq_getElem]; rfl
      have h2 : vs.take (n + 1) = vs.take n ++ [vs[n]'(by omega)] := by rw [List.take_add_one, List.getElem?_eq_getElem]; rfl
      have hl : (ks.take n).length = (vs.take n).length := by rw [List.length_take, List.length_take, h]
      have hf : ks[n]'(by omega) ∉ ks.take n := fun hm => by
        have q := nd.sublist (List.take_sublist (n + 1) ks)
        rw [h1, List.nodup_append] at q
        exact q.2.2 _ hm _ (by simp) rfl
      have e : kvsOf (ks.take (n + 1)) (vs.take (n + 1)) = kvsOf (ks.take n) (vs.take n) ++ [(.inr (ks[n]'(by omega)), vs[n]'(by omega))] := by
        rw [h1, h2]
        unfold kvsOf
        rw [List.zip_append hl, List.map_append]
        rfl
      rw [e]
      show List.foldl _ [] _ = _
      rw [List.foldl_append]
      have ih := ih (by omega)
      unfold mergeK at ih
      rw [ih]
      show putK _ _ _ = _
      rw [putK_ks hl hf, ← h1, ← h2, e]
  have := go ks.length (Nat.le_refl _)
  rw [List.take_length, h, List.take_length] at this
  exact this
theorem evu_dictZip {t : TA} {ks : List Str} {ds : List PyData} (h : EaP K env b ms t (Is [.list (sTs ks), .list ds])) (hl : ks.length = ds.length) (nd : ks.Nodup) : EvU K env b ms (tDictZip K t) (DkR K ks ds) := fun σ G H e s j Q k =>
  h σ G H e s j _ fun vs ds' G1 H1 g1 j1 p1 q1 => by
    cases q1
    cases p1 with
    | cons pa p1 =>
      cases p1 with
      | cons pb p1 =>
        cases p1
        cases pa with
        | lst sa da =>
          rename_i a xs
          cases pb with
          | lst sb db =>
            rename_i c ys
            have ex := vals_str da
            subst ex
            have ly : ks.length = ys.length := by rw [hl, dpa_len db]
            refine ⟨a, c, ks, ys, rfl, g1.gh.seq sa, g1.gh.seq sb, ly, fun p hp => ?_⟩
            rw [mergeK_ks ly nd]
            have g2 : Grow No G1 H1 (upd G1 p (.dK (kvsOf ks ys))) (upd H1 p (.dK (kvsOf ks ys))) := Grow.lay g1.gh hp
            exact k _ _ _ (g1.trans g2.no) (j1.grow g2) (DkR.up ⟨p, ys, rfl, upd_same, dpa_mono g2.g _ _ db, hl⟩)
/-- list(range(n)) -/
theorem en_listRg {n : Nat} (h : EvP K env b ms te (Is (.int (n : Nat)))) (hn : n ≤ 1000) : EvN K env b ms (tLstRg (tRg1 te)) (Is (intL n)) := fun σ G H e s j Q k =>
  h σ G H e s j _ fun v d G1 H1 g1 j1 p1 q1 => by
    cases q1
    cases p1
    refine ⟨n, rfl, ⟨by decide, by decide, by omega, by omega, by omega⟩, fun p hp => ?_⟩
    have er : rgV 0 (n : Nat) = (List.range n).map fun i => V.int ((i : Nat) : Int) := by
      unfold rgV
      rw [show (((n : Nat) : Int) - 0).toNat = n by omega]
      exact List.map_congr_left fun i _ => by rw [Int.zero_add]
    have gg := Grow.lay0 (M := No) g1.gh hp (o := .lst (rgV 0 (n : Nat)))
    refine k p _ (intL n) G1 _ (g1.trans (Grow.lay0 g1.gh hp)) (j1.grow gg) (g1.dom _ hp) (g1.gh.free hp) upd_same ?_ rfl
    rw [er]
    unfold intL
    have : ∀ l : List Nat, DpAll K G1 (l.map fun i => V.int ((i : Nat) : Int)) (l.map fun i => PyData.int ((i : Nat) : Int)) := fun l => by
      induction l with
      | nil => exact .nil
      | cons i l ih => exact .cons (.int _) ih
    exact this _
theorem dpa_rev {G : Hp} : ∀ {xs : List V} {l : List PyData}, DpAll K G xs l → DpAll K G xs.reverse l.reverse
  | _, _, .nil => .nil
  | _, _, .cons p t => by
    rw [List.reverse_cons, List.reverse_cons]
    exact dpa_app (dpa_rev t) (.cons p .nil)
/-- t[::-1] -/
theorem ev_revT {l : List PyData} (h : EvP K env b ms te (Is (.tuple l))) : EvP K env b ms (tRevT K te) (Is (.tuple l.reverse)) := fun σ G H e s j Q k =>
  h σ G H e s j _ fun v d G1 H1 g1 j1 p1 q1 => by
    cases q1
    cases p1 with
    | tup sq da =>
      rename_i a xs
      refine ⟨a, xs, rfl, sqt_mono g1.gh sq, fun p hp => ?_⟩
      have g2 : Grow No G1 H1 (upd G1 p (.tup xs.reverse)) (upd H1 p (.tup xs.reverse)) := Grow.lay g1.gh hp
      exact k _ _ _ _ (g1.trans g2.no) (j1.grow g2) (.tup (SqT.of upd_same) (dpa_mono g2.g _ _ (dpa_rev da))) rfl
/-- l.extend(t) -/
theorem s_extT {i n : Nat} {l : Addr} {es : List Sl} {ds : List PyData} (A : At K env b ms G0 H0 Gs σ G H) (hi : env[i]? = some (.a l)) (hm : ms[n]? = some (l, es)) (h : EvP K env b ms te (Is (.tuple ds))) (hz : es.length ≤ 2000) (hz2 : ds.length ≤ 2000)
    (k : ∀ G' H', At K env b (ms.set n (l, es ++ ds.map .d)) G0 H0 Gs σ G' H' → D.nx σ H') : tDrop (tBM K "list" (rExtT K) (tVar i) (tCons te tNil)) D σ H := by
  obtain ⟨gl, nb, xs, hl, el⟩ := A.j.mu _ (List.mem_of_getElem? hm)
  refine ⟨.ref l, A.env.addr hi, tyL hl, h σ G H A.env A.gr.gh A.j _ fun v d G2 H2 g j p q => ?_⟩
  cases q
  cases p with
  | tup sq da =>
    rename_i c ys
    have hl2 : H2 l = some (.lst xs) := g.keep _ _ hl nb
    have xl : xs.length = es.length := by have := el.1; simpa using this
    refine ⟨l, c, xs, ys, rfl, rfl, hl2, sqt_mono g.gh sq, Nat.le_trans (Nat.add_le_add (by rw [xl]; exact hz) (by rw [dpa_len da]; exact hz2)) (by decide), ?_⟩
    refine k G2 _ ((A.step g j).write hm ?_)
    rw [List.map_append]
    exact env_app (el.mono g.g) (env_data da)
theorem q_extT {i n : Nat} {l : Addr} {es : List Sl} {ds : List PyData} (A : At K env b ms G0 H0 Gs σ G H) (hi : env[i]? = some (.a l)) (hm : ms[n]? = some (l, es)) (h : EvP K env b ms te (Is (.tuple ds))) (hz : es.length ≤ 2000) (hz2 : ds.length ≤ 2000)
    (k : ∀ G' H', At K env b (ms.set n (l, es ++ ds.map .d)) G0 H0 Gs σ G' H' → tz D σ H') : tSeq (tDrop (tBM K "list" (rExtT K) (tVar i) (tCons te tNil))) tz D σ H := s_extT (D := { D with nx := tz D }) A hi hm h hz hz2 k
abbrev t4 (i l m n : Nat) : TGs := gCons (gName i) (gCons (gName l) (gCons (gName m) (gCons (gName n) gNil)))
/-- a, b, c, d = t -/
theorem q_unp4 {i l m n : Nat} {x y z u : PyData} (A : At K env b ms G0 H0 Gs σ G H) (h : EvP K env b ms te (Is (.tuple [x, y, z, u]))) (k : ∀ σ' G' H', At K ((((env.set i (.d x)).set l (.d y)).set m (.d z)).set n (.d u)) b ms G0 H0 Gs σ' G' H' → tz D σ' H') : tSeq (tAsg te (gTup K 4 (t4 i l m n))) tz D σ H :=
  h σ G H A.env A.gr.gh A.j _ fun v d G2 H2 g j p q => by
    cases q
    cases p with
    | tup sq da =>
      cases da with
      | cons p1 t =>
        cases t with
        | cons p2 t =>
          cases t with
          | cons p3 t =>
            cases t with
            | cons p4 t =>
              cases t
              exact ⟨_, _, rfl, sqt_mono g.gh sq, rfl, _, _, rfl, _, _, rfl, _, _, rfl, _, _, rfl, rfl, k _ G2 H2 (((((A.step g j).put (slot_d p1)).put (slot_d p2)).put (slot_d p3)).put (slot_d p4))⟩
/-- cells, groups, added, way = frame, the cells known whole -/
theorem q_unp4F {i l m n : Nat} {cs : List Str} {gs : List (List Str)} {fs : List Str} {w : Str} (A : At K env b ms G0 H0 Gs σ G H) (h : EvU K env b ms te (FrR K cs gs fs w))
    (k : ∀ σ' G' H', At K ((((env.set i (.r (Tn (cs.map V.str)))).set l (.d (.tuple (gs.map fun g => .tuple (sTs g))))).set m (.d (.tuple (sTs fs)))).set n (.d (.str w))) b ms G0 H0 Gs σ' G' H' → tz D σ' H') : tSeq (tAsg te (gTup K 4 (t4 i l m n))) tz D σ H :=
  h σ G H A.env A.gr.gh A.j _ fun v G2 H2 g j u => by
    obtain ⟨a, x, y, z, u4, rfl, sq, h1, h2, h3, h4⟩ := u.now
    exact ⟨_, _, rfl, sqt_mono g.gh sq, rfl, _, _, rfl, _, _, rfl, _, _, rfl, _, _, rfl, rfl, k _ G2 H2 (((((A.step g j).put (show SlotOk K G2 (some x) (.r (Tn (cs.map V.str))) from ⟨x, rfl, h1.up⟩)).put (slot_d h2)).put (slot_d h3)).put (slot_d h4))⟩
end
end Dl
set_option Elab.async false
set_option linter.all false
set_option maxRecDepth 100000
set_option maxHeartbeats 4000000
namespace Dl
open PySem PySem.Spec PyProof.Rows L2
theorem tupAt_of {K : PySem.W.Frag} {D : Addr} {dd : Option Addr} {its : Array Value} {n : Nat} {sl : Array (Option Value)} {ss : List Str} (h : K.lookup D = some ⟨.type "tuple", dd, .seq its n, sl⟩) (hz : its.size ≤ 1000) (v : Vals (ss.map V.str) its.toList) : TupAt K D ss := fun _ =>
  .inr ⟨_, its, n, h, rfl, rfl, Nat.le_trans hz (by decide), v⟩
end Dl
set_option Elab.async false
set_option linter.all false
set_option maxRecDepth 100000
set_option maxHeartbeats 4000000
namespace Dl
open PySem PySem.Spec PyProof.Rows L2
/-! groups put together, in the order of cells -/
def grpF (cs g : List Str) : List Str := cs.filter fun c => decide (c ∈ g)
def byH (cs : List Str) (l : List (List Str)) : List (List Str) := cs.flatMap fun c => l.filter fun g => decide (g.headD "" = c)
def rowN (cs g : List Str) : List Int := g.map fun c => ((cs.idxOf c : Nat) : Int)
structure PtOk (cs : List Str) (ps : List (List Str)) : Prop where
  nd : cs.Nodup
  ne : ∀ g ∈ ps, g ≠ []
  dj : ps.flatten.Nodup
  mem : ∀ c ∈ ps.flatten, c ∈ cs
abbrev inO (cs : List Str) (ps : List (List Str)) : List (List Str) := byH cs (ps.map (grpF cs))
theorem hd_mem {g : List Str} (h : g ≠ []) : g.headD "" ∈ g := by
  cases g with
  | nil => exact absurd rfl h
  | cons a r => exact List.mem_cons_self
theorem PtOk.sub {cs : List Str} {ps : List (List Str)} (h : PtOk cs ps) {g : List Str} (hg : g ∈ ps) : g.Nodup ∧ ∀ c ∈ g, c ∈ cs :=
  ⟨h.dj.sublist (List.sublist_flatten_of_mem hg), fun c hc => h.mem c (List.mem_flatten.mpr ⟨g, hg, hc⟩)⟩
theorem grpF_perm {cs g : List Str} (nd : cs.Nodup) (gd : g.Nodup) (hm : ∀ c ∈ g, c ∈ cs) : (grpF cs g).Perm g :=
  (List.perm_ext_iff_of_nodup (nd.sublist List.filter_sublist) gd).mpr fun a => by
    rw [List.mem_filter, decide_eq_true_eq]
    exact ⟨fun h => h.2, fun h => ⟨hm a h, h⟩⟩
theorem grpF_sub {cs g : List Str} : (grpF cs g).Sublist cs := List.filter_sublist
theorem grpF_self {g cs : List Str} (h : g.Sublist cs) (nd : cs.Nodup) : grpF cs g = g := by
  unfold grpF
  induction h with
  | slnil => rfl
  | @cons l1 l2 a h ih =>
    have n2 := List.nodup_cons.mp nd
    have : a ∉ l1 := fun hm => n2.1 (h.subset hm)
    rw [List.filter_cons_of_neg (by simpa using this)]
    exact ih n2.2
  | @cons_cons l1 l2 a h ih =>
    have n2 := List.nodup_cons.mp nd
    rw [List.filter_cons_of_pos (by simp)]
    congr 1
    have e : ∀ x ∈ l2, decide (x ∈ a :: l1) = decide (x ∈ l1) := fun x hx => by
      have : x ≠ a := fun z => n2.1 (z ▸ hx)
      simp [this]
    rw [List.filter_congr e]
    exact ih n2.2
theorem perm_flat {f : List Str → List Str} : ∀ {ps : List (List Str)}, (∀ g ∈ ps, (f g).Perm g) → (ps.map f).flatten.Perm ps.flatten
  | [], _ => .nil
  | g :: ps, h => (h g List.mem_cons_self).append (perm_flat fun x hx => h x (List.mem_cons_of_mem _ hx))
/-- canonical parts -/
structure CnOk (cs : List Str) (l : List (List Str)) : Prop where
  nd : cs.Nodup
  ne : ∀ g ∈ l, g ≠ []
  dj : l.flatten.Nodup
  sb : ∀ g ∈ l, g.Sublist cs
theorem PtOk.cn {cs : List Str} {ps : List (List Str)} (h : PtOk cs ps) : CnOk cs (ps.map (grpF cs)) := by
  have pf : ∀ g ∈ ps, (grpF cs g).Perm g := fun g hg => grpF_perm h.nd (h.sub hg).1 (h.sub hg).2
  refine ⟨h.nd, fun g hg e => ?_, (perm_flat pf).nodup_iff.mpr h.dj, fun g hg => ?_⟩
  · obtain ⟨x, hx, rfl⟩ := List.mem_map.mp hg
    have := pf x hx
    rw [e] at this
    exact h.ne x hx (List.Perm.eq_nil this.symm)
  · obtain ⟨x, hx, rfl⟩ := List.mem_map.mp hg
    exact grpF_sub
theorem CnOk.hds {cs : List Str} {l : List (List Str)} (h : CnOk cs l) : l.Pairwise fun g k => g.headD "" ≠ k.headD "" := by
  have q := h.dj
  unfold List.Nodup at q
  rw [List.pairwise_flatten] at q
  refine List.Pairwise.imp_of_mem (fun {g k} hg hk w e => ?_) q.2
  exact w _ (hd_mem (h.ne g hg)) _ (hd_mem (h.ne k hk)) e
theorem CnOk.hin {cs : List Str} {l : List (List Str)} (h : CnOk cs l) : ∀ g ∈ l, g.headD "" ∈ cs := fun g hg => (h.sb g hg).subset (hd_mem (h.ne g hg))
theorem byH_perm {cs : List Str} (nd : cs.Nodup) : ∀ {l : List (List Str)}, (∀ g ∈ l, g.headD "" ∈ cs) → (byH cs l).Perm l
  | [], _ => by
    unfold byH
    rw [show (fun c => List.filter (fun g : List Str => decide (g.headD "" = c)) []) = fun _ => [] from rfl]
    have : ∀ l : List Str, l.flatMap (fun _ => ([] : List (List Str))) = [] := fun l => by induction l <;> simp [*]
    rw [this]
  | g :: l, h => by
    have ih := byH_perm nd (l := l) fun x hx => h x (List.mem_cons_of_mem _ hx)
    obtain ⟨A, B, e⟩ := List.append_of_mem (h g List.mem_cons_self)
    have hA : g.headD "" ∉ A ∧ g.headD "" ∉ B := by
      rw [e, List.nodup_append] at nd
      refine ⟨fun hm => nd.2.2 _ hm _ List.mem_cons_self rfl, (List.nodup_cons.mp nd.2.1).1⟩
    have off : ∀ {L : List Str}, g.headD "" ∉ L → byH L (g :: l) = byH L l := fun {L} hn => by
      unfold byH
      have go : ∀ L : List Str, g.headD "" ∉ L → (L.flatMap fun c => (g :: l).filter fun x => decide (x.headD "" = c)) = L.flatMap fun c => l.filter fun x => decide (x.headD "" = c) := fun L => by
        induction L with
        | nil => intro _; rfl
        | cons a L ih =>
          intro hn
          rw [List.flatMap_cons, List.flatMap_cons, ih (fun z => hn (List.mem_cons_of_mem _ z)), List.filter_cons_of_neg]
          rw [decide_eq_true_eq]
          intro z
          exact hn (z ▸ List.mem_cons_self)
      exact go L hn
    have sp : ∀ (L : List (List Str)), byH cs L = byH A L ++ (L.filter (fun x => decide (x.headD "" = g.headD "")) ++ byH B L) := fun L => by
      unfold byH
      rw [e, List.flatMap_append, List.flatMap_cons]
    rw [sp, off hA.1, off hA.2, List.filter_cons_of_pos (by simp), List.cons_append]
    rw [sp] at ih
    exact (List.perm_middle).trans (ih.cons g)
theorem one_of_pair {α : Type} {R : α → α → Prop} {l : List α} (h : l.Pairwise R) (no : ∀ a ∈ l, ∀ c ∈ l, ¬ R a c) : l.length ≤ 1 := by
  match l, h, no with
  | [], _, _ => exact Nat.zero_le _
  | [a], _, _ => exact Nat.le_refl _
  | a :: c :: r, h, no => exact absurd ((List.pairwise_cons.mp h).1 c List.mem_cons_self) (no a List.mem_cons_self c (List.mem_cons_of_mem _ List.mem_cons_self))
theorem CnOk.one {cs : List Str} {l : List (List Str)} (h : CnOk cs l) (c : Str) : (l.filter fun g => decide (g.headD "" = c)).length ≤ 1 :=
  one_of_pair (h.hds.sublist List.filter_sublist) fun a ha d hd q => q (by
    rw [of_decide_eq_true (List.mem_filter.mp ha).2, of_decide_eq_true (List.mem_filter.mp hd).2])
theorem perm_short {α : Type} {l m : List α} (p : l.Perm m) (h : l.length ≤ 1) : l = m := by
  match l, p, h with
  | [], p, _ => exact (List.Perm.eq_nil p.symm).symm
  | [a], p, _ => exact (List.singleton_perm.mp p)
  | a :: c :: r, _, h => simp at h
theorem byH_same {cs : List Str} {l m : List (List Str)} (h : CnOk cs l) (p : l.Perm m) : byH cs l = byH cs m := by
  unfold byH
  congr 1
  funext c
  exact perm_short (p.filter _) (h.one c)
theorem idx_mono {cs g : List Str} (nd : cs.Nodup) (h : g.Sublist cs) : (g.map cs.idxOf).Pairwise (· < ·) := by
  have all : (cs.map cs.idxOf).Pairwise (· < ·) := by
    rw [List.pairwise_map, List.pairwise_iff_getElem]
    intro i j hi hj hij
    have ix : ∀ {i : Nat} (hi : i < cs.length), cs.idxOf cs[i] = i := fun {i} hi => by
      have := getD_idx nd hi
      rw [List.getD_eq_getElem?_getD, List.getElem?_eq_getElem hi] at this
      exact this
    rw [ix, ix]
    exact hij
  exact all.sublist (h.map _)
theorem byH_rows {cs : List Str} {l : List (List Str)} (h : CnOk cs l) : ((byH cs l).map (rowN cs)).Pairwise fun a b => rowLe a b = true := by
  rw [List.pairwise_map]
  unfold byH
  rw [List.pairwise_flatMap]
  refine ⟨fun c _ => ?_, ?_⟩
  · have := h.one c
    generalize l.filter (fun g => decide (g.headD "" = c)) = m at this
    match m, this with
    | [], _ => exact .nil
    | [a], _ => exact List.pairwise_singleton _ _
    | a :: d :: r, q => simp at q
  · have q := idx_mono h.nd (List.Sublist.refl cs)
    rw [List.pairwise_map] at q
    refine q.imp fun {a b} lt x hx y hy => ?_
    obtain ⟨x1, x2⟩ := List.mem_filter.mp hx
    obtain ⟨y1, y2⟩ := List.mem_filter.mp hy
    have x2 := of_decide_eq_true x2
    have y2 := of_decide_eq_true y2
    have xn := h.ne x x1
    have yn := h.ne y y1
    match x, y, xn, yn, x2, y2 with
    | u :: xs, v :: ys, _, _, e1, e2 =>
      have e1 : u = a := e1
      have e2 : v = b := e2
      subst e1 e2
      refine decide_eq_true (List.le_of_lt ?_)
      unfold rowN
      rw [List.map_cons, List.map_cons, List.cons_lt_cons_iff]
      exact .inl (by omega)
theorem rowLe_trans (a b c : List Int) (h1 : rowLe a b = true) (h2 : rowLe b c = true) : rowLe a c = true := decide_eq_true (List.le_trans (of_decide_eq_true h1) (of_decide_eq_true h2))
theorem rowLe_total (a b : List Int) : (rowLe a b || rowLe b a) = true := by
  rw [Bool.or_eq_true, decide_eq_true_eq, decide_eq_true_eq]
  exact List.le_total a b
/-- the sorted rows of parts -/
theorem sort_rows {cs : List Str} {l : List (List Str)} (h : CnOk cs l) : (l.map (rowN cs)).mergeSort rowLe = (byH cs l).map (rowN cs) := by
  refine List.Perm.eq_of_pairwise (le := fun a b => rowLe a b = true) (fun a b _ _ h1 h2 => List.le_antisymm (of_decide_eq_true h1) (of_decide_eq_true h2)) (List.pairwise_mergeSort rowLe_trans rowLe_total _) (byH_rows h) ?_
  exact (List.mergeSort_perm _ _).trans ((byH_perm h.nd h.hin).map _).symm
/-- the sorted places of one part -/
theorem sort_row {cs g : List Str} {s : List Int} (nd : cs.Nodup) (gd : g.Nodup) (hm : ∀ c ∈ g, c ∈ cs) (p : s.Perm (rowN cs g)) (hs : s.Pairwise (· ≤ ·)) : s = rowN cs (grpF cs g) := by
  refine List.Perm.eq_of_pairwise (le := (· ≤ ·)) (fun a b _ _ h1 h2 => Int.le_antisymm h1 h2) hs ?_ (p.trans ((grpF_perm nd gd hm).map _).symm)
  have := idx_mono nd (grpF_sub (cs := cs) (g := g))
  unfold rowN
  rw [List.pairwise_map] at this ⊢
  exact this.imp fun h => by omega
theorem sub_heads : ∀ {cs : List Str} {F : Str → List (List Str)}, (∀ c ∈ cs, (F c).length ≤ 1 ∧ ∀ g ∈ F c, g.headD "" = c) → ((cs.flatMap F).map fun g => g.headD "").Sublist cs
  | [], _, _ => .slnil
  | c :: cs, F, h => by
    rw [List.flatMap_cons, List.map_append]
    have ih := sub_heads (cs := cs) (F := F) fun x hx => h x (List.mem_cons_of_mem _ hx)
    obtain ⟨h1, h2⟩ := h c List.mem_cons_self
    generalize F c = m at h1 h2
    match m, h1, h2 with
    | [], _, _ => exact ih.cons c
    | [g], _, h2 =>
      have e : g.headD "" = c := h2 g List.mem_cons_self
      show (g.headD "" :: _).Sublist _
      rw [e]
      exact ih.cons_cons c
    | a :: d :: r, q, _ => simp at q
theorem byH_frame {cs fs : List Str} {gs l : List (List Str)} {w : Str} (F : FrW cs gs fs w) (h : CnOk cs l) (p : l.flatten.Perm gs.flatten) : FrW cs (byH cs l) fs w := by
  have bp := byH_perm h.nd h.hin
  refine ⟨F.nd, F.nm, F.ne, F.le, F.fr, fun g hg => ?_, (bp.flatten.trans p).trans F.pm, ?_, F.wy⟩
  · have := bp.mem_iff.mp hg
    exact ⟨h.ne g this, h.sb g this⟩
  · exact sub_heads fun c _ => ⟨h.one c, fun g hg => of_decide_eq_true (List.mem_filter.mp hg).2⟩
/-! groups linked -/
abbrev gAt (gs : List (List Str)) (i : Nat) : List Str := gs.getD i []
def freeI (m : Nat) (lots : List (List Nat)) : List Nat := (List.range m).filter fun i => !decide (i ∈ lots.flatten)
def lnk (gs : List (List Str)) (lots : List (List Nat)) : List (List Str) := (freeI gs.length lots).map (gAt gs) ++ lots.map fun lot => lot.flatMap (gAt gs)
structure LtOk (m : Nat) (lots : List (List Nat)) : Prop where
  ne : ∀ l ∈ lots, l ≠ []
  nd : lots.flatten.Nodup
  lt : ∀ i ∈ lots.flatten, i < m
theorem LtOk.perm {m : Nat} {lots : List (List Nat)} (h : LtOk m lots) : (freeI m lots ++ lots.flatten).Perm (List.range m) := by
  refine (List.perm_ext_iff_of_nodup ?_ List.nodup_range).mpr fun i => ?_
  · rw [List.nodup_append]
    refine ⟨List.nodup_range.sublist List.filter_sublist, h.nd, fun a ha b hb e => ?_⟩
    have := (List.mem_filter.mp ha).2
    subst e
    simp [hb] at this
  · unfold freeI
    rw [List.mem_append, List.mem_filter, List.mem_range]
    constructor
    · rintro (h1 | h1)
      · exact h1.1
      · exact h.lt i h1
    · intro hi
      by_cases e : i ∈ lots.flatten
      · exact .inr e
      · exact .inl ⟨hi, by simpa using e⟩
theorem flat_range (gs : List (List Str)) : (List.range gs.length).flatMap (gAt gs) = gs.flatten := by
  rw [List.flatMap_def]
  congr 1
  refine List.ext_getElem (by simp) fun i h1 h2 => ?_
  simp [List.getElem?_eq_getElem h2]
theorem lnk_flat (gs : List (List Str)) (lots : List (List Nat)) : (lnk gs lots).flatten = (freeI gs.length lots ++ lots.flatten).flatMap (gAt gs) := by
  unfold lnk
  rw [List.flatten_append, List.flatMap_append, List.flatMap_def]
  congr 1
  induction lots with
  | nil => rfl
  | cons a l ih => rw [List.map_cons, List.flatten_cons, List.flatten_cons, List.flatMap_append, ih]
theorem lnk_perm {gs : List (List Str)} {lots : List (List Nat)} (h : LtOk gs.length lots) : (lnk gs lots).flatten.Perm gs.flatten := by
  rw [lnk_flat, ← flat_range]
  exact h.perm.flatMap_right _
theorem FrW.mem {cs fs : List Str} {gs : List (List Str)} {w : Str} (F : FrW cs gs fs w) {c : Str} (h : c ∈ gs.flatten) : c ∈ cs ∧ c ∉ fs := by
  have := F.pm.mem_iff.mp h
  rw [List.mem_filter] at this
  exact ⟨this.1, by simpa using this.2⟩
theorem lnk_ok {cs fs : List Str} {gs : List (List Str)} {w : Str} {lots : List (List Nat)} (F : FrW cs gs fs w) (h : LtOk gs.length lots) : PtOk cs (lnk gs lots) := by
  have fd := F.fn
  have gn : ∀ i < gs.length, gAt gs i ≠ [] := fun i hi e => by
    have hm : gs[i] ∈ gs := List.getElem_mem hi
    refine (F.ps _ hm).1 ?_
    unfold gAt at e
    rw [List.getD_eq_getElem?_getD, List.getElem?_eq_getElem hi] at e
    exact e
  refine ⟨F.nd, fun g hg => ?_, (lnk_perm h).nodup_iff.mpr fd, fun c hc => (F.mem ((lnk_perm h).mem_iff.mp hc)).1⟩
  unfold lnk at hg
  rcases List.mem_append.mp hg with hg | hg
  · obtain ⟨i, hi, rfl⟩ := List.mem_map.mp hg
    exact gn i (List.mem_range.mp (List.mem_filter.mp hi).1)
  · obtain ⟨l, hl, rfl⟩ := List.mem_map.mp hg
    intro e
    have ln := h.ne l hl
    match l, ln with
    | i :: r, _ =>
      rw [List.flatMap_cons] at e
      exact gn i (h.lt i (List.mem_flatten.mpr ⟨_, hl, List.mem_cons_self⟩)) (List.append_eq_nil_iff.mp e).1
/-- what the law puts together -/
theorem lnk_law {cs fs : List Str} {gs : List (List Str)} {w : Str} {lots : List (List Nat)} (F : FrW cs gs fs w) : (lnk gs lots).map (grpF cs) = (freeI gs.length lots).map (gAt gs) ++ lots.map fun lot => grpF cs (lot.flatMap (gAt gs)) := by
  unfold lnk
  rw [List.map_append, List.map_map, List.map_map]
  congr 1
  refine List.map_congr_left fun i hi => ?_
  have hi := List.mem_range.mp (List.mem_filter.mp hi).1
  have e : gAt gs i = gs[i] := by unfold gAt; rw [List.getD_eq_getElem?_getD, List.getElem?_eq_getElem hi]; rfl
  show grpF cs (gAt gs i) = gAt gs i
  rw [e]
  exact grpF_self (F.ps _ (List.getElem_mem hi)).2 F.nd
theorem lnk_rev {cs fs : List Str} {gs : List (List Str)} {w : Str} {lots : List (List Nat)} (F : FrW cs gs fs w) (h : LtOk gs.length lots) : inO cs (lnk gs lots.reverse) = inO cs (lnk gs lots) ∧ LtOk gs.length lots.reverse := by
  have pr : lots.reverse.flatten.Perm lots.flatten := (List.reverse_perm lots).flatten
  have h2 : LtOk gs.length lots.reverse := ⟨fun l hl => h.ne l (List.mem_reverse.mp hl), pr.nodup_iff.mpr h.nd, fun i hi => h.lt i (pr.mem_iff.mp hi)⟩
  refine ⟨(byH_same (lnk_ok F h).cn ?_).symm, h2⟩
  refine List.Perm.map _ ?_
  unfold lnk
  have : freeI gs.length lots.reverse = freeI gs.length lots := by
    unfold freeI
    refine List.filter_congr fun i _ => ?_
    rw [decide_eq_decide.mpr pr.mem_iff]
  rw [this]
  exact (List.Perm.refl _).append ((List.reverse_perm lots).map _).symm
/-- an added cell made a group -/
theorem tak_ok {cs fs : List Str} {gs : List (List Str)} {w c : Str} (F : FrW cs gs fs w) (h : c ∈ fs) : PtOk cs (gs ++ [[c]]) := by
  refine ⟨F.nd, fun g hg => ?_, ?_, fun x hx => ?_⟩
  · rcases List.mem_append.mp hg with hg | hg
    · exact (F.ps g hg).1
    · rw [List.mem_singleton.mp hg]; simp
  · rw [List.flatten_append, List.nodup_append]
    refine ⟨F.fn, by simp, fun a ha b hb e => ?_⟩
    have hb : b = c := by simpa using hb
    exact (F.mem ha).2 (by rw [e, hb]; exact h)
  · rw [List.flatten_append] at hx
    rcases List.mem_append.mp hx with hx | hx
    · exact (F.mem hx).1
    · have : x = c := by simpa using hx
      rw [this]; exact F.fr.subset h
theorem tak_law {cs fs : List Str} {gs : List (List Str)} {w c : Str} (F : FrW cs gs fs w) (h : c ∈ fs) : (gs ++ [[c]]).map (grpF cs) = gs ++ [[c]] := by
  have all : ∀ g ∈ gs ++ [[c]], grpF cs g = g := fun g hg => by
    rcases List.mem_append.mp hg with hg | hg
    · exact grpF_self (F.ps g hg).2 F.nd
    · rw [List.mem_singleton.mp hg]
      exact grpF_self (List.singleton_sublist.mpr (F.fr.subset h)) F.nd
  have := List.map_congr_left all
  rw [this, List.map_id']
end Dl
set_option Elab.async false
set_option linter.all false
set_option maxRecDepth 100000
set_option maxHeartbeats 4000000
namespace Dl
open PySem PySem.Spec PyProof.Rows L2
/-! a walk over a list or a tuple, whichever it is -/
def iSq (K : PySem.W.Frag) (te : TE) : TI := fun σ H R => iTup K te σ H R ∨ iList K te σ H R
theorem pi_sq {X : Cx} {tg e : Expr} {te : TE} (he : PE X e te) : PI X tg e (iSq X.K te) := ⟨fun pins s σ H R I h => by
  rcases h with h | h
  · exact (pi_tup he).run pins s σ H R I h
  · exact (pi_list he).run pins s σ H R I h⟩
theorem pi_sqK {X : Cx} {K : PySem.W.Frag} {tg e : Expr} {te : TE} (h : PE X e te) (hK : X.K = K := by rfl) : PI X tg e (iSq K te) := hK ▸ pi_sq h
section
variable {K : PySem.W.Frag} {env : List Sl} {b : Option Addr} {ms : Ms} {te ta tb tc : TE} {P : PyData → Prop} {tt : TT} {v : V} {G0 H0 Gs G G2 H : Hp} {σ : L2.St} {D : Ends} {tz : TS}
theorem ei_sq {d : PyData} {l : List PyData} (h : EvP K env b ms te (Is d)) (sd : Sqd d l) : EvI K env b ms (iSq K te) (Is l) := fun σ G H e s j R k => by
  rcases sd with rfl | rfl
  · exact .inl (ei_tup h σ G H e s j R k)
  · exact .inr (ei_list h σ G H e s j R k)
/-- sorted of whole numbers -/
theorem ev_sortI {ns : List Int} (h : EvP K env b ms te (Is (.list (ns.map .int)))) : EvP K env b ms (tCB (rSortedI K) (tCons te tNil)) (fun d => ∃ s : List Int, s.Perm ns ∧ s.Pairwise (· ≤ ·) ∧ d = .list (s.map .int)) := fun σ G H e s j Q k =>
  h σ G H e s j _ fun v d G1 H1 g1 j1 p1 q1 => by
    cases q1
    cases p1 with
    | lst sq da =>
      rename_i a xs
      have ex := dpa_ints_inv da
      subst ex
      refine ⟨a, ns, rfl, g1.gh.seq sq, fun s' p pm rise hp => ?_⟩
      have g2 : Grow No G1 H1 (upd G1 p (.lst (s'.map V.int))) (upd H1 p (.lst (s'.map V.int))) := Grow.lay g1.gh hp
      exact k _ _ _ _ (g1.trans g2.no) (j1.grow g2) (.lst (SqL.of upd_same) (dpa_ints _)) ⟨s', pm, rise, rfl⟩
/-- a part: a tuple or a list of cells -/
def ptD (p : Bool × List Str) : PyData := if p.1 then .tuple (sTs p.2) else .list (sTs p.2)
theorem ptD_sq (p : Bool × List Str) : Sqd (ptD p) (sTs p.2) := by
  obtain ⟨t, g⟩ := p
  cases t
  · exact .inr rfl
  · exact .inl rfl
theorem ptD_inj (a c : Bool × List Str) (h : ptD a = ptD c) : a = c := by
  obtain ⟨t, g⟩ := a
  obtain ⟨u, k⟩ := c
  cases t <;> cases u
  · have : g = k := sts_inj (by injection h)
    rw [this]
  · cases h
  · cases h
  · have : g = k := sts_inj (by injection h)
    rw [this]
theorem ptL {g : List Str} : ptD (false, g) = .list (sTs g) := rfl
theorem ptT {g : List Str} : ptD (true, g) = .tuple (sTs g) := rfl
end
/-! what in_order, linked, taken, part, with_way give -/
def dInO (cs : List Str) (ds : List PyData) : Prop := ∃ ps : List (Bool × List Str), ds = [.list (ps.map ptD)] ∧ PtOk cs (ps.map (·.2)) ∧ ps.length ≤ 100 ∧ cs.length ≤ 12
def rInO (cs : List Str) (ds : List PyData) (d : PyData) : Prop := ∀ ps : List (Bool × List Str), ds = [.list (ps.map ptD)] → d = .tuple (gsD (inO cs (ps.map (·.2))))
abbrev FrX.W5 (x : FrX) : Prop := FrW x.cs x.gs x.fs x.w
abbrev ltD (lots : List (List Nat)) : PyData := .tuple (lots.map fun l => .tuple (natL l))
def dLnk (x : FrX) (ds : List PyData) : Prop := ∃ lots, ds = [ltD lots] ∧ x.W5 ∧ LtOk x.gs.length lots
def rLnk (x : FrX) (ds : List PyData) (d : PyData) : Prop := ∀ lots, ds = [ltD lots] → d = frTp x.cs (inO x.cs (lnk x.gs lots)) x.fs x.w
def dTak (x : FrX) (ds : List PyData) : Prop := ∃ c, ds = [.str c] ∧ x.W5 ∧ c ∈ x.fs
def rTak (x : FrX) (ds : List PyData) (d : PyData) : Prop := ∀ c, ds = [.str c] → d = frTp x.cs (inO x.cs (x.gs ++ [[c]])) (x.fs.filter fun y => !decide (y = c)) x.w
def dRen (ds : List PyData) : Prop := ∃ cs gs fs w ns, ds = [frTp cs gs fs w, .tuple (sTs ns)] ∧ FrW cs gs fs w ∧ ns.length = cs.length
def rnm (cs ns : List Str) (c : Str) : Str := ns.getD (cs.idxOf c) ""
def rRen (ds : List PyData) (d : PyData) : Prop := ∀ cs gs fs w ns, ds = [frTp cs gs fs w, .tuple (sTs ns)] → d = frTp ns (gs.map fun g => g.map (rnm cs ns)) (fs.map (rnm cs ns)) w
def dPart (ds : List PyData) : Prop := ∃ (fr : PyData) (zs : Qs) (ps : List Nat), ds = [fr, stT zs, .tuple (natL ps)] ∧ zs.length ≤ 12
def prt (zs : Qs) (ps : List Nat) : Qs := zs.zipIdx.map fun x => if x.2 ∈ ps then x.1 else (0, 1)
def rPart (ds : List PyData) (d : PyData) : Prop := ∀ fr zs ps, ds = [fr, stT zs, .tuple (natL ps)] → d = stT (prt zs ps)
def dWay (ds : List PyData) : Prop := ∃ cs gs fs w w2, ds = [frTp cs gs fs w, .str w2]
def rWay (ds : List PyData) (d : PyData) : Prop := ∀ cs gs fs w w2, ds = [frTp cs gs fs w, .str w2] → d = frTp cs gs fs w2
end Dl
set_option Elab.async false
set_option linter.all false
set_option maxRecDepth 100000
set_option maxHeartbeats 4000000
namespace Dl
open PySem PySem.Spec PyProof.Rows L2
/-! l + m of two lists, whatever stands behind them -/
def rCatL (K : PySem.W.Frag) : R2 := fun x y H Q => ∃ l b xs zs, x = .ref l ∧ y = .ref b ∧ SqL K H l xs ∧ SqL K H b zs ∧ xs.length + zs.length ≤ sizeLine ∧ ∀ p, H p = none → Q (.ref p) (upd H p (.lst (xs ++ zs)))
theorem op_catL {X : Cx} : OpR X (binaryOp .Add) (rCatL X.K) := by
  intro pins s σ H x y v u Q I rx ry h
  obtain ⟨l, b, xs, zs, rfl, rfl, hH, hB, hz, q⟩ := h
  cases rx
  cases ry
  obtain ⟨its, r, p1, z1⟩ := I.list hH
  obtain ⟨its2, r2, p2, z2⟩ := I.list hB
  obtain ⟨⟨cls, dd, data, sl⟩, ho, hc, n, hd⟩ := id p1.isList
  obtain ⟨⟨cls2, dd2, data2, sl2⟩, ho2, hc2, n2, hd2⟩ := id p2.isList
  simp only at hc hd hc2 hd2
  subst hc hd hc2 hd2
  have hl := r.length
  have hl2 := r2.length
  refine concat_meets ⟨_, ho, rfl⟩ ⟨_, ho2, rfl⟩ noFill_list_add seq_list_add PySem.F.slot_list_add PySem.F.entry_list_add (PySem.F.args_list_add_2 _ _) (list_addW l b its.toArray its2.toArray n n2 dd dd2 sl sl2 (by rw [List.size_toArray, List.size_toArray]; omega)) ⟨ho, ho2, ?_⟩
  have ea : its.toArray ++ its2.toArray = (its ++ its2).toArray := by simp
  rw [ea]
  exact ⟨.ref _, _, I.lnew (t' := s.toks) (r.append r2) (by rw [List.length_append]; omega), rfl, q _ I.fresh⟩
section
variable {K : PySem.W.Frag} {env : List Sl} {b : Option Addr} {ms : Ms} {te ta tb tc : TE} {P : PyData → Prop} {tt : TT} {v : V} {G0 H0 Gs G G2 H : Hp} {σ : L2.St} {D : Ends} {tz : TS}
theorem en_catL {l m : List PyData} (ha : EvP K env b ms ta (Is (.list l))) (hb : EvP K env b ms tb (Is (.list m))) (hl : l.length + m.length ≤ 2000) : EvN K env b ms (tOp (rCatL K) ta tb) (Is (l ++ m)) := fun σ G H e s j Q k =>
  ha σ G H e s j _ fun v d G1 H1 g1 j1 p1 q1 => hb σ G1 H1 (e.mono g1.g) g1.gh j1 _ fun u d2 G2 H2 g2 j2 p2 q2 => by
    cases q1
    cases q2
    cases p1 with
    | lst s1 d1 =>
      cases p2 with
      | lst s2 d2 =>
        rename_i a xs c ys
        refine ⟨a, c, xs, ys, rfl, rfl, g2.gh.seq (g2.g.seq s1), g2.gh.seq s2, Nat.le_trans (by rw [dpa_len d1, dpa_len d2]; exact hl) (by decide), fun p hp => ?_⟩
        have g3 : Grow No G2 H2 G2 (upd H2 p (.lst (xs ++ ys))) := Grow.lay0 g2.gh hp
        exact k p _ _ G2 _ ((g1.trans g2).trans g3.no) (j2.grow g3) (g1.dom _ (g2.dom _ hp)) (g2.gh.free hp) upd_same (dpa_app (dpa_mono g2.g _ _ d1) d2) rfl
end
theorem getD_cell {cs : List Str} {c : Str} (h : c ∈ cs) : cs.getD (cs.idxOf c) "" = c := by
  have hl := List.idxOf_lt_length_iff.mpr h
  rw [List.getD_eq_getElem?_getD, List.getElem?_eq_getElem hl]
  exact List.getElem_idxOf hl
theorem rowN_back {cs g : List Str} (h : ∀ c ∈ g, c ∈ cs) : (rowN cs g).map (fun i => cs.getD i.toNat "") = g := by
  unfold rowN
  rw [List.map_map]
  conv => rhs; rw [← List.map_id g]
  refine List.map_congr_left fun c hc => ?_
  show cs.getD ((cs.idxOf c : Nat) : Int).toNat "" = c
  rw [Int.toNat_natCast]
  exact getD_cell (h c hc)
theorem zip_free (gs : List (List Str)) (l : List (List Nat)) : (gs.zipIdx.filter fun x => !decide (x.2 ∈ l.flatten)).map (·.1) = (freeI gs.length l).map (gAt gs) := by
  unfold freeI
  have e : gs.zipIdx = (List.range gs.length).map fun i => (gAt gs i, i) := by
    refine List.ext_getElem (by simp) fun i h1 h2 => ?_
    have : i < gs.length := by simpa using h1
    simp [List.getElem?_eq_getElem this]
  rw [e, List.filter_map, List.map_map]
  rfl
theorem pairs_SS : ∀ (a c : List Str), pairs (sTs a) (sTs c) = (a.zip c).map fun p => PyData.tuple [.str p.1, .str p.2]
  | [], _ => by simp [pairs, sTs]
  | _ :: _, [] => by simp [pairs, sTs]
  | x :: a, y :: c => by
    have := pairs_SS a c
    unfold sTs at this ⊢
    rw [List.map_cons, List.map_cons, pairs, List.zip_cons_cons, List.map_cons, this]
end Dl
set_option Elab.async false
set_option linter.all false
set_option maxRecDepth 100000
set_option maxHeartbeats 4000000
namespace Dl
open PySem PySem.Spec PyProof.Rows L2
section
variable {K : PySem.W.Frag} {env : List Sl} {b : Option Addr} {ms : Ms} {te ta tb tc : TE} {P : PyData → Prop} {tt : TT} {v : V} {G0 H0 Gs G G2 H : Hp} {σ : L2.St} {D : Ends} {tz : TS}
theorem evu_eq {R R' : Hp → V → Prop} (h : EvU K env b ms te R) (e : R = R') : EvU K env b ms te R' := e ▸ h
theorem ei_is {wi : TI} {l m : List PyData} (h : EvI K env b ms wi (Is l)) (e : l = m) : EvI K env b ms wi (Is m) := e ▸ h
end
/-! names and frames as they should be -/
def nmOk (x : Str) : Prop := 1 ≤ x.length ∧ x.length ≤ 12 ∧ (x.cps.toList.all fun c => subS' ⟨#[c]⟩ alphaS) = true
def dNm (ds : List PyData) : Prop := ∃ x, ds = [.str x] ∧ nmOk x
def rTrue (_ : List PyData) (d : PyData) : Prop := d = .bool true
def dTupN (ds : List PyData) : Prop := ∃ (l : List PyData) (n : Nat), ds = [.tuple l, .int (n : Nat)]
def rTupN (ds : List PyData) (d : PyData) : Prop := ∀ (l : List PyData) (n : Nat), ds = [.tuple l, .int (n : Nat)] → d = .bool (decide (l.length = n))
def dAsc (ds : List PyData) : Prop := ∃ l : List Nat, ds = [.list (natL l)] ∧ l.length ≤ 100 ∧ l.Pairwise (· < ·)
def dCells (ds : List PyData) : Prop := ∃ cs : List Str, ds = [.tuple (sTs cs)] ∧ (∀ c ∈ cs, nmOk c) ∧ cs.Nodup ∧ cs ≠ [] ∧ cs.length ≤ 12
/-- a part of a frame: its places -/
def dPio (cs : List Str) (ds : List PyData) : Prop := ∃ g : List Str, ds = [.tuple (sTs g)] ∧ (∀ c ∈ cs, nmOk c) ∧ cs.Nodup ∧ g.Sublist cs ∧ cs.length ≤ 12
def rPio (cs : List Str) (ds : List PyData) (d : PyData) : Prop := ∀ g : List Str, ds = [.tuple (sTs g)] → d = .list (natL (g.map cs.idxOf))
/-- the places of cells, as a dict -/
abbrev PlK (K : PySem.W.Frag) (cs : List Str) : Hp → V → Prop := DkR K cs (natL (List.range cs.length))
def dPts (ds : List PyData) : Prop := ∃ cs gs fs w, ds = [.tuple (sTs cs), .tuple (gsD gs), .tuple (sTs fs)] ∧ FrW cs gs fs w ∧ ∀ c ∈ cs, nmOk c
def dFrm (ds : List PyData) : Prop := ∃ cs gs fs w, ds = [frTp cs gs fs w] ∧ FrW cs gs fs w ∧ ∀ c ∈ cs, nmOk c
end Dl
set_option Elab.async false
set_option linter.all false
set_option maxRecDepth 100000
set_option maxHeartbeats 4000000
namespace Dl
open PySem PySem.Spec PyProof.Rows L2
section
variable {K : PySem.W.Frag} {env : List Sl} {b : Option Addr} {ms : Ms} {te ta tb tc : TE} {P : PyData → Prop} {tt : TT} {v : V} {G0 H0 Gs G G2 H : Hp} {σ : L2.St} {D : Ends} {tz : TS}
theorem ev_isiStr {x : Str} (h : EvP K env b ms te (Is (.str x))) : EvP K env b ms (tCB (rIsi K) (tCons te (tCons (tC (.ty "str")) tNil))) (Is (.bool true)) := ev_isiT (d := .str x) h (kit_str _)
theorem ev_isiTup {l : List PyData} (h : EvP K env b ms te (Is (.tuple l))) : EvP K env b ms (tCB (rIsi K) (tCons te (tCons (tC (.ty "tuple")) tNil))) (Is (.bool true)) := ev_isiT (d := .tuple l) h (kit_tuple _)
theorem rc_allM {α : Type} {L : List α} {f : α → Bool} : RcP K b ms (rAll K) [.list (L.map fun a => .bool (f a))] (Is (.bool (L.all f))) := by
  have := rc_all (K := K) (b := b) (ms := ms) (bs := L.map f)
  rw [List.map_map, List.all_map] at this
  exact this
end
theorem pairs_NN : ∀ (a c : List Nat), pairs (natL a) (natL c) = (a.zip c).map fun p => PyData.tuple [.int (p.1 : Nat), .int (p.2 : Nat)]
  | [], _ => by simp [pairs, natL]
  | _ :: _, [] => by simp [pairs, natL]
  | x :: a, y :: c => by
    have := pairs_NN a c
    unfold natL at this ⊢
    rw [List.map_cons, List.map_cons, pairs, List.zip_cons_cons, List.map_cons, this]
theorem cut_from1 (l : List PyData) : cutD l (some 1) none = l.drop 1 := by
  unfold cutD
  have e2 : HT.sIx l.length l.length none = l.length := rfl
  have e1 : HT.sIx l.length 0 (some 1) = min 1 l.length := by
    unfold HT.sIx
    simp
  rw [e1, e2]
  cases l with
  | nil => rfl
  | cons a l =>
    rw [List.length_cons, show min 1 (l.length + 1) = 1 by omega]
    show List.take _ l = l
    rw [show l.length + 1 - 1 = l.length by omega, List.take_length]
theorem cut_but1 (l : List PyData) : cutD l none (some (-1)) = l.dropLast := by
  unfold cutD
  have e1 : HT.sIx l.length 0 none = 0 := rfl
  have e2 : HT.sIx l.length l.length (some (-1)) = l.length - 1 := by
    unfold HT.sIx
    simp
    omega
  rw [e1, e2, List.drop_zero, Nat.sub_zero, List.dropLast_eq_take]
theorem natL_drop (l : List Nat) (n : Nat) : (natL l).drop n = natL (l.drop n) := by unfold natL; rw [List.map_drop]
end Dl
set_option Elab.async false
set_option linter.all false
set_option maxRecDepth 100000
set_option maxHeartbeats 4000000
namespace Dl
open PySem PySem.Spec PyProof.Rows L2
section
variable {K : PySem.W.Frag} {env : List Sl} {b : Option Addr} {ms : Ms} {te ta tb tc : TE} {P : PyData → Prop} {tt : TT} {v : V} {G0 H0 Gs G G2 H : Hp} {σ : L2.St} {D : Ends} {tz : TS}
theorem ev_inD {d : PyData} {ds : List PyData} (ha : EvP K env b ms ta (Is d)) (hb : EvP K env b ms tb (Is (.list ds))) (s1 : SeqAt.shaped d = true) (s2 : SeqAt.shaped (.list ds) = true) : EvP K env b ms (tOp (rInD K) ta tb) (Is (.bool (ds.any fun z => PyData.eqv z d))) :=
  ev_op ha hb fun d1 d2 e1 e2 => by
    rw [e1, e2]
    intro x y G H p1 p2 s jb Q k
    exact ⟨d, ds, dp_mono s _ _ p1, dp_mono s _ _ p2, s1, s2, k _ _ G H (Grow.refl s) jb (.bl _) rfl⟩
end
theorem nm12_ok {c : Str} (h : PyData.str c ∈ nm12) : nmOk c := by
  have h2 : PyData.str c ∈ sTs nmS := h
  have h3 := sts_mem.mp h2
  have : ∀ x ∈ nmS, x ∈ nmAll := by decide +kernel
  exact nmAll_ok c (this c h3)
theorem FrW.nms {cs fs : List Str} {gs : List (List Str)} {w : Str} (F : FrW cs gs fs w) : ∀ c ∈ cs, nmOk c := fun c hc => nm12_ok (F.nm c hc)
theorem idx_all {cs : List Str} (nd : cs.Nodup) : cs.map cs.idxOf = List.range cs.length := by
  refine List.ext_getElem (by simp) fun i h1 h2 => ?_
  have hi : i < cs.length := by simpa using h1
  have := getD_idx nd hi
  rw [List.getD_eq_getElem?_getD, List.getElem?_eq_getElem hi] at this
  simpa using this
theorem natL_int (l : List Nat) : natL l = (l.map fun i : Nat => (i : Int)).map PyData.int := by unfold natL; rw [List.map_map]; rfl
theorem sm_nats {l : List Nat} {n : Nat} (hl : l.length ≤ n) (h : ∀ i ∈ l, i < 2 ^ 60) : Sm (.list (natL l)) (201 * n) 1 := by
  refine (sm_list (w := 201 * l.length) (h := 0) ((sma_all (w := 200) (h := 0) fun x hx => ?_).le (by unfold natL; rw [List.length_map]; omega) (Nat.le_refl _))).le (by omega) (Nat.le_refl _)
  unfold natL at hx
  obtain ⟨i, hi, rfl⟩ := List.mem_map.mp hx
  have h60 : (2 : Nat) ^ 60 ≤ 2 ^ 200 := Nat.pow_le_pow_right (by decide) (by decide)
  have := h i hi
  exact sm_int (by rw [Int.natAbs_natCast]; omega)
/-- the places of a frame's parts -/
theorem parts_all {cs fs : List Str} {gs : List (List Str)} {w : Str} (F : FrW cs gs fs w) : ((gs ++ [fs]).flatten).Perm cs := by
  rw [List.flatten_append]
  have e : [fs].flatten = fs := by simp
  rw [e]
  have h1 := F.pm.append_right fs
  refine h1.trans ?_
  have h2 : fs.Perm (cs.filter fun y => decide (y ∈ fs)) := by
    have := grpF_self F.fr F.nd
    unfold grpF at this
    rw [this]
  refine (List.Perm.append_left _ h2).trans ?_
  refine List.perm_append_comm.trans ?_
  exact List.filter_append_perm (fun y => decide (y ∈ fs)) cs
theorem stood_sorted {cs fs : List Str} {gs : List (List Str)} {w : Str} (F : FrW cs gs fs w) {s : List Int} (p : s.Perm ((((gs ++ [fs]).map fun g => g.map cs.idxOf).flatten).map fun i : Nat => (i : Int))) (h : s.Pairwise (· ≤ ·)) : s.map PyData.int = intL cs.length := by
  have e : s = (List.range cs.length).map fun i : Nat => (i : Int) := by
    refine List.Perm.eq_of_pairwise (le := (· ≤ ·)) (fun a b _ _ h1 h2 => Int.le_antisymm h1 h2) h ?_ (p.trans ?_)
    · rw [List.pairwise_map]
      exact List.pairwise_lt_range.imp fun h => by omega
    · refine List.Perm.map _ ?_
      rw [← idx_all F.nd, ← List.map_flatten]
      exact (parts_all F).map _
  rw [e, List.map_map]
  rfl
theorem heads_up {cs fs : List Str} {gs : List (List Str)} {w : Str} (F : FrW cs gs fs w) : (gs.map fun g => (g.map cs.idxOf).headD 0).Pairwise (· < ·) := by
  have h := idx_mono F.nd F.hd
  rw [List.map_map] at h
  have e : gs.map (fun g => (g.map cs.idxOf).headD 0) = gs.map (cs.idxOf ∘ fun g => g.headD "") := by
    refine List.map_congr_left fun g hg => ?_
    have := (F.ps g hg).1
    cases g with
    | nil => exact absurd rfl this
    | cons a r => rfl
  rw [e]
  exact h
end Dl
set_option Elab.async false
set_option linter.all false
set_option maxRecDepth 100000
set_option maxHeartbeats 4000000
namespace Dl
open PySem PySem.Spec PyProof.Rows L2
/-! what the law puts together -/
def leftL (cs : List Str) (gs : List (List Str)) (lots : List (List Nat)) : List (List Str) := (freeI gs.length lots).map (gAt gs) ++ lots.map fun lot => grpF cs (lot.flatMap (gAt gs))
structure JnOk (cs : List Str) (gs : List (List Str)) (lots : List (List Nat)) : Prop where
  cn : CnOk cs (leftL cs gs lots)
  lt : LtOk gs.length lots
  gl : gs.length ≤ 13
  gg : ∀ g ∈ gs, g.length ≤ 12
  cl : cs.length ≤ 12
def dJn (ds : List PyData) : Prop := ∃ cs gs lots more, ds = [.tuple (.tuple (sTs cs) :: .tuple (gsD gs) :: more), ltD lots] ∧ JnOk cs gs lots
def rJn (ds : List PyData) (d : PyData) : Prop := ∀ cs gs lots more, ds = [.tuple (.tuple (sTs cs) :: .tuple (gsD gs) :: more), ltD lots] → d = .tuple (gsD (byH cs (leftL cs gs lots)))
theorem LtOk.lens {m : Nat} {lots : List (List Nat)} (L : LtOk m lots) : lots.flatten.length ≤ m ∧ lots.length ≤ m ∧ ∀ l ∈ lots, l.length ≤ m ∧ ∀ i ∈ l, i < m := by
  have ln : lots.flatten.length ≤ m := by
    have := L.perm.length_eq
    rw [List.length_append, List.length_range] at this
    omega
  have lln : lots.length ≤ m := by
    have : ∀ {l : List (List Nat)}, (∀ a ∈ l, a ≠ []) → l.length ≤ l.flatten.length := by
      intro l
      induction l with
      | nil => intro _; exact Nat.le_refl _
      | cons a l ih =>
        intro h
        have h1 := ih fun z hz => h z (List.mem_cons_of_mem _ hz)
        have h2 : 0 < a.length := List.length_pos_iff.mpr (h a List.mem_cons_self)
        rw [List.flatten_cons, List.length_append, List.length_cons]
        omega
    have := this L.ne
    omega
  exact ⟨ln, lln, fun l hl => ⟨Nat.le_trans (List.sublist_flatten_of_mem hl).length_le ln, fun i hi => L.lt i (List.mem_flatten.mpr ⟨l, hl, hi⟩)⟩⟩
theorem none_in (i : Nat) (lots : List (List Nat)) : ((lots.filter fun l => decide (i ∈ l)).map fun l => PyData.tuple (natL l)).isEmpty = !decide (i ∈ lots.flatten) := by
  by_cases h : i ∈ lots.flatten
  · rw [decide_eq_true h]
    obtain ⟨l, hl, hi⟩ := List.mem_flatten.mp h
    have : l ∈ lots.filter fun l => decide (i ∈ l) := List.mem_filter.mpr ⟨hl, decide_eq_true hi⟩
    cases e : lots.filter fun l => decide (i ∈ l) with
    | nil => rw [e] at this; cases this
    | cons a r => rfl
  · rw [decide_eq_false h]
    have : lots.filter (fun l => decide (i ∈ l)) = [] := by
      rw [List.filter_eq_nil_iff]
      intro l hl hi
      exact h (List.mem_flatten.mpr ⟨l, hl, of_decide_eq_true hi⟩)
    rw [this]
    rfl
theorem map_nats_inj (a c : List Nat) (h : PyData.tuple (natL a) = .tuple (natL c)) : a = c := natL_inj (by injection h)
theorem lots_shaped {m : Nat} {lots : List (List Nat)} (L : LtOk m lots) (hm : m ≤ 13) : SeqAt.shaped (.list (lots.map fun l => PyData.tuple (natL l))) = true := by
  refine sma_shaped (w := (201 * 13 + 1) * (lots.map fun l => PyData.tuple (natL l)).length) (h := 1) (sma_all fun z hz => ?_) (by decide)
  obtain ⟨l, hl, rfl⟩ := List.mem_map.mp hz
  have h := L.lens.2.2 l hl
  refine (sm_tup (w := 201 * l.length) (h := 0) ((sma_all (w := 200) (h := 0) fun x hx => ?_).le (by unfold natL; rw [List.length_map]; omega) (Nat.le_refl _))).le (by omega) (Nat.le_refl _)
  unfold natL at hx
  obtain ⟨i, hi, rfl⟩ := List.mem_map.mp hx
  have h60 : 13 ≤ (2 : Nat) ^ 200 := Nat.le_trans (by decide : 13 ≤ 2 ^ 4) (Nat.pow_le_pow_right (by decide) (by decide))
  have := h.2 i hi
  exact sm_int (by rw [Int.natAbs_natCast]; omega)
theorem sub_flat {α : Type} {l m : List (List α)} (h : l.Sublist m) : l.flatten.Sublist m.flatten := by
  induction h with
  | slnil => exact .slnil
  | cons a h ih => exact ih.trans (List.sublist_append_right _ _)
  | cons_cons a h ih => exact (List.Sublist.refl _).append ih
theorem LtOk.filter {m : Nat} {lots : List (List Nat)} (L : LtOk m lots) (p : List Nat → Bool) : LtOk m (lots.filter p) :=
  ⟨fun l hl => L.ne l (List.mem_filter.mp hl).1, L.nd.sublist (sub_flat List.filter_sublist), fun i hi => L.lt i ((sub_flat List.filter_sublist).subset hi)⟩
end Dl
set_option Elab.async false
set_option linter.all false
set_option maxRecDepth 100000
set_option maxHeartbeats 4000000
namespace Dl
open PySem PySem.Spec PyProof.Rows L2
/-! sizes of frames that are shown, names of any of the laws' words -/
theorem smA_nm {x : Str} (hx : x ∈ nmAll) : Sm (.str x) 12 0 := by
  have key : ∀ s : Str, PyData.canLay0 (.str s) = true → PyData.leavesShort 202 (.str s) = true → PyData.weight (.str s) ≤ 12 → Sm (.str s) 12 0 := fun s h1 h2 h3 => ⟨h1, by simp only [PyData.depth]; omega, h3, h2, by simp only [PyData.showable]⟩
  simp only [nmAll, List.mem_cons, List.not_mem_nil, or_false] at hx
  rcases hx with rfl | rfl | rfl | rfl | rfl | rfl | rfl | rfl | rfl | rfl | rfl | rfl | rfl <;> exact key _ (by decide +kernel) (by decide +kernel) (by decide +kernel)
theorem smA_way {s : Str} (hs : s = "usual" ∨ s = "strict") : Sm (.str s) 12 0 := by
  have key : ∀ s : Str, PyData.canLay0 (.str s) = true → PyData.leavesShort 202 (.str s) = true → PyData.weight (.str s) ≤ 12 → Sm (.str s) 12 0 := fun s h1 h2 h3 => ⟨h1, by simp only [PyData.depth]; omega, h3, h2, by simp only [PyData.showable]⟩
  rcases hs with rfl | rfl <;> exact key _ (by decide +kernel) (by decide +kernel) (by decide +kernel)
theorem smA_names {l : List Str} (hl : l.length ≤ 12) (hm : ∀ c ∈ l, c ∈ nmAll) : Sm (.tuple (sTs l)) 156 1 := by
  refine (sm_tup (sma_all (w := 12) (h := 0) fun x hx => ?_)).le (by unfold sTs; rw [List.length_map]; omega) (Nat.le_refl _)
  obtain ⟨c, hc, rfl⟩ := List.mem_map.mp hx
  exact smA_nm (hm c hc)
structure FrS (cs : List Str) (gs : List (List Str)) (fs : List Str) (w : Str) : Prop where
  cl : cs.length ≤ 12
  gl : gs.length ≤ 13
  fl : fs.length ≤ 12
  gg : ∀ g ∈ gs, g.length ≤ 12 ∧ ∀ c ∈ g, c ∈ nmAll
  cm : ∀ c ∈ cs, c ∈ nmAll
  fm : ∀ c ∈ fs, c ∈ nmAll
  wy : w = "usual" ∨ w = "strict"
theorem FrS.sm {cs : List Str} {gs : List (List Str)} {fs : List Str} {w : Str} (F : FrS cs gs fs w) : Sm (frTp cs gs fs w) 2400 3 := by
  have s3 : Sm (.tuple (gs.map fun g => .tuple (sTs g))) 2041 2 := by
    refine (sm_tup (sma_all (w := 156) (h := 1) fun x hx => ?_)).le (by rw [List.length_map]; have := F.gl; omega) (Nat.le_refl _)
    obtain ⟨g, hg, rfl⟩ := List.mem_map.mp hx
    exact smA_names (F.gg g hg).1 (F.gg g hg).2
  exact (sm_tup (sma_cons ((smA_names F.cl F.cm).le (Nat.le_refl _) (by decide : 1 ≤ 2)) (sma_cons s3 (sma_cons ((smA_names F.fl F.fm).le (Nat.le_refl _) (by decide : 1 ≤ 2)) (sma_cons ((smA_way F.wy).le (Nat.le_refl _) (by decide : 0 ≤ 2)) sma_nil))))).le (by decide) (Nat.le_refl _)
theorem nm_all {c : Str} (h : PyData.str c ∈ nm12) : c ∈ nmAll := by
  have h2 : PyData.str c ∈ sTs nmS := h
  have h3 := sts_mem.mp h2
  have : ∀ x ∈ nmS, x ∈ nmAll := by decide +kernel
  exact this c h3
theorem FrW.s {cs : List Str} {gs : List (List Str)} {fs : List Str} {w : Str} (F : FrW cs gs fs w) : FrS cs gs fs w :=
  ⟨F.le, Nat.le_trans F.gl (by decide), Nat.le_trans F.fr.length_le F.le, fun g hg => ⟨F.gg hg, fun c hc => nm_all (F.nm c ((F.ps g hg).2.subset hc))⟩, fun c hc => nm_all (F.nm c hc), fun c hc => nm_all (F.nm c (F.fr.subset hc)), F.wy⟩
theorem sm_natT {l : List Nat} (hl : l.length ≤ 12) (h : ∀ i ∈ l, i < 2 ^ 60) : Sm (.tuple (natL l)) 2412 1 := by
  refine (sm_tup (w := 201 * l.length) (h := 0) ((sma_all (w := 200) (h := 0) fun x hx => ?_).le (by unfold natL; rw [List.length_map]; omega) (Nat.le_refl _))).le (by omega) (Nat.le_refl _)
  unfold natL at hx
  obtain ⟨i, hi, rfl⟩ := List.mem_map.mp hx
  have h60 : (2 : Nat) ^ 60 ≤ 2 ^ 200 := Nat.pow_le_pow_right (by decide) (by decide)
  have := h i hi
  exact sm_int (by rw [Int.natAbs_natCast]; omega)
theorem sm_stT {zs : Qs} (hl : zs.length ≤ 12) (h : ∀ z ∈ zs, z.1.natAbs < 2 ^ 200 ∧ z.2.natAbs < 2 ^ 200) : Sm (stT zs) 4836 2 := by
  refine (sm_tup (w := 403 * zs.length) (h := 1) ((sma_all (w := 402) (h := 1) fun x hx => ?_).le (by unfold stL; rw [List.length_map]; omega) (Nat.le_refl _))).le (by omega) (Nat.le_refl _)
  unfold stL at hx
  obtain ⟨z, hz, rfl⟩ := List.mem_map.mp hx
  exact (sm_tup (sma_cons (sm_int (h z hz).1) (sma_cons (sm_int (h z hz).2) sma_nil))).le (by decide) (Nat.le_refl _)
/-! values -/
theorem head_at (gs : List (List Str)) (c : Str) : ∀ k : Nat, atI (((gs.zipIdx k).filter fun x => decide (c ∈ x.1)).map (fun x => PyData.int ((x.2 : Nat) : Int)) ++ [.none]) 0 = some (flD (gO ((grp gs c).map (· + k)))) := by
  induction gs with
  | nil => intro k; exact atI_nat (j := 0) rfl
  | cons g gs ih =>
    intro k
    rw [List.zipIdx_cons]
    by_cases h : c ∈ g
    · rw [List.filter_cons_of_pos (by simpa using h)]
      have e : grp (g :: gs) c = some 0 := by unfold grp; rw [List.findIdx?_cons, decide_eq_true h]; rfl
      rw [e]
      show atI _ 0 = some (PyData.int ((0 + k : Nat) : Int))
      rw [Nat.zero_add]
      exact atI_nat (j := 0) rfl
    · rw [List.filter_cons_of_neg (by simpa using h)]
      have e : grp (g :: gs) c = (grp gs c).map (· + 1) := by unfold grp; rw [List.findIdx?_cons, decide_eq_false h]; rfl
      rw [ih (k + 1), e, Option.map_map]
      congr 4
      funext n
      show n + (k + 1) = n + 1 + k
      omega
theorem head_grp (gs : List (List Str)) (c : Str) : atI ((gs.zipIdx.filter fun x => decide (c ∈ x.1)).map (fun x => PyData.int ((x.2 : Nat) : Int)) ++ [.none]) 0 = some (flD (gO (grp gs c))) := by
  have := head_at gs c 0
  rw [this]
  congr 3
  cases grp gs c <;> rfl
theorem plc_rng (cs : List Str) (t : Str → Bool) : plc cs t = (List.range cs.length).filter fun p => t (cs.getD p "") := by
  unfold plc
  have e : cs.zipIdx = (List.range cs.length).map fun i => (cs.getD i "", i) := by
    refine List.ext_getElem (by simp) fun i h1 h2 => ?_
    have : i < cs.length := by simpa using h1
    simp [List.getElem?_eq_getElem this]
  rw [e, List.filter_map, List.map_map]
  exact List.map_id _
theorem lot_places {cs fs : List Str} {gs : List (List Str)} {w : Str} (F : FrW cs gs fs w) {lot : List Nat} (hl : ∀ i ∈ lot, i < gs.length) : (List.range cs.length).filter (fun p => !((lot.filter fun i => decide (p ∈ (gAt gs i).map cs.idxOf)).isEmpty)) = plc cs fun c => decide (c ∈ cellsOf gs lot) := by
  rw [plc_rng]
  refine List.filter_congr fun p hp => ?_
  have hp := List.mem_range.mp hp
  rw [Bool.eq_iff_iff, decide_eq_true_eq]
  unfold cellsOf
  rw [List.mem_flatMap]
  constructor
  · intro h
    cases e : lot.filter (fun i => decide (p ∈ (gAt gs i).map cs.idxOf)) with
    | nil => rw [e] at h; cases h
    | cons a r =>
      have hm : a ∈ lot.filter fun i => decide (p ∈ (gAt gs i).map cs.idxOf) := by rw [e]; exact List.mem_cons_self
      obtain ⟨ha, hb⟩ := List.mem_filter.mp hm
      obtain ⟨c, hc, ec⟩ := List.mem_map.mp (of_decide_eq_true hb)
      have := (F.cell hc).1
      refine ⟨a, ha, ?_⟩
      rw [← ec, getD_cell this]
      exact hc
  · rintro ⟨i, hi, hc⟩
    have hm : i ∈ lot.filter fun i => decide (p ∈ (gAt gs i).map cs.idxOf) := List.mem_filter.mpr ⟨hi, decide_eq_true (List.mem_map.mpr ⟨_, hc, getD_idx F.nd hp⟩)⟩
    cases e : lot.filter (fun i => decide (p ∈ (gAt gs i).map cs.idxOf)) with
    | nil => rw [e] at hm; cases hm
    | cons a r => rfl
theorem LtOk.take {m : Nat} {lots : List (List Nat)} (L : LtOk m lots) (k : Nat) : LtOk m (lots.take k) :=
  ⟨fun l hl => L.ne l (List.mem_of_mem_take hl), L.nd.sublist (sub_flat (List.take_sublist k lots)), fun i hi => L.lt i ((sub_flat (List.take_sublist k lots)).subset hi)⟩
theorem cut_fromI {l : List PyData} {i : Int} (h : 0 ≤ i) : cutD l (some i) none = l.drop i.toNat := by
  unfold cutD
  have e1 : HT.sIx l.length 0 (some i) = min i.toNat l.length := by
    unfold HT.sIx
    simp
    omega
  have e2 : HT.sIx l.length l.length none = l.length := rfl
  rw [e1, e2]
  by_cases q : i.toNat ≤ l.length
  · rw [Nat.min_eq_left q]
    refine List.take_of_length_le ?_
    rw [List.length_drop]
    exact Nat.le_refl _
  · rw [Nat.min_eq_right (by omega), List.drop_of_length_le (by omega), List.drop_of_length_le (by omega), List.take_nil]
/-- what is left to be put into lots -/
structure LfOk (m : Nat) (lots : List (List Nat)) (left : List Nat) : Prop where
  ne : ∀ l ∈ lots, l ≠ []
  nd : (lots.flatten ++ left).Nodup
  lt : ∀ i ∈ lots.flatten ++ left, i < m
theorem LfOk.ok {m : Nat} {lots : List (List Nat)} {left : List Nat} (h : LfOk m lots left) : LtOk m lots :=
  ⟨h.ne, h.nd.sublist (List.sublist_append_left _ _), fun i hi => h.lt i (List.mem_append_left _ hi)⟩
theorem LfOk.len {m : Nat} {lots : List (List Nat)} {left : List Nat} (h : LfOk m lots left) : left.length ≤ m := by
  have nl : left.Nodup := h.nd.sublist (List.sublist_append_right _ _)
  have h2 : LtOk m (left.map fun i => [i]) := by
    have e : (left.map fun i => [i]).flatten = left := by
      induction left with
      | nil => rfl
      | cons a l ih => rw [List.map_cons, List.flatten_cons, List.singleton_append]; congr 1; exact ih ⟨h.ne, h.nd.sublist ((List.Sublist.refl _).append (List.sublist_cons_self _ _)), fun i hi => h.lt i (by rcases List.mem_append.mp hi with q | q; exact List.mem_append_left _ q; exact List.mem_append_right _ (List.mem_cons_of_mem _ q))⟩ (List.nodup_cons.mp nl).2
    refine ⟨fun l hl => ?_, by rw [e]; exact nl, fun i hi => h.lt i (List.mem_append_right _ (by rw [e] at hi; exact hi))⟩
    obtain ⟨i, _, rfl⟩ := List.mem_map.mp hl
    simp
  have := h2.lens.2.1
  rwa [List.length_map] at this
theorem LfOk.step {m : Nat} {lots : List (List Nat)} {left s : List Nat} (h : LfOk m lots left) {k : Nat} (hk : 1 ≤ k) (ne : left ≠ []) (p : s.Perm (left.take k)) : LfOk m (lots ++ [s]) (left.drop k) := by
  have pr : ((lots ++ [s]).flatten ++ left.drop k).Perm (lots.flatten ++ left) := by
    rw [List.flatten_append, List.append_assoc]
    refine List.Perm.append_left _ ?_
    have e : [s].flatten = s := by simp
    rw [e]
    conv => rhs; rw [← List.take_append_drop k left]
    exact p.append_right _
  refine ⟨fun l hl => ?_, pr.nodup_iff.mpr h.nd, fun i hi => h.lt i (pr.mem_iff.mp hi)⟩
  rcases List.mem_append.mp hl with hl | hl
  · exact h.ne l hl
  · rw [List.mem_singleton.mp hl]
    intro e
    rw [e] at p
    have := p.length_eq
    rw [List.length_take] at this
    have : 0 < left.length := List.length_pos_iff.mpr ne
    simp at *
    omega
end Dl
set_option Elab.async false
set_option linter.all false
set_option maxRecDepth 100000
set_option maxHeartbeats 4000000
namespace Dl
open PySem PySem.Spec PyProof.Rows L2
theorem nat_sub {l : List PyData} {r : List Nat} (h : l.Sublist (natL r)) : ∃ l' : List Nat, l = natL l' ∧ l'.Sublist r := by
  obtain ⟨l', h1, h2⟩ := List.sublist_map_iff.mp h
  exact ⟨l', h2, h1⟩
theorem pl_at {cs : List Str} {gs : List (List Str)} {i : Nat} (h : i < gs.length) : ((plL cs gs).map fun g => PyData.list (natL g))[i]? = some (.list (natL ((gAt gs i).map cs.idxOf))) := by
  have e : gAt gs i = gs[i] := by show gs.getD i [] = _; rw [List.getD_eq_getElem?_getD, List.getElem?_eq_getElem h]; rfl
  unfold plL
  rw [List.map_map, List.getElem?_map, List.getElem?_eq_getElem h, e]
  rfl
theorem stand_cq {n : PyData} {d : PyData} (h : standR [n] d) : ∃ (m : Nat) (zs : Qs), n = .int (m : Nat) ∧ d = stT zs ∧ zs.length = m ∧ ∀ p ∈ zs, Cq p ∧ p.1.natAbs ≤ 4 ∧ p.2.natAbs ≤ 4 := by
  obtain ⟨m, xs, e1, rfl, rfl, hx⟩ := h
  injection e1 with e1 _
  have : ∃ zs : Qs, xs = stL zs ∧ ∀ p ∈ zs, Cq p ∧ p.1.natAbs ≤ 4 ∧ p.2.natAbs ≤ 4 := by
    clear e1
    induction xs with
    | nil => exact ⟨[], rfl, fun p hp => (nomatch hp)⟩
    | cons y xs ih =>
      obtain ⟨zs, e, hz⟩ := ih fun z hz => hx z (List.mem_cons_of_mem _ hz)
      obtain ⟨a, c, e2, c1, c2, c3⟩ := hx y List.mem_cons_self
      have c0 : c ≠ 0 := by omega
      refine ⟨(frN a c, frD a c) :: zs, by rw [e, e2]; rfl, fun p hp => ?_⟩
      rcases List.mem_cons.mp hp with rfl | hp
      · have h1 := frN_le a c c0
        have h2 := frD_le a c c0
        exact ⟨cq_fr c0, by show (frN a c).natAbs ≤ 4; omega, by show (frD a c).natAbs ≤ 4; omega⟩
      · exact hz p hp
  obtain ⟨zs, e, hz⟩ := this
  refine ⟨xs.length, zs, e1, by rw [e]; rfl, ?_, hz⟩
  rw [e]
  unfold stL
  rw [List.length_map]
end Dl
set_option Elab.async false
set_option linter.all false
set_option maxRecDepth 100000
set_option maxHeartbeats 4000000
namespace Dl
open PySem PySem.Spec PyProof.Rows L2
section
variable {K : PySem.W.Frag} {env : List Sl} {b : Option Addr} {ms : Ms} {te ta tb tc : TE} {P : PyData → Prop} {tt : TT} {v : V} {G0 H0 Gs G G2 H : Hp} {σ : L2.St} {D : Ends} {tz : TS}
theorem s_par {i l : Nat} {t : TA} {Pl : List PyData → Prop} (A : At K env b ms G0 H0 Gs σ G H) (h : EaP K env b ms t Pl) (h2 : ∀ ds, Pl ds → ∃ x y, ds = [x, y]) (k : ∀ x y σ' G' H', Pl [x, y] → At K ((env.set i (.d x)).set l (.d y)) b ms G0 H0 Gs σ' G' H' → D.nx σ' H') : tPar i l t D σ H :=
  h σ G H A.env A.gr.gh A.j _ fun vs ds G2 H2 g j p q => by
    obtain ⟨x, y, rfl⟩ := h2 ds q
    cases p with
    | cons p1 p =>
      cases p with
      | cons p2 p =>
        cases p
        exact ⟨_, _, rfl, k x y _ G2 H2 q (((A.step g j).put (slot_d p1)).put (slot_d p2))⟩
theorem en_catLP {l : List PyData} {Pm : List PyData → Prop} (ha : EvP K env b ms ta (Is (.list l))) (hb : EvP K env b ms tb (fun d => ∃ m, d = .list m ∧ Pm m)) (hl : ∀ m, Pm m → l.length + m.length ≤ 2000) : EvN K env b ms (tOp (rCatL K) ta tb) (fun x => ∃ m, Pm m ∧ x = l ++ m) := fun σ G H e s j Q k =>
  ha σ G H e s j _ fun v d G1 H1 g1 j1 p1 q1 => hb σ G1 H1 (e.mono g1.g) g1.gh j1 _ fun u d2 G2 H2 g2 j2 p2 ⟨m, q2, pm⟩ => by
    cases q1
    cases q2
    cases p1 with
    | lst s1 d1 =>
      cases p2 with
      | lst s2 d2 =>
        rename_i a xs c ys
        refine ⟨a, c, xs, ys, rfl, rfl, g2.gh.seq (g2.g.seq s1), g2.gh.seq s2, Nat.le_trans (by rw [dpa_len d1, dpa_len d2]; exact hl m pm) (by decide), fun p hp => ?_⟩
        have g3 : Grow No G2 H2 G2 (upd H2 p (.lst (xs ++ ys))) := Grow.lay0 g2.gh hp
        exact k p _ _ G2 _ ((g1.trans g2).trans g3.no) (j2.grow g3) (g1.dom _ (g2.dom _ hp)) (g2.gh.free hp) upd_same (dpa_app (dpa_mono g2.g _ _ d1) d2) ⟨m, pm, rfl⟩
/-- tuple(a list of which something is known) -/
theorem ev_tupOfP {Pr : List PyData → Prop} (h : EvP K env b ms te (fun d => ∃ l, d = .list l ∧ Pr l)) : EvP K env b ms (tCB (rTupOf K) (tCons te tNil)) (fun d => ∃ m, d = .tuple m ∧ Pr m) :=
  ev_cbP (ea_consP h ea_nil) fun ds ⟨d, r, e1, ⟨l, e2, pl⟩, e3⟩ => by
    rw [e1, e2, e3]
    intro xs G H p s j Q k
    exact rc_tupL xs G H p s j Q fun v d G2 H2 g j2 p2 q2 => k v d G2 H2 g j2 p2 ⟨l, q2, pl⟩
end
theorem nat_perm {m : List PyData} {r : List Nat} (h : m.Perm (natL r)) : ∃ l, m = natL l ∧ l.Perm r := by
  let f : PyData → Nat := fun d => match d with
    | .int i => i.toNat
    | _ => 0
  have e : (natL r).map f = r := by
    unfold natL
    rw [List.map_map]
    conv => rhs; rw [← List.map_id r]
    exact List.map_congr_left fun i _ => by show ((i : Nat) : Int).toNat = i; omega
  refine ⟨m.map f, ?_, ?_⟩
  · unfold natL
    rw [List.map_map]
    conv => lhs; rw [← List.map_id m]
    refine List.map_congr_left fun d hd => ?_
    have := h.mem_iff.mp hd
    unfold natL at this
    obtain ⟨i, _, rfl⟩ := List.mem_map.mp this
    show PyData.int (i : Nat) = .int ((((i : Nat) : Int).toNat : Nat) : Int)
    rw [Int.toNat_natCast]
  · have := h.map f
    rwa [e] at this
theorem leftL_nil (cs : List Str) (gs : List (List Str)) : leftL cs gs [] = gs := by
  unfold leftL freeI
  rw [List.map_nil, List.append_nil, List.flatten_nil, List.filter_eq_self.mpr fun i _ => by simp]
  refine List.ext_getElem (by simp) fun i h1 h2 => ?_
  simp [List.getElem?_eq_getElem h2]
theorem lt_nil (m : Nat) : LtOk m [] := ⟨fun l h => (nomatch h), by simp, fun i h => by simp at h⟩
theorem jn_tak {cs fs : List Str} {gs : List (List Str)} {w c : Str} (F : FrW cs gs fs w) (h : c ∈ fs) : JnOk cs (gs ++ [[c]]) [] := by
  refine ⟨?_, lt_nil _, by rw [List.length_append]; have := F.gl; show _ + 1 ≤ 13; omega, fun g hg => ?_, F.le⟩
  · rw [leftL_nil, ← tak_law F h]
    exact (tak_ok F h).cn
  · rcases List.mem_append.mp hg with hg | hg
    · exact F.gg hg
    · rw [List.mem_singleton.mp hg]
      show 1 ≤ 12
      decide
theorem jn_lnk {cs fs : List Str} {gs : List (List Str)} {w : Str} {lots : List (List Nat)} (F : FrW cs gs fs w) (L : LtOk gs.length lots) : JnOk cs gs lots ∧ leftL cs gs lots = (lnk gs lots).map (grpF cs) := by
  have e : leftL cs gs lots = (lnk gs lots).map (grpF cs) := (lnk_law F).symm
  refine ⟨⟨by rw [e]; exact (lnk_ok F L).cn, L, Nat.le_trans F.gl (by decide), fun g hg => F.gg hg, F.le⟩, e⟩
theorem lnk_fr {cs fs : List Str} {gs : List (List Str)} {w : Str} {lots : List (List Nat)} (F : FrW cs gs fs w) (L : LtOk gs.length lots) : FrW cs (inO cs (lnk gs lots)) fs w := by
  have po := lnk_ok F L
  refine byH_frame F po.cn ?_
  exact (perm_flat fun g hg => grpF_perm po.nd (po.sub hg).1 (po.sub hg).2).trans (lnk_perm L)
/-- sizes -/
theorem tak_s {cs fs : List Str} {gs : List (List Str)} {w c : Str} (F : FrW cs gs fs w) (h : c ∈ fs) : FrS cs (inO cs (gs ++ [[c]])) (fs.filter fun y => !decide (y = c)) w := by
  have S := F.s
  have cn := (tak_ok F h).cn
  have bp := byH_perm cn.nd cn.hin
  have e := tak_law F h
  rw [e] at bp
  have bp : (inO cs (gs ++ [[c]])).Perm (gs ++ [[c]]) := by show (byH cs ((gs ++ [[c]]).map (grpF cs))).Perm _; rw [e]; exact bp
  refine ⟨S.cl, ?_, Nat.le_trans List.filter_sublist.length_le S.fl, fun g hg => ?_, S.cm, fun y hy => S.fm y (List.mem_filter.mp hy).1, S.wy⟩
  · rw [bp.length_eq, List.length_append]
    have := F.gl
    show _ + 1 ≤ 13
    omega
  · rcases List.mem_append.mp (bp.mem_iff.mp hg) with hg | hg
    · exact S.gg g hg
    · rw [List.mem_singleton.mp hg]
      exact ⟨by show 1 ≤ 12; decide, fun y hy => by rw [List.mem_singleton.mp hy]; exact S.fm c h⟩
theorem ren_s {cs fs ns : List Str} {gs : List (List Str)} {w : Str} (F : FrW cs gs fs w) (ln : ns.length = cs.length) (nm : ∀ c ∈ ns, c ∈ nmAll) : FrS ns (gs.map fun g => g.map (rnm cs ns)) (fs.map (rnm cs ns)) w := by
  have rm : ∀ c ∈ cs, rnm cs ns c ∈ nmAll := fun c hc => by
    have lt := List.idxOf_lt_length_iff.mpr hc
    refine nm _ ?_
    unfold rnm
    rw [List.getD_eq_getElem?_getD, List.getElem?_eq_getElem (by omega)]
    exact List.getElem_mem _
  refine ⟨by rw [ln]; exact F.le, by rw [List.length_map]; exact Nat.le_trans F.gl (by decide), by rw [List.length_map]; exact F.fl, fun g hg => ?_, nm, fun y hy => ?_, F.wy⟩
  · obtain ⟨g0, h0, rfl⟩ := List.mem_map.mp hg
    refine ⟨by rw [List.length_map]; exact F.gg h0, fun y hy => ?_⟩
    obtain ⟨c, hc, rfl⟩ := List.mem_map.mp hy
    exact rm c ((F.ps g0 h0).2.subset hc)
  · obtain ⟨c, hc, rfl⟩ := List.mem_map.mp hy
    exact rm c (F.fr.subset hc)
end Dl
set_option Elab.async false
set_option linter.all false
set_option maxRecDepth 100000
set_option maxHeartbeats 4000000
namespace Dl
open PySem PySem.Spec PyProof.Rows L2
section
variable {K : PySem.W.Frag} {env : List Sl} {b : Option Addr} {ms : Ms} {te ta tb tc : TE} {P : PyData → Prop} {tt : TT} {v : V} {G0 H0 Gs G G2 H : Hp} {σ : L2.St} {D : Ends} {tz : TS}
theorem en_slLQ {tl th : TO} {Pl : List PyData → Prop} {Plo Phi : Option Int → Prop} (h : EvP K env b ms te (fun d => ∃ l, d = .list l ∧ Pl l)) (hl : EoP K env b ms tl Plo) (hh : EoP K env b ms th Phi) :
    EvN K env b ms (tSl (rSlL K) te tl th) (fun x => ∃ l lo hi, Pl l ∧ Plo lo ∧ Phi hi ∧ x = cutD l lo hi) := fun σ G H e s j Q k => h σ G H e s j _ fun v d G1 H1 g1 j1 p1 ⟨l, q1, pl⟩ => by
  cases q1
  cases p1 with
  | lst sq da =>
    rename_i a0 xs0
    refine hl σ G1 H1 (e.mono g1.g) g1.gh j1 _ fun lo G2 H2 g2 j2 q2 => hh σ G2 H2 (e.mono (g1.g.trans g2.g)) g2.gh j2 _ fun hi G3 H3 g3 j3 q3 => ?_
    have s3 := g2.g.trans g3.g
    refine ⟨_, _, rfl, (s3.trans g3.gh).seq sq, fun p hp => ?_⟩
    have g4 : Grow No G3 H3 G3 (upd H3 p (.lst (cutV xs0 lo hi))) := Grow.lay0 g3.gh hp
    exact k p _ _ G3 _ (((g1.trans g2).trans g3).trans g4.no) (j3.grow g4) (g1.dom _ (g2.dom _ (g3.dom _ hp))) (g3.gh.free hp) upd_same (dpa_mono s3 _ _ (dpa_cut da)) ⟨l, lo, hi, pl, q2, q3, rfl⟩
end
theorem sm_lt {l : List Nat} {n : Nat} (hl : l.length ≤ 12) (hn : n ≤ 13) (h : ∀ i ∈ l, i < n) {k : Nat} (hk : 1 ≤ k) : Sm (.tuple (natL l)) 4836 k := by
  have h60 : 13 ≤ (2 : Nat) ^ 60 := by decide
  exact (sm_natT hl fun i hi => by have := h i hi; omega).le (by decide) hk
/-- eight words of the law -/
def nm8 : List Str := ["rent", "tax", "a", "b", "zz", "y", "abcdefghijkl", "p"]
theorem nm8_all : ∀ c ∈ nm8, c ∈ nmAll := by decide +kernel
theorem strs_perm {m : List PyData} {r : List Str} (h : m.Perm (sTs r)) : ∃ l, m = sTs l ∧ l.Perm r := by
  let f : PyData → Str := fun d => match d with
    | .str s => s
    | _ => ""
  have e : (sTs r).map f = r := by
    unfold sTs
    rw [List.map_map]
    exact List.map_id _
  refine ⟨m.map f, ?_, ?_⟩
  · unfold sTs
    rw [List.map_map]
    conv => lhs; rw [← List.map_id m]
    refine List.map_congr_left fun d hd => ?_
    have := h.mem_iff.mp hd
    unfold sTs at this
    obtain ⟨i, _, rfl⟩ := List.mem_map.mp this
    rfl
  · have := h.map f
    rwa [e] at this
theorem mvs_lt {zs : Qs} {i : Nat} (h : i ∈ mvs zs) : i < zs.length := by
  unfold mvs at h
  obtain ⟨x, hx, rfl⟩ := List.mem_map.mp h
  have := (List.mem_filter.mp hx).1
  obtain ⟨j, hj⟩ := List.mem_iff_getElem?.mp this
  rw [List.getElem?_zipIdx] at hj
  cases q : zs[j]? with
  | none => rw [q] at hj; cases hj
  | some z =>
    rw [q] at hj
    have e := Option.some.inj hj
    have hl := (List.getElem?_eq_some_iff.mp q).1
    rw [← e]
    simpa using hl
end Dl
set_option Elab.async false
set_option linter.all false
set_option maxRecDepth 100000
set_option maxHeartbeats 4000000
namespace K05
open PySem L2 Dl
def top (i : Nat) : Stmt := PySem.Challenge.pw_heldthrough_k05_frames_led.main.body.getD i (.Pass ⟨0, 0, 0, 0⟩)
abbrev s_group_of : Stmt := top 1
abbrev N_group_of : List Str := ["frame", "cell", "index", "group"]
theorem sc_group_of : FnScope N_group_of ["frame", "cell"] (defScope s_group_of) := ⟨rfl, rfl, rfl, by decide +kernel, rfl, by decide +kernel, by decide +kernel⟩
theorem nd_group_of : (N_group_of).Nodup := sc_group_of.nd
abbrev s_places_of : Stmt := top 2
abbrev N_places_of : List Str := ["frame", "lot", "index", "cell"]
theorem sc_places_of : FnScope N_places_of ["frame", "lot"] (defScope s_places_of) := ⟨rfl, rfl, rfl, by decide +kernel, rfl, by decide +kernel, by decide +kernel⟩
theorem nd_places_of : (N_places_of).Nodup := sc_places_of.nd
abbrev s_added_places : Stmt := top 3
abbrev N_added_places : List Str := ["frame"]
theorem sc_added_places : FnScope N_added_places ["frame"] (defScope s_added_places) := ⟨rfl, rfl, rfl, by decide +kernel, rfl, by decide +kernel, by decide +kernel⟩
theorem nd_added_places : (N_added_places).Nodup := sc_added_places.nd
abbrev s_moved : Stmt := top 4
abbrev N_moved : List Str := ["vector", "place", "number"]
theorem sc_moved : FnScope N_moved ["vector"] (defScope s_moved) := ⟨rfl, rfl, rfl, by decide +kernel, rfl, by decide +kernel, by decide +kernel⟩
theorem nd_moved : (N_moved).Nodup := sc_moved.nd
abbrev s_touched : Stmt := top 5
abbrev N_touched : List Str := ["frame", "vector", "cells", "groups", "place", "cell", "index"]
theorem sc_touched : FnScope N_touched ["frame", "vector"] (defScope s_touched) := ⟨rfl, rfl, rfl, by decide +kernel, rfl, by decide +kernel, by decide +kernel⟩
theorem nd_touched : (N_touched).Nodup := sc_touched.nd
abbrev s_part : Stmt := top 6
abbrev N_part : List Str := ["frame", "vector", "places", "place", "number"]
theorem sc_part : FnScope N_part ["frame", "vector", "places"] (defScope s_part) := ⟨rfl, rfl, rfl, by decide +kernel, rfl, by decide +kernel, by decide +kernel⟩
theorem nd_part : (N_part).Nodup := sc_part.nd
abbrev s_linked : Stmt := top 7
abbrev N_linked : List Str := ["frame", "lots", "cells", "groups", "added", "way", "bound", "alone", "joined", "lot", "index", "group", "cell"]
theorem sc_linked : FnScope N_linked ["frame", "lots"] (defScope s_linked) := ⟨rfl, rfl, rfl, by decide +kernel, rfl, by decide +kernel, by decide +kernel⟩
theorem nd_linked : (N_linked).Nodup := sc_linked.nd
abbrev s_taken : Stmt := top 8
abbrev N_taken : List Str := ["frame", "cell", "cells", "groups", "added", "way", "left", "other"]
theorem sc_taken : FnScope N_taken ["frame", "cell"] (defScope s_taken) := ⟨rfl, rfl, rfl, by decide +kernel, rfl, by decide +kernel, by decide +kernel⟩
theorem nd_taken : (N_taken).Nodup := sc_taken.nd
abbrev s_with_way : Stmt := top 9
abbrev N_with_way : List Str := ["frame", "way"]
theorem sc_with_way : FnScope N_with_way ["frame", "way"] (defScope s_with_way) := ⟨rfl, rfl, rfl, by decide +kernel, rfl, by decide +kernel, by decide +kernel⟩
theorem nd_with_way : (N_with_way).Nodup := sc_with_way.nd
abbrev s_renamed : Stmt := top 10
abbrev N_renamed : List Str := ["frame", "names", "cells", "groups", "added", "way", "name_of", "fresh", "cell", "name", "group"]
theorem sc_renamed : FnScope N_renamed ["frame", "names"] (defScope s_renamed) := ⟨rfl, rfl, rfl, by decide +kernel, rfl, by decide +kernel, by decide +kernel⟩
theorem nd_renamed : (N_renamed).Nodup := sc_renamed.nd
abbrev s_places_of_cells : Stmt := top 11
abbrev N_places_of_cells : List Str := ["frame", "cells", "place", "cell"]
theorem sc_places_of_cells : FnScope N_places_of_cells ["frame", "cells"] (defScope s_places_of_cells) := ⟨rfl, rfl, rfl, by decide +kernel, rfl, by decide +kernel, by decide +kernel⟩
theorem nd_places_of_cells : (N_places_of_cells).Nodup := sc_places_of_cells.nd
abbrev s_in_order : Stmt := top 12
abbrev N_in_order : List Str := ["cells", "parts", "lots", "group", "cell", "places", "place"]
theorem sc_in_order : FnScope N_in_order ["cells", "parts"] (defScope s_in_order) := ⟨rfl, rfl, rfl, by decide +kernel, rfl, by decide +kernel, by decide +kernel⟩
theorem nd_in_order : (N_in_order).Nodup := sc_in_order.nd
abbrev s_is_name : Stmt := top 16
abbrev N_is_name : List Str := ["thing", "letter"]
theorem sc_is_name : FnScope N_is_name ["thing"] (defScope s_is_name) := ⟨rfl, rfl, rfl, by decide +kernel, rfl, by decide +kernel, by decide +kernel⟩
theorem nd_is_name : (N_is_name).Nodup := sc_is_name.nd
abbrev s_is_frame : Stmt := top 17
abbrev N_is_frame : List Str := ["thing", "cells", "groups", "added", "way"]
theorem sc_is_frame : FnScope N_is_frame ["thing"] (defScope s_is_frame) := ⟨rfl, rfl, rfl, by decide +kernel, rfl, by decide +kernel, by decide +kernel⟩
theorem nd_is_frame : (N_is_frame).Nodup := sc_is_frame.nd
abbrev s_is_tuple_of : Stmt := top 18
abbrev N_is_tuple_of : List Str := ["thing", "many"]
theorem sc_is_tuple_of : FnScope N_is_tuple_of ["thing", "many"] (defScope s_is_tuple_of) := ⟨rfl, rfl, rfl, by decide +kernel, rfl, by decide +kernel, by decide +kernel⟩
theorem nd_is_tuple_of : (N_is_tuple_of).Nodup := sc_is_tuple_of.nd
abbrev s_is_ascending : Stmt := top 19
abbrev N_is_ascending : List Str := ["numbers", "low", "high"]
theorem sc_is_ascending : FnScope N_is_ascending ["numbers"] (defScope s_is_ascending) := ⟨rfl, rfl, rfl, by decide +kernel, rfl, by decide +kernel, by decide +kernel⟩
theorem nd_is_ascending : (N_is_ascending).Nodup := sc_is_ascending.nd
abbrev s_are_cells : Stmt := top 20
abbrev N_are_cells : List Str := ["thing", "cell"]
theorem sc_are_cells : FnScope N_are_cells ["thing"] (defScope s_are_cells) := ⟨rfl, rfl, rfl, by decide +kernel, rfl, by decide +kernel, by decide +kernel⟩
theorem nd_are_cells : (N_are_cells).Nodup := sc_are_cells.nd
abbrev s_are_parts : Stmt := top 21
abbrev N_are_parts : List Str := ["cells", "groups", "added", "places", "parts", "stood", "place", "cell", "part"]
theorem sc_are_parts : FnScope N_are_parts ["cells", "groups", "added"] (defScope s_are_parts) := ⟨rfl, rfl, rfl, by decide +kernel, rfl, by decide +kernel, by decide +kernel⟩
theorem nd_are_parts : (N_are_parts).Nodup := sc_are_parts.nd
abbrev s_places_in_order : Stmt := top 22
abbrev N_places_in_order : List Str := ["places", "thing", "found", "cell"]
theorem sc_places_in_order : FnScope N_places_in_order ["places", "thing"] (defScope s_places_in_order) := ⟨rfl, rfl, rfl, by decide +kernel, rfl, by decide +kernel, by decide +kernel⟩
theorem nd_places_in_order : (N_places_in_order).Nodup := sc_places_in_order.nd
abbrev s__law_bag : Stmt := top 24
abbrev N__law_bag : List Str := ["script", "cell"]
theorem sc__law_bag : FnScope N__law_bag ["script"] (defScope s__law_bag) := ⟨rfl, rfl, rfl, by decide +kernel, rfl, by decide +kernel, by decide +kernel⟩
theorem nd__law_bag : (N__law_bag).Nodup := sc__law_bag.nd
abbrev s__law_take : Stmt := top 25
abbrev N__law_take : List Str := ["bag", "many", "cell", "stirred", "drawn", "begin", "second"]
theorem sc__law_take : FnScope N__law_take ["bag", "many"] (defScope s__law_take) := ⟨rfl, rfl, rfl, by decide +kernel, rfl, by decide +kernel, by decide +kernel⟩
theorem nd__law_take : (N__law_take).Nodup := sc__law_take.nd
abbrev s__law_some : Stmt := top 26
abbrev N__law_some : List Str := ["bag", "things"]
theorem sc__law_some : FnScope N__law_some ["bag", "things"] (defScope s__law_some) := ⟨rfl, rfl, rfl, by decide +kernel, rfl, by decide +kernel, by decide +kernel⟩
theorem nd__law_some : (N__law_some).Nodup := sc__law_some.nd
abbrev s__law_mixed : Stmt := top 27
abbrev N__law_mixed : List Str := ["bag", "things", "found", "thing"]
theorem sc__law_mixed : FnScope N__law_mixed ["bag", "things"] (defScope s__law_mixed) := ⟨rfl, rfl, rfl, by decide +kernel, rfl, by decide +kernel, by decide +kernel⟩
theorem nd__law_mixed : (N__law_mixed).Nodup := sc__law_mixed.nd
abbrev s__law_alike : Stmt := top 28
abbrev N__law_alike : List Str := ["found", "due"]
theorem sc__law_alike : FnScope N__law_alike ["found", "due"] (defScope s__law_alike) := ⟨rfl, rfl, rfl, by decide +kernel, rfl, by decide +kernel, by decide +kernel⟩
theorem nd__law_alike : (N__law_alike).Nodup := sc__law_alike.nd
abbrev s__law_gcd : Stmt := top 29
abbrev N__law_gcd : List Str := ["one", "other"]
theorem sc__law_gcd : FnScope N__law_gcd ["one", "other"] (defScope s__law_gcd) := ⟨rfl, rfl, rfl, by decide +kernel, rfl, by decide +kernel, by decide +kernel⟩
theorem nd__law_gcd : (N__law_gcd).Nodup := sc__law_gcd.nd
abbrev s__law_fr : Stmt := top 30
abbrev N__law_fr : List Str := ["num", "den", "common"]
theorem sc__law_fr : FnScope N__law_fr ["num", "den"] (defScope s__law_fr) := ⟨rfl, rfl, rfl, by decide +kernel, rfl, by decide +kernel, by decide +kernel⟩
theorem nd__law_fr : (N__law_fr).Nodup := sc__law_fr.nd
abbrev s__law_places : Stmt := top 31
abbrev N__law_places : List Str := ["frame", "group", "cell"]
theorem sc__law_places : FnScope N__law_places ["frame"] (defScope s__law_places) := ⟨rfl, rfl, rfl, by decide +kernel, rfl, by decide +kernel, by decide +kernel⟩
theorem nd__law_places : (N__law_places).Nodup := sc__law_places.nd
abbrev s__law_moves : Stmt := top 32
abbrev N__law_moves : List Str := ["vector", "at", "one"]
theorem sc__law_moves : FnScope N__law_moves ["vector"] (defScope s__law_moves) := ⟨rfl, rfl, rfl, by decide +kernel, rfl, by decide +kernel, by decide +kernel⟩
theorem nd__law_moves : (N__law_moves).Nodup := sc__law_moves.nd
abbrev s__law_touched : Stmt := top 33
abbrev N__law_touched : List Str := ["frame", "vector", "some", "index", "places", "at"]
theorem sc__law_touched : FnScope N__law_touched ["frame", "vector"] (defScope s__law_touched) := ⟨rfl, rfl, rfl, by decide +kernel, rfl, by decide +kernel, by decide +kernel⟩
theorem nd__law_touched : (N__law_touched).Nodup := sc__law_touched.nd
abbrev s__law_frame : Stmt := top 34
abbrev N__law_frame : List Str := ["bag", "most", "names", "cells", "way", "share", "free", "groups", "cell", "one", "group"]
theorem sc__law_frame : FnScope N__law_frame ["bag", "most"] (defScope s__law_frame) := ⟨rfl, rfl, rfl, by decide +kernel, rfl, by decide +kernel, by decide +kernel⟩
theorem nd__law_frame : (N__law_frame).Nodup := sc__law_frame.nd
abbrev s__law_stand : Stmt := top 35
abbrev N__law_stand : List Str := ["bag", "many", "den", "at"]
theorem sc__law_stand : FnScope N__law_stand ["bag", "many"] (defScope s__law_stand) := ⟨rfl, rfl, rfl, by decide +kernel, rfl, by decide +kernel, by decide +kernel⟩
theorem nd__law_stand : (N__law_stand).Nodup := sc__law_stand.nd
abbrev s__law_joined_groups : Stmt := top 36
abbrev N__law_joined_groups : List Str := ["frame", "lots", "left", "lot", "both", "index", "found", "cell", "group"]
theorem sc__law_joined_groups : FnScope N__law_joined_groups ["frame", "lots"] (defScope s__law_joined_groups) := ⟨rfl, rfl, rfl, by decide +kernel, rfl, by decide +kernel, by decide +kernel⟩
theorem nd__law_joined_groups : (N__law_joined_groups).Nodup := sc__law_joined_groups.nd
abbrev s_law : Stmt := top 37
abbrev N_law : List Str := ["script", "bag", "step", "frame", "many", "groups", "vector", "kept", "lot", "places", "told", "due", "lots", "left", "size", "whole", "way", "cell", "own", "names", "by", "index", "at", "group", "one"]
theorem sc_law : FnScope N_law ["script"] (defScope s_law) := ⟨rfl, rfl, rfl, by decide +kernel, rfl, by decide +kernel, by decide +kernel⟩
theorem nd_law : (N_law).Nodup := sc_law.nd
structure Txt (K : PySem.W.Frag) (mg : Str → Option Value) where
  f_group_of : Addr
  g_group_of : FuncData
  d_group_of : Dc K mg "group_of" s_group_of ["frame", "cell"] f_group_of g_group_of
  f_places_of : Addr
  g_places_of : FuncData
  d_places_of : Dc K mg "places_of" s_places_of ["frame", "lot"] f_places_of g_places_of
  f_added_places : Addr
  g_added_places : FuncData
  d_added_places : Dc K mg "added_places" s_added_places ["frame"] f_added_places g_added_places
  f_moved : Addr
  g_moved : FuncData
  d_moved : Dc K mg "moved" s_moved ["vector"] f_moved g_moved
  f_touched : Addr
  g_touched : FuncData
  d_touched : Dc K mg "touched" s_touched ["frame", "vector"] f_touched g_touched
  f_part : Addr
  g_part : FuncData
  d_part : Dc K mg "part" s_part ["frame", "vector", "places"] f_part g_part
  f_linked : Addr
  g_linked : FuncData
  d_linked : Dc K mg "linked" s_linked ["frame", "lots"] f_linked g_linked
  f_taken : Addr
  g_taken : FuncData
  d_taken : Dc K mg "taken" s_taken ["frame", "cell"] f_taken g_taken
  f_with_way : Addr
  g_with_way : FuncData
  d_with_way : Dc K mg "with_way" s_with_way ["frame", "way"] f_with_way g_with_way
  f_renamed : Addr
  g_renamed : FuncData
  d_renamed : Dc K mg "renamed" s_renamed ["frame", "names"] f_renamed g_renamed
  f_places_of_cells : Addr
  g_places_of_cells : FuncData
  d_places_of_cells : Dc K mg "places_of_cells" s_places_of_cells ["frame", "cells"] f_places_of_cells g_places_of_cells
  f_in_order : Addr
  g_in_order : FuncData
  d_in_order : Dc K mg "in_order" s_in_order ["cells", "parts"] f_in_order g_in_order
  f_is_name : Addr
  g_is_name : FuncData
  d_is_name : Dc K mg "is_name" s_is_name ["thing"] f_is_name g_is_name
  f_is_frame : Addr
  g_is_frame : FuncData
  d_is_frame : Dc K mg "is_frame" s_is_frame ["thing"] f_is_frame g_is_frame
  f_is_tuple_of : Addr
  g_is_tuple_of : FuncData
  d_is_tuple_of : Dc K mg "is_tuple_of" s_is_tuple_of ["thing", "many"] f_is_tuple_of g_is_tuple_of
  f_is_ascending : Addr
  g_is_ascending : FuncData
  d_is_ascending : Dc K mg "is_ascending" s_is_ascending ["numbers"] f_is_ascending g_is_ascending
  f_are_cells : Addr
  g_are_cells : FuncData
  d_are_cells : Dc K mg "are_cells" s_are_cells ["thing"] f_are_cells g_are_cells
  f_are_parts : Addr
  g_are_parts : FuncData
  d_are_parts : Dc K mg "are_parts" s_are_parts ["cells", "groups", "added"] f_are_parts g_are_parts
  f_places_in_order : Addr
  g_places_in_order : FuncData
  d_places_in_order : Dc K mg "places_in_order" s_places_in_order ["places", "thing"] f_places_in_order g_places_in_order
  f__law_bag : Addr
  g__law_bag : FuncData
  d__law_bag : Dc K mg "_law_bag" s__law_bag ["script"] f__law_bag g__law_bag
  f__law_take : Addr
  g__law_take : FuncData
  d__law_take : Dc K mg "_law_take" s__law_take ["bag", "many"] f__law_take g__law_take
  f__law_some : Addr
  g__law_some : FuncData
  d__law_some : Dc K mg "_law_some" s__law_some ["bag", "things"] f__law_some g__law_some
  f__law_mixed : Addr
  g__law_mixed : FuncData
  d__law_mixed : Dc K mg "_law_mixed" s__law_mixed ["bag", "things"] f__law_mixed g__law_mixed
  f__law_alike : Addr
  g__law_alike : FuncData
  d__law_alike : Dc K mg "_law_alike" s__law_alike ["found", "due"] f__law_alike g__law_alike
  f__law_gcd : Addr
  g__law_gcd : FuncData
  d__law_gcd : Dc K mg "_law_gcd" s__law_gcd ["one", "other"] f__law_gcd g__law_gcd
  f__law_fr : Addr
  g__law_fr : FuncData
  d__law_fr : Dc K mg "_law_fr" s__law_fr ["num", "den"] f__law_fr g__law_fr
  f__law_places : Addr
  g__law_places : FuncData
  d__law_places : Dc K mg "_law_places" s__law_places ["frame"] f__law_places g__law_places
  f__law_moves : Addr
  g__law_moves : FuncData
  d__law_moves : Dc K mg "_law_moves" s__law_moves ["vector"] f__law_moves g__law_moves
  f__law_touched : Addr
  g__law_touched : FuncData
  d__law_touched : Dc K mg "_law_touched" s__law_touched ["frame", "vector"] f__law_touched g__law_touched
  f__law_frame : Addr
  g__law_frame : FuncData
  d__law_frame : Dc K mg "_law_frame" s__law_frame ["bag", "most"] f__law_frame g__law_frame
  f__law_stand : Addr
  g__law_stand : FuncData
  d__law_stand : Dc K mg "_law_stand" s__law_stand ["bag", "many"] f__law_stand g__law_stand
  f__law_joined_groups : Addr
  g__law_joined_groups : FuncData
  d__law_joined_groups : Dc K mg "_law_joined_groups" s__law_joined_groups ["frame", "lots"] f__law_joined_groups g__law_joined_groups
  f_law : Addr
  g_law : FuncData
  d_law : Dc K mg "law" s_law ["script"] f_law g_law
  u_LETTERS : PySem.Tok
  c_LETTERS : mg "LETTERS" = some (.str "abcdefghijklmnopqrstuvwxyz" u_LETTERS)
  D_WAYS : Addr
  c_WAYS : mg "WAYS" = some (.ref D_WAYS)
  q_WAYS : Dl.TupAt K D_WAYS ["usual", "strict"]
  b_abs : mg "abs" = none
  b_all : mg "all" = none
  b_dict : mg "dict" = none
  b_enumerate : mg "enumerate" = none
  b_int : mg "int" = none
  b_isinstance : mg "isinstance" = none
  b_len : mg "len" = none
  b_list : mg "list" = none
  b_min : mg "min" = none
  b_range : mg "range" = none
  b_repr : mg "repr" = none
  b_set : mg "set" = none
  b_sorted : mg "sorted" = none
  b_str : mg "str" = none
  b_tuple : mg "tuple" = none
  b_zip : mg "zip" = none
end K05
set_option Elab.async false
set_option linter.all false
set_option maxRecDepth 100000
set_option maxHeartbeats 4000000
namespace K05
open PySem L2 Dl
section
variable {P : Program} {w : World} {K : PySem.W.Frag} {mg : Str → Option Value} {base : Heap}
abbrev sp_group_of (K : PySem.W.Frag) : Sp := spR K 2 dGrp rGrp
theorem ok_group_of (T : Txt K mg) : FnOk P w K mg base CX0 1 T.f_group_of T.g_group_of ["frame", "cell"] (sp_group_of K) := by
  refine T.d_group_of.fn.ok sc_group_of (fun vs H Q E h => ?_) (fun cdv A outer s H vs Q E hr h => ?_)
  · exact spR_len h
  · have nd := nd_group_of
    refine ⟨_, (pss_cons (ps_for PassesOwn.never rfl (Dl.pi_enumK (K := K) rfl T.b_enumerate (pa_cons (pe_ix (r := rIxT K) ix_tup (pv 0) pe_int (fun _ _ => rfl)) pa_nil)) (pg_tup rfl (pgs_cons (pg_name (i := 2) nd rfl (Or.inl rfl)) (pgs_cons (pg_name (i := 3) nd rfl (Or.inl rfl)) pgs_nil))) (pss_one (ps_if (pt_cmpR (r := rIn K false) op_in_seq (pv 1) (pv 3) (by with_unfolding_all rfl)) (pss_one (ps_ret (pv 2))) pss_nil)))
      (pss_one (ps_ret pe_non))), ?_⟩
    obtain ⟨hl, ds, G, sG, da, dm, k⟩ := h
    obtain ⟨cs, gs, fs, w, c, rfl, F⟩ := dm
    have A := at_pure (N := N_group_of) sG da (by rw [hl]; decide)
    have out : ∀ v d G' H', Grow No G H G' H' → Dp K G' v d → d = flD (gO (grp gs c)) → Q v H' := fun v d G' H' g p e => k v d G' H' g p fun cs2 gs2 fs2 w2 c2 e2 => by
      simp only [List.cons.injEq, and_true, PyData.str.injEq] at e2
      obtain ⟨h1, h2, h3, h4⟩ := frTp_inj e2.1
      rw [e, h2, e2.2]
    refine q_for A (Pl := Is (gs.zipIdx.map (encEn fun g => .tuple (sTs g)))) (f := setPair 2 3) (vs := [2, 3]) (fun σ G H e s j R k => ei_enumB (ea_cons (ev_ixT (ev_var rfl) ev_int (d := .tuple (gsD gs)) rfl) ea_nil) .t σ G H e s j R fun J l G2 H2 g j2 it q => k J l G2 H2 g j2 it (by rw [q]; exact enumL_map _ gs)) (fun l e x hx => ?_)
      (fun l i env' ms' => ∃ s2 s3, env' = [.d (frTp cs gs fs w), .d (.str c), s2, s3] ∧ ms' = [] ∧ i ≤ gs.length ∧ ∀ g ∈ gs.take i, c ∉ g) (fun l e => ⟨.un, .un, rfl, rfl, Nat.zero_le _, fun g hg => by simp at hg⟩) ?_ ?_
    · rw [e] at hx
      obtain ⟨y, _, rfl⟩ := List.mem_map.mp hx
      exact tg_pair (by decide) (by decide)
    · rintro l i x env' ms' Gt σ2 G2 H2 rfl hx ⟨s2, s3, rfl, rfl, hi, hno⟩ A2 nx hnx
      rw [List.getElem?_map] at hx
      obtain ⟨g, hg, rfl⟩ : ∃ g, gs[i]? = some g ∧ x = encEn (fun g => .tuple (sTs g)) (g, i) := by
        cases q : gs.zipIdx[i]? with
        | none => rw [q] at hx; cases hx
        | some y =>
          rw [q] at hx
          rw [List.getElem?_zipIdx] at q
          cases q2 : gs[i]? with
          | none => rw [q2] at q; cases q
          | some g =>
            rw [q2] at q
            refine ⟨g, rfl, ?_⟩
            have : y = (g, i) := by
              have := Option.some.inj q
              rw [← this]; simp
            rw [← Option.some.inj hx, this]
      have hi2 := (List.getElem?_eq_some_iff.mp hg).1
      refine s_if (Pt := fun t => t = decide (c ∈ g)) A2 (et_imp (et_T (ev_inT (neg := false) (ev_var rfl) (ev_var rfl) .t)) fun t e => e) (fun e G3 H3 A3 => ?_) (fun e G3 H3 A3 => ?_)
      · refine s_ret A3 (ev_var rfl) fun v d G4 H4 gr j p e2 => out v d G4 H4 gr.nob p ?_
        rw [e2]
        have hc : c ∈ gs.getD i [] := by
          rw [List.getD_eq_getElem?_getD, hg]
          exact of_decide_eq_true e.symm
        rw [grp_of F.fn hi2 hc]
        rfl
      · refine hnx _ _ _ _ _ ⟨_, _, rfl, rfl, hi2, fun g2 hg2 => ?_⟩ A3
        rw [List.take_add_one, hg] at hg2
        rcases List.mem_append.mp hg2 with hg2 | hg2
        · exact hno g2 hg2
        · have : g2 = g := by simpa using hg2
          rw [this]
          exact of_decide_eq_false e.symm
    · rintro l env' ms' σ2 G2 H2 rfl ⟨s2, s3, rfl, rfl, hi, hno⟩ A2
      refine s_ret A2 ev_non fun v d G4 H4 gr j p e2 => out v d G4 H4 gr.nob p ?_
      have e3 : grp gs c = none := grp_none.mpr fun hc => by
        obtain ⟨g, hg, hcg⟩ := List.mem_flatten.mp hc
        rw [List.length_map, List.length_zipIdx, List.take_length] at hno
        exact hno g hg hcg
      rw [e2, e3]
      rfl
abbrev sp_moved (K : PySem.W.Frag) : Sp := spR K 1 dMvd rMvd
theorem ok_moved (T : Txt K mg) : FnOk P w K mg base CX0 1 T.f_moved T.g_moved ["vector"] (sp_moved K) := by
  refine T.d_moved.fn.ok sc_moved (fun vs H Q E h => ?_) (fun cdv A outer s H vs Q E hr h => ?_)
  · exact spR_len h
  · have nd := nd_moved
    refine ⟨_, (pss_one (ps_ret (pe_callTy (T := "tuple") (r := Dl.rTupOf K) call_tuple_of (by rfl) T.b_tuple (by decide +kernel) (pa_cons (pe_lc (own := [("place", 1), ("number", 2)]) (g := gTup K 2 (gCons (gName 1) (gCons (gName 2) gNil))) rfl nd (Dl.pi_enumK (K := K) rfl T.b_enumerate (pa_cons (pv 0) pa_nil)) (blkOk_by (own := [("place", 1), ("number", 2)]) (N := N_moved) (sc := defScope s_moved) (by decide +kernel)) (fun _ _ _ _ _ => (pg_tup rfl (pgs_cons (pg_name (i := 1) nd rfl (Or.inl rfl)) (pgs_cons (pg_name (i := 2) nd rfl (Or.inl rfl)) pgs_nil)))) (fun _ _ _ _ _ => (pts_one (pt_cmpR op_ne (pe_ix (r := rIxT K) ix_tup (pv 2) pe_int (fun _ _ => rfl)) pe_int (nomark _)))) (fun _ _ _ _ _ => (pv 1))) pa_nil)))), ?_⟩
    obtain ⟨hl, ds, G, sG, da, dm, k⟩ := h
    obtain ⟨zs, rfl, lz⟩ := dm
    have A := at_pure (N := N_moved) sG da (by rw [hl]; decide)
    refine s_ret A (ev_tupNI (en_dec (enc := encEn encQ) (L := zs.zipIdx) (t := fun x => !decide (x.1.1 = 0)) (g := fun x => .int (x.2 : Nat)) (f := setPair 1 2) (encEn_inj encQ_inj) (evg_is (ei_enumB (ea_cons (ev_var rfl) ea_nil) .t) (enumL_map encQ zs)) (by rw [List.length_zipIdx]; omega) (fun a _ => tg_pair (by decide) (by decide)) (fun a ha => et_T (ev_neI (ev_ixT (ev_var rfl) ev_int rfl) ev_int)) (fun a _ _ => ev_var rfl))) (fun v x G' H' g j p e => k v x G' H' g.nob p fun zs2 e2 => ?_)
    simp only [List.cons.injEq, and_true] at e2
    rw [e, ← stT_inj e2]
    unfold natL mvs
    rw [List.map_map]
    rfl
abbrev sp_places_of_cells (K : PySem.W.Frag) : Sp := spR K 2 dPlc rPlc
theorem ok_places_of_cells (T : Txt K mg) : FnOk P w K mg base CX0 1 T.f_places_of_cells T.g_places_of_cells ["frame", "cells"] (sp_places_of_cells K) := by
  refine T.d_places_of_cells.fn.ok sc_places_of_cells (fun vs H Q E h => ?_) (fun cdv A outer s H vs Q E hr h => ?_)
  · exact spR_len h
  · have nd := nd_places_of_cells
    refine ⟨_, (pss_one (ps_ret (pe_callTy (T := "tuple") (r := Dl.rTupOf K) call_tuple_of (by rfl) T.b_tuple (by decide +kernel) (pa_cons (pe_lc (own := [("place", 2), ("cell", 3)]) (g := gTup K 2 (gCons (gName 2) (gCons (gName 3) gNil))) rfl nd (Dl.pi_enumK (K := K) rfl T.b_enumerate (pa_cons (pe_ix (r := rIxT K) ix_tup (pv 0) pe_int (fun _ _ => rfl)) pa_nil)) (blkOk_by (own := [("place", 2), ("cell", 3)]) (N := N_places_of_cells) (sc := defScope s_places_of_cells) (by decide +kernel)) (fun _ _ _ _ _ => (pg_tup rfl (pgs_cons (pg_name (i := 2) nd rfl (Or.inl rfl)) (pgs_cons (pg_name (i := 3) nd rfl (Or.inl rfl)) pgs_nil)))) (fun _ _ _ _ _ => (pts_one (pt_cmpR (r := rIn K false) op_in_seq (pv 3) (pv 1) (by with_unfolding_all rfl)))) (fun _ _ _ _ _ => (pv 2))) pa_nil)))), ?_⟩
    obtain ⟨hl, ds, G, sG, da, dm, k⟩ := h
    obtain ⟨cs, gs, fs, w, l, d, rfl, F, sd⟩ := dm
    have A := at_pure (N := N_places_of_cells) sG da (by rw [hl]; decide)
    refine s_ret A (ev_tupNI (en_dec (enc := encEn .str) (L := cs.zipIdx) (t := fun x => decide (x.1 ∈ l)) (g := fun x => .int (x.2 : Nat)) (f := setPair 2 3) (encEn_inj fun _ _ => str_inj) (evg_is (ei_enumB (ea_cons (ev_ixT (ev_var rfl) ev_int (d := .tuple (sTs cs)) rfl) ea_nil) .t) (enumL_map .str cs)) (by rw [List.length_zipIdx]; have := F.le; omega) (fun a _ => tg_pair (by decide) (by decide)) (fun a ha => et_T (ev_inT (neg := false) (ev_var rfl) (ev_var rfl) sd)) (fun a _ _ => ev_var rfl))) (fun v x G' H' g j p e => k v x G' H' g.nob p fun cs2 gs2 fs2 w2 l2 d2 e2 sd2 => ?_)
    simp only [List.cons.injEq, and_true] at e2
    obtain ⟨h1, h2, h3, h4⟩ := frTp_inj e2.1
    have : l = l2 := sqd_inj sd (by rw [e2.2]; exact sd2)
    subst this h1
    rw [e]
    unfold natL plc
    rw [List.map_map]
    rfl
abbrev sp__law_bag (K : PySem.W.Frag) : Sp := spBag K
theorem ok__law_bag (T : Txt K mg) : FnOk P w K mg base CX0 1 T.f__law_bag T.g__law_bag ["script"] (sp__law_bag K) := by
  refine T.d__law_bag.fn.ok sc__law_bag (fun vs H Q E h => ?_) (fun cdv A outer s H vs Q E hr h => ?_)
  · obtain ⟨a, ns, rfl, _⟩ := h
    rfl
  · have nd := nd__law_bag
    refine ⟨_, (pss_one (ps_ret (pe_lst (pa_cons pe_int (pa_cons pe_int (pa_cons pe_int (pa_cons (pe_lc (own := [("cell", 1)]) (g := gName 1) rfl nd (Dl.pi_listK (K := K) (pe_slice (r := rSlL K) sl_list (pv 0) po_none (po_some pe_int))) (blkOk_by (own := [("cell", 1)]) (N := N__law_bag) (sc := defScope s__law_bag) (by decide +kernel)) (fun _ _ _ _ _ => (pg_name (i := 1) nd rfl (Or.inl rfl))) (fun _ _ _ _ _ => pts_nil) (fun _ _ _ _ _ => (pe_callB (id := "abs") (r := Dl.rAbs) call_abs (by rfl) T.b_abs (by decide +kernel) (pa_cons (pv 1) pa_nil)))) pa_nil))))))), ?_⟩
    obtain ⟨a, ns, rfl, hS, hl, k⟩ := h
    have A := at_pure (N := N__law_bag) (ds := [.list (ns.map .int)]) (Same.refl H) (.cons (.lst hS (dpa_ints ns)) .nil) (by decide : 1 ≤ 2)
    have E1 : EvN K [.d (.list (ns.map .int)), .un] none [] (tLc (iList K (tSl (rSlL K) (tVar 0) tNoPart (tPart (tC (.int 63))))) (gName 1) tYes (tCB rAbs (tCons (tVar 1) tNil)) [1])
        (fun m => ∃ l, (∃ lo hi, Is none lo ∧ Is (some 63) hi ∧ l = cutD (ns.map .int) lo hi) ∧ Lc (fun _ c => c = true) (fun _ y => ∃ c, y = .int c ∧ 0 ≤ c) l m) := by
      refine en_lc (f := fun y env => env.set 1 (.d y)) (ei_listP (ev_new (en_slL (ev_var rfl) eo_none (eo_some ev_int)))) ?_ (fun l _ y _ => tg_name (by decide)) (fun l _ y _ => et_yes) ?_
      · rintro l ⟨lo, hi, rfl, rfl, rfl⟩
        have := cutD_len (ns.map .int) none (some 63)
        rw [List.length_map] at this
        omega
      · rintro l ⟨lo, hi, rfl, rfl, rfl⟩ y hy _
        obtain ⟨z, _, rfl⟩ := List.mem_map.mp (cutD_mem hy)
        exact ev_imp (ev_cb (ea_cons (ev_var rfl) ea_nil) rc_abs) fun d e => ⟨_, e, by split <;> omega⟩
    have E2 : EvN K [.d (.list (ns.map .int)), .un] none [] (tLst (tCons (tC (.int 0)) (tCons (tC (.int 1234567891)) (tCons (tC (.int 0)) (tCons (tLc (iList K (tSl (rSlL K) (tVar 0) tNoPart (tPart (tC (.int 63))))) (gName 1) tYes (tCB rAbs (tCons (tVar 1) tNil)) [1]) tNil)))))
        (fun l => ∃ cs : List Int, l = [.int 0, .int 1234567891, .int 0, .list (cs.map .int)] ∧ (∀ c ∈ cs, 0 ≤ c) ∧ cs.length ≤ 63) := by
      refine en_imp (en_lstP (ea_consP ev_int (ea_consP ev_int (ea_consP ev_int (ea_consP (ev_new E1) ea_nil)))) ?_) ?_
      · rintro l ⟨d0, l0, rfl, _, d1, l1, rfl, _, d2, l2, rfl, _, d3, l3, rfl, _, e⟩
        rw [e]; show 4 ≤ 1000; decide
      · rintro l ⟨d0, l0, rfl, e0, d1, l1, rfl, e1, d2, l2, rfl, e2, d3, l3, rfl, ⟨m, e3, l', ⟨lo, hi, rfl, rfl, rfl⟩, lc⟩, e4⟩
        obtain ⟨cs, e5, h5⟩ := ints_of (C := fun c => 0 ≤ c) fun y hy => let ⟨_, _, c⟩ := lc.mem y hy; c
        refine ⟨cs, by rw [e0, e1, e2, e3, e4, e5], h5, ?_⟩
        have h1 := lc.len
        have h2 := cutD_len (ns.map PyData.int) none (some 63)
        rw [e5, List.length_map] at h1
        rw [List.length_map] at h2
        omega
    refine E2 _ _ _ A.env A.gr.gh A.j _ fun p xs l G2 H2 g j n gp hp da q => ?_
    obtain ⟨cs, rfl, h1, h2⟩ := q
    cases da with
    | cons p0 t => cases t with
      | cons p1 t => cases t with
        | cons p2 t => cases t with
          | cons p3 t =>
            cases t; cases p0; cases p1; cases p2
            cases p3 with
            | lst sq da =>
              rw [dpa_ints_inv da] at sq
              exact k p G2 H2 g.nob n ⟨gp, 0, 1234567891, 0, _, cs, hp, sq, by omega, by omega, by omega, by omega, h1, by omega⟩
abbrev sp__law_take (K : PySem.W.Frag) : Sp := spB K 1 takeDom takeR
theorem ok__law_take (T : Txt K mg) : FnOk P w K mg base CX0 1 T.f__law_take T.g__law_take ["bag", "many"] (sp__law_take K) := by
  refine T.d__law_take.fn.ok sc__law_take (fun vs H Q E h => ?_) (fun cdv A outer s H vs Q E hr h => ?_)
  · exact spB_len h
  · have nd := nd__law_take
    refine ⟨_, (pss_cons (ps_if (pt_cmpR op_eq (pe_ix (r := rIxL K) ix_list (pv 0) pe_int (fun _ _ => rfl)) pe_int (nomark _)) (pss_cons (ps_set (i := 2) nd rfl (Or.inl rfl) (pe_ix (r := rIxL K) ix_list (pe_op op_cat (pe_slice (r := rSlL K) sl_list (pe_ix (r := rIxL K) ix_list (pv 0) pe_int (fun _ _ => rfl)) (po_some (pe_ix (r := rIxL K) ix_list (pv 0) pe_int (fun _ _ => rfl))) po_none) (pe_lst (pa_cons pe_int pa_nil))) pe_int (fun _ _ => rfl)))
      (pss_cons (ps_augS (pv 0) pe_int Dl.get_list pe_int ip_add set_list)
      (pss_cons (ps_if (pt_cmpR op_ge (pv 2) (pe_op op_pow pe_int pe_int) (nomark _)) (pss_one (ps_asg (pv 2) (pg_sub (pv 0) pe_int set_list))) pss_nil)
      (pss_cons (ps_set (i := 3) nd rfl (Or.inl rfl) (pe_op op_add (pe_op op_add (pe_op op_mul (pe_ix (r := rIxL K) ix_list (pv 0) pe_int (fun _ _ => rfl)) pe_int) (pe_op op_mod (pe_callTy (T := "int") (r := Dl.rInt1) call_int1 (by rfl) T.b_int (by decide +kernel) (pa_cons (pv 2) pa_nil)) pe_int)) (pe_op op_mul pe_int (pe_ix (r := rIxL K) ix_list (pv 0) pe_int (fun _ _ => rfl)))))
      (pss_one (ps_asg (pe_op op_mod (pe_callTy (T := "int") (r := Dl.rInt1) call_int1 (by rfl) T.b_int (by decide +kernel) (pa_cons (pv 3) pa_nil)) pe_int) (pg_sub (pv 0) pe_int set_list))))))) pss_nil)
      (pss_cons (ps_if (pt_cmpR op_gt (pe_ix (r := rIxL K) ix_list (pv 0) pe_int (fun _ _ => rfl)) pe_int (nomark _)) (pss_cons (ps_set (i := 4) nd rfl (Or.inl rfl) (pe_op op_mod (pe_callTy (T := "int") (r := Dl.rInt1) call_int1 (by rfl) T.b_int (by decide +kernel) (pa_cons (pe_ix (r := rIxL K) ix_list (pv 0) pe_int (fun _ _ => rfl)) pa_nil)) (pv 1)))
      (pss_cons (ps_asg (pe_op op_fdivW (pe_callTy (T := "int") (r := Dl.rInt1) call_int1 (by rfl) T.b_int (by decide +kernel) (pa_cons (pe_ix (r := rIxL K) ix_list (pv 0) pe_int (fun _ _ => rfl)) pa_nil)) (pv 1)) (pg_sub (pv 0) pe_int set_list))
      (pss_one (ps_ret (pv 4))))) pss_nil)
      (pss_cons (ps_set (i := 5) nd rfl (Or.inl rfl) (pe_op op_mod (pe_callTy (T := "int") (r := Dl.rInt1) call_int1 (by rfl) T.b_int (by decide +kernel) (pa_cons (pe_op op_mul (pe_op op_add (pe_ix (r := rIxL K) ix_list (pv 0) pe_int (fun _ _ => rfl)) pe_int) pe_int) pa_nil)) pe_int))
      (pss_cons (ps_set (i := 6) nd rfl (Or.inl rfl) (pe_op op_mod (pe_callTy (T := "int") (r := Dl.rInt1) call_int1 (by rfl) T.b_int (by decide +kernel) (pa_cons (pe_op op_mul (pe_op op_mod (pe_callTy (T := "int") (r := Dl.rInt1) call_int1 (by rfl) T.b_int (by decide +kernel) (pa_cons (pe_op op_mul (pv 5) (pv 5)) pa_nil)) pe_int) pe_int) pa_nil)) pe_int))
      (pss_one (ps_ret (pe_op op_mod (pe_callTy (T := "int") (r := Dl.rInt1) call_int1 (by rfl) T.b_int (by decide +kernel) (pa_cons (pe_op op_fdivW (pv 6) pe_int) pa_nil)) (pv 1)))))))), ?_⟩
    obtain ⟨b, ws, rfl, hl, ds, G, sG, bg, da, dm, k⟩ := h
    obtain ⟨n, rfl, hn0, hn1⟩ := dm
    cases da with
    | cons p q =>
      cases q
      cases p
      obtain ⟨gb, z0, z1, z2, l, cs, hb, sl, h0, h1, h1', h2, hc, hcl⟩ := bg
      refine seq_via (fun σ' H' => ∃ (c2 c3 : Option V) (z0 z1 z2 : Int), σ' = [some (.ref b), some (.int n), c2, c3, none, none, none] ∧ H' b = some (.lst [.int z0, .int z1, .int z2, .ref l]) ∧ 0 ≤ z0 ∧ 0 ≤ z1 ∧ z1 < 2147483647 ∧ 0 ≤ z2 ∧ But b H H') (fun N hN => ?_) ?_
      · refine ⟨_, rfl, b, _, 0, .int z0, rfl, rfl, SqL.of hb, rfl, rfl, _, rfl, ?_⟩
        refine ite2 (fun _ => ?_) (fun _ => hN _ _ ⟨none, none, z0, z1, z2, rfl, hb, h0, h1, h1', h2, But.refl _ _⟩)
        have slH : SqL K H l (cs.map V.int) := sG.seq sl
        obtain ⟨c, c0, hcell⟩ := first_cell hc (some z2) none
        refine ⟨_, rfl, b, _, 3, .ref l, rfl, rfl, SqL.of hb, rfl, _, rfl, b, _, 2, .int z2, rfl, rfl, SqL.of hb, rfl, z2, rfl, l, _, rfl, slH, fun p hp => ?_⟩
        refine ⟨by show 1 ≤ sizeLine; decide, fun q hq => ?_⟩
        obtain ⟨qp, _⟩ := fresh2 hq
        refine ⟨p, q, _, _, rfl, rfl, (by rw [upd_ne qp.symm]; exact upd_same), upd_same, cut_len1001 hcl _ _, fun t ht => ?_⟩
        refine ⟨t, _, 0, .int c, rfl, rfl, SqL.of upd_same, hcell, ?_⟩
        have t1 := (((Tmp.refl H).new (o := .lst (cutV (cs.map V.int) (some z2) none)) hp).new (o := .lst [V.int 0]) hq).new (o := .lst (cutV (cs.map V.int) (some z2) none ++ [V.int 0])) ht
        generalize hH1 : upd (upd (upd H p (.lst (cutV (cs.map V.int) (some z2) none))) q (.lst [V.int 0])) t (.lst (cutV (cs.map V.int) (some z2) none ++ [V.int 0])) = H1 at t1 ⊢
        have hb1 := t1.up _ _ hb
        -- bag[2] += 1
        refine q_augBag rfl hb1 fun H2 eH2 => ?_
        have x2 := ((But.refl b H).tmp t1).put (o := .lst [.int z0, .int z1, .int (z2 + 1), .ref l]) hb1
        rw [← eH2] at x2
        have hb2 : H2 b = some (.lst [.int z0, .int z1, .int (z2 + 1), .ref l]) := by rw [eH2]; exact upd_same
        -- if cell >= 10 ** 18: bag[0] = cell
        refine seq_via (t := tIfS _ _ _) (fun σ' H' => ∃ (z0 : Int), σ' = [some (.ref b), some (.int n), some (.int c), none, none, none, none] ∧ H' b = some (.lst [.int z0, .int z1, .int (z2 + 1), .ref l]) ∧ 0 ≤ z0 ∧ But b H H') (fun N2 hN2 => ?_) ?_
        · refine ⟨_, rfl, 10, 18, rfl, rfl, pow18, _, _, rfl, rfl, _, rfl, ?_⟩
          refine ite2 (fun _ => ?_) (fun _ => hN2 _ _ ⟨z0, rfl, hb2, h0, x2⟩)
          refine ⟨_, rfl, _, rfl, b, _, 0, 0, rfl, rfl, hb2, rfl, ?_⟩
          exact hN2 _ _ ⟨c, rfl, upd_same, c0, x2.put hb2⟩
        rintro σ' H' ⟨z0', rfl, hb3, h03, x3⟩
        -- stirred
        refine ⟨_, rfl, b, _, 1, .int z1, rfl, rfl, SqL.of hb3, rfl, z1, 48271, rfl, rfl, .inl ⟨by omega, by omega⟩, _, rfl, .inl ⟨c, rfl, c, 2147483647, rfl, rfl, (by show (0 : Int) < 2147483647; decide), _, _, rfl, rfl, _, rfl, b, _, 2, .int (z2 + 1), rfl, rfl, SqL.of hb3, rfl, 7919, z2 + 1, rfl, rfl, .inl ⟨by decide, by decide⟩, _, _, rfl, rfl, ?_⟩⟩
        refine ⟨_, rfl, .inl ⟨_, rfl, _, 2147483647, rfl, rfl, (by show (0 : Int) < 2147483647; decide), _, rfl, b, _, 1, 1, rfl, rfl, hb3, rfl, ?_⟩⟩
        exact hN _ _ ⟨some (.int c), _, z0', _, z2 + 1, rfl, upd_same, h03, Int.emod_nonneg _ (by decide), Int.emod_lt_of_pos _ (by decide), by omega, x3.put hb3⟩
      · rintro σ' H' ⟨c2, c3, z0, z1, z2, rfl, hb, h0, h1, h1', h2, x⟩
        have fin := fun (H' : Hp) (y0 y1 y2 r : Int) (a) (b) (c) (d) (e) (f : But _ H H') => fin_draw (z0 := y0) (z1 := y1) (z2 := y2) (r := r) (H' := H') sG gb sl hc hcl k a b c d e f.up f.dn
        refine ⟨_, rfl, b, _, 0, .int z0, rfl, rfl, SqL.of hb, rfl, z0, 0, rfl, rfl, _, rfl, ?_⟩
        refine ite2 (fun _ => ?_) (fun _ => ?_)
        · refine ⟨_, rfl, b, _, 0, .int z0, rfl, rfl, SqL.of hb, rfl, .inl ⟨z0, rfl, _, rfl, z0, n, rfl, rfl, hn0, ?_⟩⟩
          refine ⟨_, rfl, b, _, 0, .int z0, rfl, rfl, SqL.of hb, rfl, .inl ⟨z0, rfl, _, rfl, z0, n, rfl, rfl, wide_div (b := 60) hn0 (by omega) (by decide) (by decide), _, rfl, b, _, 0, 0, rfl, rfl, hb, rfl, ?_⟩⟩
          refine ⟨_, rfl, ?_⟩
          exact fin _ _ _ _ _ upd_same (Int.ediv_nonneg h0 (by omega)) h1 h1' h2 (x.put hb) (Int.emod_nonneg _ (by omega)) (Int.emod_lt_of_pos _ hn0)
        · -- begin
          refine ⟨_, rfl, b, _, 1, .int z1, rfl, rfl, SqL.of hb, rfl, z1, 1, rfl, rfl, z1 + 1, 39373, rfl, rfl, .inl ⟨by omega, by omega⟩, .inl ⟨_, rfl, _, 1000000007, rfl, rfl, (by show (0 : Int) < 1000000007; decide), ?_⟩⟩
          dsimp only
          have m0 : 0 ≤ (z1 + 1) * 39373 % 1000000007 := Int.emod_nonneg _ (by decide)
          have m1 : (z1 + 1) * 39373 % 1000000007 < 1000000007 := Int.emod_lt_of_pos _ (by decide)
          generalize (z1 + 1) * 39373 % 1000000007 = m at m0 m1 ⊢
          refine ⟨_, rfl, _, rfl, m, m, rfl, rfl, .inl ⟨by omega, by omega⟩, .inl ⟨_, rfl, _, 998244353, rfl, rfl, (by show (0 : Int) < 998244353; decide), m * m % 998244353, 30011, rfl, rfl, .inr ⟨by decide, by decide⟩, .inl ⟨_, rfl, _, 998244353, rfl, rfl, (by show (0 : Int) < 998244353; decide), ?_⟩⟩⟩
          refine ⟨_, rfl, _, 7, rfl, rfl, ⟨by decide, by decide⟩, .inl ⟨_, rfl, _, rfl, _, n, rfl, rfl, hn0, ?_⟩⟩
          exact fin _ _ _ _ _ hb h0 h1 h1' h2 x (Int.emod_nonneg _ (by omega)) (Int.emod_lt_of_pos _ hn0)
abbrev sp__law_alike (K : PySem.W.Frag) : Sp := spAlike K
theorem ok__law_alike {A : Around} (T : Txt K mg) (hg : A.guards = some []) (hr0 : Room 1 A) : FnAt A P w K mg base T.f__law_alike T.g__law_alike ["found", "due"] (sp__law_alike K) := by
  refine fn_at (k := 0) T.d__law_alike.fn sc__law_alike (fun vs H Q E h => ?_) hr0 (fun cdv outer s H vs Q E hr h => ?_)
  · exact h.1
  · have nd := nd__law_alike
    refine ⟨_, (pss_one (ps_ret (pe_and (pe_cmpR (r := rEqD K) (op_eqD hr.units) (pv 0) (pv 1) (nomark _)) (pe_one (pe_cmpR op_eq (pe_callB (id := "repr") (r := Dl.rRepr K) (Dl.cr_repr hg hr.units) (by rfl) T.b_repr (by decide +kernel) (pa_cons (pv 0) pa_nil)) (pe_callB (id := "repr") (r := Dl.rRepr K) (Dl.cr_repr hg hr.units) (by rfl) T.b_repr (by decide +kernel) (pa_cons (pv 1) pa_nil)) (nomark _)))))), ?_⟩
    exact alike_read h rfl
abbrev sp__law_gcd (K : PySem.W.Frag) : Sp := spR K 2 (fun l => ∃ n d : Int, l = [.int n, .int d] ∧ 0 ≤ n ∧ 0 ≤ d) (fun l x => ∃ n d : Int, l = [.int n, .int d] ∧ x = .int (gI n d))
theorem ok__law_gcd (T : Txt K mg) : FnOk P w K mg base CX0 1 T.f__law_gcd T.g__law_gcd ["one", "other"] (sp__law_gcd K) := by
  refine T.d__law_gcd.fn.ok sc__law_gcd (fun vs H Q E h => ?_) (fun cdv A outer s H vs Q E hr h => ?_)
  · exact spR_len h
  · have nd := nd__law_gcd
    refine ⟨_, (pss_cons (ps_while PassesOwn.never (pt_cmpR op_gt (pv 1) pe_int (nomark _)) (pss_one (ps_par (i := 0) (j := 1) rfl nd rfl rfl (by decide) rfl rfl (pa_cons (pv 1) (pa_cons (pe_op op_mod (pe_callTy (T := "int") (r := Dl.rInt1) call_int1 (by rfl) T.b_int (by decide +kernel) (pa_cons (pv 0) pa_nil)) (pv 1)) pa_nil)) (by with_unfolding_all rfl))))
      (pss_one (ps_ret (pv 0)))), ?_⟩
    obtain ⟨hl, ds, G, sG, da, dm, k⟩ := h
    obtain ⟨n, d, rfl, n0, d0⟩ := dm
    cases da with
    | cons p q =>
      cases q with
      | cons p' q =>
        cases q; cases p; cases p'
        refine seq_via (fun σ' H' => σ' = [some (.int (gI n d)), some (.int 0)] ∧ H' = H) (fun N hN => ?_) ?_
        · refine while_by (fun σ' H' => ∃ x y : Int, σ' = [some (.int x), some (.int y)] ∧ 0 ≤ x ∧ 0 ≤ y ∧ gI x y = gI n d ∧ H' = H) (fun σ' _ => match σ' with | [_, some (.int y)] => y.toNat | _ => 0) ⟨n, d, rfl, n0, d0, rfl, rfl⟩ ?_ ?_
          · rintro σ' H' ⟨x, y, rfl, x0, y0, e, rfl⟩
            refine ⟨_, rfl, _, _, rfl, rfl, _, rfl, ?_⟩
            refine ite2 (fun hc => ?_) (fun hc => ?_)
            · have hy : 0 < y := of_decide_eq_true hc
              refine ⟨_, rfl, _, rfl, .inl ⟨x, rfl, _, rfl, x, y, rfl, rfl, hy, _, _, rfl, ?_⟩⟩
              refine ⟨⟨y, x % y, rfl, y0, Int.emod_nonneg _ (by omega), ?_, rfl⟩, ?_⟩
              · rw [← e]
                unfold gI
                have e1 : (x % y).natAbs = x.natAbs % y.natAbs := by
                  obtain ⟨m, rfl⟩ := Int.eq_ofNat_of_zero_le x0
                  obtain ⟨q, rfl⟩ := Int.eq_ofNat_of_zero_le y0
                  exact congrArg Int.natAbs (Int.natCast_emod m q).symm
                rw [e1, Nat.gcd_comm y.natAbs, ← Nat.gcd_rec, Nat.gcd_comm]
              · show (x % y).toNat < y.toNat
                have := Int.emod_lt_of_pos x hy
                have := Int.emod_nonneg x (show y ≠ 0 by omega)
                omega
            · have hy : y = 0 := by
                have : ¬ 0 < y := fun z => hc (decide_eq_true z)
                omega
              subst hy
              refine hN _ _ ⟨?_, rfl⟩
              rw [← e]
              unfold gI
              rw [show (0 : Int).natAbs = 0 from rfl, Nat.gcd_zero_right]
              congr 3
              omega
          · rintro σ H Q Q' m ⟨v, e1, i, j, e2, e3, c, e4, q⟩
            exact ⟨v, e1, i, j, e2, e3, c, e4, m _ _ q⟩
        · rintro σ' H' ⟨rfl, rfl⟩
          exact ⟨_, rfl, k _ _ G _ (Grow.refl sG) (.int _) ⟨n, d, rfl, rfl⟩⟩
abbrev sp__law_places (K : PySem.W.Frag) : Sp := spV K 0 (fun x : FrX => x.R K) (fun x ds => x.ok ∧ ds = []) (fun x ds d => d = plD (plL x.cs x.gs))
theorem ok__law_places (T : Txt K mg) : FnOk P w K mg base CX0 1 T.f__law_places T.g__law_places ["frame"] (sp__law_places K) := by
  refine T.d__law_places.fn.ok sc__law_places (fun vs H Q E h => ?_) (fun cdv A outer s H vs Q E hr h => ?_)
  · exact spV_len h
  · have nd := nd__law_places
    refine ⟨_, (pss_one (ps_ret (pe_lc (own := [("group", 1)]) (g := gName 1) rfl nd (Dl.pi_tupK (K := K) (pe_ix (r := rIxT K) ix_tup (pv 0) pe_int (fun _ _ => rfl))) (blkOk_by (own := [("group", 1)]) (N := N__law_places) (sc := defScope s__law_places) (by decide +kernel)) (fun _ _ _ _ _ => (pg_name (i := 1) nd rfl (Or.inl rfl))) (fun _ _ _ _ _ => pts_nil) (fun _ _ _ _ _ => (pe_lc (own := [("cell", 2)]) (g := gName 2) rfl nd (Dl.pi_tupK (K := K) (pv 1)) (Dl.blkOk_in (blkOk_by (own := [("cell", 2)]) (N := N__law_places) (by decide +kernel))) (fun _ _ _ _ _ => (pg_name (i := 2) nd rfl (Or.inl rfl))) (fun _ _ _ _ _ => pts_nil) (fun _ _ _ _ _ => (Dl.pe_bmF (r := Dl.rTIx K) PySem.F.plainAttrs_tuple PySem.F.slot_tuple_index PySem.F.type_tuple_index mt_tup_index (pe_ix (r := rIxT K) ix_tup (pv 0) pe_int (fun _ _ => rfl)) (pa_cons (pv 2) pa_nil)))))))), ?_⟩
    obtain ⟨v, ws, rfl, hl, x, ds, G, sG, u, da, ⟨F, rfl⟩, k⟩ := h
    have A := at_pureV (N := N__law_places) sG u da (by rw [hl]; decide)
    have F : FrW x.cs x.gs x.fs x.w := F
    have gl := F.gl
    refine s_ret A (ev_newI (en_decA (enc := fun g => .tuple (sTs g)) (L := x.gs) (g := fun g => .list (natL (g.map x.cs.idxOf))) (f := fun y env => env.set 1 (.d y)) tupS_inj (ei_tup (l := gsD x.gs) (ev_ixT (ev_fr (evu_var rfl)) ev_int rfl)).g (by omega) (fun a _ => tg_name (by decide)) (fun g hg => ?_))) (fun v d G' H' g j p e => k v d G' H' g.nob p ?_)
    · refine ev_is (ev_newI (en_decA (enc := .str) (L := g) (g := fun c => .int (x.cs.idxOf c : Nat)) (f := fun y env => env.set 2 (.d y)) (fun _ _ => str_inj) (ei_tup (l := sTs g) (ev_var rfl)).g (by have := F.gg hg; omega) (fun a _ => tg_name (by decide)) (fun c hc => ev_tIdx (evu_cells (evu_var rfl)) (ev_var rfl) ((F.ps g hg).2.subset hc)))) ?_
      unfold natL
      rw [List.map_map]
      rfl
    · show d = plD (plL x.cs x.gs)
      rw [e]
      unfold plD plL
      rw [List.map_map]
      rfl
abbrev sp__law_moves (K : PySem.W.Frag) : Sp := spR K 1 dMvl rMvl
theorem ok__law_moves (T : Txt K mg) : FnOk P w K mg base CX0 1 T.f__law_moves T.g__law_moves ["vector"] (sp__law_moves K) := by
  refine T.d__law_moves.fn.ok sc__law_moves (fun vs H Q E h => ?_) (fun cdv A outer s H vs Q E hr h => ?_)
  · exact spR_len h
  · have nd := nd__law_moves
    refine ⟨_, (pss_one (ps_ret (pe_lc (own := [("at", 1), ("one", 2)]) (g := gTup K 2 (gCons (gName 1) (gCons (gName 2) gNil))) rfl nd (Dl.pi_enumK (K := K) rfl T.b_enumerate (pa_cons (pv 0) pa_nil)) (blkOk_by (own := [("at", 1), ("one", 2)]) (N := N__law_moves) (sc := defScope s__law_moves) (by decide +kernel)) (fun _ _ _ _ _ => (pg_tup rfl (pgs_cons (pg_name (i := 1) nd rfl (Or.inl rfl)) (pgs_cons (pg_name (i := 2) nd rfl (Or.inl rfl)) pgs_nil)))) (fun _ _ _ _ _ => (pts_one (pt_cmpR (r := Dl.rNotInT K) (Dl.op_notInT (Dl.units65 hr)) (pv 2) (pe_tup (pa_cons pe_int (pa_cons (pe_tup (pa_cons pe_int (pa_cons pe_int pa_nil))) pa_nil))) (by with_unfolding_all rfl)))) (fun _ _ _ _ _ => (pv 1))))), ?_⟩
    obtain ⟨hl, ds, G, sG, da, dm, k⟩ := h
    obtain ⟨zs, rfl, lz, cz⟩ := dm
    have A := at_pure (N := N__law_moves) sG da (by rw [hl]; decide)
    refine s_ret A (ev_newI (en_dec (enc := encEn encQ) (L := zs.zipIdx) (t := fun x => !decide (x.1.1 = 0)) (g := fun x => .int (x.2 : Nat)) (f := setPair 1 2) (encEn_inj encQ_inj) (evg_is (ei_enumB (ea_cons (ev_var rfl) ea_nil) .t) (enumL_map encQ zs)) (by rw [List.length_zipIdx]; omega) (fun a _ => tg_pair (by decide) (by decide)) (fun a ha => ?_) (fun a _ _ => ev_var rfl))) (fun v x G' H' g j p e => k v x G' H' g.nob p fun zs2 e2 => ?_)
    · have hc : Cq a.1 := cz _ (List.fst_mem_of_mem_zipIdx ha)
      refine et_imp (et_T (ev_notInT (d := encQ a.1) (ds := [.int 0, .tuple [.int 0, .int 1]]) (ev_var rfl) (ev_tup (ea_cons ev_int (ea_cons (ev_tup (ea_cons ev_int (ea_cons ev_int ea_nil)) (by show 2 ≤ 1000; decide)) ea_nil)) (by show 2 ≤ 1000; decide)) (lay_frD.sh (by decide)) (by decide +kernel))) fun c hc2 => ?_
      rw [hc2]
      show (!_) = !_
      congr 1
      exact (eqv_nought _ _).trans (decide_eq_decide.mpr (cq_nought hc))
    · simp only [List.cons.injEq, and_true] at e2
      rw [e, ← stT_inj e2]
      unfold natL mvs
      rw [List.map_map]
      rfl
abbrev sp_places_of (K : PySem.W.Frag) : Sp := spR K 2 dPlo rPlo
theorem ok_places_of (T : Txt K mg) : FnOk P w K mg base CX0 2 T.f_places_of T.g_places_of ["frame", "lot"] (sp_places_of K) := by
  refine T.d_places_of.fn.ok sc_places_of (fun vs H Q E h => ?_) (fun cdv A outer s H vs Q E hr h => ?_)
  · exact spR_len h
  · have nd := nd_places_of
    refine ⟨_, (pss_one (ps_ret (Dl.pc T.d_places_of_cells (ok_places_of_cells T) (hr.mono (by decide)) rfl (pa_cons (pv 0) (pa_cons (pe_lc2 (own := [("index", 2), ("cell", 3)]) (vs1 := [3]) (g := gName 2) (g1 := gName 3) rfl nd (Dl.pi_tupK (K := K) (pv 1)) (blkOk_by (own := [("index", 2), ("cell", 3)]) (N := N_places_of) (sc := defScope s_places_of) (by decide +kernel)) (by decide) (fun _ _ _ _ _ => (pg_name (i := 2) nd rfl (Or.inl rfl))) (fun _ _ _ _ _ => pts_nil) (fun _ _ _ _ _ => (Dl.pi_tupK (K := K) (pe_ix (r := rIxT K) ix_tup (pe_ix (r := rIxT K) ix_tup (pv 0) pe_int (fun _ _ => rfl)) (pv 2) (fun _ _ => rfl)))) (fun _ _ _ _ _ => (pg_name (i := 3) nd rfl (Or.inl rfl))) (fun _ _ _ _ _ => pts_nil) (fun _ _ _ _ _ => (pv 3))) pa_nil))))), ?_⟩
    obtain ⟨hl, ds, G, sG, da, dm, k⟩ := h
    obtain ⟨cs, gs, fs, w, l, rfl, F, hb, ll⟩ := dm
    have A := at_pure (N := N_places_of) sG da (by rw [hl]; decide)
    have ez : (l.flatMap fun a => (gs.getD a []).map PyData.str) = sTs (cellsOf gs l) := by
      unfold sTs cellsOf
      rw [List.map_flatMap]
    have hz : (l.flatMap fun a => (gs.getD a []).map PyData.str).length ≤ 1000 := by
      have go : ∀ l : List Nat, (l.flatMap fun a => (gs.getD a []).map PyData.str).length ≤ 12 * l.length := by
        intro l
        induction l with
        | nil => simp
        | cons a l ih =>
          rw [List.flatMap_cons, List.length_append, List.length_map, List.length_cons]
          have : (gs.getD a []).length ≤ 12 := by
            rw [List.getD_eq_getElem?_getD]
            cases q : gs[a]? with
            | none => simp
            | some g => exact F.gg (List.mem_of_getElem? q)
          omega
      have := go l
      omega
    refine s_ret A (ev_imp (ev_callR (Pl := Is [frTp cs gs fs w, .list (sTs (cellsOf gs l))]) (ea_cons (ev_var rfl) (ea_cons (ev_is (ev_newI (en_lc2 (enc := fun i : Nat => .int (i : Nat)) (en2 := .str) (L := l) (M := fun a => gs.getD a []) (g := fun _ c => .str c) (f := fun y env => env.set 2 (.d y)) (f1 := fun y env => env.set 3 (.d y)) (ei_tup (ev_var rfl)) (fun a _ => tg_name (by decide)) (fun a ha => ?_) (fun a _ c _ => tg_name (by decide)) (fun a _ c _ => ev_var rfl) hz)) (by rw [ez])) ea_nil)) fun ds e => ⟨by rw [e]; rfl, _, _, _, _, _, _, e, F, .l⟩) fun d h => h) (fun v x G' H' g j p ⟨ds, e1, e⟩ => k v x G' H' g.nob p fun cs2 gs2 fs2 w2 l2 e2 => ?_)
    · have ha2 := hb a ha
      have eg : gs.getD a [] = gs[a] := by rw [List.getD_eq_getElem?_getD, List.getElem?_eq_getElem ha2]; rfl
      refine ei_tup (ev_ixT (ds := gsD gs) (ev_ixT (ev_var rfl) ev_int rfl) (ev_var rfl) ?_)
      refine atI_nat ?_
      unfold gsD
      rw [List.getElem?_map, List.getElem?_eq_getElem ha2, eg]
      rfl
    · simp only [List.cons.injEq, and_true, PyData.tuple.injEq] at e2
      obtain ⟨h1, h2, h3, h4⟩ := frTp_inj e2.1
      have := natL_inj e2.2
      subst this h1 h2 e1
      exact e _ _ _ _ _ _ rfl .l
abbrev sp_added_places (K : PySem.W.Frag) : Sp := spR K 1 dAdd rAdd
theorem ok_added_places (T : Txt K mg) : FnOk P w K mg base CX0 2 T.f_added_places T.g_added_places ["frame"] (sp_added_places K) := by
  refine T.d_added_places.fn.ok sc_added_places (fun vs H Q E h => ?_) (fun cdv A outer s H vs Q E hr h => ?_)
  · exact spR_len h
  · have nd := nd_added_places
    refine ⟨_, (pss_one (ps_ret (Dl.pc T.d_places_of_cells (ok_places_of_cells T) (hr.mono (by decide)) rfl (pa_cons (pv 0) (pa_cons (pe_ix (r := rIxT K) ix_tup (pv 0) pe_int (fun _ _ => rfl)) pa_nil))))), ?_⟩
    obtain ⟨hl, ds, G, sG, da, dm, k⟩ := h
    obtain ⟨cs, gs, fs, w, rfl, F⟩ := dm
    have A := at_pure (N := N_added_places) sG da (by rw [hl]; decide)
    refine s_ret A (ev_callR (Pl := Is [frTp cs gs fs w, .tuple (sTs fs)]) (ea_cons (ev_var rfl) (ea_cons (ev_ixT (ev_var rfl) ev_int rfl) ea_nil)) fun ds e => ⟨by rw [e]; rfl, _, _, _, _, _, _, e, F, .t⟩) (fun v x G' H' g j p ⟨ds, e1, e⟩ => k v x G' H' g.nob p fun cs2 gs2 fs2 w2 e2 => ?_)
    simp only [List.cons.injEq, and_true] at e2
    obtain ⟨h1, h2, h3, h4⟩ := frTp_inj e2
    subst h1 h3 e1
    exact e _ _ _ _ _ _ rfl .t
abbrev sp_touched (K : PySem.W.Frag) : Sp := spR K 2 dTch rTch
theorem ok_touched (T : Txt K mg) : FnOk P w K mg base CX0 2 T.f_touched T.g_touched ["frame", "vector"] (sp_touched K) := by
  refine T.d_touched.fn.ok sc_touched (fun vs H Q E h => ?_) (fun cdv A outer s H vs Q E hr h => ?_)
  · exact spR_len h
  · have nd := nd_touched
    refine ⟨_, (pss_cons (ps_setLc (i := 2) (own := [("place", 4)]) (g := gName 4) rfl nd rfl rfl (sw_true rfl rfl rfl (by decide +kernel)) (Dl.pi_tupK (K := K) (Dl.pc T.d_moved (ok_moved T) (hr.mono (by decide)) rfl (pa_cons (pv 1) pa_nil))) (blkOk_by (own := [("place", 4)]) (N := N_touched) (sc := defScope s_touched) (by decide +kernel)) (fun _ _ _ _ _ => (pg_name (i := 4) nd rfl (Or.inl rfl))) (fun _ _ _ _ _ => pts_nil) (fun _ _ _ _ _ => (pe_ix (r := rIxT K) ix_tup (pe_ix (r := rIxT K) ix_tup (pv 0) pe_int (fun _ _ => rfl)) (pv 4) (fun _ _ => rfl))))
      (pss_cons (ps_set (i := 3) nd rfl (Or.inr rfl) (pe_lc (own := [("cell", 5)]) (g := gName 5) rfl nd (Dl.pi_listK (K := K) (pv 2)) (blkOk_by (own := [("cell", 5)]) (N := N_touched) (sc := defScope s_touched) (by decide +kernel)) (fun _ _ _ _ _ => (pg_name (i := 5) nd rfl (Or.inl rfl))) (fun _ _ _ _ _ => pts_nil) (fun _ _ _ _ _ => (Dl.pc T.d_group_of (ok_group_of T) (hr.mono (by decide)) rfl (pa_cons (pv 0) (pa_cons (pv 5) pa_nil))))))
      (pss_one (ps_ret (pe_callTy (T := "tuple") (r := Dl.rTupOf K) call_tuple_of (by rfl) T.b_tuple (by decide +kernel) (pa_cons (pe_lc (own := [("index", 6)]) (g := gName 6) rfl nd (pi_range1 rfl T.b_range (pa_cons (pe_callB (id := "len") (r := Dl.rLen K) call_len_seq (by rfl) T.b_len (by decide +kernel) (pa_cons (pe_ix (r := rIxT K) ix_tup (pv 0) pe_int (fun _ _ => rfl)) pa_nil)) pa_nil)) (blkOk_by (own := [("index", 6)]) (N := N_touched) (sc := defScope s_touched) (by decide +kernel)) (fun _ _ _ _ _ => (pg_name (i := 6) nd rfl (Or.inl rfl))) (fun _ _ _ _ _ => (pts_one (pt_cmpR (r := rIn K false) op_in_seq (pv 6) (pv 3) (by with_unfolding_all rfl)))) (fun _ _ _ _ _ => (pv 6))) pa_nil)))))), ?_⟩
    obtain ⟨hl, ds, G, sG, da, dm, k⟩ := h
    obtain ⟨cs, gs, fs, w, zs, rfl, F, lz⟩ := dm
    have A := at_pure (N := N_touched) sG da (by rw [hl]; decide)
    have ml := mvs_len zs
    have cl := F.le
    refine q_asg A (ev_newI (en_decA (enc := fun i : Nat => .int (i : Nat)) (L := mvs zs) (g := fun p => .str (cs.getD p "")) (f := fun y env => env.set 4 (.d y)) nat_inj (fun σ G H e s j R k => (ei_tup (l := natL (mvs zs)) (ev_imp (ev_callR (Pl := Is [stT zs]) (ea_cons (ev_var rfl) ea_nil) fun ds e => ⟨by rw [e]; rfl, zs, e, by omega⟩) fun d ⟨ds, e1, e⟩ => e zs e1)).g σ G H e s j R k) (by omega) (fun a _ => tg_name (by decide)) (fun a ha => ?_))) fun w2 σ1 G1 H1 e A1 => ?_
    · have hp := (mvs_mem.mp ha).1
      refine ev_ixT (ds := sTs cs) (ev_ixT (ev_var rfl) ev_int rfl) (ev_var rfl) (atI_nat ?_)
      unfold sTs
      rw [List.getElem?_map, List.getElem?_eq_getElem (by omega), List.getD_eq_getElem?_getD, List.getElem?_eq_getElem (by omega)]
      rfl
    · subst e
      refine q_asg A1 (ev_newI (en_decA (enc := .str) (L := (mvs zs).map fun p => cs.getD p "") (g := fun c => flD (gO (grp gs c))) (f := fun y env => env.set 5 (.d y)) (fun _ _ => str_inj) (evg_is (ei_list (ev_var rfl)) (by rw [List.map_map]; rfl)) (by rw [List.length_map]; omega) (fun a _ => tg_name (by decide)) (fun a ha => ?_))) fun w3 σ2 G2 H2 e A2 => ?_
      · exact ev_imp (ev_callR (Pl := Is [frTp cs gs fs w, .str a]) (ea_cons (ev_var rfl) (ea_cons (ev_var rfl) ea_nil)) fun ds e => ⟨by rw [e]; rfl, _, _, _, _, _, e, F⟩) fun d ⟨ds, e1, e⟩ => e _ _ _ _ _ e1
      · subst e
        have e3 : (((mvs zs).map fun p => cs.getD p "").map fun c => flD (gO (grp gs c))) = ((mvs zs).map fun p => gO (grp gs (cs.getD p ""))).map flD := by
          rw [List.map_map, List.map_map]; rfl
        refine s_ret A2 (ev_tupNI (en_dec (enc := fun i : Nat => .int (i : Nat)) (L := List.range gs.length) (t := fun i => decide (i ∈ tch cs gs zs)) (g := fun i => .int (i : Nat)) (f := fun y env => env.set 6 (.d y)) nat_inj (evg_is (ei_rng (n := (gs.length : Nat)) (ea_cons (ev_is (ev_cb (ea_cons (ev_ixT (ev_var rfl) ev_int (d := .tuple (gsD gs)) rfl) ea_nil) rc_lenT) (by unfold gsD; rw [List.length_map])) ea_nil) (by have := F.gl; omega)) (intL_eq gs.length)) (by rw [List.length_range]; have := F.gl; omega) (fun a _ => tg_name (by decide)) (fun i hi => ?_) (fun i _ _ => ev_var rfl))) (fun v x G' H' g j p e => k v x G' H' g.nob p fun cs2 gs2 fs2 w2 zs2 e2 => ?_)
        · have hi2 := List.mem_range.mp hi
          refine et_imp (et_T (ev_inF (neg := false) (x := gO (some i)) (l := (mvs zs).map fun p => gO (grp gs (cs.getD p ""))) (ev_var rfl) (ev_var rfl) rfl (.inr (by rw [e3])))) fun c hc => ?_
          rw [hc]
          exact decide_eq_decide.mpr (tch_by F lz hi2)
        · simp only [List.cons.injEq, and_true] at e2
          obtain ⟨h1, h2, h3, h4⟩ := frTp_inj e2.1
          rw [e, ← h1, ← h2, ← stT_inj e2.2]
          have e5 : (List.range gs.length).filter (fun i => decide (i ∈ tch cs gs zs)) = tch cs gs zs := filt_self
          rw [e5]
          rfl
abbrev sp__law_some (K : PySem.W.Frag) : Sp := spB K 1 someDom someR
theorem ok__law_some (T : Txt K mg) : FnOk P w K mg base CX0 2 T.f__law_some T.g__law_some ["bag", "things"] (sp__law_some K) := by
  refine T.d__law_some.fn.ok sc__law_some (fun vs H Q E h => ?_) (fun cdv A outer s H vs Q E hr h => ?_)
  · exact spB_len h
  · have nd := nd__law_some
    refine ⟨_, (pss_one (ps_ret (pe_ix (r := rIxL K) ix_list (pv 1) (Dl.pc T.d__law_take (ok__law_take T) (hr.mono (by decide)) rfl (pa_cons (pv 0) (pa_cons (pe_callB (id := "len") (r := Dl.rLen K) call_len_seq (by rfl) T.b_len (by decide +kernel) (pa_cons (pv 1) pa_nil)) pa_nil))) (fun _ _ => rfl)))), ?_⟩
    obtain ⟨x, ws, rfl, hl, ds, G, sG, bg, da, dm, k⟩ := h
    obtain ⟨l, rfl, ne, ll⟩ := dm
    have A := at_bag (N := N__law_some) sG bg da (by rw [hl]; decide)
    have lp : 0 < l.length := by cases l with
      | nil => exact absurd rfl ne
      | cons y l => simp
    refine s_ret A (ev_ixLx (C := fun i => 0 ≤ i ∧ i < (l.length : Int)) (ev_var rfl) (ev_imp (ev_callB rfl rfl (ea_cons (ev_cb (ea_cons (ev_var rfl) ea_nil) rc_lenL) ea_nil) fun ds e => ⟨by rw [e]; rfl, _, e, by omega, by omega⟩) ?_) fun i h => h) (fun v d G' H' g j p e => k v d G' H' g (j.bag _ rfl) p ⟨l, rfl, e⟩)
    rintro d ⟨ds, e1, n, r, e2, e3, r0, r1⟩
    rw [e1] at e2
    cases e2
    exact ⟨r, e3, r0, r1⟩
abbrev sp__law_mixed (K : PySem.W.Frag) : Sp := spB K 1 mixDom mixR
theorem ok__law_mixed (T : Txt K mg) : FnOk P w K mg base CX0 2 T.f__law_mixed T.g__law_mixed ["bag", "things"] (sp__law_mixed K) := by
  refine T.d__law_mixed.fn.ok sc__law_mixed (fun vs H Q E h => ?_) (fun cdv A outer s H vs Q E hr h => ?_)
  · exact spB_len h
  · have nd := nd__law_mixed
    refine ⟨_, (pss_cons (ps_set (i := 2) nd rfl (Or.inl rfl) (pe_lst pa_nil))
      (pss_cons (ps_for PassesOwn.never rfl (Dl.pi_listK (K := K) (pv 1)) (pg_name (i := 3) nd rfl (Or.inl rfl)) (pss_one (ps_expr (pe_bm PySem.F.plainAttrs_list PySem.F.slot_list_insert PySem.F.type_list_insert mt_insert (pv 2) (pa_cons (Dl.pc T.d__law_take (ok__law_take T) (hr.mono (by decide)) rfl (pa_cons (pv 0) (pa_cons (pe_op op_add (pe_callB (id := "len") (r := Dl.rLen K) call_len_seq (by rfl) T.b_len (by decide +kernel) (pa_cons (pv 2) pa_nil)) pe_int) pa_nil))) (pa_cons (pv 3) pa_nil))))))
      (pss_one (ps_ret (pv 2))))), ?_⟩
    obtain ⟨x, ws, rfl, hl, ds, G, sG, bg, da, dm, k⟩ := h
    obtain ⟨l, rfl, ll⟩ := dm
    have A := at_bag (N := N__law_mixed) sG bg da (by rw [hl]; decide)
    refine q_asgM A (en_lstP ea_nil fun l e => by rw [e]; decide) fun f ds σ1 G1 H1 e nb A1 => ?_
    subst e
    refine q_for A1 (Pl := Is l) (f := fun y env => env.set 3 (.d y)) (vs := [3]) (ei_list (ev_var rfl)) (fun l' _ y _ => tg_name (by decide))
      (fun l' i env' ms' => ∃ (m : List PyData) (s3 : Sl), env' = [.a x, .d (.list l), .a f, s3] ∧ ms' = [(f, m.map .d)] ∧ m.Perm (l.take i) ∧ i ≤ l.length) (fun l' e => ⟨[], .un, rfl, rfl, by simp, Nat.zero_le _⟩) ?_ ?_
    · rintro l' i y env' ms' Gt σ2 G2 H2 rfl hy ⟨m, s3, rfl, rfl, pm, hi⟩ A2 nx hnx
      have il : i < l'.length := (List.getElem?_eq_some_iff.mp hy).1
      have ml : m.length = i := by rw [pm.length_eq, List.length_take]; omega
      refine s_ins (n := 0) (C := fun z => 0 ≤ z ∧ z ≤ (m.length : Int)) A2 rfl rfl (ev_imp (ev_callB rfl rfl (ea_cons (ev_I0 (ev_lenM (n := 0) rfl rfl) ev_int) ea_nil) fun ds e => ⟨by rw [e]; rfl, _, e, by omega, ?_⟩) ?_) (fun z h => by omega) (ev_var rfl) (by rw [List.length_map]; omega) ?_
      · rw [List.length_map]; omega
      · rintro d ⟨ds, e1, n, r, e2, e3, r0, r1⟩
        rw [e1] at e2
        have e4 : ((m.map Sl.d).length : Int) + 1 = n := by injection e2 with e5; injection e5
        rw [List.length_map] at e4
        exact ⟨r, e3, r0, by omega⟩
      · rintro z d G3 H3 hz ed A3
        subst ed
        refine hnx _ _ _ _ _ ⟨m.take z.toNat ++ [d] ++ m.drop z.toNat, _, rfl, ?_, ?_, by omega⟩ A3
        · simp [List.map_append, List.map_take, List.map_drop]
        · rw [List.take_add_one, hy]
          have h1 : (m.take z.toNat ++ [d] ++ m.drop z.toNat).Perm (m.take z.toNat ++ m.drop z.toNat ++ [d]) := by
            rw [List.append_assoc, List.append_assoc]
            exact List.Perm.append_left _ List.perm_append_comm
          rw [List.take_append_drop] at h1
          exact h1.trans (pm.append_right _)
    · rintro l' env' ms' σ2 G2 H2 rfl ⟨m, s3, rfl, rfl, pm, hi⟩ A2
      rw [List.take_length] at pm
      exact s_retM (n := 0) A2 rfl rfl fun v G3 H3 g bgs p => k v _ G3 H3 g (bgs _ rfl) p ⟨l', m, rfl, rfl, pm⟩
abbrev sp__law_fr (K : PySem.W.Frag) : Sp := spR K 2 dFracW (fun l x => x = fFrac l)
theorem ok__law_fr (T : Txt K mg) : FnOk P w K mg base CX0 2 T.f__law_fr T.g__law_fr ["num", "den"] (sp__law_fr K) := by
  refine T.d__law_fr.fn.ok sc__law_fr (fun vs H Q E h => ?_) (fun cdv A outer s H vs Q E hr h => ?_)
  · exact spR_len h
  · have nd := nd__law_fr
    refine ⟨_, (pss_cons (ps_asg (pe_ifExp (pt_cmpR op_lt (pv 1) pe_int (nomark _)) (pe_tup (pa_cons (pe_un un_neg (pv 0)) (pa_cons (pe_un un_neg (pv 1)) pa_nil))) (pe_tup (pa_cons (pv 0) (pa_cons (pv 1) pa_nil)))) (pg_tup rfl (pgs_cons (pg_name (i := 0) nd rfl (Or.inl rfl)) (pgs_cons (pg_name (i := 1) nd rfl (Or.inl rfl)) pgs_nil))))
      (pss_cons (ps_set (i := 2) nd rfl (Or.inl rfl) (Dl.pc T.d__law_gcd (ok__law_gcd T) (hr.mono (by decide)) rfl (pa_cons (pe_callB (id := "abs") (r := Dl.rAbs) call_abs (by rfl) T.b_abs (by decide +kernel) (pa_cons (pv 0) pa_nil)) (pa_cons (pv 1) pa_nil))))
      (pss_one (ps_ret (pe_tup (pa_cons (pe_op op_fdivW (pe_callTy (T := "int") (r := Dl.rInt1) call_int1 (by rfl) T.b_int (by decide +kernel) (pa_cons (pv 0) pa_nil)) (pv 2)) (pa_cons (pe_op op_fdivW (pe_callTy (T := "int") (r := Dl.rInt1) call_int1 (by rfl) T.b_int (by decide +kernel) (pa_cons (pv 1) pa_nil)) (pv 2)) pa_nil))))))), ?_⟩
    obtain ⟨hl, ds, G, sG, da, dm, k⟩ := h
    obtain ⟨n, d, rfl, d0, db⟩ := dm
    have A := at_pure (N := N__law_fr) sG da (by rw [hl]; decide)
    have hu : EvP K [.d (.int n), .d (.int d), .un] none [] (tIf (tTest (tOp (rI0 fun i j => .bl (decide (i < j))) (tVar 1) (tC (.int 0)))) (tTup (tCons (tUn (rU fun i => .int (-i)) (tVar 0)) (tCons (tUn (rU fun i => .int (-i)) (tVar 1)) tNil))) (tTup (tCons (tVar 0) (tCons (tVar 1) tNil))))
        (Is (.tuple [.int (if d < 0 then -n else n), .int (if d < 0 then -d else d)])) := by
      refine ev_if (et_T (ev_B0 (ev_var rfl) ev_int)) (fun hc => ?_) (fun hc => ?_)
      · have hd : d < 0 := of_decide_eq_true hc.symm
        rw [if_pos hd, if_pos hd]
        exact ev_tup (ea_cons (ev_un (ev_var rfl)) (ea_cons (ev_un (ev_var rfl)) ea_nil)) (by decide : 2 ≤ 1000)
      · have hd : ¬ d < 0 := of_decide_eq_false hc.symm
        rw [if_neg hd, if_neg hd]
        exact ev_tup (ea_cons (ev_var rfl) (ea_cons (ev_var rfl) ea_nil)) (by decide : 2 ≤ 1000)
    refine q_unp A hu (fun x e => ⟨_, _, e⟩) fun x y σ1 G1 H1 e A1 => ?_
    cases e
    have dp : 0 < (if d < 0 then -d else d) := by split <;> omega
    have ab : (if (if d < 0 then -n else n) < 0 then -(if d < 0 then -n else n) else (if d < 0 then -n else n)) = (n.natAbs : Int) := by split <;> split at * <;> omega
    refine q_asg A1 (ev_callR (ea_cons (ev_cb (ea_cons (ev_var rfl) ea_nil) rc_abs) (ea_cons (ev_var rfl) ea_nil)) fun l e => ⟨by rw [e]; rfl, _, _, e, by rw [ab]; omega, by omega⟩) fun x σ2 G2 H2 e A2 => ?_
    obtain ⟨l, e1, n', d', e2, e3⟩ := e
    rw [e1] at e2
    cases e2
    have eg : gI (if (if d < 0 then -n else n) < 0 then -(if d < 0 then -n else n) else (if d < 0 then -n else n)) (if d < 0 then -d else d) = gI n d := by
      rw [ab]
      unfold gI
      have : (if d < 0 then -d else d).natAbs = d.natAbs := by split <;> omega
      rw [this]
      rfl
    rw [eg] at e3
    subst e3
    have g0 := gI_pos (n := n) d0
    have gl := gI_le (n := n) d0
    have cd : CDivW 0 (gI n d) := wide_div g0 (Nat.lt_of_le_of_lt gl db) (by decide) (by decide)
    exact s_ret A2 (ev_tup (ea_cons (ev_I (ev_cb (ea_cons (ev_var rfl) ea_nil) rc_int) (ev_var rfl) cd) (ea_cons (ev_I (ev_cb (ea_cons (ev_var rfl) ea_nil) rc_int) (ev_var rfl) cd) ea_nil)) (by decide : 2 ≤ 1000)) (fun v d G' H' g j p e => k v d G' H' g.nob p e)
abbrev sp__law_touched (K : PySem.W.Frag) : Sp := spV K 1 (fun x : FrX => x.R K) (fun x ds => x.ok ∧ ∃ zs, ds = [stT zs] ∧ zs.length = x.cs.length ∧ ∀ z ∈ zs, Cq z) (fun x ds d => ∀ zs, ds = [stT zs] → d = .tuple (natL (tch x.cs x.gs zs)))
theorem ok__law_touched (T : Txt K mg) : FnOk P w K mg base CX0 2 T.f__law_touched T.g__law_touched ["frame", "vector"] (sp__law_touched K) := by
  refine T.d__law_touched.fn.ok sc__law_touched (fun vs H Q E h => ?_) (fun cdv A outer s H vs Q E hr h => ?_)
  · exact spV_len h
  · have nd := nd__law_touched
    refine ⟨_, (pss_cons (ps_set (i := 2) nd rfl (Or.inr rfl) (Dl.pc T.d__law_moves (ok__law_moves T) (hr.mono (by decide)) rfl (pa_cons (pv 1) pa_nil)))
      (pss_one (ps_ret (pe_callTy (T := "tuple") (r := Dl.rTupOf K) call_tuple_of (by rfl) T.b_tuple (by decide +kernel) (pa_cons (pe_lc (own := [("index", 3), ("places", 4)]) (g := gTup K 2 (gCons (gName 3) (gCons (gName 4) gNil))) rfl nd (Dl.pi_enumK (K := K) rfl T.b_enumerate (pa_cons (Dl.pc T.d__law_places (ok__law_places T) (hr.mono (by decide)) rfl (pa_cons (pv 0) pa_nil)) pa_nil)) (blkOk_by (own := [("index", 3), ("places", 4)]) (N := N__law_touched) (sc := defScope s__law_touched) (by decide +kernel)) (fun _ _ _ _ _ => (pg_tup rfl (pgs_cons (pg_name (i := 3) nd rfl (Or.inl rfl)) (pgs_cons (pg_name (i := 4) nd rfl (Or.inl rfl)) pgs_nil)))) (fun _ _ _ _ _ => (pts_one (pt_cmpR (r := rNeD K) (op_neD hr.units) (pe_lc (own := [("at", 5)]) (g := gName 5) rfl nd (Dl.pi_listK (K := K) (pv 4)) (Dl.blkOk_in (blkOk_by (own := [("at", 5)]) (N := N__law_touched) (by decide +kernel))) (fun _ _ _ _ _ => (pg_name (i := 5) nd rfl (Or.inl rfl))) (fun _ _ _ _ _ => (pts_one (pt_cmpR (r := rIn K false) op_in_seq (pv 5) (pv 2) (by with_unfolding_all rfl)))) (fun _ _ _ _ _ => (pv 5))) (pe_lst pa_nil) (nomark _)))) (fun _ _ _ _ _ => (pv 3))) pa_nil))))), ?_⟩
    obtain ⟨v, ws, rfl, hl, x, ds, G, sG, u, da, ⟨F, zs, rfl, lz, cz⟩, k⟩ := h
    have A := at_pureV (N := N__law_touched) sG u da (by rw [hl]; decide)
    have F : FrW x.cs x.gs x.fs x.w := F
    have gl := F.gl
    have cl := F.le
    have ml := mvs_len zs
    refine q_asg A (ev_imp (ev_callR (Pl := Is [stT zs]) (ea_cons (ev_var rfl) ea_nil) fun ds e => ⟨by rw [e]; rfl, zs, e, by omega, cz⟩) fun d ⟨ds, e1, e⟩ => e zs e1) fun x2 σ1 G1 H1 e A1 => ?_
    subst e
    refine s_ret A1 (ev_tupNI (en_dec (enc := encEn fun q => .list (natL q)) (L := (plL x.cs x.gs).zipIdx) (t := fun y => !(y.1.filter fun p => decide (p ∈ mvs zs)).isEmpty) (g := fun y => .int (y.2 : Nat)) (f := setPair 3 4) (encEn_inj natLL_inj) (evg_is (ei_enumB (ea_cons (ev_imp (ev_callV2 (n := 0) (Pl := Is []) x (evu_var rfl) ea_nil fun ds e => ⟨by rw [e]; rfl, F, e⟩) fun d ⟨ds, _, e⟩ => e) ea_nil) .l) (enumL_map (fun q => .list (natL q)) (plL x.cs x.gs))) (by rw [List.length_zipIdx, plL_len]; omega) (fun a _ => tg_pair (by decide) (by decide)) (fun a ha => ?_) (fun a _ _ => ev_var rfl))) (fun v d G' H' g j p e => k v d G' H' g.nob p fun zs2 e2 => ?_)
    · have ha2 : a.1 ∈ plL x.cs x.gs := List.fst_mem_of_mem_zipIdx ha
      have al : a.1.length ≤ 12 := by
        obtain ⟨g, hg, e⟩ := List.mem_map.mp ha2
        rw [← e, List.length_map]
        exact F.gg hg
      refine et_imp (et_T (ev_neD (ev_newI (en_dec (enc := fun i : Nat => .int (i : Nat)) (L := a.1) (t := fun p => decide (p ∈ mvs zs)) (g := fun p => .int (p : Nat)) (f := fun y env => env.set 5 (.d y)) nat_inj (ei_list (l := natL a.1) (ev_var rfl)).g (by omega) (fun a _ => tg_name (by decide)) (fun p _ => et_T (ev_inN (neg := false) (ev_var rfl) (ev_var rfl) .l)) (fun p _ _ => ev_var rfl))) (ev_newI (en_lst ea_nil (by show 0 ≤ 1000; decide))) ((lay_list (layA_all (h := 0) fun x hx => by obtain ⟨_, _, rfl⟩ := List.mem_map.mp hx; exact lay_int)).sh (by decide)) sh_nilL)) fun c hc => ?_
      rw [hc, eqv_list0, List.isEmpty_map]
    · simp only [List.cons.injEq, and_true] at e2
      rw [e, ← stT_inj e2, ← tch_law F lz]
      unfold natL
      rw [List.map_map]
      rfl
abbrev sp__law_frame (K : PySem.W.Frag) : Sp := spBU K 1 frameDom (fun ds x => ∃ n : Nat, ds = [.int (n : Nat)] ∧ x.ok ∧ x.cs.length ≤ n) (fun x : FrX => x.R K)
theorem ok__law_frame (T : Txt K mg) : FnOk P w K mg base CX0 3 T.f__law_frame T.g__law_frame ["bag", "most"] (sp__law_frame K) := by
  refine T.d__law_frame.fn.ok sc__law_frame (fun vs H Q E h => ?_) (fun cdv A outer s H vs Q E hr h => ?_)
  · exact spBU_len h
  · have nd := nd__law_frame
    refine ⟨_, (pss_cons (ps_set (i := 2) nd rfl (Or.inl rfl) (Dl.pc T.d__law_mixed (ok__law_mixed T) (hr.mono (by decide)) rfl (pa_cons (pv 0) (pa_cons (pe_lst (pa_cons pe_str (pa_cons pe_str (pa_cons pe_str (pa_cons pe_str (pa_cons pe_str (pa_cons pe_str (pa_cons pe_str (pa_cons pe_str (pa_cons pe_str (pa_cons pe_str (pa_cons pe_str (pa_cons pe_str pa_nil))))))))))))) pa_nil))))
      (pss_cons (ps_set (i := 3) nd rfl (Or.inl rfl) (pe_callTy (T := "tuple") (r := Dl.rTupF K) Dl.call_tupF (by rfl) T.b_tuple (by decide +kernel) (pa_cons (pe_slice (r := rSlL K) sl_list (pv 2) po_none (po_some (pe_op op_add pe_int (Dl.pc T.d__law_take (ok__law_take T) (hr.mono (by decide)) rfl (pa_cons (pv 0) (pa_cons (pv 1) pa_nil)))))) pa_nil)))
      (pss_cons (ps_par (i := 4) (j := 5) rfl nd rfl rfl (by decide) rfl rfl (pa_cons (Dl.pc T.d__law_some (ok__law_some T) (hr.mono (by decide)) rfl (pa_cons (pv 0) (pa_cons (pe_lst (pa_cons pe_str (pa_cons pe_str (pa_cons pe_str pa_nil)))) pa_nil))) (pa_cons (Dl.pc T.d__law_some (ok__law_some T) (hr.mono (by decide)) rfl (pa_cons (pv 0) (pa_cons (pe_lst (pa_cons pe_int (pa_cons pe_int (pa_cons pe_int pa_nil)))) pa_nil))) pa_nil)) (by with_unfolding_all rfl))
      (pss_cons (ps_set (i := 6) nd rfl (Or.inr rfl) (pe_lc (own := [("cell", 8)]) (g := gName 8) rfl nd (Dl.pi_tupK (K := K) (pv 3)) (blkOk_by (own := [("cell", 8)]) (N := N__law_frame) (sc := defScope s__law_frame) (by decide +kernel)) (fun _ _ _ _ _ => (pg_name (i := 8) nd rfl (Or.inl rfl))) (fun _ _ _ _ _ => (pts_one (pt_cmpR op_eq (Dl.pc T.d__law_take (ok__law_take T) (hr.mono (by decide)) rfl (pa_cons (pv 0) (pa_cons (Dl.pc T.d__law_some (ok__law_some T) (hr.mono (by decide)) rfl (pa_cons (pv 0) (pa_cons (pe_lst (pa_cons pe_int (pa_cons pe_int (pa_cons pe_int pa_nil)))) pa_nil))) pa_nil))) pe_int (nomark _)))) (fun _ _ _ _ _ => (pv 8))))
      (pss_cons (ps_set (i := 7) nd rfl (Or.inl rfl) (pe_lst pa_nil))
      (pss_cons (ps_for PassesOwn.never rfl (Dl.pi_listK (K := K) (pe_lc (own := [("one", 9)]) (g := gName 9) rfl nd (Dl.pi_tupK (K := K) (pv 3)) (blkOk_by (own := [("one", 9)]) (N := N__law_frame) (sc := defScope s__law_frame) (by decide +kernel)) (fun _ _ _ _ _ => (pg_name (i := 9) nd rfl (Or.inl rfl))) (fun _ _ _ _ _ => (pts_one (pt_cmpR (r := rIn K true) op_notIn_seq (pv 9) (pv 6) (by with_unfolding_all rfl)))) (fun _ _ _ _ _ => (pv 9)))) (pg_name (i := 8) nd rfl (Or.inl rfl)) (pss_one (ps_if (PW.pt (pw_and (pt_cmpR (r := rNeD K) (op_neD hr.units) (pv 7) (pe_lst pa_nil) (nomark _)) (pw_and1 (pt_cmpR op_eq (Dl.pc T.d__law_take (ok__law_take T) (hr.mono (by decide)) rfl (pa_cons (pv 0) (pa_cons (pv 5) pa_nil))) pe_int (nomark _))))) (pss_one (ps_expr (pe_bm PySem.F.plainAttrs_list PySem.F.slot_list_append PySem.F.type_list_append mt_append (pe_ix (r := rIxL K) ix_list (pv 7) (Dl.pc T.d__law_take (ok__law_take T) (hr.mono (by decide)) rfl (pa_cons (pv 0) (pa_cons (pe_callB (id := "len") (r := Dl.rLen K) call_len_seq (by rfl) T.b_len (by decide +kernel) (pa_cons (pv 7) pa_nil)) pa_nil))) (fun _ _ => rfl)) (pa_cons (pv 8) pa_nil)))) (pss_one (ps_expr (pe_bm PySem.F.plainAttrs_list PySem.F.slot_list_append PySem.F.type_list_append mt_append (pv 7) (pa_cons (pe_lst (pa_cons (pv 8) pa_nil)) pa_nil)))))))
      (pss_one (ps_ret (pe_tup (pa_cons (pv 3) (pa_cons (pe_callTy (T := "tuple") (r := Dl.rTupOf K) call_tuple_of (by rfl) T.b_tuple (by decide +kernel) (pa_cons (pe_lc (own := [("group", 10)]) (g := gName 10) rfl nd (Dl.pi_listK (K := K) (pv 7)) (blkOk_by (own := [("group", 10)]) (N := N__law_frame) (sc := defScope s__law_frame) (by decide +kernel)) (fun _ _ _ _ _ => (pg_name (i := 10) nd rfl (Or.inl rfl))) (fun _ _ _ _ _ => pts_nil) (fun _ _ _ _ _ => (pe_callTy (T := "tuple") (r := Dl.rTupOf K) call_tuple_of (by rfl) T.b_tuple (by decide +kernel) (pa_cons (pv 10) pa_nil)))) pa_nil)) (pa_cons (pe_callTy (T := "tuple") (r := Dl.rTupOf K) call_tuple_of (by rfl) T.b_tuple (by decide +kernel) (pa_cons (pv 6) pa_nil)) (pa_cons (pv 4) pa_nil))))))))))))), ?_⟩
    obtain ⟨x, ws, rfl, hl, ds, G, sG, bg, da, dm, k⟩ := h
    obtain ⟨n, rfl, n1, n2⟩ := dm
    have A := at_bag (N := N__law_frame) sG bg da (by rw [hl]; decide)
    refine q_asg A (ev_callB rfl rfl (ea_cons (ev_lst (l := nm12) (ea_cons ev_str (ea_cons ev_str (ea_cons ev_str (ea_cons ev_str (ea_cons ev_str (ea_cons ev_str (ea_cons ev_str (ea_cons ev_str (ea_cons ev_str (ea_cons ev_str (ea_cons ev_str (ea_cons ev_str ea_nil)))))))))))) (by decide)) ea_nil) fun l e => ⟨by rw [e]; rfl, nm12, e, by decide⟩) fun w σ1 G1 H1 e A1 => ?_
    obtain ⟨l, e1, l', m, e2, rfl, pm⟩ := e
    rw [e1] at e2
    cases e2
    have ml : m.length = 12 := pm.length_eq
    have mn : ∀ y ∈ m, y ∈ nm12 := fun y hy => pm.mem_iff.mp hy
    refine q_asgE A1 (eve_tupF (Q := fun cs => ∃ i : Int, 1 ≤ i ∧ i ≤ (n : Int) ∧ sTs cs = cutD m none (some i)) (en_slL (ev_var rfl) eo_none (eo_someP (C := fun i => 1 ≤ i ∧ i ≤ (n : Int)) (ev_imp (ev_I0x (C1 := fun i => i = 1) (ev_ex1 ev_int) (ev_take rfl (ev_var rfl) (by omega) (by omega))) fun d ⟨i, j, e, c1, c2⟩ => ⟨_, e, by omega, by omega⟩))) (fun l ⟨lo, hi, e1, ⟨i, e2, i1, i2⟩, ec⟩ => ?_)) fun cs0 σ2 G2 H2 e A2 => ?_
    · obtain ⟨cs, e3⟩ := sts_of (l := l) fun y hy => mn y (by rw [ec] at hy; exact cutD_mem hy)
      exact ⟨cs, e3, i, i1, i2, by rw [← e3, ec, e1, e2]⟩
    obtain ⟨i, i1, i2, ec⟩ := e
    obtain ⟨cells, ecs⟩ : ∃ l, l = sTs cs0 := ⟨_, rfl⟩
    rw [← ecs] at ec
    rw [cutD_take (by omega), ml] at ec
    have cl : cells.length = min i.toNat 12 := by rw [ec, List.length_take, ml]; omega
    have cd : cells.Nodup := by rw [ec]; exact (pm.nodup_iff.mpr nm12_nd).sublist (List.take_sublist _ _)
    have cn : ∀ y ∈ cells, y ∈ nm12 := fun y hy => mn y (by rw [ec] at hy; exact List.mem_of_mem_take hy)
    refine q_par A2 (ea_consP (ev_some rfl (ev_lst (ea_cons ev_str (ea_cons ev_str (ea_cons ev_str ea_nil))) (by decide : 3 ≤ 1000)) (by simp) (by decide : 3 ≤ 1000)) (ea_consP (ev_someI (zs := [9, 3, 4]) rfl (ev_lst (ea_cons ev_int (ea_cons ev_int (ea_cons ev_int ea_nil))) (by decide : 3 ≤ 1000)) (by decide) (by decide)) ea_nil)) (fun l ⟨d, r, e, _, d2, r2, e2, _, e3⟩ => ⟨d, d2, by rw [e, e2, e3]⟩) ?_
    rintro way _ σ3 G3 H3 ⟨d, r, e, hway, d2, r2, e2, ⟨share, rfl, hsh⟩, e3⟩ A3
    subst e3 e2
    cases e
    have sh1 : 0 < share ∧ share ≤ 9 := by
      simp only [List.mem_cons, List.not_mem_nil, or_false] at hsh
      omega
    refine q_asg A3 (ev_new (en_lc (T := fun _ _ => True) (E := fun y z => z = y) (f := fun y env => env.set 8 (.d y)) (ei_tup (l := cells) (ev_is (ev_tn (evu_var rfl)) (by rw [ecs]))) (fun l e => by rw [e]; omega) (fun l _ y _ => tg_name (by decide))
      (fun l _ y _ => et_TP (ev_imp (ev_eqIx (C2 := fun i => i = 0) (ev_takeP (m := 99) (C := fun z => z ∈ ([99, 5, 9] : List Int)) rfl (ev_someI (zs := [99, 5, 9]) rfl (ev_lst (ea_cons ev_int (ea_cons ev_int (ea_cons ev_int ea_nil))) (by decide : 3 ≤ 1000)) (by decide) (by decide)) (fun z hz => by simp only [List.mem_cons, List.not_mem_nil, or_false] at hz; omega) (by decide)) (ev_ex1 ev_int)) fun d e => e)) fun l _ y _ _ => ev_var rfl)) fun w σ4 G4 H4 e A4 => ?_
    obtain ⟨free, rfl, l4, e4, lc⟩ := e
    subst e4
    have fs : free.Sublist l4 := lc_sub lc fun x z e => e
    have fm : ∀ y ∈ free, y ∈ l4 := fun y hy => fs.subset hy
    refine q_asgM A4 (en_lstP ea_nil fun l e => by rw [e]; decide) fun gl ds σ5 G5 H5 e nb A5 => ?_
    subst e
    refine q_for A5 (Pl := fun l => l.length ≤ 12 ∧ l = l4.filter (nin free)) (f := fun y env => env.set 8 (.d y)) (vs := [8])
      (ei_listP (ev_imp (ev_new (en_lc (T := fun y c => c = nin free y) (E := fun y z => z = y) (f := fun y env => env.set 9 (.d y)) (ei_tup (l := l4) (ev_is (ev_tn (evu_var rfl)) (by rw [ecs]))) (fun l e => by rw [e]; omega) (fun l _ y _ => tg_name (by decide))
        (fun l e y hy => ?_) fun l _ y _ _ => ev_var rfl)) ?_)) (fun l _ y _ => tg_name (by decide))
      (fun l i env' ms' => ∃ (gs : List (Addr × List PyData)) (s8 : Sl), GsW gs (l.take i) ∧ env' = [.a x, .d (.int (n : Nat)), .d (.list m), .r (Tn (cs0.map V.str)), .d way, .d (.int share), .d (.list free), .a gl, s8, .un, .un] ∧
        (gl, gs.map fun p => Sl.a p.1) ∈ ms' ∧ (∀ p ∈ gs, (p.1, p.2.map Sl.d) ∈ ms') ∧ (∀ p ∈ gs, p.2.length ≤ i ∧ ∀ y ∈ p.2, y ∈ nm12) ∧ gs.length ≤ i ∧ i ≤ 12) (fun l h => ⟨[], .un, gsw_nil, rfl, List.mem_cons_self, fun p hp => (nomatch hp), fun p hp => (nomatch hp), Nat.le_refl _, Nat.zero_le _⟩) ?_ ?_
    · subst e
      obtain ⟨s, rfl, _⟩ := nm_ok y (cn y hy)
      exact et_imp (et_inS (ev_var rfl) (ev_var rfl) fun z hz => let ⟨t, e, _⟩ := nm_ok z (cn z (fm z hz)); ⟨t, e⟩) fun d e => e
    · rintro d ⟨r, rfl, l, e, lc2⟩
      subst e
      exact ⟨r, rfl, Nat.le_trans lc2.len (by omega), lc_filt lc2 (fun x c e => e) fun x z e => e⟩
    · rintro l i y env' ms' Gt σ6 G6 H6 ⟨ll, lfe⟩ hy ⟨gs, s8, gw, rfl, hg, hp, hgs, gi, ii⟩ A6 nx hnx
      have lm : ∀ z ∈ l, z ∈ l4 := fun z hz => by rw [lfe] at hz; exact (List.mem_filter.mp hz).1
      have tk : l.take (i + 1) = l.take i ++ [y] := by rw [List.take_add_one, hy]; rfl
      have il : i < l.length := (List.getElem?_eq_some_iff.mp hy).1
      have yn : y ∈ nm12 := cn y (lm y (List.mem_of_getElem? hy))
      obtain ⟨gn, hgn⟩ := List.mem_iff_getElem?.mp hg
      have sh : SeqAt.shaped (.list (gs.map fun p => .list p.2)) = true := by
        refine sma_shaped (w := (13 * 12 + 1) * (gs.map fun p => PyData.list p.2).length) (h := 1) (sma_all fun z hz => ?_) (by decide)
        obtain ⟨p, hp1, rfl⟩ := List.mem_map.mp hz
        exact (sm_list (sma_all (w := 12) (h := 0) fun u hu => nm_sm ((hgs p hp1).2 u hu))).le (Nat.mul_le_mul (by decide) (by have := (hgs p hp1).1; omega)) (Nat.le_refl _)
      have hgl : ∀ p ∈ gs, p.1 ≠ gl := fun p hp1 e => by
        have := nd_eq A6.nd (hp p hp1) hg e
        have h2 := congrArg Prod.snd this
        cases hq : p.2 with
        | nil => rw [hq] at h2; cases gs with
          | nil => cases hp1
          | cons a r => cases h2
        | cons a r => rw [hq] at h2; cases gs with
          | nil => cases hp1
          | cons a' r' => cases h2
      refine s_if (Pt := fun c => c = true → gs ≠ []) A6 (et_andP (et_neNest rfl hg hp sh) (fun e => et_imp (et_TP (Pt := fun _ => True) (ev_eqIx (C2 := fun i => i = 0) (ev_take rfl (ev_var rfl) sh1.1 (by omega)) (ev_ex1 ev_int))) fun c _ _ => of_decide_eq_true e.symm) (fun _ h => (nomatch h))) (fun ne G7 H7 A7 => ?_) (fun _ G7 H7 A7 => ?_)
      · have ne := ne rfl
        have gp : 0 < gs.length := by cases gs with
          | nil => exact absurd rfl ne
          | cons a r => simp
        refine s_appIx (n := gn) (rs := gs.map (·.1)) (C := fun z => 0 ≤ z ∧ z < (gs.length : Int)) A7 rfl (by rw [List.map_map]; exact hgn) (ev_imp (ev_take rfl (ev_lenM rfl hgn) (by rw [List.length_map]; omega) (by rw [List.length_map]; omega)) fun d ⟨r, e, r0, r1⟩ => ⟨r, e, r0, by rw [List.length_map] at r1; exact r1⟩) (fun z h => by rw [List.length_map]; exact h) ?_ (ev_var rfl) ?_
        · intro r hr
          obtain ⟨p, hp1, rfl⟩ := List.mem_map.mp hr
          obtain ⟨q, hq⟩ := List.mem_iff_getElem?.mp (hp p hp1)
          exact ⟨q, _, hq, by rw [List.length_map]; have := (hgs p hp1).1; omega⟩
        · intro r q es d G8 H8 hr hq e A8
          subst e
          obtain ⟨p0, hp0, rfl⟩ := List.mem_map.mp hr
          have es0 : es = p0.2.map Sl.d := congrArg Prod.snd (nd_eq A7.nd (List.mem_of_getElem? hq) (hp p0 hp0) rfl)
          have ga : (gs.map fun p => if p.1 = p0.1 then (p.1, p.2 ++ [d]) else p).map (fun p => Sl.a p.1) = gs.map fun p => Sl.a p.1 := by
            rw [List.map_map]
            refine List.map_congr_left fun p _ => ?_
            show Sl.a (if p.1 = p0.1 then (p.1, p.2 ++ [d]) else p).1 = _
            split <;> rfl
          refine hnx _ _ _ _ _ ⟨gs.map fun p => if p.1 = p0.1 then (p.1, p.2 ++ [d]) else p, _, by rw [tk]; exact gw.grow hp0, rfl, ?_, ?_, ?_, by rw [List.length_map]; omega, by omega⟩ A8
          · rw [ga]
            exact mem_set_ne hq hg fun z => hgl p0 hp0 z.symm
          · intro p hp1
            obtain ⟨p2, hp2, rfl⟩ := List.mem_map.mp hp1
            by_cases c : p2.1 = p0.1
            · rw [if_pos c]
              have e2 : p2.2.map Sl.d = p0.2.map Sl.d := congrArg Prod.snd (nd_eq A7.nd (hp p2 hp2) (hp p0 hp0) c)
              have e3 : ((p2.1, (p2.2 ++ [d]).map Sl.d) : Addr × List Sl) = (p0.1, es ++ [Sl.d d]) := by rw [List.map_append, e2, es0, c]; rfl
              rw [e3]
              exact mem_set_eq hq
            · rw [if_neg c]
              exact mem_set_ne hq (hp p2 hp2) c
          · intro p hp1
            obtain ⟨p2, hp2, rfl⟩ := List.mem_map.mp hp1
            have h2 := hgs p2 hp2
            by_cases c : p2.1 = p0.1
            · rw [if_pos c]
              refine ⟨by rw [List.length_append]; show p2.2.length + 1 ≤ _; omega, fun u hu => ?_⟩
              rcases List.mem_append.mp hu with hu | hu
              · exact h2.2 u hu
              · have : u = d := by simpa using hu
                rw [this]; exact yn
            · rw [if_neg c]
              exact ⟨by omega, h2.2⟩
      · refine s_appM (n := gn) A7 rfl hgn (en_lstP (ea_consP (ev_var rfl) ea_nil) fun l ⟨d, r, e, _, e2⟩ => by rw [e, e2]; show 1 ≤ 1000; decide) (by rw [List.length_map]; omega) fun r ds G8 H8 e A8 => ?_
        obtain ⟨d, r2, rfl, rfl, rfl⟩ := e
        have rn : ∀ p ∈ gs, p.1 ≠ r := fun p hp1 z => by
          have q2 := A8.nd
          rw [List.map_cons, List.nodup_cons] at q2
          subst z
          exact q2.1 (List.mem_map_of_mem (f := Prod.fst) (a := (p.1, p.2.map Sl.d)) (mem_set_ne hgn (hp p hp1) (hgl p hp1)))
        refine hnx _ _ _ _ _ ⟨gs ++ [(r, [d])], _, by rw [tk]; exact gw.new rn, rfl, ?_, ?_, ?_, by rw [List.length_append]; show gs.length + 1 ≤ _; omega, by omega⟩ A8
        · rw [List.map_append]
          exact List.mem_cons_of_mem _ (mem_set_eq hgn)
        · intro p hp1
          rcases List.mem_append.mp hp1 with hp1 | hp1
          · exact List.mem_cons_of_mem _ (mem_set_ne hgn (hp p hp1) (hgl p hp1))
          · have : p = (r, [d]) := by simpa using hp1
            subst this
            exact List.mem_cons_self
        · intro p hp1
          rcases List.mem_append.mp hp1 with hp1 | hp1
          · have h2 := hgs p hp1
            exact ⟨by omega, h2.2⟩
          · have : p = (r, [d]) := by simpa using hp1
            subst this
            exact ⟨by show 1 ≤ _; omega, fun u hu => by have : u = d := by simpa using hu
                                                        rw [this]; exact yn⟩
    · rintro l env' ms' σ6 G6 H6 ⟨ll, lfe⟩ ⟨gs, s8, gw, rfl, hg, hp, hgs, gi, ii⟩ A6
      obtain ⟨G7, A7⟩ := A6.freezeNest (i := 7) rfl hg hp
      obtain ⟨cs, gs', fs2, w, ecs2, egs, efs, ew, fw⟩ := gw.frame (way := way) cd cn (by omega) (by omega) fs lfe (by
        have h : way = .str "usual" ∨ way = .str "strict" ∨ way = .str "usual" := by simpa using hway
        rcases h with h | h | h
        · exact .inl h
        · exact .inr h
        · exact .inl h)
      have e00 : cs = cs0 := sts_inj (by rw [← ecs2, ecs])
      subst e00
      have e5 : gs.map (fun p => PyData.tuple p.2) = gs'.map fun g => PyData.tuple (sTs g) := by
        have e6 : gs.map (fun p => PyData.tuple p.2) = (gs.map (·.2)).map PyData.tuple := by rw [List.map_map]; rfl
        rw [e6, egs, List.map_map]; rfl
      refine s_retU A7 (evu_mkFrame (cs := cs) (gs := gs') (fs := fs2) (w := w) (evu_var rfl) (ea_cons (ev_is (ev_tupMap (F := fun z => match z with | .list c => .tuple c | _ => .none) (f := fun y env => env.set 10 (.d y)) (ei_list (ev_var rfl)) (by rw [List.length_map]; omega) (fun y _ => tg_name (by decide)) fun y hy => ?_) ?_) (ea_cons (ev_is (ev_cb (ea_cons (ev_var rfl) ea_nil) rc_tupL) (by rw [efs])) (ea_cons (ev_is (ev_var rfl) ew) ea_nil)))) (fun v G' H' g j u => k ⟨cs, gs', fs2, w⟩ v G' H' g (j.bag _ rfl) ⟨n, rfl, fw, ?_⟩ u)
      rotate_left
      · rw [← e5, List.map_map]
        rfl
      · have h := congrArg List.length ecs
        unfold sTs at h
        rw [List.length_map] at h
        show cs.length ≤ n
        omega
      obtain ⟨p, _, rfl⟩ := List.mem_map.mp hy
      exact ev_cb (ea_cons (ev_var rfl) ea_nil) rc_tupL
abbrev sp__law_stand (K : PySem.W.Frag) : Sp := spB K 1 manyDom standR
theorem ok__law_stand (T : Txt K mg) : FnOk P w K mg base CX0 3 T.f__law_stand T.g__law_stand ["bag", "many"] (sp__law_stand K) := by
  refine T.d__law_stand.fn.ok sc__law_stand (fun vs H Q E h => ?_) (fun cdv A outer s H vs Q E hr h => ?_)
  · exact spB_len h
  · have nd := nd__law_stand
    refine ⟨_, (pss_cons (ps_set (i := 2) nd rfl (Or.inr rfl) (Dl.pc T.d__law_some (ok__law_some T) (hr.mono (by decide)) rfl (pa_cons (pv 0) (pa_cons (pe_lst (pa_cons pe_int (pa_cons pe_int (pa_cons pe_int (pa_cons pe_int (pa_cons pe_int pa_nil)))))) pa_nil))))
      (pss_one (ps_ret (pe_callTy (T := "tuple") (r := Dl.rTupOf K) call_tuple_of (by rfl) T.b_tuple (by decide +kernel) (pa_cons (pe_lc (own := [("at", 3)]) (g := gName 3) rfl nd (pi_range1 rfl T.b_range (pa_cons (pv 1) pa_nil)) (blkOk_by (own := [("at", 3)]) (N := N__law_stand) (sc := defScope s__law_stand) (by decide +kernel)) (fun _ _ _ _ _ => (pg_name (i := 3) nd rfl (Or.inl rfl))) (fun _ _ _ _ _ => pts_nil) (fun _ _ _ _ _ => (Dl.pc T.d__law_fr (ok__law_fr T) (hr.mono (by decide)) rfl (pa_cons (pe_op op_sub (Dl.pc T.d__law_take (ok__law_take T) (hr.mono (by decide)) rfl (pa_cons (pv 0) (pa_cons pe_int pa_nil))) pe_int) (pa_cons (pv 2) pa_nil))))) pa_nil))))), ?_⟩
    obtain ⟨x, ws, rfl, hl, ds, G, sG, bg, da, dm, k⟩ := h
    obtain ⟨n, rfl, n1, n2⟩ := dm
    have A := at_bag (N := N__law_stand) sG bg da (by rw [hl]; decide)
    refine q_asg A (ev_someI (zs := [1, 1, 1, 2, 3]) rfl (ev_lst (ea_cons ev_int (ea_cons ev_int (ea_cons ev_int (ea_cons ev_int (ea_cons ev_int ea_nil))))) (by decide : 5 ≤ 1000)) (by decide) (by decide)) fun w σ1 G1 H1 e A1 => ?_
    obtain ⟨z, rfl, hz⟩ := e
    have z1 : 0 < z ∧ z ≤ 3 := by
      simp only [List.mem_cons, List.not_mem_nil, or_false] at hz
      omega
    refine s_ret A1 (ev_tupAll (E := fun _ y => ∃ a c : Int, y = fr a c ∧ 0 < c ∧ c ≤ 3 ∧ a.natAbs ≤ 4) (f := fun y env => env.set 3 (.d y)) (ei_rng (ea_cons (ev_var rfl) ea_nil) (by omega)) (by rw [intL_len]; omega) (fun y _ => tg_name (by decide)) fun y hy => ?_) ?_
    · refine ev_imp (ev_callR (ea_consP (ev_I0x (C2 := fun i => i = 4) (ev_take rfl ev_int (by decide) (by decide)) (ev_ex1 ev_int)) (ea_consP (ev_var rfl) ea_nil)) ?_) ?_
      · rintro l ⟨d, r, rfl, ⟨i, j, rfl, c1, c2⟩, d2, r2, rfl, rfl, rfl⟩
        exact ⟨rfl, _, _, rfl, by omega, Nat.lt_of_lt_of_le (show z.natAbs < 2 ^ 40 by omega) (Nat.pow_le_pow_right (by decide) (by decide))⟩
      · rintro d' ⟨l, ⟨d, r, rfl, ⟨i, j, rfl, c1, c2⟩, d2, r2, rfl, rfl, rfl⟩, e⟩
        exact ⟨i - j, z, e, z1.1, z1.2, by omega⟩
    · rintro v d G' H' g j p ⟨m, rfl, lc⟩
      refine k v _ G' H' g (j.bag _ rfl) p ⟨n, m, rfl, rfl, by rw [lc.all.1, intL_len], fun y hy => ?_⟩
      obtain ⟨_, _, e⟩ := lc.mem y hy
      exact e
end
end K05
set_option Elab.async false
set_option linter.all false
set_option maxRecDepth 100000
set_option maxHeartbeats 4000000
namespace K05
open PySem L2 Dl
section
variable {P : Program} {w : World} {K : PySem.W.Frag} {mg : Str → Option Value} {base : Heap}
abbrev sp_part (K : PySem.W.Frag) : Sp := spR K 3 dPart rPart
theorem ok_part (T : Txt K mg) : FnOk P w K mg base CX0 1 T.f_part T.g_part ["frame", "vector", "places"] (sp_part K) := by
  refine T.d_part.fn.ok sc_part (fun vs H Q E h => ?_) (fun cdv A outer s H vs Q E hr h => ?_)
  · exact spR_len h
  · have nd := nd_part
    refine ⟨_, (pss_one (ps_ret (pe_callTy (T := "tuple") (r := Dl.rTupOf K) call_tuple_of (by rfl) T.b_tuple (by decide +kernel) (pa_cons (pe_lc (own := [("place", 3), ("number", 4)]) (g := gTup K 2 (gCons (gName 3) (gCons (gName 4) gNil))) rfl nd (Dl.pi_enumK (K := K) rfl T.b_enumerate (pa_cons (pv 1) pa_nil)) (blkOk_by (own := [("place", 3), ("number", 4)]) (N := N_part) (sc := defScope s_part) (by decide +kernel)) (fun _ _ _ _ _ => (pg_tup rfl (pgs_cons (pg_name (i := 3) nd rfl (Or.inl rfl)) (pgs_cons (pg_name (i := 4) nd rfl (Or.inl rfl)) pgs_nil)))) (fun _ _ _ _ _ => pts_nil) (fun _ _ _ _ _ => (pe_ifExp (pt_cmpR (r := rIn K false) op_in_seq (pv 3) (pv 2) (by with_unfolding_all rfl)) (pv 4) (pe_tup (pa_cons pe_int (pa_cons pe_int pa_nil)))))) pa_nil)))), ?_⟩
    obtain ⟨hl, ds, G, sG, da, dm, k⟩ := h
    obtain ⟨fr, zs, ps, rfl, lz⟩ := dm
    have A := at_pure (N := N_part) sG da (by rw [hl]; decide)
    refine s_ret A (ev_tupNI (en_decA (enc := encEn encQ) (L := zs.zipIdx) (g := fun x => encQ (if x.2 ∈ ps then x.1 else (0, 1))) (f := setPair 3 4) (encEn_inj encQ_inj) (evg_is (ei_enumB (ea_cons (ev_var rfl) ea_nil) .t) (enumL_map encQ zs)) (by rw [List.length_zipIdx]; omega) (fun a _ => tg_pair (by decide) (by decide)) (fun a ha => ?_))) (fun v x G' H' g j p e => k v x G' H' g.nob p fun fr2 zs2 ps2 e2 => ?_)
    · refine ev_if (Pt := fun t => t = decide (a.2 ∈ ps)) (et_imp (et_T (ev_inN (neg := false) (ev_var rfl) (ev_var rfl) .t)) fun t e => e) (fun e => ?_) (fun e => ?_)
      · rw [if_pos (of_decide_eq_true e.symm)]
        exact ev_var rfl
      · rw [if_neg (of_decide_eq_false e.symm)]
        exact ev_tup (ea_cons ev_int (ea_cons ev_int ea_nil)) (by decide)
    · simp only [List.cons.injEq, and_true, PyData.tuple.injEq] at e2
      have h1 := stT_inj e2.2.1
      have h2 := natL_inj e2.2.2
      subst h1 h2
      rw [e]
      unfold prt stT stL
      rw [List.map_map]
      rfl
abbrev sp_with_way (K : PySem.W.Frag) : Sp := spR K 2 dWay rWay
theorem ok_with_way (T : Txt K mg) : FnOk P w K mg base CX0 1 T.f_with_way T.g_with_way ["frame", "way"] (sp_with_way K) := by
  refine T.d_with_way.fn.ok sc_with_way (fun vs H Q E h => ?_) (fun cdv A outer s H vs Q E hr h => ?_)
  · exact spR_len h
  · have nd := nd_with_way
    refine ⟨_, (pss_one (ps_ret (pe_op (r := rCatA K) op_catA (pe_slice (r := rSlA K) sl_tupA (pv 0) po_none (po_some pe_int)) (pe_tup (pa_cons (pv 1) pa_nil))))), ?_⟩
    obtain ⟨hl, ds, G, sG, da, dm, k⟩ := h
    obtain ⟨cs, gs, fs, w, w2, rfl⟩ := dm
    have A := at_pure (N := N_with_way) sG da (by rw [hl]; decide)
    refine s_ret A (ev_catA (l := [.tuple (sTs cs), .tuple (gsD gs), .tuple (sTs fs)]) (m := [.str w2]) (ev_imp (ev_slT (l := [.tuple (sTs cs), .tuple (gsD gs), .tuple (sTs fs), .str w]) (ev_var rfl) eo_none (eo_some ev_int)) fun d ⟨lo, hi, e1, e2, e3⟩ => by rw [e3, e1, e2]; rfl) (ev_tup (ea_cons (ev_var rfl) ea_nil) (by show 1 ≤ 1000; decide)) (by show 3 + 1 ≤ 1000; decide)) (fun v x G' H' g j p e => k v x G' H' g.nob p fun cs2 gs2 fs2 w3 w4 e2 => ?_)
    simp only [List.cons.injEq, and_true, PyData.str.injEq] at e2
    obtain ⟨h1, h2, h3, h4⟩ := frTp_inj e2.1
    rw [e, ← h1, ← h2, ← h3, ← e2.2]
    rfl
abbrev sp_in_order (K : PySem.W.Frag) : Sp := spV K 1 (fun cs : List Str => Tn (cs.map V.str)) dInO rInO
theorem ok_in_order (T : Txt K mg) : FnOk P w K mg base CX0 1 T.f_in_order T.g_in_order ["cells", "parts"] (sp_in_order K) := by
  refine T.d_in_order.fn.ok sc_in_order (fun vs H Q E h => ?_) (fun cdv A outer s H vs Q E hr h => ?_)
  · exact spV_len h
  · have nd := nd_in_order
    refine ⟨_, (pss_cons (ps_set (i := 2) nd rfl (Or.inl rfl) (pe_callB (id := "sorted") (r := Dl.rSortedR K) (Dl.cr_sortedR hr.units) (by rfl) T.b_sorted (by decide +kernel) (pa_cons (pe_lc (own := [("group", 3)]) (g := gName 3) rfl nd (Dl.pi_listK (K := K) (pv 1)) (blkOk_by (own := [("group", 3)]) (N := N_in_order) (sc := defScope s_in_order) (by decide +kernel)) (fun _ _ _ _ _ => (pg_name (i := 3) nd rfl (Or.inl rfl))) (fun _ _ _ _ _ => pts_nil) (fun _ _ _ _ _ => (pe_callB (id := "sorted") (r := rSortedI K) cr_sortedI (by rfl) T.b_sorted (by decide +kernel) (pa_cons (pe_lc (own := [("cell", 4)]) (g := gName 4) rfl nd (Dl.pi_sqK (K := K) (pv 3)) (Dl.blkOk_in (blkOk_by (own := [("cell", 4)]) (N := N_in_order) (by decide +kernel))) (fun _ _ _ _ _ => (pg_name (i := 4) nd rfl (Or.inl rfl))) (fun _ _ _ _ _ => pts_nil) (fun _ _ _ _ _ => (Dl.pe_bmF (r := Dl.rTIx K) PySem.F.plainAttrs_tuple PySem.F.slot_tuple_index PySem.F.type_tuple_index mt_tup_index (pv 0) (pa_cons (pv 4) pa_nil)))) pa_nil)))) pa_nil)))
      (pss_one (ps_ret (pe_callTy (T := "tuple") (r := Dl.rTupOf K) call_tuple_of (by rfl) T.b_tuple (by decide +kernel) (pa_cons (pe_lc (own := [("places", 5)]) (g := gName 5) rfl nd (Dl.pi_listK (K := K) (pv 2)) (blkOk_by (own := [("places", 5)]) (N := N_in_order) (sc := defScope s_in_order) (by decide +kernel)) (fun _ _ _ _ _ => (pg_name (i := 5) nd rfl (Or.inl rfl))) (fun _ _ _ _ _ => pts_nil) (fun _ _ _ _ _ => (pe_callTy (T := "tuple") (r := Dl.rTupOf K) call_tuple_of (by rfl) T.b_tuple (by decide +kernel) (pa_cons (pe_lc (own := [("place", 6)]) (g := gName 6) rfl nd (Dl.pi_listK (K := K) (pv 5)) (Dl.blkOk_in (blkOk_by (own := [("place", 6)]) (N := N_in_order) (by decide +kernel))) (fun _ _ _ _ _ => (pg_name (i := 6) nd rfl (Or.inl rfl))) (fun _ _ _ _ _ => pts_nil) (fun _ _ _ _ _ => (pe_ix (r := rIxT K) ix_tup (pv 0) (pv 6) (fun _ _ => rfl)))) pa_nil)))) pa_nil))))), ?_⟩
    obtain ⟨v, ws, rfl, hl, cs, ds, G, sG, u, da, dm, k⟩ := h
    obtain ⟨ps, rfl, po, lp, lc⟩ := dm
    have A := at_pureV (N := N_in_order) sG u da (by rw [hl]; decide)
    have cn := po.cn
    have glen : ∀ g ∈ ps.map (·.2), g.length ≤ 1000 := fun g hg => by
      have h1 := po.sub hg
      have h2 := (grpF_perm po.nd h1.1 h1.2).length_eq
      have h3 := (grpF_sub (cs := cs) (g := g)).length_le
      omega
    refine q_asg A (ev_sortR (rows := ((ps.map (·.2)).map (grpF cs)).map (rowN cs)) (ev_is (ev_newI (en_decA (enc := ptD) (L := ps) (g := fun p => rowL (rowN cs (grpF cs p.2))) (f := fun y env => env.set 3 (.d y)) ptD_inj (ei_list (ev_var rfl)).g (by omega) (fun a _ => tg_name (by decide)) (fun p hp => ?_))) (by rw [List.map_map, List.map_map, List.map_map]; rfl))) fun d σ1 G1 H1 e A1 => ?_
    · have hm : p.2 ∈ ps.map (·.2) := List.mem_map_of_mem hp
      have hs := po.sub hm
      refine ev_imp (ev_sortI (ns := rowN cs p.2) (ev_is (ev_newI (en_decA (enc := .str) (L := p.2) (g := fun c => .int (cs.idxOf c : Nat)) (f := fun y env => env.set 4 (.d y)) (fun _ _ => str_inj) (ei_sq (ev_var rfl) (ptD_sq p)).g (glen _ hm) (fun a _ => tg_name (by decide)) (fun c hc => ev_tIdx (evu_var rfl) (ev_var rfl) (hs.2 c hc)))) (by unfold rowN; rw [List.map_map]; rfl))) fun d ⟨s, pm, hs2, e⟩ => ?_
      rw [e, sort_row po.nd hs.1 hs.2 pm hs2]
      rfl
    · rw [sort_rows cn] at e
      subst e
      have bp := byH_perm cn.nd cn.hin
      have bl : (inO cs (ps.map (·.2))).length ≤ 1000 := by
        show (byH cs ((ps.map (·.2)).map (grpF cs))).length ≤ 1000
        rw [bp.length_eq, List.length_map, List.length_map]; omega
      have bm : ∀ g ∈ inO cs (ps.map (·.2)), (∀ c ∈ g, c ∈ cs) ∧ g.length ≤ 1000 := fun g hg => by
        have := cn.sb g (bp.mem_iff.mp hg)
        exact ⟨fun c hc => this.subset hc, by have := this.length_le; omega⟩
      refine s_ret A1 (ev_tupNI (en_decA (enc := rowL) (L := (inO cs (ps.map (·.2))).map (rowN cs)) (g := fun r => .tuple (sTs (r.map fun i => cs.getD i.toNat ""))) (f := fun y env => env.set 5 (.d y)) rowL_inj (ei_list (ev_var rfl)).g (by rw [List.length_map]; exact bl) (fun a _ => tg_name (by decide)) (fun r hr => ?_))) (fun v x G' H' g j p e => k v x G' H' g.nob p fun ps2 e2 => ?_)
      · obtain ⟨g, hg, rfl⟩ := List.mem_map.mp hr
        refine ev_is (ev_tupNI (en_decA (enc := .int) (L := rowN cs g) (g := fun i => .str (cs.getD i.toNat "")) (f := fun y env => env.set 6 (.d y)) int_inj (ei_list (ev_var rfl)).g (by unfold rowN; rw [List.length_map]; exact (bm g hg).2) (fun a _ => tg_name (by decide)) (fun i hi => ?_))) ?_
        · obtain ⟨c, hc, rfl⟩ := List.mem_map.mp hi
          have lt := List.idxOf_lt_length_iff.mpr ((bm g hg).1 c hc)
          refine ev_ixT (ds := sTs cs) (ev_ofU (evu_var rfl) fun G v h => ⟨_, h.dp, rfl⟩) (ev_var rfl) (atI_nat ?_)
          unfold sTs
          rw [List.getElem?_map, List.getElem?_eq_getElem lt, Int.toNat_natCast, List.getD_eq_getElem?_getD, List.getElem?_eq_getElem lt]
          rfl
        · unfold sTs
          rw [List.map_map]
          rfl
      · simp only [List.cons.injEq, and_true, PyData.list.injEq] at e2
        have h1 : ps = ps2 := map_inj ptD_inj e2
        subst h1
        rw [e]
        unfold gsD
        rw [List.map_map]
        congr 1
        refine List.map_congr_left fun g hg => ?_
        show PyData.tuple (sTs ((rowN cs g).map _)) = _
        rw [rowN_back (bm g hg).1]
abbrev sp_linked (K : PySem.W.Frag) : Sp := spV K 1 (fun x : FrX => x.R K) dLnk rLnk
theorem ok_linked (T : Txt K mg) : FnOk P w K mg base CX0 2 T.f_linked T.g_linked ["frame", "lots"] (sp_linked K) := by
  refine T.d_linked.fn.ok sc_linked (fun vs H Q E h => ?_) (fun cdv A outer s H vs Q E hr h => ?_)
  · exact spV_len h
  · have nd := nd_linked
    refine ⟨_, (pss_cons (ps_asg (pv 0) (pg_tup rfl (pgs_cons (pg_name (i := 2) nd rfl (Or.inl rfl)) (pgs_cons (pg_name (i := 3) nd rfl (Or.inr rfl)) (pgs_cons (pg_name (i := 4) nd rfl (Or.inl rfl)) (pgs_cons (pg_name (i := 5) nd rfl (Or.inl rfl)) pgs_nil))))))
      (pss_cons (ps_set (i := 6) nd rfl (Or.inr rfl) (pe_lc2 (own := [("lot", 9), ("index", 10)]) (vs1 := [10]) (g := gName 9) (g1 := gName 10) rfl nd (Dl.pi_tupK (K := K) (pv 1)) (blkOk_by (own := [("lot", 9), ("index", 10)]) (N := N_linked) (sc := defScope s_linked) (by decide +kernel)) (by decide) (fun _ _ _ _ _ => (pg_name (i := 9) nd rfl (Or.inl rfl))) (fun _ _ _ _ _ => pts_nil) (fun _ _ _ _ _ => (Dl.pi_tupK (K := K) (pv 9))) (fun _ _ _ _ _ => (pg_name (i := 10) nd rfl (Or.inl rfl))) (fun _ _ _ _ _ => pts_nil) (fun _ _ _ _ _ => (pv 10))))
      (pss_cons (ps_setLc (i := 7) (own := [("index", 10), ("group", 11)]) (g := gTup K 2 (gCons (gName 10) (gCons (gName 11) gNil))) rfl nd rfl rfl (sw_true rfl rfl rfl (by decide +kernel)) (Dl.pi_enumK (K := K) rfl T.b_enumerate (pa_cons (pv 3) pa_nil)) (blkOk_by (own := [("index", 10), ("group", 11)]) (N := N_linked) (sc := defScope s_linked) (by decide +kernel)) (fun _ _ _ _ _ => (pg_tup rfl (pgs_cons (pg_name (i := 10) nd rfl (Or.inl rfl)) (pgs_cons (pg_name (i := 11) nd rfl (Or.inl rfl)) pgs_nil)))) (fun _ _ _ _ _ => (pts_one (pt_cmpR (r := rIn K true) op_notIn_seq (pv 10) (pv 6) (by with_unfolding_all rfl)))) (fun _ _ _ _ _ => (pv 11)))
      (pss_cons (ps_setLc (i := 8) (own := [("lot", 9)]) (g := gName 9) rfl nd rfl rfl (sw_true rfl rfl rfl (by decide +kernel)) (Dl.pi_tupK (K := K) (pv 1)) (blkOk_by (own := [("lot", 9)]) (N := N_linked) (sc := defScope s_linked) (by decide +kernel)) (fun _ _ _ _ _ => (pg_name (i := 9) nd rfl (Or.inl rfl))) (fun _ _ _ _ _ => pts_nil) (fun _ _ _ _ _ => (pe_lc2 (own := [("index", 10), ("cell", 12)]) (vs1 := [12]) (g := gName 10) (g1 := gName 12) rfl nd (Dl.pi_tupK (K := K) (pv 9)) (Dl.blkOk_in (blkOk_by (own := [("index", 10), ("cell", 12)]) (N := N_linked) (by decide +kernel))) (by decide) (fun _ _ _ _ _ => (pg_name (i := 10) nd rfl (Or.inl rfl))) (fun _ _ _ _ _ => pts_nil) (fun _ _ _ _ _ => (Dl.pi_tupK (K := K) (pe_ix (r := rIxT K) ix_tup (pv 3) (pv 10) (fun _ _ => rfl)))) (fun _ _ _ _ _ => (pg_name (i := 12) nd rfl (Or.inl rfl))) (fun _ _ _ _ _ => pts_nil) (fun _ _ _ _ _ => (pv 12)))))
      (pss_one (ps_ret (pe_tup (pa_cons (pv 2) (pa_cons (Dl.pc T.d_in_order (ok_in_order T) (hr.mono (by decide)) rfl (pa_cons (pv 2) (pa_cons (pe_op (r := Dl.rCatL K) Dl.op_catL (pv 7) (pv 8)) pa_nil))) (pa_cons (pv 4) (pa_cons (pv 5) pa_nil))))))))))), ?_⟩
    obtain ⟨v, ws, rfl, hl, x, ds, G, sG, u, da, dm, k⟩ := h
    obtain ⟨lots, rfl, F, L⟩ := dm
    have A := at_pureV (N := N_linked) sG u da (by rw [hl]; decide)
    have gl := F.gl
    have cl := F.le
    have F : FrW x.cs x.gs x.fs x.w := F
    have ln : lots.flatten.length ≤ 12 := by
      have := L.perm.length_eq
      rw [List.length_append, List.length_range] at this
      omega
    have lln : lots.length ≤ 12 := by
      have : ∀ {l : List (List Nat)}, (∀ a ∈ l, a ≠ []) → l.length ≤ l.flatten.length := by
        intro l
        induction l with
        | nil => intro _; exact Nat.le_refl _
        | cons a l ih =>
          intro h
          have h1 := ih fun z hz => h z (List.mem_cons_of_mem _ hz)
          have h2 : 0 < a.length := List.length_pos_iff.mpr (h a List.mem_cons_self)
          rw [List.flatten_cons, List.length_append, List.length_cons]
          omega
      have := this L.ne
      omega
    have gA : ∀ i < x.gs.length, (gsD x.gs)[i]? = some (.tuple (sTs (gAt x.gs i))) ∧ (gAt x.gs i).length ≤ 12 := fun i hi => by
      unfold gsD
      have e : gAt x.gs i = x.gs[i] := by show x.gs.getD i [] = _; rw [List.getD_eq_getElem?_getD, List.getElem?_eq_getElem hi]; rfl
      rw [List.getElem?_map, List.getElem?_eq_getElem hi, e]
      exact ⟨rfl, F.gg (List.getElem_mem hi)⟩
    have e0 : (lots.flatMap fun a => a.map fun i : Nat => PyData.int (i : Nat)) = natL lots.flatten := by
      unfold natL
      rw [List.map_flatten, List.flatMap_def]
    refine q_unp4F (i := 2) (l := 3) (m := 4) (n := 5) A (evu_var rfl) fun σ1 G1 H1 A1 => ?_
    refine q_asg A1 (ev_newI (en_lc2 (enc := fun l => .tuple (natL l)) (en2 := fun i : Nat => .int (i : Nat)) (L := lots) (M := fun l => l) (g := fun _ i => .int (i : Nat)) (f := fun y env => env.set 9 (.d y)) (f1 := fun y env => env.set 10 (.d y)) (ei_tup (ev_var rfl)) (fun a _ => tg_name (by decide)) (fun a ha => ei_tup (ev_var rfl)) (fun a _ c _ => tg_name (by decide)) (fun a _ c _ => ev_var rfl) (by rw [e0, natL_len]; omega))) fun d σ2 G2 H2 e A2 => ?_
    rw [e0] at e
    subst e
    refine q_asg A2 (ev_newI (en_dec (enc := encEn fun g => .tuple (sTs g)) (L := x.gs.zipIdx) (t := fun y => !decide (y.2 ∈ lots.flatten)) (g := fun y => .tuple (sTs y.1)) (f := setPair 10 11) (encEn_inj tupS_inj) (evg_is (ei_enumB (ea_cons (ev_var rfl) ea_nil) .t) (enumL_map _ x.gs)) (by rw [List.length_zipIdx]; omega) (fun a _ => tg_pair (by decide) (by decide)) (fun a ha => et_T (ev_inN (neg := true) (ev_var rfl) (ev_var rfl) .l)) (fun a _ _ => ev_var rfl))) fun d σ3 G3 H3 e A3 => ?_
    have e1 : (x.gs.zipIdx.filter fun y => !decide (y.2 ∈ lots.flatten)).map (fun y => PyData.tuple (sTs y.1)) = ((freeI x.gs.length lots).map fun i => (true, gAt x.gs i)).map ptD := by
      rw [List.map_map, show (fun y : List Str × Nat => PyData.tuple (sTs y.1)) = (fun g => PyData.tuple (sTs g)) ∘ (·.1) from rfl, ← List.map_map, zip_free, List.map_map]
      rfl
    rw [e1] at e
    subst e
    refine q_asg A3 (ev_newI (en_decA (enc := fun l => .tuple (natL l)) (L := lots) (g := fun l => .list (sTs (l.flatMap (gAt x.gs)))) (f := fun y env => env.set 9 (.d y)) (fun a c h => natL_inj (by injection h)) (ei_tup (ev_var rfl)).g (by omega) (fun a _ => tg_name (by decide)) (fun l hml => ?_))) fun d σ4 G4 H4 e A4 => ?_
    · have lt : ∀ i ∈ l, i < x.gs.length := fun i hi => L.lt i (List.mem_flatten.mpr ⟨l, hml, hi⟩)
      have ll : l.length ≤ 12 := Nat.le_trans (List.sublist_flatten_of_mem hml).length_le ln
      have e3 : (l.flatMap fun i => (gAt x.gs i).map PyData.str) = sTs (l.flatMap (gAt x.gs)) := by
        unfold sTs
        rw [List.map_flatMap]
      refine ev_is (ev_newI (en_lc2 (enc := fun i : Nat => .int (i : Nat)) (en2 := .str) (L := l) (M := gAt x.gs) (g := fun _ c => .str c) (f := fun y env => env.set 10 (.d y)) (f1 := fun y env => env.set 12 (.d y)) (ei_tup (ev_var rfl)) (fun a _ => tg_name (by decide)) (fun i hi => ei_tup (ev_ixT (ev_var rfl) (ev_var rfl) (atI_nat (gA i (lt i hi)).1))) (fun a _ c _ => tg_name (by decide)) (fun a _ c _ => ev_var rfl) ?_)) (by rw [e3])
      have : ∀ l : List Nat, (∀ i ∈ l, i < x.gs.length) → (l.flatMap fun i => (gAt x.gs i).map PyData.str).length ≤ 12 * l.length := fun l => by
        induction l with
        | nil => intro _; simp
        | cons i l ih =>
          intro h
          have h1 := ih fun z hz => h z (List.mem_cons_of_mem _ hz)
          have h2 := (gA i (h i List.mem_cons_self)).2
          rw [List.flatMap_cons, List.length_append, List.length_map, List.length_cons]
          omega
      exact Nat.le_trans (this l lt) (by omega)
    subst e
    let ps : List (Bool × List Str) := ((freeI x.gs.length lots).map fun i => (true, gAt x.gs i)) ++ lots.map fun l => (false, l.flatMap (gAt x.gs))
    have fl : (freeI x.gs.length lots).length ≤ 12 := by
      have := (List.filter_sublist (l := List.range x.gs.length) (p := fun i => !decide (i ∈ lots.flatten))).length_le
      rw [List.length_range] at this
      exact Nat.le_trans this gl
    have ep : ps.map (·.2) = lnk x.gs lots := by
      show List.map _ (_ ++ _) = _
      unfold lnk
      rw [List.map_append, List.map_map, List.map_map]
      rfl
    have ed : ((freeI x.gs.length lots).map fun i => (true, gAt x.gs i)).map ptD ++ lots.map (fun l => PyData.list (sTs (l.flatMap (gAt x.gs)))) = ps.map ptD := by
      show _ = List.map _ (_ ++ _)
      rw [List.map_append, List.map_map (l := lots)]
      rfl
    have po : PtOk x.cs (ps.map (·.2)) := by rw [ep]; exact lnk_ok F L
    refine s_ret A4 (ev_tupP (ea_consP (ev_ofU (evu_var rfl) fun G v h => ⟨_, h.dp, rfl⟩) (ea_consP (ev_callV2 (n := 1) (Pl := Is [.list (ps.map ptD)]) x.cs (evu_var rfl) (ea_cons (ev_is (ev_newI (en_catL (ev_var rfl) (ev_var rfl) ?_)) (by rw [ed])) ea_nil) fun ds e => ⟨by rw [e]; rfl, ps, e, po, ?_, by omega⟩) (ea_cons (ev_var rfl) (ea_cons (ev_var rfl) ea_nil)))) (fun l h => ?_)) (fun v d G' H' g j p e => k v d G' H' g.nob p fun lots2 e2 => ?_)
    · rw [List.length_map, List.length_map, List.length_map]; omega
    · show (List.length (_ ++ _)) ≤ 100
      rw [List.length_append, List.length_map, List.length_map]; omega
    · obtain ⟨d, ds, rfl, _, d2, ds2, rfl, _, e⟩ := h
      rw [e]
      show 4 ≤ 1000
      decide
    · simp only [List.cons.injEq, and_true, PyData.tuple.injEq] at e2
      have h1 : lots = lots2 := map_inj (fun a c h => natL_inj (by injection h)) e2
      subst h1
      obtain ⟨l, rfl, d1, ds1, rfl, rfl, d2, ds2, rfl, ⟨dl, rfl, h2⟩, rfl⟩ := e
      rw [h2 ps rfl, ep]
      rfl
end
end K05
set_option Elab.async false
set_option linter.all false
set_option maxRecDepth 100000
set_option maxHeartbeats 4000000
namespace K05
open PySem L2 Dl
section
variable {P : Program} {w : World} {K : PySem.W.Frag} {mg : Str → Option Value} {base : Heap}
abbrev sp_renamed (K : PySem.W.Frag) : Sp := spR K 2 dRen rRen
theorem ok_renamed (T : Txt K mg) : FnOk P w K mg base CX0 1 T.f_renamed T.g_renamed ["frame", "names"] (sp_renamed K) := by
  refine T.d_renamed.fn.ok sc_renamed (fun vs H Q E h => ?_) (fun cdv A outer s H vs Q E hr h => ?_)
  · exact spR_len h
  · have nd := nd_renamed
    refine ⟨_, (pss_cons (ps_asg (pv 0) (pg_tup rfl (pgs_cons (pg_name (i := 2) nd rfl (Or.inl rfl)) (pgs_cons (pg_name (i := 3) nd rfl (Or.inl rfl)) (pgs_cons (pg_name (i := 4) nd rfl (Or.inl rfl)) (pgs_cons (pg_name (i := 5) nd rfl (Or.inl rfl)) pgs_nil))))))
      (pss_cons (ps_set (i := 6) nd rfl (Or.inr rfl) (pe_dc (own := [("cell", 8), ("name", 9)]) (g := gTup K 2 (gCons (gName 8) (gCons (gName 9) gNil))) rfl nd (Dl.pi_zipK (K := K) rfl T.b_zip (pa_cons (pv 2) (pa_cons (pv 1) pa_nil))) (blkOk_by (own := [("cell", 8), ("name", 9)]) (N := N_renamed) (sc := defScope s_renamed) (by decide +kernel)) (fun _ _ _ _ _ => (pg_tup rfl (pgs_cons (pg_name (i := 8) nd rfl (Or.inl rfl)) (pgs_cons (pg_name (i := 9) nd rfl (Or.inl rfl)) pgs_nil)))) (fun _ _ _ _ _ => pts_nil) (fun _ _ _ _ _ => (pv 8)) (fun _ _ _ _ _ => (pv 9))))
      (pss_cons (ps_setLc (i := 7) (own := [("group", 10)]) (g := gName 10) rfl nd rfl rfl (sw_true rfl rfl rfl (by decide +kernel)) (Dl.pi_tupK (K := K) (pv 3)) (blkOk_by (own := [("group", 10)]) (N := N_renamed) (sc := defScope s_renamed) (by decide +kernel)) (fun _ _ _ _ _ => (pg_name (i := 10) nd rfl (Or.inl rfl))) (fun _ _ _ _ _ => pts_nil) (fun _ _ _ _ _ => (pe_callTy (T := "tuple") (r := Dl.rTupOf K) call_tuple_of (by rfl) T.b_tuple (by decide +kernel) (pa_cons (pe_lc (own := [("cell", 8)]) (g := gName 8) rfl nd (Dl.pi_tupK (K := K) (pv 10)) (Dl.blkOk_in (blkOk_by (own := [("cell", 8)]) (N := N_renamed) (by decide +kernel))) (fun _ _ _ _ _ => (pg_name (i := 8) nd rfl (Or.inl rfl))) (fun _ _ _ _ _ => pts_nil) (fun _ _ _ _ _ => (pe_dget (hu_of hr) (pv 6) (pv 8) (fun _ _ => rfl)))) pa_nil))))
      (pss_one (ps_ret (pe_tup (pa_cons (pv 1) (pa_cons (pe_callTy (T := "tuple") (r := Dl.rTupOf K) call_tuple_of (by rfl) T.b_tuple (by decide +kernel) (pa_cons (pv 7) pa_nil)) (pa_cons (pe_callTy (T := "tuple") (r := Dl.rTupOf K) call_tuple_of (by rfl) T.b_tuple (by decide +kernel) (pa_cons (pe_lc (own := [("cell", 8)]) (g := gName 8) rfl nd (Dl.pi_tupK (K := K) (pv 4)) (blkOk_by (own := [("cell", 8)]) (N := N_renamed) (sc := defScope s_renamed) (by decide +kernel)) (fun _ _ _ _ _ => (pg_name (i := 8) nd rfl (Or.inl rfl))) (fun _ _ _ _ _ => pts_nil) (fun _ _ _ _ _ => (pe_dget (hu_of hr) (pv 6) (pv 8) (fun _ _ => rfl)))) pa_nil)) (pa_cons (pv 5) pa_nil)))))))))), ?_⟩
    obtain ⟨hl, ds, G, sG, da, dm, k⟩ := h
    obtain ⟨cs, gs, fs, w, ns, rfl, F, ln⟩ := dm
    have A := at_pure (N := N_renamed) sG da (by rw [hl]; decide)
    have gl := F.gl
    have cl := F.le
    have fl : fs.length ≤ 12 := Nat.le_trans F.fr.length_le cl
    have z1 : (cs.zip ns).map (·.1) = cs := List.map_fst_zip (by omega)
    have z2 : (cs.zip ns).map (fun p => PyData.str p.2) = sTs ns := by
      rw [show (fun p : Str × Str => PyData.str p.2) = PyData.str ∘ (·.2) from rfl, ← List.map_map, List.map_snd_zip (by omega)]
      rfl
    have look : ∀ c ∈ cs, (sTs ns)[cs.idxOf c]? = some (.str (rnm cs ns c)) := fun c hc => by
      have lt := List.idxOf_lt_length_iff.mpr hc
      unfold sTs rnm
      rw [List.getElem?_map, List.getD_eq_getElem?_getD, List.getElem?_eq_getElem (by omega)]
      rfl
    refine q_unp4 (i := 2) (l := 3) (m := 4) (n := 5) (x := .tuple (sTs cs)) (y := .tuple (gsD gs)) (z := .tuple (sTs fs)) (u := .str w) A (ev_var rfl) fun σ1 G1 H1 A1 => ?_
    refine q_asgU (R := DkR K cs (sTs ns)) A1 (evu_eq (evu_dc (α := Str × Str) (enc := fun p => .tuple [.str p.1, .str p.2]) (fk := (·.1)) (fv := fun p => .str p.2) (L := cs.zip ns) (f := setPair 8 9) (fun σ G H e s j R k => ei_zipB (ea_cons (ev_var rfl) (ea_cons (ev_var rfl) ea_nil)) .t .t σ G H e s j R fun J l G2 H2 g j2 it q => k J l G2 H2 g j2 it (by rw [q]; exact pairs_SS cs ns)) (by rw [List.length_zip]; omega) (fun x _ => tg_pair (by decide) (by decide)) (by rw [z1]; exact F.nd) (fun x _ => ev_var rfl) (fun x _ => ev_var rfl)) (by rw [z1, z2]; rfl)) fun σ2 G2 H2 A2 => ?_
    refine q_asg A2 (ev_newI (en_decA (enc := fun g => .tuple (sTs g)) (L := gs) (g := fun g => .tuple (sTs (g.map (rnm cs ns)))) (f := fun y env => env.set 10 (.d y)) tupS_inj (ei_tup (l := gsD gs) (ev_var rfl)).g (by omega) (fun a _ => tg_name (by decide)) (fun g hg => ?_))) fun d σ3 G3 H3 e A3 => ?_
    · refine ev_is (ev_tupNI (en_decA (enc := .str) (L := g) (g := fun c => .str (rnm cs ns c)) (f := fun y env => env.set 8 (.d y)) (fun _ _ => str_inj) (ei_tup (l := sTs g) (ev_var rfl)).g (by have := F.gg hg; omega) (fun a _ => tg_name (by decide)) (fun c hc => ev_dGet (evu_var rfl) (ev_var rfl) (look c ((F.ps g hg).2.subset hc))))) ?_
      unfold sTs
      rw [List.map_map]
      rfl
    subst e
    refine s_ret A3 (ev_tup (ea_cons (ev_var rfl) (ea_cons (ev_cb (ea_cons (ev_var rfl) ea_nil) rc_tupL) (ea_cons (ev_is (ev_tupNI (en_decA (enc := .str) (L := fs) (g := fun c => .str (rnm cs ns c)) (f := fun y env => env.set 8 (.d y)) (fun _ _ => str_inj) (ei_tup (l := sTs fs) (ev_var rfl)).g (by omega) (fun a _ => tg_name (by decide)) (fun c hc => ev_dGet (evu_var rfl) (ev_var rfl) (look c (F.fr.subset hc))))) (y := .tuple (sTs (fs.map (rnm cs ns)))) (by unfold sTs; rw [List.map_map]; rfl)) (ea_cons (ev_var rfl) ea_nil)))) (by show 4 ≤ 1000; decide)) (fun v x G' H' g j p e => k v x G' H' g.nob p fun cs2 gs2 fs2 w2 ns2 e2 => ?_)
    simp only [List.cons.injEq, and_true, PyData.tuple.injEq] at e2
    obtain ⟨h1, h2, h3, h4⟩ := frTp_inj e2.1
    have h5 := sts_inj e2.2
    subst h1 h2 h3 h4 h5
    rw [e]
    unfold frTp
    rw [List.map_map]
    rfl
abbrev sp_taken (K : PySem.W.Frag) : Sp := spV K 1 (fun x : FrX => x.R K) dTak rTak
theorem ok_taken (T : Txt K mg) : FnOk P w K mg base CX0 2 T.f_taken T.g_taken ["frame", "cell"] (sp_taken K) := by
  refine T.d_taken.fn.ok sc_taken (fun vs H Q E h => ?_) (fun cdv A outer s H vs Q E hr h => ?_)
  · exact spV_len h
  · have nd := nd_taken
    refine ⟨_, (pss_cons (ps_asg (pv 0) (pg_tup rfl (pgs_cons (pg_name (i := 2) nd rfl (Or.inl rfl)) (pgs_cons (pg_name (i := 3) nd rfl (Or.inl rfl)) (pgs_cons (pg_name (i := 4) nd rfl (Or.inl rfl)) (pgs_cons (pg_name (i := 5) nd rfl (Or.inl rfl)) pgs_nil))))))
      (pss_cons (ps_set (i := 6) nd rfl (Or.inl rfl) (pe_callTy (T := "tuple") (r := Dl.rTupOf K) call_tuple_of (by rfl) T.b_tuple (by decide +kernel) (pa_cons (pe_lc (own := [("other", 7)]) (g := gName 7) rfl nd (Dl.pi_tupK (K := K) (pv 4)) (blkOk_by (own := [("other", 7)]) (N := N_taken) (sc := defScope s_taken) (by decide +kernel)) (fun _ _ _ _ _ => (pg_name (i := 7) nd rfl (Or.inl rfl))) (fun _ _ _ _ _ => (pts_one (pt_cmpR op_ne (pv 7) (pv 1) (nomark _)))) (fun _ _ _ _ _ => (pv 7))) pa_nil)))
      (pss_one (ps_ret (pe_tup (pa_cons (pv 2) (pa_cons (Dl.pc T.d_in_order (ok_in_order T) (hr.mono (by decide)) rfl (pa_cons (pv 2) (pa_cons (pe_lst (StX.pa_star (pv 3) (pa_cons (pe_tup (pa_cons (pv 1) pa_nil)) pa_nil))) pa_nil))) (pa_cons (pv 6) (pa_cons (pv 5) pa_nil))))))))), ?_⟩
    obtain ⟨v, ws, rfl, hl, x, ds, G, sG, u, da, dm, k⟩ := h
    obtain ⟨c, rfl, F, hc⟩ := dm
    have A := at_pureV (N := N_taken) sG u da (by rw [hl]; decide)
    have gl := F.gl
    have cl := F.le
    have F : FrW x.cs x.gs x.fs x.w := F
    have fl : x.fs.length ≤ 12 := Nat.le_trans F.fr.length_le cl
    refine q_unp4F (i := 2) (l := 3) (m := 4) (n := 5) A (evu_var rfl) fun σ1 G1 H1 A1 => ?_
    refine q_asg A1 (ev_tupNI (en_dec (enc := .str) (L := x.fs) (t := fun y => !decide (y = c)) (g := .str) (f := fun y env => env.set 7 (.d y)) (fun _ _ => str_inj) (ei_tup (l := sTs x.fs) (ev_var rfl)).g (by omega) (fun a _ => tg_name (by decide)) (fun a ha => et_T (ev_neS (ev_var rfl) (ev_var rfl))) (fun a _ _ => ev_var rfl))) fun d σ2 G2 H2 e A2 => ?_
    subst e
    let ps : List (Bool × List Str) := (x.gs ++ [[c]]).map fun g => (true, g)
    have ep : ps.map (·.2) = x.gs ++ [[c]] := by
      show List.map _ (List.map _ _) = _
      rw [List.map_map]
      exact List.map_id _
    have ed : gsD x.gs ++ [.tuple (sTs [c])] = ps.map ptD := by
      show _ = List.map _ (List.map _ _)
      rw [List.map_map, List.map_append]
      rfl
    have po : PtOk x.cs (ps.map (·.2)) := by rw [ep]; exact tak_ok F hc
    refine s_ret A2 (ev_tupP (ea_consP (ev_ofU (evu_var rfl) fun G v h => ⟨_, h.dp, rfl⟩) (ea_consP (ev_callV2 (n := 1) (Pl := Is [.list (ps.map ptD)]) x.cs (evu_var rfl) (ea_cons (ev_is (ev_lst (l := gsD x.gs ++ [.tuple (sTs [c])]) (ea_star (ev_var rfl) .t (ea_cons (ev_tup (ea_cons (ev_var rfl) ea_nil) (by show 1 ≤ 1000; decide)) ea_nil)) ?_) (by rw [ed])) ea_nil) fun ds e => ⟨by rw [e]; rfl, ps, e, po, ?_, by omega⟩) (ea_cons (ev_var rfl) (ea_cons (ev_var rfl) ea_nil)))) (fun l h => ?_)) (fun v d G' H' g j p e => k v d G' H' g.nob p fun c2 e2 => ?_)
    · unfold gsD
      rw [List.length_append, List.length_map]
      show _ + 1 ≤ 1000
      omega
    · show (List.map _ _).length ≤ 100
      rw [List.length_map, List.length_append]
      show _ + 1 ≤ 100
      omega
    · obtain ⟨d, ds, rfl, _, d2, ds2, rfl, _, e⟩ := h
      rw [e]
      show 4 ≤ 1000
      decide
    · simp only [List.cons.injEq, and_true, PyData.str.injEq] at e2
      subst e2
      obtain ⟨l, rfl, d1, ds1, rfl, rfl, d2, ds2, rfl, ⟨dl, rfl, h2⟩, rfl⟩ := e
      rw [h2 ps rfl, ep]
      rfl
end
end K05
set_option Elab.async false
set_option linter.all false
set_option maxRecDepth 100000
set_option maxHeartbeats 4000000
namespace K05
open PySem L2 Dl
section
variable {P : Program} {w : World} {K : PySem.W.Frag} {mg : Str → Option Value} {base : Heap}
abbrev sp_is_name (K : PySem.W.Frag) : Sp := spR K 1 dNm rTrue
theorem ok_is_name (T : Txt K mg) : FnOk P w K mg base CX0 1 T.f_is_name T.g_is_name ["thing"] (sp_is_name K) := by
  refine T.d_is_name.fn.ok sc_is_name (fun vs H Q E h => ?_) (fun cdv A outer s H vs Q E hr h => ?_)
  · exact spR_len h
  · have nd := nd_is_name
    refine ⟨_, (pss_cons (ps_if (PW.pt (pw_or (pt_not (pt_val (pe_callB (id := "isinstance") (r := rIsi K) call_isi (by rfl) T.b_isinstance (by decide +kernel) (pa_cons (pv 0) (pa_cons (pe_bltn (v := .ty "str") rfl T.b_str (by decide +kernel) rfl) pa_nil))))) (pw_or1 (pt_not (pt_chain op_le op_le pe_int (pe_callB (id := "len") (r := Dl.rLenS) Dl.cr_lenS (by rfl) T.b_len (by decide +kernel) (pa_cons (pv 0) pa_nil)) pe_int))))) (pss_one (ps_ret pe_bl)) pss_nil)
      (pss_one (ps_ret (pe_callB (id := "all") (r := rAll K) (cr_all rfl) (by rfl) T.b_all (by decide +kernel) (pa_cons (pe_lc (own := [("letter", 1)]) (g := gName 1) rfl nd (pi_str (pv 0)) (blkOk_by (own := [("letter", 1)]) (N := N_is_name) (sc := defScope s_is_name) (by decide +kernel)) (fun _ _ _ _ _ => (pg_name (i := 1) nd rfl (Or.inl rfl))) (fun _ _ _ _ _ => pts_nil) (fun _ _ _ _ _ => (pe_cmpR (r := Dl.rInStr) Dl.op_inStr (pv 1) (pe_glob (v := .str "abcdefghijklmnopqrstuvwxyz") rfl T.c_LETTERS ⟨_, rfl⟩) (by with_unfolding_all rfl)))) pa_nil))))), ?_⟩
    obtain ⟨hl, ds, G, sG, da, dm, k⟩ := h
    obtain ⟨x, rfl, n1, n2, n3⟩ := dm
    have A := at_pure (N := N_is_name) sG da (by rw [hl]; decide)
    have xl : x.cps.size = x.length := rfl
    refine q_when (Pt := Is false) A (et_imp (et_or (c := false) (d := false) (et_not (c := true) (et_T (ev_isiStr (ev_var rfl)))) fun _ => et_not (c := true) (et_imp (et_T (ev_chainLL ev_int (ev_cb (ea_cons (ev_var rfl) ea_nil) (rc_lenS (by omega))) ev_int)) fun c e => by rw [e]; simp; omega)) fun c e => e) (fun e => (nomatch e)) (fun _ G2 H2 A2 => ?_)
    refine s_ret A2 (ev_cb (ea_cons (ev_newI (en_decA (enc := fun c : Nat => .str ⟨#[c]⟩) (L := x.cps.toList) (g := fun c => .bool (subS' ⟨#[c]⟩ alphaS)) (f := fun y env => env.set 1 (.d y)) (fun a c h => by injection h with h; injection h with h; simpa using h) (ei_str (ev_var rfl)).g (by rw [Array.length_toList, xl]; omega) (fun a _ => tg_name (by decide)) (fun c hc => ev_inStr (ev_var rfl) ev_str))) ea_nil) rc_allM) (fun v d G' H' g j p e => k v d G' H' g.nob p ?_)
    rw [e]
    exact congrArg PyData.bool n3
abbrev sp_is_tuple_of (K : PySem.W.Frag) : Sp := spR K 2 dTupN rTupN
theorem ok_is_tuple_of (T : Txt K mg) : FnOk P w K mg base CX0 1 T.f_is_tuple_of T.g_is_tuple_of ["thing", "many"] (sp_is_tuple_of K) := by
  refine T.d_is_tuple_of.fn.ok sc_is_tuple_of (fun vs H Q E h => ?_) (fun cdv A outer s H vs Q E hr h => ?_)
  · exact spR_len h
  · have nd := nd_is_tuple_of
    refine ⟨_, (pss_one (ps_ret (pe_and (pe_callB (id := "isinstance") (r := rIsi K) call_isi (by rfl) T.b_isinstance (by decide +kernel) (pa_cons (pv 0) (pa_cons (pe_bltn (v := .ty "tuple") rfl T.b_tuple (by decide +kernel) rfl) pa_nil))) (pe_one (pe_cmpR op_eq (pe_callB (id := "len") (r := Dl.rLen K) call_len_seq (by rfl) T.b_len (by decide +kernel) (pa_cons (pv 0) pa_nil)) (pv 1) (nomark _)))))), ?_⟩
    obtain ⟨hl, ds, G, sG, da, dm, k⟩ := h
    obtain ⟨l, n, rfl⟩ := dm
    have A := at_pure (N := N_is_tuple_of) sG da (by rw [hl]; decide)
    refine s_ret A (ev_andV (c := true) (d := decide (l.length = n)) (ev_isiTup (ev_var rfl)) fun _ => ev_imp (ev_eqI (ev_cb (ea_cons (ev_var rfl) ea_nil) rc_lenT) (ev_var rfl)) fun d e => ?_) (fun v d G' H' g j p e => k v d G' H' g.nob p fun l2 n2 e2 => ?_)
    · rw [e]
      show PyData.bool _ = .bool _
      rw [decide_eq_decide.mpr (show ((l.length : Nat) : Int) = ((n : Nat) : Int) ↔ l.length = n by omega)]
    · simp only [List.cons.injEq, and_true, PyData.tuple.injEq, PyData.int.injEq] at e2
      have : n = n2 := by omega
      rw [e, ← e2.1, ← this]
      rfl
abbrev sp_is_ascending (K : PySem.W.Frag) : Sp := spR K 1 dAsc rTrue
theorem ok_is_ascending (T : Txt K mg) : FnOk P w K mg base CX0 1 T.f_is_ascending T.g_is_ascending ["numbers"] (sp_is_ascending K) := by
  refine T.d_is_ascending.fn.ok sc_is_ascending (fun vs H Q E h => ?_) (fun cdv A outer s H vs Q E hr h => ?_)
  · exact spR_len h
  · have nd := nd_is_ascending
    refine ⟨_, (pss_one (ps_ret (pe_callB (id := "all") (r := rAll K) (cr_all rfl) (by rfl) T.b_all (by decide +kernel) (pa_cons (pe_lc (own := [("low", 1), ("high", 2)]) (g := gTup K 2 (gCons (gName 1) (gCons (gName 2) gNil))) rfl nd (Dl.pi_zipK (K := K) rfl T.b_zip (pa_cons (pv 0) (pa_cons (pe_slice (r := rSlL K) sl_list (pv 0) (po_some pe_int) po_none) pa_nil))) (blkOk_by (own := [("low", 1), ("high", 2)]) (N := N_is_ascending) (sc := defScope s_is_ascending) (by decide +kernel)) (fun _ _ _ _ _ => (pg_tup rfl (pgs_cons (pg_name (i := 1) nd rfl (Or.inl rfl)) (pgs_cons (pg_name (i := 2) nd rfl (Or.inl rfl)) pgs_nil)))) (fun _ _ _ _ _ => pts_nil) (fun _ _ _ _ _ => (pe_cmpR op_lt (pv 1) (pv 2) (nomark _)))) pa_nil)))), ?_⟩
    obtain ⟨hl, ds, G, sG, da, dm, k⟩ := h
    obtain ⟨l, rfl, ll, up⟩ := dm
    have A := at_pure (N := N_is_ascending) sG da (by rw [hl]; decide)
    refine s_ret A (ev_cb (ea_cons (ev_newI (en_decA (enc := fun p : Nat × Nat => .tuple [.int (p.1 : Nat), .int (p.2 : Nat)]) (L := l.zip (l.drop 1)) (g := fun p => .bool (decide (p.1 < p.2))) (f := setPair 1 2) (fun a c h => by simp only [PyData.tuple.injEq, List.cons.injEq, PyData.int.injEq, and_true] at h; exact Prod.ext (by omega) (by omega)) (evg_is (ei_zipB (ea_cons (ev_var rfl) (ea_cons (ev_imp (ev_new (en_slL (ev_var rfl) (eo_some ev_int) eo_none)) fun d ⟨m, e1, lo, hi, e2, e3, e4⟩ => show d = .list (natL (l.drop 1)) from ?_) ea_nil)) .l .l) (pairs_NN _ _)) (by rw [List.length_zip]; omega) (fun a _ => tg_pair (by decide) (by decide)) (fun p hp => ?_))) ea_nil) rc_allM) (fun v d G' H' g j p e => k v d G' H' g.nob p ?_)
    · rw [e1, e4, e2, e3, cut_from1, natL_drop]
    · refine ev_imp (ev_B0 (ev_var rfl) (ev_var rfl)) fun d e => ?_
      rw [e]
      show PyData.bool _ = .bool _
      rw [decide_eq_decide.mpr (show ((p.1 : Nat) : Int) < ((p.2 : Nat) : Int) ↔ p.1 < p.2 by omega)]
    · rw [e]
      show PyData.bool _ = .bool true
      refine congrArg _ ?_
      rw [List.all_eq_true]
      intro p hp
      obtain ⟨i, hi⟩ := List.mem_iff_getElem?.mp hp
      obtain ⟨h1, h2⟩ := List.getElem?_zip_eq_some.mp hi
      rw [List.getElem?_drop] at h2
      obtain ⟨q1, e1⟩ := List.getElem?_eq_some_iff.mp h1
      obtain ⟨q2, e2⟩ := List.getElem?_eq_some_iff.mp h2
      have := List.pairwise_iff_getElem.mp up i (1 + i) q1 q2 (by omega)
      rw [e1, e2] at this
      exact decide_eq_true this
end
end K05
set_option Elab.async false
set_option linter.all false
set_option maxRecDepth 100000
set_option maxHeartbeats 4000000
namespace K05
open PySem L2 Dl
section
variable {P : Program} {w : World} {K : PySem.W.Frag} {mg : Str → Option Value} {base : Heap}
abbrev sp_are_cells (K : PySem.W.Frag) : Sp := spR K 1 dCells rTrue
theorem ok_are_cells (T : Txt K mg) : FnOk P w K mg base CX0 2 T.f_are_cells T.g_are_cells ["thing"] (sp_are_cells K) := by
  refine T.d_are_cells.fn.ok sc_are_cells (fun vs H Q E h => ?_) (fun cdv A outer s H vs Q E hr h => ?_)
  · exact spR_len h
  · have nd := nd_are_cells
    refine ⟨_, (pss_cons (ps_if (PW.pt (pw_or (pt_not (pt_val (pe_callB (id := "isinstance") (r := rIsi K) call_isi (by rfl) T.b_isinstance (by decide +kernel) (pa_cons (pv 0) (pa_cons (pe_bltn (v := .ty "tuple") rfl T.b_tuple (by decide +kernel) rfl) pa_nil))))) (pw_or1 (pt_not (pt_val (pe_callB (id := "all") (r := rAll K) (cr_all rfl) (by rfl) T.b_all (by decide +kernel) (pa_cons (pe_lc (own := [("cell", 1)]) (g := gName 1) rfl nd (Dl.pi_tupK (K := K) (pv 0)) (blkOk_by (own := [("cell", 1)]) (N := N_are_cells) (sc := defScope s_are_cells) (by decide +kernel)) (fun _ _ _ _ _ => (pg_name (i := 1) nd rfl (Or.inl rfl))) (fun _ _ _ _ _ => pts_nil) (fun _ _ _ _ _ => (Dl.pc T.d_is_name (ok_is_name T) (hr.mono (by decide)) rfl (pa_cons (pv 1) pa_nil)))) pa_nil))))))) (pss_one (ps_ret pe_bl)) pss_nil)
      (pss_one (ps_ret (pe_and (pe_cmpR op_gt (pe_callB (id := "len") (r := Dl.rLen K) call_len_seq (by rfl) T.b_len (by decide +kernel) (pa_cons (pv 0) pa_nil)) pe_int (nomark _)) (pe_one (pe_cmpR op_eq (Dl.pe_lenTx rfl T.b_len rfl T.b_set (pv 0)) (pe_callB (id := "len") (r := Dl.rLen K) call_len_seq (by rfl) T.b_len (by decide +kernel) (pa_cons (pv 0) pa_nil)) (nomark _))))))), ?_⟩
    obtain ⟨hl, ds, G, sG, da, dm, k⟩ := h
    obtain ⟨cs, rfl, nm, cnd, ne, ll⟩ := dm
    have A := at_pure (N := N_are_cells) sG da (by rw [hl]; decide)
    have pos : 0 < cs.length := List.length_pos_iff.mpr ne
    have stl : (sTs cs).length = cs.length := by unfold sTs; rw [List.length_map]
    refine q_when (Pt := Is false) A (et_imp (et_or (c := false) (d := false) (et_not (c := true) (et_T (ev_isiTup (ev_var rfl)))) fun _ => et_not (c := true) (et_T (ev_is (ev_cb (ea_cons (ev_newI (en_decA (enc := .str) (L := cs) (g := fun _ => .bool true) (f := fun y env => env.set 1 (.d y)) (fun _ _ => str_inj) (ei_tup (l := sTs cs) (ev_var rfl)).g (by omega) (fun a _ => tg_name (by decide)) (fun c hc => ev_callV (ea_cons (ev_var rfl) ea_nil) rfl ⟨c, rfl, nm c hc⟩ fun d h => h))) ea_nil) (rc_allM (f := fun _ => true))) (by simp)))) fun c e => e) (fun e => (nomatch e)) (fun _ G2 H2 A2 => ?_)
    refine s_ret A2 (ev_andV (c := true) (d := true) (ev_imp (ev_B0 (ev_cb (ea_cons (ev_var rfl) ea_nil) (rc_lenT (l := sTs cs))) ev_int) fun d e => ?_) fun _ => ev_imp (ev_eqI (ev_lenTx (ev_var rfl) cnd (by omega)) (ev_cb (ea_cons (ev_var rfl) ea_nil) (rc_lenT (l := sTs cs)))) fun d e => ?_) (fun v d G' H' g j p e => k v d G' H' g.nob p e)
    · rw [e, stl]
      show PyData.bool _ = .bool true
      rw [decide_eq_true (by omega)]
    · rw [e, stl]
      show PyData.bool _ = .bool true
      rw [decide_eq_true rfl]
abbrev sp_places_in_order (K : PySem.W.Frag) : Sp := spV K 1 (fun cs : List Str => PlK K cs) dPio rPio
theorem ok_places_in_order (T : Txt K mg) : FnOk P w K mg base CX0 2 T.f_places_in_order T.g_places_in_order ["places", "thing"] (sp_places_in_order K) := by
  refine T.d_places_in_order.fn.ok sc_places_in_order (fun vs H Q E h => ?_) (fun cdv A outer s H vs Q E hr h => ?_)
  · exact spV_len h
  · have nd := nd_places_in_order
    refine ⟨_, (pss_cons (ps_if (pt_not (pt_val (pe_callB (id := "isinstance") (r := rIsi K) call_isi (by rfl) T.b_isinstance (by decide +kernel) (pa_cons (pv 1) (pa_cons (pe_bltn (v := .ty "tuple") rfl T.b_tuple (by decide +kernel) rfl) pa_nil))))) (pss_one (ps_ret pe_non)) pss_nil)
      (pss_cons (ps_if (pt_not (pt_val (pe_callB (id := "all") (r := rAll K) (cr_all rfl) (by rfl) T.b_all (by decide +kernel) (pa_cons (pe_lc (own := [("cell", 3)]) (g := gName 3) rfl nd (Dl.pi_tupK (K := K) (pv 1)) (blkOk_by (own := [("cell", 3)]) (N := N_places_in_order) (sc := defScope s_places_in_order) (by decide +kernel)) (fun _ _ _ _ _ => (pg_name (i := 3) nd rfl (Or.inl rfl))) (fun _ _ _ _ _ => pts_nil) (fun _ _ _ _ _ => (pe_and (Dl.pc T.d_is_name (ok_is_name T) (hr.mono (by decide)) rfl (pa_cons (pv 3) pa_nil)) (pe_one (pe_cmp (pc_din (hu_of hr) (pv 3) (pv 0))))))) pa_nil)))) (pss_one (ps_ret pe_non)) pss_nil)
      (pss_cons (ps_setLc (i := 2) (own := [("cell", 3)]) (g := gName 3) rfl nd rfl rfl (sw_true rfl rfl rfl (by decide +kernel)) (Dl.pi_tupK (K := K) (pv 1)) (blkOk_by (own := [("cell", 3)]) (N := N_places_in_order) (sc := defScope s_places_in_order) (by decide +kernel)) (fun _ _ _ _ _ => (pg_name (i := 3) nd rfl (Or.inl rfl))) (fun _ _ _ _ _ => pts_nil) (fun _ _ _ _ _ => (pe_dget (hu_of hr) (pv 0) (pv 3) (fun _ _ => rfl))))
      (pss_one (ps_ret (pe_ifExp (pt_val (Dl.pc T.d_is_ascending (ok_is_ascending T) (hr.mono (by decide)) rfl (pa_cons (pv 2) pa_nil))) (pv 2) pe_non)))))), ?_⟩
    obtain ⟨v, ws, rfl, hl, cs, ds, G, sG, u, da, dm, k⟩ := h
    obtain ⟨g, rfl, nm, cnd, sb, cl⟩ := dm
    have A := at_pureV (N := N_places_in_order) sG u da (by rw [hl]; decide)
    have gl : g.length ≤ 12 := Nat.le_trans sb.length_le cl
    have gm : ∀ c ∈ g, c ∈ cs := fun c hc => sb.subset hc
    refine q_when (Pt := Is false) A (et_not (c := true) (et_T (ev_isiTup (ev_var rfl)))) (fun e => (nomatch e)) (fun _ G2 H2 A2 => ?_)
    refine q_when (Pt := Is false) A2 (et_not (c := true) (et_T (ev_is (ev_cb (ea_cons (ev_newI (en_decA (enc := .str) (L := g) (g := fun _ => .bool true) (f := fun y env => env.set 3 (.d y)) (fun _ _ => str_inj) (ei_tup (l := sTs g) (ev_var rfl)).g (by omega) (fun a _ => tg_name (by decide)) (fun c hc => ev_andV (c := true) (d := true) (ev_callV (ea_cons (ev_var rfl) ea_nil) rfl ⟨c, rfl, nm c (gm c hc)⟩ fun d h => h) fun _ => ev_is (et_dIn (x := c) (ev_var rfl) (evu_var rfl)) (by rw [decide_eq_true (gm c hc)])))) ea_nil) (rc_allM (f := fun _ => true))) (by simp)))) (fun e => (nomatch e)) (fun _ G3 H3 A3 => ?_)
    refine q_asg A3 (ev_newI (en_decA (enc := .str) (L := g) (g := fun c => .int (cs.idxOf c : Nat)) (f := fun y env => env.set 3 (.d y)) (fun _ _ => str_inj) (ei_tup (l := sTs g) (ev_var rfl)).g (by omega) (fun a _ => tg_name (by decide)) (fun c hc => ev_dGet (evu_var rfl) (ev_var rfl) ?_))) fun d σ4 G4 H4 e A4 => ?_
    · have lt := List.idxOf_lt_length_iff.mpr (gm c hc)
      unfold natL
      rw [List.getElem?_map, List.getElem?_range lt]
      rfl
    · have e1 : (g.map fun c => PyData.int (cs.idxOf c : Nat)) = natL (g.map cs.idxOf) := by unfold natL; rw [List.map_map]; rfl
      rw [e1] at e
      subst e
      refine s_ret A4 (ev_if (Pt := Is true) (P := Is (.list (natL (g.map cs.idxOf)))) (et_T (ev_callV (ea_cons (ev_var rfl) ea_nil) rfl ⟨_, rfl, by rw [List.length_map]; omega, idx_mono cnd sb⟩ fun d h => h)) (fun _ => ev_var rfl) (fun e => (nomatch e))) (fun v d G' H' g2 j p e => k v d G' H' g2.nob p fun g3 e2 => ?_)
      simp only [List.cons.injEq, and_true, PyData.tuple.injEq] at e2
      rw [e, sts_inj e2]
end
end K05
set_option Elab.async false
set_option linter.all false
set_option maxRecDepth 100000
set_option maxHeartbeats 4000000
namespace K05
open PySem L2 Dl
section
variable {P : Program} {w : World} {K : PySem.W.Frag} {mg : Str → Option Value} {base : Heap}
abbrev sp_are_parts (K : PySem.W.Frag) : Sp := spR K 3 dPts rTrue
theorem ok_are_parts (T : Txt K mg) : FnOk P w K mg base CX0 3 T.f_are_parts T.g_are_parts ["cells", "groups", "added"] (sp_are_parts K) := by
  refine T.d_are_parts.fn.ok sc_are_parts (fun vs H Q E h => ?_) (fun cdv A outer s H vs Q E hr h => ?_)
  · exact spR_len h
  · have nd := nd_are_parts
    refine ⟨_, (pss_cons (ps_set (i := 3) nd rfl (Or.inr rfl) (pe_dc (own := [("place", 6), ("cell", 7)]) (g := gTup K 2 (gCons (gName 6) (gCons (gName 7) gNil))) rfl nd (Dl.pi_enumK (K := K) rfl T.b_enumerate (pa_cons (pv 0) pa_nil)) (blkOk_by (own := [("place", 6), ("cell", 7)]) (N := N_are_parts) (sc := defScope s_are_parts) (by decide +kernel)) (fun _ _ _ _ _ => (pg_tup rfl (pgs_cons (pg_name (i := 6) nd rfl (Or.inl rfl)) (pgs_cons (pg_name (i := 7) nd rfl (Or.inl rfl)) pgs_nil)))) (fun _ _ _ _ _ => pts_nil) (fun _ _ _ _ _ => (pv 7)) (fun _ _ _ _ _ => (pv 6))))
      (pss_cons (ps_setLc (i := 4) (own := [("part", 8)]) (g := gName 8) rfl nd rfl rfl (sw_true rfl rfl rfl (by decide +kernel)) (Dl.pi_tupK (K := K) (pe_tup (StX.pa_star (pv 1) (pa_cons (pv 2) pa_nil)))) (blkOk_by (own := [("part", 8)]) (N := N_are_parts) (sc := defScope s_are_parts) (by decide +kernel)) (fun _ _ _ _ _ => (pg_name (i := 8) nd rfl (Or.inl rfl))) (fun _ _ _ _ _ => pts_nil) (fun _ _ _ _ _ => (Dl.pc T.d_places_in_order (ok_places_in_order T) (hr.mono (by decide)) rfl (pa_cons (pv 3) (pa_cons (pv 8) pa_nil)))))
      (pss_cons (ps_if (PW.pt (pw_or (pt_cmpR (r := rInD K) (op_inD (Dl.units65 hr)) pe_non (pv 4) (by with_unfolding_all rfl)) (pw_or1 (pt_cmpR (r := rInD K) (op_inD (Dl.units65 hr)) (pe_lst pa_nil) (pe_slice (r := rSlL K) sl_list (pv 4) po_none (po_some (pe_un un_neg pe_int))) (by with_unfolding_all rfl))))) (pss_one (ps_ret pe_bl)) pss_nil)
      (pss_cons (ps_setLc2 (i := 5) (own := [("part", 8), ("place", 6)]) (vs1 := [6]) (g := gName 8) (g1 := gName 6) rfl nd rfl rfl (sw_true rfl rfl rfl (by decide +kernel)) (Dl.pi_listK (K := K) (pv 4)) (blkOk_by (own := [("part", 8), ("place", 6)]) (N := N_are_parts) (sc := defScope s_are_parts) (by decide +kernel)) (by decide) (fun _ _ _ _ _ => (pg_name (i := 8) nd rfl (Or.inl rfl))) (fun _ _ _ _ _ => pts_nil) (fun _ _ _ _ _ => (Dl.pi_listK (K := K) (pv 8))) (fun _ _ _ _ _ => (pg_name (i := 6) nd rfl (Or.inl rfl))) (fun _ _ _ _ _ => pts_nil) (fun _ _ _ _ _ => (pv 6)))
      (pss_one (ps_ret (pe_and (Dl.pc T.d_is_ascending (ok_is_ascending T) (hr.mono (by decide)) rfl (pa_cons (pe_lc (own := [("part", 8)]) (g := gName 8) rfl nd (Dl.pi_listK (K := K) (pe_slice (r := rSlL K) sl_list (pv 4) po_none (po_some (pe_un un_neg pe_int)))) (blkOk_by (own := [("part", 8)]) (N := N_are_parts) (sc := defScope s_are_parts) (by decide +kernel)) (fun _ _ _ _ _ => (pg_name (i := 8) nd rfl (Or.inl rfl))) (fun _ _ _ _ _ => pts_nil) (fun _ _ _ _ _ => (pe_ix (r := rIxL K) ix_list (pv 8) pe_int (fun _ _ => rfl)))) pa_nil)) (pe_one (pe_cmpR (r := rEqD K) (op_eqD hr.units) (pe_callB (id := "sorted") (r := rSortedI K) cr_sortedI (by rfl) T.b_sorted (by decide +kernel) (pa_cons (pv 5) pa_nil)) (pe_listRg rfl rfl T.b_list (prg_1 rfl T.b_range (pe_callB (id := "len") (r := Dl.rLen K) call_len_seq (by rfl) T.b_len (by decide +kernel) (pa_cons (pv 0) pa_nil)))) (nomark _)))))))))), ?_⟩
    obtain ⟨hl, ds, G, sG, da, dm, k⟩ := h
    obtain ⟨cs, gs, fs, w, rfl, F, nm⟩ := dm
    have A := at_pure (N := N_are_parts) sG da (by rw [hl]; decide)
    have gl := F.gl
    have cl := F.le
    have z1 : cs.zipIdx.map (·.1) = cs := by simp
    have z2 : cs.zipIdx.map (fun x => PyData.int ((x.2 : Nat) : Int)) = natL (List.range cs.length) := by
      rw [show (fun x : Str × Nat => PyData.int ((x.2 : Nat) : Int)) = (fun i : Nat => PyData.int ((i : Nat) : Int)) ∘ (·.2) from rfl, ← List.map_map]
      unfold natL
      congr 1
      rw [List.zipIdx_map_snd, List.range'_eq_map_range]
      simp
    have all : ∀ g ∈ gs ++ [fs], g.Sublist cs := fun g hg => by
      rcases List.mem_append.mp hg with hg | hg
      · exact (F.ps g hg).2
      · rw [List.mem_singleton.mp hg]; exact F.fr
    have la : (gs ++ [fs]).length ≤ 13 := by rw [List.length_append]; show _ + 1 ≤ 13; omega
    let ix : List Str → List Nat := fun g => g.map cs.idxOf
    have ixl : ∀ g ∈ gs ++ [fs], (ix g).length ≤ 12 := fun g hg => by
      show (g.map _).length ≤ 12
      rw [List.length_map]
      exact Nat.le_trans (all g hg).length_le cl
    have ixm : ∀ g ∈ gs ++ [fs], ∀ i ∈ ix g, i < 2 ^ 60 := fun g hg i hi => by
      obtain ⟨c, hc, rfl⟩ := List.mem_map.mp hi
      have := List.idxOf_lt_length_iff.mpr ((all g hg).subset hc)
      have h60 : 12 ≤ (2 : Nat) ^ 60 := by decide
      omega
    refine q_asgU (R := PlK K cs) A (evu_eq (evu_dc (α := Str × Nat) (enc := encEn .str) (fk := (·.1)) (fv := fun x => .int (x.2 : Nat)) (L := cs.zipIdx) (f := setPair 6 7) (ei_is (ei_enumB (ea_cons (ev_var rfl) ea_nil) .t) (enumL_map .str cs)) (by rw [List.length_zipIdx]; omega) (fun x _ => tg_pair (by decide) (by decide)) (by rw [z1]; exact F.nd) (fun x _ => ev_var rfl) (fun x _ => ev_var rfl)) (by rw [z1, z2]; try rfl)) fun σ2 G2 H2 A2 => ?_
    refine q_asg A2 (ev_newI (en_decA (enc := fun g => .tuple (sTs g)) (L := gs ++ [fs]) (g := fun g => .list (natL (ix g))) (f := fun y env => env.set 8 (.d y)) tupS_inj (ei_is (ei_tup (ev_tup (l := gsD gs ++ [.tuple (sTs fs)]) (ea_star (ev_var rfl) .t (ea_cons (ev_var rfl) ea_nil)) (by unfold gsD; rw [List.length_append, List.length_map]; show _ + 1 ≤ 1000; omega))) (by unfold gsD; rw [List.map_append]; try rfl)).g (by omega) (fun a _ => tg_name (by decide)) (fun g hg => ev_imp (ev_callV2 (n := 1) (Pl := Is [.tuple (sTs g)]) cs (evu_var rfl) (ea_cons (ev_var rfl) ea_nil) fun ds e => ⟨by rw [e]; rfl, g, e, nm, F.nd, all g hg, cl⟩) fun d ⟨ds, e1, h⟩ => h g e1))) fun d σ3 G3 H3 e A3 => ?_
    subst e
    have pe : ((gs ++ [fs]).map fun g => PyData.list (natL (ix g))).dropLast = gs.map fun g => .list (natL (ix g)) := by
      rw [List.map_append]
      exact List.dropLast_concat
    have shp : ∀ (L : List (List Str)), L.length ≤ 13 → (∀ g ∈ L, g ∈ gs ++ [fs]) → SeqAt.shaped (.list (L.map fun g => PyData.list (natL (ix g)))) = true := fun L hl hm => by
      refine sma_shaped (w := (201 * 12 + 1) * (L.map fun g => PyData.list (natL (ix g))).length) (h := 1) (sma_all fun z hz => ?_) (by decide)
      obtain ⟨g, hg, rfl⟩ := List.mem_map.mp hz
      exact sm_nats (ixl g (hm g hg)) (ixm g (hm g hg))
    let D3 : List PyData := (gs ++ [fs]).map fun g => PyData.list (natL (ix g))
    have cut : ∀ {env : List Sl}, env[4]? = some (.d (.list D3)) → EvP K env none [] (tSl (rSlL K) (tVar 4) tNoPart (tPart (tUn (rU fun i => .int (-i)) (tC (.int 1))))) (Is (.list (gs.map fun g => .list (natL (ix g))))) := fun {env} h =>
      ev_imp (ev_new (en_slL (ev_var h) eo_none (eo_some (ev_un (g := fun i => -i) ev_int)))) fun d ⟨m, e1, lo, hi, e2, e3, e4⟩ => by
        rw [e1, e4, e2, e3]
        show PyData.list (cutD D3 none (some (-1))) = _
        rw [cut_but1, pe]
    have ixn : ∀ g ∈ gs, ix g ≠ [] := fun g hg e => (F.ps g hg).1 (List.map_eq_nil_iff.mp e)
    refine q_when (Pt := Is false) A3 (et_imp (et_or (c := false) (d := false) (et_T (ev_is (ev_inD (d := .none) (ds := D3) ev_non (ev_var rfl) (by decide) (shp _ la fun g hg => hg)) ?_)) fun _ => et_T (ev_is (ev_inD (d := .list []) (ev_lst ea_nil (by decide)) (cut rfl) (by decide) (shp gs (by omega) fun g hg => List.mem_append_left _ hg)) ?_)) fun c e => e) (fun e => (nomatch e)) (fun _ G4 H4 A4 => ?_)
    · congr 1
      rw [List.any_eq_false]
      intro z hz
      obtain ⟨g, _, rfl⟩ := List.mem_map.mp hz
      simp [PyData.eqv]
    · congr 1
      rw [List.any_eq_false]
      intro z hz
      obtain ⟨g, hg, rfl⟩ := List.mem_map.mp hz
      rw [eqv_list0]
      have := ixn g hg
      unfold natL
      simpa using this
    have e0 : ((gs ++ [fs]).map ix).flatMap (fun a => a.map fun i : Nat => PyData.int (i : Nat)) = natL ((gs ++ [fs]).map ix).flatten := by
      unfold natL
      rw [List.map_flatten, List.flatMap_def]
    have lf : ((gs ++ [fs]).map ix).flatten.length = cs.length := by
      have := (parts_all F).length_eq
      rw [← this, ← List.map_flatten, List.length_map]
    refine q_asg A4 (ev_newI (en_lc2 (enc := fun l : List Nat => .list (natL l)) (en2 := fun i : Nat => .int (i : Nat)) (L := (gs ++ [fs]).map ix) (M := fun l => l) (g := fun _ i => .int (i : Nat)) (f := fun y env => env.set 8 (.d y)) (f1 := fun y env => env.set 6 (.d y)) (ei_is (ei_list (ev_var (d := .list D3) rfl)) (by rw [List.map_map]; rfl)) (fun a _ => tg_name (by decide)) (fun a ha => ei_list (ev_var rfl)) (fun a _ c _ => tg_name (by decide)) (fun a _ c _ => ev_var rfl) (by rw [e0, natL_len, lf]; omega))) fun d σ5 G5 H5 e A5 => ?_
    rw [e0] at e
    subst e
    have ei : intL cs.length = natL (List.range cs.length) := rfl
    have rs : ∀ i ∈ List.range cs.length, i < 2 ^ 60 := fun i hi => by
      have h1 := List.mem_range.mp hi
      have h60 : 12 ≤ (2 : Nat) ^ 60 := by decide
      omega
    refine s_ret A5 (ev_andV (c := true) (d := true) (ev_callV (ea_cons (ev_newI (en_decA (enc := fun l : List Nat => .list (natL l)) (L := gs.map ix) (g := fun l => .int (l.headD 0 : Nat)) (f := fun y env => env.set 8 (.d y)) (fun a c h => natL_inj (by injection h)) (ei_is (ei_list (cut rfl)) (by rw [List.map_map]; rfl)).g (by rw [List.length_map]; omega) (fun a _ => tg_name (by decide)) (fun l hml => ev_ixL (ev_var rfl) ev_int ?_))) ea_nil) rfl ⟨(gs.map ix).map fun l => l.headD 0, ?_, by rw [List.length_map, List.length_map]; omega, ?_⟩ fun d h => h) fun _ => ev_is (ev_eqD (x := .list (intL cs.length)) (y := .list (intL cs.length)) (ev_imp (ev_sortI (ns := ((gs ++ [fs]).map ix).flatten.map fun i : Nat => (i : Int)) (ev_is (ev_var rfl) (by rw [natL_int]))) fun d ⟨s, p, h, e⟩ => by rw [e, stood_sorted F p h]) (ev_newI (en_listRg (ev_is (ev_cb (ea_cons (ev_var rfl) ea_nil) (rc_lenT (l := sTs cs))) (by unfold sTs; rw [List.length_map])) (by omega))) ?_ ?_) ?_) (fun v d G' H' g j p e => k v d G' H' g.nob p e)
    · obtain ⟨g, hg, rfl⟩ := List.mem_map.mp hml
      have := ixn g hg
      generalize ix g = m at this
      match m, this with
      | a :: r, _ => exact atI_nat (j := 0) rfl
    · unfold natL
      rw [List.map_map, List.map_map, List.map_map]
      rfl
    · rw [List.map_map]
      exact heads_up F
    · exact (sm_nats (n := 12) (by rw [List.length_range]; exact cl) rs).shaped (by decide)
    · exact (sm_nats (n := 12) (by rw [List.length_range]; exact cl) rs).shaped (by decide)
    · rw [ei, natL_int, eqv_listI, decide_eq_true rfl]
abbrev sp_is_frame (K : PySem.W.Frag) : Sp := spR K 1 dFrm rTrue
theorem ok_is_frame (T : Txt K mg) : FnOk P w K mg base CX0 4 T.f_is_frame T.g_is_frame ["thing"] (sp_is_frame K) := by
  refine T.d_is_frame.fn.ok sc_is_frame (fun vs H Q E h => ?_) (fun cdv A outer s H vs Q E hr h => ?_)
  · exact spR_len h
  · have nd := nd_is_frame
    refine ⟨_, (pss_cons (ps_if (pt_not (pt_val (Dl.pc T.d_is_tuple_of (ok_is_tuple_of T) (hr.mono (by decide)) rfl (pa_cons (pv 0) (pa_cons pe_int pa_nil))))) (pss_one (ps_ret pe_bl)) pss_nil)
      (pss_cons (ps_asg (pv 0) (pg_tup rfl (pgs_cons (pg_name (i := 1) nd rfl (Or.inl rfl)) (pgs_cons (pg_name (i := 2) nd rfl (Or.inl rfl)) (pgs_cons (pg_name (i := 3) nd rfl (Or.inl rfl)) (pgs_cons (pg_name (i := 4) nd rfl (Or.inl rfl)) pgs_nil))))))
      (pss_cons (ps_if (PW.pt (pw_or (pt_not (pt_val (Dl.pc T.d_are_cells (ok_are_cells T) (hr.mono (by decide)) rfl (pa_cons (pv 1) pa_nil)))) (pw_or (pt_not (pt_val (pe_callB (id := "isinstance") (r := rIsi K) call_isi (by rfl) T.b_isinstance (by decide +kernel) (pa_cons (pv 2) (pa_cons (pe_bltn (v := .ty "tuple") rfl T.b_tuple (by decide +kernel) rfl) pa_nil))))) (pw_or1 (pt_cmpR (r := rIn K true) op_notIn_seq (pv 4) (pe_glob (v := .ref T.D_WAYS) rfl T.c_WAYS rfl) (by with_unfolding_all rfl)))))) (pss_one (ps_ret pe_bl)) pss_nil)
      (pss_one (ps_ret (Dl.pc T.d_are_parts (ok_are_parts T) (hr.mono (by decide)) rfl (pa_cons (pv 1) (pa_cons (pv 2) (pa_cons (pv 3) pa_nil))))))))), ?_⟩
    obtain ⟨hl, ds, G, sG, da, dm, k⟩ := h
    obtain ⟨cs, gs, fs, w, rfl, F, nm⟩ := dm
    have A := at_pure (N := N_is_frame) sG da (by rw [hl]; decide)
    let D : List PyData := [.tuple (sTs cs), .tuple (gsD gs), .tuple (sTs fs), .str w]
    refine q_when (Pt := Is false) A (et_not (c := true) (et_T (ev_callV (ds := [.tuple D, .int ((4 : Nat) : Int)]) (ea_cons (ev_var rfl) (ea_cons ev_int ea_nil)) rfl ⟨D, 4, rfl⟩ fun d h => h D 4 rfl))) (fun e => (nomatch e)) (fun _ G2 H2 A2 => ?_)
    refine q_unp4 (i := 1) (l := 2) (m := 3) (n := 4) (x := .tuple (sTs cs)) (y := .tuple (gsD gs)) (z := .tuple (sTs fs)) (u := .str w) A2 (ev_var rfl) fun σ3 G3 H3 A3 => ?_
    refine q_when (Pt := Is false) A3 (et_imp (et_or (c := false) (d := false) (et_not (c := true) (et_T (ev_callV (ea_cons (ev_var rfl) ea_nil) rfl ⟨cs, rfl, nm, F.nd, F.ne, F.le⟩ fun d h => h))) fun _ => et_or (c := false) (d := false) (et_not (c := true) (et_T (ev_isiTup (ev_var rfl)))) fun _ => et_T (ev_is (ev_inT (neg := true) (l := ["usual", "strict"]) (ev_var rfl) (ev_ctup T.q_WAYS) .t) (by rcases F.wy with h | h <;> rw [h] <;> exact congrArg PyData.bool (by decide)))) fun c e => e) (fun e => (nomatch e)) (fun _ G4 H4 A4 => ?_)
    exact s_ret A4 (ev_callV (ea_cons (ev_var rfl) (ea_cons (ev_var rfl) (ea_cons (ev_var rfl) ea_nil))) rfl ⟨cs, gs, fs, w, rfl, F, nm⟩ fun d h => h) (fun v d G' H' g j p e => k v d G' H' g.nob p e)
end
end K05
set_option Elab.async false
set_option linter.all false
set_option maxRecDepth 100000
set_option maxHeartbeats 4000000
namespace K05
open PySem L2 Dl
section
variable {P : Program} {w : World} {K : PySem.W.Frag} {mg : Str → Option Value} {base : Heap}
abbrev sp__law_joined_groups (K : PySem.W.Frag) : Sp := spR K 2 dJn rJn
theorem ok__law_joined_groups (T : Txt K mg) : FnOk P w K mg base CX0 1 T.f__law_joined_groups T.g__law_joined_groups ["frame", "lots"] (sp__law_joined_groups K) := by
  refine T.d__law_joined_groups.fn.ok sc__law_joined_groups (fun vs H Q E h => ?_) (fun cdv A outer s H vs Q E hr h => ?_)
  · exact spR_len h
  · have nd := nd__law_joined_groups
    refine ⟨_, (pss_cons (ps_setLc (i := 2) (own := [("index", 5), ("group", 8)]) (g := gTup K 2 (gCons (gName 5) (gCons (gName 8) gNil))) rfl nd rfl rfl (sw_true rfl rfl rfl (by decide +kernel)) (Dl.pi_enumK (K := K) rfl T.b_enumerate (pa_cons (pe_ix (r := rIxT K) ix_tup (pv 0) pe_int (fun _ _ => rfl)) pa_nil)) (blkOk_by (own := [("index", 5), ("group", 8)]) (N := N__law_joined_groups) (sc := defScope s__law_joined_groups) (by decide +kernel)) (fun _ _ _ _ _ => (pg_tup rfl (pgs_cons (pg_name (i := 5) nd rfl (Or.inr rfl)) (pgs_cons (pg_name (i := 8) nd rfl (Or.inl rfl)) pgs_nil)))) (fun _ _ _ _ _ => (pts_one (pt_cmpR (r := rEqD K) (op_eqD hr.units) (pe_lc (own := [("lot", 3)]) (g := gName 3) rfl nd (Dl.pi_tupK (K := K) (pv 1)) (Dl.blkOk_in (blkOk_by (own := [("lot", 3)]) (N := N__law_joined_groups) (by decide +kernel))) (fun _ _ _ _ _ => (pg_name (i := 3) nd rfl (Or.inl rfl))) (fun _ _ _ _ _ => (pts_one (pt_cmpR (r := rIn K false) op_in_seq (pv 5) (pv 3) (by with_unfolding_all rfl)))) (fun _ _ _ _ _ => (pv 3))) (pe_lst pa_nil) (nomark _)))) (fun _ _ _ _ _ => (pv 8)))
      (pss_cons (ps_for PassesOwn.never rfl (Dl.pi_tupK (K := K) (pv 1)) (pg_name (i := 3) nd rfl (Or.inl rfl)) (pss_cons (ps_set (i := 4) nd rfl (Or.inr rfl) (pe_lst pa_nil))
      (pss_cons (ps_for PassesOwn.never rfl (Dl.pi_tupK (K := K) (pv 3)) (pg_name (i := 5) nd rfl (Or.inl rfl)) (pss_one (ps_expr (pe_bm PySem.F.plainAttrs_list PySem.F.slot_list_extend PySem.F.type_list_extend Dl.mt_extT (pv 4) (pa_cons (pe_ix (r := rIxT K) ix_tup (pe_ix (r := rIxT K) ix_tup (pv 0) pe_int (fun _ _ => rfl)) (pv 5) (fun _ _ => rfl)) pa_nil)))))
      (pss_one (ps_expr (pe_bm PySem.F.plainAttrs_list PySem.F.slot_list_append PySem.F.type_list_append mt_append (pv 2) (pa_cons (pe_callTy (T := "tuple") (r := Dl.rTupOf K) call_tuple_of (by rfl) T.b_tuple (by decide +kernel) (pa_cons (pe_lc (own := [("cell", 7)]) (g := gName 7) rfl nd (Dl.pi_tupK (K := K) (pe_ix (r := rIxT K) ix_tup (pv 0) pe_int (fun _ _ => rfl))) (blkOk_by (own := [("cell", 7)]) (N := N__law_joined_groups) (sc := defScope s__law_joined_groups) (by decide +kernel)) (fun _ _ _ _ _ => (pg_name (i := 7) nd rfl (Or.inl rfl))) (fun _ _ _ _ _ => (pts_one (pt_cmpR (r := rIn K false) op_in_seq (pv 7) (pv 4) (by with_unfolding_all rfl)))) (fun _ _ _ _ _ => (pv 7))) pa_nil)) pa_nil)))))))
      (pss_cons (ps_set (i := 6) nd rfl (Or.inl rfl) (pe_lst pa_nil))
      (pss_cons (ps_for PassesOwn.never rfl (Dl.pi_tupK (K := K) (pe_ix (r := rIxT K) ix_tup (pv 0) pe_int (fun _ _ => rfl))) (pg_name (i := 7) nd rfl (Or.inr rfl)) (pss_one (ps_expr (pe_bm PySem.F.plainAttrs_list PySem.F.slot_list_extend PySem.F.type_list_extend mt_extend (pv 6) (pa_cons (pe_lc (own := [("group", 8)]) (g := gName 8) rfl nd (Dl.pi_listK (K := K) (pv 2)) (blkOk_by (own := [("group", 8)]) (N := N__law_joined_groups) (sc := defScope s__law_joined_groups) (by decide +kernel)) (fun _ _ _ _ _ => (pg_name (i := 8) nd rfl (Or.inl rfl))) (fun _ _ _ _ _ => (pts_one (pt_cmpR op_eq (pe_ix (r := rIxT K) ix_tup (pv 8) pe_int (fun _ _ => rfl)) (pv 7) (nomark _)))) (fun _ _ _ _ _ => (pv 8))) pa_nil)))))
      (pss_one (ps_ret (pe_callTy (T := "tuple") (r := Dl.rTupOf K) call_tuple_of (by rfl) T.b_tuple (by decide +kernel) (pa_cons (pv 6) pa_nil)))))))), ?_⟩
    obtain ⟨hl, ds, G, sG, da, dm, k⟩ := h
    obtain ⟨cs, gs, lots, more, rfl, J⟩ := dm
    have A := at_pure (N := N__law_joined_groups) sG da (by rw [hl]; decide)
    have gl := J.gl
    have cl := J.cl
    have L := J.lt
    have Ls := L.lens
    have gA : ∀ i < gs.length, (gsD gs)[i]? = some (.tuple (sTs (gAt gs i))) ∧ (gAt gs i).length ≤ 12 := fun i hi => by
      have e : gAt gs i = gs[i] := by show gs.getD i [] = _; rw [List.getD_eq_getElem?_getD, List.getElem?_eq_getElem hi]; rfl
      unfold gsD
      rw [List.getElem?_map, List.getElem?_eq_getElem hi, e]
      exact ⟨rfl, J.gg _ (List.getElem_mem hi)⟩
    let tD : List Str → PyData := fun g => .tuple (sTs g)
    let fr : PyData := .tuple (.tuple (sTs cs) :: .tuple (gsD gs) :: more)
    have ii : ∀ i : Nat, i < gs.length → i < 2 ^ 60 := fun i hi => by
      have h60 : 13 ≤ (2 : Nat) ^ 60 := by decide
      omega
    refine q_asgM A (en_dec (enc := encEn tD) (L := gs.zipIdx) (t := fun y => !decide (y.2 ∈ lots.flatten)) (g := fun y => tD y.1) (f := setPair 5 8) (encEn_inj tupS_inj) (evg_is (ei_enumB (ea_cons (ev_ixT (ds := .tuple (sTs cs) :: .tuple (gsD gs) :: more) (ev_var rfl) ev_int (atI_nat (j := 1) rfl)) ea_nil) .t) (enumL_map tD gs)) (by rw [List.length_zipIdx]; omega) (fun a _ => tg_pair (by decide) (by decide)) (fun a ha => ?_) (fun a _ _ => ev_var rfl)) fun lf ds σ1 G1 H1 e nb A1 => ?_
    · have hi : a.2 < gs.length := by
        obtain ⟨i, hi⟩ := List.mem_iff_getElem?.mp ha
        rw [List.getElem?_zipIdx] at hi
        cases q : gs[i]? with
        | none => rw [q] at hi; cases hi
        | some g =>
          rw [q] at hi
          have := Option.some.inj hi
          have hlt := (List.getElem?_eq_some_iff.mp q).1
          rw [← this]
          simpa using hlt
      refine et_T (ev_is (ev_eqD (x := .list ((lots.filter fun l => decide (a.2 ∈ l)).map fun l => .tuple (natL l))) (y := .list []) (ev_newI (en_dec (enc := fun l => .tuple (natL l)) (L := lots) (t := fun l => decide (a.2 ∈ l)) (g := fun l => .tuple (natL l)) (f := fun y env => env.set 3 (.d y)) map_nats_inj (ei_tup (ev_var rfl)).g (by omega) (fun a _ => tg_name (by decide)) (fun l hml => et_T (ev_inN (neg := false) (ev_var rfl) (ev_var rfl) .t)) (fun l _ _ => ev_var rfl))) (ev_lst ea_nil (by decide)) (lots_shaped (L.filter _) (by omega)) (by decide)) ?_)
      rw [eqv_list0, none_in]
    have e1 : (gs.zipIdx.filter fun y => !decide (y.2 ∈ lots.flatten)).map (fun y => tD y.1) = ((freeI gs.length lots).map (gAt gs)).map tD := by
      rw [show (fun y : List Str × Nat => tD y.1) = tD ∘ (·.1) from rfl, ← List.map_map, zip_free]
    rw [e1] at e
    subst e
    let jn : List Nat → List Str := fun lot => grpF cs (lot.flatMap (gAt gs))
    let L0 : List (List Str) := (freeI gs.length lots).map (gAt gs)
    have fl : L0.length ≤ 13 := by
      have := (List.filter_sublist (l := List.range gs.length) (p := fun i => !decide (i ∈ lots.flatten))).length_le
      rw [List.length_range] at this
      show (List.map _ _).length ≤ 13
      rw [List.length_map]
      exact Nat.le_trans this gl
    refine q_for A1 (Pl := Is (lots.map fun l => .tuple (natL l))) (f := fun y env => env.set 3 (.d y)) (vs := [3]) (ei_tup (ev_var rfl)) (fun l _ y _ => tg_name (by decide))
      (fun l i env' ms' => ∃ s3 s4 s5, env' = [.d fr, .d (ltD lots), .a lf, s3, s4, s5, .un, .un, .un] ∧ ms' = [(lf, ((L0 ++ (lots.take i).map jn).map tD).map .d)])
      (fun l e => ⟨.un, .un, .un, rfl, by rw [List.take_zero, List.map_nil, List.append_nil]⟩) ?_ ?_
    · rintro l i y env' ms' Gt σ2 G2 H2 rfl hy ⟨s3, s4, s5, rfl, rfl⟩ A2 nx hnx
      obtain ⟨lot, hlot, rfl⟩ : ∃ lot, lots[i]? = some lot ∧ y = .tuple (natL lot) := by
        rw [List.getElem?_map] at hy
        cases q : lots[i]? with
        | none => rw [q] at hy; cases hy
        | some a => rw [q] at hy; exact ⟨a, rfl, (Option.some.inj hy).symm⟩
      have hml : lot ∈ lots := List.mem_of_getElem? hlot
      have ll := Ls.2.2 lot hml
      have tk : lots.take (i + 1) = lots.take i ++ [lot] := by rw [List.take_add_one, hlot]; rfl
      have len1 : (L0 ++ (lots.take i).map jn).length ≤ 26 := by
        have h1 : ((lots.take i).map jn).length ≤ lots.length := by rw [List.length_map, List.length_take]; omega
        rw [List.length_append]
        have h2 := Ls.2.1
        exact Nat.le_trans (Nat.add_le_add fl (Nat.le_trans h1 (Nat.le_trans h2 gl))) (by decide)
      have blen : ∀ n : Nat, ((lot.take n).flatMap (gAt gs)).length ≤ 12 * n := by
        intro n
        have : ∀ l : List Nat, (∀ i ∈ l, i < gs.length) → (l.flatMap (gAt gs)).length ≤ 12 * l.length := fun l => by
          induction l with
          | nil => intro _; simp
          | cons i l ih =>
            intro h
            have h1 := ih fun z hz => h z (List.mem_cons_of_mem _ hz)
            have h2 := (gA i (h i List.mem_cons_self)).2
            rw [List.flatMap_cons, List.length_append, List.length_cons]
            omega
        have h := this (lot.take n) fun i hi => ll.2 i (List.mem_of_mem_take hi)
        rw [List.length_take] at h
        have : min n lot.length ≤ n := Nat.min_le_left _ _
        omega
      refine q_asgM A2 (en_lstP ea_nil fun l e => by rw [e]; decide) fun bt ds σ3 G3 H3 e nb2 A3 => ?_
      subst e
      refine q_for A3 (Pl := Is (natL lot)) (f := fun y env => env.set 5 (.d y)) (vs := [5]) (ei_tup (ev_var rfl)) (fun l _ y _ => tg_name (by decide))
        (fun l j env' ms' => ∃ s5, env' = [.d fr, .d (ltD lots), .a lf, .d (.tuple (natL lot)), .a bt, s5, .un, .un, .un] ∧ ms' = [(bt, (sTs ((lot.take j).flatMap (gAt gs))).map .d), (lf, ((L0 ++ (lots.take i).map jn).map tD).map .d)])
        (fun l e => ⟨s5, rfl, rfl⟩) ?_ ?_
      · rintro l j y env' ms' Gt2 σ4 G4 H4 rfl hy2 ⟨s5, rfl, rfl⟩ A4 nx2 hnx2
        obtain ⟨ix, hix, rfl⟩ : ∃ ix, lot[j]? = some ix ∧ y = .int ((ix : Nat) : Int) := by
          unfold natL at hy2
          rw [List.getElem?_map] at hy2
          cases q : lot[j]? with
          | none => rw [q] at hy2; cases hy2
          | some a => rw [q] at hy2; exact ⟨a, rfl, (Option.some.inj hy2).symm⟩
        have hi := gA ix (ll.2 ix (List.mem_of_getElem? hix))
        have jl := (List.getElem?_eq_some_iff.mp hix).1
        have tk2 : lot.take (j + 1) = lot.take j ++ [ix] := by rw [List.take_add_one, hix]; rfl
        have bj := blen j
        refine s_extT (n := 0) A4 rfl rfl (ev_ixT (ds := gsD gs) (ev_ixT (ds := .tuple (sTs cs) :: .tuple (gsD gs) :: more) (ev_var rfl) ev_int (atI_nat (j := 1) rfl)) (ev_var rfl) (atI_nat hi.1)) ?_ ?_ fun G5 H5 A5 => hnx2 _ _ _ _ _ ⟨_, rfl, ?_⟩ A5
        · unfold sTs
          rw [List.length_map, List.length_map]
          omega
        · unfold sTs
          rw [List.length_map]
          omega
        · rw [tk2, List.flatMap_append]
          unfold sTs
          rw [List.map_append, List.map_append]
          simp
      · rintro l env' ms' σ4 G4 H4 rfl ⟨s5, rfl, rfl⟩ A4
        obtain ⟨G5, A5⟩ := A4.freeze (i := 4) (n := 0) rfl rfl
        rw [natL_len, List.take_length] at A5
        have ba := blen lot.length
        rw [List.take_length] at ba
        refine s_app (n := 0) A5 rfl rfl (ev_tupNI (en_dec (enc := .str) (L := cs) (t := fun c => decide (c ∈ lot.flatMap (gAt gs))) (g := .str) (f := fun y env => env.set 7 (.d y)) (fun _ _ => str_inj) (ei_tup (l := sTs cs) (ev_ixT (ds := .tuple (sTs cs) :: .tuple (gsD gs) :: more) (ev_var rfl) ev_int (atI_nat (j := 0) rfl))).g (by omega) (fun a _ => tg_name (by decide)) (fun c hc => et_T (ev_inT (neg := false) (ev_var rfl) (ev_var rfl) .l)) (fun c _ _ => ev_var rfl))) ?_ fun d G6 H6 e A6 => hnx _ _ _ _ _ ⟨_, _, _, rfl, ?_⟩ A6
        · rw [List.length_map, List.length_map]
          omega
        · rw [e, tk]
          simp only [List.map_append, List.append_assoc]
          rfl
    · rintro l env' ms' σ2 G2 H2 rfl ⟨s3, s4, s5, rfl, rfl⟩ A2
      rw [List.length_map, List.take_length] at A2
      have elf : L0 ++ lots.map jn = leftL cs gs lots := rfl
      rw [elf] at A2
      have cn := J.cn
      have lfl : (leftL cs gs lots).length ≤ 26 := by
        show (L0 ++ lots.map jn).length ≤ 26
        have h1 : (lots.map jn).length ≤ 13 := by rw [List.length_map]; omega
        rw [List.length_append]
        exact Nat.le_trans (Nat.add_le_add fl h1) (by decide)
      refine q_asgM A2 (en_lstP ea_nil fun l e => by rw [e]; decide) fun fd ds σ3 G3 H3 e nb2 A3 => ?_
      subst e
      obtain ⟨G4, A4⟩ := A3.freeze (i := 2) (n := 1) rfl rfl
      let F : Str → List (List Str) := fun c => (leftL cs gs lots).filter fun g => decide (g.headD "" = c)
      refine q_for A4 (Pl := Is (sTs cs)) (f := fun y env => env.set 7 (.d y)) (vs := [7]) (ei_tup (ev_ixT (ds := .tuple (sTs cs) :: .tuple (gsD gs) :: more) (ev_var rfl) ev_int (atI_nat (j := 0) rfl))) (fun l _ y _ => tg_name (by decide))
        (fun l i env' ms' => ∃ s7, env' = [.d fr, .d (ltD lots), .d (.list ((leftL cs gs lots).map tD)), s3, s4, s5, .a fd, s7, .un] ∧ ms' = [(fd, (((cs.take i).flatMap F).map tD).map .d)])
        (fun l e => ⟨.un, rfl, rfl⟩) ?_ ?_
      · rintro l i y env' ms' Gt σ5 G5 H5 rfl hy ⟨s7, rfl, rfl⟩ A5 nx hnx
        obtain ⟨c, hc, rfl⟩ : ∃ c, cs[i]? = some c ∧ y = .str c := by
          unfold sTs at hy
          rw [List.getElem?_map] at hy
          cases q : cs[i]? with
          | none => rw [q] at hy; cases hy
          | some a => rw [q] at hy; exact ⟨a, rfl, (Option.some.inj hy).symm⟩
        have il := (List.getElem?_eq_some_iff.mp hc).1
        have tk : cs.take (i + 1) = cs.take i ++ [c] := by rw [List.take_add_one, hc]; rfl
        have fb : ∀ l : List Str, (l.flatMap F).length ≤ l.length := fun l => by
          induction l with
          | nil => exact Nat.le_refl _
          | cons a l ih =>
            have := cn.one a
            rw [List.flatMap_cons, List.length_append, List.length_cons]
            show (List.filter _ _).length + _ ≤ _
            omega
        have fi := fb (cs.take i)
        rw [List.length_take] at fi
        refine s_ext (n := 0) A5 rfl rfl (en_dec (enc := tD) (L := leftL cs gs lots) (t := fun g => decide (g.headD "" = c)) (g := tD) (f := fun y env => env.set 8 (.d y)) tupS_inj (ei_list (ev_var rfl)).g (by omega) (fun a _ => tg_name (by decide)) (fun g hg => et_T (ev_eqS (ev_ixT (ds := sTs g) (ev_var rfl) ev_int ?_) (ev_var rfl))) (fun g _ _ => ev_var rfl)) ?_ ?_ fun ds G6 H6 e A6 => hnx _ _ _ _ _ ⟨_, rfl, ?_⟩ A6
        · have := cn.ne g hg
          match g, this with
          | a :: r, _ => exact atI_nat (j := 0) rfl
        · rw [List.length_map, List.length_map]
          omega
        · intro ds e
          rw [e, List.length_map]
          have := cn.one c
          omega
        · rw [e, tk, List.flatMap_append, List.map_append, List.map_append]
          simp [F]
      · rintro l env' ms' σ5 G5 H5 rfl ⟨s7, rfl, rfl⟩ A5
        obtain ⟨G6, A6⟩ := A5.freeze (i := 6) (n := 0) rfl rfl
        refine s_ret A6 (ev_cb (ea_cons (ev_var rfl) ea_nil) rc_tupL) (fun v d G' H' g j p e => k v d G' H' g.nob p fun cs2 gs2 lots2 more2 e2 => ?_)
        simp only [List.cons.injEq, and_true, PyData.tuple.injEq] at e2
        obtain ⟨⟨h1, h2, _⟩, h3⟩ := e2
        have h1 := sts_inj h1
        have h2 : gs = gs2 := map_inj tupS_inj h2
        have h3 : lots = lots2 := map_inj map_nats_inj h3
        subst h1 h2 h3
        rw [e]
        unfold sTs
        rw [List.length_map, List.take_length]
        rfl
end
end K05
set_option Elab.async false
set_option linter.all false
set_option maxRecDepth 100000
set_option maxHeartbeats 4000000
namespace K05
open PySem L2 Dl
section
variable {P : Program} {w : World} {K : PySem.W.Frag} {mg : Str → Option Value} {base : Heap}
abbrev sp_law (K : PySem.W.Frag) : Sp := fun vs H Q _ => ∃ (a : Addr) (ns : List Int), vs = [.ref a] ∧ SqL K H a (ns.map V.int) ∧ ns.length ≤ 63 ∧ ∀ H', Q (.bl true) H'
theorem ok_law {A : Around} (T : Txt K mg) (hg : A.guards = some []) (hr0 : Room 5 A) : FnAt A P w K mg base T.f_law T.g_law ["script"] (sp_law K) := by
  refine fn_at (k := 4) T.d_law.fn sc_law (fun vs H Q E h => ?_) hr0 (fun cdv outer s H vs Q E hr h => ?_)
  · obtain ⟨a, ns, rfl, _⟩ := h
    rfl
  · have nd := nd_law
    have F__law_alike := ok__law_alike (P := P) (w := w) (base := base) T (show (A.deeper _).guards = some [] from hg) (hr.mono (show 1 ≤ 4 by decide))
    refine ⟨_, (pss_cons (ps_set (i := 1) nd rfl (Or.inr rfl) (Dl.pc T.d__law_bag (ok__law_bag T) (hr.mono (by decide)) rfl (pa_cons (pv 0) pa_nil)))
      (pss_cons (ps_for PassesOwn.never rfl (pi_range1 rfl T.b_range (pa_cons pe_int pa_nil)) (pg_name (i := 2) nd rfl (Or.inl rfl)) (pss_cons (ps_set (i := 3) nd rfl (Or.inr rfl) (Dl.pc T.d__law_frame (ok__law_frame T) (hr.mono (by decide)) rfl (pa_cons (pv 1) (pa_cons pe_int pa_nil))))
      (pss_cons (ps_asg (pe_tup (pa_cons (pe_callB (id := "len") (r := Dl.rLen K) call_len_seq (by rfl) T.b_len (by decide +kernel) (pa_cons (pe_ix (r := rIxT K) ix_tup (pv 3) pe_int (fun _ _ => rfl)) pa_nil)) (pa_cons (Dl.pc T.d__law_places (ok__law_places T) (hr.mono (by decide)) rfl (pa_cons (pv 3) pa_nil)) pa_nil))) (pg_tup rfl (pgs_cons (pg_name (i := 4) nd rfl (Or.inl rfl)) (pgs_cons (pg_name (i := 5) nd rfl (Or.inr rfl)) pgs_nil))))
      (pss_cons (ps_par (i := 6) (j := 7) rfl nd rfl rfl (by decide) rfl rfl (pa_cons (Dl.pc T.d__law_stand (ok__law_stand T) (hr.mono (by decide)) rfl (pa_cons (pv 1) (pa_cons (pv 4) pa_nil))) (pa_cons (pe_callB (id := "repr") (r := Dl.rRepr K) (Dl.cr_repr hg hr.units) (by rfl) T.b_repr (by decide +kernel) (pa_cons (pv 3) pa_nil)) pa_nil)) (by with_unfolding_all rfl))
      (pss_cons (ps_set (i := 8) nd rfl (Or.inr rfl) (pe_callTy (T := "tuple") (r := Dl.rTupOf K) call_tuple_of (by rfl) T.b_tuple (by decide +kernel) (pa_cons (pe_lc (own := [("index", 21)]) (g := gName 21) rfl nd (pi_range1 rfl T.b_range (pa_cons (pe_callB (id := "len") (r := Dl.rLen K) call_len_seq (by rfl) T.b_len (by decide +kernel) (pa_cons (pv 5) pa_nil)) pa_nil)) (blkOk_by (own := [("index", 21)]) (N := N_law) (sc := defScope s_law) (by decide +kernel)) (fun _ _ _ _ _ => (pg_name (i := 21) nd rfl (Or.inl rfl))) (fun _ _ _ _ _ => (pts_one (pt_cmpR op_eq (Dl.pc T.d__law_take (ok__law_take T) (hr.mono (by decide)) rfl (pa_cons (pv 1) (pa_cons pe_int pa_nil))) pe_int (nomark _)))) (fun _ _ _ _ _ => (pv 21))) pa_nil)))
      (pss_cons (ps_set (i := 9) nd rfl (Or.inr rfl) (pe_callTy (T := "tuple") (r := Dl.rTupOf K) call_tuple_of (by rfl) T.b_tuple (by decide +kernel) (pa_cons (pe_lc (own := [("at", 22)]) (g := gName 22) rfl nd (pi_range1 rfl T.b_range (pa_cons (pv 4) pa_nil)) (blkOk_by (own := [("at", 22)]) (N := N_law) (sc := defScope s_law) (by decide +kernel)) (fun _ _ _ _ _ => (pg_name (i := 22) nd rfl (Or.inl rfl))) (fun _ _ _ _ _ => (pts_one (pt_cmpR op_eq (Dl.pc T.d__law_take (ok__law_take T) (hr.mono (by decide)) rfl (pa_cons (pv 1) (pa_cons pe_int pa_nil))) pe_int (nomark _)))) (fun _ _ _ _ _ => (pv 22))) pa_nil)))
      (pss_cons (ps_set (i := 10) nd rfl (Or.inl rfl) (pe_lst (pa_cons (pe_lc (own := [("cell", 17)]) (g := gName 17) rfl nd (Dl.pi_tupK (K := K) (pe_ix (r := rIxT K) ix_tup (pv 3) pe_int (fun _ _ => rfl))) (blkOk_by (own := [("cell", 17)]) (N := N_law) (sc := defScope s_law) (by decide +kernel)) (fun _ _ _ _ _ => (pg_name (i := 17) nd rfl (Or.inl rfl))) (fun _ _ _ _ _ => pts_nil) (fun _ _ _ _ _ => (Dl.pc T.d_group_of (ok_group_of T) (hr.mono (by decide)) rfl (pa_cons (pv 3) (pa_cons (pv 17) pa_nil))))) (pa_cons (Dl.pc T.d_places_of (ok_places_of T) (hr.mono (by decide)) rfl (pa_cons (pv 3) (pa_cons (pv 8) pa_nil))) (pa_cons (Dl.pc T.d_added_places (ok_added_places T) (hr.mono (by decide)) rfl (pa_cons (pv 3) pa_nil)) (pa_cons (Dl.pc T.d_moved (ok_moved T) (hr.mono (by decide)) rfl (pa_cons (pv 6) pa_nil)) pa_nil))))))
      (pss_cons (ps_set (i := 11) nd rfl (Or.inl rfl) (pe_lst (pa_cons (pe_lc (own := [("cell", 17)]) (g := gName 17) rfl nd (Dl.pi_tupK (K := K) (pe_ix (r := rIxT K) ix_tup (pv 3) pe_int (fun _ _ => rfl))) (blkOk_by (own := [("cell", 17)]) (N := N_law) (sc := defScope s_law) (by decide +kernel)) (fun _ _ _ _ _ => (pg_name (i := 17) nd rfl (Or.inr rfl))) (fun _ _ _ _ _ => pts_nil) (fun _ _ _ _ _ => (pe_ix (r := rIxL K) ix_list (pe_op op_cat (pe_lc (own := [("index", 21), ("group", 23)]) (g := gTup K 2 (gCons (gName 21) (gCons (gName 23) gNil))) rfl nd (Dl.pi_enumK (K := K) rfl T.b_enumerate (pa_cons (pe_ix (r := rIxT K) ix_tup (pv 3) pe_int (fun _ _ => rfl)) pa_nil)) (Dl.blkOk_in (blkOk_by (own := [("index", 21), ("group", 23)]) (N := N_law) (by decide +kernel))) (fun _ _ _ _ _ => (pg_tup rfl (pgs_cons (pg_name (i := 21) nd rfl (Or.inl rfl)) (pgs_cons (pg_name (i := 23) nd rfl (Or.inl rfl)) pgs_nil)))) (fun _ _ _ _ _ => (pts_one (pt_cmpR (r := rIn K false) op_in_seq (pv 17) (pv 23) (by with_unfolding_all rfl)))) (fun _ _ _ _ _ => (pv 21))) (pe_lst (pa_cons pe_non pa_nil))) pe_int (fun _ _ => rfl)))) pa_nil)))
      (pss_cons (ps_expr (pe_bm PySem.F.plainAttrs_list PySem.F.slot_list_append PySem.F.type_list_append mt_append (pv 11) (pa_cons (pe_callTy (T := "tuple") (r := Dl.rTupOf K) call_tuple_of (by rfl) T.b_tuple (by decide +kernel) (pa_cons (pe_lc (own := [("at", 22)]) (g := gName 22) rfl nd (pi_range1 rfl T.b_range (pa_cons (pv 4) pa_nil)) (blkOk_by (own := [("at", 22)]) (N := N_law) (sc := defScope s_law) (by decide +kernel)) (fun _ _ _ _ _ => (pg_name (i := 22) nd rfl (Or.inr rfl))) (fun _ _ _ _ _ => (pts_one (pt_cmpR (r := rNeD K) (op_neD hr.units) (pe_lc (own := [("index", 21)]) (g := gName 21) rfl nd (Dl.pi_tupK (K := K) (pv 8)) (Dl.blkOk_in (blkOk_by (own := [("index", 21)]) (N := N_law) (by decide +kernel))) (fun _ _ _ _ _ => (pg_name (i := 21) nd rfl (Or.inl rfl))) (fun _ _ _ _ _ => (pts_one (pt_cmpR (r := rIn K false) op_in_seq (pv 22) (pe_ix (r := rIxL K) ix_list (pv 5) (pv 21) (fun _ _ => rfl)) (by with_unfolding_all rfl)))) (fun _ _ _ _ _ => (pv 21))) (pe_lst pa_nil) (nomark _)))) (fun _ _ _ _ _ => (pv 22))) pa_nil)) pa_nil)))
      (pss_cons (ps_expr (pe_bm PySem.F.plainAttrs_list PySem.F.slot_list_append PySem.F.type_list_append mt_append (pv 11) (pa_cons (pe_callTy (T := "tuple") (r := Dl.rTupOf K) call_tuple_of (by rfl) T.b_tuple (by decide +kernel) (pa_cons (pe_lc (own := [("at", 22), ("cell", 17)]) (g := gTup K 2 (gCons (gName 22) (gCons (gName 17) gNil))) rfl nd (Dl.pi_enumK (K := K) rfl T.b_enumerate (pa_cons (pe_ix (r := rIxT K) ix_tup (pv 3) pe_int (fun _ _ => rfl)) pa_nil)) (blkOk_by (own := [("at", 22), ("cell", 17)]) (N := N_law) (sc := defScope s_law) (by decide +kernel)) (fun _ _ _ _ _ => (pg_tup rfl (pgs_cons (pg_name (i := 22) nd rfl (Or.inl rfl)) (pgs_cons (pg_name (i := 17) nd rfl (Or.inl rfl)) pgs_nil)))) (fun _ _ _ _ _ => (pts_one (pt_cmpR (r := rIn K false) op_in_seq (pv 17) (pe_ix (r := rIxT K) ix_tup (pv 3) pe_int (fun _ _ => rfl)) (by with_unfolding_all rfl)))) (fun _ _ _ _ _ => (pv 22))) pa_nil)) pa_nil)))
      (pss_cons (ps_expr (pe_bm PySem.F.plainAttrs_list PySem.F.slot_list_append PySem.F.type_list_append mt_append (pv 11) (pa_cons (pe_callTy (T := "tuple") (r := Dl.rTupOf K) call_tuple_of (by rfl) T.b_tuple (by decide +kernel) (pa_cons (Dl.pc T.d__law_moves (ok__law_moves T) (hr.mono (by decide)) rfl (pa_cons (pv 6) pa_nil)) pa_nil)) pa_nil)))
      (pss_cons (ps_expr (pe_bm PySem.F.plainAttrs_list PySem.F.slot_list_extend PySem.F.type_list_extend mt_extend (pv 10) (pa_cons (pe_lst (pa_cons (Dl.pc T.d_touched (ok_touched T) (hr.mono (by decide)) rfl (pa_cons (pv 3) (pa_cons (pv 6) pa_nil))) (pa_cons (Dl.pc T.d_part (ok_part T) (hr.mono (by decide)) rfl (pa_cons (pv 3) (pa_cons (pv 6) (pa_cons (pv 9) pa_nil)))) pa_nil))) pa_nil)))
      (pss_cons (ps_expr (pe_bm PySem.F.plainAttrs_list PySem.F.slot_list_extend PySem.F.type_list_extend mt_extend (pv 11) (pa_cons (pe_lst (pa_cons (Dl.pc T.d__law_touched (ok__law_touched T) (hr.mono (by decide)) rfl (pa_cons (pv 3) (pa_cons (pv 6) pa_nil))) (pa_cons (pe_callTy (T := "tuple") (r := Dl.rTupOf K) call_tuple_of (by rfl) T.b_tuple (by decide +kernel) (pa_cons (pe_lc (own := [("at", 22), ("one", 24)]) (g := gTup K 2 (gCons (gName 22) (gCons (gName 24) gNil))) rfl nd (Dl.pi_enumK (K := K) rfl T.b_enumerate (pa_cons (pv 6) pa_nil)) (blkOk_by (own := [("at", 22), ("one", 24)]) (N := N_law) (sc := defScope s_law) (by decide +kernel)) (fun _ _ _ _ _ => (pg_tup rfl (pgs_cons (pg_name (i := 22) nd rfl (Or.inl rfl)) (pgs_cons (pg_name (i := 24) nd rfl (Or.inl rfl)) pgs_nil)))) (fun _ _ _ _ _ => pts_nil) (fun _ _ _ _ _ => (pe_ifExp (pt_cmpR (r := rIn K false) op_in_seq (pv 22) (pv 9) (by with_unfolding_all rfl)) (pv 24) (pe_tup (pa_cons pe_int (pa_cons pe_int pa_nil)))))) pa_nil)) pa_nil))) pa_nil)))
      (pss_cons (ps_par (i := 12) (j := 13) rfl nd rfl rfl (by decide) rfl rfl (pa_cons (pe_lst pa_nil) (pa_cons (Dl.pc T.d__law_mixed (ok__law_mixed T) (hr.mono (by decide)) rfl (pa_cons (pv 1) (pa_cons (pe_listRg rfl rfl T.b_list (prg_1 rfl T.b_range (pe_callB (id := "len") (r := Dl.rLen K) call_len_seq (by rfl) T.b_len (by decide +kernel) (pa_cons (pv 5) pa_nil)))) pa_nil))) pa_nil)) (by with_unfolding_all rfl))
      (pss_cons (ps_while PassesOwn.never (pt_cmpR (r := rNeD K) (op_neD hr.units) (pv 13) (pe_lst pa_nil) (nomark _)) (pss_cons (ps_set (i := 14) nd rfl (Or.inl rfl) (pe_op op_add pe_int (Dl.pc T.d__law_take (ok__law_take T) (hr.mono (by decide)) rfl (pa_cons (pv 1) (pa_cons (pe_callB (id := "min") (r := Dl.rMin2) (Dl.cr_min2 rfl) (by rfl) T.b_min (by decide +kernel) (pa_cons pe_int (pa_cons (pe_callB (id := "len") (r := Dl.rLen K) call_len_seq (by rfl) T.b_len (by decide +kernel) (pa_cons (pv 13) pa_nil)) pa_nil))) pa_nil)))))
      (pss_one (ps_par (i := 12) (j := 13) rfl nd rfl rfl (by decide) rfl rfl (pa_cons (pe_op (r := Dl.rCatL K) Dl.op_catL (pv 12) (pe_lst (pa_cons (pe_callTy (T := "tuple") (r := Dl.rTupOf K) call_tuple_of (by rfl) T.b_tuple (by decide +kernel) (pa_cons (pe_callB (id := "sorted") (r := rSortedI K) cr_sortedI (by rfl) T.b_sorted (by decide +kernel) (pa_cons (pe_slice (r := rSlL K) sl_list (pv 13) po_none (po_some (pv 14))) pa_nil)) pa_nil)) pa_nil))) (pa_cons (pe_slice (r := rSlL K) sl_list (pv 13) (po_some (pv 14)) po_none) pa_nil)) (by with_unfolding_all rfl)))))
      (pss_cons (ps_set (i := 12) nd rfl (Or.inl rfl) (pe_callTy (T := "tuple") (r := Dl.rTupOf K) call_tuple_of (by rfl) T.b_tuple (by decide +kernel) (pa_cons (pe_slice (r := rSlL K) sl_list (pv 12) po_none (po_some (Dl.pc T.d__law_take (ok__law_take T) (hr.mono (by decide)) rfl (pa_cons (pv 1) (pa_cons (pe_op op_add (pe_callB (id := "len") (r := Dl.rLen K) call_len_seq (by rfl) T.b_len (by decide +kernel) (pa_cons (pv 12) pa_nil)) pe_int) pa_nil))))) pa_nil)))
      (pss_cons (ps_set (i := 15) nd rfl (Or.inl rfl) (pe_tup (pa_cons (pe_ix (r := rIxT K) ix_tup (pv 3) pe_int (fun _ _ => rfl)) (pa_cons (Dl.pc T.d__law_joined_groups (ok__law_joined_groups T) (hr.mono (by decide)) rfl (pa_cons (pv 3) (pa_cons (pv 12) pa_nil))) (pa_cons (pe_ix (r := rIxT K) ix_tup (pv 3) pe_int (fun _ _ => rfl)) (pa_cons (pe_ix (r := rIxT K) ix_tup (pv 3) pe_int (fun _ _ => rfl)) pa_nil))))))
      (pss_cons (ps_expr (pe_bm PySem.F.plainAttrs_list PySem.F.slot_list_extend PySem.F.type_list_extend mt_extend (pv 10) (pa_cons (pe_lst (pa_cons (Dl.pc T.d_linked (ok_linked T) (hr.mono (by decide)) rfl (pa_cons (pv 3) (pa_cons (pv 12) pa_nil))) (pa_cons (Dl.pc T.d_linked (ok_linked T) (hr.mono (by decide)) rfl (pa_cons (pv 3) (pa_cons (Dl.pe_revT (pv 12)) pa_nil))) (pa_cons (Dl.pc T.d_is_frame (ok_is_frame T) (hr.mono (by decide)) rfl (pa_cons (pv 15) pa_nil)) pa_nil)))) pa_nil)))
      (pss_cons (ps_expr (pe_bm PySem.F.plainAttrs_list PySem.F.slot_list_extend PySem.F.type_list_extend mt_extend (pv 11) (pa_cons (pe_lst (pa_cons (pv 15) (pa_cons (pv 15) (pa_cons pe_bl pa_nil)))) pa_nil)))
      (pss_cons (ps_for PassesOwn.never rfl (Dl.pi_tupK (K := K) (pe_tup (pa_cons pe_str (pa_cons pe_str pa_nil)))) (pg_name (i := 16) nd rfl (Or.inl rfl)) (pss_cons (ps_expr (pe_bm PySem.F.plainAttrs_list PySem.F.slot_list_append PySem.F.type_list_append mt_append (pv 10) (pa_cons (Dl.pc T.d_with_way (ok_with_way T) (hr.mono (by decide)) rfl (pa_cons (pv 3) (pa_cons (pv 16) pa_nil))) pa_nil)))
      (pss_one (ps_expr (pe_bm PySem.F.plainAttrs_list PySem.F.slot_list_append PySem.F.type_list_append mt_append (pv 11) (pa_cons (pe_op (r := rCatA K) op_catA (pe_slice (r := rSlA K) sl_tupA (pv 3) po_none (po_some pe_int)) (pe_tup (pa_cons (pv 16) pa_nil))) pa_nil))))))
      (pss_cons (ps_for PassesOwn.never rfl (Dl.pi_tupK (K := K) (pe_ix (r := rIxT K) ix_tup (pv 3) pe_int (fun _ _ => rfl))) (pg_name (i := 17) nd rfl (Or.inr rfl)) (pss_cons (ps_set (i := 18) nd rfl (Or.inl rfl) (Dl.pc T.d__law_joined_groups (ok__law_joined_groups T) (hr.mono (by decide)) rfl (pa_cons (pe_tup (pa_cons (pe_ix (r := rIxT K) ix_tup (pv 3) pe_int (fun _ _ => rfl)) (pa_cons (pe_op (r := rCatA K) op_catA (pe_ix (r := rIxT K) ix_tup (pv 3) pe_int (fun _ _ => rfl)) (pe_tup (pa_cons (pe_tup (pa_cons (pv 17) pa_nil)) pa_nil))) pa_nil))) (pa_cons (pe_tup pa_nil) pa_nil))))
      (pss_cons (ps_expr (pe_bm PySem.F.plainAttrs_list PySem.F.slot_list_append PySem.F.type_list_append mt_append (pv 10) (pa_cons (Dl.pc T.d_taken (ok_taken T) (hr.mono (by decide)) rfl (pa_cons (pv 3) (pa_cons (pv 17) pa_nil))) pa_nil)))
      (pss_one (ps_expr (pe_bm PySem.F.plainAttrs_list PySem.F.slot_list_append PySem.F.type_list_append mt_append (pv 11) (pa_cons (pe_tup (pa_cons (pe_ix (r := rIxT K) ix_tup (pv 3) pe_int (fun _ _ => rfl)) (pa_cons (pv 18) (pa_cons (pe_callTy (T := "tuple") (r := Dl.rTupOf K) call_tuple_of (by rfl) T.b_tuple (by decide +kernel) (pa_cons (pe_lc (own := [("one", 24)]) (g := gName 24) rfl nd (Dl.pi_tupK (K := K) (pe_ix (r := rIxT K) ix_tup (pv 3) pe_int (fun _ _ => rfl))) (blkOk_by (own := [("one", 24)]) (N := N_law) (sc := defScope s_law) (by decide +kernel)) (fun _ _ _ _ _ => (pg_name (i := 24) nd rfl (Or.inl rfl))) (fun _ _ _ _ _ => (pts_one (pt_cmpR op_ne (pv 24) (pv 17) (nomark _)))) (fun _ _ _ _ _ => (pv 24))) pa_nil)) (pa_cons (pe_ix (r := rIxT K) ix_tup (pv 3) pe_int (fun _ _ => rfl)) pa_nil))))) pa_nil)))))))
      (pss_cons (ps_set (i := 19) nd rfl (Or.inl rfl) (pe_callTy (T := "tuple") (r := Dl.rTupOf K) call_tuple_of (by rfl) T.b_tuple (by decide +kernel) (pa_cons (pe_slice (r := rSlL K) sl_list (Dl.pc T.d__law_mixed (ok__law_mixed T) (hr.mono (by decide)) rfl (pa_cons (pv 1) (pa_cons (pe_lst (pa_cons pe_str (pa_cons pe_str (pa_cons pe_str (pa_cons pe_str (pa_cons pe_str (pa_cons pe_str (pa_cons pe_str (pa_cons pe_str pa_nil))))))))) pa_nil))) po_none (po_some (pv 4))) pa_nil)))
      (pss_cons (ps_set (i := 20) nd rfl (Or.inr rfl) (Dl.pe_dictZip rfl T.b_dict rfl T.b_zip (pa_cons (pe_callTy (T := "list") (r := Dl.rListOf K) call_list_of (by rfl) T.b_list (by decide +kernel) (pa_cons (pe_ix (r := rIxT K) ix_tup (pv 3) pe_int (fun _ _ => rfl)) pa_nil)) (pa_cons (pe_callTy (T := "list") (r := Dl.rListOf K) call_list_of (by rfl) T.b_list (by decide +kernel) (pa_cons (pv 19) pa_nil)) pa_nil))))
      (pss_cons (ps_expr (pe_bm PySem.F.plainAttrs_list PySem.F.slot_list_append PySem.F.type_list_append mt_append (pv 10) (pa_cons (Dl.pc T.d_renamed (ok_renamed T) (hr.mono (by decide)) rfl (pa_cons (pv 3) (pa_cons (pv 19) pa_nil))) pa_nil)))
      (pss_cons (ps_set (i := 18) nd rfl (Or.inl rfl) (pe_callTy (T := "tuple") (r := Dl.rTupOf K) call_tuple_of (by rfl) T.b_tuple (by decide +kernel) (pa_cons (pe_lc (own := [("group", 23)]) (g := gName 23) rfl nd (Dl.pi_tupK (K := K) (pe_ix (r := rIxT K) ix_tup (pv 3) pe_int (fun _ _ => rfl))) (blkOk_by (own := [("group", 23)]) (N := N_law) (sc := defScope s_law) (by decide +kernel)) (fun _ _ _ _ _ => (pg_name (i := 23) nd rfl (Or.inl rfl))) (fun _ _ _ _ _ => pts_nil) (fun _ _ _ _ _ => (pe_callTy (T := "tuple") (r := Dl.rTupOf K) call_tuple_of (by rfl) T.b_tuple (by decide +kernel) (pa_cons (pe_lc (own := [("cell", 17)]) (g := gName 17) rfl nd (Dl.pi_tupK (K := K) (pv 23)) (Dl.blkOk_in (blkOk_by (own := [("cell", 17)]) (N := N_law) (by decide +kernel))) (fun _ _ _ _ _ => (pg_name (i := 17) nd rfl (Or.inl rfl))) (fun _ _ _ _ _ => pts_nil) (fun _ _ _ _ _ => (pe_dget (hu_of hr) (pv 20) (pv 17) (fun _ _ => rfl)))) pa_nil)))) pa_nil)))
      (pss_cons (ps_expr (pe_bm PySem.F.plainAttrs_list PySem.F.slot_list_append PySem.F.type_list_append mt_append (pv 11) (pa_cons (pe_tup (pa_cons (pv 19) (pa_cons (pv 18) (pa_cons (pe_callTy (T := "tuple") (r := Dl.rTupOf K) call_tuple_of (by rfl) T.b_tuple (by decide +kernel) (pa_cons (pe_lc (own := [("cell", 17)]) (g := gName 17) rfl nd (Dl.pi_tupK (K := K) (pe_ix (r := rIxT K) ix_tup (pv 3) pe_int (fun _ _ => rfl))) (blkOk_by (own := [("cell", 17)]) (N := N_law) (sc := defScope s_law) (by decide +kernel)) (fun _ _ _ _ _ => (pg_name (i := 17) nd rfl (Or.inl rfl))) (fun _ _ _ _ _ => pts_nil) (fun _ _ _ _ _ => (pe_dget (hu_of hr) (pv 20) (pv 17) (fun _ _ => rfl)))) pa_nil)) (pa_cons (pe_ix (r := rIxT K) ix_tup (pv 3) pe_int (fun _ _ => rfl)) pa_nil))))) pa_nil)))
      (pss_one (ps_if (PW.pt (pw_or (pt_not (pt_val (pe_callAt F__law_alike rfl T.d__law_alike.mg T.d__law_alike.fn.kp T.d__law_alike.bd (pa_cons (pv 10) (pa_cons (pv 11) pa_nil))))) (pw_or1 (pt_cmpR op_ne (pe_callB (id := "repr") (r := Dl.rRepr K) (Dl.cr_repr hg hr.units) (by rfl) T.b_repr (by decide +kernel) (pa_cons (pv 3) pa_nil)) (pv 7) (nomark _))))) (pss_one (ps_ret pe_bl)) pss_nil))))))))))))))))))))))))))))
      (pss_one (ps_ret pe_bl)))), ?_⟩
    obtain ⟨a0, ns, rfl, hS, hl, k⟩ := h
    refine ⟨.ref a0, rfl, a0, ns, rfl, hS, hl, fun x G0 H0 g0 hx bg => ?_⟩
    have A : At K [.un, .a x, .un, .un, .un, .un, .un, .un, .un, .un, .un, .un, .un, .un, .un, .un, .un, .un, .un, .un, .un, .un, .un, .un, .un] (some x) [] G0 H0 G0 ((L2.start N_law [.ref a0]).set 1 (some (.ref x))) G0 H0 :=
      ⟨.cons trivial (.cons rfl (.cons trivial (.cons trivial (.cons trivial (.cons trivial (.cons trivial (.cons trivial (.cons trivial (.cons trivial (.cons trivial (.cons trivial (.cons trivial (.cons trivial (.cons trivial (.cons trivial (.cons trivial (.cons trivial (.cons trivial (.cons trivial (.cons trivial (.cons trivial (.cons trivial (.cons trivial (.cons trivial .nil)))))))))))))))))))))))), Grow.refl g0.gh, Same.refl _, ⟨fun y e => by cases e; exact bg, fun p hp => (nomatch hp)⟩, fun p hp => (nomatch hp), List.nodup_nil⟩
    refine q_for A (Pl := Is (intL 12)) (f := fun y env => env.set 2 (.d y)) (vs := [2]) (ei_rng (ea_cons ev_int ea_nil) (by decide)) (fun l _ y _ => tg_name (by decide))
      (fun l i env' ms' => ∃ s2 s3 s4 s5 s6 s7 s8 s9 s10 s11 s12 s13 s14 s15 s16 s17 s18 s19 s20 s21 s22 s23 s24, env' = [.un, .a x, s2, s3, s4, s5, s6, s7, s8, s9, s10, s11, s12, s13, s14, s15, s16, s17, s18, s19, s20, s21, s22, s23, s24] ∧ ms' = []) (fun l _ => ⟨.un, .un, .un, .un, .un, .un, .un, .un, .un, .un, .un, .un, .un, .un, .un, .un, .un, .un, .un, .un, .un, .un, .un, rfl, rfl⟩) ?_ (fun l env' ms' σ' G' H' _ _ A' => s_ret A' ev_bl fun v d G2 H2 g j p e => by cases e; cases p; exact k H2)
    rintro l i y env' ms' Gt σ1 G1 H1 _ _ ⟨s2, s3, s4, s5, s6, s7, s8, s9, s10, s11, s12, s13, s14, s15, s16, s17, s18, s19, s20, s21, s22, s23, s24, rfl, rfl⟩ A1 nx hnx
    -- frame
    refine q_asgE A1 (eve_callB rfl rfl (ea_cons ev_int ea_nil) fun ds e => ⟨by rw [e]; rfl, 8, e, by decide, by decide⟩) fun fx σ2 G2 H2 e A2 => ?_
    try dsimp only [List.set] at A2
    obtain ⟨ds, e0, n8, e8, F, c8⟩ := e
    have n8' : n8 = 8 := by
      have e9 : ds = [.int ((8 : Nat) : Int)] := e0
      rw [e9] at e8
      injection e8 with e8 _
      injection e8 with e8
      omega
    subst n8'
    have F : FrW fx.cs fx.gs fx.fs fx.w := F
    have cl := F.le
    have gl := F.gl
    have fl : fx.fs.length ≤ 8 := Nat.le_trans F.fr.length_le c8
    have pos : 1 ≤ fx.cs.length := List.length_pos_iff.mpr F.ne
    have stl : (sTs fx.cs).length = fx.cs.length := by unfold sTs; rw [List.length_map]
    have pll : (plL fx.cs fx.gs).length = fx.gs.length := by unfold plL; rw [List.length_map]
    have h60 : 13 ≤ (2 : Nat) ^ 60 := by decide
    have fr3 : ∀ {env : List Sl} {ms : Ms}, env[3]? = some (.r (fx.R K)) → EvP K env (some x) ms (tVar 3) (Is (frTp fx.cs fx.gs fx.fs fx.w)) := fun h => ev_fr (evu_var h)
    have at0 : atI ([.tuple (sTs fx.cs), .tuple (gsD fx.gs), .tuple (sTs fx.fs), .str fx.w] : List PyData) 0 = some (.tuple (sTs fx.cs)) := rfl
    have at1 : atI ([.tuple (sTs fx.cs), .tuple (gsD fx.gs), .tuple (sTs fx.fs), .str fx.w] : List PyData) 1 = some (.tuple (gsD fx.gs)) := rfl
    have at2 : atI ([.tuple (sTs fx.cs), .tuple (gsD fx.gs), .tuple (sTs fx.fs), .str fx.w] : List PyData) 2 = some (.tuple (sTs fx.fs)) := rfl
    have at3 : atI ([.tuple (sTs fx.cs), .tuple (gsD fx.gs), .tuple (sTs fx.fs), .str fx.w] : List PyData) 3 = some (.str fx.w) := rfl
    have cells : ∀ {env : List Sl} {ms : Ms}, env[3]? = some (.r (fx.R K)) → EvP K env (some x) ms (tOp (rIxT K) (tVar 3) (tC (.int 0))) (Is (.tuple (sTs fx.cs))) := fun h => ev_ixT (fr3 h) ev_int at0
    have grps : ∀ {env : List Sl} {ms : Ms}, env[3]? = some (.r (fx.R K)) → EvP K env (some x) ms (tOp (rIxT K) (tVar 3) (tC (.int 1))) (Is (.tuple (gsD fx.gs))) := fun h => ev_ixT (fr3 h) ev_int at1
    have adds : ∀ {env : List Sl} {ms : Ms}, env[3]? = some (.r (fx.R K)) → EvP K env (some x) ms (tOp (rIxT K) (tVar 3) (tC (.int 2))) (Is (.tuple (sTs fx.fs))) := fun h => ev_ixT (fr3 h) ev_int at2
    have ways : ∀ {env : List Sl} {ms : Ms}, env[3]? = some (.r (fx.R K)) → EvP K env (some x) ms (tOp (rIxT K) (tVar 3) (tC (.int 3))) (Is (.str fx.w)) := fun h => ev_ixT (fr3 h) ev_int at3
    have places : ∀ {env : List Sl} {ms : Ms}, env[3]? = some (.r (fx.R K)) → EvP K env (some x) ms (tCall (sp__law_places K) [] E0 (tCons (tVar 3) tNil)) (Is (plD (plL fx.cs fx.gs))) := fun h =>
      ev_imp (ev_callV2 (n := 0) (Pl := Is []) fx (evu_var h) ea_nil fun ds e => ⟨by rw [e]; rfl, F, e⟩) fun d ⟨_, _, h⟩ => h
    -- many, groups
    refine q_unp A2 (P := Is (.tuple [.int (fx.cs.length : Nat), plD (plL fx.cs fx.gs)])) (ev_tup (ea_cons (ev_is (ev_cb (ea_cons (cells rfl) ea_nil) (rc_lenT (l := sTs fx.cs))) (by rw [stl])) (ea_cons (places rfl) ea_nil)) (by show 2 ≤ 1000; decide)) (fun d e => ⟨_, _, e⟩) fun a c σ3 G3 H3 e A3 => ?_
    try dsimp only [List.set] at A3
    have e' : a = .int (fx.cs.length : Nat) ∧ c = plD (plL fx.cs fx.gs) := by
      have e2 : PyData.tuple [a, c] = .tuple [.int (fx.cs.length : Nat), plD (plL fx.cs fx.gs)] := e
      simp only [PyData.tuple.injEq, List.cons.injEq, and_true] at e2
      exact e2
    obtain ⟨rfl, rfl⟩ := e'
    -- vector, kept
    have smF := F.s.sm
    refine q_par A3 (Pl := fun l => ∃ zs : Qs, l = [stT zs, .str (frTp fx.cs fx.gs fx.fs fx.w).shown] ∧ zs.length = fx.cs.length ∧ ∀ z ∈ zs, Cq z ∧ z.1.natAbs ≤ 4 ∧ z.2.natAbs ≤ 4) (ea_imp (ea_consP (ev_callB (R := standR) rfl rfl (ea_cons (ev_var rfl) ea_nil) fun ds e => ⟨by rw [e]; rfl, _, e, pos, by omega⟩) (ea_consP (ev_cb (ea_cons (fr3 rfl) ea_nil) (rc_repr (d := frTp fx.cs fx.gs fx.fs fx.w) (fun v G p => by cases p; exact ⟨_, rfl⟩) smF.shw (PyData.hasDict_of_canLay _ smF.can) (Nat.le_trans smF.dep (by decide)) (smF.shown (by decide)))) ea_nil)) fun l h => ?_) (fun l ⟨zs, e, _⟩ => ⟨_, _, e⟩) ?_
    · obtain ⟨d, r, rfl, ⟨ds, e1, e2⟩, d2, r2, rfl, e3, e4⟩ := h
      rw [e1] at e2
      obtain ⟨m, zs, e5, e6, e7, e8⟩ := stand_cq e2
      have : m = fx.cs.length := by injection e5 with e5; omega
      exact ⟨zs, by rw [e6, e3, e4], by omega, e8⟩
    rintro _ _ σ4 G4 H4 ⟨zs, e, zl, zq⟩ A4
    try dsimp only [List.set] at A4
    cases e
    -- lot, places
    refine q_asg A4 (ev_tupN (en_lc (T := fun _ _ => True) (E := fun y z => z = y) (f := fun y env => env.set 21 (.d y)) (ei_rng (n := fx.gs.length) (ea_cons (ev_is (ev_cb (ea_cons (ev_var rfl) ea_nil) (rc_lenL (l := (plL fx.cs fx.gs).map fun g => .list (natL g)))) (by rw [List.length_map, pll])) ea_nil) (by omega)) (fun l e => by rw [e, intL_len]; omega) (fun l _ y _ => tg_name (by decide))
      (fun l _ y _ => et_imp (et_TP (Pt := fun _ => True) (ev_eqIx (C2 := fun i => i = 0) (ev_take rfl ev_int (by decide) (by decide)) (ev_ex1 ev_int))) fun c _ => trivial) fun l _ y _ _ => ev_var rfl)) fun d σ5 G5 H5 e A5 => ?_
    try dsimp only [List.set] at A5
    obtain ⟨ml, rfl, l5, e5, lc5⟩ := e
    subst e5
    obtain ⟨lot, rfl, lsb⟩ := nat_sub (lc_sub lc5 fun x z e => e)
    have lotm : ∀ i ∈ lot, i < fx.gs.length := fun i hi => List.mem_range.mp (lsb.subset hi)
    have lotl : lot.length ≤ 12 := by have := lsb.length_le; rw [List.length_range] at this; omega
    refine q_asg A5 (ev_tupN (en_lc (T := fun _ _ => True) (E := fun y z => z = y) (f := fun y env => env.set 22 (.d y)) (ei_rng (n := fx.cs.length) (ea_cons (ev_var rfl) ea_nil) (by omega)) (fun l e => by rw [e, intL_len]; omega) (fun l _ y _ => tg_name (by decide))
      (fun l _ y _ => et_imp (et_TP (Pt := fun _ => True) (ev_eqIx (C2 := fun i => i = 0) (ev_take rfl ev_int (by decide) (by decide)) (ev_ex1 ev_int))) fun c _ => trivial) fun l _ y _ _ => ev_var rfl)) fun d σ6 G6 H6 e A6 => ?_
    try dsimp only [List.set] at A6
    obtain ⟨mp, rfl, l6, e6, lc6⟩ := e
    subst e6
    obtain ⟨pls, rfl, psb⟩ := nat_sub (lc_sub lc6 fun x z e => e)
    have plsl : pls.length ≤ 12 := by have := psb.length_le; rw [List.length_range] at this; omega
    -- told, due
    let T4 : List PyData := [.list (fx.cs.map fun c => flD (gO (grp fx.gs c))), .tuple (natL (plc fx.cs fun c => decide (c ∈ cellsOf fx.gs lot))), .tuple (natL (plc fx.cs fun c => decide (c ∈ fx.fs))), .tuple (natL (mvs zs))]
    refine q_asgM A6 (Pl := Is T4) (en_lst (ea_cons (ev_newI (en_decA (enc := .str) (L := fx.cs) (g := fun c => flD (gO (grp fx.gs c))) (f := fun y env => env.set 17 (.d y)) (fun _ _ => str_inj) (ei_tup (l := sTs fx.cs) (cells rfl)).g (by omega) (fun a _ => tg_name (by decide)) (fun c hc => ev_callV (ds := [frTp fx.cs fx.gs fx.fs fx.w, .str c]) (ea_cons (fr3 rfl) (ea_cons (ev_var rfl) ea_nil)) rfl ⟨_, _, _, _, _, rfl, F⟩ fun d h => h _ _ _ _ _ rfl)))
      (ea_cons (ev_callV (ds := [frTp fx.cs fx.gs fx.fs fx.w, .tuple (natL lot)]) (ea_cons (fr3 rfl) (ea_cons (ev_var rfl) ea_nil)) rfl ⟨_, _, _, _, _, rfl, F, lotm, lotl⟩ fun d h => h _ _ _ _ _ rfl)
      (ea_cons (ev_callV (ds := [frTp fx.cs fx.gs fx.fs fx.w]) (ea_cons (fr3 rfl) ea_nil) rfl ⟨_, _, _, _, rfl, F⟩ fun d h => h _ _ _ _ rfl)
      (ea_cons (ev_callV (ds := [stT zs]) (ea_cons (ev_var rfl) ea_nil) rfl ⟨zs, rfl, by omega⟩ fun d h => h _ rfl) ea_nil)))) (by show 4 ≤ 1000; decide)) fun to ds σ7 G7 H7 e nb7 A7 => ?_
    try dsimp only [List.set] at A7
    subst e
    refine q_asgM A7 (Pl := Is [.list (fx.cs.map fun c => flD (gO (grp fx.gs c)))]) (en_lst (ea_cons (ev_newI (en_decA (enc := .str) (L := fx.cs) (g := fun c => flD (gO (grp fx.gs c))) (f := fun y env => env.set 17 (.d y)) (fun _ _ => str_inj) (ei_tup (l := sTs fx.cs) (cells rfl)).g (by omega) (fun a _ => tg_name (by decide)) (fun c hc => ev_ixL (ds := (fx.gs.zipIdx.filter fun x => decide (c ∈ x.1)).map (fun x => PyData.int ((x.2 : Nat) : Int)) ++ [.none]) (ev_imp (ev_new (en_cat (en_dec (enc := encEn fun g => .tuple (sTs g)) (L := fx.gs.zipIdx) (t := fun y => decide (c ∈ y.1)) (g := fun y => .int (y.2 : Nat)) (f := setPair 21 23) (encEn_inj tupS_inj) (evg_is (ei_enumB (ea_cons (grps rfl) ea_nil) .t) (enumL_map _ fx.gs)) (by rw [List.length_zipIdx]; omega) (fun a _ => tg_pair (by decide) (by decide)) (fun a ha => et_T (ev_inT (neg := false) (ev_var rfl) (ev_var rfl) .t)) (fun a _ _ => ev_var rfl)) (en_lst (ea_cons ev_non ea_nil) (by show 1 ≤ 1000; decide)) ?_)) fun d ⟨l, e1, l1, l2, e2, e3, e4⟩ => by rw [e1, e4, e2, e3]) ev_int (head_grp fx.gs c)))) ea_nil) (by show 1 ≤ 1000; decide)) fun du ds σ8 G8 H8 e nb8 A8 => ?_
    try dsimp only [List.set] at A8
    · intro l m e1 e2
      rw [e1, e2, List.length_map]
      have := (List.filter_sublist (l := fx.gs.zipIdx) (p := fun x => decide (c ∈ x.1))).length_le
      rw [List.length_zipIdx] at this
      show _ + 1 ≤ 2000
      omega
    subst e
    refine q_app (n := 0) A8 rfl rfl (P := Is (.tuple (natL (plc fx.cs fun c => decide (c ∈ cellsOf fx.gs lot))))) (ev_is (ev_tupNI (en_dec (enc := fun i : Nat => .int (i : Nat)) (L := List.range fx.cs.length) (t := fun p => !((lot.filter fun i => decide (p ∈ (gAt fx.gs i).map fx.cs.idxOf)).isEmpty)) (g := fun p => .int (p : Nat)) (f := fun y env => env.set 22 (.d y)) nat_inj (ei_rng (n := fx.cs.length) (ea_cons (ev_var rfl) ea_nil) (by omega)).g (by rw [List.length_range]; omega) (fun a _ => tg_name (by decide)) (fun p hp => et_T (ev_is (ev_neD (x := .list (natL (lot.filter fun i => decide (p ∈ (gAt fx.gs i).map fx.cs.idxOf)))) (y := .list []) (ev_newI (en_dec (enc := fun i : Nat => .int (i : Nat)) (L := lot) (t := fun i => decide (p ∈ (gAt fx.gs i).map fx.cs.idxOf)) (g := fun i => .int (i : Nat)) (f := fun y env => env.set 21 (.d y)) nat_inj (ei_tup (ev_var rfl)).g (by omega) (fun a _ => tg_name (by decide)) (fun i hi => et_T (ev_inN (neg := false) (l := (gAt fx.gs i).map fx.cs.idxOf) (ev_var rfl) (ev_ixL (ds := (plL fx.cs fx.gs).map fun g => .list (natL g)) (ev_var rfl) (ev_var rfl) (atI_nat (pl_at (lotm i hi)))) .l)) (fun i _ _ => ev_var rfl))) (ev_lst ea_nil (by decide)) ?_ (by decide)) ?_)) (fun p _ _ => ev_var rfl))) (by rw [lot_places F lotm]; rfl)) (by show 1 ≤ 2000; decide) fun d σ9 G9 e A9 => ?_
    try dsimp only [List.set] at A9
    · exact ((sm_nats (n := 12) (Nat.le_trans List.filter_sublist.length_le lotl) fun i hi => by have := lotm i (List.mem_filter.mp hi).1; omega).shaped (by decide))
    · rw [eqv_list0]
      unfold natL
      rw [List.isEmpty_map]
    -- REST
    try dsimp only [List.set, List.map, List.append, List.cons_append, List.nil_append] at A9
    subst e
    refine q_app (n := 0) A9 rfl rfl (P := Is (.tuple (natL (plc fx.cs fun c => decide (c ∈ fx.fs))))) (ev_is (ev_tupNI (en_dec (enc := encEn .str) (L := fx.cs.zipIdx) (t := fun y => decide (y.1 ∈ fx.fs)) (g := fun y => .int (y.2 : Nat)) (f := setPair 22 17) (encEn_inj fun _ _ => str_inj) (evg_is (ei_enumB (ea_cons (cells rfl) ea_nil) .t) (enumL_map .str fx.cs)) (by rw [List.length_zipIdx]; omega) (fun a _ => tg_pair (by decide) (by decide)) (fun a ha => et_T (ev_inT (neg := false) (ev_var rfl) (adds rfl) .t)) (fun a _ _ => ev_var rfl))) (by unfold plc natL; rw [List.map_map]; rfl)) (by show 2 ≤ 2000; decide) fun d G10 H10 e A10 => ?_
    try dsimp only [List.set, List.map, List.append, List.cons_append, List.nil_append] at A10
    subst e
    refine q_app (n := 0) A10 rfl rfl (P := Is (.tuple (natL (mvs zs)))) (ev_cb (ea_cons (ev_callV (ds := [stT zs]) (v := .list (natL (mvs zs))) (ea_cons (ev_var rfl) ea_nil) rfl ⟨zs, rfl, by omega, fun z hz => (zq z hz).1⟩ fun d h => h _ rfl) ea_nil) rc_tupL) (by show 3 ≤ 2000; decide) fun d G11 H11 e A11 => ?_
    try dsimp only [List.set, List.map, List.append, List.cons_append, List.nil_append] at A11
    subst e
    have tchd : ∀ {env : List Sl} {ms : Ms}, env[3]? = some (.r (fx.R K)) → env[6]? = some (.d (stT zs)) → EvP K env (some x) ms (tCall (sp_touched K) [] E0 (tCons (tVar 3) (tCons (tVar 6) tNil))) (Is (.tuple (natL (tch fx.cs fx.gs zs)))) := fun h1 h2 =>
      ev_callV (ds := [frTp fx.cs fx.gs fx.fs fx.w, stT zs]) (ea_cons (fr3 h1) (ea_cons (ev_var h2) ea_nil)) rfl ⟨_, _, _, _, _, rfl, F, zl⟩ fun d h => h _ _ _ _ _ rfl
    have ltch : ∀ {env : List Sl} {ms : Ms}, env[3]? = some (.r (fx.R K)) → env[6]? = some (.d (stT zs)) → EvP K env (some x) ms (tCall (sp__law_touched K) [] E0 (tCons (tVar 3) (tCons (tVar 6) tNil))) (Is (.tuple (natL (tch fx.cs fx.gs zs)))) := fun h1 h2 =>
      ev_imp (ev_callV2 (n := 1) (Pl := Is [stT zs]) fx (evu_var h1) (ea_cons (ev_var h2) ea_nil) fun ds e => ⟨by rw [e]; rfl, F, zs, e, zl, fun z hz => (zq z hz).1⟩) fun d ⟨ds, e1, h⟩ => h zs e1
    have prtd : ∀ {env : List Sl} {ms : Ms}, env[3]? = some (.r (fx.R K)) → env[6]? = some (.d (stT zs)) → env[9]? = some (.d (.tuple (natL pls))) → EvP K env (some x) ms (tCall (sp_part K) [] E0 (tCons (tVar 3) (tCons (tVar 6) (tCons (tVar 9) tNil)))) (Is (stT (prt zs pls))) := fun h1 h2 h3 =>
      ev_callV (ds := [frTp fx.cs fx.gs fx.fs fx.w, stT zs, .tuple (natL pls)]) (ea_cons (fr3 h1) (ea_cons (ev_var h2) (ea_cons (ev_var h3) ea_nil))) rfl ⟨_, _, _, rfl, by omega⟩ fun d h => h _ _ _ rfl
    let T2 : List PyData := [.tuple (natL (tch fx.cs fx.gs zs)), stT (prt zs pls)]
    refine q_ext (n := 1) A11 rfl rfl (Pl := Is T2) (en_lst (ea_cons (tchd rfl rfl) (ea_cons (prtd rfl rfl rfl) ea_nil)) (by show 2 ≤ 1000; decide)) (by show 4 ≤ 2000; decide) (fun ds e => by rw [e]; show 2 ≤ 2000; decide) fun ds G12 H12 e A12 => ?_
    subst e
    try dsimp only [List.set, List.map, List.append, List.cons_append, List.nil_append] at A12
    refine q_ext (n := 0) A12 rfl rfl (Pl := Is T2) (en_lst (ea_cons (ltch rfl rfl) (ea_cons (ev_is (ev_tupNI (en_decA (enc := encEn encQ) (L := zs.zipIdx) (g := fun x => encQ (if x.2 ∈ pls then x.1 else (0, 1))) (f := setPair 22 24) (encEn_inj encQ_inj) (evg_is (ei_enumB (ea_cons (ev_var rfl) ea_nil) .t) (enumL_map encQ zs)) (by rw [List.length_zipIdx]; omega) (fun a _ => tg_pair (by decide) (by decide)) (fun a ha => ev_if (Pt := fun t => t = decide (a.2 ∈ pls)) (et_imp (et_T (ev_inN (neg := false) (ev_var rfl) (ev_var rfl) .t)) fun t e => e) (fun e => ev_is (ev_var rfl) (by rw [if_pos (of_decide_eq_true e.symm)])) (fun e => ev_is (ev_tup (ea_cons ev_int (ea_cons ev_int ea_nil)) (by decide)) (by rw [if_neg (of_decide_eq_false e.symm)]; rfl))))) (by unfold prt stT stL; rw [List.map_map]; rfl)) ea_nil)) (by show 2 ≤ 1000; decide)) (by show 4 ≤ 2000; decide) (fun ds e => by rw [e]; show 2 ≤ 2000; decide) fun ds G13 H13 e A13 => ?_
    subst e
    let T6 : List PyData := T4 ++ T2
    have A13 : At K [.un, .a x, .d y, .r (fx.R K), .d (.int (fx.cs.length : Nat)), .d (plD (plL fx.cs fx.gs)), .d (stT zs), .d (.str (frTp fx.cs fx.gs fx.fs fx.w).shown), .d (.tuple (natL lot)), .d (.tuple (natL pls)), .a to, .a du, s12, s13, s14, s15, s16, s17, s18, s19, s20, s21, s22, s23, s24] (some x) [(du, T6.map .d), (to, T6.map .d)] G0 H0 Gt _ G13 H13 := A13
    -- lots, left
    have lenG : ∀ {env : List Sl} {ms : Ms}, env[5]? = some (.d (plD (plL fx.cs fx.gs))) → EvP K env (some x) ms (tCB (Dl.rLen K) (tCons (tVar 5) tNil)) (Is (.int (fx.gs.length : Nat))) := fun h => ev_is (ev_cb (ea_cons (ev_var h) ea_nil) (rc_lenL (l := (plL fx.cs fx.gs).map fun g => .list (natL g)))) (by rw [List.length_map, pll])
    refine q_par A13 (Pl := fun l => ∃ left : List Nat, l = [.list [], .list (natL left)] ∧ left.Perm (List.range fx.gs.length)) (ea_imp (ea_consP (ev_lst ea_nil (by decide)) (ea_consP (ev_callB (R := mixR) rfl rfl (ea_cons (ev_newI (en_listRg (n := fx.gs.length) (lenG rfl) (by omega))) ea_nil) fun ds e => ⟨by rw [e]; rfl, _, e, by rw [intL_len]; omega⟩) ea_nil)) fun l h => ?_) (fun l ⟨left, e, _⟩ => ⟨_, _, e⟩) ?_
    · obtain ⟨d, r, rfl, e1, d2, r2, rfl, ⟨ds, e2, l3, m3, e3, e4, pm⟩, e5⟩ := h
      rw [e2] at e3
      have e6 : l3 = natL (List.range fx.gs.length) := by injection e3 with e3 _; injection e3 with e3; exact e3.symm
      rw [e6] at pm
      obtain ⟨left, e7, p7⟩ := nat_perm pm
      exact ⟨left, by rw [e1, e4, e5, e7], p7⟩
    rintro _ _ σ14 G14 H14 ⟨left0, e, pm0⟩ A14
    cases e
    try dsimp only [List.set] at A14
    let tN : List Nat → PyData := fun l => .tuple (natL l)
    refine q_while A14 (Pv := fun k env' ms' => ∃ (lots : List (List Nat)) (left : List Nat) (t14 : Sl), k = left.length ∧ LfOk fx.gs.length lots left ∧ env' = [.un, .a x, .d y, .r (fx.R K), .d (.int (fx.cs.length : Nat)), .d (plD (plL fx.cs fx.gs)), .d (stT zs), .d (.str (frTp fx.cs fx.gs fx.fs fx.w).shown), .d (.tuple (natL lot)), .d (.tuple (natL pls)), .a to, .a du, .d (.list (lots.map tN)), .d (.list (natL left)), t14, s15, s16, s17, s18, s19, s20, s21, s22, s23, s24] ∧ ms' = [(du, T6.map .d), (to, T6.map .d)]) (Pc := fun k _ _ c => c = decide (0 < k)) left0.length ⟨[], left0, s14, rfl, ⟨fun l h => (nomatch h), by simpa using pm0.nodup_iff.mpr List.nodup_range, fun i hi => List.mem_range.mp (pm0.mem_iff.mp (by simpa using hi))⟩, rfl, rfl⟩ ?_ ?_ ?_
    · rintro m env' ms' ⟨lots, left, t14, rfl, L, rfl, rfl⟩
      have ll := L.len
      refine et_imp (et_T (ev_neD (x := .list (natL left)) (y := .list []) (ev_var rfl) (ev_lst ea_nil (by decide)) ((sm_nats (n := 12) (by omega) fun i hi => by have := L.lt i (List.mem_append_right _ hi); omega).shaped (by decide)) (by decide))) fun c e => ?_
      rw [e, eqv_list0]
      unfold natL
      rw [List.isEmpty_map]
      cases left <;> simp
    · rintro m env' ms' Gt2 σ15 G15 H15 ⟨lots, left, t14, rfl, L, rfl, rfl⟩ hc A15 nx2 hnx2
      have ll := L.len
      have hp : 0 < left.length := of_decide_eq_true hc.symm
      refine q_asg A15 (P := fun d => ∃ z : Int, d = .int z ∧ 1 ≤ z ∧ z ≤ left.length) (ev_imp (ev_I0x (C1 := fun i => i = 1) (C2 := fun j => 0 ≤ j ∧ j < (if ((left.length : Nat) : Int) < 3 then ((left.length : Nat) : Int) else 3)) (ev_ex1 ev_int) (ev_take rfl (ev_cb (ea_cons ev_int (ea_cons (ev_is (ev_cb (ea_cons (ev_var rfl) ea_nil) (rc_lenL (l := natL left))) (by rw [natL_len])) ea_nil)) (rc_min2 (i := 3) (n := (left.length : Nat)))) (by split <;> omega) (by split <;> omega))) fun d ⟨i, j, e, c1, c2, c3⟩ => ⟨i + j, e, by omega, by have : j < (if ((left.length : Nat) : Int) < 3 then ((left.length : Nat) : Int) else 3) := c3; split at this <;> omega⟩) fun d σ16 G16 H16 e A16 => ?_
      obtain ⟨z, rfl, z1, z2⟩ := e
      try dsimp only [List.set] at A16
      have tkz : ∀ {env : List Sl} {ms : Ms}, env[13]? = some (.d (.list (natL left))) → env[14]? = some (.d (.int z)) → EvP K env (some x) ms (tSl (rSlL K) (tVar 13) tNoPart (tPart (tVar 14))) (Is (.list ((left.take z.toNat).map (fun i : Nat => (i : Int)) |>.map .int))) := fun h1 h2 =>
        ev_imp (ev_new (en_slL (ev_var h1) eo_none (eo_some (ev_var h2)))) fun d ⟨m, e1, lo, hi, e2, e3, e4⟩ => by
          rw [e1, e4, e2, e3, cutD_take (by omega), natL_len, Nat.min_eq_left (by omega), ← natL_int]
          unfold natL
          rw [List.map_take]
      refine s_par A16 (Pl := fun l => ∃ s : List Nat, l = [.list ((lots ++ [s]).map tN), .list (natL (left.drop z.toNat))] ∧ s.Perm (left.take z.toNat)) (ea_imp (ea_consP (ev_new (en_catLP (l := lots.map tN) (Pm := fun m => ∃ s : List Nat, m = [tN s] ∧ s.Perm (left.take z.toNat)) (ev_var rfl) (ev_imp (ev_new (en_lstP (ea_consP (ev_tupLP (Pl := fun l => ∃ s : List Nat, l = natL s ∧ s.Perm (left.take z.toNat)) (ev_imp (ev_sortI (tkz rfl rfl)) fun d ⟨s, p, _, e⟩ => ?_)) ea_nil) fun l ⟨d, r, e1, _, e2⟩ => by rw [e1, e2]; show 1 ≤ 1000; decide)) fun d ⟨l, e1, d2, r, e2, ⟨m, e3, s, e4, p⟩, e5⟩ => ⟨l, e1, s, by rw [e2, e3, e4, e5], p⟩) ?_)) (ea_consP (ev_imp (P' := Is (.list (natL (left.drop z.toNat)))) (ev_new (en_slL (ev_var rfl) (eo_some (ev_var rfl)) eo_none)) fun d ⟨m, e1, lo, hi, e2, e3, e4⟩ => show d = .list (natL (left.drop z.toNat)) from by rw [e1, e4, e2, e3, cut_fromI (by omega), natL_drop]) ea_nil)) fun l ⟨d, r, e1, ⟨l1, e2, m, ⟨s, e3, p⟩, e4⟩, d2, r2, e5, e6, e7⟩ => ⟨s, by rw [e1, e2, e4, e3, e5, e6, e7, List.map_append]; rfl, p⟩) (fun l ⟨s, e, _⟩ => ⟨_, _, e⟩) ?_
      · have p2 : (s.map PyData.int).Perm (natL (left.take z.toNat)) := by
          rw [natL_int]
          exact p.map _
        obtain ⟨s2, e2, p3⟩ := nat_perm p2
        exact ⟨_, e, s2, e2, p3⟩
      · rintro m ⟨s, rfl, _⟩
        have h1 := L.ok.lens.2.1
        rw [List.length_map]
        show _ + 1 ≤ 2000
        omega
      · rintro _ _ σ17 G17 H17 ⟨s, e, p⟩ A17
        cases e
        try dsimp only [List.set] at A17
        exact hnx2 _ _ _ _ _ _ (by rw [List.length_drop]; omega) ⟨_, _, _, rfl, L.step (k := z.toNat) (by omega) (List.length_pos_iff.mp hp) p, rfl, rfl⟩ A17
    · rintro m env' ms' σ15 G15 H15 ⟨lots0, left, t14, rfl, L0, rfl, rfl⟩ hc A15
      have L1 := L0.ok
      have l1 := L1.lens.2.1
      refine q_asg A15 (P := fun d => ∃ k : Nat, d = ltD (lots0.take k)) (ev_imp (ev_tupN (en_slL (ev_var rfl) eo_none (eo_someP (C := fun i => 0 ≤ i) (ev_imp (ev_take rfl (ev_I0 (ev_cb (ea_cons (ev_var rfl) ea_nil) (rc_lenL (l := lots0.map tN))) ev_int) (by omega) (by rw [List.length_map]; omega)) fun d ⟨i, e, i0, i1⟩ => ⟨i, e, i0⟩)))) fun d ⟨m, e1, lo, hi, e2, ⟨i, e3, i0⟩, e4⟩ => ⟨min i.toNat (lots0.map tN).length, by rw [e1, e4, e2, e3, cutD_take i0, ← List.map_take]⟩) fun d σ16 G16 H16 e A16 => ?_
      obtain ⟨kk, rfl⟩ := e
      try dsimp only [List.set] at A16
      have L : LtOk fx.gs.length (lots0.take kk) := L1.take kk
      generalize lots0.take kk = lots at L A16
      obtain ⟨J, ejl⟩ := jn_lnk F L
      have ejn : byH fx.cs (leftL fx.cs fx.gs lots) = inO fx.cs (lnk fx.gs lots) := by rw [ejl]
      let W : PyData := frTp fx.cs (inO fx.cs (lnk fx.gs lots)) fx.fs fx.w
      refine q_asg A16 (P := Is W) (ev_is (ev_tup (ea_cons (cells rfl) (ea_cons (ev_callV (ds := [frTp fx.cs fx.gs fx.fs fx.w, ltD lots]) (v := .tuple (gsD (inO fx.cs (lnk fx.gs lots)))) (ea_cons (fr3 rfl) (ea_cons (ev_var rfl) ea_nil)) rfl ⟨fx.cs, fx.gs, lots, [.tuple (sTs fx.fs), .str fx.w], rfl, J⟩ fun d h => by rw [h fx.cs fx.gs lots [.tuple (sTs fx.fs), .str fx.w] rfl, ejn]) (ea_cons (adds rfl) (ea_cons (ways rfl) ea_nil)))) (by show 4 ≤ 1000; decide)) rfl) fun d σ17 G17 H17 e A17 => ?_
      subst e
      try dsimp only [List.set] at A17
      -- told, due: linked
      have rv := lnk_rev F L
      have lkd : ∀ {env : List Sl} {ms : Ms}, env[3]? = some (.r (fx.R K)) → env[12]? = some (.d (ltD lots)) → EvP K env (some x) ms (tCall (sp_linked K) [] E0 (tCons (tVar 3) (tCons (tVar 12) tNil))) (Is W) := fun h1 h2 =>
        ev_imp (ev_callV2 (n := 1) (Pl := Is [ltD lots]) fx (evu_var h1) (ea_cons (ev_var h2) ea_nil) fun ds e => ⟨by rw [e]; rfl, lots, e, F, L⟩) fun d ⟨ds, e1, h⟩ => h lots e1
      have lkr : ∀ {env : List Sl} {ms : Ms}, env[3]? = some (.r (fx.R K)) → env[12]? = some (.d (ltD lots)) → EvP K env (some x) ms (tCall (sp_linked K) [] E0 (tCons (tVar 3) (tCons (tRevT K (tVar 12)) tNil))) (Is W) := fun h1 h2 =>
        ev_imp (ev_callV2 (n := 1) (Pl := Is [ltD lots.reverse]) fx (evu_var h1) (ea_cons (ev_is (ev_revT (ev_var h2)) (by show PyData.tuple _ = .tuple _; rw [List.map_reverse])) ea_nil) fun ds e => ⟨by rw [e]; rfl, lots.reverse, e, F, rv.2⟩) fun d ⟨ds, e1, h⟩ => by
          rw [h lots.reverse e1, rv.1]
          try rfl
      have isf : ∀ {env : List Sl} {ms : Ms}, env[15]? = some (.d W) → EvP K env (some x) ms (tCall (sp_is_frame K) [] E0 (tCons (tVar 15) tNil)) (Is (.bool true)) := fun h1 =>
        ev_callV (ds := [W]) (ea_cons (ev_var h1) ea_nil) rfl ⟨_, _, _, _, rfl, lnk_fr F L, F.nms⟩ fun d h => h
      let T3 : List PyData := [W, W, .bool true]
      refine q_ext (n := 1) A17 rfl rfl (Pl := Is T3) (en_lst (ea_cons (lkd rfl rfl) (ea_cons (lkr rfl rfl) (ea_cons (isf rfl) ea_nil))) (by show 3 ≤ 1000; decide)) (by show 6 ≤ 2000; decide) (fun ds e => by rw [e]; show 3 ≤ 2000; decide) fun ds G18 H18 e A18 => ?_
      subst e
      refine q_ext (n := 0) A18 rfl rfl (Pl := Is T3) (en_lst (ea_cons (ev_var rfl) (ea_cons (ev_var rfl) (ea_cons ev_bl ea_nil))) (by show 3 ≤ 1000; decide)) (by show 6 ≤ 2000; decide) (fun ds e => by rw [e]; show 3 ≤ 2000; decide) fun ds G19 H19 e A19 => ?_
      subst e
      let T9 : List PyData := T6 ++ T3
      have A19 : At K [.un, .a x, .d y, .r (fx.R K), .d (.int (fx.cs.length : Nat)), .d (plD (plL fx.cs fx.gs)), .d (stT zs), .d (.str (frTp fx.cs fx.gs fx.fs fx.w).shown), .d (.tuple (natL lot)), .d (.tuple (natL pls)), .a to, .a du, .d (ltD lots), .d (.list (natL left)), t14, .d W, s16, s17, s18, s19, s20, s21, s22, s23, s24] (some x) [(du, T9.map .d), (to, T9.map .d)] G0 H0 Gt _ G19 H19 := A19
      -- ways
      let wyD : PyData → PyData := fun d => .tuple [.tuple (sTs fx.cs), .tuple (gsD fx.gs), .tuple (sTs fx.fs), d]
      refine q_for A19 (Pl := Is [.str "strict", .str "usual"]) (f := fun y env => env.set 16 (.d y)) (vs := [16]) (ei_tup (ev_tup (ea_cons ev_str (ea_cons ev_str ea_nil)) (by show 2 ≤ 1000; decide))) (fun l _ y _ => tg_name (by decide))
        (fun l i env' ms' => ∃ t16, env' = [.un, .a x, .d y, .r (fx.R K), .d (.int (fx.cs.length : Nat)), .d (plD (plL fx.cs fx.gs)), .d (stT zs), .d (.str (frTp fx.cs fx.gs fx.fs fx.w).shown), .d (.tuple (natL lot)), .d (.tuple (natL pls)), .a to, .a du, .d (ltD lots), .d (.list (natL left)), t14, .d W, t16, s17, s18, s19, s20, s21, s22, s23, s24] ∧ i ≤ 2 ∧ ms' = [(du, (T9 ++ (l.take i).map wyD).map .d), (to, (T9 ++ (l.take i).map wyD).map .d)]) (fun l e => ⟨s16, rfl, by decide, by rw [List.take_zero, List.map_nil, List.append_nil]⟩) ?_ ?_
      · rintro l i yw env' ms' Gt2 σ20 G20 H20 rfl hy ⟨t16, rfl, i2, rfl⟩ A20 nx2 hnx2
        have tk : ([.str "strict", .str "usual"] : List PyData).take (i + 1) = ([.str "strict", .str "usual"] : List PyData).take i ++ [yw] := by rw [List.take_add_one, hy]; rfl
        obtain ⟨w2, rfl⟩ : ∃ w2 : Str, yw = .str w2 := by
          have := List.mem_of_getElem? hy
          simp only [List.mem_cons, List.not_mem_nil, or_false] at this
          rcases this with rfl | rfl <;> exact ⟨_, rfl⟩
        have il := (List.getElem?_eq_some_iff.mp hy).1
        have len1 : ((T9 ++ (([.str "strict", .str "usual"] : List PyData).take i).map wyD).map Sl.d).length ≤ 2000 := by
          rw [List.length_map, List.length_append, List.length_map, List.length_take]
          show 9 + min i 2 ≤ 2000
          omega
        try dsimp only [List.set] at A20
        refine q_app (n := 1) A20 rfl rfl (P := Is (wyD (.str w2))) (ev_callV (ds := [frTp fx.cs fx.gs fx.fs fx.w, .str w2]) (v := wyD (.str w2)) (ea_cons (fr3 rfl) (ea_cons (ev_var rfl) ea_nil)) rfl ⟨_, _, _, _, _, rfl⟩ fun d h => h _ _ _ _ _ rfl) len1 fun d G21 H21 e A21 => ?_
        subst e
        refine s_app (n := 0) A21 rfl rfl (P := Is (wyD (.str w2))) (ev_catA (l := [.tuple (sTs fx.cs), .tuple (gsD fx.gs), .tuple (sTs fx.fs)]) (m := [.str w2]) (ev_imp (ev_slT (l := [.tuple (sTs fx.cs), .tuple (gsD fx.gs), .tuple (sTs fx.fs), .str fx.w]) (fr3 rfl) eo_none (eo_some ev_int)) fun d ⟨lo, hi, e1, e2, e3⟩ => by rw [e3, e1, e2]; rfl) (ev_tup (ea_cons (ev_var rfl) ea_nil) (by show 1 ≤ 1000; decide)) (by show 3 + 1 ≤ 1000; decide)) len1 fun d G22 H22 e A22 => hnx2 _ _ _ _ _ ⟨_, rfl, by have : i < 2 := il; omega, ?_⟩ A22
        subst e
        rw [tk]
        simp only [List.map_append, List.set_cons_zero, List.set_cons_succ, List.append_assoc, List.map_cons, List.map_nil]
      rintro l env' ms' σ20 G20 H20 rfl ⟨t16, rfl, _, rfl⟩ A20
      let T11 : List PyData := T9 ++ [wyD (.str "strict"), wyD (.str "usual")]
      have A20 : At K [.un, .a x, .d y, .r (fx.R K), .d (.int (fx.cs.length : Nat)), .d (plD (plL fx.cs fx.gs)), .d (stT zs), .d (.str (frTp fx.cs fx.gs fx.fs fx.w).shown), .d (.tuple (natL lot)), .d (.tuple (natL pls)), .a to, .a du, .d (ltD lots), .d (.list (natL left)), t14, .d W, t16, s17, s18, s19, s20, s21, s22, s23, s24] (some x) [(du, T11.map .d), (to, T11.map .d)] G0 H0 Gt _ G20 H20 := A20
      -- REST2
      let tkD : Str → PyData := fun c => frTp fx.cs (inO fx.cs (fx.gs ++ [[c]])) (fx.fs.filter fun y => !decide (y = c)) fx.w
      refine q_for A20 (Pl := Is (sTs fx.fs)) (f := fun y env => env.set 17 (.d y)) (vs := [17]) (ei_tup (adds rfl)) (fun l _ y _ => tg_name (by decide))
        (fun l i env' ms' => ∃ t17 t18, env' = [.un, .a x, .d y, .r (fx.R K), .d (.int (fx.cs.length : Nat)), .d (plD (plL fx.cs fx.gs)), .d (stT zs), .d (.str (frTp fx.cs fx.gs fx.fs fx.w).shown), .d (.tuple (natL lot)), .d (.tuple (natL pls)), .a to, .a du, .d (ltD lots), .d (.list (natL left)), t14, .d W, t16, t17, t18, s19, s20, s21, s22, s23, s24] ∧ i ≤ fx.fs.length ∧ ms' = [(du, (T11 ++ (fx.fs.take i).map tkD).map .d), (to, (T11 ++ (fx.fs.take i).map tkD).map .d)]) (fun l e => ⟨s17, s18, rfl, Nat.zero_le _, by rw [List.take_zero, List.map_nil, List.append_nil]⟩) ?_ ?_
      · rintro l i yc env' ms' Gt3 σ21 G21 H21 rfl hy ⟨t17, t18, rfl, i2, rfl⟩ A21 nx3 hnx3
        obtain ⟨c, hc, rfl⟩ : ∃ c, fx.fs[i]? = some c ∧ yc = .str c := by
          unfold sTs at hy
          rw [List.getElem?_map] at hy
          cases q : fx.fs[i]? with
          | none => rw [q] at hy; cases hy
          | some a => rw [q] at hy; exact ⟨a, rfl, (Option.some.inj hy).symm⟩
        have hcm : c ∈ fx.fs := List.mem_of_getElem? hc
        have il := (List.getElem?_eq_some_iff.mp hc).1
        have tk : fx.fs.take (i + 1) = fx.fs.take i ++ [c] := by rw [List.take_add_one, hc]; rfl
        have len1 : ((T11 ++ (fx.fs.take i).map tkD).map Sl.d).length ≤ 2000 := by
          rw [List.length_map, List.length_append, List.length_map, List.length_take]
          show 11 + min i _ ≤ 2000
          omega
        have etk : byH fx.cs (leftL fx.cs (fx.gs ++ [[c]]) []) = inO fx.cs (fx.gs ++ [[c]]) := by
          rw [leftL_nil]
          show _ = byH fx.cs ((fx.gs ++ [[c]]).map (grpF fx.cs))
          rw [tak_law F hcm]
        have egs : gsD fx.gs ++ [.tuple (sTs [c])] = gsD (fx.gs ++ [[c]]) := by unfold gsD; rw [List.map_append]; rfl
        try dsimp only [List.set] at A21
        refine q_asg A21 (P := Is (.tuple (gsD (inO fx.cs (fx.gs ++ [[c]]))))) (ev_callV (ds := [.tuple (.tuple (sTs fx.cs) :: .tuple (gsD (fx.gs ++ [[c]])) :: []), ltD []]) (v := .tuple (gsD (inO fx.cs (fx.gs ++ [[c]])))) (ea_cons (ev_tup (ea_cons (cells rfl) (ea_cons (ev_is (ev_catA (l := gsD fx.gs) (m := [.tuple (sTs [c])]) (grps rfl) (ev_tup (ea_cons (ev_tup (ea_cons (ev_var rfl) ea_nil) (by show 1 ≤ 1000; decide)) ea_nil) (by show 1 ≤ 1000; decide)) (by unfold gsD; rw [List.length_map]; show _ + 1 ≤ 1000; omega)) (by rw [egs])) ea_nil)) (by show 2 ≤ 1000; decide)) (ea_cons (ev_tup ea_nil (by show 0 ≤ 1000; decide)) ea_nil)) rfl ⟨_, _, [], [], rfl, jn_tak F hcm⟩ fun d h => by rw [h _ _ [] [] rfl, etk]) fun d σ22 G22 H22 e A22 => ?_
        subst e
        try dsimp only [List.set] at A22
        refine q_app (n := 1) A22 rfl rfl (P := Is (tkD c)) (ev_imp (ev_callV2 (n := 1) (Pl := Is [.str c]) fx (evu_var rfl) (ea_cons (ev_var rfl) ea_nil) fun ds e => ⟨by rw [e]; rfl, c, e, F, hcm⟩) fun d ⟨ds, e1, h⟩ => h c e1) len1 fun d G23 H23 e A23 => ?_
        subst e
        refine s_app (n := 0) A23 rfl rfl (P := Is (tkD c)) (ev_tup (ea_cons (cells rfl) (ea_cons (ev_var rfl) (ea_cons (ev_tupNI (en_dec (enc := .str) (L := fx.fs) (t := fun y => !decide (y = c)) (g := .str) (f := fun y env => env.set 24 (.d y)) (fun _ _ => str_inj) (ei_tup (l := sTs fx.fs) (adds rfl)).g (by omega) (fun a _ => tg_name (by decide)) (fun a ha => et_T (ev_neS (ev_var rfl) (ev_var rfl))) (fun a _ _ => ev_var rfl))) (ea_cons (ways rfl) ea_nil)))) (by show 4 ≤ 1000; decide)) len1 fun d G24 H24 e A24 => hnx3 _ _ _ _ _ ⟨_, _, rfl, by omega, ?_⟩ A24
        subst e
        rw [tk]
        simp only [List.map_append, List.set_cons_zero, List.set_cons_succ, List.append_assoc, List.map_cons, List.map_nil]
      rintro l env' ms' σ21 G21 H21 rfl ⟨t17, t18, rfl, _, rfl⟩ A21
      rw [show (sTs fx.fs).length = fx.fs.length by unfold sTs; rw [List.length_map], List.take_length] at A21
      let T12 : List PyData := T11 ++ fx.fs.map tkD
      have A21 : At K [.un, .a x, .d y, .r (fx.R K), .d (.int (fx.cs.length : Nat)), .d (plD (plL fx.cs fx.gs)), .d (stT zs), .d (.str (frTp fx.cs fx.gs fx.fs fx.w).shown), .d (.tuple (natL lot)), .d (.tuple (natL pls)), .a to, .a du, .d (ltD lots), .d (.list (natL left)), t14, .d W, t16, t17, t18, s19, s20, s21, s22, s23, s24] (some x) [(du, T12.map .d), (to, T12.map .d)] G0 H0 Gt _ G21 H21 := A21
      have len2 : (T12.map Sl.d).length ≤ 2000 := by
        rw [List.length_map]
        show (T11 ++ fx.fs.map tkD).length ≤ 2000
        rw [List.length_append, List.length_map]
        show 11 + _ ≤ 2000
        omega
      -- names
      refine q_asg A21 (P := fun d => ∃ ns : List Str, d = .tuple (sTs ns) ∧ ns.length = fx.cs.length ∧ ∀ c ∈ ns, c ∈ nmAll) (ev_imp (ev_tupN (en_slLQ (Pl := fun l => ∃ m, l = sTs m ∧ m.Perm nm8) (ev_imp (ev_callB (R := mixR) (Pl := Is [.list (sTs nm8)]) rfl rfl (ea_cons (ev_lst (l := sTs nm8) (ea_cons ev_str (ea_cons ev_str (ea_cons ev_str (ea_cons ev_str (ea_cons ev_str (ea_cons ev_str (ea_cons ev_str (ea_cons ev_str ea_nil)))))))) (by decide)) ea_nil) fun ds e => ⟨by rw [e]; rfl, _, e, by decide⟩) fun d ⟨ds, e1, l, m, e2, e3, pm⟩ => ?_) eo_none (eo_some (ev_var rfl)))) fun d ⟨m, e1, l, lo, hi, ⟨m2, e2, p2⟩, e3, e4, e5⟩ => ?_) fun d σ25 G25 H25 e A25 => ?_
      · rw [e1] at e2
        injection e2 with e2 _
        injection e2 with e2
        rw [← e2] at pm
        obtain ⟨m3, e4, p3⟩ := strs_perm pm
        exact ⟨m, e3, m3, e4, p3⟩
      · have l2 : m2.length = 8 := p2.length_eq
        have ll : l.length = 8 := by rw [e2]; unfold sTs; rw [List.length_map, l2]
        refine ⟨m2.take fx.cs.length, ?_, ?_, fun c hc => nm8_all c (p2.mem_iff.mp (List.mem_of_mem_take hc))⟩
        · rw [e1, e5, e3, e4, cutD_take (by omega), ll, e2]
          unfold sTs
          rw [List.map_take, show min ((fx.cs.length : Nat) : Int).toNat 8 = fx.cs.length by omega]
        · rw [List.length_take, l2]
          omega
      obtain ⟨nn, rfl, ln, nna⟩ := e
      try dsimp only [List.set] at A25
      have nl12 : nn.length ≤ 12 := by omega
      refine q_asgU (R := DkR K fx.cs (sTs nn)) A25 (evu_dictZip (ks := fx.cs) (ds := sTs nn) (ea_cons (ev_newI (en_listOf (cells rfl) .t)) (ea_cons (ev_newI (en_listOf (ev_var rfl) .t)) ea_nil)) (by unfold sTs; rw [List.length_map, ln]) F.nd) fun σ26 G26 H26 A26 => ?_
      try dsimp only [List.set] at A26
      have look : ∀ c ∈ fx.cs, (sTs nn)[fx.cs.idxOf c]? = some (.str (rnm fx.cs nn c)) := fun c hc => by
        have lt := List.idxOf_lt_length_iff.mpr hc
        unfold sTs rnm
        rw [List.getElem?_map, List.getD_eq_getElem?_getD, List.getElem?_eq_getElem (by omega)]
        rfl
      let rn : PyData := frTp nn (fx.gs.map fun g => g.map (rnm fx.cs nn)) (fx.fs.map (rnm fx.cs nn)) fx.w
      refine q_app (n := 1) A26 rfl rfl (P := Is rn) (ev_callV (ds := [frTp fx.cs fx.gs fx.fs fx.w, .tuple (sTs nn)]) (v := rn) (ea_cons (fr3 rfl) (ea_cons (ev_var rfl) ea_nil)) rfl ⟨_, _, _, _, _, rfl, F, ln⟩ fun d h => h _ _ _ _ _ rfl) len2 fun d G27 H27 e A27 => ?_
      subst e
      refine q_asg A27 (P := Is (.tuple (gsD (fx.gs.map fun g => g.map (rnm fx.cs nn))))) (ev_is (ev_tupNI (en_decA (enc := fun g => .tuple (sTs g)) (L := fx.gs) (g := fun g => .tuple (sTs (g.map (rnm fx.cs nn)))) (f := fun y env => env.set 23 (.d y)) tupS_inj (ei_tup (l := gsD fx.gs) (grps rfl)).g (by omega) (fun a _ => tg_name (by decide)) (fun g hg => ev_is (ev_tupNI (en_decA (enc := .str) (L := g) (g := fun c => .str (rnm fx.cs nn c)) (f := fun y env => env.set 17 (.d y)) (fun _ _ => str_inj) (ei_tup (l := sTs g) (ev_var rfl)).g (by have := F.gg hg; omega) (fun a _ => tg_name (by decide)) (fun c hc => ev_dGet (evu_var rfl) (ev_var rfl) (look c ((F.ps g hg).2.subset hc))))) (by unfold sTs; rw [List.map_map]; rfl)))) (by unfold gsD; rw [List.map_map]; rfl)) fun d σ28 G28 H28 e A28 => ?_
      subst e
      try dsimp only [List.set] at A28
      refine q_app (n := 0) A28 rfl rfl (P := Is rn) (ev_is (ev_tup (ea_cons (ev_var rfl) (ea_cons (ev_var rfl) (ea_cons (ev_is (ev_tupNI (en_decA (enc := .str) (L := fx.fs) (g := fun c => .str (rnm fx.cs nn c)) (f := fun y env => env.set 17 (.d y)) (fun _ _ => str_inj) (ei_tup (l := sTs fx.fs) (adds rfl)).g (by omega) (fun a _ => tg_name (by decide)) (fun c hc => ev_dGet (evu_var rfl) (ev_var rfl) (look c (F.fr.subset hc))))) (y := .tuple (sTs (fx.fs.map (rnm fx.cs nn)))) (by unfold sTs; rw [List.map_map]; rfl)) (ea_cons (ways rfl) ea_nil)))) (by show 4 ≤ 1000; decide)) rfl) len2 fun d G29 H29 e A29 => ?_
      subst e
      let T : List PyData := T12 ++ [rn]
      have A29 : At K [.un, .a x, .d y, .r (fx.R K), .d (.int (fx.cs.length : Nat)), .d (plD (plL fx.cs fx.gs)), .d (stT zs), .d (.str (frTp fx.cs fx.gs fx.fs fx.w).shown), .d (.tuple (natL lot)), .d (.tuple (natL pls)), .a to, .a du, .d (ltD lots), .d (.list (natL left)), t14, .d W, t16, t17, .d (.tuple (gsD (fx.gs.map fun g => g.map (rnm fx.cs nn)))), .d (.tuple (sTs nn)), .r (DkR K fx.cs (sTs nn)), s21, s22, s23, s24] (some x) [(du, T.map .d), (to, T.map .d)] G0 H0 Gt σ28 G29 H29 := by
        have eT : T.map Sl.d = T12.map Sl.d ++ [.d rn] := by show (T12 ++ [rn]).map Sl.d = _; rw [List.map_append]; rfl
        rw [eT]
        exact A29
      obtain ⟨G30, A30⟩ := A29.freeze (i := 11) (n := 0) (ds := T) rfl rfl
      obtain ⟨G31, A31⟩ := A30.freeze (i := 10) (n := 0) (ds := T) rfl rfl
      try dsimp only [List.set, List.eraseIdx] at A31
      -- sizes
      have z200 : ∀ {z : Int}, z.natAbs ≤ 4 → z.natAbs < 2 ^ 200 := fun h => Nat.lt_of_le_of_lt h (Nat.lt_of_lt_of_le (by decide : 4 < 2 ^ 3) (Nat.pow_le_pow_right (by decide) (by decide)))
      have sm4 : Sm (.list (fx.cs.map fun c => flD (gO (grp fx.gs c)))) 4836 3 := by
        refine (sm_list (w := 201 * fx.cs.length) (h := 0) ((sma_all (w := 200) (h := 0) fun z hz => ?_).le (by rw [List.length_map]; omega) (Nat.le_refl _))).le (by omega) (by decide)
        obtain ⟨c, _, rfl⟩ := List.mem_map.mp hz
        cases q : grp fx.gs c with
        | none => exact sm_none.le (by decide) (Nat.le_refl _)
        | some i =>
          have hi := (grp_mem q).1
          refine sm_int (Nat.lt_of_lt_of_le (m := 2 ^ 60) ?_ ?_)
          · show ((i : Nat) : Int).natAbs < 2 ^ 60
            rw [Int.natAbs_natCast]
            omega
          · exact Nat.pow_le_pow_right (by decide) (by decide)
      have smp : ∀ t, Sm (.tuple (natL (plc fx.cs t))) 4836 3 := fun t => sm_lt (n := fx.cs.length) (Nat.le_trans (plc_len _ _) cl) (by omega) (fun i hi => (plc_mem.mp hi).1) (by decide)
      have sm6 : SmA T6 30000 3 := by
        refine (sma_cons sm4 (sma_cons (smp _) (sma_cons (smp _) (sma_cons (sm_lt (l := mvs zs) (n := fx.cs.length) (by have := mvs_len zs; omega) (by omega) (fun i hi => by have := mvs_lt hi; omega) (by decide)) (sma_cons (sm_lt (l := tch fx.cs fx.gs zs) (n := fx.gs.length) ?_ (by omega) (fun i hi => (tch_mem.mp hi).1) (by decide)) (sma_cons ((sm_stT (zs := prt zs pls) ?_ ?_).le (Nat.le_refl _) (by decide)) sma_nil)))))).le (by decide) (Nat.le_refl _)
        · have := (List.filter_sublist (l := List.range fx.gs.length) (p := fun i => (fx.gs.getD i []).any fun c => mvd zs (fx.cs.idxOf c))).length_le
          rw [List.length_range] at this
          exact Nat.le_trans this gl
        · unfold prt
          rw [List.length_map, List.length_zipIdx]
          omega
        · intro z hz
          unfold prt at hz
          obtain ⟨u, hu, rfl⟩ := List.mem_map.mp hz
          by_cases q : u.2 ∈ pls
          · rw [if_pos q]
            have hu2 : u.1 ∈ zs := by
              obtain ⟨j, hj⟩ := List.mem_iff_getElem?.mp hu
              rw [List.getElem?_zipIdx] at hj
              cases q2 : zs[j]? with
              | none => rw [q2] at hj; cases hj
              | some z2 =>
                rw [q2] at hj
                rw [← Option.some.inj hj]
                exact List.mem_of_getElem? q2
            exact ⟨z200 (zq _ hu2).2.1, z200 (zq _ hu2).2.2⟩
          · rw [if_neg q]
            exact ⟨z200 (by decide), z200 (by decide)⟩
      have smr : SmA (T3 ++ ([wyD (.str "strict"), wyD (.str "usual")] ++ (fx.fs.map tkD ++ [rn]))) 40000 3 := by
        refine (sma_all (w := 2400) (h := 3) fun z hz => ?_).le ?_ (Nat.le_refl _)
        · have hW : Sm W 2400 3 := (lnk_fr F L).s.sm
          have hw : ∀ w2 : Str, w2 = "usual" ∨ w2 = "strict" → Sm (wyD (.str w2)) 2400 3 := fun w2 h => by
            have S := F.s
            exact FrS.sm (w := w2) ⟨S.cl, S.gl, S.fl, S.gg, S.cm, S.fm, h⟩
          rcases List.mem_append.mp hz with hz | hz
          · have hz : z ∈ [W, W, .bool true] := hz
            simp only [List.mem_cons, List.not_mem_nil, or_false] at hz
            rcases hz with rfl | rfl | rfl
            · exact hW
            · exact hW
            · exact sm_bool.le (by decide) (Nat.le_refl _)
          rcases List.mem_append.mp hz with hz | hz
          · simp only [List.mem_cons, List.not_mem_nil, or_false] at hz
            rcases hz with rfl | rfl
            · exact hw _ (.inr rfl)
            · exact hw _ (.inl rfl)
          rcases List.mem_append.mp hz with hz | hz
          · obtain ⟨c, hc, rfl⟩ := List.mem_map.mp hz
            exact (tak_s F hc).sm
          · rw [List.mem_singleton.mp hz]
            exact (ren_s F ln nna).sm
        · rw [List.length_append, List.length_append, List.length_append, List.length_map]
          show 2401 * (3 + (2 + (_ + 1))) ≤ 40000
          omega
      have eT2 : T = T6 ++ (T3 ++ ([wyD (.str "strict"), wyD (.str "usual")] ++ (fx.fs.map tkD ++ [rn]))) := by
        show (((T6 ++ T3) ++ _) ++ _) ++ _ = _
        simp only [List.append_assoc]
      have smT : SmA T 80000 59 := by
        rw [eT2]
        exact (sma_app sm6 smr).le (by decide) (by decide)
      have rpr : ∀ {env : List Sl} {ms : Ms}, env[3]? = some (.r (fx.R K)) → EvP K env (some x) ms (tCB (rRepr K) (tCons (tVar 3) tNil)) (Is (.str (frTp fx.cs fx.gs fx.fs fx.w).shown)) := fun h =>
        ev_cb (ea_cons (fr3 h) ea_nil) (rc_repr (d := frTp fx.cs fx.gs fx.fs fx.w) (fun v G p => by cases p; exact ⟨_, rfl⟩) smF.shw (PyData.hasDict_of_canLay _ smF.can) (Nat.le_trans smF.dep (by decide)) (smF.shown (by decide)))
      refine s_if (Pt := Is false) A31 (et_imp (et_or (c := false) (d := false) (et_not (c := true) (et_T (ev_alike (L := T) rfl rfl smT))) fun _ => et_T (ev_is (ev_neS (rpr rfl) (ev_var rfl)) (by rw [decide_eq_true rfl]; rfl))) fun c e => e) (fun e => (nomatch e)) (fun _ G32 H32 A32 => hnx _ _ _ _ _ ⟨_, _, _, _, _, _, _, _, _, _, _, _, _, _, _, _, _, _, _, _, _, _, _, rfl, rfl⟩ A32)
end
end K05
set_option Elab.async false
set_option linter.all false
set_option maxRecDepth 100000
set_option maxHeartbeats 4000000
namespace K05
open PySem L2 Dl
theorem all_mk {P : Program} {w : World} {K : PySem.W.Frag} {h : Heap} {mg : Str → Option Value} {fa : Addr} (X : K.In h) (G : h.Ns mainGlobals mg) (hfa : mg "law" = some (.ref fa))
    {f0 : Addr} {od0 an0 : Option Addr} {sl0 : Array (Option Value)} {oc0 kV0 dc0 pm0 cd0 ct0 : Value}
    (a0 : PySem.W.nsIn K mainGlobals "group_of" = some (some (.ref f0)))
    (l0 : K.lookup f0 = some ⟨oc0, od0, .func (PySem.W.fnOf "group_of" "group_of" (defArgs s_group_of) (defBody s_group_of) (defScope s_group_of) .none kV0 dc0 pm0 an0 cd0 ct0), sl0⟩)
    (c0 : PySem.W.codeIn K cd0 "group_of" = true) (k0 : PySem.W.keepIn K (.ref f0) = true)
    {f1 : Addr} {od1 an1 : Option Addr} {sl1 : Array (Option Value)} {oc1 kV1 dc1 pm1 cd1 ct1 : Value}
    (a1 : PySem.W.nsIn K mainGlobals "places_of" = some (some (.ref f1)))
    (l1 : K.lookup f1 = some ⟨oc1, od1, .func (PySem.W.fnOf "places_of" "places_of" (defArgs s_places_of) (defBody s_places_of) (defScope s_places_of) .none kV1 dc1 pm1 an1 cd1 ct1), sl1⟩)
    (c1 : PySem.W.codeIn K cd1 "places_of" = true) (k1 : PySem.W.keepIn K (.ref f1) = true)
    {f2 : Addr} {od2 an2 : Option Addr} {sl2 : Array (Option Value)} {oc2 kV2 dc2 pm2 cd2 ct2 : Value}
    (a2 : PySem.W.nsIn K mainGlobals "added_places" = some (some (.ref f2)))
    (l2 : K.lookup f2 = some ⟨oc2, od2, .func (PySem.W.fnOf "added_places" "added_places" (defArgs s_added_places) (defBody s_added_places) (defScope s_added_places) .none kV2 dc2 pm2 an2 cd2 ct2), sl2⟩)
    (c2 : PySem.W.codeIn K cd2 "added_places" = true) (k2 : PySem.W.keepIn K (.ref f2) = true)
    {f3 : Addr} {od3 an3 : Option Addr} {sl3 : Array (Option Value)} {oc3 kV3 dc3 pm3 cd3 ct3 : Value}
    (a3 : PySem.W.nsIn K mainGlobals "moved" = some (some (.ref f3)))
    (l3 : K.lookup f3 = some ⟨oc3, od3, .func (PySem.W.fnOf "moved" "moved" (defArgs s_moved) (defBody s_moved) (defScope s_moved) .none kV3 dc3 pm3 an3 cd3 ct3), sl3⟩)
    (c3 : PySem.W.codeIn K cd3 "moved" = true) (k3 : PySem.W.keepIn K (.ref f3) = true)
    {f4 : Addr} {od4 an4 : Option Addr} {sl4 : Array (Option Value)} {oc4 kV4 dc4 pm4 cd4 ct4 : Value}
    (a4 : PySem.W.nsIn K mainGlobals "touched" = some (some (.ref f4)))
    (l4 : K.lookup f4 = some ⟨oc4, od4, .func (PySem.W.fnOf "touched" "touched" (defArgs s_touched) (defBody s_touched) (defScope s_touched) .none kV4 dc4 pm4 an4 cd4 ct4), sl4⟩)
    (c4 : PySem.W.codeIn K cd4 "touched" = true) (k4 : PySem.W.keepIn K (.ref f4) = true)
    {f5 : Addr} {od5 an5 : Option Addr} {sl5 : Array (Option Value)} {oc5 kV5 dc5 pm5 cd5 ct5 : Value}
    (a5 : PySem.W.nsIn K mainGlobals "part" = some (some (.ref f5)))
    (l5 : K.lookup f5 = some ⟨oc5, od5, .func (PySem.W.fnOf "part" "part" (defArgs s_part) (defBody s_part) (defScope s_part) .none kV5 dc5 pm5 an5 cd5 ct5), sl5⟩)
    (c5 : PySem.W.codeIn K cd5 "part" = true) (k5 : PySem.W.keepIn K (.ref f5) = true)
    {f6 : Addr} {od6 an6 : Option Addr} {sl6 : Array (Option Value)} {oc6 kV6 dc6 pm6 cd6 ct6 : Value}
    (a6 : PySem.W.nsIn K mainGlobals "linked" = some (some (.ref f6)))
    (l6 : K.lookup f6 = some ⟨oc6, od6, .func (PySem.W.fnOf "linked" "linked" (defArgs s_linked) (defBody s_linked) (defScope s_linked) .none kV6 dc6 pm6 an6 cd6 ct6), sl6⟩)
    (c6 : PySem.W.codeIn K cd6 "linked" = true) (k6 : PySem.W.keepIn K (.ref f6) = true)
    {f7 : Addr} {od7 an7 : Option Addr} {sl7 : Array (Option Value)} {oc7 kV7 dc7 pm7 cd7 ct7 : Value}
    (a7 : PySem.W.nsIn K mainGlobals "taken" = some (some (.ref f7)))
    (l7 : K.lookup f7 = some ⟨oc7, od7, .func (PySem.W.fnOf "taken" "taken" (defArgs s_taken) (defBody s_taken) (defScope s_taken) .none kV7 dc7 pm7 an7 cd7 ct7), sl7⟩)
    (c7 : PySem.W.codeIn K cd7 "taken" = true) (k7 : PySem.W.keepIn K (.ref f7) = true)
    {f8 : Addr} {od8 an8 : Option Addr} {sl8 : Array (Option Value)} {oc8 kV8 dc8 pm8 cd8 ct8 : Value}
    (a8 : PySem.W.nsIn K mainGlobals "with_way" = some (some (.ref f8)))
    (l8 : K.lookup f8 = some ⟨oc8, od8, .func (PySem.W.fnOf "with_way" "with_way" (defArgs s_with_way) (defBody s_with_way) (defScope s_with_way) .none kV8 dc8 pm8 an8 cd8 ct8), sl8⟩)
    (c8 : PySem.W.codeIn K cd8 "with_way" = true) (k8 : PySem.W.keepIn K (.ref f8) = true)
    {f9 : Addr} {od9 an9 : Option Addr} {sl9 : Array (Option Value)} {oc9 kV9 dc9 pm9 cd9 ct9 : Value}
    (a9 : PySem.W.nsIn K mainGlobals "renamed" = some (some (.ref f9)))
    (l9 : K.lookup f9 = some ⟨oc9, od9, .func (PySem.W.fnOf "renamed" "renamed" (defArgs s_renamed) (defBody s_renamed) (defScope s_renamed) .none kV9 dc9 pm9 an9 cd9 ct9), sl9⟩)
    (c9 : PySem.W.codeIn K cd9 "renamed" = true) (k9 : PySem.W.keepIn K (.ref f9) = true)
    {f10 : Addr} {od10 an10 : Option Addr} {sl10 : Array (Option Value)} {oc10 kV10 dc10 pm10 cd10 ct10 : Value}
    (a10 : PySem.W.nsIn K mainGlobals "places_of_cells" = some (some (.ref f10)))
    (l10 : K.lookup f10 = some ⟨oc10, od10, .func (PySem.W.fnOf "places_of_cells" "places_of_cells" (defArgs s_places_of_cells) (defBody s_places_of_cells) (defScope s_places_of_cells) .none kV10 dc10 pm10 an10 cd10 ct10), sl10⟩)
    (c10 : PySem.W.codeIn K cd10 "places_of_cells" = true) (k10 : PySem.W.keepIn K (.ref f10) = true)
    {f11 : Addr} {od11 an11 : Option Addr} {sl11 : Array (Option Value)} {oc11 kV11 dc11 pm11 cd11 ct11 : Value}
    (a11 : PySem.W.nsIn K mainGlobals "in_order" = some (some (.ref f11)))
    (l11 : K.lookup f11 = some ⟨oc11, od11, .func (PySem.W.fnOf "in_order" "in_order" (defArgs s_in_order) (defBody s_in_order) (defScope s_in_order) .none kV11 dc11 pm11 an11 cd11 ct11), sl11⟩)
    (c11 : PySem.W.codeIn K cd11 "in_order" = true) (k11 : PySem.W.keepIn K (.ref f11) = true)
    {f12 : Addr} {od12 an12 : Option Addr} {sl12 : Array (Option Value)} {oc12 kV12 dc12 pm12 cd12 ct12 : Value}
    (a12 : PySem.W.nsIn K mainGlobals "is_name" = some (some (.ref f12)))
    (l12 : K.lookup f12 = some ⟨oc12, od12, .func (PySem.W.fnOf "is_name" "is_name" (defArgs s_is_name) (defBody s_is_name) (defScope s_is_name) .none kV12 dc12 pm12 an12 cd12 ct12), sl12⟩)
    (c12 : PySem.W.codeIn K cd12 "is_name" = true) (k12 : PySem.W.keepIn K (.ref f12) = true)
    {f13 : Addr} {od13 an13 : Option Addr} {sl13 : Array (Option Value)} {oc13 kV13 dc13 pm13 cd13 ct13 : Value}
    (a13 : PySem.W.nsIn K mainGlobals "is_frame" = some (some (.ref f13)))
    (l13 : K.lookup f13 = some ⟨oc13, od13, .func (PySem.W.fnOf "is_frame" "is_frame" (defArgs s_is_frame) (defBody s_is_frame) (defScope s_is_frame) .none kV13 dc13 pm13 an13 cd13 ct13), sl13⟩)
    (c13 : PySem.W.codeIn K cd13 "is_frame" = true) (k13 : PySem.W.keepIn K (.ref f13) = true)
    {f14 : Addr} {od14 an14 : Option Addr} {sl14 : Array (Option Value)} {oc14 kV14 dc14 pm14 cd14 ct14 : Value}
    (a14 : PySem.W.nsIn K mainGlobals "is_tuple_of" = some (some (.ref f14)))
    (l14 : K.lookup f14 = some ⟨oc14, od14, .func (PySem.W.fnOf "is_tuple_of" "is_tuple_of" (defArgs s_is_tuple_of) (defBody s_is_tuple_of) (defScope s_is_tuple_of) .none kV14 dc14 pm14 an14 cd14 ct14), sl14⟩)
    (c14 : PySem.W.codeIn K cd14 "is_tuple_of" = true) (k14 : PySem.W.keepIn K (.ref f14) = true)
    {f15 : Addr} {od15 an15 : Option Addr} {sl15 : Array (Option Value)} {oc15 kV15 dc15 pm15 cd15 ct15 : Value}
    (a15 : PySem.W.nsIn K mainGlobals "is_ascending" = some (some (.ref f15)))
    (l15 : K.lookup f15 = some ⟨oc15, od15, .func (PySem.W.fnOf "is_ascending" "is_ascending" (defArgs s_is_ascending) (defBody s_is_ascending) (defScope s_is_ascending) .none kV15 dc15 pm15 an15 cd15 ct15), sl15⟩)
    (c15 : PySem.W.codeIn K cd15 "is_ascending" = true) (k15 : PySem.W.keepIn K (.ref f15) = true)
    {f16 : Addr} {od16 an16 : Option Addr} {sl16 : Array (Option Value)} {oc16 kV16 dc16 pm16 cd16 ct16 : Value}
    (a16 : PySem.W.nsIn K mainGlobals "are_cells" = some (some (.ref f16)))
    (l16 : K.lookup f16 = some ⟨oc16, od16, .func (PySem.W.fnOf "are_cells" "are_cells" (defArgs s_are_cells) (defBody s_are_cells) (defScope s_are_cells) .none kV16 dc16 pm16 an16 cd16 ct16), sl16⟩)
    (c16 : PySem.W.codeIn K cd16 "are_cells" = true) (k16 : PySem.W.keepIn K (.ref f16) = true)
    {f17 : Addr} {od17 an17 : Option Addr} {sl17 : Array (Option Value)} {oc17 kV17 dc17 pm17 cd17 ct17 : Value}
    (a17 : PySem.W.nsIn K mainGlobals "are_parts" = some (some (.ref f17)))
    (l17 : K.lookup f17 = some ⟨oc17, od17, .func (PySem.W.fnOf "are_parts" "are_parts" (defArgs s_are_parts) (defBody s_are_parts) (defScope s_are_parts) .none kV17 dc17 pm17 an17 cd17 ct17), sl17⟩)
    (c17 : PySem.W.codeIn K cd17 "are_parts" = true) (k17 : PySem.W.keepIn K (.ref f17) = true)
    {f18 : Addr} {od18 an18 : Option Addr} {sl18 : Array (Option Value)} {oc18 kV18 dc18 pm18 cd18 ct18 : Value}
    (a18 : PySem.W.nsIn K mainGlobals "places_in_order" = some (some (.ref f18)))
    (l18 : K.lookup f18 = some ⟨oc18, od18, .func (PySem.W.fnOf "places_in_order" "places_in_order" (defArgs s_places_in_order) (defBody s_places_in_order) (defScope s_places_in_order) .none kV18 dc18 pm18 an18 cd18 ct18), sl18⟩)
    (c18 : PySem.W.codeIn K cd18 "places_in_order" = true) (k18 : PySem.W.keepIn K (.ref f18) = true)
    {f19 : Addr} {od19 an19 : Option Addr} {sl19 : Array (Option Value)} {oc19 kV19 dc19 pm19 cd19 ct19 : Value}
    (a19 : PySem.W.nsIn K mainGlobals "_law_bag" = some (some (.ref f19)))
    (l19 : K.lookup f19 = some ⟨oc19, od19, .func (PySem.W.fnOf "_law_bag" "_law_bag" (defArgs s__law_bag) (defBody s__law_bag) (defScope s__law_bag) .none kV19 dc19 pm19 an19 cd19 ct19), sl19⟩)
    (c19 : PySem.W.codeIn K cd19 "_law_bag" = true) (k19 : PySem.W.keepIn K (.ref f19) = true)
    {f20 : Addr} {od20 an20 : Option Addr} {sl20 : Array (Option Value)} {oc20 kV20 dc20 pm20 cd20 ct20 : Value}
    (a20 : PySem.W.nsIn K mainGlobals "_law_take" = some (some (.ref f20)))
    (l20 : K.lookup f20 = some ⟨oc20, od20, .func (PySem.W.fnOf "_law_take" "_law_take" (defArgs s__law_take) (defBody s__law_take) (defScope s__law_take) .none kV20 dc20 pm20 an20 cd20 ct20), sl20⟩)
    (c20 : PySem.W.codeIn K cd20 "_law_take" = true) (k20 : PySem.W.keepIn K (.ref f20) = true)
    {f21 : Addr} {od21 an21 : Option Addr} {sl21 : Array (Option Value)} {oc21 kV21 dc21 pm21 cd21 ct21 : Value}
    (a21 : PySem.W.nsIn K mainGlobals "_law_some" = some (some (.ref f21)))
    (l21 : K.lookup f21 = some ⟨oc21, od21, .func (PySem.W.fnOf "_law_some" "_law_some" (defArgs s__law_some) (defBody s__law_some) (defScope s__law_some) .none kV21 dc21 pm21 an21 cd21 ct21), sl21⟩)
    (c21 : PySem.W.codeIn K cd21 "_law_some" = true) (k21 : PySem.W.keepIn K (.ref f21) = true)
    {f22 : Addr} {od22 an22 : Option Addr} {sl22 : Array (Option Value)} {oc22 kV22 dc22 pm22 cd22 ct22 : Value}
    (a22 : PySem.W.nsIn K mainGlobals "_law_mixed" = some (some (.ref f22)))
    (l22 : K.lookup f22 = some ⟨oc22, od22, .func (PySem.W.fnOf "_law_mixed" "_law_mixed" (defArgs s__law_mixed) (defBody s__law_mixed) (defScope s__law_mixed) .none kV22 dc22 pm22 an22 cd22 ct22), sl22⟩)
    (c22 : PySem.W.codeIn K cd22 "_law_mixed" = true) (k22 : PySem.W.keepIn K (.ref f22) = true)
    {f23 : Addr} {od23 an23 : Option Addr} {sl23 : Array (Option Value)} {oc23 kV23 dc23 pm23 cd23 ct23 : Value}
    (a23 : PySem.W.nsIn K mainGlobals "_law_alike" = some (some (.ref f23)))
    (l23 : K.lookup f23 = some ⟨oc23, od23, .func (PySem.W.fnOf "_law_alike" "_law_alike" (defArgs s__law_alike) (defBody s__law_alike) (defScope s__law_alike) .none kV23 dc23 pm23 an23 cd23 ct23), sl23⟩)
    (c23 : PySem.W.codeIn K cd23 "_law_alike" = true) (k23 : PySem.W.keepIn K (.ref f23) = true)
    {f24 : Addr} {od24 an24 : Option Addr} {sl24 : Array (Option Value)} {oc24 kV24 dc24 pm24 cd24 ct24 : Value}
    (a24 : PySem.W.nsIn K mainGlobals "_law_gcd" = some (some (.ref f24)))
    (l24 : K.lookup f24 = some ⟨oc24, od24, .func (PySem.W.fnOf "_law_gcd" "_law_gcd" (defArgs s__law_gcd) (defBody s__law_gcd) (defScope s__law_gcd) .none kV24 dc24 pm24 an24 cd24 ct24), sl24⟩)
    (c24 : PySem.W.codeIn K cd24 "_law_gcd" = true) (k24 : PySem.W.keepIn K (.ref f24) = true)
    {f25 : Addr} {od25 an25 : Option Addr} {sl25 : Array (Option Value)} {oc25 kV25 dc25 pm25 cd25 ct25 : Value}
    (a25 : PySem.W.nsIn K mainGlobals "_law_fr" = some (some (.ref f25)))
    (l25 : K.lookup f25 = some ⟨oc25, od25, .func (PySem.W.fnOf "_law_fr" "_law_fr" (defArgs s__law_fr) (defBody s__law_fr) (defScope s__law_fr) .none kV25 dc25 pm25 an25 cd25 ct25), sl25⟩)
    (c25 : PySem.W.codeIn K cd25 "_law_fr" = true) (k25 : PySem.W.keepIn K (.ref f25) = true)
    {f26 : Addr} {od26 an26 : Option Addr} {sl26 : Array (Option Value)} {oc26 kV26 dc26 pm26 cd26 ct26 : Value}
    (a26 : PySem.W.nsIn K mainGlobals "_law_places" = some (some (.ref f26)))
    (l26 : K.lookup f26 = some ⟨oc26, od26, .func (PySem.W.fnOf "_law_places" "_law_places" (defArgs s__law_places) (defBody s__law_places) (defScope s__law_places) .none kV26 dc26 pm26 an26 cd26 ct26), sl26⟩)
    (c26 : PySem.W.codeIn K cd26 "_law_places" = true) (k26 : PySem.W.keepIn K (.ref f26) = true)
    {f27 : Addr} {od27 an27 : Option Addr} {sl27 : Array (Option Value)} {oc27 kV27 dc27 pm27 cd27 ct27 : Value}
    (a27 : PySem.W.nsIn K mainGlobals "_law_moves" = some (some (.ref f27)))
    (l27 : K.lookup f27 = some ⟨oc27, od27, .func (PySem.W.fnOf "_law_moves" "_law_moves" (defArgs s__law_moves) (defBody s__law_moves) (defScope s__law_moves) .none kV27 dc27 pm27 an27 cd27 ct27), sl27⟩)
    (c27 : PySem.W.codeIn K cd27 "_law_moves" = true) (k27 : PySem.W.keepIn K (.ref f27) = true)
    {f28 : Addr} {od28 an28 : Option Addr} {sl28 : Array (Option Value)} {oc28 kV28 dc28 pm28 cd28 ct28 : Value}
    (a28 : PySem.W.nsIn K mainGlobals "_law_touched" = some (some (.ref f28)))
    (l28 : K.lookup f28 = some ⟨oc28, od28, .func (PySem.W.fnOf "_law_touched" "_law_touched" (defArgs s__law_touched) (defBody s__law_touched) (defScope s__law_touched) .none kV28 dc28 pm28 an28 cd28 ct28), sl28⟩)
    (c28 : PySem.W.codeIn K cd28 "_law_touched" = true) (k28 : PySem.W.keepIn K (.ref f28) = true)
    {f29 : Addr} {od29 an29 : Option Addr} {sl29 : Array (Option Value)} {oc29 kV29 dc29 pm29 cd29 ct29 : Value}
    (a29 : PySem.W.nsIn K mainGlobals "_law_frame" = some (some (.ref f29)))
    (l29 : K.lookup f29 = some ⟨oc29, od29, .func (PySem.W.fnOf "_law_frame" "_law_frame" (defArgs s__law_frame) (defBody s__law_frame) (defScope s__law_frame) .none kV29 dc29 pm29 an29 cd29 ct29), sl29⟩)
    (c29 : PySem.W.codeIn K cd29 "_law_frame" = true) (k29 : PySem.W.keepIn K (.ref f29) = true)
    {f30 : Addr} {od30 an30 : Option Addr} {sl30 : Array (Option Value)} {oc30 kV30 dc30 pm30 cd30 ct30 : Value}
    (a30 : PySem.W.nsIn K mainGlobals "_law_stand" = some (some (.ref f30)))
    (l30 : K.lookup f30 = some ⟨oc30, od30, .func (PySem.W.fnOf "_law_stand" "_law_stand" (defArgs s__law_stand) (defBody s__law_stand) (defScope s__law_stand) .none kV30 dc30 pm30 an30 cd30 ct30), sl30⟩)
    (c30 : PySem.W.codeIn K cd30 "_law_stand" = true) (k30 : PySem.W.keepIn K (.ref f30) = true)
    {f31 : Addr} {od31 an31 : Option Addr} {sl31 : Array (Option Value)} {oc31 kV31 dc31 pm31 cd31 ct31 : Value}
    (a31 : PySem.W.nsIn K mainGlobals "_law_joined_groups" = some (some (.ref f31)))
    (l31 : K.lookup f31 = some ⟨oc31, od31, .func (PySem.W.fnOf "_law_joined_groups" "_law_joined_groups" (defArgs s__law_joined_groups) (defBody s__law_joined_groups) (defScope s__law_joined_groups) .none kV31 dc31 pm31 an31 cd31 ct31), sl31⟩)
    (c31 : PySem.W.codeIn K cd31 "_law_joined_groups" = true) (k31 : PySem.W.keepIn K (.ref f31) = true)
    {f32 : Addr} {od32 an32 : Option Addr} {sl32 : Array (Option Value)} {oc32 kV32 dc32 pm32 cd32 ct32 : Value}
    (a32 : PySem.W.nsIn K mainGlobals "law" = some (some (.ref f32)))
    (l32 : K.lookup f32 = some ⟨oc32, od32, .func (PySem.W.fnOf "law" "law" (defArgs s_law) (defBody s_law) (defScope s_law) .none kV32 dc32 pm32 an32 cd32 ct32), sl32⟩)
    (c32 : PySem.W.codeIn K cd32 "law" = true) (k32 : PySem.W.keepIn K (.ref f32) = true)
    (zb_abs : PySem.W.nsIn K mainGlobals "abs" = some none)
    (zb_all : PySem.W.nsIn K mainGlobals "all" = some none)
    (zb_dict : PySem.W.nsIn K mainGlobals "dict" = some none)
    (zb_enumerate : PySem.W.nsIn K mainGlobals "enumerate" = some none)
    (zb_int : PySem.W.nsIn K mainGlobals "int" = some none)
    (zb_isinstance : PySem.W.nsIn K mainGlobals "isinstance" = some none)
    (zb_len : PySem.W.nsIn K mainGlobals "len" = some none)
    (zb_list : PySem.W.nsIn K mainGlobals "list" = some none)
    (zb_min : PySem.W.nsIn K mainGlobals "min" = some none)
    (zb_range : PySem.W.nsIn K mainGlobals "range" = some none)
    (zb_repr : PySem.W.nsIn K mainGlobals "repr" = some none)
    (zb_set : PySem.W.nsIn K mainGlobals "set" = some none)
    (zb_sorted : PySem.W.nsIn K mainGlobals "sorted" = some none)
    (zb_str : PySem.W.nsIn K mainGlobals "str" = some none)
    (zb_tuple : PySem.W.nsIn K mainGlobals "tuple" = some none)
    (zb_zip : PySem.W.nsIn K mainGlobals "zip" = some none)
    {uLETTERS : PySem.Tok} (zc_LETTERS : PySem.W.nsIn K mainGlobals "LETTERS" = some (some (.str "abcdefghijklmnopqrstuvwxyz" uLETTERS)))
    {DWAYS : Addr} {ddWAYS : Option Addr} {nWAYS : Nat} {slWAYS : Array (Option Value)} {uWAYS0 uWAYS1 : PySem.Tok} (zc_WAYS : PySem.W.nsIn K mainGlobals "WAYS" = some (some (.ref DWAYS))) (zq_WAYS : K.lookup DWAYS = some ⟨.type "tuple", ddWAYS, .seq #[.str "usual" uWAYS0, .str "strict" uWAYS1] nWAYS, slWAYS⟩)
    : ∃ fd : FuncData, (∀ (s : Shared) (u : Value), BindsTo s fd ⟨[u], []⟩ [("script", u)]) ∧ ∀ base : Heap, K.In base → base.Ns mainGlobals mg → FnAt callerA P w K mg base fa fd ["script"] (sp_law K) := by
  have e := hfa.symm.trans (PySem.W.mg_of X G a32)
  cases e
  let T : Txt K mg :=
    { f_group_of := f0, g_group_of := _, d_group_of := dc_mk (fun _ _ _ _ _ _ us hl => match us, hl with | [_, _], _ => rfl) X G a0 l0 c0 k0,
      f_places_of := f1, g_places_of := _, d_places_of := dc_mk (fun _ _ _ _ _ _ us hl => match us, hl with | [_, _], _ => rfl) X G a1 l1 c1 k1,
      f_added_places := f2, g_added_places := _, d_added_places := dc_mk (fun _ _ _ _ _ _ us hl => match us, hl with | [_], _ => rfl) X G a2 l2 c2 k2,
      f_moved := f3, g_moved := _, d_moved := dc_mk (fun _ _ _ _ _ _ us hl => match us, hl with | [_], _ => rfl) X G a3 l3 c3 k3,
      f_touched := f4, g_touched := _, d_touched := dc_mk (fun _ _ _ _ _ _ us hl => match us, hl with | [_, _], _ => rfl) X G a4 l4 c4 k4,
      f_part := f5, g_part := _, d_part := dc_mk (fun _ _ _ _ _ _ us hl => match us, hl with | [_, _, _], _ => rfl) X G a5 l5 c5 k5,
      f_linked := f6, g_linked := _, d_linked := dc_mk (fun _ _ _ _ _ _ us hl => match us, hl with | [_, _], _ => rfl) X G a6 l6 c6 k6,
      f_taken := f7, g_taken := _, d_taken := dc_mk (fun _ _ _ _ _ _ us hl => match us, hl with | [_, _], _ => rfl) X G a7 l7 c7 k7,
      f_with_way := f8, g_with_way := _, d_with_way := dc_mk (fun _ _ _ _ _ _ us hl => match us, hl with | [_, _], _ => rfl) X G a8 l8 c8 k8,
      f_renamed := f9, g_renamed := _, d_renamed := dc_mk (fun _ _ _ _ _ _ us hl => match us, hl with | [_, _], _ => rfl) X G a9 l9 c9 k9,
      f_places_of_cells := f10, g_places_of_cells := _, d_places_of_cells := dc_mk (fun _ _ _ _ _ _ us hl => match us, hl with | [_, _], _ => rfl) X G a10 l10 c10 k10,
      f_in_order := f11, g_in_order := _, d_in_order := dc_mk (fun _ _ _ _ _ _ us hl => match us, hl with | [_, _], _ => rfl) X G a11 l11 c11 k11,
      f_is_name := f12, g_is_name := _, d_is_name := dc_mk (fun _ _ _ _ _ _ us hl => match us, hl with | [_], _ => rfl) X G a12 l12 c12 k12,
      f_is_frame := f13, g_is_frame := _, d_is_frame := dc_mk (fun _ _ _ _ _ _ us hl => match us, hl with | [_], _ => rfl) X G a13 l13 c13 k13,
      f_is_tuple_of := f14, g_is_tuple_of := _, d_is_tuple_of := dc_mk (fun _ _ _ _ _ _ us hl => match us, hl with | [_, _], _ => rfl) X G a14 l14 c14 k14,
      f_is_ascending := f15, g_is_ascending := _, d_is_ascending := dc_mk (fun _ _ _ _ _ _ us hl => match us, hl with | [_], _ => rfl) X G a15 l15 c15 k15,
      f_are_cells := f16, g_are_cells := _, d_are_cells := dc_mk (fun _ _ _ _ _ _ us hl => match us, hl with | [_], _ => rfl) X G a16 l16 c16 k16,
      f_are_parts := f17, g_are_parts := _, d_are_parts := dc_mk (fun _ _ _ _ _ _ us hl => match us, hl with | [_, _, _], _ => rfl) X G a17 l17 c17 k17,
      f_places_in_order := f18, g_places_in_order := _, d_places_in_order := dc_mk (fun _ _ _ _ _ _ us hl => match us, hl with | [_, _], _ => rfl) X G a18 l18 c18 k18,
      f__law_bag := f19, g__law_bag := _, d__law_bag := dc_mk (fun _ _ _ _ _ _ us hl => match us, hl with | [_], _ => rfl) X G a19 l19 c19 k19,
      f__law_take := f20, g__law_take := _, d__law_take := dc_mk (fun _ _ _ _ _ _ us hl => match us, hl with | [_, _], _ => rfl) X G a20 l20 c20 k20,
      f__law_some := f21, g__law_some := _, d__law_some := dc_mk (fun _ _ _ _ _ _ us hl => match us, hl with | [_, _], _ => rfl) X G a21 l21 c21 k21,
      f__law_mixed := f22, g__law_mixed := _, d__law_mixed := dc_mk (fun _ _ _ _ _ _ us hl => match us, hl with | [_, _], _ => rfl) X G a22 l22 c22 k22,
      f__law_alike := f23, g__law_alike := _, d__law_alike := dc_mk (fun _ _ _ _ _ _ us hl => match us, hl with | [_, _], _ => rfl) X G a23 l23 c23 k23,
      f__law_gcd := f24, g__law_gcd := _, d__law_gcd := dc_mk (fun _ _ _ _ _ _ us hl => match us, hl with | [_, _], _ => rfl) X G a24 l24 c24 k24,
      f__law_fr := f25, g__law_fr := _, d__law_fr := dc_mk (fun _ _ _ _ _ _ us hl => match us, hl with | [_, _], _ => rfl) X G a25 l25 c25 k25,
      f__law_places := f26, g__law_places := _, d__law_places := dc_mk (fun _ _ _ _ _ _ us hl => match us, hl with | [_], _ => rfl) X G a26 l26 c26 k26,
      f__law_moves := f27, g__law_moves := _, d__law_moves := dc_mk (fun _ _ _ _ _ _ us hl => match us, hl with | [_], _ => rfl) X G a27 l27 c27 k27,
      f__law_touched := f28, g__law_touched := _, d__law_touched := dc_mk (fun _ _ _ _ _ _ us hl => match us, hl with | [_, _], _ => rfl) X G a28 l28 c28 k28,
      f__law_frame := f29, g__law_frame := _, d__law_frame := dc_mk (fun _ _ _ _ _ _ us hl => match us, hl with | [_, _], _ => rfl) X G a29 l29 c29 k29,
      f__law_stand := f30, g__law_stand := _, d__law_stand := dc_mk (fun _ _ _ _ _ _ us hl => match us, hl with | [_, _], _ => rfl) X G a30 l30 c30 k30,
      f__law_joined_groups := f31, g__law_joined_groups := _, d__law_joined_groups := dc_mk (fun _ _ _ _ _ _ us hl => match us, hl with | [_, _], _ => rfl) X G a31 l31 c31 k31,
      f_law := fa, g_law := _, d_law := dc_mk (fun _ _ _ _ _ _ us hl => match us, hl with | [_], _ => rfl) X G a32 l32 c32 k32,
      u_LETTERS := uLETTERS, c_LETTERS := PySem.W.mg_of X G zc_LETTERS,
      D_WAYS := DWAYS, c_WAYS := PySem.W.mg_of X G zc_WAYS, q_WAYS := Dl.tupAt_of zq_WAYS (Nat.le_of_ble_eq_true rfl) (.cons ⟨_, rfl⟩ (.cons ⟨_, rfl⟩ (.nil))),
      b_abs := PySem.W.mg_none_of X G zb_abs,
      b_all := PySem.W.mg_none_of X G zb_all,
      b_dict := PySem.W.mg_none_of X G zb_dict,
      b_enumerate := PySem.W.mg_none_of X G zb_enumerate,
      b_int := PySem.W.mg_none_of X G zb_int,
      b_isinstance := PySem.W.mg_none_of X G zb_isinstance,
      b_len := PySem.W.mg_none_of X G zb_len,
      b_list := PySem.W.mg_none_of X G zb_list,
      b_min := PySem.W.mg_none_of X G zb_min,
      b_range := PySem.W.mg_none_of X G zb_range,
      b_repr := PySem.W.mg_none_of X G zb_repr,
      b_set := PySem.W.mg_none_of X G zb_set,
      b_sorted := PySem.W.mg_none_of X G zb_sorted,
      b_str := PySem.W.mg_none_of X G zb_str,
      b_tuple := PySem.W.mg_none_of X G zb_tuple,
      b_zip := PySem.W.mg_none_of X G zb_zip }
  exact ⟨T.g_law, fun s v => .of_eq rfl, fun base _ _ => ok_law T rfl ⟨rfl, by decide, by decide⟩⟩
end K05

open PySem PySem.W PyProof.Rows in
set_option maxRecDepth 100000 in
set_option maxHeartbeats 0 in
theorem PySem.Challenge.cw_heldthrough_k05_frames_led_holds : PySem.Challenge.rw_heldthrough_k05_frames_led.Holds := by
  w_on; o_law; k_head; (case hw => w_witness2)
  k_fill
  refine Dl.walk_at (l := PySem.Challenge.rw_heldthrough_k05_frames_led) (n := 63) (x := "script") (sp := K05.sp_law) rfl (by decide) rfl (fun w h Y => PySem.W.kIn_of Y) ?F (fun K H a ns hl _ hS => ⟨a, ns, rfl, hS, hl, fun _ => rfl⟩)
  case F =>
    intro w mg fa h KX G hmg
    refine' K05.all_mk KX G hmg ?a0 ?l0 ?c0 ?k0 ?a1 ?l1 ?c1 ?k1 ?a2 ?l2 ?c2 ?k2 ?a3 ?l3 ?c3 ?k3 ?a4 ?l4 ?c4 ?k4 ?a5 ?l5 ?c5 ?k5 ?a6 ?l6 ?c6 ?k6 ?a7 ?l7 ?c7 ?k7 ?a8 ?l8 ?c8 ?k8 ?a9 ?l9 ?c9 ?k9 ?a10 ?l10 ?c10 ?k10 ?a11 ?l11 ?c11 ?k11 ?a12 ?l12 ?c12 ?k12 ?a13 ?l13 ?c13 ?k13 ?a14 ?l14 ?c14 ?k14 ?a15 ?l15 ?c15 ?k15 ?a16 ?l16 ?c16 ?k16 ?a17 ?l17 ?c17 ?k17 ?a18 ?l18 ?c18 ?k18 ?a19 ?l19 ?c19 ?k19 ?a20 ?l20 ?c20 ?k20 ?a21 ?l21 ?c21 ?k21 ?a22 ?l22 ?c22 ?k22 ?a23 ?l23 ?c23 ?k23 ?a24 ?l24 ?c24 ?k24 ?a25 ?l25 ?c25 ?k25 ?a26 ?l26 ?c26 ?k26 ?a27 ?l27 ?c27 ?k27 ?a28 ?l28 ?c28 ?k28 ?a29 ?l29 ?c29 ?k29 ?a30 ?l30 ?c30 ?k30 ?a31 ?l31 ?c31 ?k31 ?a32 ?l32 ?c32 ?k32 ?zb_abs ?zb_all ?zb_dict ?zb_enumerate ?zb_int ?zb_isinstance ?zb_len ?zb_list ?zb_min ?zb_range ?zb_repr ?zb_set ?zb_sorted ?zb_str ?zb_tuple ?zb_zip ?zc_LETTERS ?zc_WAYS ?zq_WAYS
    (case a0 => k_is)
    (case l0 => k_is)
    (case c0 => k_is)
    (case k0 => k_is)
    (case a1 => k_is)
    (case l1 => k_is)
    (case c1 => k_is)
    (case k1 => k_is)
    (case a2 => k_is)
    (case l2 => k_is)
    (case c2 => k_is)
    (case k2 => k_is)
    (case a3 => k_is)
    (case l3 => k_is)
    (case c3 => k_is)
    (case k3 => k_is)
    (case a4 => k_is)
    (case l4 => k_is)
    (case c4 => k_is)
    (case k4 => k_is)
    (case a5 => k_is)
    (case l5 => k_is)
    (case c5 => k_is)
    (case k5 => k_is)
    (case a6 => k_is)
    (case l6 => k_is)
    (case c6 => k_is)
    (case k6 => k_is)
    (case a7 => k_is)
    (case l7 => k_is)
    (case c7 => k_is)
    (case k7 => k_is)
    (case a8 => k_is)
    (case l8 => k_is)
    (case c8 => k_is)
    (case k8 => k_is)
    (case a9 => k_is)
    (case l9 => k_is)
    (case c9 => k_is)
    (case k9 => k_is)
    (case a10 => k_is)
    (case l10 => k_is)
    (case c10 => k_is)
    (case k10 => k_is)
    (case a11 => k_is)
    (case l11 => k_is)
    (case c11 => k_is)
    (case k11 => k_is)
    (case a12 => k_is)
    (case l12 => k_is)
    (case c12 => k_is)
    (case k12 => k_is)
    (case a13 => k_is)
    (case l13 => k_is)
    (case c13 => k_is)
    (case k13 => k_is)
    (case a14 => k_is)
    (case l14 => k_is)
    (case c14 => k_is)
    (case k14 => k_is)
    (case a15 => k_is)
    (case l15 => k_is)
    (case c15 => k_is)
    (case k15 => k_is)
    (case a16 => k_is)
    (case l16 => k_is)
    (case c16 => k_is)
    (case k16 => k_is)
    (case a17 => k_is)
    (case l17 => k_is)
    (case c17 => k_is)
    (case k17 => k_is)
    (case a18 => k_is)
    (case l18 => k_is)
    (case c18 => k_is)
    (case k18 => k_is)
    (case a19 => k_is)
    (case l19 => k_is)
    (case c19 => k_is)
    (case k19 => k_is)
    (case a20 => k_is)
    (case l20 => k_is)
    (case c20 => k_is)
    (case k20 => k_is)
    (case a21 => k_is)
    (case l21 => k_is)
    (case c21 => k_is)
    (case k21 => k_is)
    (case a22 => k_is)
    (case l22 => k_is)
    (case c22 => k_is)
    (case k22 => k_is)
    (case a23 => k_is)
    (case l23 => k_is)
    (case c23 => k_is)
    (case k23 => k_is)
    (case a24 => k_is)
    (case l24 => k_is)
    (case c24 => k_is)
    (case k24 => k_is)
    (case a25 => k_is)
    (case l25 => k_is)
    (case c25 => k_is)
    (case k25 => k_is)
    (case a26 => k_is)
    (case l26 => k_is)
    (case c26 => k_is)
    (case k26 => k_is)
    (case a27 => k_is)
    (case l27 => k_is)
    (case c27 => k_is)
    (case k27 => k_is)
    (case a28 => k_is)
    (case l28 => k_is)
    (case c28 => k_is)
    (case k28 => k_is)
    (case a29 => k_is)
    (case l29 => k_is)
    (case c29 => k_is)
    (case k29 => k_is)
    (case a30 => k_is)
    (case l30 => k_is)
    (case c30 => k_is)
    (case k30 => k_is)
    (case a31 => k_is)
    (case l31 => k_is)
    (case c31 => k_is)
    (case k31 => k_is)
    (case a32 => k_is)
    (case l32 => k_is)
    (case c32 => k_is)
    (case k32 => k_is)
    (case zb_abs => k_is)
    (case zb_all => k_is)
    (case zb_dict => k_is)
    (case zb_enumerate => k_is)
    (case zb_int => k_is)
    (case zb_isinstance => k_is)
    (case zb_len => k_is)
    (case zb_list => k_is)
    (case zb_min => k_is)
    (case zb_range => k_is)
    (case zb_repr => k_is)
    (case zb_set => k_is)
    (case zb_sorted => k_is)
    (case zb_str => k_is)
    (case zb_tuple => k_is)
    (case zb_zip => k_is)
    (case zc_LETTERS => k_is)
    (case zc_WAYS => k_is)
    (case zq_WAYS => k_is)
