import PyProof.Rows.All
import Wide.All
import OpenK.AllK
import Wide.FinOn
import HandS.Base
import HandS.Call
import HandS.List
import HandS.Comp
import HandS.Iter
import HandS.Ends
import HandS.Words
import HandS.WordsList
import HandS.Exc
import HandS.ExcOwn
import HandS.Wide
import HandS.Gcd
import HandS.IsInst
import HandS.TupAny
import HandS.Walk
import HandS.Zip
import PyProof.ReprRoads
import HandS.Defaults
import PyProof.ReprBulk
import KE.GoesEnum
import HandS.ExcInit
import HandS.ExcIs
import HandS.ExcField
import HandS.FStr
import HandS.ClsMeth
import HandS.CallSlots
import KE.KExcIs
import PySem.Challenge.RW_stayswithin_k05_points
set_option Elab.async false
set_option linter.all false
set_option maxRecDepth 100000
set_option maxHeartbeats 4000000
set_option maxRecDepth 100000
set_option maxHeartbeats 4000000
/-! Values as data: a def's body by a function over PyData. -/
namespace MV
open PySem PySem.Spec PyProof.Rows L2

abbrev D := PyData

/-! ### heaps -/
def Ex (H H' : Hp) : Prop := ∀ a o, H a = some o → H' a = some o
theorem Ex.refl (H : Hp) : Ex H H := fun _ _ h => h
theorem Ex.trans {H H1 H2 : Hp} (a : Ex H H1) (b : Ex H1 H2) : Ex H H2 := fun x o h => b x o (a x o h)
theorem Ex.new {H : Hp} {p : Addr} {o : HO} (h : H p = none) : Ex H (upd H p o) := fun a u e => by
  rw [upd_ne (ne_of_none e h)]
  exact e
theorem Ex.none {H H' : Hp} (e : Ex H H') {p : Addr} (h : H' p = none) : H p = none := by
  cases h1 : H p with
  | none => rfl
  | some o =>
    rw [e p o h1] at h
    cases h
theorem Ex.upd2 {H H' : Hp} (e : Ex H H') (p : Addr) (o : HO) : Ex (upd H p o) (upd H' p o) := fun a u h => by
  by_cases ha : a = p
  · subst ha
    rw [upd_same] at h
    cases h
    exact upd_same
  · rw [upd_ne ha] at h
    rw [upd_ne ha]
    exact e a u h
theorem Rd.ex {H H' : Hp} {a : Addr} {u : HO} (e : Ex H H') (h : Rd H a u) : Rd H' a u := by
  rcases h with h | ⟨o, h⟩
  · exact Or.inl (e a _ h)
  · exact Or.inr ⟨o, e a _ h⟩
theorem sql_ex {K : PySem.W.Frag} {H H' : Hp} {a : Addr} {xs : List V} (e : Ex H H') (h : SqL K H a xs) : SqL K H' a xs := by
  rcases h with h | h
  · exact Or.inl (Rd.ex e h)
  · exact Or.inr h
theorem sqt_ex {K : PySem.W.Frag} {H H' : Hp} {a : Addr} {xs : List V} (e : Ex H H') (h : SqT K H a xs) : SqT K H' a xs := by
  rcases h with h | h
  · exact Or.inl (Rd.ex e h)
  · exact Or.inr h
mutual
theorem dp_ex {K : PySem.W.Frag} {H H' : Hp} (e : Ex H H') : ∀ (d : D) (v : V), Dp K H v d → Dp K H' v d
  | .none, _, h => by cases h; exact .non
  | .bool b, _, h => by cases h; exact .bl b
  | .int i, _, h => by cases h; exact .int i
  | .str x, _, h => by cases h; exact .str x
  | .list ds, _, h => by
    cases h with
    | lst hs ha => exact .lst (sql_ex e hs) (dpa_ex e ds _ ha)
  | .tuple ds, _, h => by
    cases h with
    | tup hs ha => exact .tup (sqt_ex e hs) (dpa_ex e ds _ ha)
  | .dict _, _, h => by cases h
theorem dpa_ex {K : PySem.W.Frag} {H H' : Hp} (e : Ex H H') : ∀ (ds : List D) (vs : List V), DpAll K H vs ds → DpAll K H' vs ds
  | [], _, h => by cases h; exact .nil
  | d :: ds, _, h => by
    cases h with
    | cons h1 h2 => exact .cons (dp_ex e d _ h1) (dpa_ex e ds _ h2)
end
section
variable {K : PySem.W.Frag} {H : Hp}
theorem dal_len : ∀ {vs : List V} {ds : List D}, DpAll K H vs ds → vs.length = ds.length
  | _, _, .nil => rfl
  | _, _, .cons _ t => congrArg (· + 1) (dal_len t)
theorem dal_app : ∀ {vs ws : List V} {ds es : List D}, DpAll K H vs ds → DpAll K H ws es → DpAll K H (vs ++ ws) (ds ++ es)
  | _, _, _, _, .nil, s => s
  | _, _, _, _, .cons r t, s => .cons r (dal_app t s)
theorem dal_get : ∀ {vs : List V} {ds : List D} {i : Nat} {d : D}, DpAll K H vs ds → ds[i]? = some d → ∃ v, vs[i]? = some v ∧ Dp K H v d
  | _, _, _, _, .nil, e => by simp at e
  | _, _, 0, _, .cons r _, e => by simp at e; subst e; exact ⟨_, rfl, r⟩
  | _, _, i + 1, d, .cons _ t, e => by
    obtain ⟨u, h1, h2⟩ := dal_get (i := i) (d := d) t (by simpa using e)
    exact ⟨u, by simpa using h1, h2⟩
theorem dal_get' : ∀ {vs : List V} {ds : List D} {i : Nat} {v : V}, DpAll K H vs ds → vs[i]? = some v → ∃ d, ds[i]? = some d ∧ Dp K H v d
  | _, _, _, _, .nil, e => by simp at e
  | _, _, 0, _, .cons r _, e => by simp at e; subst e; exact ⟨_, rfl, r⟩
  | _, _, i + 1, v, .cons _ t, e => by
    obtain ⟨u, h1, h2⟩ := dal_get' (i := i) (v := v) t (by simpa using e)
    exact ⟨u, by simpa using h1, h2⟩
theorem dal_set {v : V} {d : D} (r : Dp K H v d) : ∀ {vs : List V} {ds : List D} (i : Nat), DpAll K H vs ds → DpAll K H (vs.set i v) (ds.set i d)
  | _, _, _, .nil => .nil
  | _, _, 0, .cons _ t => .cons r t
  | _, _, i + 1, .cons q t => .cons q (dal_set r i t)
theorem dal_take : ∀ {vs : List V} {ds : List D} (n : Nat), DpAll K H vs ds → DpAll K H (vs.take n) (ds.take n)
  | _, _, 0, _ => .nil
  | _, _, _ + 1, .nil => .nil
  | _, _, n + 1, .cons r t => .cons r (dal_take n t)
theorem dal_drop : ∀ {vs : List V} {ds : List D} (n : Nat), DpAll K H vs ds → DpAll K H (vs.drop n) (ds.drop n)
  | _, _, 0, r => r
  | _, _, _ + 1, .nil => .nil
  | _, _, n + 1, .cons _ t => dal_drop n t
end

/-! ### what a step leaves: frozen part, whole -/
structure Adv (F H F' H' : Hp) : Prop where
  f : Ex F F'
  h : Ex H H'
  fh : Ex F' H'
  new : ∀ p, F p = none → H p ≠ none → F' p = none
theorem Adv.refl {F H : Hp} (e : Ex F H) : Adv F H F H := ⟨Ex.refl _, Ex.refl _, e, fun _ h _ => h⟩
theorem Adv.trans {F H F1 H1 F2 H2 : Hp} (a : Adv F H F1 H1) (b : Adv F1 H1 F2 H2) : Adv F H F2 H2 :=
  ⟨a.f.trans b.f, a.h.trans b.h, b.fh, fun p h1 h2 => b.new p (a.new p h1 h2) fun z => h2 (a.h.none z)⟩
/-- a new frozen object -/
theorem Adv.laid {F H : Hp} (e : Ex F H) {p : Addr} {o : HO} (hp : H p = none) : Adv F H (upd F p o) (upd H p o) := by
  have hf : F p = none := e.none hp
  refine ⟨Ex.new hf, Ex.new hp, e.upd2 p o, fun q h1 h2 => ?_⟩
  have hq : q ≠ p := fun z => h2 (z ▸ hp)
  rw [upd_ne hq]
  exact h1
/-- a new object that is not frozen yet -/
theorem Adv.kept {F H H' : Hp} (e : Ex F H) (h : Ex H H') : Adv F H F H' := ⟨Ex.refl _, h, e.trans h, fun _ h1 _ => h1⟩
/-- a new own list becomes frozen -/
theorem Adv.freeze {F H F' H' : Hp} (a : Adv F H F' H') {p : Addr} {o : HO} (h0 : H p = none) (h1 : F' p = none) (h2 : H' p = some o) : Adv F H (upd F' p o) H' := by
  refine ⟨fun x u h => ?_, a.h, fun x u h => ?_, fun q e1 e2 => ?_⟩
  · rw [upd_ne (ne_of_none (a.f x u h) h1)]
    exact a.f x u h
  · by_cases hx : x = p
    · subst hx
      rw [upd_same] at h
      cases h
      exact h2
    · rw [upd_ne hx] at h
      exact a.fh x u h
  · have hq : q ≠ p := fun z => e2 (z ▸ h0)
    rw [upd_ne hq]
    exact a.new q e1 e2

/-! ### slots -/
inductive Cell where
  | un
  | dat (d : D)
  | own (ds : List D)
abbrev Rho := List Cell

structure EnvOk (K : PySem.W.Frag) (F0 H0 F H : Hp) (σ : L2.St) (ρ : Rho) : Prop where
  adv : Ex F0 F ∧ Ex H0 H ∧ Ex F H
  new : ∀ p, F0 p = none → H0 p ≠ none → F p = none
  len : ρ.length = σ.length
  dat : ∀ (i : Nat) d, ρ[i]? = some (.dat d) → ∃ v, σ[i]? = some (some v) ∧ Dp K F v d
  own : ∀ (i : Nat) ds, ρ[i]? = some (.own ds) → ∃ p vs, σ[i]? = some (some (.ref p)) ∧ F p = none ∧ H0 p = none ∧ H p = some (.lst vs) ∧ DpAll K F vs ds
  dist : ∀ (i j : Nat) ds es p, ρ[i]? = some (.own ds) → ρ[j]? = some (.own es) → σ[i]? = some (some (.ref p)) → σ[j]? = some (some (.ref p)) → i = j
section
variable {K : PySem.W.Frag} {F0 H0 F H F' H' : Hp} {σ : L2.St} {ρ : Rho}
theorem EnvOk.toAdv (e : EnvOk K F0 H0 F H σ ρ) : Adv F0 H0 F H := ⟨e.adv.1, e.adv.2.1, e.adv.2.2, e.new⟩
theorem EnvOk.fh (e : EnvOk K F0 H0 F H σ ρ) : Ex F H := e.adv.2.2
theorem EnvOk.go (e : EnvOk K F0 H0 F H σ ρ) (a : Adv F H F' H') : EnvOk K F0 H0 F' H' σ ρ := by
  have t := e.toAdv.trans a
  refine ⟨⟨t.f, t.h, t.fh⟩, t.new, e.len, fun i d hi => ?_, fun i ds hi => ?_, e.dist⟩
  · obtain ⟨v, h1, h2⟩ := e.dat i d hi
    exact ⟨v, h1, dp_ex a.f d v h2⟩
  · obtain ⟨p, vs, h1, h2, h3, h4, h5⟩ := e.own i ds hi
    exact ⟨p, vs, h1, a.new p h2 (by rw [h4]; exact fun z => nomatch z), h3, a.h p _ h4, dpa_ex a.f ds vs h5⟩
theorem getElem?_set_cases {α : Type} {l : List α} {i j : Nat} {x y : α} (h : (l.set i x)[j]? = some y) : (j = i ∧ y = x ∧ i < l.length) ∨ (j ≠ i ∧ l[j]? = some y) := by
  by_cases hj : j = i
  · subst hj
    by_cases hl : j < l.length
    · rw [List.getElem?_set_self hl] at h
      exact .inl ⟨rfl, (Option.some.inj h).symm, hl⟩
    · rw [List.getElem?_eq_none (by simpa using hl)] at h
      cases h
  · rw [List.getElem?_set_ne (Ne.symm hj)] at h
    exact .inr ⟨hj, h⟩
/-- a slot gets data -/
theorem EnvOk.setD (e : EnvOk K F0 H0 F H σ ρ) {i : Nat} {v : V} {d : D} (h : Dp K F v d) : EnvOk K F0 H0 F H (σ.set i (some v)) (ρ.set i (.dat d)) := by
  refine ⟨e.adv, e.new, by simpa using e.len, fun j d' hj => ?_, fun j ds hj => ?_, fun j k ds es p h1 h2 h3 h4 => ?_⟩
  · rcases getElem?_set_cases hj with ⟨rfl, hd, hl⟩ | ⟨hne, hj⟩
    · cases hd
      exact ⟨v, by rw [List.getElem?_set_self (by rw [← e.len]; exact hl)], h⟩
    · obtain ⟨w, h1, h2⟩ := e.dat j d' hj
      exact ⟨w, by rw [List.getElem?_set_ne (Ne.symm hne)]; exact h1, h2⟩
  · rcases getElem?_set_cases hj with ⟨rfl, hd, hl⟩ | ⟨hne, hj⟩
    · cases hd
    · obtain ⟨p, vs, h1, h2⟩ := e.own j ds hj
      exact ⟨p, vs, by rw [List.getElem?_set_ne (Ne.symm hne)]; exact h1, h2⟩
  · rcases getElem?_set_cases h1 with ⟨_, hd, _⟩ | ⟨n1, h1⟩
    · cases hd
    rcases getElem?_set_cases h2 with ⟨_, hd, _⟩ | ⟨n2, h2⟩
    · cases hd
    rw [List.getElem?_set_ne (Ne.symm n1)] at h3
    rw [List.getElem?_set_ne (Ne.symm n2)] at h4
    exact e.dist j k ds es p h1 h2 h3 h4
/-- a slot gets a new own list -/
theorem EnvOk.setO (e : EnvOk K F0 H0 F H σ ρ) {i : Nat} {p : Addr} {vs : List V} {ds : List D} (h0 : H0 p = none) (h1 : F p = none) (h2 : H p = some (.lst vs)) (h3 : DpAll K F vs ds)
    (hn : ∀ (j : Nat) es q, ρ[j]? = some (.own es) → σ[j]? = some (some (.ref q)) → q ≠ p) : EnvOk K F0 H0 F H (σ.set i (some (.ref p))) (ρ.set i (.own ds)) := by
  refine ⟨e.adv, e.new, by simpa using e.len, fun j d' hj => ?_, fun j es hj => ?_, fun j k es fs q g1 g2 g3 g4 => ?_⟩
  · rcases getElem?_set_cases hj with ⟨rfl, hd, hl⟩ | ⟨hne, hj⟩
    · cases hd
    · obtain ⟨w, h1, h2⟩ := e.dat j d' hj
      exact ⟨w, by rw [List.getElem?_set_ne (Ne.symm hne)]; exact h1, h2⟩
  · rcases getElem?_set_cases hj with ⟨rfl, hd, hl⟩ | ⟨hne, hj⟩
    · cases hd
      exact ⟨p, vs, by rw [List.getElem?_set_self (by rw [← e.len]; exact hl)], h1, h0, h2, h3⟩
    · obtain ⟨q, ws, g1, g2⟩ := e.own j es hj
      exact ⟨q, ws, by rw [List.getElem?_set_ne (Ne.symm hne)]; exact g1, g2⟩
  · rcases getElem?_set_cases g1 with ⟨ej, _, l1⟩ | ⟨n1, u1⟩
    · rcases getElem?_set_cases g2 with ⟨ek, _, _⟩ | ⟨n2, u2⟩
      · exact ej.trans ek.symm
      · rw [ej, List.getElem?_set_self (by rw [← e.len]; exact l1)] at g3
        cases g3
        rw [List.getElem?_set_ne (Ne.symm n2)] at g4
        exact absurd rfl (hn k fs _ u2 g4)
    · rcases getElem?_set_cases g2 with ⟨ek, _, l2⟩ | ⟨n2, u2⟩
      · rw [ek, List.getElem?_set_self (by rw [← e.len]; exact l2)] at g4
        cases g4
        rw [List.getElem?_set_ne (Ne.symm n1)] at g3
        exact absurd rfl (hn j es _ u1 g3)
      · rw [List.getElem?_set_ne (Ne.symm n1)] at g3
        rw [List.getElem?_set_ne (Ne.symm n2)] at g4
        exact e.dist j k es fs q u1 u2 g3 g4
/-- the own list at slot i is written -/
theorem EnvOk.mutO (e : EnvOk K F0 H0 F H σ ρ) {i : Nat} {p : Addr} {ds es : List D} {ws : List V} (hi : ρ[i]? = some (.own ds)) (hp : σ[i]? = some (some (.ref p))) (h3 : DpAll K F ws es) :
    EnvOk K F0 H0 F (upd H p (.lst ws)) σ (ρ.set i (.own es)) := by
  obtain ⟨p', vs, g1, g2, g3, g4, g5⟩ := e.own i ds hi
  rw [hp] at g1
  cases g1
  refine ⟨⟨e.adv.1, fun x u h => ?_, fun x u h => ?_⟩, e.new, by simpa using e.len, fun j d' hj => ?_, fun j fs hj => ?_, fun j k fs gs q k1 k2 k3 k4 => ?_⟩
  · rw [upd_ne (ne_of_none h g3)]
    exact e.adv.2.1 x u h
  · rw [upd_ne (ne_of_none h g2)]
    exact e.adv.2.2 x u h
  · rcases getElem?_set_cases hj with ⟨rfl, hd, hl⟩ | ⟨hne, hj⟩
    · cases hd
    · exact e.dat j d' hj
  · rcases getElem?_set_cases hj with ⟨rfl, hd, hl⟩ | ⟨hne, hj⟩
    · cases hd
      exact ⟨p, ws, hp, g2, g3, upd_same, h3⟩
    · obtain ⟨q, xs, k1, k2, k3, k4, k5⟩ := e.own j fs hj
      refine ⟨q, xs, k1, k2, k3, ?_, k5⟩
      have hq : q ≠ p := fun z => by
        subst z
        exact hne (e.dist j i fs ds q hj hi k1 hp)
      rw [upd_ne hq]
      exact k4
  · have o1 : ∃ fs', ρ[j]? = some (.own fs') := by
      rcases getElem?_set_cases k1 with ⟨rfl, _, _⟩ | ⟨_, k1⟩
      · exact ⟨_, hi⟩
      · exact ⟨_, k1⟩
    have o2 : ∃ fs', ρ[k]? = some (.own fs') := by
      rcases getElem?_set_cases k2 with ⟨rfl, _, _⟩ | ⟨_, k2⟩
      · exact ⟨_, hi⟩
      · exact ⟨_, k2⟩
    obtain ⟨a1, o1⟩ := o1
    obtain ⟨a2, o2⟩ := o2
    exact e.dist j k a1 a2 q o1 o2 k3 k4
/-- the own list at slot i becomes data -/
theorem EnvOk.freeze (e : EnvOk K F0 H0 F H σ ρ) {i : Nat} {ds : List D} (hi : ρ[i]? = some (.own ds)) : ∃ p vs, σ[i]? = some (some (.ref p)) ∧ Dp K (upd F p (.lst vs)) (.ref p) (.list ds) ∧
    EnvOk K F0 H0 (upd F p (.lst vs)) H σ (ρ.set i (.dat (.list ds))) := by
  obtain ⟨p, vs, g1, g2, g3, g4, g5⟩ := e.own i ds hi
  have f : Ex F (upd F p (.lst vs)) := Ex.new g2
  have dp : Dp K (upd F p (.lst vs)) (.ref p) (.list ds) := .lst (SqL.of upd_same) (dpa_ex f ds vs g5)
  refine ⟨p, vs, g1, dp, ⟨e.adv.1.trans f, e.adv.2.1, fun x u h => ?_⟩, fun q h1 h2 => ?_, by simpa using e.len, fun j d' hj => ?_, fun j fs hj => ?_, fun j k fs gs q k1 k2 k3 k4 => ?_⟩
  · by_cases hx : x = p
    · subst hx
      rw [upd_same] at h
      cases h
      exact g4
    · rw [upd_ne hx] at h
      exact e.adv.2.2 x u h
  · have hq : q ≠ p := fun z => h2 (z ▸ g3)
    rw [upd_ne hq]
    exact e.new q h1 h2
  · rcases getElem?_set_cases hj with ⟨rfl, hd, hl⟩ | ⟨hne, hj⟩
    · cases hd
      exact ⟨_, g1, dp⟩
    · obtain ⟨w, k1, k2⟩ := e.dat j d' hj
      exact ⟨w, k1, dp_ex f d' w k2⟩
  · rcases getElem?_set_cases hj with ⟨rfl, hd, hl⟩ | ⟨hne, hj⟩
    · cases hd
    · obtain ⟨q, xs, k1, k2, k3, k4, k5⟩ := e.own j fs hj
      have hq : q ≠ p := fun z => by
        subst z
        exact hne (e.dist j i fs ds q hj hi k1 g1)
      exact ⟨q, xs, k1, by rw [upd_ne hq]; exact k2, k3, k4, dpa_ex f fs xs k5⟩
  · rcases getElem?_set_cases k1 with ⟨_, hd, _⟩ | ⟨_, k1⟩
    · cases hd
    rcases getElem?_set_cases k2 with ⟨_, hd, _⟩ | ⟨_, k2⟩
    · cases hd
    exact e.dist j k fs gs q k1 k2 k3 k4
/-- slots forgotten -/
def wipeR (ρ : Rho) : List Nat → Rho
  | [] => ρ
  | v :: vs => (wipeR ρ vs).set v .un
theorem EnvOk.set1 (e : EnvOk K F0 H0 F H σ ρ) (i : Nat) : EnvOk K F0 H0 F H (σ.set i none) (ρ.set i .un) := by
  refine ⟨e.adv, e.new, by simpa using e.len, fun j d' hj => ?_, fun j es hj => ?_, fun j k es fs q g1 g2 g3 g4 => ?_⟩
  · rcases getElem?_set_cases hj with ⟨rfl, hd, hl⟩ | ⟨hne, hj⟩
    · cases hd
    · obtain ⟨w, h1, h2⟩ := e.dat j d' hj
      exact ⟨w, by rw [List.getElem?_set_ne (Ne.symm hne)]; exact h1, h2⟩
  · rcases getElem?_set_cases hj with ⟨rfl, hd, hl⟩ | ⟨hne, hj⟩
    · cases hd
    · obtain ⟨q, ws, g1, g2⟩ := e.own j es hj
      exact ⟨q, ws, by rw [List.getElem?_set_ne (Ne.symm hne)]; exact g1, g2⟩
  · rcases getElem?_set_cases g1 with ⟨_, hd, _⟩ | ⟨n1, g1⟩
    · cases hd
    rcases getElem?_set_cases g2 with ⟨_, hd, _⟩ | ⟨n2, g2⟩
    · cases hd
    rw [List.getElem?_set_ne (Ne.symm n1)] at g3
    rw [List.getElem?_set_ne (Ne.symm n2)] at g4
    exact e.dist j k es fs q g1 g2 g3 g4
theorem EnvOk.wipe (e : EnvOk K F0 H0 F H σ ρ) : ∀ vs : List Nat, EnvOk K F0 H0 F H (L2.wipe σ vs) (wipeR ρ vs)
  | [] => e
  | v :: vs => (EnvOk.wipe e vs).set1 v
/-- an address that is new to the whole is none of the own ones -/
theorem EnvOk.fresh (e : EnvOk K F0 H0 F H σ ρ) {p : Addr} (hp : H p = none) : ∀ (j : Nat) es q, ρ[j]? = some (.own es) → σ[j]? = some (some (.ref q)) → q ≠ p := fun j es q h1 h2 z => by
  obtain ⟨q', vs, g1, _, _, g4, _⟩ := e.own j es h1
  rw [h2] at g1
  cases g1
  rw [z, hp] at g4
  cases g4
end

/-- data that is read: frozen, or an own list -/
def Tp (K : PySem.W.Frag) (F H : Hp) (v : V) (d : D) : Prop := Dp K F v d ∨ ∃ p vs ds, v = .ref p ∧ d = .list ds ∧ F p = none ∧ H p = some (.lst vs) ∧ DpAll K F vs ds
theorem Tp.go {K : PySem.W.Frag} {F H F' H' : Hp} {v : V} {d : D} (t : Tp K F H v d) (a : Adv F H F' H') : Tp K F' H' v d := by
  rcases t with t | ⟨p, vs, ds, h1, h2, h3, h4, h5⟩
  · exact .inl (dp_ex a.f d v t)
  · exact .inr ⟨p, vs, ds, h1, h2, a.new p h3 (by rw [h4]; exact fun z => nomatch z), a.h p _ h4, dpa_ex a.f ds vs h5⟩
theorem Tp.dp {K : PySem.W.Frag} {F H : Hp} {v : V} {d : D} (t : Tp K F H v d) (e : Ex F H) : Dp K H v d := by
  rcases t with t | ⟨p, vs, ds, h1, h2, h3, h4, h5⟩
  · exact dp_ex e d v t
  · subst h1 h2
    exact .lst (SqL.of h4) (dpa_ex e ds vs h5)
theorem Tp.list {K : PySem.W.Frag} {F H : Hp} {v : V} {ds : List D} (t : Tp K F H v (.list ds)) (e : Ex F H) : ∃ p vs, v = .ref p ∧ SqL K H p vs ∧ DpAll K F vs ds := by
  rcases t with t | ⟨p, vs, ds, h1, h2, h3, h4, h5⟩
  · cases t with
    | lst hs ha => exact ⟨_, _, rfl, sql_ex e hs, ha⟩
  · cases h2
    exact ⟨p, vs, h1, SqL.of h4, h5⟩
theorem Tp.tuple {K : PySem.W.Frag} {F H : Hp} {v : V} {ds : List D} (t : Tp K F H v (.tuple ds)) (e : Ex F H) : ∃ p vs, v = .ref p ∧ SqT K H p vs ∧ DpAll K F vs ds := by
  rcases t with t | ⟨p, vs, ds, h1, h2, h3, h4, h5⟩
  · cases t with
    | tup hs ha => exact ⟨_, _, rfl, sqt_ex e hs, ha⟩
  · cases h2
theorem Tp.int {K : PySem.W.Frag} {F H : Hp} {v : V} {i : Int} (t : Tp K F H v (.int i)) : v = .int i := by
  rcases t with t | ⟨p, vs, ds, h1, h2, h3, h4, h5⟩
  · cases t; rfl
  · cases h2
theorem Tp.bool {K : PySem.W.Frag} {F H : Hp} {v : V} {i : Bool} (t : Tp K F H v (.bool i)) : v = .bl i := by
  rcases t with t | ⟨p, vs, ds, h1, h2, h3, h4, h5⟩
  · cases t; rfl
  · cases h2
theorem Tp.str {K : PySem.W.Frag} {F H : Hp} {v : V} {i : Str} (t : Tp K F H v (.str i)) : v = .str i := by
  rcases t with t | ⟨p, vs, ds, h1, h2, h3, h4, h5⟩
  · cases t; rfl
  · cases h2
theorem Tp.none {K : PySem.W.Frag} {F H : Hp} {v : V} (t : Tp K F H v .none) : v = .non := by
  rcases t with t | ⟨p, vs, ds, h1, h2, h3, h4, h5⟩
  · cases t; rfl
  · cases h2
inductive TpAll (K : PySem.W.Frag) (F H : Hp) : List V → List D → Prop
  | nil : TpAll K F H [] []
  | cons {v : V} {vs : List V} {d : D} {ds : List D} : Tp K F H v d → TpAll K F H vs ds → TpAll K F H (v :: vs) (d :: ds)

/-! ### readings by functions over data -/
def tE (K : PySem.W.Frag) (F0 H0 : Hp) (m : Rho → Option D) : TE := fun σ H Q => ∃ ρ F d, EnvOk K F0 H0 F H σ ρ ∧ m ρ = some d ∧ ∀ v F' H', Adv F H F' H' → Dp K F' v d → Q v H'
def tT (K : PySem.W.Frag) (F0 H0 : Hp) (m : Rho → Option D) : TE := fun σ H Q => ∃ ρ F d, EnvOk K F0 H0 F H σ ρ ∧ m ρ = some d ∧ ∀ v F' H', Adv F H F' H' → Tp K F' H' v d → Q v H'
/-- a new list -/
def tO (K : PySem.W.Frag) (F0 H0 : Hp) (m : Rho → Option (List D)) : TE := fun σ H Q => ∃ ρ F ds, EnvOk K F0 H0 F H σ ρ ∧ m ρ = some ds ∧
  ∀ p vs F' H', Adv F H F' H' → H p = none → F' p = none → H' p = some (.lst vs) → DpAll K F' vs ds → Q (.ref p) H'
def tB (K : PySem.W.Frag) (F0 H0 : Hp) (m : Rho → Option Bool) : TT := fun σ H Q => ∃ ρ F b, EnvOk K F0 H0 F H σ ρ ∧ m ρ = some b ∧ ∀ F' H', Adv F H F' H' → Q b H'
/-- arguments: read alone; handed on -/
def tAT (K : PySem.W.Frag) (F0 H0 : Hp) (m : Rho → Option (List D)) : TA := fun σ H Q => ∃ ρ F ds, EnvOk K F0 H0 F H σ ρ ∧ m ρ = some ds ∧ ∀ vs F' H', Adv F H F' H' → TpAll K F' H' vs ds → Q vs H'
def tAE (K : PySem.W.Frag) (F0 H0 : Hp) (m : Rho → Option (List D)) : TA := fun σ H Q => ∃ ρ F ds, EnvOk K F0 H0 F H σ ρ ∧ m ρ = some ds ∧ ∀ vs F' H', Adv F H F' H' → DpAll K F' vs ds → Q vs H'

/-- an error that is raised: its class by name, its fields -/
structure Exn where
  tag : Str
  fs : List (Str × D)
def XAt (X : Cx) (F : Hp) (e : Exn) (cls : Value) (d : Option Addr) : Prop := ∃ (C dx : Addr) (vs : List (Str × V)), X.mg e.tag = some (.ref C) ∧ cls = .ref C ∧ d = some dx ∧ F dx = some (.xd vs) ∧ vs.map (·.1) = e.fs.map (·.1) ∧ DpAll X.K F (vs.map (·.2)) (e.fs.map (·.2))
inductive Res where
  | ex (e : Exn) (ρ : Rho)
  | nx (ρ : Rho)
  | rt (d : D)
  | bk (ρ : Rho)
  | ct (ρ : Rho)
def noW : WX := fun _ _ _ _ => False
def Goes (X : Cx) (F0 H0 : Hp) (W : WX) (Dn : Ends) : Res → Prop
  | .ex e ρ => ∀ σ F H cls d, EnvOk X.K F0 H0 F H σ ρ → XAt X F e cls d → W cls d σ H
  | .nx ρ => ∀ σ F H, EnvOk X.K F0 H0 F H σ ρ → Dn.nx σ H
  | .rt d => ∀ v F H, Adv F0 H0 F H → Dp X.K F v d → Dn.rt v H
  | .bk ρ => ∀ σ F H, EnvOk X.K F0 H0 F H σ ρ → Dn.bk σ H
  | .ct ρ => ∀ σ F H, EnvOk X.K F0 H0 F H σ ρ → Dn.ct σ H
def tS (X : Cx) (F0 H0 : Hp) (W : WX) (m : Rho → Option Res) : TS := fun Dn σ H => ∃ ρ F r, EnvOk X.K F0 H0 F H σ ρ ∧ m ρ = some r ∧ Goes X F0 H0 W Dn r

structure ME (X : Cx) (e : Expr) (m : Rho → Option D) : Prop where
  ok : ∀ F0 H0, PE X e (tE X.K F0 H0 m)
structure MT (X : Cx) (e : Expr) (m : Rho → Option D) : Prop where
  ok : ∀ F0 H0, PE X e (tT X.K F0 H0 m)
structure MO (X : Cx) (e : Expr) (m : Rho → Option (List D)) : Prop where
  ok : ∀ F0 H0, PE X e (tO X.K F0 H0 m)
structure MB (X : Cx) (e : Expr) (m : Rho → Option Bool) : Prop where
  ok : ∀ F0 H0, PT X e (tB X.K F0 H0 m)
structure MAT (X : Cx) (es : List Expr) (m : Rho → Option (List D)) : Prop where
  ok : ∀ F0 H0, PA X es (tAT X.K F0 H0 m)
structure MAE (X : Cx) (es : List Expr) (m : Rho → Option (List D)) : Prop where
  ok : ∀ F0 H0, PA X es (tAE X.K F0 H0 m)
structure MS (X : Cx) (W : WX) (st : Stmt) (m : Rho → Option Res) : Prop where
  ok : ∀ F0 H0, PS X st (tS X F0 H0 W m)
structure MSs (X : Cx) (W : WX) (st : List Stmt) (m : Rho → Option Res) : Prop where
  ok : ∀ F0 H0, PSs X st (tS X F0 H0 W m)

theorem pe_weak {X : Cx} {e : Expr} {t t' : TE} (h : PE X e t) (w : ∀ σ H Q, t' σ H Q → t σ H Q) : PE X e t' := ⟨fun pins s σ H Q I q => h.run pins s σ H Q I (w σ H Q q)⟩
theorem pt_weak {X : Cx} {e : Expr} {t t' : TT} (h : PT X e t) (w : ∀ σ H Q, t' σ H Q → t σ H Q) : PT X e t' := ⟨fun pins s σ H Q I q => h.run pins s σ H Q I (w σ H Q q)⟩
theorem pa_weak {X : Cx} {e : List Expr} {t t' : TA} (h : PA X e t) (w : ∀ σ H Q, t' σ H Q → t σ H Q) : PA X e t' := ⟨fun pos pins s σ H Q I q => h.run pos pins s σ H Q I (w σ H Q q)⟩
theorem ps_weak {X : Cx} {e : Stmt} {t t' : TS} (h : PS X e t) (w : ∀ D σ H, t' D σ H → t D σ H) : PS X e t' := ⟨fun pins s σ H D I q => h.run pins s σ H D I (w D σ H q)⟩
theorem pss_weak {X : Cx} {e : List Stmt} {t t' : TS} (h : PSs X e t) (w : ∀ D σ H, t' D σ H → t D σ H) : PSs X e t' := ⟨fun pins s σ H D I q => h.run pins s σ H D I (w D σ H q)⟩

theorem ME.t {X : Cx} {e : Expr} {m : Rho → Option D} (h : ME X e m) : MT X e m := ⟨fun F0 H0 => pe_weak (h.ok F0 H0) fun σ H Q ⟨ρ, F, d, e1, e2, q⟩ => ⟨ρ, F, d, e1, e2, fun v F' H' a p => q v F' H' a (.inl p)⟩⟩
def mL (m : Rho → Option (List D)) : Rho → Option D := fun ρ => (m ρ).map PyData.list
theorem MO.e {X : Cx} {e : Expr} {m : Rho → Option (List D)} (h : MO X e m) : ME X e (mL m) := ⟨fun F0 H0 => pe_weak (h.ok F0 H0) fun σ H Q ⟨ρ, F, d, e1, e2, q⟩ => by
  unfold mL at e2
  cases hm : m ρ with
  | none => rw [hm] at e2; cases e2
  | some ds =>
    rw [hm] at e2
    cases e2
    refine ⟨ρ, F, ds, e1, hm, fun p vs F' H' a h0 h1 h2 h3 => q _ _ _ (a.freeze h0 h1 h2) (.lst (SqL.of upd_same) (dpa_ex (Ex.new h1) ds vs h3))⟩⟩
theorem MO.t {X : Cx} {e : Expr} {m : Rho → Option (List D)} (h : MO X e m) : MT X e (mL m) := h.e.t
end MV

set_option maxRecDepth 100000
set_option maxHeartbeats 4000000
namespace MV
open PySem PySem.Spec PyProof.Rows L2

/-! ### operations on data -/
def dAdd : D → D → Option D
  | .int i, .int j => some (.int (i + j))
  | .str a, .str b => if a.length + b.length ≤ 100000 then some (.str (a ++ b)) else none
  | .list a, .list b => if a.length + b.length ≤ 100000 then some (.list (a ++ b)) else none
  | .tuple a, .tuple b => if a.length + b.length ≤ 100000 then some (.tuple (a ++ b)) else none
  | _, _ => none
def dSub : D → D → Option D
  | .int i, .int j => some (.int (i - j))
  | _, _ => none
/-- the sizes for which the product is served -/
def mulOk (i j : Int) : Bool := decide (i.natAbs.log2 + j.natAbs.log2 < 1000000 ∨ i.natAbs < 2 ^ 64 ∨ j.natAbs < 2 ^ 64)
def divOk (j : Int) : Bool := decide (j ≠ 0 ∧ j.natAbs.log2 < 9000)
theorem mulOk_l {i j : Int} (h : i.natAbs < 2 ^ 64) : mulOk i j = true := decide_eq_true (.inr (.inl h))
theorem mulOk_r {i j : Int} (h : j.natAbs < 2 ^ 64) : mulOk i j = true := decide_eq_true (.inr (.inr h))
theorem log2_lt' {n a : Nat} (h0 : 0 < a) (h : n < 2 ^ a) : n.log2 < a := by
  by_cases hn : n = 0
  · subst hn
    rw [Nat.log2_zero]
    exact h0
  · exact (Nat.log2_lt hn).mpr h
theorem mulOk_n {i j : Int} {a b : Nat} (ha : i.natAbs < 2 ^ a) (hb : j.natAbs < 2 ^ b) (h0 : 0 < a) (h1 : 0 < b) (h : a + b ≤ 1000000) : mulOk i j = true :=
  decide_eq_true (.inl (by have x := log2_lt' h0 ha; have y := log2_lt' h1 hb; omega))
theorem divOk_n {j : Int} {b : Nat} (hj : j ≠ 0) (hb : j.natAbs < 2 ^ b) (h : b ≤ 9000) : divOk j = true :=
  decide_eq_true ⟨hj, Nat.lt_of_lt_of_le (log2_lt' (by
    cases b with
    | zero => exact absurd hb (by omega)
    | succ b => omega) hb) h⟩
def dMul : D → D → Option D
  | .int i, .int j => if mulOk i j = true then some (.int (i * j)) else none
  | _, _ => none
def dDiv : D → D → Option D
  | .int i, .int j => if divOk j = true then some (.int (i.fdiv j)) else none
  | _, _ => none
theorem dMul_ok {i j : Int} (h : mulOk i j = true) : dMul (.int i) (.int j) = some (.int (i * j)) := if_pos h
theorem dDiv_ok {i j : Int} (h : divOk j = true) : dDiv (.int i) (.int j) = some (.int (i.fdiv j)) := if_pos h
def dMod : D → D → Option D
  | .int i, .int j => if j ≠ 0 then some (.int (i.fmod j)) else none
  | _, _ => none
def dPow : D → D → Option D
  | .int i, .int j => if 0 ≤ j ∧ j ≤ 1000 ∧ i.natAbs < 2 ^ 64 then some (.int (i ^ j.toNat)) else none
  | _, _ => none
theorem dMod_ok {i j : Int} (h : j ≠ 0) : dMod (.int i) (.int j) = some (.int (i.fmod j)) := if_pos h
def dNeg : D → Option D
  | .int i => some (.int (-i))
  | _ => none
def dLt : D → D → Option D
  | .int i, .int j => some (.bool (decide (i < j)))
  | _, _ => none
def dLe : D → D → Option D
  | .int i, .int j => some (.bool (decide (i ≤ j)))
  | _, _ => none
def dGt : D → D → Option D
  | .int i, .int j => some (.bool (decide (j < i)))
  | _, _ => none
def dGe : D → D → Option D
  | .int i, .int j => some (.bool (decide (j ≤ i)))
  | _, _ => none
def eqOk : D → D → Bool
  | .str _, .str _ => true
  | d, e => SeqAt.shaped d && SeqAt.shaped e
theorem eqOk_cases {d e : D} (h : eqOk d e = true) : (∃ x y, d = .str x ∧ e = .str y) ∨ (SeqAt.shaped d = true ∧ SeqAt.shaped e = true) := by
  unfold eqOk at h
  split at h
  · exact .inl ⟨_, _, rfl, rfl⟩
  · exact .inr (Bool.and_eq_true_iff.mp h)
def dEq : D → D → Option D := fun d e => if eqOk d e = true then some (.bool (PyData.eqv d e)) else none
def dNe : D → D → Option D := fun d e => if eqOk d e = true then some (.bool (!PyData.eqv d e)) else none
theorem dEq_ok {d e : D} (h : eqOk d e = true) : dEq d e = some (.bool (PyData.eqv d e)) := if_pos h
theorem dNe_ok {d e : D} (h : eqOk d e = true) : dNe d e = some (.bool (!PyData.eqv d e)) := if_pos h
def isNoneD : D → Bool
  | .none => true
  | _ => false
def dIs : D → D → Option D
  | d, .none => some (.bool (isNoneD d))
  | _, _ => none
def dIsNot : D → D → Option D
  | d, .none => some (.bool (!isNoneD d))
  | _, _ => none
def dIx : D → D → Option D
  | .list a, .int i => atI a i
  | .tuple a, .int i => atI a i
  | .str z, .int i => if z.length ≤ 100000 then (atI z.cps.toList i).map fun c => .str ⟨#[c]⟩ else none
  | _, _ => none
def m2 (g : D → D → Option D) (ma mb : Rho → Option D) : Rho → Option D := fun ρ => (ma ρ).bind fun x => (mb ρ).bind fun y => g x y
def m1 (g : D → Option D) (ma : Rho → Option D) : Rho → Option D := fun ρ => (ma ρ).bind g
def mC (d : D) : Rho → Option D := fun _ => some d
def mVar (i : Nat) : Rho → Option D := fun ρ => match ρ[i]? with
  | some (.dat d) => some d
  | _ => none
def mOwn (i : Nat) : Rho → Option D := fun ρ => match ρ[i]? with
  | some (.own ds) => some (.list ds)
  | some (.dat d) => some d
  | _ => none

def rD (K : PySem.W.Frag) (g : D → D → Option D) : R2 := fun x y H Q => ∃ F dx dy d, Ex F H ∧ Tp K F H x dx ∧ Tp K F H y dy ∧ g dx dy = some d ∧ ∀ v F' H', Adv F H F' H' → Dp K F' v d → Q v H'
structure OpD (X : Cx) (f : Value → Value → Sem Value) (g : D → D → Option D) : Prop where
  ok : OpR X f (rD X.K g)
def cD (K : PySem.W.Frag) (g : List D → Option D) : List V → Hp → VK → Prop := fun xs H Q => ∃ F ds d, Ex F H ∧ TpAll K F H xs ds ∧ g ds = some d ∧ ∀ v F' H', Adv F H F' H' → Dp K F' v d → Q v H'
structure FnD (X : Cx) (f : Value) (g : List D → Option D) : Prop where
  ok : CallR X f (cD X.K g)

theorem sz_of {n : Nat} (h : n ≤ 100000) : n ≤ sizeLine := Nat.le_trans h (by decide)
section
variable {X : Cx}
theorem op_fdivX : OpR X (binaryOp .FloorDiv) (rI (fun _ j => j ≠ 0 ∧ j.natAbs.log2 < 9000) fun i j => .int (i.fdiv j)) := opI fun _ _ _ _ _ _ _ hc q => floordiv_int hc.1 q (.inl (PyProof.noPylong_of_log2 hc.2))
theorem od_add : OpD X (binaryOp .Add) dAdd := by
  refine ⟨fun pins s σ H x y v u Q I rx ry h => ?_⟩
  obtain ⟨F, dx, dy, d, e, tx, ty, hg, q⟩ := h
  unfold dAdd at hg
  split at hg
  · cases hg
    rw [tx.int] at rx
    rw [ty.int] at ry
    exact op_add pins s σ H _ _ v u Q I rx ry ⟨_, _, rfl, rfl, q _ F H (Adv.refl e) (.int _)⟩
  · split at hg
    · cases hg
      rename_i hz
      rw [tx.str] at rx
      rw [ty.str] at ry
      exact op_add_str pins s σ H _ _ v u Q I rx ry ⟨_, _, rfl, rfl, sz_of hz, q _ F H (Adv.refl e) (.str _)⟩
    · cases hg
  · split at hg
    · cases hg
      rename_i hz
      obtain ⟨p1, vs1, e1, q1, a1⟩ := tx.list e
      obtain ⟨p2, vs2, e2, q2, a2⟩ := ty.list e
      subst e1 e2
      cases rx
      cases ry
      obtain ⟨its, r1, ⟨o1, n1, g1, c1, _, d1⟩, _⟩ := I.list q1
      obtain ⟨its2, r2, ⟨o2, n2, g2, c2, _, d2⟩, _⟩ := I.list q2
      have l1 := (dal_len a1)
      have l2 := (dal_len a2)
      have l3 := r1.length
      have l4 := r2.length
      obtain ⟨oc1, od1, dt1, sl1⟩ := o1
      obtain ⟨oc2, od2, dt2, sl2⟩ := o2
      simp only at c1 d1 c2 d2
      subst c1 d1 c2 d2
      have hz' := sz_of hz
      refine concat_meets ⟨_, g1, rfl⟩ ⟨_, g2, rfl⟩ noFill_list_add seq_list_add PySem.F.slot_list_add PySem.F.entry_list_add (PySem.F.args_list_add_2 _ _) (list_addW _ _ its.toArray its2.toArray n1 n2 od1 od2 sl1 sl2 (by rw [List.size_toArray, List.size_toArray]; omega)) ⟨g1, g2, ?_⟩
      have ea : its.toArray ++ its2.toArray = (its ++ its2).toArray := by simp
      rw [ea]
      have hn : H s.heap.objs.size = none := I.fresh
      refine ⟨.ref _, _, I.lnew (t' := s.toks) (r1.append r2) (by rw [List.length_append]; omega), rfl, q _ _ _ (Adv.laid e hn) (.lst (SqL.of upd_same) ?_)⟩
      exact dpa_ex (Ex.new (e.none hn)) _ _ (dal_app a1 a2)
    · cases hg
  · split at hg
    · cases hg
      rename_i hz
      obtain ⟨p1, vs1, e1, q1, a1⟩ := tx.tuple e
      obtain ⟨p2, vs2, e2, q2, a2⟩ := ty.tuple e
      subst e1 e2
      have l1 := (dal_len a1)
      have l2 := (dal_len a2)
      have hz' := sz_of hz
      refine op_catA pins s σ H _ _ v u Q I rx ry ⟨p1, p2, vs1, vs2, rfl, rfl, q1, q2, by omega, fun h0 => ?_, fun h0 h1 => ?_, fun h0 h1 p hp => ?_⟩
      · subst h0
        cases a1
        rcases ty with t | ⟨_, _, _, _, z, _⟩
        · exact q _ F H (Adv.refl e) t
        · cases z
      · subst h1
        cases a2
        rw [List.append_nil] at q
        rcases tx with t | ⟨_, _, _, _, z, _⟩
        · exact q _ F H (Adv.refl e) t
        · cases z
      · exact q _ _ _ (Adv.laid e hp) (.tup (SqT.of upd_same) (dpa_ex (Ex.new (e.none hp)) _ _ (dal_app a1 a2)))
    · cases hg
  · cases hg
theorem od_sub : OpD X (binaryOp .Sub) dSub := by
  refine ⟨fun pins s σ H x y v u Q I rx ry h => ?_⟩
  obtain ⟨F, dx, dy, d, e, tx, ty, hg, q⟩ := h
  unfold dSub at hg
  split at hg
  · cases hg
    rw [tx.int] at rx
    rw [ty.int] at ry
    exact op_sub pins s σ H _ _ v u Q I rx ry ⟨_, _, rfl, rfl, q _ F H (Adv.refl e) (.int _)⟩
  · cases hg
theorem od_mul : OpD X (binaryOp .Mult) dMul := by
  refine ⟨fun pins s σ H x y v u Q I rx ry h => ?_⟩
  obtain ⟨F, dx, dy, d, e, tx, ty, hg, q⟩ := h
  unfold dMul at hg
  split at hg
  · split at hg
    · cases hg
      rename_i hc
      rw [tx.int] at rx
      rw [ty.int] at ry
      rcases of_decide_eq_true hc with hc | hc
      · exact op_mulW pins s σ H _ _ v u Q I rx ry ⟨_, _, rfl, rfl, hc, q _ F H (Adv.refl e) (.int _)⟩
      · exact op_mul pins s σ H _ _ v u Q I rx ry ⟨_, _, rfl, rfl, hc.imp (fun z => ⟨by omega, by omega⟩) (fun z => ⟨by omega, by omega⟩), q _ F H (Adv.refl e) (.int _)⟩
    · cases hg
  · cases hg
theorem od_div : OpD X (binaryOp .FloorDiv) dDiv := by
  refine ⟨fun pins s σ H x y v u Q I rx ry h => ?_⟩
  obtain ⟨F, dx, dy, d, e, tx, ty, hg, q⟩ := h
  unfold dDiv at hg
  split at hg
  · split at hg
    · cases hg
      rename_i hc
      rw [tx.int] at rx
      rw [ty.int] at ry
      exact op_fdivX pins s σ H _ _ v u Q I rx ry ⟨_, _, rfl, rfl, of_decide_eq_true hc, q _ F H (Adv.refl e) (.int _)⟩
    · cases hg
  · cases hg
theorem od_mod : OpD X (binaryOp .Mod) dMod := by
  refine ⟨fun pins s σ H x y v u Q I rx ry h => ?_⟩
  obtain ⟨F, dx, dy, d, e, tx, ty, hg, q⟩ := h
  unfold dMod at hg
  split at hg
  · split at hg
    · cases hg
      rename_i hc
      rw [tx.int] at rx
      rw [ty.int] at ry
      exact op_modN pins s σ H _ _ v u Q I rx ry ⟨_, _, rfl, rfl, hc, q _ F H (Adv.refl e) (.int _)⟩
    · cases hg
  · cases hg
theorem od_pow : OpD X (binaryOp .Pow) dPow := by
  refine ⟨fun pins s σ H x y v u Q I rx ry h => ?_⟩
  obtain ⟨F, dx, dy, d, e, tx, ty, hg, q⟩ := h
  unfold dPow at hg
  split at hg
  · split at hg
    · cases hg
      rename_i hc
      rw [tx.int] at rx
      rw [ty.int] at ry
      exact op_pow pins s σ H _ _ v u Q I rx ry ⟨_, _, rfl, rfl, ⟨hc.1, by omega, hc.2.2⟩, q _ F H (Adv.refl e) (.int _)⟩
    · cases hg
  · cases hg
theorem od_int {op : CmpOp} {c : Int → Int → Bool} {g : D → D → Option D} (h : OpR X (compareOp op) (rI0 fun i j => .bl (c i j))) (hg : ∀ x y d, g x y = some d → ∃ i j, x = .int i ∧ y = .int j ∧ d = .bool (c i j)) : OpD X (compareOp op) g := by
  refine ⟨fun pins s σ H x y v u Q I rx ry w => ?_⟩
  obtain ⟨F, dx, dy, d, e, tx, ty, hd, q⟩ := w
  obtain ⟨i, j, rfl, rfl, rfl⟩ := hg _ _ _ hd
  rw [tx.int] at rx
  rw [ty.int] at ry
  exact h pins s σ H _ _ v u Q I rx ry ⟨_, _, rfl, rfl, q _ F H (Adv.refl e) (.bl _)⟩
theorem od_lt : OpD X (compareOp .Lt) dLt := od_int op_lt fun x y d h => by
  unfold dLt at h
  split at h
  · cases h; exact ⟨_, _, rfl, rfl, rfl⟩
  · cases h
theorem od_le : OpD X (compareOp .LtE) dLe := od_int op_le fun x y d h => by
  unfold dLe at h
  split at h
  · cases h; exact ⟨_, _, rfl, rfl, rfl⟩
  · cases h
theorem od_gt : OpD X (compareOp .Gt) dGt := od_int op_gt fun x y d h => by
  unfold dGt at h
  split at h
  · cases h; exact ⟨_, _, rfl, rfl, rfl⟩
  · cases h
theorem od_ge : OpD X (compareOp .GtE) dGe := od_int op_ge fun x y d h => by
  unfold dGe at h
  split at h
  · cases h; exact ⟨_, _, rfl, rfl, rfl⟩
  · cases h
theorem od_eq (hu : X.A.units + 64 < cLine) : OpD X (compareOp .Eq) dEq := by
  refine ⟨fun pins s σ H x y v u Q I rx ry h => ?_⟩
  obtain ⟨F, dx, dy, d, e, tx, ty, hg, q⟩ := h
  unfold dEq at hg
  split at hg
  · cases hg
    rename_i hc
    rcases eqOk_cases hc with ⟨a, b, rfl, rfl⟩ | hc
    · rw [tx.str] at rx
      rw [ty.str] at ry
      exact op_eq pins s σ H _ _ v u Q I rx ry ⟨rfl, by rw [dec_str]; exact q _ F H (Adv.refl e) (by rw [PyData.eqv]; exact .bl _)⟩
    · exact (op_eqD hu) pins s σ H x y v u Q I rx ry ⟨dx, dy, tx.dp e, ty.dp e, hc.1, hc.2, q _ F H (Adv.refl e) (.bl _)⟩
  · cases hg
theorem od_ne (hu : X.A.units + 64 < cLine) : OpD X (compareOp .NotEq) dNe := by
  refine ⟨fun pins s σ H x y v u Q I rx ry h => ?_⟩
  obtain ⟨F, dx, dy, d, e, tx, ty, hg, q⟩ := h
  unfold dNe at hg
  split at hg
  · cases hg
    rename_i hc
    rcases eqOk_cases hc with ⟨a, b, rfl, rfl⟩ | hc
    · rw [tx.str] at rx
      rw [ty.str] at ry
      exact op_ne pins s σ H _ _ v u Q I rx ry ⟨rfl, by rw [dec_str]; exact q _ F H (Adv.refl e) (by rw [PyData.eqv]; exact .bl _)⟩
    · exact (op_neD hu) pins s σ H x y v u Q I rx ry ⟨dx, dy, tx.dp e, ty.dp e, hc.1, hc.2, q _ F H (Adv.refl e) (.bl _)⟩
  · cases hg
theorem isNone_of {K : PySem.W.Frag} {F H : Hp} {v : V} {d : D} (t : Tp K F H v d) : decide (v = .non) = isNoneD d := by
  rcases t with t | ⟨p, vs, ds, rfl, rfl, _⟩
  · cases t <;> rfl
  · rfl
theorem od_is : OpD X (compareOp .Is) dIs := by
  refine ⟨fun pins s σ H x y v u Q I rx ry h => ?_⟩
  obtain ⟨F, dx, dy, d, e, tx, ty, hg, q⟩ := h
  unfold dIs at hg
  split at hg
  · cases hg
    exact op_isN pins s σ H x y v u Q I rx ry ⟨ty.none, by rw [isNone_of tx]; exact q _ F H (Adv.refl e) (.bl _)⟩
  · cases hg
theorem od_isnot : OpD X (compareOp .IsNot) dIsNot := by
  refine ⟨fun pins s σ H x y v u Q I rx ry h => ?_⟩
  obtain ⟨F, dx, dy, d, e, tx, ty, hg, q⟩ := h
  unfold dIsNot at hg
  split at hg
  · cases hg
    exact op_notN pins s σ H x y v u Q I rx ry ⟨ty.none, by rw [isNone_of tx]; exact q _ F H (Adv.refl e) (.bl _)⟩
  · cases hg
theorem ixN_lt {n : Nat} {i : Int} {j : Nat} (h : ixN n i = some j) : j < n := by
  unfold ixN at h
  split at h
  · split at h
    · cases h; omega
    · cases h
  · split at h
    · cases h; omega
    · cases h
theorem dpa_atI {K : PySem.W.Frag} {F : Hp} {vs : List V} {ds : List D} {i : Int} {d : D} (a : DpAll K F vs ds) (h : atI ds i = some d) : ∃ v, atI vs i = some v ∧ Dp K F v d := by
  unfold atI at h ⊢
  cases hj : ixN ds.length i with
  | none => rw [hj] at h; cases h
  | some j =>
    rw [hj] at h
    obtain ⟨v, h1, h2⟩ := dal_get a h
    refine ⟨v, ?_, h2⟩
    rw [(dal_len a), hj]
    exact h1
structure IxD (X : Cx) : Prop where
  ok : IxR X (rD X.K dIx)
theorem ix_d : IxR X (rD X.K dIx) := by
  have big : IxR X (L2.rIx X.K) := ix_seq
  intro value slice pins s σ H x y v u Q I rx ry h
  refine big value slice pins s σ H x y v u Q I rx ry ?_
  obtain ⟨F, dx, dy, d, e, tx, ty, hg, q⟩ := h
  unfold dIx at hg
  split at hg
  · obtain ⟨p, vs, rfl, hs, a⟩ := tx.list e
    obtain ⟨w, h1, h2⟩ := dpa_atI a hg
    exact .inl ⟨p, vs, _, w, rfl, ty.int, hs, h1, q w F H (Adv.refl e) h2⟩
  · obtain ⟨p, vs, rfl, hs, a⟩ := tx.tuple e
    obtain ⟨w, h1, h2⟩ := dpa_atI a hg
    exact .inr (.inl ⟨p, vs, _, w, rfl, ty.int, hs, h1, q w F H (Adv.refl e) h2⟩)
  · split at hg
    · rename_i hz
      rename_i z i
      cases hc : atI z.cps.toList i with
      | none => rw [hc] at hg; cases hg
      | some c =>
        rw [hc] at hg
        cases hg
        exact .inr (.inr ⟨z, i, c, tx.str, ty.int, sz_of hz, hc, q _ F H (Adv.refl e) (.str _)⟩)
    · cases hg
  · cases hg
end

/-! ### expressions -/
section
variable {X : Cx} {a b e : Expr} {es : List Expr} {ma mb m : Rho → Option D} {pos : Pos}
theorem me_var (i : Nat) {x : Str} (hN : X.N[i]? = some x := by rfl) (hv : Vis X.env.scope x := by first | exact Or.inl rfl | exact Or.inr (Or.inl rfl) | exact Or.inr (Or.inr rfl)) (hd : (x == ("__debug__" : Str)) = false := by decide)
    (hcd : (x == ("__classdict__" : Str)) = false := by decide) : ME X (.Name x pos) (mVar i) := ⟨fun F0 H0 => pe_weak (pe_var hN hv hd hcd) fun σ H Q ⟨ρ, F, d, e1, e2, q⟩ => by
  unfold mVar at e2
  split at e2
  · cases e2
    rename_i hi
    obtain ⟨v, h1, h2⟩ := e1.dat i _ hi
    exact ⟨v, h1, q v F H (Adv.refl e1.fh) h2⟩
  · cases e2⟩
theorem mt_own (i : Nat) {x : Str} (hN : X.N[i]? = some x := by rfl) (hv : Vis X.env.scope x := by first | exact Or.inl rfl | exact Or.inr (Or.inl rfl) | exact Or.inr (Or.inr rfl)) (hd : (x == ("__debug__" : Str)) = false := by decide)
    (hcd : (x == ("__classdict__" : Str)) = false := by decide) : MT X (.Name x pos) (mOwn i) := ⟨fun F0 H0 => pe_weak (pe_var hN hv hd hcd) fun σ H Q ⟨ρ, F, d, e1, e2, q⟩ => by
  unfold mOwn at e2
  split at e2
  · cases e2
    rename_i hi
    obtain ⟨p, vs, h1, h2, h3, h4, h5⟩ := e1.own i _ hi
    exact ⟨_, h1, q _ F H (Adv.refl e1.fh) (.inr ⟨p, vs, _, rfl, rfl, h2, h4, h5⟩)⟩
  · cases e2
    rename_i hi
    obtain ⟨v, h1, h2⟩ := e1.dat i _ hi
    exact ⟨v, h1, q v F H (Adv.refl e1.fh) (.inl h2)⟩
  · cases e2⟩
theorem me_const {v : V} {d : D} (h : PE X e (tC v)) (hd : ∀ F : Hp, Dp X.K F v d) : ME X e (mC d) := ⟨fun F0 H0 => pe_weak h fun σ H Q ⟨ρ, F, d', e1, e2, q⟩ => by
  cases e2
  exact q v F H (Adv.refl e1.fh) (hd F)⟩
theorem me_int {i j} : ME X (.Constant (.int i) j pos) (mC (.int i)) := me_const pe_int fun _ => .int i
theorem me_bl {i j} : ME X (.Constant (.bool i) j pos) (mC (.bool i)) := me_const pe_bl fun _ => .bl i
theorem me_non {j} : ME X (.Constant .none j pos) (mC .none) := me_const pe_non fun _ => .non
theorem me_str {i j} : ME X (.Constant (.str i) j pos) (mC (.str i)) := me_const pe_str fun _ => .str i
theorem two_read {ma mb : Rho → Option D} {g : D → D → Option D} {F0 H0 : Hp} {σ : L2.St} {H : Hp} {Q : VK} (h : tE X.K F0 H0 (m2 g ma mb) σ H Q) : tOp (rD X.K g) (tT X.K F0 H0 ma) (tT X.K F0 H0 mb) σ H Q := by
  obtain ⟨ρ, F, d, e1, e2, q⟩ := h
  unfold m2 at e2
  cases hx : ma ρ with
  | none => rw [hx] at e2; cases e2
  | some x =>
    rw [hx] at e2
    cases hy : mb ρ with
    | none => simp [hy] at e2
    | some y =>
      have e3 : g x y = some d := by simpa [hy] using e2
      refine ⟨ρ, F, x, e1, hx, fun v1 F1 H1 a1 t1 => ⟨ρ, F1, y, e1.go a1, hy, fun v2 F2 H2 a2 t2 => ⟨F2, x, y, d, a2.fh, t1.go a2, t2, e3, fun v F3 H3 a3 p3 => q v F3 H3 ((a1.trans a2).trans a3) p3⟩⟩⟩
theorem me_bin {op : Operator} {g : D → D → Option D} (ho : OpD X (binaryOp op) g) (ha : MT X a ma) (hb : MT X b mb) : ME X (.BinOp a op b pos) (m2 g ma mb) :=
  ⟨fun F0 H0 => pe_weak (pe_op ho.ok (ha.ok F0 H0) (hb.ok F0 H0)) fun _ _ _ h => two_read h⟩
theorem me_cmp {op : CmpOp} {g : D → D → Option D} (ho : OpD X (compareOp op) g) (ha : MT X a ma) (hb : MT X b mb) (hm : behindInMarks op b = false := by first | exact nomark _ | rfl) : ME X (.Compare a [op] [b] pos) (m2 g ma mb) :=
  ⟨fun F0 H0 => pe_weak (pe_cmpR ho.ok (ha.ok F0 H0) (hb.ok F0 H0) hm) fun _ _ _ h => two_read h⟩
theorem me_ix (ha : MT X a ma) (hb : MT X b mb) (hs : PlainIx b := by exact fun _ _ => rfl) : ME X (.Subscript a b pos) (m2 dIx ma mb) :=
  ⟨fun F0 H0 => pe_weak (pe_ix ix_d (ha.ok F0 H0) (hb.ok F0 H0) hs) fun _ _ _ h => two_read h⟩
theorem me_neg (ha : MT X a ma) : ME X (.UnaryOp .USub a pos) (m1 dNeg ma) := ⟨fun F0 H0 => pe_weak (pe_un un_neg (ha.ok F0 H0)) fun σ H Q ⟨ρ, F, d, e1, e2, q⟩ => by
  unfold m1 at e2
  cases hx : ma ρ with
  | none => rw [hx] at e2; cases e2
  | some x =>
    rw [hx] at e2
    refine ⟨ρ, F, x, e1, hx, fun v1 F1 H1 a1 t1 => ?_⟩
    have e3 : dNeg x = some d := e2
    unfold dNeg at e3
    split at e3
    · cases e3
      exact ⟨_, t1.int, q _ F1 H1 a1 (.int _)⟩
    · cases e3⟩
/-! arguments, displays -/
def mNil : Rho → Option (List D) := fun _ => some []
def mCons (ma : Rho → Option D) (mr : Rho → Option (List D)) : Rho → Option (List D) := fun ρ => (ma ρ).bind fun x => (mr ρ).bind fun xs => some (x :: xs)
theorem mCons_some {ma : Rho → Option D} {mr : Rho → Option (List D)} {ρ : Rho} {ds : List D} (h : mCons ma mr ρ = some ds) : ∃ x xs, ma ρ = some x ∧ mr ρ = some xs ∧ ds = x :: xs := by
  unfold mCons at h
  cases hx : ma ρ with
  | none => rw [hx] at h; cases h
  | some x =>
    rw [hx] at h
    cases hy : mr ρ with
    | none => simp [hy] at h
    | some xs =>
      have e : x :: xs = ds := by simpa [hy] using h
      exact ⟨x, xs, rfl, rfl, e.symm⟩
theorem TpAll.go {K : PySem.W.Frag} {F H F' H' : Hp} (a : Adv F H F' H') : ∀ {vs : List V} {ds : List D}, TpAll K F H vs ds → TpAll K F' H' vs ds
  | _, _, .nil => .nil
  | _, _, .cons r t => .cons (r.go a) (TpAll.go a t)
theorem mat_nil : MAT X [] mNil := ⟨fun F0 H0 => pa_weak pa_nil fun σ H Q ⟨ρ, F, d, e1, e2, q⟩ => by
  cases e2
  exact q [] F H (Adv.refl e1.fh) .nil⟩
theorem mat_cons {mr : Rho → Option (List D)} (ha : MT X e ma) (hr : MAT X es mr) (hs : starEach (e :: es) X.env = (false, eval e X.env) :: starEach es X.env := by rfl) : MAT X (e :: es) (mCons ma mr) :=
  ⟨fun F0 H0 => pa_weak (pa_cons (ha.ok F0 H0) (hr.ok F0 H0) hs) fun σ H Q ⟨ρ, F, d, e1, e2, q⟩ => by
    obtain ⟨x, xs, hx, hxs, rfl⟩ := mCons_some e2
    exact ⟨ρ, F, x, e1, hx, fun v1 F1 H1 a1 t1 => ⟨ρ, F1, xs, e1.go a1, hxs, fun vs F2 H2 a2 t2 => q _ F2 H2 (a1.trans a2) (.cons (t1.go a2) t2)⟩⟩⟩
theorem mae_nil : MAE X [] mNil := ⟨fun F0 H0 => pa_weak pa_nil fun σ H Q ⟨ρ, F, d, e1, e2, q⟩ => by
  cases e2
  exact q [] F H (Adv.refl e1.fh) .nil⟩
theorem mae_cons {mr : Rho → Option (List D)} (ha : ME X e ma) (hr : MAE X es mr) (hs : starEach (e :: es) X.env = (false, eval e X.env) :: starEach es X.env := by rfl) : MAE X (e :: es) (mCons ma mr) :=
  ⟨fun F0 H0 => pa_weak (pa_cons (ha.ok F0 H0) (hr.ok F0 H0) hs) fun σ H Q ⟨ρ, F, d, e1, e2, q⟩ => by
    obtain ⟨x, xs, hx, hxs, rfl⟩ := mCons_some e2
    exact ⟨ρ, F, x, e1, hx, fun v1 F1 H1 a1 t1 => ⟨ρ, F1, xs, e1.go a1, hxs, fun vs F2 H2 a2 t2 => q _ F2 H2 (a1.trans a2) (.cons (dp_ex a2.f _ _ t1) t2)⟩⟩⟩
def mTup (mr : Rho → Option (List D)) : Rho → Option D := fun ρ => (mr ρ).bind fun ds => if ds.length ≤ 100000 then some (.tuple ds) else none
def mLst (mr : Rho → Option (List D)) : Rho → Option (List D) := fun ρ => (mr ρ).bind fun ds => if ds.length ≤ 100000 then some ds else none
theorem me_tup {k} {mr : Rho → Option (List D)} (h : MAE X es mr) : ME X (.Tuple es k pos) (mTup mr) := ⟨fun F0 H0 => pe_weak (pe_tup (h.ok F0 H0)) fun σ H Q ⟨ρ, F, d, e1, e2, q⟩ => by
  unfold mTup at e2
  cases hx : mr ρ with
  | none => rw [hx] at e2; cases e2
  | some ds =>
    rw [hx] at e2
    replace e2 : (if ds.length ≤ 100000 then some (PyData.tuple ds) else none) = some d := e2
    split at e2
    · cases e2
      rename_i hz
      refine ⟨ρ, F, ds, e1, hx, fun vs F1 H1 a1 t1 => ⟨sz_of (by rw [(dal_len t1)]; exact hz), fun p hp => q _ _ _ (a1.trans (Adv.laid a1.fh hp)) (.tup (SqT.of upd_same) (dpa_ex (Ex.new (a1.fh.none hp)) _ _ t1))⟩⟩
    · cases e2⟩
theorem mo_lst {mr : Rho → Option (List D)} (h : MAE X es mr) : MO X (.List es pos) (mLst mr) := ⟨fun F0 H0 => pe_weak (pe_lst (h.ok F0 H0)) fun σ H Q ⟨ρ, F, d, e1, e2, q⟩ => by
  unfold mLst at e2
  cases hx : mr ρ with
  | none => rw [hx] at e2; cases e2
  | some ds =>
    rw [hx] at e2
    replace e2 : (if ds.length ≤ 100000 then some ds else none) = some d := e2
    split at e2
    · cases e2
      rename_i hz
      refine ⟨ρ, F, d, e1, hx, fun vs F1 H1 a1 t1 => ⟨sz_of (by rw [(dal_len t1)]; exact hz), fun p hp => ?_⟩⟩
      exact q p vs F1 _ (a1.trans (Adv.kept a1.fh (Ex.new hp))) (a1.h.none hp) (a1.fh.none hp) upd_same t1
    · cases e2⟩
/-! tests -/
def asB : D → Option Bool
  | .bool b => some b
  | _ => none
def mAsB (m : Rho → Option D) : Rho → Option Bool := fun ρ => (m ρ).bind asB
theorem asB_some {d : D} {b : Bool} (h : asB d = some b) : d = .bool b := by
  unfold asB at h
  split at h
  · cases h; rfl
  · cases h
theorem mAsB_some {m : Rho → Option D} {ρ : Rho} {b : Bool} (h : mAsB m ρ = some b) : m ρ = some (.bool b) := by
  unfold mAsB at h
  cases hx : m ρ with
  | none => rw [hx] at h; cases h
  | some x =>
    rw [hx] at h
    rw [asB_some h]
theorem mb_val (h : MT X e m) (he : ∀ whole, isTrue e X.env whole = (do let v ← whole; standAt e.pos; holding [v] (truthy v)) := by intro _; rfl) : MB X e (mAsB m) :=
  ⟨fun F0 H0 => pt_weak (pt_val (h.ok F0 H0) he) fun σ H Q ⟨ρ, F, b, e1, e2, q⟩ => ⟨ρ, F, _, e1, mAsB_some e2, fun v F' H' a t => ⟨b, t.bool, q F' H' a⟩⟩⟩
theorem mb_cmp {op : CmpOp} {g : D → D → Option D} (ho : OpD X (compareOp op) g) (ha : MT X a ma) (hb : MT X b mb) (hm : behindInMarks op b = false := by first | exact nomark _ | rfl) : MB X (.Compare a [op] [b] pos) (mAsB (m2 g ma mb)) :=
  ⟨fun F0 H0 => pt_weak (pt_cmpR ho.ok (ha.ok F0 H0) (hb.ok F0 H0) hm) fun σ H Q ⟨ρ, F, b, e1, e2, q⟩ =>
    two_read (X := X) (F0 := F0) (H0 := H0) (Q := fun x H' => ∃ k, x = .bl k ∧ Q k H') ⟨ρ, F, _, e1, mAsB_some e2, fun v F' H' a t => ⟨b, (by cases t; rfl), q F' H' a⟩⟩⟩
/-- truth of data -/
def dTru : D → Option Bool
  | .none => some false
  | .bool b => some b
  | .int i => some (i != 0)
  | .list xs => some (!xs.isEmpty)
  | .tuple xs => some (!xs.isEmpty)
  | _ => none
def mTru (m : Rho → Option D) : Rho → Option Bool := fun ρ => (m ρ).bind dTru
theorem isEmpty_dp {K : PySem.W.Frag} {F : Hp} {vs : List V} {ds : List D} (a : DpAll K F vs ds) : ds.isEmpty = vs.isEmpty := by
  cases a <;> rfl
theorem mb_tru (h : MT X e m) (he : ∀ whole, isTrue e X.env whole = (do let v ← whole; standAt e.pos; holding [v] (truthy v)) := by intro _; rfl) : MB X e (mTru m) :=
  ⟨fun F0 H0 => pt_weak (pt_truth (h.ok F0 H0) he) fun σ H Q ⟨ρ, F, b, e1, e2, q⟩ => by
    unfold mTru at e2
    cases hx : m ρ with
    | none => rw [hx] at e2; cases e2
    | some x =>
      rw [hx] at e2
      replace e2 : dTru x = some b := e2
      refine ⟨ρ, F, x, e1, hx, fun v F' H' a t => ⟨b, ?_, q F' H' a⟩⟩
      unfold dTru at e2
      split at e2
      · cases e2; rw [t.none]; rfl
      · cases e2; rw [t.bool]; rfl
      · cases e2; rw [t.int]; rfl
      · cases e2
        obtain ⟨p, vs, rfl, hs, ha⟩ := t.list a.fh
        exact .inl ⟨vs, hs, by rw [isEmpty_dp ha]⟩
      · cases e2
        obtain ⟨p, vs, rfl, hs, ha⟩ := t.tuple a.fh
        exact .inr (.inl ⟨vs, hs, by rw [isEmpty_dp ha]⟩)
      · cases e2⟩
structure MW (X : Cx) (e : Expr) (m : Rho → Option Bool) : Prop where
  ok : ∀ F0 H0, PW X e (tB X.K F0 H0 m)
theorem MW.toB {m : Rho → Option Bool} (h : MW X e m) : MB X e m := ⟨fun F0 H0 => (h.ok F0 H0).pt⟩
theorem pw_weak {t t' : TT} (h : PW X e t) (w : ∀ σ H Q, t' σ H Q → t σ H Q) : PW X e t' := ⟨fun whole pins s σ H Q I q => h.run whole pins s σ H Q I (w σ H Q q)⟩
def mAnd (ma mb : Rho → Option Bool) : Rho → Option Bool := fun ρ => (ma ρ).bind fun a => if a = true then mb ρ else some false
def mOr (ma mb : Rho → Option Bool) : Rho → Option Bool := fun ρ => (ma ρ).bind fun a => if a = true then some true else mb ρ
def mNot (ma : Rho → Option Bool) : Rho → Option Bool := fun ρ => (ma ρ).map (!·)
theorem mw_and1 {ma : Rho → Option Bool} (h : MB X a ma) : MW X (.BoolOp .And [a] pos) ma := ⟨fun F0 H0 => pw_and1 (h.ok F0 H0)⟩
theorem mw_or1 {ma : Rho → Option Bool} (h : MB X a ma) : MW X (.BoolOp .Or [a] pos) ma := ⟨fun F0 H0 => pw_or1 (h.ok F0 H0)⟩
theorem mw_and {ma mb : Rho → Option Bool} (h : MB X a ma) (h2 : MW X (.BoolOp .And (b :: es) pos) mb) : MW X (.BoolOp .And (a :: b :: es) pos) (mAnd ma mb) :=
  ⟨fun F0 H0 => pw_weak (pw_and (h.ok F0 H0) (h2.ok F0 H0)) fun σ H Q ⟨ρ, F, c, e1, e2, q⟩ => by
    unfold mAnd at e2
    cases hx : ma ρ with
    | none => rw [hx] at e2; cases e2
    | some x =>
      rw [hx] at e2
      replace e2 : (if x = true then mb ρ else some false) = some c := e2
      refine ⟨ρ, F, x, e1, hx, fun F1 H1 a1 => ?_⟩
      cases x with
      | true => exact iteT ⟨ρ, F1, c, e1.go a1, e2, fun F2 H2 a2 => q F2 H2 (a1.trans a2)⟩
      | false =>
        cases e2
        exact iteF (q F1 H1 a1)⟩
theorem mw_or {ma mb : Rho → Option Bool} (h : MB X a ma) (h2 : MW X (.BoolOp .Or (b :: es) pos) mb) : MW X (.BoolOp .Or (a :: b :: es) pos) (mOr ma mb) :=
  ⟨fun F0 H0 => pw_weak (pw_or (h.ok F0 H0) (h2.ok F0 H0)) fun σ H Q ⟨ρ, F, c, e1, e2, q⟩ => by
    unfold mOr at e2
    cases hx : ma ρ with
    | none => rw [hx] at e2; cases e2
    | some x =>
      rw [hx] at e2
      replace e2 : (if x = true then some true else mb ρ) = some c := e2
      refine ⟨ρ, F, x, e1, hx, fun F1 H1 a1 => ?_⟩
      cases x with
      | true =>
        cases e2
        exact iteT (q F1 H1 a1)
      | false => exact iteF ⟨ρ, F1, c, e1.go a1, e2, fun F2 H2 a2 => q F2 H2 (a1.trans a2)⟩⟩
theorem mb_not {ma : Rho → Option Bool} (h : MB X a ma) : MB X (.UnaryOp .Not a pos) (mNot ma) :=
  ⟨fun F0 H0 => pt_weak (pt_not (h.ok F0 H0)) fun σ H Q ⟨ρ, F, c, e1, e2, q⟩ => by
    unfold mNot at e2
    cases hx : ma ρ with
    | none => rw [hx] at e2; cases e2
    | some x =>
      rw [hx] at e2
      cases e2
      exact ⟨ρ, F, x, e1, hx, q⟩⟩
/-! values by and, or, not -/
def mAndV (ma mb : Rho → Option D) : Rho → Option D := fun ρ => (mAsB ma ρ).bind fun a => if a = true then mb ρ else some (.bool false)
def mOrV (ma mb : Rho → Option D) : Rho → Option D := fun ρ => (mAsB ma ρ).bind fun a => if a = true then some (.bool true) else mb ρ
def mNotV (ma : Rho → Option D) : Rho → Option D := fun ρ => (mAsB ma ρ).map fun b => .bool (!b)
theorem me_one {op} (h : ME X a ma) : ME X (.BoolOp op [a] pos) ma := ⟨fun F0 H0 => pe_one (h.ok F0 H0)⟩
theorem me_and (h : ME X a ma) (h2 : ME X (.BoolOp .And (b :: es) pos) mb) : ME X (.BoolOp .And (a :: b :: es) pos) (mAndV ma mb) :=
  ⟨fun F0 H0 => pe_weak (pe_and (h.ok F0 H0) (h2.ok F0 H0)) fun σ H Q ⟨ρ, F, d, e1, e2, q⟩ => by
    unfold mAndV at e2
    cases hx : mAsB ma ρ with
    | none => rw [hx] at e2; cases e2
    | some x =>
      rw [hx] at e2
      replace e2 : (if x = true then mb ρ else some (.bool false)) = some d := e2
      refine ⟨ρ, F, _, e1, mAsB_some hx, fun v F1 H1 a1 t1 => ⟨x, (by cases t1; rfl), ?_⟩⟩
      cases x with
      | true => exact iteT ⟨ρ, F1, d, e1.go a1, e2, fun v F2 H2 a2 => q v F2 H2 (a1.trans a2)⟩
      | false =>
        cases e2
        exact iteF (q _ F1 H1 a1 (.bl _))⟩
theorem me_or (h : ME X a ma) (h2 : ME X (.BoolOp .Or (b :: es) pos) mb) : ME X (.BoolOp .Or (a :: b :: es) pos) (mOrV ma mb) :=
  ⟨fun F0 H0 => pe_weak (pe_or (h.ok F0 H0) (h2.ok F0 H0)) fun σ H Q ⟨ρ, F, d, e1, e2, q⟩ => by
    unfold mOrV at e2
    cases hx : mAsB ma ρ with
    | none => rw [hx] at e2; cases e2
    | some x =>
      rw [hx] at e2
      replace e2 : (if x = true then some (.bool true) else mb ρ) = some d := e2
      refine ⟨ρ, F, _, e1, mAsB_some hx, fun v F1 H1 a1 t1 => ⟨x, (by cases t1; rfl), ?_⟩⟩
      cases x with
      | true =>
        cases e2
        exact iteT (q _ F1 H1 a1 (.bl _))
      | false => exact iteF ⟨ρ, F1, d, e1.go a1, e2, fun v F2 H2 a2 => q v F2 H2 (a1.trans a2)⟩⟩
theorem me_not (h : ME X a ma) : ME X (.UnaryOp .Not a pos) (mNotV ma) :=
  ⟨fun F0 H0 => pe_weak (pe_not (h.ok F0 H0)) fun σ H Q ⟨ρ, F, d, e1, e2, q⟩ => by
    unfold mNotV at e2
    cases hx : mAsB ma ρ with
    | none => rw [hx] at e2; cases e2
    | some x =>
      rw [hx] at e2
      cases e2
      exact ⟨ρ, F, _, e1, mAsB_some hx, fun v F1 H1 a1 t1 => ⟨x, (by cases t1; rfl), q _ F1 H1 a1 (.bl _)⟩⟩⟩
def mIf (mt : Rho → Option Bool) (ma mb : Rho → Option D) : Rho → Option D := fun ρ => (mt ρ).bind fun c => if c = true then ma ρ else mb ρ
theorem me_if {c : Expr} {mt : Rho → Option Bool} (hc : MB X c mt) (ha : ME X a ma) (hb : ME X b mb) : ME X (.IfExp c a b pos) (mIf mt ma mb) :=
  ⟨fun F0 H0 => pe_weak (pe_ifExp (hc.ok F0 H0) (ha.ok F0 H0) (hb.ok F0 H0)) fun σ H Q ⟨ρ, F, d, e1, e2, q⟩ => by
    unfold mIf at e2
    cases hx : mt ρ with
    | none => rw [hx] at e2; cases e2
    | some x =>
      rw [hx] at e2
      replace e2 : (if x = true then ma ρ else mb ρ) = some d := e2
      refine ⟨ρ, F, x, e1, hx, fun F1 H1 a1 => ?_⟩
      cases x with
      | true => exact iteT ⟨ρ, F1, d, e1.go a1, e2, fun v F2 H2 a2 => q v F2 H2 (a1.trans a2)⟩
      | false => exact iteF ⟨ρ, F1, d, e1.go a1, e2, fun v F2 H2 a2 => q v F2 H2 (a1.trans a2)⟩⟩
end
end MV

set_option maxRecDepth 100000
set_option maxHeartbeats 4000000
namespace MV
open PySem PySem.Spec PyProof.Rows L2

/-! ### statements -/
def mSet (i : Nat) (m : Rho → Option D) : Rho → Option Res := fun ρ => (m ρ).map fun d => .nx (ρ.set i (.dat d))
def mSetO (i : Nat) (m : Rho → Option (List D)) : Rho → Option Res := fun ρ => (m ρ).map fun d => .nx (ρ.set i (.own d))
def mRet (m : Rho → Option D) : Rho → Option Res := fun ρ => (m ρ).map .rt
def mRetO (i : Nat) : Rho → Option Res := fun ρ => match ρ[i]? with
  | some (.own ds) => some (.rt (.list ds))
  | some (.dat d) => some (.rt d)
  | _ => none
def mSkip : Rho → Option Res := fun ρ => some (.nx ρ)
def mBrk : Rho → Option Res := fun ρ => some (.bk ρ)
def mCnt : Rho → Option Res := fun ρ => some (.ct ρ)
def thenR (r : Res) (k : Rho → Option Res) : Option Res := match r with
  | .nx ρ => k ρ
  | r => some r
def mSeq (a b : Rho → Option Res) : Rho → Option Res := fun ρ => (a ρ).bind fun r => thenR r b
def mIfS (c : Rho → Option Bool) (a b : Rho → Option Res) : Rho → Option Res := fun ρ => (c ρ).bind fun t => if t = true then a ρ else b ρ
def mDrop (m : Rho → Option D) : Rho → Option Res := fun ρ => (m ρ).map fun _ => .nx ρ
def mApp (i : Nat) (m : Rho → Option D) : Rho → Option Res := fun ρ => (m ρ).bind fun d => match ρ[i]? with
  | some (.own ds) => if ds.length < 100000 then some (.nx (ρ.set i (.own (ds ++ [d])))) else none
  | _ => none
def putCell (c : Option Cell) (k d : D) : Option (List D) := match c, k with
  | some (.own ds), .int z => (ixN ds.length z).map fun j => ds.set j d
  | _, _ => none
theorem putCell_some {c : Option Cell} {k d : D} {es : List D} (h : putCell c k d = some es) : ∃ ds z j, c = some (.own ds) ∧ k = .int z ∧ ixN ds.length z = some j ∧ es = ds.set j d := by
  unfold putCell at h
  split at h
  · rename_i ds z
    cases hj : ixN ds.length z with
    | none => rw [hj] at h; cases h
    | some j =>
      rw [hj] at h
      cases h
      exact ⟨ds, z, j, rfl, rfl, hj, rfl⟩
  · cases h
def mPut (i : Nat) (mi m : Rho → Option D) : Rho → Option Res := fun ρ => (m ρ).bind fun d => (mi ρ).bind fun k => (putCell ρ[i]? k d).map fun es => .nx (ρ.set i (.own es))
/-- the own list at slot i is no longer written -/
def mFrz (i : Nat) (m : Rho → Option Res) : Rho → Option Res := fun ρ => match ρ[i]? with
  | some (.own ds) => m (ρ.set i (.dat (.list ds)))
  | _ => none
def mPar (i j : Nat) (ma mb : Rho → Option D) : Rho → Option Res := fun ρ => (ma ρ).bind fun x => (mb ρ).bind fun y => some (.nx ((ρ.set i (.dat x)).set j (.dat y)))

section
variable {X : Cx} {W : WX} {e : Expr} {st : Stmt} {sts : List Stmt} {m ma mb : Rho → Option D} {pos pos' : Pos} {x : Str} {i : Nat}
theorem set_read {F0 H0 : Hp} {Dn : Ends} {σ : L2.St} {H : Hp} (h : tS X F0 H0 W (mSet i m) Dn σ H) : tAsg (tE X.K F0 H0 m) (gName i) Dn σ H := by
  obtain ⟨ρ, F, r, e1, e2, q⟩ := h
  unfold mSet at e2
  cases hx : m ρ with
  | none => rw [hx] at e2; cases e2
  | some d =>
    rw [hx] at e2
    cases e2
    exact ⟨ρ, F, d, e1, hx, fun v F' H' a p => q _ F' H' ((e1.go a).setD p)⟩
theorem setO_read {m : Rho → Option (List D)} {F0 H0 : Hp} {Dn : Ends} {σ : L2.St} {H : Hp} (h : tS X F0 H0 W (mSetO i m) Dn σ H) : tAsg (tO X.K F0 H0 m) (gName i) Dn σ H := by
  obtain ⟨ρ, F, r, e1, e2, q⟩ := h
  unfold mSetO at e2
  cases hx : m ρ with
  | none => rw [hx] at e2; cases e2
  | some d =>
    rw [hx] at e2
    cases e2
    refine ⟨ρ, F, d, e1, hx, fun p vs F' H' a h0 h1 h2 h3 => q _ F' H' ((e1.go a).setO (e1.adv.2.1.none h0) h1 h2 h3 (e1.fresh h0))⟩
theorem ms_set (hN : X.N.Nodup) (he : ME X e m) (hi : X.N[i]? = some x := by rfl) (hx : Loc X.env.scope x := by first | exact Or.inl rfl | exact Or.inr rfl) (hs : swapsWith e (some (.Name x pos')) pos.line X.env = pure false := by rfl)
    (hf : X.fn x = true ∨ X.env.scope.names.lookup x = some .local := by first | exact .inl rfl | exact .inr rfl | assumption) : MS X W (.Assign [.Name x pos'] e pos) (mSet i m) :=
  ⟨fun F0 H0 => ps_weak (ps_set hN hi hx (he.ok F0 H0) hs hf) fun _ _ _ h => set_read h⟩
theorem ms_setO {m : Rho → Option (List D)} (hN : X.N.Nodup) (he : MO X e m) (hi : X.N[i]? = some x := by rfl) (hx : Loc X.env.scope x := by first | exact Or.inl rfl | exact Or.inr rfl) (hs : swapsWith e (some (.Name x pos')) pos.line X.env = pure false := by rfl)
    (hf : X.fn x = true ∨ X.env.scope.names.lookup x = some .local := by first | exact .inl rfl | exact .inr rfl | assumption) : MS X W (.Assign [.Name x pos'] e pos) (mSetO i m) :=
  ⟨fun F0 H0 => ps_weak (ps_set hN hi hx (he.ok F0 H0) hs hf) fun _ _ _ h => setO_read h⟩
theorem ms_ret (he : ME X e m) : MS X W (.Return (some e) pos) (mRet m) := ⟨fun F0 H0 => ps_weak (ps_ret (he.ok F0 H0)) fun Dn σ H ⟨ρ, F, r, e1, e2, q⟩ => by
  unfold mRet at e2
  cases hx : m ρ with
  | none => rw [hx] at e2; cases e2
  | some d =>
    rw [hx] at e2
    cases e2
    exact ⟨ρ, F, d, e1, hx, fun v F' H' a p => q v F' H' (e1.toAdv.trans a) p⟩⟩
theorem ms_retN : MS X W (.Return none pos) (mRet (mC .none)) := ⟨fun F0 H0 => ps_weak ps_retN fun Dn σ H ⟨ρ, F, r, e1, e2, q⟩ => by
  cases e2
  exact q _ F H e1.toAdv .non⟩
/-- return of a name that holds an own list -/
theorem ms_retO (i : Nat) (hN : X.N[i]? = some x := by rfl) (hv : Vis X.env.scope x := by first | exact Or.inl rfl | exact Or.inr (Or.inl rfl) | exact Or.inr (Or.inr rfl)) (hd : (x == ("__debug__" : Str)) = false := by decide)
    (hcd : (x == ("__classdict__" : Str)) = false := by decide) : MS X W (.Return (some (.Name x pos')) pos) (mRetO i) := ⟨fun F0 H0 => ps_weak (ps_ret (pe_var hN hv hd hcd)) fun Dn σ H ⟨ρ, F, r, e1, e2, q⟩ => by
  unfold mRetO at e2
  split at e2
  · cases e2
    rename_i hi
    obtain ⟨p, vs, h1, h2, h3⟩ := e1.freeze hi
    exact ⟨_, h1, q _ _ H h3.toAdv h2⟩
  · cases e2
    rename_i hi
    obtain ⟨v, h1, h2⟩ := e1.dat i _ hi
    exact ⟨v, h1, q v F H e1.toAdv h2⟩
  · cases e2⟩
theorem ms_pass : MS X W (.Pass pos) mSkip := ⟨fun F0 H0 => ps_weak ps_pass fun Dn σ H ⟨ρ, F, r, e1, e2, q⟩ => by
  cases e2
  exact q σ F H e1⟩
theorem ms_brk : MS X W (.Break pos) mBrk := ⟨fun F0 H0 => ps_weak ps_break fun Dn σ H ⟨ρ, F, r, e1, e2, q⟩ => by
  cases e2
  exact q σ F H e1⟩
theorem ms_cnt : MS X W (.Continue pos) mCnt := ⟨fun F0 H0 => ps_weak ps_continue fun Dn σ H ⟨ρ, F, r, e1, e2, q⟩ => by
  cases e2
  exact q σ F H e1⟩
theorem mss_nil : MSs X W [] mSkip := ⟨fun F0 H0 => pss_weak pss_nil fun Dn σ H ⟨ρ, F, r, e1, e2, q⟩ => by
  cases e2
  exact q σ F H e1⟩
theorem mss_one {m : Rho → Option Res} (h : MS X W st m) : MSs X W [st] m := ⟨fun F0 H0 => pss_one (h.ok F0 H0)⟩
theorem mss_cons {m k : Rho → Option Res} (h : MS X W st m) (h2 : MSs X W sts k) : MSs X W (st :: sts) (mSeq m k) :=
  ⟨fun F0 H0 => pss_weak (pss_cons (h.ok F0 H0) (h2.ok F0 H0)) fun Dn σ H ⟨ρ, F, r, e1, e2, q⟩ => by
    unfold mSeq at e2
    cases hx : m ρ with
    | none => rw [hx] at e2; cases e2
    | some r1 =>
      rw [hx] at e2
      replace e2 : thenR r1 k = some r := e2
      refine ⟨ρ, F, r1, e1, hx, ?_⟩
      cases r1 with
      | nx ρ1 => exact fun σ1 F1 H1 w => ⟨ρ1, F1, r, w, e2, q⟩
      | rt d => cases e2; exact q
      | bk ρ1 => cases e2; exact q
      | ct ρ1 => cases e2; exact q
      | ex e ρ1 => cases e2; exact q⟩
theorem mss_frz {m : Rho → Option Res} (i : Nat) (h : MSs X W sts m) : MSs X W sts (mFrz i m) :=
  ⟨fun F0 H0 => pss_weak (h.ok F0 H0) fun Dn σ H ⟨ρ, F, r, e1, e2, q⟩ => by
    unfold mFrz at e2
    split at e2
    · rename_i hi
      obtain ⟨p, vs, h1, h2, h3⟩ := e1.freeze hi
      exact ⟨_, _, r, h3, e2, q⟩
    · cases e2⟩
theorem ms_if {c : Expr} {a b : List Stmt} {mc : Rho → Option Bool} {m1 m2 : Rho → Option Res} (hc : MB X c mc) (ha : MSs X W a m1) (hb : MSs X W b m2) : MS X W (.If c a b pos) (mIfS mc m1 m2) :=
  ⟨fun F0 H0 => ps_weak (ps_if (hc.ok F0 H0) (ha.ok F0 H0) (hb.ok F0 H0)) fun Dn σ H ⟨ρ, F, r, e1, e2, q⟩ => by
    unfold mIfS at e2
    cases hx : mc ρ with
    | none => rw [hx] at e2; cases e2
    | some t =>
      rw [hx] at e2
      replace e2 : (if t = true then m1 ρ else m2 ρ) = some r := e2
      refine ⟨ρ, F, t, e1, hx, fun F1 H1 a1 => ?_⟩
      cases t with
      | true => exact iteT ⟨ρ, F1, r, e1.go a1, e2, q⟩
      | false => exact iteF ⟨ρ, F1, r, e1.go a1, e2, q⟩⟩
theorem ms_drop (he : ME X e m) (hs : swapsWith e none pos.line X.env = pure false := by rfl) : MS X W (.Expr e pos) (mDrop m) := ⟨fun F0 H0 => ps_weak (ps_expr (he.ok F0 H0) hs) fun Dn σ H ⟨ρ, F, r, e1, e2, q⟩ => by
  unfold mDrop at e2
  cases hx : m ρ with
  | none => rw [hx] at e2; cases e2
  | some d =>
    rw [hx] at e2
    cases e2
    exact ⟨ρ, F, d, e1, hx, fun v F' H' a p => q σ F' H' (e1.go a)⟩⟩
/-- name.append(e), the name's list an own one -/
theorem ms_app {apos cpos npos : Pos} (i : Nat) (he : ME X e m) (hN : X.N[i]? = some x := by rfl) (hv : Vis X.env.scope x := by first | exact Or.inl rfl | exact Or.inr (Or.inl rfl) | exact Or.inr (Or.inr rfl))
    (hd : (x == ("__debug__" : Str)) = false := by decide) (hcd : (x == ("__classdict__" : Str)) = false := by decide)
    (k1 : attributeBase (.Name x npos) "append" X.env (eval (.Name x npos) X.env) = eval (.Name x npos) X.env := by rfl)
    (k2 : ((backTo cpos (starEach [e] X.env)).all (fun x => !x.1) && (backToKw cpos (keywordEach [] X.env)).all (fun x => x.1.isSome) && decide (([e] : List Expr).length + ([] : List Keyword).length + (if ([] : List Keyword).isEmpty then 0 else 1) < 30)) = true := by rfl)
    (k3 : (apos.endLine == cpos.line) = true := by rfl) (k4 : starEach [e] X.env = (false, eval e X.env) :: starEach [] X.env := by rfl) (k5 : (backTo cpos (starEach [] X.env)).any (·.1) = false := by rfl)
    (hs : swapsWith (.Call (.Attribute (.Name x npos) "append" apos) [e] [] cpos) none pos.line X.env = pure false := by rfl) :
    MS X W (.Expr (.Call (.Attribute (.Name x npos) "append" apos) [e] [] cpos) pos) (mApp i m) :=
  ⟨fun F0 H0 => ps_weak (ps_expr (pe_bm PySem.F.plainAttrs_list PySem.F.slot_list_append PySem.F.type_list_append mt_append (pe_var hN hv hd hcd) (pa_cons (he.ok F0 H0) pa_nil k4) k1 k2 k3 k4 k5) hs) fun Dn σ H ⟨ρ, F, r, e1, e2, q⟩ => by
    unfold mApp at e2
    cases hx : m ρ with
    | none => rw [hx] at e2; cases e2
    | some d =>
      rw [hx] at e2
      change (match ρ[i]? with | some (.own ds) => if ds.length < 100000 then some (Res.nx (ρ.set i (.own (ds ++ [d])))) else none | _ => none) = some r at e2
      split at e2
      · rename_i ds hi
        split at e2
        · cases e2
          rename_i hz
          obtain ⟨p, vs, h1, h2, h3, h4, h5⟩ := e1.own i ds hi
          refine ⟨_, h1, .inl ⟨rfl, _, SqL.of h4⟩, ρ, F, d, e1, hx, fun v F' H' a pd => ?_⟩
          have g := e1.go a
          obtain ⟨p', vs', k1, k2, k3, k4, k5⟩ := g.own i ds hi
          rw [h1] at k1
          cases k1
          refine ⟨p, vs', v, rfl, rfl, k4, ?_, ?_⟩
          · rw [dal_len k5]
            exact Nat.lt_of_lt_of_le hz (by decide)
          · exact q σ F' _ (g.mutO hi h1 (dal_app k5 (.cons pd .nil)))
        · cases e2
      · cases e2⟩
/-- name[k] = e, the name's list an own one -/
theorem ms_put {npos spos : Pos} {k : Expr} {mk : Rho → Option D} (i : Nat) (he : ME X e m) (hk : ME X k mk) (hN : X.N[i]? = some x := by rfl) (hv : Vis X.env.scope x := by first | exact Or.inl rfl | exact Or.inr (Or.inl rfl) | exact Or.inr (Or.inr rfl))
    (hd : (x == ("__debug__" : Str)) = false := by decide) (hcd : (x == ("__classdict__" : Str)) = false := by decide)
    (ha : ∀ v, assign (.Subscript (.Name x npos) k spos) X.env v = (do
      let o1 ← holding [v] (eval (.Name x npos) X.env)
      let o2 ← holding [v, o1] (eval k X.env)
      standAt spos
      holding [v, o1, o2] (setItem o1 o2 v)
      release [v, o1, o2] []) := by intro _; rfl)
    (h0 : swapsWithSole [.Subscript (.Name x npos) k spos] e pos.line X.env = pure false := by rfl) (h1 : swappedStores [.Subscript (.Name x npos) k spos] e X.env = pure none := by rfl)
    (h2 : (assignEach [.Subscript (.Name x npos) k spos] X.env).map (·.2) = [assign (.Subscript (.Name x npos) k spos) X.env] := by rfl) :
    MS X W (.Assign [.Subscript (.Name x npos) k spos] e pos) (mPut i mk m) :=
  ⟨fun F0 H0 => ps_weak (ps_asg (he.ok F0 H0) (pg_sub (pe_var hN hv hd hcd) (hk.ok F0 H0) set_list ha) h0 h1 h2) fun Dn σ H ⟨ρ, F, r, e1, e2, q⟩ => by
    unfold mPut at e2
    cases hx : m ρ with
    | none => rw [hx] at e2; cases e2
    | some d =>
      rw [hx] at e2
      cases hy : mk ρ with
      | none => simp [hy] at e2
      | some k =>
        cases hp : putCell ρ[i]? k d with
        | none => simp [hy, hp] at e2
        | some es =>
          replace e2 : Res.nx (ρ.set i (.own es)) = r := by simpa [hy, hp] using e2
          subst e2
          obtain ⟨ds, z, j, hi, rfl, hj, rfl⟩ := putCell_some hp
          refine ⟨ρ, F, d, e1, hx, fun v F' H' a pd => ?_⟩
          have g := e1.go a
          obtain ⟨p, vs, h1, h2, h3, h4, h5⟩ := g.own i ds hi
          refine ⟨_, h1, ρ, F', _, g, hy, fun w F2 H2 a2 pz => ?_⟩
          cases pz
          have g2 := g.go a2
          obtain ⟨p', vs', k1, k2, k3, k4, k5⟩ := g2.own i ds hi
          rw [h1] at k1
          cases k1
          refine ⟨p, vs', z, j, rfl, rfl, k4, by rw [dal_len k5]; exact hj, ?_⟩
          exact q σ F2 _ (g2.mutO hi h1 (dal_set (dp_ex a2.f d v pd) j k5))⟩
/-- a, b = e1, e2 -/
theorem ms_par {y : Str} {a b : Expr} {j : Nat} {px py pt : Pos} {kt k2 pt2} (hc : X.calm = true) (hN : X.N.Nodup) (ha : ME X a ma) (hb : ME X b mb) (hi : X.N[i]? = some x := by rfl) (hj : X.N[j]? = some y := by rfl) (hij : i ≠ j := by decide)
    (hx : X.env.scope.names.lookup x = some .local := by rfl) (hy : X.env.scope.names.lookup y = some .local := by rfl)
    (hw : swappedStores [.Tuple [.Name x px, .Name y py] kt pt] (.Tuple [a, b] k2 pt2) X.env = pure (some [x, y]) := by rfl)
    (hs : swapsWithSole [.Tuple [.Name x px, .Name y py] kt pt] (.Tuple [a, b] k2 pt2) pos.line X.env = pure false := by rfl)
    (s1 : starEach (a :: [b]) X.env = (false, eval a X.env) :: starEach [b] X.env := by rfl) (s2 : starEach (b :: []) X.env = (false, eval b X.env) :: starEach [] X.env := by rfl) :
    MS X W (.Assign [.Tuple [.Name x px, .Name y py] kt pt] (.Tuple [a, b] k2 pt2) pos) (mPar i j ma mb) :=
  ⟨fun F0 H0 => ps_weak (ps_par hc hN hi hj hij hx hy (pa_cons (ha.ok F0 H0) (pa_cons (hb.ok F0 H0) pa_nil s2) s1) hw hs) fun Dn σ H ⟨ρ, F, r, e1, e2, q⟩ => by
    unfold mPar at e2
    cases h1 : ma ρ with
    | none => rw [h1] at e2; cases e2
    | some d1 =>
      rw [h1] at e2
      cases h2 : mb ρ with
      | none => simp [h2] at e2
      | some d2 =>
        replace e2 : Res.nx ((ρ.set i (.dat d1)).set j (.dat d2)) = r := by simpa [h2] using e2
        subst e2
        refine ⟨ρ, F, d1, e1, h1, fun v1 F1 H1 a1 p1 => ⟨ρ, F1, d2, e1.go a1, h2, fun v2 F2 H2 a2 p2 => ⟨v1, v2, rfl, ?_⟩⟩⟩
        exact q _ F2 H2 ((((e1.go a1).go a2).setD (dp_ex a2.f _ _ p1)).setD p2)⟩

/-! slots whose value no one asks for any more -/
def postR (vs : List Nat) : Res → Res
  | .nx ρ => .nx (wipeR ρ vs)
  | .bk ρ => .bk (wipeR ρ vs)
  | .ct ρ => .ct (wipeR ρ vs)
  | .rt d => .rt d
  | .ex e ρ => .ex e (wipeR ρ vs)
def mPost (vs : List Nat) (m : Rho → Option Res) : Rho → Option Res := fun ρ => (m ρ).map (postR vs)
section
variable {K : PySem.W.Frag} {F0 H0 F H : Hp} {σ : L2.St} {ρ : Rho}
theorem EnvOk.forget1 (e : EnvOk K F0 H0 F H σ ρ) (i : Nat) : EnvOk K F0 H0 F H σ (ρ.set i .un) := by
  refine ⟨e.adv, e.new, by simpa using e.len, fun j d' hj => ?_, fun j es hj => ?_, fun j k es fs q g1 g2 g3 g4 => ?_⟩
  · rcases getElem?_set_cases hj with ⟨rfl, hd, hl⟩ | ⟨hne, hj⟩
    · cases hd
    · exact e.dat j d' hj
  · rcases getElem?_set_cases hj with ⟨rfl, hd, hl⟩ | ⟨hne, hj⟩
    · cases hd
    · exact e.own j es hj
  · rcases getElem?_set_cases g1 with ⟨_, hd, _⟩ | ⟨n1, g1⟩
    · cases hd
    rcases getElem?_set_cases g2 with ⟨_, hd, _⟩ | ⟨n2, g2⟩
    · cases hd
    exact e.dist j k es fs q g1 g2 g3 g4
theorem EnvOk.forget (e : EnvOk K F0 H0 F H σ ρ) : ∀ vs : List Nat, EnvOk K F0 H0 F H σ (wipeR ρ vs)
  | [] => e
  | v :: vs => (EnvOk.forget e vs).forget1 v
end
theorem Goes.post {X : Cx} {W : WX} {F0 H0 : Hp} {Dn : Ends} {r : Res} (vs : List Nat) (h : Goes X F0 H0 W Dn (postR vs r)) : Goes X F0 H0 W Dn r := by
  cases r with
  | nx ρ => exact fun σ F H e => h σ F H (e.forget vs)
  | bk ρ => exact fun σ F H e => h σ F H (e.forget vs)
  | ct ρ => exact fun σ F H e => h σ F H (e.forget vs)
  | rt d => exact h
  | ex e ρ => exact fun σ F H cls d k x => h σ F H cls d (k.forget vs) x
theorem tS_post {X : Cx} {W : WX} {F0 H0 : Hp} {vs : List Nat} {m : Rho → Option Res} {Dn : Ends} {σ : L2.St} {H : Hp} (h : tS X F0 H0 W (mPost vs m) Dn σ H) : tS X F0 H0 W m Dn σ H := by
  obtain ⟨ρ, F, r, e1, e2, q⟩ := h
  unfold mPost at e2
  cases hx : m ρ with
  | none => rw [hx] at e2; cases e2
  | some r1 =>
    rw [hx] at e2
    cases e2
    exact ⟨ρ, F, r1, e1, hx, q.post vs⟩
theorem ms_post {X : Cx} {W : WX} {st : Stmt} {m : Rho → Option Res} (vs : List Nat) (h : MS X W st m) : MS X W st (mPost vs m) := ⟨fun F0 H0 => ps_weak (h.ok F0 H0) fun _ _ _ h => tS_post h⟩
theorem mss_post {X : Cx} {W : WX} {st : List Stmt} {m : Rho → Option Res} (vs : List Nat) (h : MSs X W st m) : MSs X W st (mPost vs m) := ⟨fun F0 H0 => pss_weak (h.ok F0 H0) fun _ _ _ h => tS_post h⟩

/-! ### targets -/
/-- after the target is stored: the slots `is` alone have changed -/
def tG (K : PySem.W.Frag) (F0 H0 : Hp) (ix : List Nat) (mg : D → Rho → Option Rho) : TG := fun v σ H Q => ∃ ρ F d ρ', EnvOk K F0 H0 F H σ ρ ∧ Dp K F v d ∧ mg d ρ = some ρ' ∧
  ∀ σ', EnvOk K F0 H0 F H σ' ρ' → σ'.length = σ.length → (∀ j, j ∉ ix → σ'[j]? = σ[j]?) → Q σ' H
structure MG (X : Cx) (t : Expr) (ix : List Nat) (mg : D → Rho → Option Rho) : Prop where
  ok : ∀ F0 H0, PG X t (tG X.K F0 H0 ix mg)
theorem pg_weak {t t' : TG} (h : PG X e t) (w : ∀ v σ H Q, t' v σ H Q → t v σ H Q) : PG X e t' := ⟨fun pins s σ H v u Q I r q => h.run pins s σ H v u Q I r (w v σ H Q q)⟩
def gSet (i : Nat) : D → Rho → Option Rho := fun d ρ => some (ρ.set i (.dat d))
theorem mg_name (i : Nat) (hN : X.N.Nodup) (hi : X.N[i]? = some x := by rfl) (hx : Loc X.env.scope x := by first | exact Or.inl rfl | exact Or.inr rfl) (hf : X.fn x = true ∨ X.env.scope.names.lookup x = some .local := by first | exact .inl rfl | exact .inr rfl | assumption) :
    MG X (.Name x pos) [i] (gSet i) := ⟨fun F0 H0 => pg_weak (pg_name hN hi hx hf) fun v σ H Q ⟨ρ, F, d, ρ', e1, pd, e2, q⟩ => by
  cases e2
  refine q _ (e1.setD pd) (List.length_set ..) fun j hj => List.getElem?_set_ne ?_
  exact fun z => hj (by simp [z])⟩
def tGs (K : PySem.W.Frag) (F0 H0 : Hp) (ix : List Nat) (mg : List D → Rho → Option Rho) : TGs := fun vs σ H Q => ∃ ρ F ds ρ', EnvOk K F0 H0 F H σ ρ ∧ DpAll K F vs ds ∧ mg ds ρ = some ρ' ∧
  ∀ σ', EnvOk K F0 H0 F H σ' ρ' → σ'.length = σ.length → (∀ j, j ∉ ix → σ'[j]? = σ[j]?) → Q σ' H
structure MGs (X : Cx) (ts : List Expr) (ix : List Nat) (mg : List D → Rho → Option Rho) : Prop where
  ok : ∀ F0 H0, PGs X ts (tGs X.K F0 H0 ix mg)
theorem pgs_weak {ts : List Expr} {t t' : TGs} (h : PGs X ts t) (w : ∀ v σ H Q, t' v σ H Q → t v σ H Q) : PGs X ts t' := ⟨fun pins s σ H v u Q I r q => h.run pins s σ H v u Q I r (w v σ H Q q)⟩
def gsNil : List D → Rho → Option Rho := fun ds ρ => match ds with
  | [] => some ρ
  | _ => none
def gsCons (g : D → Rho → Option Rho) (gs : List D → Rho → Option Rho) : List D → Rho → Option Rho := fun ds ρ => match ds with
  | d :: r => (g d ρ).bind fun ρ1 => gs r ρ1
  | [] => none
theorem mgs_nil : MGs X [] [] gsNil := ⟨fun F0 H0 => pgs_weak pgs_nil fun v σ H Q ⟨ρ, F, ds, ρ', e1, pd, e2, q⟩ => by
  unfold gsNil at e2
  split at e2
  · cases e2
    cases pd
    exact ⟨rfl, q σ e1 rfl fun _ _ => rfl⟩
  · cases e2⟩
theorem mgs_cons {es : List Expr} {i1 i2 : List Nat} {g : D → Rho → Option Rho} {gs : List D → Rho → Option Rho} (h : MG X e i1 g) (h2 : MGs X es i2 gs) (hs : (assignEach (e :: es) X.env).map (·.2) = assign e X.env :: (assignEach es X.env).map (·.2) := by rfl) :
    MGs X (e :: es) (i1 ++ i2) (gsCons g gs) := ⟨fun F0 H0 => pgs_weak (pgs_cons (h.ok F0 H0) (h2.ok F0 H0) hs) fun v σ H Q ⟨ρ, F, ds, ρ', e1, pd, e2, q⟩ => by
  unfold gsCons at e2
  split at e2
  · rename_i d r
    cases hg : g d ρ with
    | none => rw [hg] at e2; cases e2
    | some ρ1 =>
      rw [hg] at e2
      cases pd with
      | cons p1 p2 =>
        refine ⟨_, _, rfl, ρ, F, d, ρ1, e1, p1, hg, fun σ1 k1 l1 c1 => ⟨ρ1, F, r, ρ', k1, p2, e2, fun σ2 k2 l2 c2 => q σ2 k2 (l2.trans l1) fun j hj => ?_⟩⟩
        rw [List.mem_append, not_or] at hj
        rw [c2 j hj.2, c1 j hj.1]
  · cases e2⟩
def gTupD (gs : List D → Rho → Option Rho) : D → Rho → Option Rho := fun d ρ => match d with
  | .tuple ds => gs ds ρ
  | _ => none
theorem mg_tup {es : List Expr} {k : Nat} {ix : List Nat} {gs : List D → Rho → Option Rho} {n : Nat} (hc : X.calm = true) (h : MGs X es ix gs) (hl : ∀ ds ρ ρ', gs ds ρ = some ρ' → ds.length = n)
    (hn : (assignEach es X.env).length = n := by rfl) (hst : (assignEach es X.env).findIdx? (·.1) = none := by rfl) : MG X (.Tuple es k pos) ix (gTupD gs) :=
  ⟨fun F0 H0 => pg_weak (pg_tup hc (h.ok F0 H0) hn hst) fun v σ H Q ⟨ρ, F, d, ρ', e1, pd, e2, q⟩ => by
    unfold gTupD at e2
    split at e2
    · cases pd with
      | tup hs ha => exact ⟨_, _, rfl, sqt_ex e1.fh hs, (dal_len ha).trans (hl _ _ _ e2), ρ, F, _, ρ', e1, ha, e2, q⟩
    · cases e2⟩
theorem gs_len0 {ds : List D} {ρ ρ' : Rho} (h : gsNil ds ρ = some ρ') : ds.length = 0 := by
  unfold gsNil at h
  split at h
  · rfl
  · cases h
theorem gs_lenS {g : D → Rho → Option Rho} {gs : List D → Rho → Option Rho} {n : Nat} (hl : ∀ ds ρ ρ', gs ds ρ = some ρ' → ds.length = n) {ds : List D} {ρ ρ' : Rho} (h : gsCons g gs ds ρ = some ρ') : ds.length = n + 1 := by
  unfold gsCons at h
  split at h
  · rename_i d r
    cases hg : g d ρ with
    | none => rw [hg] at h; cases h
    | some ρ1 =>
      rw [hg] at h
      exact congrArg (· + 1) (hl _ _ _ h)
  · cases h
/-- target = e, the target a tuple -/
def mAsg (mg : D → Rho → Option Rho) (m : Rho → Option D) : Rho → Option Res := fun ρ => (m ρ).bind fun d => (mg d ρ).map .nx
theorem ms_asg {t : Expr} {ix : List Nat} {mg : D → Rho → Option Rho} (he : ME X e m) (hg : MG X t ix mg) (hs : swapsWithSole [t] e pos.line X.env = pure false := by rfl) (hw : swappedStores [t] e X.env = pure none := by rfl)
    (h1 : (assignEach [t] X.env).map (·.2) = [assign t X.env] := by rfl) : MS X W (.Assign [t] e pos) (mAsg mg m) :=
  ⟨fun F0 H0 => ps_weak (ps_asg (he.ok F0 H0) (hg.ok F0 H0) hs hw h1) fun Dn σ H ⟨ρ, F, r, e1, e2, q⟩ => by
    unfold mAsg at e2
    cases hx : m ρ with
    | none => rw [hx] at e2; cases e2
    | some d =>
      rw [hx] at e2
      cases hg : mg d ρ with
      | none => simp [hg] at e2
      | some ρ1 =>
        replace e2 : Res.nx ρ1 = r := by simpa [hg] using e2
        subst e2
        exact ⟨ρ, F, d, e1, hx, fun v F' H' a pd => ⟨ρ, F', d, ρ1, e1.go a, pd, hg, fun σ' k _ _ => q σ' F' H' k⟩⟩⟩
end
end MV

set_option maxRecDepth 100000
set_option maxHeartbeats 4000000
namespace MV
open PySem PySem.Spec PyProof.Rows L2

/-! ### what is walked -/
/-- the walk J yields the data ds, as long as B is part of the heap; the items stand in Fi -/
def Items (K : PySem.W.Frag) (J : It) (B Fi : Hp) (ds : List D) : Prop := ∃ (G : Hp → Prop) (Y : Nat → Hp → V → Hp → Prop), Walk J ds.length G Y ∧ (∀ H1, Ex B H1 → G H1) ∧
  ∀ (i : Nat) d F1 H1 x H2, ds[i]? = some d → Ex Fi F1 → Ex F1 H1 → G H1 → Y i H1 x H2 → ∃ F2, Adv F1 H1 F2 H2 ∧ Dp K F2 x d
def tI (K : PySem.W.Frag) (F0 H0 : Hp) (m : Rho → Option (List D)) : TI := fun σ H R => ∃ ρ F ds, EnvOk K F0 H0 F H σ ρ ∧ m ρ = some ds ∧ ∀ J F' H', Adv F H F' H' → Items K J F' F' ds → R J H'
def tIH (K : PySem.W.Frag) (F0 H0 : Hp) (m : Rho → Option (List D)) : TI := fun σ H R => ∃ ρ F ds, EnvOk K F0 H0 F H σ ρ ∧ m ρ = some ds ∧ ∀ J F' H', Adv F H F' H' → Items K J H' F' ds → R J H'
structure MI (X : Cx) (tg iter : Expr) (m : Rho → Option (List D)) : Prop where
  ok : ∀ F0 H0, PI X tg iter (tI X.K F0 H0 m)
structure MIH (X : Cx) (tg iter : Expr) (m : Rho → Option (List D)) : Prop where
  ok : ∀ F0 H0, PI X tg iter (tIH X.K F0 H0 m)
theorem pi_weak {X : Cx} {tg iter : Expr} {t t' : TI} (h : PI X tg iter t) (w : ∀ σ H R, t' σ H R → t σ H R) : PI X tg iter t' := ⟨fun pins s σ H R I q => h.run pins s σ H R I (w σ H R q)⟩
theorem Items.h {K : PySem.W.Frag} {J : It} {F H : Hp} {ds : List D} (h : Items K J F F ds) (e : Ex F H) : Items K J H F ds := by
  obtain ⟨G, Y, w, g, i⟩ := h
  exact ⟨G, Y, w, fun H1 e1 => g H1 (e.trans e1), i⟩
theorem MI.h {X : Cx} {tg iter : Expr} {m : Rho → Option (List D)} (h : MI X tg iter m) : MIH X tg iter m := ⟨fun F0 H0 => pi_weak (h.ok F0 H0) fun σ H R ⟨ρ, F, ds, e1, e2, q⟩ => ⟨ρ, F, ds, e1, e2, fun J F' H' a i => q J F' H' a (i.h a.fh)⟩⟩

theorem items_list {K : PySem.W.Frag} {p : Addr} {vs : List V} {ds : List D} {B F : Hp} (hs : SqL K B p vs) (a : DpAll K F vs ds) : Items K (Itl K p) B F ds := by
  refine ⟨_, _, by rw [← dal_len a]; exact walk_list, fun H1 e => sql_ex e hs, fun i d F1 H1 x H2 hd e1 e2 g y => ?_⟩
  obtain ⟨rfl, hx⟩ := y
  obtain ⟨v, h1, h2⟩ := dal_get a hd
  rw [hx] at h1
  cases h1
  exact ⟨F1, Adv.refl e2, dp_ex e1 d _ h2⟩
theorem items_tup {K : PySem.W.Frag} {p : Addr} {vs : List V} {ds : List D} {B F : Hp} (hs : SqT K B p vs) (a : DpAll K F vs ds) : Items K (Itt K p) B F ds := by
  refine ⟨_, _, by rw [← dal_len a]; exact walk_tup, fun H1 e => sqt_ex e hs, fun i d F1 H1 x H2 hd e1 e2 g y => ?_⟩
  obtain ⟨rfl, hx⟩ := y
  obtain ⟨v, h1, h2⟩ := dal_get a hd
  rw [hx] at h1
  cases h1
  exact ⟨F1, Adv.refl e2, dp_ex e1 d _ h2⟩
/-- lo, lo + 1, .. -/
def rangeD (lo hi : Int) : List D := (List.range (hi - lo).toNat).map fun (i : Nat) => .int (lo + (i : Int))
theorem items_range {K : PySem.W.Frag} {lo hi : Int} {B F : Hp} : Items K (Itr lo (hi - lo).toNat) B F (rangeD lo hi) := by
  have hl : (rangeD lo hi).length = (hi - lo).toNat := by unfold rangeD; rw [List.length_map, List.length_range]
  refine ⟨_, _, by rw [hl]; exact walk_range, fun H1 e => trivial, fun i d F1 H1 x H2 hd e1 e2 g y => ?_⟩
  obtain ⟨rfl, rfl⟩ := y
  have hi' : i < (hi - lo).toNat := by
    have := (List.getElem?_eq_some_iff.mp hd).1
    omega
  unfold rangeD at hd
  rw [List.getElem?_map, List.getElem?_range hi'] at hd
  cases hd
  exact ⟨F1, Adv.refl e2, .int _⟩

/-- a list or a tuple, whichever stands there -/
def seqOf : D → Option (List D)
  | .list ds => some ds
  | .tuple ds => some ds
  | _ => none
def mSeqOf (m : Rho → Option D) : Rho → Option (List D) := fun ρ => (m ρ).bind seqOf
def iSeq (K : PySem.W.Frag) (tl : TE) : TI := fun σ H R => tl σ H fun x H1 => ∃ a, x = .ref a ∧ ((∃ xs, SqL K H1 a xs ∧ R (Itl K a) H1) ∨ ∃ xs, SqT K H1 a xs ∧ R (Itt K a) H1)
section
variable {X : Cx} {W : WX} {tg e : Expr} {es : List Expr} {m : Rho → Option D} {p pos : Pos}
theorem pi_seq {tl : TE} (hl : PE X e tl) : PI X tg e (iSeq X.K tl) := by
  refine ⟨fun pins s σ H R I h => ?_⟩
  refine thn (hl.run pins s σ H _ I h) fun v s1 ⟨x, H1, I1, r1, a, e1, q1⟩ => ?_
  subst e1
  cases r1
  have fresh : ∀ b, b ∈ [s1.heap.objs.size] → FpOk X pins H1 b := fun b hb => by
    have hb' : b = s1.heap.objs.size := by simpa using hb
    subst hb'
    exact I1.fpOk (Nat.le_refl _) (I1.hok.fresh (Nat.le_refl _))
  rcases q1 with ⟨xs, hq, q⟩ | ⟨xs, hq, q⟩
  · obtain ⟨its, rv, pl, hz⟩ := I1.list hq
    exact wpAny_pyIter_list pl.isList ⟨s1.heap.objs.size, _, _, _, H1, rfl, I1.kept (t' := s1.toks) fun b o q => Heap.get?_push_of_some _ q, turn_list a _, ⟨_, Heap.get?_push_size _ rfl, rfl, rfl⟩, fresh, q⟩
  · obtain ⟨its, rv, pl, hz⟩ := I1.tuple hq
    exact wpAny_pyIter_tuple (show s1.heap.IsTuple a its.toArray from pl) ⟨s1.heap.objs.size, _, _, _, H1, rfl, I1.kept (t' := s1.toks) fun b o q => Heap.get?_push_of_some _ q, turn_tuple a _, ⟨_, Heap.get?_push_size _ rfl, rfl, rfl⟩, fresh, q⟩
theorem seqOf_some {d : D} {ds : List D} (h : seqOf d = some ds) : d = .list ds ∨ d = .tuple ds := by
  unfold seqOf at h
  split at h
  · cases h; exact .inl rfl
  · cases h; exact .inr rfl
  · cases h
theorem mi_seq (he : ME X e m) : MI X tg e (mSeqOf m) := ⟨fun F0 H0 => pi_weak (pi_seq (he.ok F0 H0)) fun σ H R ⟨ρ, F, ds, e1, e2, q⟩ => by
  unfold mSeqOf at e2
  cases hx : m ρ with
  | none => rw [hx] at e2; cases e2
  | some d =>
    rw [hx] at e2
    replace e2 : seqOf d = some ds := e2
    refine ⟨ρ, F, d, e1, hx, fun v F' H' a pd => ?_⟩
    rcases seqOf_some e2 with rfl | rfl
    · cases pd with
      | lst hs ha => exact ⟨_, rfl, .inl ⟨_, sql_ex a.fh hs, q _ F' H' a (items_list hs ha)⟩⟩
    · cases pd with
      | tup hs ha => exact ⟨_, rfl, .inr ⟨_, sqt_ex a.fh hs, q _ F' H' a (items_tup hs ha)⟩⟩⟩
theorem mih_seq (he : MT X e m) : MIH X tg e (mSeqOf m) := ⟨fun F0 H0 => pi_weak (pi_seq (he.ok F0 H0)) fun σ H R ⟨ρ, F, ds, e1, e2, q⟩ => by
  unfold mSeqOf at e2
  cases hx : m ρ with
  | none => rw [hx] at e2; cases e2
  | some d =>
    rw [hx] at e2
    replace e2 : seqOf d = some ds := e2
    refine ⟨ρ, F, d, e1, hx, fun v F' H' a pd => ?_⟩
    rcases seqOf_some e2 with rfl | rfl
    · obtain ⟨p, vs, rfl, hs, ha⟩ := pd.list a.fh
      exact ⟨_, rfl, .inl ⟨_, hs, q _ F' H' a (items_list hs ha)⟩⟩
    · obtain ⟨p, vs, rfl, hs, ha⟩ := pd.tuple a.fh
      exact ⟨_, rfl, .inr ⟨_, hs, q _ F' H' a (items_tup hs ha)⟩⟩⟩
def rngOk (j : Int) : Bool := decide (j.natAbs < 2 ^ 60)
theorem rngOk_i {j : Int} (h0 : -(2 ^ 59) ≤ j) (h1 : j < 2 ^ 59) : rngOk j = true := decide_eq_true (by omega)
def rng1 : List D → Option (List D)
  | [.int j] => if rngOk j = true then some (rangeD 0 j) else none
  | _ => none
def rng2 : List D → Option (List D)
  | [.int i, .int j] => if rngOk i = true ∧ rngOk j = true then some (rangeD i j) else none
  | _ => none
theorem rng1_ok {j : Int} (h : rngOk j = true) : rng1 [.int j] = some (rangeD 0 j) := if_pos h
theorem rng2_ok {i j : Int} (h : rngOk i = true) (h2 : rngOk j = true) : rng2 [.int i, .int j] = some (rangeD i j) := if_pos ⟨h, h2⟩
def mL2 (g : List D → Option (List D)) (m : Rho → Option (List D)) : Rho → Option (List D) := fun ρ => (m ρ).bind g
theorem mi_range1 {a : Expr} {ma : Rho → Option (List D)} (hm : X.mg "range" = none) (ha : MAT X [a] ma) (hg : Gl X "range" := by rfl) (hs : starEach [a] X.env = [(false, eval a X.env)] := by rfl) : MI X tg (.Call (.Name "range" p) [a] [] pos) (mL2 rng1 ma) :=
  ⟨fun F0 H0 => pi_weak (pi_range1 hg hm (ha.ok F0 H0) hs) fun σ H R ⟨ρ, F, ds, e1, e2, q⟩ => by
    unfold mL2 at e2
    cases hx : ma ρ with
    | none => rw [hx] at e2; cases e2
    | some d =>
      rw [hx] at e2
      replace e2 : rng1 d = some ds := e2
      refine ⟨ρ, F, d, e1, hx, fun v F' H' a pd => ?_⟩
      unfold rng1 at e2
      split at e2
      · split at e2
        · cases e2
          rename_i j hj
          replace hj := of_decide_eq_true hj
          cases pd with
          | cons t1 t2 =>
            cases t2
            refine ⟨j, by rw [t1.int], by omega, by omega, q _ F' H' a ?_⟩
            have h := items_range (K := X.K) (lo := 0) (hi := j) (B := F') (F := F')
            rw [show j - 0 = j by omega] at h
            exact h
        · cases e2
      · cases e2⟩
theorem mi_range2 {a b : Expr} {ma : Rho → Option (List D)} (hm : X.mg "range" = none) (ha : MAT X [a, b] ma) (hg : Gl X "range" := by rfl) (hs : starEach [a, b] X.env = [(false, eval a X.env), (false, eval b X.env)] := by rfl) (hs2 : starEach [b] X.env = [(false, eval b X.env)] := by rfl) :
    MI X tg (.Call (.Name "range" p) [a, b] [] pos) (mL2 rng2 ma) :=
  ⟨fun F0 H0 => pi_weak (pi_range2 hg hm (ha.ok F0 H0) hs hs2) fun σ H R ⟨ρ, F, ds, e1, e2, q⟩ => by
    unfold mL2 at e2
    cases hx : ma ρ with
    | none => rw [hx] at e2; cases e2
    | some d =>
      rw [hx] at e2
      replace e2 : rng2 d = some ds := e2
      refine ⟨ρ, F, d, e1, hx, fun v F' H' a pd => ?_⟩
      unfold rng2 at e2
      split at e2
      · split at e2
        · cases e2
          rename_i i j hj
          have hi := of_decide_eq_true hj.1
          have hk := of_decide_eq_true hj.2
          cases pd with
          | cons t1 t2 =>
            cases t2 with
            | cons t2 t3 =>
              cases t3
              exact ⟨i, j, by rw [t1.int, t2.int], ⟨by omega, by omega, by omega, by omega⟩, q _ F' H' a items_range⟩
        · cases e2
      · cases e2⟩

/-! ### for -/
def loopD (mg : D → Rho → Option Rho) (mb : Rho → Option Res) : List D → Rho → Option Res
  | [], ρ => some (.nx ρ)
  | d :: ds, ρ => (mg d ρ).bind fun ρ1 => (mb ρ1).bind fun r => match r with
    | .nx ρ2 => loopD mg mb ds ρ2
    | .ct ρ2 => loopD mg mb ds ρ2
    | .bk ρ2 => some (.nx ρ2)
    | .rt d => some (.rt d)
    | .ex e ρ2 => some (.ex e ρ2)
def mFor (src : Rho → Option (List D)) (mg : D → Rho → Option Rho) (mb : Rho → Option Res) : Rho → Option Res := fun ρ => (src ρ).bind fun ds => loopD mg mb ds ρ
theorem EnvOk.rebase {K : PySem.W.Frag} {F0 H0 F1 F H : Hp} {σ : L2.St} {ρ : Rho} (e : EnvOk K F0 H0 F H σ ρ) (h1 : Ex F0 F1) (h2 : Ex F1 F) : EnvOk K F1 H0 F H σ ρ :=
  ⟨⟨h2, e.adv.2.1, e.adv.2.2⟩, fun p k1 k2 => e.new p (h1.none k1) k2, e.len, e.dat, e.own, e.dist⟩
theorem EnvOk.unbase {K : PySem.W.Frag} {F0 H0 F1 F H : Hp} {σ : L2.St} {ρ : Rho} (e : EnvOk K F1 H0 F H σ ρ) (h1 : Ex F0 F1) (hn : ∀ p, F0 p = none → H0 p ≠ none → F1 p = none) : EnvOk K F0 H0 F H σ ρ :=
  ⟨⟨h1.trans e.adv.1, e.adv.2.1, e.adv.2.2⟩, fun p k1 k2 => e.new p (hn p k1 k2) k2, e.len, e.dat, e.own, e.dist⟩
theorem ms_for {iter : Expr} {body : List Stmt} {src : Rho → Option (List D)} {ix : List Nat} {mg : D → Rho → Option Rho} {mb : Rho → Option Res} (hp : PassesOwn (model X.prog X.w) X.A X.env X.xe) (hc : X.calm = true)
    (hi : MI X tg iter src) (hg : MG X tg ix mg) (hb : MSs X W body mb) (hs : ∀ x, foldedSetIterable iter X.env x = pure x := by intro _; rfl) : MS X W (.For tg iter body [] pos) (mFor src mg mb) := by
  refine ⟨fun F0 H0 => ?_⟩
  -- the body is read over the frozen part as it stands when the walk begins; one reading serves every such part
  have body_any : PSs X body (fun Dn σ H => ∃ F1 : Hp, tS X F1 H0 W mb Dn σ H) := ⟨fun pins s σ H Dn I ⟨F1, h⟩ => (hb.ok F1 H0).run pins s σ H Dn I h⟩
  have targ_any : PG X tg (fun v σ H Q => ∃ F1 : Hp, tG X.K F1 H0 ix mg v σ H Q) := ⟨fun pins s σ H v u Q I r ⟨F1, h⟩ => (hg.ok F1 H0).run pins s σ H v u Q I r h⟩
  refine ps_weak (ps_for hp hc (hi.ok F0 H0) targ_any body_any hs) fun Dn σ H h => ?_
  obtain ⟨ρ, F, r, e1, e2, q⟩ := h
  unfold mFor at e2
  cases hx : src ρ with
  | none => rw [hx] at e2; cases e2
  | some ds =>
    rw [hx] at e2
    replace e2 : loopD mg mb ds ρ = some r := e2
    refine ⟨ρ, F, ds, e1, hx, fun J F' H' a it => ?_⟩
    have e1' := e1.go a
    obtain ⟨G, Y, w, hG, hY⟩ := it
    refine for_it (g := fun v σ H Q => ∃ F1 : Hp, tG X.K F1 H0 ix mg v σ H Q) (tb := fun Dn σ H => ∃ F1 : Hp, tS X F1 H0 W mb Dn σ H) (D := Dn) w (fun i σ H => ∃ ρi Fi, EnvOk X.K F' H0 Fi H σ ρi ∧ loopD mg mb (ds.drop i) ρi = some r) ⟨ρ, F', e1'.rebase e1'.adv.1 (Ex.refl _), by simpa using e2⟩ (fun i σ H _ ⟨ρi, Fi, k, _⟩ => hG H (k.adv.1.trans k.adv.2.2)) (fun i x σ H H2 hi ⟨ρi, Fi, k, kl⟩ y => ?_) (fun σ H ⟨ρi, Fi, k, kl⟩ => ?_)
    · have hd : ds[i]? = some ds[i] := List.getElem?_eq_getElem hi
      obtain ⟨F2, a2, pd⟩ := hY i ds[i] Fi H x H2 hd k.adv.1 k.adv.2.2 (hG H (k.adv.1.trans k.adv.2.2)) y
      rw [List.drop_eq_getElem_cons hi] at kl
      unfold loopD at kl
      cases hgm : mg ds[i] ρi with
      | none => rw [hgm] at kl; cases kl
      | some ρ1 =>
        rw [hgm] at kl
        cases hbm : mb ρ1 with
        | none => simp [hbm] at kl
        | some r1 =>
          have k2 := k.go a2
          refine ⟨F', ρi, F2, ds[i], ρ1, k2, pd, hgm, fun σ' k3 _ _ => ⟨F', ρ1, F2, r1, k3, hbm, ?_⟩⟩
          cases r1 with
          | nx ρ2 => exact fun σ4 F4 H4 k4 => ⟨ρ2, F4, k4, by simpa [hbm] using kl⟩
          | ct ρ2 => exact fun σ4 F4 H4 k4 => ⟨ρ2, F4, k4, by simpa [hbm] using kl⟩
          | bk ρ2 =>
            have kr : Res.nx ρ2 = r := by simpa [hbm] using kl
            subst kr
            exact fun σ4 F4 H4 k4 => q σ4 F4 H4 (k4.unbase e1'.adv.1 e1'.new)
          | rt d =>
            have kr : Res.rt d = r := by simpa [hbm] using kl
            subst kr
            exact fun v F4 H4 a4 pd4 => q v F4 H4 ⟨e1'.adv.1.trans a4.f, a4.h, a4.fh, fun p z1 z2 => a4.new p (e1'.new p z1 z2) z2⟩ pd4
          | ex e ρ2 =>
            have kr : Res.ex e ρ2 = r := by simpa [hbm] using kl
            subst kr
            exact fun σ4 F4 H4 cls d k4 x4 => q σ4 F4 H4 cls d (k4.unbase e1'.adv.1 e1'.new) x4
    · rw [List.drop_length] at kl
      unfold loopD at kl
      cases kl
      exact q σ Fi H (k.unbase e1'.adv.1 e1'.new)
end

/-! ### comprehensions -/
def compD (mg : D → Rho → Option Rho) (mt : Rho → Option Bool) (me : Rho → Option D) (ρ : Rho) : List D → Option (List D)
  | [] => some []
  | d :: ds => (mg d ρ).bind fun ρ1 => (mt ρ1).bind fun b => if b = true then (me ρ1).bind fun y => (compD mg mt me ρ ds).map (y :: ·) else compD mg mt me ρ ds
def mLc (src : Rho → Option (List D)) (mg : D → Rho → Option Rho) (mt : Rho → Option Bool) (me : Rho → Option D) (vs : List Nat) : Rho → Option (List D) := fun ρ => (src ρ).bind fun ds =>
  if ds.length < 100000 then compD mg mt me (wipeR ρ vs) ds else none
theorem wipe_get (σ : L2.St) (j : Nat) : ∀ vs : List Nat, (L2.wipe σ vs)[j]? = if j ∈ vs then (σ[j]?).map (fun _ => none) else σ[j]?
  | [] => by simp [L2.wipe]
  | v :: vs => by
    unfold L2.wipe
    by_cases hv : j = v
    · subst hv
      rw [if_pos (by simp)]
      by_cases hl : j < σ.length
      · rw [List.getElem?_set_self (by rw [L2.wipe_length]; exact hl), List.getElem?_eq_getElem hl]
        rfl
      · rw [List.getElem?_eq_none (by rw [List.length_set, L2.wipe_length]; omega), List.getElem?_eq_none (by omega)]
        rfl
    · rw [List.getElem?_set_ne (Ne.symm hv), wipe_get σ j vs]
      by_cases h : j ∈ vs
      · rw [if_pos h, if_pos (by simp [h])]
      · rw [if_neg h, if_neg (by simp [h, hv])]
theorem wipe_eq {σ σ' : L2.St} {vs ix : List Nat} (hl : σ'.length = (L2.wipe σ vs).length) (hx : ∀ i ∈ ix, i ∈ vs) (h : ∀ j, j ∉ ix → σ'[j]? = (L2.wipe σ vs)[j]?) : L2.wipe σ' vs = L2.wipe σ vs := by
  refine List.ext_getElem? fun j => ?_
  rw [wipe_get, wipe_get]
  rw [L2.wipe_length] at hl
  by_cases hj : j ∈ vs
  · rw [if_pos hj, if_pos hj]
    by_cases h1 : j < σ.length
    · rw [List.getElem?_eq_getElem h1, List.getElem?_eq_getElem (by omega)]
      rfl
    · rw [List.getElem?_eq_none (by omega), List.getElem?_eq_none (by omega)]
  · rw [if_neg hj, if_neg hj, h j (fun z => hj (hx j z)), wipe_get, if_neg hj]
/-- an untracked list, being filled, changes nothing of the rest -/
theorem Adv.fill {F H F' H' : Hp} (a : Adv F H F' H') {p : Addr} {o : HO} (h0 : H p = none) (h1 : F' p = none) : Adv F H F' (upd H' p o) :=
  ⟨a.f, fun x u h => by rw [upd_ne (ne_of_none h h0)]; exact a.h x u h, fun x u h => by rw [upd_ne (ne_of_none h h1)]; exact a.fh x u h, a.new⟩
structure MTs (X : Cx) (ifs : List Expr) (m : Rho → Option Bool) : Prop where
  ok : ∀ F0 H0, PTs X ifs (tB X.K F0 H0 m)
def mYes : Rho → Option Bool := fun _ => some true
theorem mts_nil {X : Cx} : MTs X [] mYes := ⟨fun F0 H0 => ⟨fun pins s σ H Q I ⟨ρ, F, b, e1, e2, q⟩ => by
  cases e2
  exact pts_nil.run pins s σ H Q I (q F H (Adv.refl e1.fh))⟩⟩
theorem mts_one {X : Cx} {c : Expr} {m : Rho → Option Bool} (h : MB X c m) : MTs X [c] m := ⟨fun F0 H0 => pts_one (h.ok F0 H0)⟩
section
variable {X : Cx} {W : WX} {elt tg iter : Expr} {ifs : List Expr} {scope : Scope} {own : List (Str × Nat)} {pos : Pos} {src : Rho → Option (List D)} {ix : List Nat} {mg : D → Rho → Option Rho} {mt : Rho → Option Bool} {me : Rho → Option D}
theorem lc_read {F0 H0 : Hp} {σ : L2.St} {H : Hp} {Q : VK} {vs : List Nat} (hx : ∀ i ∈ ix, i ∈ vs) (h : tO X.K F0 H0 (mLc src mg mt me vs) σ H Q) :
    tLc (tIH X.K F0 H0 src) (fun v σ H Q => tG X.K F0 H0 ix mg v σ H Q) (tB X.K F0 H0 mt) (tE X.K F0 H0 me) vs σ H Q := by
  obtain ⟨ρ, F, ys, e1, e2, q⟩ := h
  unfold mLc at e2
  cases hs : src ρ with
  | none => rw [hs] at e2; cases e2
  | some ds =>
    rw [hs] at e2
    replace e2 : (if ds.length < 100000 then compD mg mt me (wipeR ρ vs) ds else none) = some ys := e2
    split at e2
    · rename_i hz
      refine ⟨ρ, F, ds, e1, hs, fun J F1 H1 a1 it p hp => ?_⟩
      have g1 := e1.go a1
      obtain ⟨G, Y, w, hG, hY⟩ := it
      have hH : H p = none := a1.h.none hp
      refine lc_it w (fun i H2 => ∃ F2 acc zs rest, Adv F1 H1 F2 H2 ∧ H2 p = some (.lst acc) ∧ F2 p = none ∧ DpAll X.K F2 acc zs ∧ zs.length ≤ i ∧ compD mg mt me (wipeR ρ vs) (ds.drop i) = some rest ∧ zs ++ rest = ys)
        ⟨F1, [], [], ys, Adv.kept a1.fh (Ex.new hp), upd_same, a1.fh.none hp, .nil, Nat.zero_le _, by simpa using e2, rfl⟩ (fun i H2 _ ⟨F2, acc, zs, rest, a2, _⟩ => hG H2 a2.h) (fun i x H2 H3 hi ⟨F2, acc, zs, rest, a2, hD, hF, pa, hlen, hc, hy⟩ y => ?_) (fun H2 ⟨F2, acc, zs, rest, a2, hD, hF, pa, hlen, hc, hy⟩ => ?_)
      · have hd : ds[i]? = some ds[i] := List.getElem?_eq_getElem hi
        obtain ⟨F3, a3, pd⟩ := hY i ds[i] F2 H2 x H3 hd a2.f a2.fh (hG H2 a2.h) y
        have a13 := a2.trans a3
        have f3 : F3 p = none := a3.new p hF (by rw [hD]; exact fun z => nomatch z)
        have d3 : H3 p = some (.lst acc) := a3.h p _ hD
        rw [List.drop_eq_getElem_cons hi] at hc
        unfold compD at hc
        cases hgm : mg ds[i] (wipeR ρ vs) with
        | none => rw [hgm] at hc; cases hc
        | some ρ1 =>
          rw [hgm] at hc
          cases htm : mt ρ1 with
          | none => simp [htm] at hc
          | some b =>
            have g3 := (g1.go a13).wipe vs
            refine ⟨wipeR ρ vs, F3, ds[i], ρ1, g3, pd, hgm, fun σ4 g4 l4 c4 => ⟨wipe_eq l4 hx c4, ρ1, F3, b, g4, htm, fun F5 H5 a5 => ?_⟩⟩
            have f5 : F5 p = none := a5.new p f3 (by rw [d3]; exact fun z => nomatch z)
            have d5 : H5 p = some (.lst acc) := a5.h p _ d3
            cases b with
            | true =>
              cases hem : me ρ1 with
              | none => simp [htm, hem] at hc
              | some v =>
                cases hrm : compD mg mt me (wipeR ρ vs) (ds.drop (i + 1)) with
                | none => simp [htm, hem, hrm] at hc
                | some rest' =>
                  have hr : v :: rest' = rest := by simpa [htm, hem, hrm] using hc
                  subst hr
                  refine iteT ⟨ρ1, F5, v, g4.go a5, hem, fun u F6 H6 a6 pu => ?_⟩
                  have f6 : F6 p = none := a6.new p f5 (by rw [d5]; exact fun z => nomatch z)
                  have d6 : H6 p = some (.lst acc) := a6.h p _ d5
                  have l6 := dal_len pa
                  refine ⟨acc, d6, by rw [l6]; exact Nat.lt_of_le_of_lt hlen (Nat.lt_of_lt_of_le (Nat.lt_trans hi hz) (by decide)), F6, acc ++ [u], zs ++ [v], rest', ((a13.trans a5).trans a6).fill hp f6, upd_same, f6, ?_, by simp; omega, rfl, by rw [List.append_assoc]; exact hy⟩
                  exact dal_app (dpa_ex ((a3.f.trans a5.f).trans a6.f) _ _ pa) (.cons pu .nil)
            | false =>
              have hr : compD mg mt me (wipeR ρ vs) (ds.drop (i + 1)) = some rest := by simpa [htm] using hc
              exact iteF ⟨F5, acc, zs, rest, a13.trans a5, d5, f5, dpa_ex (a3.f.trans a5.f) _ _ pa, by omega, hr, hy⟩
      · rw [List.drop_length] at hc
        unfold compD at hc
        cases hc
        rw [List.append_nil] at hy
        subst hy
        exact q p acc F2 H2 (a1.trans a2) hH hF hD pa
    · cases e2
theorem mo_lc (hc : X.calm = true) (hN : X.N.Nodup) (hi : MIH X tg iter src) (ok : BlkOk X.N X.env.scope scope own)
    (hg : ∀ (s : Shared) (H : Hp) (C : Addr) (cl : List (Str × Addr)) (fp : List Addr), MG (X.blk s H scope (compEnvC scope cl C X.env) fp) tg ix mg)
    (ht : ∀ (s : Shared) (H : Hp) (C : Addr) (cl : List (Str × Addr)) (fp : List Addr), MTs (X.blk s H scope (compEnvC scope cl C X.env) fp) ifs mt)
    (he : ∀ (s : Shared) (H : Hp) (C : Addr) (cl : List (Str × Addr)) (fp : List Addr), ME (X.blk s H scope (compEnvC scope cl C X.env) fp) elt me)
    (hx : ∀ i ∈ ix, i ∈ own.map (·.2) := by decide) (hs : ∀ x, foldedSetIterable iter X.env x = pure x := by intro _; rfl) :
    MO X (.ListComp elt [⟨tg, iter, ifs, 0⟩] scope pos) (mLc src mg mt me (own.map (·.2))) :=
  ⟨fun F0 H0 => pe_weak (pe_lc hc hN (hi.ok F0 H0) ok (fun s H C cl fp => (hg s H C cl fp).ok F0 H0) (fun s H C cl fp => (ht s H C cl fp).ok F0 H0) (fun s H C cl fp => (he s H C cl fp).ok F0 H0) hs) fun σ H Q h => lc_read hx h⟩
/-- name = [..] on one line -/
theorem ms_setLc {i : Nat} {y : Str} {py spos : Pos} (hc : X.calm = true) (hN : X.N.Nodup) (hi : MIH X tg iter src) (ok : BlkOk X.N X.env.scope scope own)
    (hg : ∀ (s : Shared) (H : Hp) (C : Addr) (cl : List (Str × Addr)) (fp : List Addr), MG (X.blk s H scope (compEnvC scope cl C X.env) fp) tg ix mg)
    (ht : ∀ (s : Shared) (H : Hp) (C : Addr) (cl : List (Str × Addr)) (fp : List Addr), MTs (X.blk s H scope (compEnvC scope cl C X.env) fp) ifs mt)
    (he : ∀ (s : Shared) (H : Hp) (C : Addr) (cl : List (Str × Addr)) (fp : List Addr), ME (X.blk s H scope (compEnvC scope cl C X.env) fp) elt me)
    (hsw : swapsWith (.ListComp elt [⟨tg, iter, ifs, 0⟩] scope pos) (some (.Name y py)) spos.line X.env = pure true) (hyl : X.env.scope.names.lookup y = some .local := by rfl) (hy : X.N[i]? = some y := by rfl)
    (hx : ∀ i ∈ ix, i ∈ own.map (·.2) := by decide) (hs : ∀ x, foldedSetIterable iter X.env x = pure x := by intro _; rfl) :
    MS X W (.Assign [.Name y py] (.ListComp elt [⟨tg, iter, ifs, 0⟩] scope pos) spos) (mSet i (mL (mLc src mg mt me (own.map (·.2))))) :=
  ⟨fun F0 H0 => ps_weak (ps_setLc hc hN hy hyl hsw (hi.ok F0 H0) ok (fun s H C cl fp => (hg s H C cl fp).ok F0 H0) (fun s H C cl fp => (ht s H C cl fp).ok F0 H0) (fun s H C cl fp => (he s H C cl fp).ok F0 H0) hs) fun Dn σ H h => by
    obtain ⟨ρ, F, r, e1, e2, q⟩ := h
    unfold mSet mL at e2
    cases hm : mLc src mg mt me (own.map (·.2)) ρ with
    | none => rw [hm] at e2; cases e2
    | some ds =>
      rw [hm] at e2
      cases e2
      refine lc_read (X := X) (Q := fun x H1 => gName i x σ H1 Dn.nx) hx ⟨ρ, F, ds, e1, hm, fun p vs F' H' a h0 h1 h2 h3 => ?_⟩
      have a' := a.freeze h0 h1 h2
      exact q _ _ H' ((e1.go a').setD (.lst (SqL.of upd_same) (dpa_ex (Ex.new h1) ds vs h3)))⟩
/-- the same, the list an own one -/
theorem ms_setLcO {i : Nat} {y : Str} {py spos : Pos} (hc : X.calm = true) (hN : X.N.Nodup) (hi : MIH X tg iter src) (ok : BlkOk X.N X.env.scope scope own)
    (hg : ∀ (s : Shared) (H : Hp) (C : Addr) (cl : List (Str × Addr)) (fp : List Addr), MG (X.blk s H scope (compEnvC scope cl C X.env) fp) tg ix mg)
    (ht : ∀ (s : Shared) (H : Hp) (C : Addr) (cl : List (Str × Addr)) (fp : List Addr), MTs (X.blk s H scope (compEnvC scope cl C X.env) fp) ifs mt)
    (he : ∀ (s : Shared) (H : Hp) (C : Addr) (cl : List (Str × Addr)) (fp : List Addr), ME (X.blk s H scope (compEnvC scope cl C X.env) fp) elt me)
    (hsw : swapsWith (.ListComp elt [⟨tg, iter, ifs, 0⟩] scope pos) (some (.Name y py)) spos.line X.env = pure true) (hyl : X.env.scope.names.lookup y = some .local := by rfl) (hy : X.N[i]? = some y := by rfl)
    (hx : ∀ i ∈ ix, i ∈ own.map (·.2) := by decide) (hs : ∀ x, foldedSetIterable iter X.env x = pure x := by intro _; rfl) :
    MS X W (.Assign [.Name y py] (.ListComp elt [⟨tg, iter, ifs, 0⟩] scope pos) spos) (mSetO i (mLc src mg mt me (own.map (·.2)))) :=
  ⟨fun F0 H0 => ps_weak (ps_setLc hc hN hy hyl hsw (hi.ok F0 H0) ok (fun s H C cl fp => (hg s H C cl fp).ok F0 H0) (fun s H C cl fp => (ht s H C cl fp).ok F0 H0) (fun s H C cl fp => (he s H C cl fp).ok F0 H0) hs) fun Dn σ H h => by
    obtain ⟨ρ, F, r, e1, e2, q⟩ := h
    unfold mSetO at e2
    cases hm : mLc src mg mt me (own.map (·.2)) ρ with
    | none => rw [hm] at e2; cases e2
    | some ds =>
      rw [hm] at e2
      cases e2
      refine lc_read (X := X) (Q := fun x H1 => gName i x σ H1 Dn.nx) hx ⟨ρ, F, ds, e1, hm, fun p vs F' H' a h0 h1 h2 h3 => ?_⟩
      exact q _ F' H' ((e1.go a).setO (e1.adv.2.1.none h0) h1 h2 h3 (e1.fresh h0))⟩
end
end MV

set_option maxRecDepth 100000
set_option maxHeartbeats 4000000
namespace MV
open PySem PySem.Spec PyProof.Rows L2

/-! ### what a def is worth: a function over data -/
def spM (K : PySem.W.Frag) (m : List D → Option D) (vs : List V) (H : Hp) (Q : VK) : Prop := ∃ F ds d, Ex F H ∧ DpAll K F vs ds ∧ m ds = some d ∧ ∀ v F' H', Adv F H F' H' → Dp K F' v d → Q v H'
structure FnG (P : Program) (w : World) (K : PySem.W.Frag) (mg : Str → Option Value) (base : Heap) (k : Nat) (f : Addr) (fd : FuncData) (ps : List Str) (m : List D → Option D) : Prop where
  len : ∀ ds d, m ds = some d → ds.length = ps.length
  run : ∀ (A : Around) (outer : List Env) (s : Shared) (H : Hp) (args : Args) (us : List Value) (vs : List V) (Q : VK), A.guards = some [] → Room k A → Env0 P w K mg base A outer s H →
    BindsTo s fd args (ps.zip us) → Vals vs us → spM K m vs H Q → codeAny (model P w) A (.call (.ref f) args) (CR CX0 outer P w H s Q E0) s
theorem FnG.mono {P : Program} {w : World} {K : PySem.W.Frag} {mg : Str → Option Value} {base : Heap} {j k : Nat} {f : Addr} {fd : FuncData} {ps : List Str} {m : List D → Option D} (F : FnG P w K mg base j f fd ps m) (h : j ≤ k) : FnG P w K mg base k f fd ps m :=
  ⟨F.len, fun A outer s H args us vs Q hg hr => F.run A outer s H args us vs Q hg (hr.mono h)⟩
/-- the same def by another function that is worth as much where it is asked -/
theorem FnG.imp {P : Program} {w : World} {K : PySem.W.Frag} {mg : Str → Option Value} {base : Heap} {k : Nat} {f : Addr} {fd : FuncData} {ps : List Str} {m m' : List D → Option D} (F : FnG P w K mg base k f fd ps m) (h : ∀ ds d, m' ds = some d → m ds = some d) : FnG P w K mg base k f fd ps m' :=
  ⟨fun ds d e => F.len ds d (h ds d e), fun A outer s H args us vs Q hg hr e0 hb r ⟨Fz, ds, d, e, pa, hm, q⟩ => F.run A outer s H args us vs Q hg hr e0 hb r ⟨Fz, ds, d, e, pa, h ds d hm, q⟩⟩
section
variable {X : Cx} {k : Nat} {f : Addr} {fd : FuncData} {ps : List Str} {mf : List D → Option D} {dvs : List V} {dus : List Value} {dds : List D} {x : Str} {p pos : Pos} {e : Expr} {es : List Expr} {ma : Rho → Option (List D)}
def tCallG (K : PySem.W.Frag) (mf : List D → Option D) (dvs : List V) (t : TA) : TE := fun σ H Q => t σ H fun vs H1 => spM K mf (vs ++ dvs) H1 Q
theorem run_fnG {pins : List (Addr × Obj)} {σ : L2.St} {H : Hp} {s : Shared} {Q : VK} {us : List Value} {vs : List V} (G : FnG X.prog X.w X.K X.mg X.base k f fd ps mf) (hG : X.A.guards = some []) (hr : Room k X.A) (hb : Binds X.K fd ps dus) (hd : Vals dvs dus)
    (I : L2.Inv X pins σ H s) (r : Vals vs us) (h : spM X.K mf (vs ++ dvs) H Q) : wpAny (model X.prog X.w) X.A (call (.ref f) us) (EP X pins σ Q) X.xe s := by
  have r2 := r.append hd
  have hl : (us ++ dus).length = ps.length := by
    obtain ⟨F, ds, d, _, pa, hm, _⟩ := h
    have l1 := G.len ds d hm
    have l2 := dal_len pa
    rw [← r2.length]
    omega
  have go := G.run X.A X.stack s H ⟨us, []⟩ (us ++ dus) (vs ++ dvs) Q hG hr I.env0 (hb s us I.kIn hl) r2 h
  refine wpAny_call (codeAny_mono go fun res s' hq => ?_)
  match res, hq with
  | .error e, hq => exact False.elim hq
  | .ok (.ret u), hq => exact I.after hq
  | .ok .next, hq => exact False.elim hq
  | .ok .brk, hq => exact False.elim hq
  | .ok .cont, hq => exact False.elim hq
theorem pe_callG {t : TA} (G : FnG X.prog X.w X.K X.mg X.base k f fd ps mf) (hG : X.A.guards = some []) (hr : Room k X.A) (hg : Gl X x) (hm : X.mg x = some (.ref f)) (hk : PySem.W.keepIn X.K (.ref f) = true) (hb : Binds X.K fd ps dus) (hd : Vals dvs dus)
    (ha : PA X (e :: es) t) (hdb : (x == ("__debug__" : Str)) = false := by decide) (he : starEach (e :: es) X.env = (false, eval e X.env) :: starEach es X.env := by rfl) (hpl : (backTo pos (starEach es X.env)).any (·.1) = false := by rfl) :
    PE X (.Call (.Name x p) (e :: es) [] pos) (tCallG X.K mf dvs t) := ⟨fun pins s σ H Q I h => by
  have args := thn (ha.run pos pins s σ H _ I h) fun us s1 ⟨vs, H1, I1, r, q⟩ => (⟨I1.kIn, run_fnG G hG hr hb hd I1 r q⟩ : X.K.In s1.heap ∧ wpAny (model X.prog X.w) X.A (call (.ref f) us) (EP X pins σ Q) X.xe s1)
  exact wpAny_Call_Name_kw (ld_glob I hg hm (PySem.W.callWith_K (h₀ := X.base) I.ok.mod.kin hk args he hpl) hdb)⟩
def mCall (mf : List D → Option D) (dds : List D) (ma : Rho → Option (List D)) : Rho → Option D := fun ρ => (ma ρ).bind fun ds => mf (ds ++ dds)
theorem me_call (G : FnG X.prog X.w X.K X.mg X.base k f fd ps mf) (hG : X.A.guards = some []) (hr : Room k X.A) (hm : X.mg x = some (.ref f)) (hk : PySem.W.keepIn X.K (.ref f) = true) (hb : Binds X.K fd ps dus) (hd : Vals dvs dus) (hdd : ∀ F : Hp, DpAll X.K F dvs dds)
    (ha : MAE X (e :: es) ma) (hg : Gl X x := by rfl) (hdb : (x == ("__debug__" : Str)) = false := by decide) (he : starEach (e :: es) X.env = (false, eval e X.env) :: starEach es X.env := by rfl) (hpl : (backTo pos (starEach es X.env)).any (·.1) = false := by rfl) :
    ME X (.Call (.Name x p) (e :: es) [] pos) (mCall mf dds ma) :=
  ⟨fun F0 H0 => pe_weak (pe_callG G hG hr hg hm hk hb hd (ha.ok F0 H0) hdb he hpl) fun σ H Q ⟨ρ, F, d, e1, e2, q⟩ => by
    unfold mCall at e2
    cases hx : ma ρ with
    | none => rw [hx] at e2; cases e2
    | some ds =>
      rw [hx] at e2
      exact ⟨ρ, F, ds, e1, hx, fun vs F1 H1 a1 pa => ⟨F1, ds ++ dds, d, a1.fh, dal_app pa (hdd F1), e2, fun v F2 H2 a2 pd => q v F2 H2 (a1.trans a2) pd⟩⟩⟩
theorem me_call0 (G : FnG X.prog X.w X.K X.mg X.base k f fd ps mf) (hG : X.A.guards = some []) (hr : Room k X.A) (hm : X.mg x = some (.ref f)) (hk : PySem.W.keepIn X.K (.ref f) = true) (hb : Binds X.K fd ps dus) (hd : Vals dvs dus) (hdd : ∀ F : Hp, DpAll X.K F dvs dds)
    (hg : Gl X x := by rfl) (hdb : (x == ("__debug__" : Str)) = false := by decide) : ME X (.Call (.Name x p) [] [] pos) (mCall mf dds mNil) :=
  ⟨fun F0 H0 => ⟨fun pins s σ H Q I ⟨ρ, F, d, e1, e2, q⟩ => by
    have run := run_fnG (us := []) (vs := []) (Q := Q) G hG hr hb hd I .nil ⟨F, dds, d, e1.fh, hdd F, e2, fun v F2 H2 a2 pd => q v F2 H2 a2 pd⟩
    exact wpAny_Call_Name_kw (ld_glob I hg hm (PySem.W.callWith_K0 I.kIn hk run) hdb)⟩⟩
end

/-- a def by its body's function -/
def runDef (n j : Nat) (body : Rho → Option Res) : List D → Option D := fun ds => if ds.length = n then (body (ds.map Cell.dat ++ List.replicate j Cell.un)).bind fun r => match r with
  | .rt d => some d
  | .nx _ => some .none
  | _ => none else none
theorem env_start {K : PySem.W.Frag} {F H : Hp} {N : List Str} {vs : List V} {ds : List D} (e : Ex F H) (pa : DpAll K F vs ds) (hl : vs.length ≤ N.length) : EnvOk K F H F H (start N vs) (ds.map Cell.dat ++ List.replicate (N.length - vs.length) Cell.un) := by
  have l := dal_len pa
  have cell : ∀ (i : Nat) c, (ds.map Cell.dat ++ List.replicate (N.length - vs.length) Cell.un)[i]? = some c → c = .un ∨ ∃ d, ds[i]? = some d ∧ c = .dat d := fun i c h => by
    by_cases hi : i < ds.length
    · rw [List.getElem?_append_left (by simpa using hi), List.getElem?_map, List.getElem?_eq_getElem hi] at h
      cases h
      exact .inr ⟨_, List.getElem?_eq_getElem hi, rfl⟩
    · rw [List.getElem?_append_right (by simpa using hi), List.getElem?_replicate] at h
      split at h
      · cases h; exact .inl rfl
      · cases h
  refine ⟨⟨Ex.refl _, Ex.refl _, e⟩, fun _ h _ => h, ?_, fun i d hi => ?_, fun i ys hi => ?_, fun i j ys zs p hi _ _ _ => ?_⟩
  · unfold L2.start
    simp [l]
  · rcases cell i _ hi with h | ⟨d', h, h2⟩
    · cases h
    · cases h2
      obtain ⟨v, h3, h4⟩ := dal_get pa h
      refine ⟨v, ?_, h4⟩
      unfold L2.start
      have hv := (List.getElem?_eq_some_iff.mp h3).1
      rw [List.getElem?_append_left (by simpa using hv), List.getElem?_map, h3]
      rfl
  · rcases cell i _ hi with h | ⟨d', h, h2⟩
    · cases h
    · cases h2
  · rcases cell i _ hi with h | ⟨d', h, h2⟩
    · cases h
    · cases h2
section
variable {P : Program} {w : World} {K : PySem.W.Frag} {mg : Str → Option Value} {base : Heap}
theorem fn_def {x qual : Str} {st : Stmt} {f : Addr} {fd : FuncData} {N ps : List Str} {k : Nat} {body : Rho → Option Res} {dvs : List V} {kws : List (Str × V)} (D0 : FunD K x qual (defArgs st) (defBody st) (defScope st) dvs kws f fd) (S : FnScope N ps (defScope st))
    (hbody : ∀ (cdv : Value) (A : Around) (outer : List Env) (s : Shared) (H : Hp), (A.deeper (envOfC qual (defScope st) s.heap.objs.size f cdv)).guards = some [] → Room k (A.deeper (envOfC qual (defScope st) s.heap.objs.size f cdv)) →
      MSs (cxOf CX0 P w K mg base N qual (defScope st) f cdv A outer s H E0).nox noW (defBody st) body) : FnG P w K mg base (k + 1) f fd ps (runDef ps.length (N.length - ps.length) body) := by
  obtain ⟨oc, od, dV, kV, doc, pm, an, cdv, ct, osl, rfl, lk, hcd, _, _⟩ := D0.ex
  have len : ∀ ds d, runDef ps.length (N.length - ps.length) body ds = some d → ds.length = ps.length := fun ds d h => by
    unfold runDef at h
    split at h
    · assumption
    · cases h
  refine ⟨len, fun A outer s H args us vs Q hG hr e0 hb r h => ?_⟩
  obtain ⟨F, ds, d, ex, pa, hm, q⟩ := h
  have hl := len ds d hm
  have hv := dal_len pa
  have base_kept : ∀ b o, base.get? b = some o → s.heap.get? b = some o := fun b o z => (e0.bs b o z).1
  have KX : K.In s.heap := e0.mod.kin.keeps base_kept
  have hkind : ∀ y ∈ ps.zip us, (defScope st).names.lookup y.1 = some .local ∨ ((defScope st).names.lookup y.1 = some .cell ∧ ((cellsFrom (s.heap.objs.size + 1) (defScope st).names []).lookup y.1).isSome = true) := fun y hy =>
    (S.par y.1 (List.of_mem_zip (a := y.1) (b := y.2) hy).1).imp id fun c => ⟨c, PySem.W.cellsFrom_some _ _ _ (.inl c)⟩
  refine codeAny_call_function hr.depth (KX _ _ lk) rfl S.co S.gen rfl (PySem.W.codeRec_of KX hcd) (hb _ _ _ _ (wpAny_newFunctionEnv_cells S.kind hkind fun env he s1 z => ?_))
  subst he
  refine ⟨(e0.mod.nolimit.keeps base_kept).keeps z.toInCall.keep, codeAny_func ?_⟩
  have ht := ((hbody cdv A outer s H hG (hr.deeper _)).ok F H).nox
  have I : L2.Inv (cxOf CX0 P w K mg base N qual (defScope st) f cdv A outer s H E0) [] (start N vs) H s1 := inv_start S hr.hd e0 (hv.trans hl) r z
  have hpl : ps.length ≤ N.length := by
    have h1 := congrArg List.length S.pre
    rw [List.length_take] at h1
    omega
  have start_ok := env_start (N := N) ex pa (by omega)
  rw [show N.length - vs.length = N.length - ps.length by omega] at start_ok
  unfold runDef at hm
  rw [if_pos hl] at hm
  cases hbd : body (ds.map Cell.dat ++ List.replicate (N.length - ps.length) Cell.un) with
  | none => rw [hbd] at hm; cases hm
  | some res =>
    rw [hbd] at hm
    have goal : tS (cxOf CX0 P w K mg base N qual (defScope st) f cdv A outer s H E0).nox F H noW body { nx := fun _ H' => Q .non H', rt := Q } (start N vs) H := by
      refine ⟨_, F, res, start_ok, hbd, ?_⟩
      cases res with
      | rt d' =>
        cases hm
        exact q
      | nx ρ' =>
        cases hm
        exact fun σ' F' H' e' => q .non F' H' e'.toAdv .non
      | bk ρ' => cases hm
      | ct ρ' => cases hm
      | ex e ρ' => cases hm
    refine wpAny_mono (ht.run [] s1 (start N vs) H _ I goal) (fun fl s' hs => ?_) fun _ _ z => z
    match fl, hs with
    | .ret u, ⟨v, σ', H', J, rv, z⟩ => exact ⟨v, H', J.os, J.bare, J.base, J.hok, rv, z⟩
    | .next, ⟨σ', H', J, z⟩ => exact ⟨V.non, H', J.os, J.bare, J.base, J.hok, rfl, z⟩
    | .brk, ⟨_, _, _, z⟩ => exact False.elim z
    | .cont, ⟨_, _, _, z⟩ => exact False.elim z
end

/-! ### built-in functions -/
section
variable {X : Cx} {x : Str} {p pos : Pos} {e : Expr} {es : List Expr} {ma : Rho → Option (List D)} {id T : String} {g : List D → Option D}
def mFn (g : List D → Option D) (ma : Rho → Option (List D)) : Rho → Option D := fun ρ => (ma ρ).bind g
theorem fn_read {F0 H0 : Hp} {σ : L2.St} {H : Hp} {Q : VK} (h : tE X.K F0 H0 (mFn g ma) σ H Q) : tCB (cD X.K g) (tAT X.K F0 H0 ma) σ H Q := by
  obtain ⟨ρ, F, d, e1, e2, q⟩ := h
  unfold mFn at e2
  cases hx : ma ρ with
  | none => rw [hx] at e2; cases e2
  | some ds =>
    rw [hx] at e2
    exact ⟨ρ, F, ds, e1, hx, fun vs F1 H1 a1 ta => ⟨F1, ds, d, a1.fh, ta, e2, fun v F2 H2 a2 pd => q v F2 H2 (a1.trans a2) pd⟩⟩
theorem me_fnB (hc : FnD X (.builtin id) g) (hm : X.mg x = none) (ha : MAT X (e :: es) ma) (hv : bootBuiltins x = some (.builtin id) := by decide +kernel) (hg : Gl X x := by rfl) (hn : x ≠ "__name__" := by decide) (hdb : (x == ("__debug__" : Str)) = false := by decide)
    (he : starEach (e :: es) X.env = (false, eval e X.env) :: starEach es X.env := by rfl) (hpl : (backTo pos (starEach es X.env)).any (·.1) = false := by rfl) : ME X (.Call (.Name x p) (e :: es) [] pos) (mFn g ma) :=
  ⟨fun F0 H0 => pe_weak (pe_callB hc.ok hg hm hv (ha.ok F0 H0) hn hdb he hpl) fun _ _ _ h => fn_read h⟩
theorem me_fnT (hc : FnD X (.type T) g) (hm : X.mg x = none) (ha : MAT X (e :: es) ma) (hv : bootBuiltins x = some (.type T) := by decide +kernel) (hg : Gl X x := by rfl) (hn : x ≠ "__name__" := by decide) (hdb : (x == ("__debug__" : Str)) = false := by decide)
    (he : starEach (e :: es) X.env = (false, eval e X.env) :: starEach es X.env := by rfl) (hpl : (backTo pos (starEach es X.env)).any (·.1) = false := by rfl) : ME X (.Call (.Name x p) (e :: es) [] pos) (mFn g ma) :=
  ⟨fun F0 H0 => pe_weak (pe_callTy hc.ok hg hm hv (ha.ok F0 H0) hn hdb he hpl) fun _ _ _ h => fn_read h⟩
/-- a built-in function that the module has by import -/
theorem me_fnM (hc : FnD X (.builtin id) g) (hm : X.mg x = some (.builtin id)) (ha : MAT X (e :: es) ma) (hg : Gl X x := by rfl) (hdb : (x == ("__debug__" : Str)) = false := by decide)
    (he : starEach (e :: es) X.env = (false, eval e X.env) :: starEach es X.env := by rfl) (hpl : (backTo pos (starEach es X.env)).any (·.1) = false := by rfl) : ME X (.Call (.Name x p) (e :: es) [] pos) (mFn g ma) :=
  ⟨fun F0 H0 => pe_weak (pe_callBfun hc.ok hg hm (ha.ok F0 H0) hdb he hpl) fun _ _ _ h => fn_read h⟩

def fLen : List D → Option D
  | [.list ds] => some (.int ds.length)
  | [.tuple ds] => some (.int ds.length)
  | [.str z] => if z.length ≤ 100000 then some (.int z.length) else none
  | _ => none
theorem tp1 {K : PySem.W.Frag} {F H : Hp} {vs : List V} {d : D} (t : TpAll K F H vs [d]) : ∃ v, vs = [v] ∧ Tp K F H v d := by
  cases t with
  | cons t1 t2 =>
    cases t2
    exact ⟨_, rfl, t1⟩
theorem tp2 {K : PySem.W.Frag} {F H : Hp} {vs : List V} {d d' : D} (t : TpAll K F H vs [d, d']) : ∃ v v', vs = [v, v'] ∧ Tp K F H v d ∧ Tp K F H v' d' := by
  cases t with
  | cons t1 t2 =>
    cases t2 with
    | cons t2 t3 =>
      cases t3
      exact ⟨_, _, rfl, t1, t2⟩
theorem fd_len : FnD X (.builtin "len") fLen := ⟨fun pins s σ H xs us Q I r h => by
  obtain ⟨F, ds, d, e, ta, hg, q⟩ := h
  unfold fLen at hg
  split at hg
  · cases hg
    obtain ⟨v, rfl, t⟩ := tp1 ta
    obtain ⟨p, vs, rfl, hs, pa⟩ := t.list e
    exact call_len_seq pins s σ H _ us Q I r ⟨p, vs, rfl, .inl hs, by rw [dal_len pa]; exact q _ F H (Adv.refl e) (.int _)⟩
  · cases hg
    obtain ⟨v, rfl, t⟩ := tp1 ta
    obtain ⟨p, vs, rfl, hs, pa⟩ := t.tuple e
    exact call_len_seq pins s σ H _ us Q I r ⟨p, vs, rfl, .inr hs, by rw [dal_len pa]; exact q _ F H (Adv.refl e) (.int _)⟩
  · split at hg
    · cases hg
      rename_i hz
      obtain ⟨v, rfl, t⟩ := tp1 ta
      exact call_len_str pins s σ H _ us Q I r ⟨_, by rw [t.str], sz_of hz, q _ F H (Adv.refl e) (.int _)⟩
    · cases hg
  · cases hg⟩
def fAbs : List D → Option D
  | [.int i] => some (.int (if i < 0 then -i else i))
  | _ => none
theorem fd_abs : FnD X (.builtin "abs") fAbs := ⟨fun pins s σ H xs us Q I r h => by
  obtain ⟨F, ds, d, e, ta, hg, q⟩ := h
  unfold fAbs at hg
  split at hg
  · cases hg
    obtain ⟨v, rfl, t⟩ := tp1 ta
    exact call_abs pins s σ H _ us Q I r ⟨_, by rw [t.int], q _ F H (Adv.refl e) (.int _)⟩
  · cases hg⟩
def fInt : List D → Option D
  | [.int i] => some (.int i)
  | [.bool b] => some (.int (if b then 1 else 0))
  | _ => none
theorem fd_int : FnD X (.type "int") fInt := ⟨fun pins s σ H xs us Q I r h => by
  obtain ⟨F, ds, d, e, ta, hg, q⟩ := h
  unfold fInt at hg
  split at hg
  · cases hg
    obtain ⟨v, rfl, t⟩ := tp1 ta
    exact call_int1 pins s σ H _ us Q I r (.inl ⟨_, by rw [t.int], q _ F H (Adv.refl e) (.int _)⟩)
  · cases hg
    obtain ⟨v, rfl, t⟩ := tp1 ta
    exact call_int1 pins s σ H _ us Q I r (.inr ⟨_, by rw [t.bool], q _ F H (Adv.refl e) (.int _)⟩)
  · cases hg⟩
def fGcd : List D → Option D
  | [.int i, .int j] => some (.int ((Nat.gcd i.natAbs j.natAbs : Nat) : Int))
  | _ => none
theorem fd_gcd : FnD X (.builtin "math.gcd") fGcd := ⟨fun pins s σ H xs us Q I r h => by
  obtain ⟨F, ds, d, e, ta, hg, q⟩ := h
  unfold fGcd at hg
  split at hg
  · cases hg
    obtain ⟨v, v', rfl, t, t'⟩ := tp2 ta
    exact cr_gcd pins s σ H _ us Q I r ⟨_, _, by rw [t.int, t'.int], q _ F H (Adv.refl e) (.int _)⟩
  · cases hg⟩
def lcmOk (i j : Int) : Bool := decide (i.natAbs.log2 < 6000 ∧ j.natAbs.log2 < 6000)
theorem lcmOk_n {i j : Int} (ha : i.natAbs < 2 ^ 6000) (hb : j.natAbs < 2 ^ 6000) : lcmOk i j = true := decide_eq_true ⟨log2_lt' (by decide) ha, log2_lt' (by decide) hb⟩
def fLcm : List D → Option D
  | [.int i, .int j] => if lcmOk i j = true then some (.int ((Nat.lcm i.natAbs j.natAbs : Nat) : Int)) else none
  | _ => none
theorem fLcm_ok {i j : Int} (h : lcmOk i j = true) : fLcm [.int i, .int j] = some (.int ((Nat.lcm i.natAbs j.natAbs : Nat) : Int)) := if_pos h
theorem log2_le_self' {n m : Nat} (h : n ≤ m) : n.log2 ≤ m.log2 := by
  by_cases h0 : n = 0
  · subst h0; rw [Nat.log2_zero]; exact Nat.zero_le _
  · rw [Nat.le_log2 (by omega)]
    exact Nat.le_trans (Nat.log2_self_le h0) h
theorem log2_max (a b : Nat) : (max a b).log2 ≤ max a.log2 b.log2 := by
  rcases Nat.le_total a b with h | h
  · rw [Nat.max_eq_right h]; exact Nat.le_max_right _ _
  · rw [Nat.max_eq_left h]; exact Nat.le_max_left _ _
theorem lcm_log {a b n : Nat} (ha : a.log2 < n) (hb : b.log2 < n) : (Nat.lcm a b).log2 < 2 * n := by
  have h1 : a < 2 ^ n := (by
    by_cases h0 : a = 0
    · subst h0; exact Nat.two_pow_pos n
    · exact (Nat.log2_lt h0).mp ha)
  have h2 : b < 2 ^ n := (by
    by_cases h0 : b = 0
    · subst h0; exact Nat.two_pow_pos n
    · exact (Nat.log2_lt h0).mp hb)
  have h3 : Nat.lcm a b ≤ a * b := Nat.div_le_self _ _
  by_cases h0 : Nat.lcm a b = 0
  · rw [h0, Nat.log2_zero]; omega
  · refine (Nat.log2_lt h0).mpr (Nat.lt_of_le_of_lt h3 ?_)
    rw [Nat.two_mul, Nat.pow_add]
    exact Nat.mul_lt_mul'' h1 h2
theorem fd_lcm : FnD X (.builtin "math.lcm") fLcm := ⟨fun pins s σ H xs us Q I r h => by
  obtain ⟨F, ds, d, e, ta, hg, q⟩ := h
  unfold fLcm at hg
  split at hg
  · split at hg
    · cases hg
      rename_i i j hz
      replace hz := of_decide_eq_true hz
      obtain ⟨v, v', rfl, t, t'⟩ := tp2 ta
      rw [t.int, t'.int] at r
      obtain ⟨u1, u2, rfl, r1, r2⟩ := vals2 r
      obtain ⟨t1, rfl⟩ := r1
      obtain ⟨t2, rfl⟩ := r2
      have one : (Nat.lcm 1 i.natAbs).lcm j.natAbs = Nat.lcm i.natAbs j.natAbs := by rw [Nat.lcm_one_left]
      have b1 := log2_max 1 i.natAbs
      have b2 := log2_max i.natAbs j.natAbs
      have b3 : Nat.log2 1 = 0 := by decide
      have b4 := lcm_log hz.1 hz.2
      have b5 : (12000 : Nat) ≤ bitsLine := by decide
      have g := PySem.W.mg_run_lcm i t1 j t2 (by omega) (by omega) (by rw [one]; show (Nat.lcm i.natAbs j.natAbs).log2 < bitsLine; omega)
      rw [one] at g
      exact call_function_meets PySem.W.MGF.kind_lcm PySem.W.MGF.plain_lcm PySem.W.MGF.entry_lcm (PySem.W.MGF.args_lcm _ _) g.meets ⟨.int _, H, I.tok _, ⟨_, rfl⟩, q _ F H (Adv.refl e) (.int _)⟩
    · cases hg
  · cases hg⟩
/-- a list of ints -/
def intsD : List D → Option (List Int)
  | [] => some []
  | .int i :: ds => (intsD ds).map (i :: ·)
  | _ => none
theorem ints_of_tp {K : PySem.W.Frag} {F : Hp} : ∀ {vs : List V} {ds : List D} {ns : List Int}, DpAll K F vs ds → intsD ds = some ns → vs = ns.map V.int
  | _, _, _, .nil, h => by cases h; rfl
  | _, .int i :: ds, ns, .cons r t, h => by
    unfold intsD at h
    cases hi : intsD ds with
    | none => rw [hi] at h; cases h
    | some ms =>
      rw [hi] at h
      cases h
      cases r
      rw [ints_of_tp t hi]
      rfl
  | _, .none :: _, _, .cons _ _, h => by cases h
  | _, .bool _ :: _, _, .cons _ _, h => by cases h
  | _, .str _ :: _, _, .cons _ _, h => by cases h
  | _, .list _ :: _, _, .cons _ _, h => by cases h
  | _, .tuple _ :: _, _, .cons _ _, h => by cases h
  | _, .dict _ :: _, _, .cons _ _, h => by cases h
def fSum : List D → Option D
  | [.list ds] => (intsD ds).map fun ns => .int ns.sum
  | _ => none
theorem fd_sum (hc : X.calm = true) : FnD X (.builtin "sum") fSum := ⟨fun pins s σ H xs us Q I r h => by
  obtain ⟨F, ds, d, e, ta, hg, q⟩ := h
  unfold fSum at hg
  split at hg
  · rename_i ds
    cases hn : intsD ds with
    | none => rw [hn] at hg; cases hg
    | some ns =>
      rw [hn] at hg
      cases hg
      obtain ⟨v, rfl, t⟩ := tp1 ta
      obtain ⟨p, vs, rfl, hs, pa⟩ := t.list e
      rw [ints_of_tp pa hn] at hs
      exact cr_sum hc pins s σ H _ us Q I r ⟨p, ns, rfl, hs, q _ F H (Adv.refl e) (.int _)⟩
  · cases hg⟩
def boolsD : List D → Option (List Bool)
  | [] => some []
  | .bool i :: ds => (boolsD ds).map (i :: ·)
  | _ => none
theorem bools_of_tp {K : PySem.W.Frag} {F : Hp} : ∀ {vs : List V} {ds : List D} {ns : List Bool}, DpAll K F vs ds → boolsD ds = some ns → vs = ns.map V.bl
  | _, _, _, .nil, h => by cases h; rfl
  | _, .bool i :: ds, ns, .cons r t, h => by
    unfold boolsD at h
    cases hi : boolsD ds with
    | none => rw [hi] at h; cases h
    | some ms =>
      rw [hi] at h
      cases h
      cases r
      rw [bools_of_tp t hi]
      rfl
  | _, .none :: _, _, .cons _ _, h => by cases h
  | _, .int _ :: _, _, .cons _ _, h => by cases h
  | _, .str _ :: _, _, .cons _ _, h => by cases h
  | _, .list _ :: _, _, .cons _ _, h => by cases h
  | _, .tuple _ :: _, _, .cons _ _, h => by cases h
  | _, .dict _ :: _, _, .cons _ _, h => by cases h
def fAll : List D → Option D
  | [.list ds] => (boolsD ds).map fun bs => .bool (bs.all (fun b => b))
  | _ => none
def fAny : List D → Option D
  | [.list ds] => (boolsD ds).map fun bs => .bool (bs.any (fun b => b))
  | _ => none
theorem fd_all (hc : X.calm = true) : FnD X (.builtin "all") fAll := ⟨fun pins s σ H xs us Q I r h => by
  obtain ⟨F, ds, d, e, ta, hg, q⟩ := h
  unfold fAll at hg
  split at hg
  · rename_i ds
    cases hn : boolsD ds with
    | none => rw [hn] at hg; cases hg
    | some ns =>
      rw [hn] at hg
      cases hg
      obtain ⟨v, rfl, t⟩ := tp1 ta
      obtain ⟨p, vs, rfl, hs, pa⟩ := t.list e
      rw [bools_of_tp pa hn] at hs
      exact cr_all hc pins s σ H _ us Q I r ⟨p, ns, rfl, hs, q _ F H (Adv.refl e) (.bl _)⟩
  · cases hg⟩
theorem fd_any (hc : X.calm = true) : FnD X (.builtin "any") fAny := ⟨fun pins s σ H xs us Q I r h => by
  obtain ⟨F, ds, d, e, ta, hg, q⟩ := h
  unfold fAny at hg
  split at hg
  · rename_i ds
    cases hn : boolsD ds with
    | none => rw [hn] at hg; cases hg
    | some ns =>
      rw [hn] at hg
      cases hg
      obtain ⟨v, rfl, t⟩ := tp1 ta
      obtain ⟨p, vs, rfl, hs, pa⟩ := t.list e
      rw [bools_of_tp pa hn] at hs
      exact cr_any hc pins s σ H _ us Q I r ⟨p, ns, rfl, hs, q _ F H (Adv.refl e) (.bl _)⟩
  · cases hg⟩
def fList : List D → Option D
  | [d] => (seqOf d).map .list
  | _ => none
def fTuple : List D → Option D
  | [d] => (seqOf d).map .tuple
  | _ => none
theorem fd_list : FnD X (.type "list") fList := ⟨fun pins s σ H xs us Q I r h => by
  obtain ⟨F, ds, d, e, ta, hg, q⟩ := h
  unfold fList at hg
  split at hg
  · rename_i d1
    cases hn : seqOf d1 with
    | none => rw [hn] at hg; cases hg
    | some es =>
      rw [hn] at hg
      cases hg
      obtain ⟨v, rfl, t⟩ := tp1 ta
      rcases seqOf_some hn with rfl | rfl
      · obtain ⟨p, vs, rfl, hs, pa⟩ := t.list e
        exact call_list_of pins s σ H _ us Q I r ⟨p, vs, rfl, .inl hs, fun l hl => q _ _ _ (Adv.laid e hl) (.lst (SqL.of upd_same) (dpa_ex (Ex.new (e.none hl)) _ _ pa))⟩
      · obtain ⟨p, vs, rfl, hs, pa⟩ := t.tuple e
        exact call_list_of pins s σ H _ us Q I r ⟨p, vs, rfl, .inr hs, fun l hl => q _ _ _ (Adv.laid e hl) (.lst (SqL.of upd_same) (dpa_ex (Ex.new (e.none hl)) _ _ pa))⟩
  · cases hg⟩
theorem fd_tuple : FnD X (.type "tuple") fTuple := ⟨fun pins s σ H xs us Q I r h => by
  obtain ⟨F, ds, d, e, ta, hg, q⟩ := h
  unfold fTuple at hg
  split at hg
  · rename_i d1
    cases hn : seqOf d1 with
    | none => rw [hn] at hg; cases hg
    | some es =>
      rw [hn] at hg
      cases hg
      obtain ⟨v, rfl, t⟩ := tp1 ta
      rcases seqOf_some hn with rfl | rfl
      · obtain ⟨p, vs, rfl, hs, pa⟩ := t.list e
        exact call_tuple_of pins s σ H _ us Q I r ⟨p, vs, rfl, .inl ⟨hs, fun l hl => q _ _ _ (Adv.laid e hl) (.tup (SqT.of upd_same) (dpa_ex (Ex.new (e.none hl)) _ _ pa))⟩⟩
      · rcases t with t | ⟨_, _, _, _, z, _⟩
        · cases t with
          | tup hs pa => exact call_tuple_of pins s σ H _ us Q I r ⟨_, _, rfl, .inr ⟨sqt_ex e hs, q _ F H (Adv.refl e) (.tup hs pa)⟩⟩
        · cases z
  · cases hg⟩
def fMax : List D → Option D
  | [.int i, .int j] => some (.int (if j > i then j else i))
  | _ => none
def fMin : List D → Option D
  | [.int i, .int j] => some (.int (if j < i then j else i))
  | _ => none
theorem fd_max (hc : X.calm = true) : FnD X (.builtin "max") fMax := ⟨fun pins s σ H xs us Q I r h => by
  obtain ⟨F, ds, d, e, ta, hg, q⟩ := h
  unfold fMax at hg
  split at hg
  · cases hg
    obtain ⟨v, v', rfl, t, t'⟩ := tp2 ta
    exact call_max2 hc pins s σ H _ us Q I r ⟨_, _, by rw [t.int, t'.int], q _ F H (Adv.refl e) (.int _)⟩
  · cases hg⟩
theorem fd_min (hc : X.calm = true) : FnD X (.builtin "min") fMin := ⟨fun pins s σ H xs us Q I r h => by
  obtain ⟨F, ds, d, e, ta, hg, q⟩ := h
  unfold fMin at hg
  split at hg
  · cases hg
    obtain ⟨v, v', rfl, t, t'⟩ := tp2 ta
    exact call_min2 hc pins s σ H _ us Q I r ⟨_, _, by rw [t.int, t'.int], q _ F H (Adv.refl e) (.int _)⟩
  · cases hg⟩
/-! repr: how long it may be is told by a plain count -/
mutual
def costD : D → Nat
  | .none => 4
  | .bool _ => 5
  | .int _ => 600
  | .str x => 10 * x.length + 2
  | .list xs => costAll xs + 4
  | .tuple xs => costAll xs + 4
  | .dict _ => 0
def costAll : List D → Nat
  | [] => 0
  | x :: xs => costD x + 2 + costAll xs
end
end
end MV

set_option maxRecDepth 100000
set_option maxHeartbeats 4000000
namespace MV
open PySem PySem.Spec PyProof.Rows L2

/-! ### repr -/
def reprOk (d : D) : Bool := decide (d.showable = true ∧ d.hasDict = false ∧ d.leavesShort 2000 = true ∧ d.bulk ≤ 2000 ∧ d.depth ≤ 60)
def fRepr : List D → Option D
  | [d] => if reprOk d = true then some (.str d.shown) else none
  | _ => none
/-- data that is shown and compared: what is asked of every part -/
def okD (d : D) : Prop := d.showable = true ∧ d.hasDict = false ∧ d.leavesShort 2000 = true ∧ d.canLay0 = true
theorem okD_int {i : Int} (h : i.natAbs < 2 ^ 1900) : okD (.int i) := by
  have l := log2_lt' (by decide) h
  refine ⟨decide_eq_true (by omega), rfl, decide_eq_true ?_, rfl⟩
  have hs := int_text_length_le (a := i) (k := 1900) (by decide) l
  show (Str.ofString (toString i)).length ≤ 2000
  rw [PySem.ofString_length]
  omega
theorem okD_bool (b : Bool) : okD (.bool b) := ⟨rfl, rfl, rfl, rfl⟩
theorem okD_none : okD .none := ⟨rfl, rfl, rfl, rfl⟩
theorem okAll : ∀ {ds : List D}, (∀ d ∈ ds, okD d) → PyData.showableAll ds = true ∧ PyData.hasDictAll ds = false ∧ PyData.leavesShortAll 2000 ds = true ∧ PyData.canLayAll0 ds = true
  | [], _ => ⟨rfl, rfl, rfl, rfl⟩
  | d :: ds, h => by
    obtain ⟨a1, a2, a3, a4⟩ := h d List.mem_cons_self
    obtain ⟨b1, b2, b3, b4⟩ := okAll fun x hx => h x (List.mem_cons_of_mem _ hx)
    simp only [PyData.showableAll, PyData.hasDictAll, PyData.leavesShortAll, PyData.canLayAll0, a1, a2, a3, a4, b1, b2, b3, b4, Bool.and_self, Bool.or_self, and_self]
theorem okD_tup {ds : List D} (h : ∀ d ∈ ds, okD d) : okD (.tuple ds) := by
  obtain ⟨b1, b2, b3, b4⟩ := okAll h
  simp only [okD, PyData.showable, PyData.hasDict, PyData.leavesShort, PyData.canLay0, b1, b2, b3, b4, and_self]
theorem okD_lst {ds : List D} (h : ∀ d ∈ ds, okD d) : okD (.list ds) := by
  obtain ⟨b1, b2, b3, b4⟩ := okAll h
  simp only [okD, PyData.showable, PyData.hasDict, PyData.leavesShort, PyData.canLay0, b1, b2, b3, b4, and_self]
theorem bulk_le {n : Nat} : ∀ {ds : List D}, (∀ d ∈ ds, d.bulk ≤ n) → PyData.bulkAll ds ≤ ds.length * (n + 1)
  | [], _ => Nat.zero_le _
  | d :: ds, h => by
    have h1 := h d List.mem_cons_self
    have h2 := bulk_le fun x hx => h x (List.mem_cons_of_mem _ hx)
    rw [PyData.bulkAll, List.length_cons, Nat.succ_mul]
    omega
theorem depth_le {n : Nat} : ∀ {ds : List D}, (∀ d ∈ ds, d.depth ≤ n) → PyData.depthAll ds ≤ n
  | [], _ => Nat.zero_le _
  | d :: ds, h => by
    have h1 := h d List.mem_cons_self
    have h2 := depth_le fun x hx => h x (List.mem_cons_of_mem _ hx)
    rw [PyData.depthAll]
    omega
theorem reprOk_of {d : D} (h : okD d) (hb : d.bulk ≤ 2000) (hd : d.depth ≤ 60) : reprOk d = true := decide_eq_true ⟨h.1, h.2.1, h.2.2.1, hb, hd⟩
theorem shaped_of {d : D} (h : okD d) (hd : d.depth ≤ 60) : SeqAt.shaped d = true := by
  unfold SeqAt.shaped
  rw [h.2.2.2, decide_eq_true (show d.depth ≤ 64 by omega)]
  rfl
theorem eqOk_of {d e : D} (h : okD d) (h2 : okD e) (hd : d.depth ≤ 60) (hd2 : e.depth ≤ 60) : eqOk d e = true := by
  have s1 := shaped_of h hd
  have s2 := shaped_of h2 hd2
  unfold eqOk
  split
  · rfl
  · rw [s1, s2]
    rfl
theorem eqv_self {d : D} (h : okD d) : PyData.eqv d d = true := SeqAt.eqv_refl d h.2.2.2
theorem eqv_str (x y : Str) : PyData.eqv (.str x) (.str y) = (x == y) := by rw [PyData.eqv]
theorem eqv_int (x y : Int) : PyData.eqv (.int x) (.int y) = (x == y) := by rw [PyData.eqv]
theorem eqv_bool (x y : Bool) : PyData.eqv (.bool x) (.bool y) = (x == y) := by rw [PyData.eqv]
theorem str_self (x : Str) : (x == x) = true := by simp
theorem eqOk_str (x y : Str) : eqOk (.str x) (.str y) = true := by
  cases h : eqOk (.str x) (.str y) with
  | true => rfl
  | false => cases h
theorem eqOk_int (x y : Int) : eqOk (.int x) (.int y) = true := by
  cases h : eqOk (.int x) (.int y) with
  | true => rfl
  | false => cases h
theorem eqOk_bool (x y : Bool) : eqOk (.bool x) (.bool y) = true := by
  cases h : eqOk (.bool x) (.bool y) with
  | true => rfl
  | false => cases h
theorem fRepr_ok {d : D} (h : reprOk d = true) : fRepr [d] = some (.str d.shown) := if_pos h
theorem shown_fits {d : D} (h1 : d.leavesShort 2000 = true) (h2 : d.bulk ≤ 2000) : d.shown.length ≤ sizeLine := by
  have h := PyData.shown_le_bulk 2000 (by decide) d h1
  have h3 : (2000 + 2) * d.bulk ≤ 2002 * 2000 := Nat.mul_le_mul_left _ h2
  have h4 : (5000000 : Nat) ≤ sizeLine := by decide
  omega
theorem fd_repr {X : Cx} (hG : X.A.guards = some []) (hu : X.A.units + 64 < cLine) : FnD X (.builtin "repr") fRepr := ⟨fun pins s σ H xs us Q I r h => by
  obtain ⟨F, ds, d, e, ta, hg, q⟩ := h
  unfold fRepr at hg
  split at hg
  · split at hg
    · cases hg
      rename_i d hc
      obtain ⟨c1, c2, c3, c4, c5⟩ := of_decide_eq_true hc
      obtain ⟨v, rfl, t⟩ := tp1 ta
      obtain ⟨u, rfl, ru⟩ := vals1 r
      have fits := shown_fits c3 c4
      have pd := t.dp e
      obtain ⟨as, rd⟩ := Dp.reads I d v u pd ru
      cases rd with
      | none => exact PySem.P.repr_of_none ⟨.str _, H, I.tok _, ⟨_, rfl⟩, q _ F H (Adv.refl e) (.str _)⟩
      | bool b => exact PySem.P.repr_of_bool ⟨.str _, H, I.tok _, ⟨_, rfl⟩, q _ F H (Adv.refl e) (.str _)⟩
      | int i tk => exact PySem.P.repr_of_int (by simpa [PyData.showable] using c1) ⟨.str _, H, I.tok _, ⟨_, rfl⟩, q _ F H (Adv.refl e) (.str _)⟩
      | str z tk => exact PySem.P.repr_of_str ⟨.str _, H, I.tok _, ⟨_, rfl⟩, q _ F H (Adv.refl e) (.str _)⟩ fits
      | list h1 h2 h3 h4 =>
        exact repr_of_reads' (.list h1 h2 h3 h4) c1 (PyData.noDict_hsm c2) hG (by omega) (fun _ _ z => z) (fun h' u' tk hk => ⟨.str _, H, I.kept hk, ⟨_, rfl⟩, q _ F H (Adv.refl e) (.str _)⟩) fits
      | tuple h1 h2 h3 h4 =>
        exact repr_of_reads' (.tuple h1 h2 h3 h4) c1 (PyData.noDict_hsm c2) hG (by omega) (fun _ _ z => z) (fun h' u' tk hk => ⟨.str _, H, I.kept hk, ⟨_, rfl⟩, q _ F H (Adv.refl e) (.str _)⟩) fits
      | dict h1 h2 h3 h4 h5 => cases c2
    · cases hg
  · cases hg⟩

/-! ### isinstance against a built-in class -/
def tyName : D → String
  | .none => "NoneType"
  | .bool _ => "bool"
  | .int _ => "int"
  | .str _ => "str"
  | .list _ => "list"
  | .tuple _ => "tuple"
  | .dict _ => "dict"
theorem tyx_of {K : PySem.W.Frag} {H : Hp} {v : V} {d : D} (p : Dp K H v d) : TyX K H v (.type (tyName d)) := by
  cases p with
  | non => exact .base .non
  | bl b => exact .base (.bl b)
  | int i => exact .base (.int i)
  | str x => exact .base (.str x)
  | lst hs ha =>
    rcases hs with (h | ⟨o, h⟩) | ⟨o, its, n, hk, hc, _⟩
    · exact .base (.lst h)
    · exact .base (.frz h)
    · exact .kList hk hc
  | tup hs ha =>
    rcases hs with (h | ⟨o, h⟩) | ⟨o, its, n, hk, hc, _⟩
    · exact .base (.tup h)
    · exact .fTuple h
    · exact .kTuple hk hc
def isD (T : String) (d : D) : Option D := (kitB (tyName d) T).map .bool
section
variable {X : Cx} {x : Str} {T : String} {p pT pos : Pos} {e : Expr} {m : Rho → Option D} {xT : Str}
theorem me_isi (hm : X.mg x = none) (hmT : X.mg xT = none) (h : MT X e m) (hv : bootBuiltins x = some (.builtin "isinstance") := by decide +kernel) (hvT : bootBuiltins xT = some (.type T) := by decide +kernel) (hg : Gl X x := by rfl) (hgT : Gl X xT := by rfl)
    (hn : x ≠ "__name__" := by decide) (hdb : (x == ("__debug__" : Str)) = false := by decide) (hnT : xT ≠ "__name__" := by decide) (hdbT : (xT == ("__debug__" : Str)) = false := by decide)
    (s1 : starEach (e :: [.Name xT pT]) X.env = (false, eval e X.env) :: starEach [.Name xT pT] X.env := by rfl) (s2 : starEach (.Name xT pT :: []) X.env = (false, eval (.Name xT pT) X.env) :: starEach [] X.env := by rfl)
    (hpl : (backTo pos (starEach [.Name xT pT] X.env)).any (·.1) = false := by rfl) : ME X (.Call (.Name x p) [e, .Name xT pT] [] pos) (m1 (isD T) m) :=
  ⟨fun F0 H0 => pe_weak (pe_callB call_isi hg hm hv (pa_cons (h.ok F0 H0) (pa_cons (pe_bltn (v := .ty T) hgT hmT hvT rfl hnT hdbT) pa_nil s2) s1) hn hdb s1 hpl) fun σ H Q ⟨ρ, F, d, e1, e2, q⟩ => by
    unfold m1 at e2
    cases hx : m ρ with
    | none => rw [hx] at e2; cases e2
    | some d1 =>
      rw [hx] at e2
      replace e2 : isD T d1 = some d := e2
      refine ⟨ρ, F, d1, e1, hx, fun v F1 H1 a1 t => ?_⟩
      unfold isD at e2
      cases hk : kitB (tyName d1) T with
      | none => rw [hk] at e2; cases e2
      | some b =>
        rw [hk] at e2
        cases e2
        exact ⟨v, .ty T, _, _, b, rfl, .ty T, tyx_of (t.dp a1.fh), kit_ty hk, q _ F1 H1 a1 (.bl b)⟩⟩
/-- a module's constant -/
theorem me_glob {u : Value} {v : V} {d : D} (hm : X.mg x = some u) (r : RelV v u) (hd : ∀ F : Hp, Dp X.K F v d) (hg : Gl X x := by rfl) (hdb : (x == ("__debug__" : Str)) = false := by decide) : ME X (.Name x pos) (mC d) :=
  me_const (pe_glob hg hm r hdb) hd
/-! ### slices -/
def cutD (ds : List D) (lo hi : Option Int) : List D := (ds.drop (HT.sIx ds.length 0 lo)).take (HT.sIx ds.length ds.length hi - HT.sIx ds.length 0 lo)
theorem dpa_cut {K : PySem.W.Frag} {F : Hp} {vs : List V} {ds : List D} (a : DpAll K F vs ds) (lo hi : Option Int) : DpAll K F (cutV vs lo hi) (cutD ds lo hi) := by
  unfold cutV cutD
  rw [dal_len a]
  exact dal_take _ (dal_drop _ a)
def dCut (lo hi : Option Int) : D → Option D
  | .list ds => some (.list (cutD ds lo hi))
  | .tuple ds => some (.tuple (cutD ds lo hi))
  | _ => none
def partD : Option D → Option (Option Int)
  | none => some none
  | some (.int i) => some (some i)
  | _ => none
structure MP (X : Cx) (e : Option Expr) (m : Rho → Option (Option Int)) : Prop where
  ok : ∀ F0 H0, PO X e (fun σ H Q => ∃ ρ F o, EnvOk X.K F0 H0 F H σ ρ ∧ m ρ = some o ∧ ∀ F' H', Adv F H F' H' → Q o H')
def mNoPart : Rho → Option (Option Int) := fun _ => some none
def mPart (m : Rho → Option D) : Rho → Option (Option Int) := fun ρ => (m ρ).bind fun d => partD (some d)
theorem po_weak {e : Option Expr} {t t' : TO} (h : PO X e t) (w : ∀ σ H Q, t' σ H Q → t σ H Q) : PO X e t' := ⟨fun pins s σ H Q I q => h.run pins s σ H Q I (w σ H Q q)⟩
theorem mp_none : MP X none mNoPart := ⟨fun F0 H0 => po_weak po_none fun σ H Q ⟨ρ, F, o, e1, e2, q⟩ => by
  cases e2
  exact q F H (Adv.refl e1.fh)⟩
theorem mp_some (h : MT X e m) : MP X (some e) (mPart m) := ⟨fun F0 H0 => po_weak (po_some (h.ok F0 H0)) fun σ H Q ⟨ρ, F, o, e1, e2, q⟩ => by
  unfold mPart at e2
  cases hx : m ρ with
  | none => rw [hx] at e2; cases e2
  | some d =>
    rw [hx] at e2
    replace e2 : partD (some d) = some o := e2
    refine ⟨ρ, F, d, e1, hx, fun v F1 H1 a1 t => ?_⟩
    unfold partD at e2
    split at e2
    · rename_i z
      cases z
    · rename_i i z
      cases z
      cases e2
      exact ⟨i, t.int, q F1 H1 a1⟩
    · cases e2⟩
def mCut (m : Rho → Option D) (ml mh : Rho → Option (Option Int)) : Rho → Option D := fun ρ => (m ρ).bind fun d => (ml ρ).bind fun lo => (mh ρ).bind fun hi => dCut lo hi d
theorem me_cut {lo hi : Option Expr} {ml mh : Rho → Option (Option Int)} {p2 : Pos} (h : MT X e m) (hl : MP X lo ml) (hh : MP X hi mh) : ME X (.Subscript e (.Slice lo hi none p2) pos) (mCut m ml mh) :=
  ⟨fun F0 H0 => pe_weak (pe_slice (sl_list.or sl_tupA) (h.ok F0 H0) (hl.ok F0 H0) (hh.ok F0 H0)) fun σ H Q ⟨ρ, F, d, e1, e2, q⟩ => by
    unfold mCut at e2
    cases hx : m ρ with
    | none => rw [hx] at e2; cases e2
    | some d1 =>
      rw [hx] at e2
      cases hy : ml ρ with
      | none => simp [hy] at e2
      | some lo1 =>
        cases hz : mh ρ with
        | none => simp [hy, hz] at e2
        | some hi1 =>
          replace e2 : dCut lo1 hi1 d1 = some d := by simpa [hy, hz] using e2
          refine ⟨ρ, F, d1, e1, hx, fun v F1 H1 a1 t1 => ⟨ρ, F1, lo1, e1.go a1, hy, fun F2 H2 a2 => ⟨ρ, F2, hi1, (e1.go a1).go a2, hz, fun F3 H3 a3 => ?_⟩⟩⟩
          have a13 := (a1.trans a2).trans a3
          have t := t1.go (a2.trans a3)
          unfold dCut at e2
          split at e2
          · cases e2
            obtain ⟨p, vs, rfl, hs, pa⟩ := t.list a3.fh
            exact .inl ⟨p, vs, rfl, hs, fun l hl => q _ _ _ (a13.trans (Adv.laid a3.fh hl)) (.lst (SqL.of upd_same) (dpa_ex (Ex.new (a3.fh.none hl)) _ _ (dpa_cut pa lo1 hi1)))⟩
          · cases e2
            rcases t with t | ⟨_, _, _, _, z, _⟩
            · cases t with
              | tup hs pa =>
                refine .inr ⟨_, _, rfl, sqt_ex a3.fh hs, fun hw => ?_, fun hw l hl => q _ _ _ (a13.trans (Adv.laid a3.fh hl)) (.tup (SqT.of upd_same) (dpa_ex (Ex.new (a3.fh.none hl)) _ _ (dpa_cut pa lo1 hi1)))⟩
                have l := dal_len pa
                rename_i ds a vs
                have whole : cutD ds lo1 hi1 = ds := by
                  unfold cutD
                  rw [← l, hw.1, hw.2, List.drop_zero, Nat.sub_zero, l, List.take_length]
                rw [whole] at q
                exact q _ F3 H3 a13 (.tup hs pa)
            · cases z
          · cases e2⟩
end

/-! ### the law's call -/
theorem ints_dp {K : PySem.W.Frag} {F : Hp} : ∀ ns : List Int, DpAll K F (ns.map V.int) (ns.map PyData.int)
  | [] => .nil
  | n :: ns => .cons (.int n) (ints_dp ns)
def OnlyScript (H : Hp) : Prop := ∀ b, H b = none ∨ ∃ o xs, H b = some (.frz o (.lst xs))
theorem top_call {P : Program} {w : World} {K : PySem.W.Frag} {mg mb : Str → Option Value} {k : Nat} {fa a : Addr} {fd : FuncData} {x : Str} {m : List D → Option D} {s₁ : Shared} {vs : List Value} {ns : List Int}
    (KX : K.In s₁.heap) (hns : s₁.heap.Ns mainGlobals mg) (hb : s₁.heap.Ns builtinsNs mb) (hbb : ∀ x : Str, x ≠ "__name__" → mb x = bootBuiltins x) (hlim : s₁.heap.NoLimit) (hgn : s₁.gens = #[])
    (ha : s₁.heap.get? a = some { cls := .type "list", data := .seq vs.toArray }) (hi : IntsAre vs ns) (hl : ns.length ≤ sizeLine) (hr : Room k callerA)
    (F : ∀ base : Heap, K.In base → base.Ns mainGlobals mg → FnG P w K mg base k fa fd [x] m) (hbind : ∀ (s : Shared) (u : Value), BindsTo s fd ⟨[u], []⟩ [(x, u)]) (hm : m [.list (ns.map PyData.int)] = some (.bool true)) :
    codeAny (model P w) callerA (.call (.ref fa) ⟨[.ref a], []⟩) (fun r s' => r = .ok (.ret (.bool true)) ∧ OldK s₁.heap s'.heap ∧ s'.os = s₁.os ∧ AllBare s'.gens) s₁ := by
  have rv := vals_ints hi
  have lenV := hi.length
  -- H tracks the script alone, or nothing where the script is one of the written part's own objects
  suffices core : ∀ H : Hp, OnlyScript H → SqL K H a (ns.map V.int) → HOk P w H s₁.heap → (∀ b, H b ≠ none → b = a ∧ K.lookup a = none) → codeAny (model P w) callerA (.call (.ref fa) ⟨[.ref a], []⟩) (fun r s' => r = .ok (.ret (.bool true)) ∧ OldK s₁.heap s'.heap ∧ s'.os = s₁.os ∧ AllBare s'.gens) s₁ by
    cases hk : K.lookup a with
    | some o =>
      have same := (KX a o hk).symm.trans ha
      cases same
      exact core (fun _ => none) (fun _ => .inl rfl) (.inr ⟨_, vs.toArray, _, hk, rfl, rfl, rfl, by simpa [lenV] using hl, by simpa using rv⟩) (fun b u z => nomatch z) (fun b z => absurd rfl z)
    | none =>
      let ob : Obj := { cls := .type "list", data := .seq vs.toArray }
      have at_a : ∀ b u, (if b = a then some (HO.frz ob (.lst (ns.map V.int))) else none) = some u → b = a ∧ u = .frz ob (.lst (ns.map V.int)) := fun b u z => by
        by_cases hba : b = a
        · rw [if_pos hba] at z
          exact ⟨hba, (Option.some.inj z).symm⟩
        · rw [if_neg hba] at z
          cases z
      refine core (fun b => if b = a then some (.frz ob (.lst (ns.map V.int))) else none) (fun b => ?_) (.inl (.inr ⟨ob, if_pos rfl⟩)) (fun b u z => ?_) (fun b z => ?_)
      · by_cases hba : b = a
        · exact .inr ⟨_, _, if_pos hba⟩
        · exact .inl (if_neg hba)
      · obtain ⟨rfl, rfl⟩ := at_a b u z
        exact ⟨ha, by rw [List.length_map]; exact hl, vs, _, rv, ha⟩
      · by_cases hba : b = a
        · exact ⟨hba, hk⟩
        · exact absurd (if_neg hba) z
  intro H hO hS hok hA
  -- what is kept when the script is put aside
  have dict_free : ∀ {b : Addr} {o : Obj} {es : Array DictEntry} {ep : Nat}, s₁.heap.get? b = some o → o.data = .dict es ep → H b = none := fun {b o es ep} e d => by
    cases q : H b with
    | none => rfl
    | some u =>
      have hba := (hA b (by rw [q]; exact fun z => nomatch z)).1
      rw [hba, ha] at e
      cases e
      cases d
  have ns_kept : ∀ {b : Addr} {g : Str → Option Value}, s₁.heap.Ns b g → (hidT s₁.heap H).Ns b g := fun {b g} ⟨o, es, ep, e, d, z⟩ => ⟨o, es, ep, hidT_get e (dict_free e d), d, z⟩
  have KB : K.In (hidT s₁.heap H) := fun b o e => hidT_get (KX b o e) (by
    cases q : H b with
    | none => rfl
    | some u =>
      obtain ⟨hba, hk⟩ := hA b (by rw [q]; exact fun z => nomatch z)
      rw [hba, hk] at e
      cases e)
  have M : Mod K mg (hidT s₁.heap H) := by
    obtain ⟨mc, l1, l2⟩ := hlim
    exact ⟨KB, ns_kept hns, ⟨mb, ns_kept hb, hbb⟩, mc, ns_kept l1, l2⟩
  have e0 : Env0 P w K mg (hidT s₁.heap H) callerA [] s₁ H :=
    { frames := rfl, mod := M, bs := fun b o e => of_hidT e, bsz := Nat.le_of_eq (hidT_size _ _), funs := trivial, frf := fun b z => absurd z List.not_mem_nil, hok := hok, bare := .of_eq hgn }
  have ask : spM K m [.ref a] H (fun v _ => v = .bl true) := ⟨H, [.list (ns.map PyData.int)], .bool true, Ex.refl H, .cons (.lst hS (ints_dp ns)) .nil, hm, fun v F' H' _ pd => by cases pd; rfl⟩
  refine codeAny_mono ((F _ KB (ns_kept hns)).run callerA [] s₁ H ⟨[.ref a], []⟩ [.ref a] [.ref a] _ rfl hr e0 (hbind s₁ (.ref a)) (.cons rfl .nil) ask) fun res s' h => ?_
  match res, h with
  | .error e, h => exact False.elim h
  | .ok .next, h => exact False.elim h
  | .ok .brk, h => exact False.elim h
  | .ok .cont, h => exact False.elim h
  | .ok (.ret u), ⟨v, H', os, bare, un, hok', ru, q⟩ =>
    replace q : v = .bl true := q
    subst q
    replace ru : u = Value.bool true := ru
    subst ru
    refine ⟨rfl, OldK.of_keep fun b o e => ?_, os, bare⟩
    rcases hO b with z | ⟨ob, xs, z⟩
    · exact un.keep b o e z (fun y => absurd y List.not_mem_nil) (fun y => absurd y List.not_mem_nil)
    · have now := (hok' b _ (un.frzs b ob _ z)).1
      have was := (hok b _ z).1
      rw [e] at was
      cases was
      exact now
/-- the goal that the head leaves -/
theorem law_of {l : PySem.W.OpenLaw} {n k : Nat} {q : Program} {loose : List Str} {XP : (Str → Option Value) → Heap → Prop} {YP : World → Heap → Prop} {d : DefRec} {K : Params → PySem.W.Frag} {m : List D → Option D} {x : Str}
    (hn : l.most = some n) (hn2 : n ≤ sizeLine) (hdf : d.params.defaults = []) (hr : Room k callerA) (hY : ∀ (w : World) (h : Heap), YP w h → (K w.params).In h)
    (F : ∀ (w : World) (mg : Str → Option Value) (fa : Addr) (h : Heap), (K w.params).In h → h.Ns mainGlobals mg → mg d.name = some (.ref fa) → ∃ fd : FuncData, (∀ (s : Shared) (u : Value), BindsTo s fd ⟨[u], []⟩ [(x, u)]) ∧
      ∀ base : Heap, (K w.params).In base → base.Ns mainGlobals mg → FnG l.prog w (K w.params) mg base k fa fd [x] m)
    (hm : ∀ ns : List Int, ns.length ≤ n → m [.list (ns.map PyData.int)] = some (.bool true)) : PySem.W.WalkO q loose XP YP l.row.toRowW d [] (fun f vs => PySem.call f vs) := by
  refine Att.attach_call hn hdf fun w s₀ s₁ mg mb fa o pm cd doc a vs ns G Y ho hd hcd hmg hobj hints hlen hg => ?_
  obtain ⟨fd, hb, hF⟩ := F w mg fa _ (hY w _ Y) G.T.g hmg
  exact top_call (hY w _ Y) G.T.g G.T.b G.T.builtins G.T.nolimit hg hobj hints (Nat.le_trans hlen hn2) hr hF hb (hm ns hlen)
end MV

set_option maxRecDepth 100000
set_option maxHeartbeats 4000000
/-! zip and enumerate over lists and tuples, mixed as they come -/
namespace MV
open PySem PySem.Spec PyProof.Rows L2

def SqB (K : PySem.W.Frag) (b : Bool) (H : Hp) (a : Addr) (xs : List V) : Prop := if b = true then SqT K H a xs else SqL K H a xs
def IterB (b : Bool) (h : Heap) (it l : Addr) (i : Nat) : Prop := if b = true then h.IsTupleIter it l i else h.IsListIter it l i
def IsB (b : Bool) (h : Heap) (l : Addr) (items : Array Value) : Prop := if b = true then h.IsTuple l items else h.IsList l items
def iterObj (b : Bool) (l : Addr) : Obj := if b = true then { cls := .type "tuple_iterator", data := .fields #[.ref l, .int 0 0] } else { cls := .type "list_iterator", data := .fields #[.ref l, .int 0 0] }
theorem sqB_ex {K : PySem.W.Frag} {b : Bool} {H H' : Hp} {a : Addr} {xs : List V} (e : Ex H H') (h : SqB K b H a xs) : SqB K b H' a xs := by
  cases b with
  | true => exact sqt_ex e h
  | false => exact sql_ex e h
theorem drawsB {prog : Program} {w : World} {A : Around} (hh : A.handled = none) (b : Bool) {it l : Addr} (hne : l ≠ it) (items : Array Value) :
    Draws prog w A it [it, l] items.size (fun i v => items[i]? = some v) (fun i h => IterB b h it l i ∧ IsB b h l items) := by
  cases b with
  | true => exact Draws.tuple hh it l hne items
  | false => exact Draws.list hh it l hne items
theorem beginsB (b : Bool) (l : Addr) (items : Array Value) : Begins (.ref l) (iterObj b l) (fun h => IsB b h l items) := by
  cases b with
  | true => exact begins_tuple l items
  | false => exact begins_list l items
theorem IterB.at {b : Bool} {h h' : Heap} {it l : Addr} {i : Nat} (x : IterB b h it l i) (k : ∀ o, h.get? it = some o → h'.get? it = some o) : IterB b h' it l i := by
  cases b with
  | true => exact Heap.IsTupleIter.at x k
  | false => exact Heap.IsListIter.at x k
theorem IterB.obj {b : Bool} {h : Heap} {it l : Addr} {i : Nat} (x : IterB b h it l i) : ∃ o, h.get? it = some o ∧ ∀ v, o.data ≠ .cell v := by
  cases b with
  | true =>
    obtain ⟨o, e, _, d⟩ := show h.IsTupleIter it l i from x
    exact ⟨o, e, fun v q => by rw [d] at q; cases q⟩
  | false =>
    obtain ⟨o, e, _, d⟩ := show h.IsListIter it l i from x
    exact ⟨o, e, fun v q => by rw [d] at q; cases q⟩
theorem iterB_new {b : Bool} {h : Heap} {it l : Addr} (e : h.get? it = some (iterObj b l)) : IterB b h it l 0 := by
  cases b with
  | true => exact ⟨_, e, rfl, rfl⟩
  | false => exact ⟨_, e, rfl, rfl⟩
theorem isB_lt {b : Bool} {h : Heap} {l : Addr} {items : Array Value} (x : IsB b h l items) : l < h.objs.size := by
  cases b with
  | true =>
    obtain ⟨o, e, _⟩ := show h.IsTuple l items from x
    exact Heap.lt_size e
  | false =>
    obtain ⟨o, e, _⟩ := show h.IsList l items from x
    exact Heap.lt_size e
section
variable {X : Cx} {pins : List (Addr × Obj)} {σ : L2.St} {H : Hp} {s : Shared}
theorem inv_seqB {b : Bool} {a : Addr} {xs : List V} (I : Inv X pins σ H s) (h : SqB X.K b H a xs) : ∃ its : List Value, Vals xs its ∧ IsB b s.heap a its.toArray := by
  cases b with
  | true =>
    obtain ⟨its, r, p, _⟩ := I.tuple h
    exact ⟨its, r, p⟩
  | false =>
    obtain ⟨its, r, p, _⟩ := I.list h
    exact ⟨its, r, p.isList⟩
theorem inv_injB {b : Bool} {a : Addr} {xs ys : List V} (I : Inv X pins σ H s) (h : SqB X.K b H a xs) (h' : SqB X.K b H a ys) : xs = ys := by
  cases b with
  | true => exact I.tuple_inj h h'
  | false => exact I.list_inj h h'
end
theorem vals_at {xs : List V} {its : List Value} (r : Vals xs its) {i : Nat} {u : Value} (h : its.toArray[i]? = some u) : ∃ x, xs[i]? = some x ∧ RelV x u := by
  have l := r.length
  have h' : its[i]? = some u := by simpa using h
  have hi := (List.getElem?_eq_some_iff.mp h').1
  obtain ⟨u2, e1, e2⟩ := r.get (i := i) (x := xs[i]'(by omega)) (List.getElem?_eq_getElem _)
  rw [h'] at e1
  cases e1
  exact ⟨_, List.getElem?_eq_getElem _, e2⟩

/-! ### zip of two -/
def Jz2 (K : PySem.W.Frag) (b c : Bool) (p q : Addr) : It :=
  ⟨fun i H => ∃ (xs ys : List V), SqB K b H p xs ∧ SqB K c H q ys ∧ i < xs.length ∧ i < ys.length,
   fun i H v H' => ∃ T x y, v = .ref T ∧ H T = none ∧ H' = upd H T (.tup [x, y]) ∧ (∀ xs, SqB K b H p xs → xs[i]? = some x) ∧ ∀ ys, SqB K c H q ys → ys[i]? = some y,
   fun i H => ∃ (xs ys : List V), SqB K b H p xs ∧ SqB K c H q ys ∧ i = min xs.length ys.length⟩
def tnZ2 (b c : Bool) (z TI TO i1 i2 p q : Addr) (i : Nat) (h : Heap) : Prop := IsZip h z TI TO .none ∧ IsTupOf2 h TI (.ref i1) (.ref i2) ∧ (∃ x y, IsTupOf2 h TO x y) ∧ IterB b h i1 p i ∧ IterB c h i2 q i
theorem turn_z2 {P : Program} {w : World} {K : PySem.W.Frag} {elts : List Expr} {kk : Nat} {tpos : Pos} {b c : Bool} {p q z TI TO i1 i2 : Addr} (D : ZipSep2 z TI TO i1 i2 [i1, p] [i2, q]) (n1 : p ≠ i1) (n2 : q ≠ i2) :
    Turn P w K (.Tuple elts kk tpos) (Jz2 K b c p q) [z, TI, TO, i1, i2] z (tnZ2 b c z TI TO i1 i2 p q) where
  mem := List.mem_cons_self ..
  obj := fun i h ⟨hz, hTI, ⟨_, _, hTO⟩, k1, k2⟩ a ha => by
    simp only [List.mem_cons, List.not_mem_nil, or_false] at ha
    rcases ha with rfl | rfl | rfl | rfl | rfl
    · exact ⟨_, hz, fun _ e => nomatch e⟩
    · exact ⟨_, hTI, fun _ e => nomatch e⟩
    · exact ⟨_, hTO, fun _ e => nomatch e⟩
    · exact k1.obj
    · exact k2.obj
  keep := fun i h h' ⟨hz, hTI, ⟨x, y, hTO⟩, k1, k2⟩ k => ⟨k _ (by simp) _ hz, k _ (by simp) _ hTI, ⟨x, y, k _ (by simp) _ hTO⟩, k1.at fun o => k _ (by simp) o, k2.at fun o => k _ (by simp) o⟩
  item := by
    intro X hP hw hK hc i pins s σ H E I hf st ⟨xs, ys, hx, hy, lx, ly⟩
    subst hP hw hK
    obtain ⟨us, ru, pu⟩ := inv_seqB I hx
    obtain ⟨vs, rv, pv⟩ := inv_seqB I hy
    obtain ⟨hz, hTI, hTO, k1, k2⟩ := st
    have lu := ru.length
    have lv := rv.length
    have W := WalksT.zipD2 D (drawsB (prog := X.prog) (w := X.w) (A := X.A.in1) (I.ok.hd hc) b n1 us.toArray) (drawsB (A := X.A.in1) (I.ok.hd hc) c n2 vs.toArray)
    refine W.item i s _ E (by simp only [List.size_toArray]; omega) ⟨hz, hTI, hTO, ⟨k1, pu⟩, ⟨k2, pv⟩⟩ fun T vals h1 tk ⟨u, v, eu, ev, evs⟩ hT tT mid k => ?_
    subst evs
    obtain ⟨x, ex, rx⟩ := vals_at ru eu
    obtain ⟨y, ey, ry⟩ := vals_at rv ev
    refine ⟨_, rfl, W.go elts kk tpos i T _ _ E mid fun h2 ⟨g1, g2, g3, g4, g5⟩ k' => ?_⟩
    have nT : T ∉ [z, TO, i1, i2] := W.apart i T _ mid
    have tT2 : h2.IsTuple T #[u, v] := tT.at fun o e => k' T o nT e
    obtain ⟨oT, eT, cT, nn, dT⟩ := tT2
    have new : ObjOk X.prog X.w (upd H T (.tup [x, y])) h2 T (.tup [x, y]) := ⟨by show 2 ≤ sizeLine; decide, [u, v], .cons rx (.cons ry .nil), ⟨oT, eT, cT, nn, dT⟩⟩
    have sub : ∀ {a : Addr}, a ∉ [z, TI, TO, i1, i2] → a ∉ [z, TO, i1, i2] := fun {a} h e => h (by
      simp only [List.mem_cons, List.not_mem_nil, or_false] at e ⊢
      rcases e with e | e | e | e <;> simp [e])
    have I1 : Inv X pins σ (upd H T (.tup [x, y])) { s with heap := h2, toks := tk } := I.turnedNew (ch := [z, TI, TO, i1, i2]) (fun a o ha e => k' a o (sub ha) (k a o (sub ha) e)) hf hT new
    refine ⟨.ref T, _, I1, rfl, ⟨T, x, y, rfl, I.hok.fresh hT, rfl, fun l hl => by rw [inv_injB I hl hx]; exact ex, fun l hl => by rw [inv_injB I hl hy]; exact ey⟩, ⟨g1, g2, g3, g4.1, g5.1⟩, fun a ha => ?_⟩
    have la : a < s.heap.objs.size := by
      simp only [List.mem_cons, List.not_mem_nil, or_false] at ha
      rcases ha with rfl | rfl | rfl | rfl | rfl
      · exact Heap.lt_size hz
      · exact Heap.lt_size hTI
      · obtain ⟨_, _, e⟩ := hTO
        exact Heap.lt_size e
      · obtain ⟨_, e, _⟩ := k1.obj
        exact Heap.lt_size e
      · obtain ⟨_, e, _⟩ := k2.obj
        exact Heap.lt_size e
    rw [upd_ne (Nat.ne_of_lt (Nat.lt_of_lt_of_le la hT))]
    exact (hf a ha).1
  done := by
    intro X hP hw hK hc i pins s σ H E I hf st ⟨xs, ys, hx, hy, hn⟩
    subst hP hw hK
    obtain ⟨us, ru, pu⟩ := inv_seqB I hx
    obtain ⟨vs, rv, pv⟩ := inv_seqB I hy
    obtain ⟨hz, hTI, hTO, k1, k2⟩ := st
    have lu := ru.length
    have lv := rv.length
    have W := WalksT.zipD2 D (drawsB (prog := X.prog) (w := X.w) (A := X.A.in1) (I.ok.hd hc) b n1 us.toArray) (drawsB (A := X.A.in1) (I.ok.hd hc) c n2 vs.toArray)
    have hi : i = min us.toArray.size vs.toArray.size := by simp only [List.size_toArray]; omega
    have st' : IsZip s.heap z TI TO .none ∧ IsTupOf2 s.heap TI (.ref i1) (.ref i2) ∧ (∃ x y, IsTupOf2 s.heap TO x y) ∧ (IterB b s.heap i1 p (min us.toArray.size vs.toArray.size) ∧ IsB b s.heap p us.toArray) ∧ IterB c s.heap i2 q (min us.toArray.size vs.toArray.size) ∧ IsB c s.heap q vs.toArray := by
      rw [← hi]
      exact ⟨hz, hTI, hTO, ⟨k1, pu⟩, ⟨k2, pv⟩⟩
    refine W.done s _ E st' fun h1 tk k => ⟨rfl, I.turnedL (t' := tk) (ch := [z, TI, TO, i1, i2]) (fun a o ha e => k a o (fun z => ha (by
      simp only [List.mem_cons, List.not_mem_nil, or_false] at z ⊢
      rcases z with z | z | z | z <;> simp [z])) e) hf⟩
  self := fun A i s Q E st h => wpAny_pyIter_zip st.1 h
theorem walk_z2 {K : PySem.W.Frag} {b c : Bool} {p q : Addr} {xs ys : List V} : Walk (Jz2 K b c p q) (min xs.length ys.length) (fun H => SqB K b H p xs ∧ SqB K c H q ys) (YPair (fun i => xs[i]?) (fun i => ys[i]?)) :=
  ⟨fun i H hi g => ⟨xs, ys, g.1, g.2, by omega, by omega⟩, fun H g => ⟨xs, ys, g.1, g.2, rfl⟩, fun i H v H' _ g ⟨T, x, y, e1, e2, e3, e4, e5⟩ => ⟨T, x, y, e1, e2, e3, e4 _ g.1, e5 _ g.2⟩⟩
/-- the pairs -/
def zipD (xs ys : List D) : List D := List.zipWith (fun x y => PyData.tuple [x, y]) xs ys
theorem zipD_get {xs ys : List D} {i : Nat} {d : D} (h : (zipD xs ys)[i]? = some d) : ∃ x y, xs[i]? = some x ∧ ys[i]? = some y ∧ d = .tuple [x, y] := by
  unfold zipD at h
  rw [List.getElem?_zipWith] at h
  split at h
  · rename_i a b ea eb
    cases h
    exact ⟨a, b, ea, eb, rfl⟩
  · cases h
theorem items_z2 {K : PySem.W.Frag} {b c : Bool} {p q : Addr} {vs us : List V} {ds es : List D} {B F : Hp} (h1 : SqB K b B p vs) (a1 : DpAll K F vs ds) (h2 : SqB K c B q us) (a2 : DpAll K F us es) : Items K (Jz2 K b c p q) B F (zipD ds es) := by
  have hl : (zipD ds es).length = min vs.length us.length := by
    unfold zipD
    rw [List.length_zipWith, dal_len a1, dal_len a2]
  refine ⟨fun H => SqB K b H p vs ∧ SqB K c H q us, YPair (fun i => vs[i]?) (fun i => us[i]?), by rw [hl]; exact walk_z2, fun H1 e => ⟨sqB_ex e h1, sqB_ex e h2⟩, fun i d F1 H1 x H2 hd e1 e2 g ⟨T, v, u, ex, eT, eH, ev, eu⟩ => ?_⟩
  replace ev : vs[i]? = some v := ev
  replace eu : us[i]? = some u := eu
  obtain ⟨d1, d2, k1, k2, rfl⟩ := zipD_get hd
  obtain ⟨v', m1, m2⟩ := dal_get a1 k1
  obtain ⟨u', m3, m4⟩ := dal_get a2 k2
  rw [ev] at m1
  cases m1
  rw [eu] at m3
  cases m3
  subst ex eH
  have f := Ex.new (H := F1) (o := HO.tup [v, u]) (e2.none eT)
  exact ⟨_, Adv.laid e2 eT, .tup (SqT.of upd_same) (.cons (dp_ex (e1.trans f) _ _ m2) (.cons (dp_ex (e1.trans f) _ _ m4) .nil))⟩
theorem iterObj_free (b : Bool) (l : Addr) : (iterObj b l).isFreed = false := (beginsB b l #[]).free
/-- what a sequence is: its kind, its items -/
def kindB : D → Option (Bool × List D)
  | .list ds => some (false, ds)
  | .tuple ds => some (true, ds)
  | _ => none
theorem kindB_seq {d : D} : (kindB d).map (·.2) = seqOf d := by cases d <;> rfl
theorem kindB_of {d : D} {ds : List D} (h : seqOf d = some ds) : ∃ b, kindB d = some (b, ds) := by
  rcases seqOf_some h with rfl | rfl
  · exact ⟨false, rfl⟩
  · exact ⟨true, rfl⟩
theorem dp_kind {K : PySem.W.Frag} {F H : Hp} {v : V} {d : D} {b : Bool} {ds : List D} (h : kindB d = some (b, ds)) (p : Dp K F v d) (e : Ex F H) : ∃ a vs, v = .ref a ∧ SqB K b F a vs ∧ DpAll K F vs ds := by
  cases p <;> cases h
  · rename_i hs ha
    exact ⟨_, _, rfl, hs, ha⟩
  · rename_i hs ha
    exact ⟨_, _, rfl, hs, ha⟩
theorem tp_kind {K : PySem.W.Frag} {F H : Hp} {v : V} {d : D} {b : Bool} {ds : List D} (h : kindB d = some (b, ds)) (p : Tp K F H v d) (e : Ex F H) : ∃ a vs, v = .ref a ∧ SqB K b H a vs ∧ DpAll K F vs ds := by
  cases d <;> cases h
  · obtain ⟨a, vs, e1, e2, e3⟩ := p.list e
    exact ⟨a, vs, e1, e2, e3⟩
  · obtain ⟨a, vs, e1, e2, e3⟩ := p.tuple e
    exact ⟨a, vs, e1, e2, e3⟩
section
variable {X : Cx} {e e2 : Expr} {ta : TA} {p pos tpos : Pos} {elts : List Expr} {kk : Nat}
def iZ2 (K : PySem.W.Frag) (ta : TA) : TI := fun σ H R => ta σ H fun vs H1 => ∃ a b c d xs ys, vs = [.ref a, .ref b] ∧ SqB K c H1 a xs ∧ SqB K d H1 b ys ∧ R (Jz2 K c d a b) H1
theorem pi_z2 (hg : Gl X "zip") (hm : X.mg "zip" = none) (ha : PA X [e, e2] ta) (hs : starEach [e, e2] X.env = (false, eval e X.env) :: starEach [e2] X.env) (hpl : (backTo pos (starEach [e2] X.env)).any (·.1) = false) :
    PI X (.Tuple elts kk tpos) (.Call (.Name "zip" p) [e, e2] [] pos) (iZ2 X.K ta) := by
  refine ⟨fun pins s σ H R I h => Call_ (ld_blt I hg hm PyProof.Rows.boot_zip (PyProof.Rows.callWith_type1 (thn (ha.run pos pins s σ H _ I h) fun us s1 ⟨vs, H1, I1, r1, a, b, c, d, xs, ys, ex, hx, hy, q⟩ => ?_) hs hpl))⟩
  subst ex
  obtain ⟨u1, u2, rfl, r1, r2⟩ := vals2 r1
  cases r1
  cases r2
  obtain ⟨i1, v1, p1⟩ := inv_seqB I1 hx
  obtain ⟨i2, v2, p2⟩ := inv_seqB I1 hy
  have la := isB_lt p1
  have lb := isB_lt p2
  refine zip_begins2 (beginsB c a i1.toArray) (beginsB d b i2.toArray) p1 p2 fun h' hz hTI hTO g1 g2 hsz hk => wpAny_pyIter_zip hz ?_
  have I2 : Inv X pins σ H1 { s1 with heap := h' } := I1.kept (t' := s1.toks) hk
  have S := zip_sep2 (N := s1.heap.objs.size) (fp1 := [a]) (fp2 := [b]) (by simpa using la) (by simpa using lb)
  refine ⟨s1.heap.objs.size + 4, [s1.heap.objs.size + 4, s1.heap.objs.size + 2, s1.heap.objs.size + 3, s1.heap.objs.size, s1.heap.objs.size + 1], _, _, H1, rfl, I2,
    turn_z2 S (Nat.ne_of_lt la) (Nat.ne_of_lt (Nat.lt_succ_of_lt lb)), ⟨hz, hTI, ⟨_, _, hTO⟩, iterB_new g1, iterB_new g2⟩, fun x hx => ?_, q⟩
  have le : s1.heap.objs.size ≤ x := by
    simp only [List.mem_cons, List.not_mem_nil, or_false] at hx
    rcases hx with rfl | rfl | rfl | rfl | rfl
    · exact Nat.le_add_right _ _
    · exact Nat.le_add_right _ _
    · exact Nat.le_add_right _ _
    · exact Nat.le_refl _
    · exact Nat.le_add_right _ _
  exact I1.fpOk le (I1.hok.fresh le)
def wZip : List D → Option (List D)
  | [x, y] => (seqOf x).bind fun xs => (seqOf y).map fun ys => zipD xs ys
  | _ => none
theorem wZip_some {ds es : List D} (h : wZip ds = some es) : ∃ x y xs ys, ds = [x, y] ∧ seqOf x = some xs ∧ seqOf y = some ys ∧ es = zipD xs ys := by
  unfold wZip at h
  split at h
  · rename_i x y
    cases hx : seqOf x with
    | none => rw [hx] at h; cases h
    | some xs =>
      cases hy : seqOf y with
      | none => simp [hx, hy] at h
      | some ys =>
        have h' : zipD xs ys = es := by simpa [hx, hy] using h
        exact ⟨x, y, xs, ys, rfl, hx, hy, h'.symm⟩
  · cases h
theorem mi_zip {ma : Rho → Option (List D)} (hm : X.mg "zip" = none) (ha : MAE X [e, e2] ma) (hg : Gl X "zip" := by rfl) (hs : starEach [e, e2] X.env = (false, eval e X.env) :: starEach [e2] X.env := by rfl) (hpl : (backTo pos (starEach [e2] X.env)).any (·.1) = false := by rfl) :
    MI X (.Tuple elts kk tpos) (.Call (.Name "zip" p) [e, e2] [] pos) (mL2 wZip ma) :=
  ⟨fun F0 H0 => pi_weak (pi_z2 hg hm (ha.ok F0 H0) hs hpl) fun σ H R ⟨ρ, F, es, e1, h2, q⟩ => by
    unfold mL2 at h2
    cases hx : ma ρ with
    | none => rw [hx] at h2; cases h2
    | some ds =>
      rw [hx] at h2
      replace h2 : wZip ds = some es := h2
      obtain ⟨x, y, xs, ys, rfl, hx1, hy1, rfl⟩ := wZip_some h2
      obtain ⟨b, kb⟩ := kindB_of hx1
      obtain ⟨c, kc⟩ := kindB_of hy1
      refine ⟨ρ, F, _, e1, hx, fun vs F1 H1 a1 pa => ?_⟩
      cases pa with
      | cons t1 t2 =>
        cases t2 with
        | cons t2 t3 =>
          cases t3
          obtain ⟨a, us, ea, sa, pa⟩ := dp_kind kb t1 a1.fh
          obtain ⟨a', us', ea', sa', pa'⟩ := dp_kind kc t2 a1.fh
          subst ea ea'
          exact ⟨a, a', b, c, us, us', rfl, sqB_ex a1.fh sa, sqB_ex a1.fh sa', q _ F1 H1 a1 (items_z2 sa pa sa' pa')⟩⟩
theorem mih_zip {ma : Rho → Option (List D)} (hm : X.mg "zip" = none) (ha : MAT X [e, e2] ma) (hg : Gl X "zip" := by rfl) (hs : starEach [e, e2] X.env = (false, eval e X.env) :: starEach [e2] X.env := by rfl) (hpl : (backTo pos (starEach [e2] X.env)).any (·.1) = false := by rfl) :
    MIH X (.Tuple elts kk tpos) (.Call (.Name "zip" p) [e, e2] [] pos) (mL2 wZip ma) :=
  ⟨fun F0 H0 => pi_weak (pi_z2 hg hm (ha.ok F0 H0) hs hpl) fun σ H R ⟨ρ, F, es, e1, h2, q⟩ => by
    unfold mL2 at h2
    cases hx : ma ρ with
    | none => rw [hx] at h2; cases h2
    | some ds =>
      rw [hx] at h2
      replace h2 : wZip ds = some es := h2
      obtain ⟨x, y, xs, ys, rfl, hx1, hy1, rfl⟩ := wZip_some h2
      obtain ⟨b, kb⟩ := kindB_of hx1
      obtain ⟨c, kc⟩ := kindB_of hy1
      refine ⟨ρ, F, _, e1, hx, fun vs F1 H1 a1 ta => ?_⟩
      obtain ⟨v, v', rfl, t1, t2⟩ := tp2 ta
      obtain ⟨a, us, ea, sa, pa⟩ := tp_kind kb t1 a1.fh
      obtain ⟨a', us', ea', sa', pa'⟩ := tp_kind kc t2 a1.fh
      subst ea ea'
      exact ⟨a, a', b, c, us, us', rfl, sa, sa', q _ F1 H1 a1 (items_z2 sa pa sa' pa')⟩⟩
end

/-! ### enumerate -/
set_option maxHeartbeats 4000000 in
theorem new_enum1 {v : Value} {o : Obj} {G : Heap → Prop} (B : Begins v o G) :
    Meets (Builtin.«enumerate.__new__» ⟨[.type "enumerate", v], []⟩) (fun _ R s => G s.heap ∧ R (.ok (.ret (.ref (s.heap.push o).objs.size)))
      { s with heap := (s.heap.push o).push { cls := .type "enumerate", data := .fields #[.none, .bool false, .ref s.heap.objs.size, rawInt 0, .none, .none] } }) :=
  .of_wp fun prog w A R s h => by
    obtain ⟨hp, g, d, tk, os⟩ := s; obtain ⟨h1, h⟩ := h
    have hsub := sub_enumerate
    have it : ∀ {A' : Around} {E : Value → Shared → Prop} {Q : Value → Shared → Prop}, Q (.ref hp.objs.size) ⟨hp.push o, g, d, tk, os⟩ → wpAny (model prog w) A' (pyIter v) Q E ⟨hp, g, d, tk, os⟩ := fun q => B.iter prog w _ _ ⟨hp, g, d, tk, os⟩ _ h1 q
    wp_walk using it
    refine wpAny_stack_any fun st => wpAny_pure ?_
    split
    · rename_i c _ _ _ _ _
      cases (c == Value.type "enumerate") <;> (wp_walk using it; exact ⟨_, rfl, h⟩)
    · wp_walk using it
      exact ⟨_, rfl, h⟩
theorem call_enum1 {prog : Program} {w : World} {A : Around} {E : Value → Shared → Prop} {s : Shared} {v : Value} {o : Obj} {G : Heap → Prop} {Q : Value → Shared → Prop} (B : Begins v o G) (h1 : G s.heap)
    (h : ∀ h', IsEnum h' (s.heap.objs.size + 1) s.heap.objs.size 0 .none → h'.get? s.heap.objs.size = some o → (∀ b u, s.heap.get? b = some u → h'.get? b = some u) → Q (.ref (s.heap.objs.size + 1)) { s with heap := h' }) :
    wpAny (model prog w) A (call (.type "enumerate") [v]) Q E s := by
  have sz : (s.heap.push o).objs.size = s.heap.objs.size + 1 := Heap.size_push ..
  have here := Heap.get?_push_size (s.heap.push o) (o := { cls := .type "enumerate", data := .fields #[.none, .bool false, .ref s.heap.objs.size, rawInt 0, .none, .none] }) rfl
  refine callType_new F.called_enumerate (by decide) (F.typeCall_enumerate_1 _) (F.newCall_enumerate_1 _) (fun obj => F.args_object_init_2 obj _) F.entry_enumerate_new (new_enum1 B) ⟨h1, ?_⟩
  rw [sz] at here
  show _ ∧ _
  rw [sz]
  exact ⟨⟨_, here, rfl⟩, h _ here (Heap.get?_push_of_some _ (Heap.get?_push_size _ B.free)) fun b u x => Heap.get?_push_of_some _ (Heap.get?_push_of_some _ x)⟩
def Jen (K : PySem.W.Frag) (b : Bool) (p : Addr) : It :=
  ⟨fun i H => ∃ xs, SqB K b H p xs ∧ i < xs.length, fun i H v H' => ∃ T y, v = .ref T ∧ H T = none ∧ H' = upd H T (.tup [.int (i : Int), y]) ∧ ∀ xs, SqB K b H p xs → xs[i]? = some y, fun i H => ∃ xs, SqB K b H p xs ∧ i = xs.length⟩
theorem turn_en {P : Program} {w : World} {K : PySem.W.Frag} {elts : List Expr} {kk : Nat} {tpos : Pos} {b : Bool} {p e it : Addr} (n1 : p ≠ it) (n2 : e ≠ it) (n3 : e ≠ p) :
    Turn P w K (.Tuple elts kk tpos) (Jen K b p) [e, it] e (fun i h => (∃ old, IsEnum h e it ((i : Nat) : Int) old) ∧ IterB b h it p i) where
  mem := List.mem_cons_self ..
  obj := fun i h ⟨⟨_, he⟩, k1⟩ a ha => by
    simp only [List.mem_cons, List.not_mem_nil, or_false] at ha
    rcases ha with rfl | rfl
    · exact ⟨_, he, fun _ e => nomatch e⟩
    · exact k1.obj
  keep := fun i h h' ⟨⟨x, he⟩, k1⟩ k => ⟨⟨x, k _ (by simp) _ he⟩, k1.at fun o => k _ (by simp) o⟩
  item := by
    intro X hP hw hK hc i pins s σ H E I hf st ⟨xs, hx, lx⟩
    subst hP hw hK
    obtain ⟨us, ru, pu⟩ := inv_seqB I hx
    obtain ⟨he, k1⟩ := st
    have lu := ru.length
    have W := WalksT.enumerateD (drawsB (prog := X.prog) (w := X.w) (A := X.A.in1) (I.ok.hd hc) b n1 us.toArray) e n2 (by simp [n2, n3]) (by simp)
    refine W.item i s _ E (by simp only [List.size_toArray]; omega) ⟨he, k1, pu⟩ fun T vals h1 tk ⟨t, u, eu, evs⟩ hT tT mid k => ?_
    subst evs
    obtain ⟨x, ex, rx⟩ := vals_at ru eu
    refine ⟨_, rfl, W.go elts kk tpos i T _ _ E mid fun h2 ⟨g1, g2, g3⟩ k' => ?_⟩
    have tT2 : h2.IsTuple T #[.int i t, u] := tT.at fun o z => k' T o (W.apart i T _ mid) z
    obtain ⟨oT, eT, cT, nn, dT⟩ := tT2
    have new : ObjOk X.prog X.w (upd H T (.tup [.int (i : Int), x])) h2 T (.tup [.int (i : Int), x]) := ⟨by show 2 ≤ sizeLine; decide, [.int i t, u], .cons ⟨_, rfl⟩ (.cons rx .nil), ⟨oT, eT, cT, nn, dT⟩⟩
    have I1 : Inv X pins σ (upd H T (.tup [.int (i : Int), x])) { s with heap := h2, toks := tk } := I.turnedNew (ch := [e, it]) (fun a o ha z => k' a o ha (k a o ha z)) hf hT new
    refine ⟨.ref T, _, I1, rfl, ⟨T, x, rfl, I.hok.fresh hT, rfl, fun l hl => by rw [inv_injB I hl hx]; exact ex⟩, ⟨g1, g2⟩, fun a ha => ?_⟩
    have la : a < s.heap.objs.size := by
      simp only [List.mem_cons, List.not_mem_nil, or_false] at ha
      rcases ha with rfl | rfl
      · obtain ⟨_, z⟩ := he
        exact Heap.lt_size z
      · obtain ⟨_, z, _⟩ := k1.obj
        exact Heap.lt_size z
    rw [upd_ne (Nat.ne_of_lt (Nat.lt_of_lt_of_le la hT))]
    exact (hf a ha).1
  done := by
    intro X hP hw hK hc i pins s σ H E I hf st ⟨xs, hx, hn⟩
    subst hP hw hK
    obtain ⟨us, ru, pu⟩ := inv_seqB I hx
    obtain ⟨he, k1⟩ := st
    have lu := ru.length
    have W := WalksT.enumerateD (drawsB (prog := X.prog) (w := X.w) (A := X.A.in1) (I.ok.hd hc) b n1 us.toArray) e n2 (by simp [n2, n3]) (by simp)
    have hi : i = us.toArray.size := by simp only [List.size_toArray]; omega
    have st' : (∃ old, IsEnum s.heap e it ((us.toArray.size : Nat) : Int) old) ∧ IterB b s.heap it p us.toArray.size ∧ IsB b s.heap p us.toArray := by
      rw [← hi]
      exact ⟨he, k1, pu⟩
    exact W.done s _ E st' fun h1 tk k => ⟨rfl, I.turnedL (t' := tk) (ch := [e, it]) (fun a o ha z => k a o ha z) hf⟩
  self := fun A i s Q E st h => wpAny_pyIter_enum st.1.choose_spec h
/-- the pairs of place and item -/
def enumFrom (n : Nat) : List D → List D
  | [] => []
  | x :: xs => .tuple [.int (n : Int), x] :: enumFrom (n + 1) xs
theorem enumFrom_len : ∀ (xs : List D) (n : Nat), (enumFrom n xs).length = xs.length
  | [], _ => rfl
  | x :: xs, n => congrArg (· + 1) (enumFrom_len xs (n + 1))
theorem enumFrom_get : ∀ (xs : List D) (n i : Nat) {d : D}, (enumFrom n xs)[i]? = some d → ∃ x, xs[i]? = some x ∧ d = .tuple [.int ((n + i : Nat) : Int), x]
  | [], _, _, _, h => by cases h
  | x :: xs, n, 0, d, h => by cases h; exact ⟨x, rfl, rfl⟩
  | x :: xs, n, i + 1, d, h => by
    obtain ⟨y, h1, h2⟩ := enumFrom_get xs (n + 1) i (d := d) (by simpa [enumFrom] using h)
    exact ⟨y, by simpa using h1, by rw [h2]; congr 4; omega⟩
theorem items_en {K : PySem.W.Frag} {b : Bool} {p : Addr} {vs : List V} {ds : List D} {B F : Hp} (h1 : SqB K b B p vs) (a1 : DpAll K F vs ds) : Items K (Jen K b p) B F (enumFrom 0 ds) := by
  have hl : (enumFrom 0 ds).length = vs.length := by rw [enumFrom_len, dal_len a1]
  refine ⟨fun H => SqB K b H p vs, YPair (fun i => some (.int (i : Int))) (fun i => vs[i]?), by
    rw [hl]
    exact ⟨fun i H hi g => ⟨vs, g, hi⟩, fun H g => ⟨vs, g, rfl⟩, fun i H v H' _ g ⟨T, y, e1, e2, e3, e4⟩ => ⟨T, _, y, e1, e2, e3, rfl, e4 _ g⟩⟩, fun H1 e => sqB_ex e h1, fun i d F1 H1 x H2 hd e1 e2 g ⟨T, v, u, ex, eT, eH, ev, eu⟩ => ?_⟩
  replace eu : vs[i]? = some u := eu
  obtain ⟨d1, k1, rfl⟩ := enumFrom_get _ _ _ hd
  obtain ⟨v', m1, m2⟩ := dal_get a1 k1
  rw [eu] at m1
  cases m1
  cases ev
  subst ex eH
  have f := Ex.new (H := F1) (o := HO.tup [.int (i : Int), u]) (e2.none eT)
  rw [Nat.zero_add]
  exact ⟨_, Adv.laid e2 eT, .tup (SqT.of upd_same) (.cons (.int _) (.cons (dp_ex (e1.trans f) _ _ m2) .nil))⟩
section
variable {X : Cx} {e : Expr} {ta : TA} {p pos tpos : Pos} {elts : List Expr} {kk : Nat}
def iEn (K : PySem.W.Frag) (ta : TA) : TI := fun σ H R => ta σ H fun vs H1 => ∃ a b xs, vs = [.ref a] ∧ SqB K b H1 a xs ∧ R (Jen K b a) H1
theorem pi_en (hg : Gl X "enumerate") (hm : X.mg "enumerate" = none) (ha : PA X [e] ta) (hs : starEach [e] X.env = [(false, eval e X.env)]) : PI X (.Tuple elts kk tpos) (.Call (.Name "enumerate" p) [e] [] pos) (iEn X.K ta) := by
  refine ⟨fun pins s σ H R I h => Call_ (ld_blt I hg hm boot_enumerate (PyProof.Rows.callWith_type1 (thn (ha.run pos pins s σ H _ I h) fun us s1 ⟨vs, H1, I1, r1, a, b, xs, ex, hx, q⟩ => ?_) hs rfl))⟩
  subst ex
  obtain ⟨u1, rfl, r2⟩ := vals1 r1
  obtain rfl : u1 = Value.ref a := r2
  obtain ⟨i1, v1, p1⟩ := inv_seqB I1 hx
  have la := isB_lt p1
  refine call_enum1 (G := fun h => IsB b h a i1.toArray) (beginsB b a i1.toArray) p1 fun h' he g1 hk => wpAny_pyIter_enum he ?_
  have I2 : Inv X pins σ H1 { s1 with heap := h' } := I1.kept (t' := s1.toks) hk
  refine ⟨s1.heap.objs.size + 1, [s1.heap.objs.size + 1, s1.heap.objs.size], _, _, H1, rfl, I2, turn_en (Nat.ne_of_lt la) (Nat.succ_ne_self _) (Nat.ne_of_gt (Nat.lt_succ_of_lt la)), ⟨⟨.none, he⟩, iterB_new g1⟩, fun x hx => ?_, q⟩
  have le : s1.heap.objs.size ≤ x := by
    simp only [List.mem_cons, List.not_mem_nil, or_false] at hx
    rcases hx with rfl | rfl
    · exact Nat.le_add_right _ _
    · exact Nat.le_refl _
  exact I1.fpOk le (I1.hok.fresh le)
def wEnumerate : List D → Option (List D)
  | [x] => (seqOf x).map (enumFrom 0)
  | _ => none
theorem wEnum_some {ds es : List D} (h : wEnumerate ds = some es) : ∃ x xs, ds = [x] ∧ seqOf x = some xs ∧ es = enumFrom 0 xs := by
  unfold wEnumerate at h
  split at h
  · rename_i x
    cases hx : seqOf x with
    | none => rw [hx] at h; cases h
    | some xs =>
      rw [hx] at h
      cases h
      exact ⟨x, xs, rfl, hx, rfl⟩
  · cases h
theorem mi_enumerate {ma : Rho → Option (List D)} (hm : X.mg "enumerate" = none) (ha : MAE X [e] ma) (hg : Gl X "enumerate" := by rfl) (hs : starEach [e] X.env = [(false, eval e X.env)] := by rfl) :
    MI X (.Tuple elts kk tpos) (.Call (.Name "enumerate" p) [e] [] pos) (mL2 wEnumerate ma) :=
  ⟨fun F0 H0 => pi_weak (pi_en hg hm (ha.ok F0 H0) hs) fun σ H R ⟨ρ, F, es, e1, h2, q⟩ => by
    unfold mL2 at h2
    cases hx : ma ρ with
    | none => rw [hx] at h2; cases h2
    | some ds =>
      rw [hx] at h2
      replace h2 : wEnumerate ds = some es := h2
      obtain ⟨x, xs, rfl, hx1, rfl⟩ := wEnum_some h2
      obtain ⟨b, kb⟩ := kindB_of hx1
      refine ⟨ρ, F, _, e1, hx, fun vs F1 H1 a1 pa => ?_⟩
      cases pa with
      | cons t1 t2 =>
        cases t2
        obtain ⟨a, us, ea, sa, pa⟩ := dp_kind kb t1 a1.fh
        subst ea
        exact ⟨a, b, us, rfl, sqB_ex a1.fh sa, q _ F1 H1 a1 (items_en sa pa)⟩⟩
theorem mih_enumerate {ma : Rho → Option (List D)} (hm : X.mg "enumerate" = none) (ha : MAT X [e] ma) (hg : Gl X "enumerate" := by rfl) (hs : starEach [e] X.env = [(false, eval e X.env)] := by rfl) :
    MIH X (.Tuple elts kk tpos) (.Call (.Name "enumerate" p) [e] [] pos) (mL2 wEnumerate ma) :=
  ⟨fun F0 H0 => pi_weak (pi_en hg hm (ha.ok F0 H0) hs) fun σ H R ⟨ρ, F, es, e1, h2, q⟩ => by
    unfold mL2 at h2
    cases hx : ma ρ with
    | none => rw [hx] at h2; cases h2
    | some ds =>
      rw [hx] at h2
      replace h2 : wEnumerate ds = some es := h2
      obtain ⟨x, xs, rfl, hx1, rfl⟩ := wEnum_some h2
      obtain ⟨b, kb⟩ := kindB_of hx1
      refine ⟨ρ, F, _, e1, hx, fun vs F1 H1 a1 ta => ?_⟩
      obtain ⟨v, rfl, t1⟩ := tp1 ta
      obtain ⟨a, us, ea, sa, pa⟩ := tp_kind kb t1 a1.fh
      subst ea
      exact ⟨a, b, us, rfl, sa, q _ F1 H1 a1 (items_en sa pa)⟩⟩
end
end MV

set_option maxRecDepth 100000
set_option maxHeartbeats 4000000
/-! how a mirror is worked out, one rule a construct -/
namespace MV
open PySem PySem.Spec PyProof.Rows L2
section
variable {ρ ρ1 ρ' : Rho} {m ma mb mc : Rho → Option D} {a b : Rho → Option Res} {r r1 r' : Res} {R : Option Res} {d d' x y : D} {ds es : List D} {i j : Nat} {c : Cell} {g2 : D → D → Option D} {g1 : D → Option D} {gl : List D → Option D} {mr : Rho → Option (List D)} {t u : Bool} {mt mu : Rho → Option Bool}
theorem run_ok {n k : Nat} {body : Rho → Option Res} (h : body (ds.map Cell.dat ++ List.replicate k Cell.un) = some (.rt d')) (hl : ds.length = n) (e : d' = d) : runDef n k body ds = some d := by
  subst e
  unfold runDef
  rw [if_pos hl, h]
  rfl
theorem run_ok1 {k : Nat} {body : Rho → Option Res} (h : body (.dat d :: List.replicate k Cell.un) = some (.rt d')) (e : d' = x) : runDef 1 k body [d] = some x := run_ok h rfl e
/-! slots -/
theorem set_0 {l : Rho} {c' : Cell} : (c' :: l).set 0 c = c :: l := rfl
theorem set_s {l l' : Rho} {c' : Cell} (h : l.set i c = l') : (c' :: l).set (i + 1) c = c' :: l' := by rw [List.set_cons_succ, h]
theorem wipe_0 : wipeR ρ [] = ρ := rfl
theorem wipe_s {vs : List Nat} (h : wipeR ρ vs = ρ1) (h2 : ρ1.set i .un = ρ') : wipeR ρ (i :: vs) = ρ' := by rw [wipeR, h, h2]
theorem var_0 {l : Rho} : mVar 0 (.dat d :: l) = some d := rfl
theorem var_s {l : Rho} (h : mVar i l = some d) : mVar (i + 1) (c :: l) = some d := by
  unfold mVar at h ⊢
  rw [List.getElem?_cons_succ]
  exact h
theorem own_0 {l : Rho} : mOwn 0 (.own ds :: l) = some (.list ds) := rfl
theorem own_0d {l : Rho} : mOwn 0 (.dat d :: l) = some d := rfl
theorem own_s {l : Rho} (h : mOwn i l = some d) : mOwn (i + 1) (c :: l) = some d := by
  unfold mOwn at h ⊢
  rw [List.getElem?_cons_succ]
  exact h
/-! statements -/
theorem seq_ok (h : a ρ = some r1) (h2 : thenR r1 b = R) : mSeq a b ρ = R := by
  unfold mSeq
  rw [h]
  exact h2
theorem then_nx (h : b ρ = R) : thenR (.nx ρ) b = R := h
theorem then_rt : thenR (.rt d) b = some (.rt d) := rfl
theorem then_bk : thenR (.bk ρ) b = some (.bk ρ) := rfl
theorem then_ct : thenR (.ct ρ) b = some (.ct ρ) := rfl
theorem st_set (h : m ρ = some d) (h2 : ρ.set i (.dat d) = ρ') : mSet i m ρ = some (.nx ρ') := by
  unfold mSet
  rw [h, ← h2]
  rfl
theorem st_setO (h : mr ρ = some ds) (h2 : ρ.set i (.own ds) = ρ') : mSetO i mr ρ = some (.nx ρ') := by
  unfold mSetO
  rw [h, ← h2]
  rfl
theorem st_ret (h : m ρ = some d) : mRet m ρ = some (.rt d) := by
  unfold mRet
  rw [h]
  rfl
theorem st_drop (h : m ρ = some d) : mDrop m ρ = some (.nx ρ) := by
  unfold mDrop
  rw [h]
  rfl
theorem retO_0 {l : Rho} : mRetO 0 (.own ds :: l) = some (.rt (.list ds)) := rfl
theorem retO_0d {l : Rho} : mRetO 0 (.dat d :: l) = some (.rt d) := rfl
theorem retO_s {l : Rho} (h : mRetO i l = some r) : mRetO (i + 1) (c :: l) = some r := by
  unfold mRetO at h ⊢
  rw [List.getElem?_cons_succ]
  exact h
theorem st_skip : mSkip ρ = some (.nx ρ) := rfl
theorem st_brk : mBrk ρ = some (.bk ρ) := rfl
theorem st_cnt : mCnt ρ = some (.ct ρ) := rfl
theorem st_if (h : mt ρ = some t) (h2 : (if t = true then a ρ else b ρ) = R) : mIfS mt a b ρ = R := by
  unfold mIfS
  rw [h]
  exact h2
theorem st_post {vs : List Nat} (h : a ρ = some r) (h2 : postR vs r = r') : mPost vs a ρ = some r' := by
  unfold mPost
  rw [h, ← h2]
  rfl
theorem post_nx {vs : List Nat} (h : wipeR ρ vs = ρ') : postR vs (.nx ρ) = .nx ρ' := by rw [← h]; rfl
theorem post_bk {vs : List Nat} (h : wipeR ρ vs = ρ') : postR vs (.bk ρ) = .bk ρ' := by rw [← h]; rfl
theorem post_ct {vs : List Nat} (h : wipeR ρ vs = ρ') : postR vs (.ct ρ) = .ct ρ' := by rw [← h]; rfl
theorem post_rt {vs : List Nat} : postR vs (.rt d) = .rt d := rfl
theorem app_at (h : m ρ = some d) (h2 : ρ[i]? = some (.own ds)) (h3 : ds.length < 100000) (h4 : ρ.set i (.own (ds ++ [d])) = ρ') : mApp i m ρ = some (.nx ρ') := by
  unfold mApp
  rw [h, h2, ← h4]
  show (if ds.length < 100000 then _ else _) = _
  rw [if_pos h3]
theorem get_0 {l : Rho} : (c :: l)[0]? = some c := rfl
theorem get_s {l : Rho} {c' : Cell} (h : l[i]? = some c) : (c' :: l)[i + 1]? = some c := by rw [List.getElem?_cons_succ, h]
theorem st_par (h : ma ρ = some x) (h2 : mb ρ = some y) (h3 : ρ.set i (.dat x) = ρ1) (h4 : ρ1.set j (.dat y) = ρ') : mPar i j ma mb ρ = some (.nx ρ') := by
  unfold mPar
  rw [h, Option.bind_some, h2, ← h4, ← h3]
  rfl
theorem st_asg {mg : D → Rho → Option Rho} (h : m ρ = some d) (h2 : mg d ρ = some ρ') : mAsg mg m ρ = some (.nx ρ') := by
  unfold mAsg
  rw [h, Option.bind_some, h2]
  rfl
theorem tg_set (h : ρ.set i (.dat d) = ρ') : gSet i d ρ = some ρ' := by rw [← h]; rfl
theorem tg_tup {gs : List D → Rho → Option Rho} (h : gs ds ρ = some ρ') : gTupD gs (.tuple ds) ρ = some ρ' := h
theorem tg_cons {g : D → Rho → Option Rho} {gs : List D → Rho → Option Rho} (h : g d ρ = some ρ1) (h2 : gs ds ρ1 = some ρ') : gsCons g gs (d :: ds) ρ = some ρ' := by
  show (g d ρ).bind _ = _
  rw [h]
  exact h2
theorem tg_nil : gsNil [] ρ = some ρ := rfl
theorem st_for {src : Rho → Option (List D)} {mg : D → Rho → Option Rho} {mb : Rho → Option Res} (h : src ρ = some ds) (h2 : loopD mg mb ds ρ = R) : mFor src mg mb ρ = R := by
  unfold mFor
  rw [h]
  exact h2
theorem st_frz (h : ρ[i]? = some (.own ds)) (h2 : ρ.set i (.dat (.list ds)) = ρ') (h3 : a ρ' = R) : mFrz i a ρ = R := by
  unfold mFrz
  rw [h]
  show a (ρ.set i (.dat (.list ds))) = R
  rw [h2, h3]
theorem put_at {z : Int} {n : Nat} (h : m ρ = some d) (h2 : ma ρ = some (.int z)) (h3 : ρ[i]? = some (.own ds)) (h4 : ixN ds.length z = some n) (h5 : ρ.set i (.own (ds.set n d)) = ρ') : mPut i ma m ρ = some (.nx ρ') := by
  unfold mPut
  have e : putCell (some (.own ds)) (.int z) d = some (ds.set n d) := by
    show (ixN ds.length z).map _ = _
    rw [h4]
    rfl
  rw [h, Option.bind_some, h2, Option.bind_some, h3, e, ← h5]
  rfl
/-! walks -/
theorem src_seq (h : m ρ = some d) (h2 : seqOf d = some ds) : mSeqOf m ρ = some ds := by
  unfold mSeqOf
  rw [h]
  exact h2
theorem seq_l : seqOf (.list ds) = some ds := rfl
theorem seq_t : seqOf (.tuple ds) = some ds := rfl
theorem src_2 {g : List D → Option (List D)} (h : mr ρ = some ds) (h2 : g ds = some es) : mL2 g mr ρ = some es := by
  unfold mL2
  rw [h]
  exact h2
theorem zip_ok {xs ys : List D} (h : seqOf x = some xs) (h2 : seqOf y = some ys) : wZip [x, y] = some (zipD xs ys) := by
  show (seqOf x).bind _ = _
  rw [h, Option.bind_some, h2]
  rfl
theorem enum_ok {xs : List D} (h : seqOf x = some xs) : wEnumerate [x] = some (enumFrom 0 xs) := by
  show (seqOf x).map _ = _
  rw [h]
  rfl
/-! expressions -/
theorem ex_2 (h : ma ρ = some x) (h2 : mb ρ = some y) (h3 : g2 x y = some d) : m2 g2 ma mb ρ = some d := by
  unfold m2
  rw [h, Option.bind_some, h2]
  exact h3
theorem ex_1 (h : ma ρ = some x) (h3 : g1 x = some d) : m1 g1 ma ρ = some d := by
  unfold m1
  rw [h]
  exact h3
theorem ex_c : mC d ρ = some d := rfl
theorem ex_fn (h : mr ρ = some ds) (h2 : gl ds = some d) : mFn gl mr ρ = some d := by
  unfold mFn
  rw [h]
  exact h2
theorem ex_call0 {mf : List D → Option D} (h : mr ρ = some ds) (h2 : mf ds = some d) : mCall mf [] mr ρ = some d := by
  unfold mCall
  rw [h]
  show mf (ds ++ []) = _
  rw [List.append_nil]
  exact h2
theorem ex_call {mf : List D → Option D} {dds : List D} (h : mr ρ = some ds) (h2 : mf (ds ++ dds) = some d) : mCall mf dds mr ρ = some d := by
  unfold mCall
  rw [h]
  exact h2
theorem ar_nil : mNil ρ = some [] := rfl
theorem ar_cons (h : ma ρ = some d) (h2 : mr ρ = some ds) : mCons ma mr ρ = some (d :: ds) := by
  unfold mCons
  rw [h, Option.bind_some, h2]
  rfl
theorem len_0 {n : Nat} : ([] : List D).length ≤ n := Nat.zero_le _
theorem len_s {n : Nat} (h : ds.length ≤ n) : (d :: ds).length ≤ n + 1 := Nat.succ_le_succ h
theorem ex_tup (h : mr ρ = some ds) (h2 : ds.length ≤ 100000) : mTup mr ρ = some (.tuple ds) := by
  unfold mTup
  rw [h]
  exact if_pos h2
theorem ex_lst (h : mr ρ = some ds) (h2 : ds.length ≤ 100000) : mLst mr ρ = some ds := by
  unfold mLst
  rw [h]
  exact if_pos h2
theorem ex_l (h : mr ρ = some ds) : mL mr ρ = some (.list ds) := by
  unfold mL
  rw [h]
  rfl
theorem bo_as (h : m ρ = some (.bool t)) : mAsB m ρ = some t := by
  unfold mAsB
  rw [h]
  rfl
theorem bo_tru (h : m ρ = some d) (h2 : dTru d = some t) : mTru m ρ = some t := by
  unfold mTru
  rw [h]
  exact h2
theorem bo_and (h : mt ρ = some t) (h2 : (if t = true then mu ρ else some false) = some u) : mAnd mt mu ρ = some u := by
  unfold mAnd
  rw [h]
  exact h2
theorem bo_or (h : mt ρ = some t) (h2 : (if t = true then some true else mu ρ) = some u) : mOr mt mu ρ = some u := by
  unfold mOr
  rw [h]
  exact h2
theorem bo_not (h : mt ρ = some t) (h2 : (!t) = u) : mNot mt ρ = some u := by
  unfold mNot
  rw [h, ← h2]
  rfl
theorem not_t : (!true) = false := rfl
theorem not_f : (!false) = true := rfl
theorem ex_and (h : mAsB ma ρ = some t) (h2 : (if t = true then mb ρ else some (.bool false)) = some d) : mAndV ma mb ρ = some d := by
  unfold mAndV
  rw [h]
  exact h2
theorem ex_or (h : mAsB ma ρ = some t) (h2 : (if t = true then some (.bool true) else mb ρ) = some d) : mOrV ma mb ρ = some d := by
  unfold mOrV
  rw [h]
  exact h2
theorem ex_not (h : mAsB ma ρ = some t) (h2 : (!t) = u) : mNotV ma ρ = some (.bool u) := by
  unfold mNotV
  rw [h, ← h2]
  rfl
theorem ex_if (h : mt ρ = some t) (h2 : (if t = true then ma ρ else mb ρ) = some d) : mIf mt ma mb ρ = some d := by
  unfold mIf
  rw [h]
  exact h2
theorem ite_t {α : Type} {x y z : α} (h : t = true) (h2 : x = z) : (if t = true then x else y) = z := by rw [if_pos h, h2]
theorem ite_f {α : Type} {x y z : α} (h : t = false) (h2 : y = z) : (if t = true then x else y) = z := by rw [h]; exact h2
theorem ite_tt {α : Type} {x y z : α} {inst : Decidable (true = true)} (h2 : x = z) : @ite α (true = true) inst x y = z := by rw [if_pos rfl, h2]
theorem ite_ff {α : Type} {x y z : α} {inst : Decidable (false = true)} (h2 : y = z) : @ite α (false = true) inst x y = z := by rw [if_neg Bool.false_ne_true, h2]
theorem ite_dt {α : Type} {x y z : α} {p : Prop} [Decidable p] (h : p) (h2 : x = z) : (if decide p = true then x else y) = z := by rw [if_pos (decide_eq_true h), h2]
theorem ite_df {α : Type} {x y z : α} {p : Prop} [Decidable p] (h : ¬ p) (h2 : y = z) : (if decide p = true then x else y) = z := by rw [if_neg (by simpa using h), h2]
theorem ite_et {α : Type} {x y z : α} {p q : Int} (h : p = q) (h2 : x = z) : (if (p == q) = true then x else y) = z := by rw [if_pos (by simpa using h), h2]
theorem ite_ef {α : Type} {x y z : α} {p q : Int} (h : p ≠ q) (h2 : y = z) : (if (p == q) = true then x else y) = z := by rw [if_neg (by simpa using h), h2]
/-! operations -/
section
variable {p q : Int}
theorem op_add' : dAdd (.int p) (.int q) = some (.int (p + q)) := rfl
theorem op_addL (h : ds.length + es.length ≤ 100000) : dAdd (.list ds) (.list es) = some (.list (ds ++ es)) := if_pos h
theorem op_addT (h : ds.length + es.length ≤ 100000) : dAdd (.tuple ds) (.tuple es) = some (.tuple (ds ++ es)) := if_pos h
theorem op_sub' : dSub (.int p) (.int q) = some (.int (p - q)) := rfl
theorem op_neg' : dNeg (.int p) = some (.int (-p)) := rfl
theorem op_lt' : dLt (.int p) (.int q) = some (.bool (decide (p < q))) := rfl
theorem op_le' : dLe (.int p) (.int q) = some (.bool (decide (p ≤ q))) := rfl
theorem op_gt' : dGt (.int p) (.int q) = some (.bool (decide (q < p))) := rfl
theorem op_ge' : dGe (.int p) (.int q) = some (.bool (decide (q ≤ p))) := rfl
theorem op_pow' (h : 0 ≤ q ∧ q ≤ 1000 ∧ p.natAbs < 2 ^ 64) : dPow (.int p) (.int q) = some (.int (p ^ q.toNat)) := if_pos h
theorem op_p18 : dPow (.int 10) (.int 18) = some (.int 1000000000000000000) := by
  rw [op_pow' (by decide)]
  rfl
theorem op_p9 : dPow (.int 10) (.int 9) = some (.int 1000000000) := by
  rw [op_pow' (by decide)]
  rfl
theorem op_p30 : dPow (.int 10) (.int 30) = some (.int 1000000000000000000000000000000) := by
  rw [op_pow' (by decide)]
  rfl
theorem op_eqI : dEq (.int p) (.int q) = some (.bool (p == q)) := by rw [dEq_ok (eqOk_int _ _), eqv_int]
theorem op_neI : dNe (.int p) (.int q) = some (.bool (!(p == q))) := by rw [dNe_ok (eqOk_int _ _), eqv_int]
theorem op_eqS {s z : Str} : dEq (.str s) (.str z) = some (.bool (s == z)) := by rw [dEq_ok (eqOk_str _ _), eqv_str]
theorem op_neS {s z : Str} : dNe (.str s) (.str z) = some (.bool (!(s == z))) := by rw [dNe_ok (eqOk_str _ _), eqv_str]
theorem op_eqSS {s : Str} : dEq (.str s) (.str s) = some (.bool true) := by rw [op_eqS, str_self]
theorem op_neSS {s : Str} : dNe (.str s) (.str s) = some (.bool false) := by rw [op_neS, str_self]; rfl
theorem op_eqB {s z : Bool} : dEq (.bool s) (.bool z) = some (.bool (s == z)) := by rw [dEq_ok (eqOk_bool _ _), eqv_bool]
theorem op_neB {s z : Bool} : dNe (.bool s) (.bool z) = some (.bool (!(s == z))) := by rw [dNe_ok (eqOk_bool _ _), eqv_bool]
theorem op_ixL (h : atI ds p = some d) : dIx (.list ds) (.int p) = some d := h
theorem op_ixT (h : atI ds p = some d) : dIx (.tuple ds) (.int p) = some d := h
theorem at_0 : atI (d :: ds) 0 = some d := atI_nat (j := 0) rfl
theorem atI_cons {k : Nat} : atI (d :: ds) ((k + 1 : Nat) : Int) = atI ds (k : Int) := by
  have nat : ∀ (l : List D) (n : Nat), atI l (n : Int) = l[n]? := fun l n => by
    cases h : l[n]? with
    | some v => exact atI_nat h
    | none =>
      unfold atI ixN
      rw [if_pos (by omega)]
      have := List.getElem?_eq_none_iff.mp h
      rw [if_neg (by omega)]
      rfl
  rw [nat, nat, List.getElem?_cons_succ]
theorem at_s {k : Nat} {z : Int} (e : z = ((k + 1 : Nat) : Int)) (h : atI ds (k : Int) = some d) : atI (d' :: ds) z = some d := by rw [e, atI_cons, h]
theorem at_map {α : Type} {f : α → D} {xs : List α} {k : Nat} {v : α} (h : xs[k]? = some v) : atI (xs.map f) (k : Int) = some (f v) := atI_nat (by rw [List.getElem?_map, h]; rfl)
theorem fn_len : fLen [.list ds] = some (.int ds.length) := rfl
theorem fn_lenT : fLen [.tuple ds] = some (.int ds.length) := rfl
theorem fn_int : fInt [.int p] = some (.int p) := rfl
theorem fn_intB : fInt [.bool t] = some (.int (if t then 1 else 0)) := rfl
theorem abs_at : (if p < 0 then -p else p) = (p.natAbs : Int) := by split <;> omega
theorem fn_abs : fAbs [.int p] = some (.int (p.natAbs : Int)) := by
  show some (PyData.int (if p < 0 then -p else p)) = _
  rw [abs_at]
theorem fn_gcd : fGcd [.int p, .int q] = some (.int ((Nat.gcd p.natAbs q.natAbs : Nat) : Int)) := rfl
theorem fn_tupL : fTuple [.list ds] = some (.tuple ds) := rfl
theorem fn_tupT : fTuple [.tuple ds] = some (.tuple ds) := rfl
theorem fn_lstL : fList [.list ds] = some (.list ds) := rfl
theorem fn_lstT : fList [.tuple ds] = some (.list ds) := rfl
theorem fn_sum {ns : List Int} (h : intsD ds = some ns) : fSum [.list ds] = some (.int ns.sum) := by
  show (intsD ds).map _ = _
  rw [h]
  rfl
end
/-! loops, comprehensions -/
theorem loop_nil {mg : D → Rho → Option Rho} {mb : Rho → Option Res} : loopD mg mb [] ρ = some (.nx ρ) := rfl
theorem loop_cons {mg : D → Rho → Option Rho} {mb : Rho → Option Res} (h1 : mg d ρ = some ρ1) (h2 : mb ρ1 = some (.nx ρ')) (h3 : loopD mg mb ds ρ' = R) : loopD mg mb (d :: ds) ρ = R := by
  rw [loopD, h1, Option.bind_some, h2]
  exact h3
theorem loop_ct {mg : D → Rho → Option Rho} {mb : Rho → Option Res} (h1 : mg d ρ = some ρ1) (h2 : mb ρ1 = some (.ct ρ')) (h3 : loopD mg mb ds ρ' = R) : loopD mg mb (d :: ds) ρ = R := by
  rw [loopD, h1, Option.bind_some, h2]
  exact h3
theorem loop_bk {mg : D → Rho → Option Rho} {mb : Rho → Option Res} (h1 : mg d ρ = some ρ1) (h2 : mb ρ1 = some (.bk ρ')) : loopD mg mb (d :: ds) ρ = some (.nx ρ') := by
  rw [loopD, h1, Option.bind_some, h2]
  rfl
theorem loop_rt {mg : D → Rho → Option Rho} {mb : Rho → Option Res} (h1 : mg d ρ = some ρ1) (h2 : mb ρ1 = some (.rt x)) : loopD mg mb (d :: ds) ρ = some (.rt x) := by
  rw [loopD, h1, Option.bind_some, h2]
  rfl
/-- a loop that goes through every item: the state is told by enc, and P holds of it -/
theorem loop_fold {α S : Type} {mg : D → Rho → Option Rho} {mb : Rho → Option Res} (g : α → D) (enc : S → Rho) (f : S → α → S) (P : S → Prop) : ∀ (xs : List α) (s : S), P s →
    (∀ s x, x ∈ xs → P s → P (f s x) ∧ ∃ ρ1, mg (g x) (enc s) = some ρ1 ∧ mb ρ1 = some (.nx (enc (f s x)))) → loopD mg mb (xs.map g) (enc s) = some (.nx (enc (xs.foldl f s))) ∧ P (xs.foldl f s)
  | [], s, h, _ => ⟨rfl, h⟩
  | x :: xs, s, h, w => by
    obtain ⟨h1, ρ1, h2, h3⟩ := w s x List.mem_cons_self h
    obtain ⟨k1, k2⟩ := loop_fold g enc f P xs (f s x) h1 fun s y hy => w s y (List.mem_cons_of_mem _ hy)
    exact ⟨loop_cons h2 h3 k1, k2⟩
/-- a loop that looks for the first item that is out -/
theorem loop_find {α : Type} {mg : D → Rho → Option Rho} {mb : Rho → Option Res} (g : α → D) (ρ : Rho) (ok : α → Bool) (out : α → D) : ∀ xs : List α,
    (∀ x, x ∈ xs → ∃ ρ1, mg (g x) ρ = some ρ1 ∧ mb ρ1 = some (if ok x = true then .nx ρ else .rt (out x))) → loopD mg mb (xs.map g) ρ = some (match xs.find? (fun x => !ok x) with | some x => .rt (out x) | none => .nx ρ)
  | [], _ => rfl
  | x :: xs, w => by
    obtain ⟨ρ1, h2, h3⟩ := w x List.mem_cons_self
    have ih := loop_find g ρ ok out xs fun y hy => w y (List.mem_cons_of_mem _ hy)
    cases hx : ok x with
    | true =>
      rw [hx] at h3
      rw [List.find?_cons, hx]
      exact loop_cons h2 h3 ih
    | false =>
      rw [hx] at h3
      rw [List.find?_cons, hx]
      exact loop_rt h2 h3
/-- one item of a comprehension -/
def CompEl (mg : D → Rho → Option Rho) (me : Rho → Option D) (ρ : Rho) (vs : List Nat) (d y : D) : Prop := ∃ ρ1, mg d (wipeR ρ vs) = some ρ1 ∧ me ρ1 = some y
theorem comp_el {mg : D → Rho → Option Rho} {me : Rho → Option D} {vs : List Nat} {ρ0 : Rho} {z : D} (h0 : wipeR ρ vs = ρ0) (h1 : mg d ρ0 = some ρ1) (h2 : me ρ1 = some y) (h3 : y = z) : CompEl mg me ρ vs d z := ⟨ρ1, by rw [h0]; exact h1, by rw [h2, h3]⟩
theorem comp_at {α : Type} {mg : D → Rho → Option Rho} {me : Rho → Option D} {vs : List Nat} {src : Rho → Option (List D)} (g f : α → D) (xs : List α) (hs : src ρ = some (xs.map g)) (hl : xs.length < 100000)
    (h : ∀ x ∈ xs, CompEl mg me ρ vs (g x) (f x)) : mLc src mg mYes me vs ρ = some (xs.map f) := by
  unfold mLc
  rw [hs, Option.bind_some, if_pos (by rw [List.length_map]; exact hl)]
  clear hl hs
  have step : ∀ ys : List α, (∀ y ∈ ys, y ∈ xs) → compD mg mYes me (wipeR ρ vs) (ys.map g) = some (ys.map f) := fun ys => by
    induction ys with
    | nil => exact fun _ => rfl
    | cons y ys ih2 =>
      intro hy
      obtain ⟨ρ2, k1, k2⟩ := h y (hy y List.mem_cons_self)
      have k3 := ih2 fun z hz => hy z (List.mem_cons_of_mem _ hz)
      simp only [List.map_cons, compD, mYes, k1, k2, k3, Option.bind_some, if_true, Option.map_some]
  exact step xs fun _ h => h
/-- with a test -/
def CompTs (mg : D → Rho → Option Rho) (mt : Rho → Option Bool) (me : Rho → Option D) (ρ : Rho) (vs : List Nat) (d : D) (b : Bool) (y : D) : Prop := ∃ ρ1, mg d (wipeR ρ vs) = some ρ1 ∧ mt ρ1 = some b ∧ (b = true → me ρ1 = some y)
theorem comp_if {α : Type} {mg : D → Rho → Option Rho} {mt : Rho → Option Bool} {me : Rho → Option D} {vs : List Nat} {src : Rho → Option (List D)} (g f : α → D) (ok : α → Bool) (xs : List α) (hs : src ρ = some (xs.map g)) (hl : xs.length < 100000)
    (h : ∀ x ∈ xs, CompTs mg mt me ρ vs (g x) (ok x) (f x)) : mLc src mg mt me vs ρ = some ((xs.filter ok).map f) := by
  unfold mLc
  rw [hs, Option.bind_some, if_pos (by rw [List.length_map]; exact hl)]
  clear hl hs
  have step : ∀ ys : List α, (∀ y ∈ ys, y ∈ xs) → compD mg mt me (wipeR ρ vs) (ys.map g) = some ((ys.filter ok).map f) := fun ys => by
    induction ys with
    | nil => exact fun _ => rfl
    | cons y ys ih2 =>
      intro hy
      obtain ⟨ρ2, k1, k2, k4⟩ := h y (hy y List.mem_cons_self)
      have k3 := ih2 fun z hz => hy z (List.mem_cons_of_mem _ hz)
      cases hb : ok y with
      | true => simp only [List.map_cons, compD, k1, k2, k3, k4 hb, hb, Option.bind_some, if_true, Option.map_some, List.filter_cons]
      | false => simp only [List.map_cons, compD, k1, k2, k3, hb, Option.bind_some, Bool.false_eq_true, if_false, List.filter_cons]
  exact step xs fun _ h => h
theorem rng_nat {n : Nat} (h : n < 2 ^ 59) : rng1 [.int (n : Int)] = some ((List.range n).map fun (k : Nat) => PyData.int (k : Int)) := by
  rw [rng1_ok (rngOk_i (by omega) (by omega))]
  unfold rangeD
  rw [show ((n : Int) - 0).toNat = n by omega]
  congr 1
  refine List.map_congr_left fun i _ => ?_
  rw [Int.zero_add]
theorem rng_int {z : Int} {n : Nat} (e : z = (n : Int)) (h : n < 2 ^ 59) : rng1 [.int z] = some ((List.range n).map fun (k : Nat) => PyData.int (k : Int)) := by rw [e, rng_nat h]
end
end MV
namespace MV
open PySem PySem.Spec PyProof.Rows L2
theorem eq_self {d : D} (h : okD d) (hd : d.depth ≤ 60) : dEq d d = some (.bool true) := by rw [dEq_ok (eqOk_of h h hd hd), eqv_self h]
theorem ne_self {d : D} (h : okD d) (hd : d.depth ≤ 60) : dNe d d = some (.bool false) := by rw [dNe_ok (eqOk_of h h hd hd), eqv_self h]; rfl
end MV
namespace MV
open PySem PySem.Spec PyProof.Rows L2
section
variable {ρ : Rho} {m : Rho → Option D} {d d' : D} {ml mh : Rho → Option (Option Int)} {lo hi : Option Int} {i : Int} {ds : List D}
theorem cut_ok (h : m ρ = some d) (h2 : ml ρ = some lo) (h3 : mh ρ = some hi) (h4 : dCut lo hi d = some d') : mCut m ml mh ρ = some d' := by
  unfold mCut
  rw [h, Option.bind_some, h2, Option.bind_some, h3]
  exact h4
theorem part_ok (h : m ρ = some (.int i)) : mPart m ρ = some (some i) := by
  unfold mPart
  rw [h]
  rfl
theorem part_no : mNoPart ρ = some none := rfl
theorem cut_l : dCut lo hi (.list ds) = some (.list (cutD ds lo hi)) := rfl
theorem cut_t : dCut lo hi (.tuple ds) = some (.tuple (cutD ds lo hi)) := rfl
theorem sIx_nat (n dflt : Nat) {k : Nat} (h : k ≤ n) : HT.sIx n dflt (some (k : Int)) = k := by
  unfold HT.sIx
  simp only
  split <;> omega
theorem cut_from (ds : List D) {k : Nat} (h : k ≤ ds.length) : cutD ds (some (k : Int)) none = ds.drop k := by
  unfold cutD
  rw [sIx_nat _ _ h]
  show (ds.drop k).take (ds.length - k) = _
  rw [← List.length_drop, List.take_length]
theorem cut_to (ds : List D) {k : Nat} (h : k ≤ ds.length) : cutD ds none (some (k : Int)) = ds.take k := by
  unfold cutD
  rw [sIx_nat _ _ h]
  show (ds.drop 0).take (k - 0) = _
  rw [List.drop_zero, Nat.sub_zero]
theorem at_neg1 {α : Type} (f : α → D) (xs : List α) (x : α) : atI ((xs ++ [x]).map f) (-1) = some (f x) := by
  unfold atI ixN
  rw [if_neg (by decide), if_pos (by rw [List.length_map, List.length_append]; simp; omega)]
  rw [List.length_map, List.length_append, List.length_singleton]
  show ((xs ++ [x]).map f)[(((xs.length + 1 : Nat) : Int) + -1).toNat]? = _
  rw [show (((xs.length + 1 : Nat) : Int) + -1).toNat = xs.length by omega]
  rw [List.getElem?_map, List.getElem?_append_right (Nat.le_refl _), Nat.sub_self]
  rfl
end
theorem some_rfl {α : Type} {x : α} : some x = some x := rfl
end MV

set_option maxRecDepth 100000
set_option maxHeartbeats 4000000
/-! Errors of the program's own classes: made, raised, caught. -/
namespace MV
open PySem PySem.Spec PyProof.Rows L2

/-! ### how such an error is made -/
/-- the first statement of a class -/
def clsInit : Stmt → Stmt
  | .ClassDef _ _ _ (s :: _) _ _ _ _ _ _ _ => s
  | s => s
/-- f(..) with f read off an own class by its name -/
theorem pe_clsfn {X : Cx} {CX : CXT} {k : Nat} {C fI : Addr} {fd : FuncData} {ps : List Str} {sp : Sp} {dvs : List V} {dus : List Value} {E : XK} {x m : Str} {p1 apos pos : Pos} {e : Expr} {es : List Expr} {t : TA} {pl : Sem Bool} {mc : Value}
    (hm : X.mg x = some (.ref C)) (rd : ClX.CRead X.K C mc) (hv : PySem.W.findCls X.K (.ref C) mc m = some (.val (.ref fI))) (hk : PySem.W.keepIn X.K (.ref fI) = true)
    (G : FnOk X.prog X.w X.K X.mg X.base CX k fI fd ps sp) (hr : Room k X.A) (hb : Binds X.K fd ps dus) (hd : Vals dvs dus) (hx : Passes CX X E) (ha : PA X (e :: es) t) (hg : Gl X x := by rfl) (hdb : (x == ("__debug__" : Str)) = false := by decide)
    (hst : starEach (e :: es) X.env = (false, eval e X.env) :: starEach es X.env := by rfl) (hpl : (backTo pos (starEach es X.env)).any (·.1) = false := by rfl)
    (ht : eval (.Call (.Attribute (.Name x p1) m apos) (e :: es) [] pos) X.env = (do
      let ov ← eval (.Name x p1) X.env
      standAt apos.atName
      let (f, first) ← holding [ov] (getMethod ov m pl)
      callWith pos f first (backTo pos (starEach (e :: es) X.env)) (backToKw pos (keywordEach [] X.env))) := by rfl) :
    PE X (.Call (.Attribute (.Name x p1) m apos) (e :: es) [] pos) (tCall sp dvs E t) := by
  refine ⟨fun pins s σ H Q I h => ?_⟩
  refine PySem.W.methodCall_KW (pl := pl) (ld_glob I hg hm ?_ hdb) ht
  refine PySem.W.method_cls I.kIn rd.ga (ClX.getcval_ok (v := V.ref fI) I rd ⟨hv, rfl⟩ fun s1 I1 => ?_)
  exact PySem.W.callWith_K (first := []) (h₀ := X.base) I1.ok.mod.kin hk (thn (ha.run pos pins s1 σ H _ I1 h) fun us s2 ⟨vs, H2, I2, r, q⟩ => ⟨I2.kIn, run_fn G hr hb hd hx I2 r q⟩) hst hpl

/-- a place that an f-string writes -/
def PlaceV (v : V) : Prop := v = .non ∨ (∃ i : Int, v = .int i ∧ i.natAbs.log2 < 1900) ∨ ∃ z : Str, v = .str z ∧ z.length ≤ 10000
/-- what the base class's __init__ does to the new error at a -/
def spB (K : PySem.W.Frag) : Sp := fun vs H Q _ => ∃ (a C : Addr) (w : Str) (pv : V), vs = [.ref a, .str w, pv] ∧ w.length ≤ 100 ∧ PlaceV pv ∧ OexC K C ∧ PySem.W.findIn K (.ref C) "word" = some none ∧ PySem.W.findIn K (.ref C) "place" = some none ∧
  H a = some (exo a C none) ∧ ∀ dx, H dx = none → dx ≠ a → Q .non (upd (upd (upd H dx (exd dx [("word", .str w)])) a (exo a C (some dx))) dx (exd dx [("place", pv), ("word", .str w)]))
theorem spB_len {K : PySem.W.Frag} : ∀ vs H Q E, spB K vs H Q E → vs.length = (["self", "word", "place"] : List Str).length := fun vs H Q E ⟨_, _, _, _, e, _⟩ => by
  subst e
  rfl
def tBI (K : PySem.W.Frag) (at' : Str) : TS := tSeq
    (tIfS (tTest (tOp (fun x y H Q => y = V.non ∧ Q (V.bl (decide (x = V.non))) H) (tVar 2) (tC V.non)))
      (tDrop (tVeI K (tCons (tVar 0) (tCons (tFmt (tVar 1)) tNil))))
      (tDrop (tVeI K (tCons (tVar 0) (tCons (fun σ H Q => tJs [tFmt (tVar 1), tC (V.str at'), tFmt (tVar 2)] Str.empty σ H fun out H1 => Q (V.str out) H1) tNil)))))
    (tSeq (tOst K "word" (tVar 0) (tVar 1)) (tOst K "place" (tVar 0) (tVar 2)))
theorem int_len {i : Int} (h : i.natAbs.log2 < 1900) : (Str.ofString (toString i)).length ≤ 2000 := by
  have e := int_text_length_le (k := 1900) (by decide) h
  rw [PySem.ofString_length]
  omega
theorem spB_pure {K : PySem.W.Frag} {vs : List V} {H : Hp} {Q : VK} {E : XK} {at' : Str} (hat : at'.length ≤ 100) (h : spB K vs H Q E) : tBI K at' { nx := fun _ H' => Q .non H', rt := Q } (L2.start ["self", "word", "place"] vs) H := by
  obtain ⟨a, C, w, pv, rfl, hw, hp, ox, h1, h2, ha, q⟩ := h
  have hs : L2.start ["self", "word", "place"] [V.ref a, .str w, pv] = [some (.ref a), some (.str w), some pv] := rfl
  rw [hs]
  have stores : ∀ {Dn : Ends}, Dn.nx = (fun _ H' => Q .non H') → tSeq (tOst K "word" (tVar 0) (tVar 1)) (tOst K "place" (tVar 0) (tVar 2)) Dn [some (.ref a), some (.str w), some pv] H := by
    intro Dn hD
    refine ⟨.str w, rfl, .ref a, rfl, a, C, rfl, ox, h1, .inl ⟨ha, fun dx n ne => ?_⟩⟩
    refine ⟨pv, rfl, .ref a, rfl, a, C, rfl, ox, h2, .inr ⟨dx, _, upd_same, by rw [upd_ne ne, upd_same], by show 1 ≤ 900; decide, ?_⟩⟩
    rw [hD]
    exact q dx n ne
  have hz : w.length ≤ sizeLine := Nat.le_trans hw (by decide)
  have call : ∀ {z : Str}, z.length ≤ sizeLine → ∀ {R : Prop}, R → ∃ (a' C' : Addr) (ws : List V), [V.ref a, .str z] = .ref a' :: ws ∧ ws.length ≤ 1000 ∧ OexC K C' ∧ H a' = some (exo a' C' none) ∧ R := fun {z} _ {R} r => ⟨a, C, [.str z], rfl, by show 1 ≤ 1000; decide, ox, ha, r⟩
  refine ⟨pv, rfl, rfl, _, rfl, ?_⟩
  by_cases hn : pv = .non
  · rw [decide_eq_true hn]
    refine iteT ?_
    refine ⟨.ref a, rfl, .str w, rfl, .inl ⟨w, rfl, hz, ?_⟩⟩
    exact call hz (stores rfl)
  · rw [decide_eq_false hn]
    refine iteF ?_
    have e1 : (Str.empty ++ w).length ≤ 200 := by
      rw [Str.length_append]
      have : Str.empty.length = 0 := rfl
      omega
    have e2 : (Str.empty ++ w ++ at').length ≤ 300 := by
      rw [Str.length_append]
      omega
    have line : ∀ {n : Nat}, n ≤ 20000 → n ≤ sizeLine := fun h => Nat.le_trans h (by decide)
    have last : ∀ z : Str, z.length ≤ 10000 → ∃ y, V.str z = .str y ∧ (Str.empty ++ w ++ at' ++ y).length ≤ sizeLine ∧ ∃ (a' C' : Addr) (ws : List V), [V.ref a, .str (Str.empty ++ w ++ at' ++ y)] = .ref a' :: ws ∧ ws.length ≤ 1000 ∧ OexC K C' ∧ H a' = some (exo a' C' none) ∧
        tSeq (tOst K "word" (tVar 0) (tVar 1)) (tOst K "place" (tVar 0) (tVar 2)) { nx := fun _ H' => Q .non H', rt := Q } [some (.ref a), some (.str w), some pv] H := fun z hz => by
      have l : (Str.empty ++ w ++ at' ++ z).length ≤ sizeLine := by
        rw [Str.length_append]
        exact line (by omega)
      exact ⟨z, rfl, l, call l (stores rfl)⟩
    refine ⟨.ref a, rfl, .str w, rfl, .inl ⟨w, rfl, hz, w, rfl, line (by omega), at', rfl, line (by omega), pv, rfl, ?_⟩⟩
    rcases hp with hp | ⟨i, rfl, hi⟩ | ⟨z, rfl, hl⟩
    · exact absurd hp hn
    · exact .inr ⟨i, rfl, by omega, last _ (Nat.le_trans (int_len hi) (by decide))⟩
    · exact .inl ⟨z, rfl, line (by omega), last z hl⟩

/-- .. with the place alone: the class's own __init__, its word fixed -/
def spC (K : PySem.W.Frag) (w : Str) : Sp := fun vs H Q E => ∃ (a : Addr) (pv : V), vs = [.ref a, pv] ∧ spB K [.ref a, .str w, pv] H Q E
theorem spC_len {K : PySem.W.Frag} {w : Str} : ∀ vs H Q E, spC K w vs H Q E → vs.length = (["self", "place"] : List Str).length := fun vs H Q E ⟨_, _, e, _⟩ => by
  subst e
  rfl
def noX : XK := fun _ _ _ => False
theorem spC_pure {K : PySem.W.Frag} {vs : List V} {H : Hp} {Q : VK} {E : XK} {w : Str} (h : spC K w vs H Q E) :
    tDrop (tCall (spB K) [] noX (tCons (tVar 0) (tCons (tC (.str w)) (tCons (tVar 1) tNil)))) { nx := fun _ H' => Q .non H', rt := Q } (L2.start ["self", "place"] vs) H := by
  obtain ⟨a, pv, rfl, a', C, w', pv', e, rest⟩ := h
  cases e
  exact ⟨.ref a, rfl, pv, rfl, a, C, w, pv, rfl, rest⟩

section
variable {X : Cx} {pins : List (Addr × Obj)} {σ : L2.St} {H : Hp} {s : Shared} {CX : CXT} {C fI : Addr} {k : Nat} {fd : FuncData} {ps : List Str} {sp : Sp} {dus us : List Value} {dvs vs : List V} {Q : XK}
/-- an own error class that is called, its arguments there -/
theorem run_err (T : OexC X.K C) (hI : PySem.W.findIn X.K (.ref C) "__init__" = some (some (.ref fI))) (hT : PySem.W.typeIn X.K (.ref fI) = some (.type "function")) (G : FnOk X.prog X.w X.K X.mg X.base CX k fI fd ps sp) (hr : Room (k + 1) X.A)
    (hb : Binds X.K fd ps dus) (hd : Vals dvs dus) (hx : Passes CX X noX) (I : L2.Inv X pins σ H s) (r : Vals vs us) (hz : vs.length ≤ 1000)
    (h : ∀ a, H a = none → sp (.ref a :: (vs ++ dvs)) (upd H a (exo a C none)) (fun v H2 => v = .non ∧ ∃ (d : Addr) (fs : List (Str × V)), H2 a = some (exo a C (some d)) ∧ H2 d = some (exd d fs) ∧ H d = none ∧ Q (.ref C) (some d) (upd (L2.del H2 a) d (.xd fs))) noX) :
    wpAny (model X.prog X.w) X.A (call (.ref C) us) (MkP X pins σ Q) X.xe s := by
  obtain ⟨n1, n2, n3, n4, n5, n6, n7, n8, n9, n10, m0, m1, m2, m3, m5, hC, hmro⟩ := T.cls
  obtain ⟨hp, gs, dr, tk, os⟩ := s
  have up1 : hp.objs.size ≤ hp.objs.size + 1 := Nat.le_add_right _ 1
  have spx := h (hp.objs.size + 1) (I.hok.fresh up1)
  have old : ∀ b o, hp.get? b = some o → ((hp.push (PySem.W.kdv_tup us)).push (PySem.HandSPX.excO C hp.objs.size)).get? b = some o := fun b o q => Heap.get?_push_of_some _ (Heap.get?_push_of_some _ q)
  have there : ((hp.push (PySem.W.kdv_tup us)).push (PySem.HandSPX.excO C hp.objs.size)).get? (hp.objs.size + 1) = some (PySem.HandSPX.excO C hp.objs.size) := by heap_get
  have J := I.laid (t' := tk) (a := hp.objs.size + 1) (o := exo (hp.objs.size + 1) C none) (h' := (hp.push (PySem.W.kdv_tup us)).push (PySem.HandSPX.excO C hp.objs.size)) old up1 (exo_ok there)
  have rr : Vals (V.ref (hp.objs.size + 1) :: (vs ++ dvs)) (Value.ref (hp.objs.size + 1) :: (us ++ dus)) := .cons rfl (r.append hd)
  have len1 : (Value.ref (hp.objs.size + 1) :: us ++ dus).length = ps.length := rr.length.symm.trans (G.len _ _ _ _ spx)
  have short : us.length ≤ sizeLine := by
    rw [← Paired.length r]
    exact Nat.le_trans hz (by decide)
  have go := G.run _ X.stack _ _ ⟨Value.ref (hp.objs.size + 1) :: us, []⟩ (Value.ref (hp.objs.size + 1) :: (us ++ dus)) _ _ noX (hr.make C us []) (J.env0.make C us []) (hb _ (Value.ref (hp.objs.size + 1) :: us) J.kIn len1) rr spx
  refine wpAny_call (PySem.HandSPX.call_own F.excBase_ValueError (fun Y => PySem.HandSPX.refsVE_contains Y n5 hmro) (I.kIn _ _ hC) (PySem.W.looks_findIn I.kIn hI) (fun self => PySem.W.bind_fn I.kIn self hT) short (codeAny_mono go fun res s' hq => ?_))
  match res, hq with
  | .error e, hq => exact hx pins σ _ _ e s' J hq
  | .ok (.ret u), hq =>
    obtain ⟨v, H2, os2, bare2, un2, hok2, rv, ev, d, fs, ea, ed, hd1, q2⟩ := hq
    subst ev
    obtain ⟨h2, g2, d2, t2, os'⟩ := s'
    exact ⟨rv, mk_end (raises_own T.exC T.tyC) I up1 old un2 hok2 os2 bare2 ea ed hd1 q2⟩
  | .ok .next, hq => exact False.elim hq
  | .ok .brk, hq => exact False.elim hq
  | .ok .cont, hq => exact False.elim hq
end

/-- an own error class at C, its __init__ at fI -/
structure ErrC (K : PySem.W.Frag) (C fI : Addr) : Prop where
  ox : OexC K C
  nw : PySem.W.findIn K (.ref C) "word" = some none
  np : PySem.W.findIn K (.ref C) "place" = some none
  iC : PySem.W.findIn K (.ref C) "__init__" = some (some (.ref fI))
  tI : PySem.W.typeIn K (.ref fI) = some (.type "function")
/-- what is made of an error class -/
structure MMk (X : Cx) (e : Expr) (m : Rho → Option Exn) : Prop where
  ok : ∀ F0 H0, PMk X e fun σ H Q => ∃ ρ F x, EnvOk X.K F0 H0 F H σ ρ ∧ m ρ = some x ∧ ∀ F' H' cls d, Adv F H F' H' → XAt X F' x cls d → Q cls d H'
def placeOk : D → Bool
  | .none => true
  | .int i => decide (i.natAbs.log2 < 1900)
  | .str z => decide (z.length ≤ 10000)
  | _ => false
theorem placeV_of {K : PySem.W.Frag} {F : Hp} {v : V} {d : D} (p : Dp K F v d) (h : placeOk d = true) : PlaceV v := by
  cases p with
  | non => exact .inl rfl
  | int i => exact .inr (.inl ⟨i, rfl, of_decide_eq_true h⟩)
  | str z => exact .inr (.inr ⟨z, rfl, of_decide_eq_true h⟩)
  | bl b => cases h
  | lst _ _ => cases h
  | tup _ _ => cases h
def errOf (w : Str) : List D → Option Exn
  | [p] => if placeOk p = true then some ⟨w, [("place", p), ("word", .str w)]⟩ else none
  | _ => none
def mErr (w : Str) (dds : List D) (ma : Rho → Option (List D)) : Rho → Option Exn := fun ρ => (ma ρ).bind fun ds => errOf w (ds ++ dds)
section
variable {X : Cx} {C fI : Addr} {k : Nat} {fd : FuncData} {dus : List Value} {dvs : List V} {dds : List D} {w : Str} {p pos : Pos} {e : Expr} {es : List Expr} {ma : Rho → Option (List D)} {CX : CXT}
theorem err_spec {F1 H1 : Hp} {vs : List V} {ds : List D} {x : Exn} {Q : XK} (T : ErrC X.K C fI) (hw : w.length ≤ 100) (hm : X.mg w = some (.ref C)) (e : Ex F1 H1) (pa : DpAll X.K F1 (vs ++ dvs) ds) (hx : errOf w ds = some x)
    (q : ∀ F' H' cls d, Adv F1 H1 F' H' → XAt X F' x cls d → Q cls d H') (a : Addr) (na : H1 a = none) :
    spC X.K w (.ref a :: (vs ++ dvs)) (upd H1 a (exo a C none)) (fun v H2 => v = .non ∧ ∃ (d : Addr) (fs : List (Str × V)), H2 a = some (exo a C (some d)) ∧ H2 d = some (exd d fs) ∧ H1 d = none ∧ Q (.ref C) (some d) (upd (L2.del H2 a) d (.xd fs))) noX := by
  unfold errOf at hx
  split at hx
  · rename_i pd
    split at hx
    · rename_i hp
      cases hx
      generalize hvv : vs ++ dvs = ws at pa
      cases pa with
      | @cons pv rest _ _ h1 h2 =>
        cases h2
        refine ⟨a, pv, rfl, a, C, w, pv, rfl, hw, placeV_of h1 hp, T.ox, T.nw, T.np, upd_same, fun dx n ne => ⟨rfl, dx, [("place", pv), ("word", .str w)], ?_, upd_same, ?_, ?_⟩⟩
        · rw [upd_ne (Ne.symm ne), upd_same]
        · rw [upd_ne ne] at n
          exact n
        · rw [upd_ne ne] at n
          have eh : upd (L2.del (upd (upd (upd (upd H1 a (exo a C none)) dx (exd dx [("word", .str w)])) a (exo a C (some dx))) dx (exd dx [("place", pv), ("word", .str w)])) a) dx (.xd [("place", pv), ("word", .str w)]) = upd H1 dx (.xd [("place", pv), ("word", .str w)]) := by
            funext b
            by_cases hb : b = dx
            · rw [hb, upd_same, upd_same]
            · rw [upd_ne hb, upd_ne hb]
              by_cases hb2 : b = a
              · rw [hb2, L2.del_same, na]
              · rw [L2.del_ne hb2, upd_ne hb, upd_ne hb2, upd_ne hb, upd_ne hb2]
          rw [eh]
          refine q (upd F1 dx (.xd [("place", pv), ("word", .str w)])) _ _ _ (Adv.laid e n) ⟨C, dx, _, hm, rfl, rfl, upd_same, rfl, ?_⟩
          exact .cons (dp_ex (Ex.new (e.none n)) _ _ h1) (.cons (.str _) .nil)
    · cases hx
  · cases hx
theorem mmk_err (T : ErrC X.K C fI) (G : FnOk X.prog X.w X.K X.mg X.base CX k fI fd ["self", "place"] (spC X.K w)) (hr : Room (k + 1) X.A) (hm : X.mg w = some (.ref C)) (hb : Binds X.K fd ["self", "place"] dus) (hd : Vals dvs dus) (hdd : ∀ F : Hp, DpAll X.K F dvs dds)
    (hx : Passes CX X noX) (ha : MAE X (e :: es) ma) (hw : w.length ≤ 100 := by decide) (hg : Gl X w := by rfl) (hdb : (w == ("__debug__" : Str)) = false := by decide)
    (hst : starEach (e :: es) X.env = (false, eval e X.env) :: starEach es X.env := by rfl) (hpl : (backTo pos (starEach es X.env)).any (·.1) = false := by rfl) : MMk X (.Call (.Name w p) (e :: es) [] pos) (mErr w dds ma) :=
  ⟨fun F0 H0 => by
    intro pins s σ H Q I ⟨ρ, F, x, e1, e2, q⟩
    unfold mErr at e2
    cases hma : ma ρ with
    | none => rw [hma] at e2; cases e2
    | some ds =>
      rw [hma] at e2
      replace e2 : errOf w (ds ++ dds) = some x := e2
      refine wpAny_Call_Name_kw (ld_glob I hg hm (PySem.W.callWith_K (h₀ := X.base) I.ok.mod.kin T.ox.kC (thn ((ha.ok F0 H0).run pos pins s σ H (fun vs H1 => ∃ F1, Adv F H F1 H1 ∧ DpAll X.K F1 vs ds) I ⟨ρ, F, ds, e1, hma, fun vs F1 H1 a1 pa => ⟨F1, a1, pa⟩⟩) fun us s1 ⟨vs, H1, I1, r, F1, a1, pa⟩ => ⟨I1.kIn, ?_⟩) hst hpl) hdb)
      have l : vs.length ≤ 1000 := by
        have e3 := dal_len pa
        unfold errOf at e2
        split at e2
        · rename_i heq
          have := congrArg List.length heq
          rw [List.length_append, List.length_singleton] at this
          omega
        · cases e2
      exact run_err T.ox T.iC T.tI G hr hb hd hx I1 r l (err_spec T hw hm a1.fh (dal_app pa (hdd F1)) e2 fun F' H' cls d a x => q F' H' cls d (a1.trans a) x)⟩
theorem mmk_err0 (T : ErrC X.K C fI) (G : FnOk X.prog X.w X.K X.mg X.base CX k fI fd ["self", "place"] (spC X.K w)) (hr : Room (k + 1) X.A) (hm : X.mg w = some (.ref C)) (hb : Binds X.K fd ["self", "place"] dus) (hd : Vals dvs dus) (hdd : ∀ F : Hp, DpAll X.K F dvs dds)
    (hx : Passes CX X noX) (hw : w.length ≤ 100 := by decide) (hg : Gl X w := by rfl) (hdb : (w == ("__debug__" : Str)) = false := by decide) : MMk X (.Call (.Name w p) [] [] pos) (mErr w dds mNil) :=
  ⟨fun F0 H0 => by
    intro pins s σ H Q I ⟨ρ, F, x, e1, e2, q⟩
    replace e2 : errOf w dds = some x := e2
    exact wpAny_Call_Name_kw (ld_glob I hg hm (PySem.W.callWith_K0 I.kIn T.ox.kC (run_err (us := []) (vs := []) T.ox T.iC T.tI G hr hb hd hx I .nil (Nat.zero_le _) (err_spec T hw hm e1.fh (hdd F) e2 fun F' H' cls d a x => q F' H' cls d a x))) hdb)⟩
def mRaise (m : Rho → Option Exn) : Rho → Option Res := fun ρ => (m ρ).map fun x => .ex x ρ
theorem ms_raise {W : WX} {m : Rho → Option Exn} (hc : X.calm = true) (tk : Takes X W) (h : MMk X e m) : MS X W (.Raise (some e) none pos) (mRaise m) :=
  ⟨fun F0 H0 => ps_weak (ps_raise hc tk (h.ok F0 H0)) fun Dn σ H ⟨ρ, F, r, e1, e2, q⟩ => by
    unfold mRaise at e2
    cases hx : m ρ with
    | none => rw [hx] at e2; cases e2
    | some x =>
      rw [hx] at e2
      cases e2
      exact ⟨ρ, F, x, e1, hx, fun F' H' cls d a xa => q σ F' H' cls d (e1.go a) xa⟩⟩
end

/-! ### defs that may raise -/
inductive Out where
  | ok (d : D)
  | er (e : Exn)
def XA (K : PySem.W.Frag) (mg : Str → Option Value) (F : Hp) (e : Exn) (cls : Value) (d : Option Addr) : Prop := ∃ (C dx : Addr) (vs : List (Str × V)), mg e.tag = some (.ref C) ∧ cls = .ref C ∧ d = some dx ∧ F dx = some (.xd vs) ∧ vs.map (·.1) = e.fs.map (·.1) ∧ DpAll K F (vs.map (·.2)) (e.fs.map (·.2))
theorem XA.go {K : PySem.W.Frag} {mg : Str → Option Value} {F F' : Hp} {e : Exn} {cls : Value} {d : Option Addr} (f : Ex F F') (h : XA K mg F e cls d) : XA K mg F' e cls d := by
  obtain ⟨C, dx, vs, h1, h2, h3, h4, h5, h6⟩ := h
  exact ⟨C, dx, vs, h1, h2, h3, f _ _ h4, h5, dpa_ex f _ _ h6⟩
def GoO (K : PySem.W.Frag) (mg : Str → Option Value) (F H : Hp) (Q : VK) (E : XK) : Out → Prop
  | .ok d => ∀ v F' H', Adv F H F' H' → Dp K F' v d → Q v H'
  | .er e => ∀ F' H' cls dd, Adv F H F' H' → XA K mg F' e cls dd → E cls dd H'
def spX (K : PySem.W.Frag) (mg : Str → Option Value) (m : List D → Option Out) (vs : List V) (H : Hp) (Q : VK) (E : XK) : Prop := ∃ F ds o, Ex F H ∧ DpAll K F vs ds ∧ m ds = some o ∧ GoO K mg F H Q E o
structure FnX (P : Program) (w : World) (K : PySem.W.Frag) (mg : Str → Option Value) (base : Heap) (k : Nat) (f : Addr) (fd : FuncData) (ps : List Str) (m : List D → Option Out) : Prop where
  len : ∀ ds d, m ds = some d → ds.length = ps.length
  run : ∀ (A : Around) (outer : List Env) (s : Shared) (H : Hp) (args : Args) (us : List Value) (vs : List V) (Q : VK) (E : XK), A.guards = some [] → Room k A → Env0 P w K mg base A outer s H →
    BindsTo s fd args (ps.zip us) → Vals vs us → spX K mg m vs H Q E → codeAny (model P w) A (.call (.ref f) args) (CR (L2.CX P w) outer P w H s Q E) s
def runDefX (n j : Nat) (body : Rho → Option Res) : List D → Option Out := fun ds => if ds.length = n then (body (ds.map Cell.dat ++ List.replicate j Cell.un)).bind fun r => match r with
  | .rt d => some (.ok d)
  | .nx _ => some (.ok .none)
  | .ex e _ => some (.er e)
  | _ => none else none
section
variable {P : Program} {w : World} {K : PySem.W.Frag} {mg : Str → Option Value} {base : Heap}
theorem fn_defX {x qual : Str} {st : Stmt} {f : Addr} {fd : FuncData} {N ps : List Str} {k : Nat} {body : Rho → Option Res} {dvs : List V} {kws : List (Str × V)} (D0 : FunD K x qual (defArgs st) (defBody st) (defScope st) dvs kws f fd) (S : FnScope N ps (defScope st))
    (hbody : ∀ (cdv : Value) (A : Around) (outer : List Env) (s : Shared) (H : Hp) (E : XK), (A.deeper (envOfC qual (defScope st) s.heap.objs.size f cdv)).guards = some [] → Room k (A.deeper (envOfC qual (defScope st) s.heap.objs.size f cdv)) →
      MSs (cxOf (L2.CX P w) P w K mg base N qual (defScope st) f cdv A outer s H E) (fun cls d _ H' => E cls d H') (defBody st) body) : FnX P w K mg base (k + 1) f fd ps (runDefX ps.length (N.length - ps.length) body) := by
  obtain ⟨oc, od, dV, kV, doc, pm, an, cdv, ct, osl, rfl, lk, hcd, _, _⟩ := D0.ex
  have len : ∀ ds d, runDefX ps.length (N.length - ps.length) body ds = some d → ds.length = ps.length := fun ds d h => by
    unfold runDefX at h
    split at h
    · assumption
    · cases h
  refine ⟨len, fun A outer s H args us vs Q E hG hr e0 hb r h => ?_⟩
  obtain ⟨F, ds, o, ex, pa, hm, q⟩ := h
  have hl := len ds o hm
  have hv := dal_len pa
  have base_kept : ∀ b o, base.get? b = some o → s.heap.get? b = some o := fun b o z => (e0.bs b o z).1
  have KX : K.In s.heap := e0.mod.kin.keeps base_kept
  have hkind : ∀ y ∈ ps.zip us, (defScope st).names.lookup y.1 = some .local ∨ ((defScope st).names.lookup y.1 = some .cell ∧ ((cellsFrom (s.heap.objs.size + 1) (defScope st).names []).lookup y.1).isSome = true) := fun y hy =>
    (S.par y.1 (List.of_mem_zip (a := y.1) (b := y.2) hy).1).imp id fun c => ⟨c, PySem.W.cellsFrom_some _ _ _ (.inl c)⟩
  refine codeAny_call_function hr.depth (KX _ _ lk) rfl S.co S.gen rfl (PySem.W.codeRec_of KX hcd) (hb _ _ _ _ (wpAny_newFunctionEnv_cells S.kind hkind fun env he s1 z => ?_))
  subst he
  refine ⟨(e0.mod.nolimit.keeps base_kept).keeps z.toInCall.keep, codeAny_func ?_⟩
  have ht := (hbody cdv A outer s H E hG (hr.deeper _)).ok F H
  have I : L2.Inv (cxOf (L2.CX P w) P w K mg base N qual (defScope st) f cdv A outer s H E) [] (start N vs) H s1 := inv_start S hr.hd e0 (hv.trans hl) r z
  have hpl : ps.length ≤ N.length := by
    have h1 := congrArg List.length S.pre
    rw [List.length_take] at h1
    omega
  have start_ok := env_start (N := N) ex pa (by omega)
  rw [show N.length - vs.length = N.length - ps.length by omega] at start_ok
  unfold runDefX at hm
  rw [if_pos hl] at hm
  cases hbd : body (ds.map Cell.dat ++ List.replicate (N.length - ps.length) Cell.un) with
  | none => rw [hbd] at hm; cases hm
  | some res =>
    rw [hbd] at hm
    have goal : tS (cxOf (L2.CX P w) P w K mg base N qual (defScope st) f cdv A outer s H E) F H (fun cls d _ H' => E cls d H') body { nx := fun _ H' => Q .non H', rt := Q } (start N vs) H := by
      refine ⟨_, F, res, start_ok, hbd, ?_⟩
      cases res with
      | rt d' =>
        cases hm
        exact q
      | nx ρ' =>
        cases hm
        exact fun σ' F' H' e' => q .non F' H' e'.toAdv .non
      | bk ρ' => cases hm
      | ct ρ' => cases hm
      | ex e ρ' =>
        cases hm
        exact fun σ' F' H' cls dd e' xa => q F' H' cls dd e'.toAdv xa
    refine wpAny_mono (ht.run [] s1 (start N vs) H _ I goal) (fun fl s' hs => ?_) fun _ _ z => z
    match fl, hs with
    | .ret u, ⟨v, σ', H', J, rv, z⟩ => exact ⟨v, H', J.os, J.bare, J.base, J.hok, rv, z⟩
    | .next, ⟨σ', H', J, z⟩ => exact ⟨V.non, H', J.os, J.bare, J.base, J.hok, rfl, z⟩
    | .brk, ⟨_, _, _, z⟩ => exact False.elim z
    | .cont, ⟨_, _, _, z⟩ => exact False.elim z
end

/-! expressions that may raise -/
def tX (X : Cx) (F0 H0 : Hp) (W : WX) (m : Rho → Option Out) : TE := fun σ H Q => ∃ ρ F o, EnvOk X.K F0 H0 F H σ ρ ∧ m ρ = some o ∧ GoO X.K X.mg F H Q (fun cls dd H' => W cls dd σ H') o
structure MX (X : Cx) (W : WX) (e : Expr) (m : Rho → Option Out) : Prop where
  ok : ∀ F0 H0, PE X e (tX X F0 H0 W m)
def mCallX (mf : List D → Option Out) (dds : List D) (ma : Rho → Option (List D)) : Rho → Option Out := fun ρ => (ma ρ).bind fun ds => mf (ds ++ dds)
def m2X (g : D → D → Option D) (ma : Rho → Option Out) (mb : Rho → Option D) : Rho → Option Out := fun ρ => (ma ρ).bind fun o => match o with
  | .ok x => (mb ρ).bind fun y => (g x y).map .ok
  | .er e => some (.er e)
def outS (k : D → Res) (ρ : Rho) : Out → Res
  | .ok d => k d
  | .er e => .ex e ρ
def mDropX (m : Rho → Option Out) : Rho → Option Res := fun ρ => (m ρ).map (outS (fun _ => .nx ρ) ρ)
def mSetX (i : Nat) (m : Rho → Option Out) : Rho → Option Res := fun ρ => (m ρ).map (outS (fun d => .nx (ρ.set i (.dat d))) ρ)
def mRetX (m : Rho → Option Out) : Rho → Option Res := fun ρ => (m ρ).map (outS .rt ρ)
def mIfX (m : Rho → Option Out) (a b : Rho → Option Res) : Rho → Option Res := fun ρ => (m ρ).bind fun o => match o with
  | .ok d => (asB d).bind fun t => if t = true then a ρ else b ρ
  | .er e => some (.ex e ρ)
section
variable {X : Cx} {W : WX} {k : Nat} {f : Addr} {fd : FuncData} {ps : List Str} {mf : List D → Option Out} {dvs : List V} {dus : List Value} {dds : List D} {x : Str} {p pos pos' : Pos} {e a b : Expr} {es : List Expr} {ma : Rho → Option (List D)} {m mo : Rho → Option Out} {mb : Rho → Option D} {i : Nat}
theorem mx_call (G : FnX X.prog X.w X.K X.mg X.base k f fd ps mf) (hG : X.A.guards = some []) (hr : Room k X.A) (tk : Takes X W) (hm : X.mg x = some (.ref f)) (hk : PySem.W.keepIn X.K (.ref f) = true) (hb : Binds X.K fd ps dus) (hd : Vals dvs dus) (hdd : ∀ F : Hp, DpAll X.K F dvs dds)
    (ha : MAE X (e :: es) ma) (hg : Gl X x := by rfl) (hdb : (x == ("__debug__" : Str)) = false := by decide) (hst : starEach (e :: es) X.env = (false, eval e X.env) :: starEach es X.env := by rfl) (hpl : (backTo pos (starEach es X.env)).any (·.1) = false := by rfl) :
    MX X W (.Call (.Name x p) (e :: es) [] pos) (mCallX mf dds ma) := ⟨fun F0 H0 => ⟨fun pins s σ H Q I ⟨ρ, F, o, e1, e2, q⟩ => by
  unfold mCallX at e2
  cases hx : ma ρ with
  | none => rw [hx] at e2; cases e2
  | some ds =>
    rw [hx] at e2
    replace e2 : mf (ds ++ dds) = some o := e2
    refine wpAny_Call_Name_kw (ld_glob I hg hm (PySem.W.callWith_K (h₀ := X.base) I.ok.mod.kin hk (thn ((ha.ok F0 H0).run pos pins s σ H (fun vs H1 => ∃ F1, Adv F H F1 H1 ∧ DpAll X.K F1 vs ds) I ⟨ρ, F, ds, e1, hx, fun vs F1 H1 a1 pa => ⟨F1, a1, pa⟩⟩) fun us s1 ⟨vs, H1, I1, r, F1, a1, pa⟩ => ⟨I1.kIn, ?_⟩) hst hpl) hdb)
    have r2 := r.append hd
    have pa2 := dal_app pa (hdd F1)
    have hl : (us ++ dus).length = ps.length := by
      have l1 := G.len _ _ e2
      have l2 := dal_len pa2
      rw [← r2.length]
      omega
    have sp : spX X.K X.mg mf (vs ++ dvs) H1 Q (WE W σ) := ⟨F1, ds ++ dds, o, a1.fh, pa2, e2, by
      cases o with
      | ok d => exact fun v F' H' a2 pd => q v F' H' (a1.trans a2) pd
      | er x => exact fun F' H' cls dd a2 xa => q F' H' cls dd (a1.trans a2) xa⟩
    refine wpAny_call (codeAny_mono (G.run X.A X.stack s1 H1 ⟨us, []⟩ (us ++ dus) (vs ++ dvs) Q (WE W σ) hG hr I1.env0 (hb s1 us I1.kIn hl) r2 sp) fun res s' hq => ?_)
    match res, hq with
    | .error er, hq => exact passAt tk σ pins H1 s1 er s' I1 hq
    | .ok (.ret u), hq => exact I1.after hq
    | .ok .next, hq => exact False.elim hq
    | .ok .brk, hq => exact False.elim hq
    | .ok .cont, hq => exact False.elim hq⟩⟩
theorem two_readX {g : D → D → Option D} {F0 H0 : Hp} {σ : L2.St} {H : Hp} {Q : VK} (h : tX X F0 H0 W (m2X g m mb) σ H Q) : tOp (rD X.K g) (tX X F0 H0 W m) (tT X.K F0 H0 mb) σ H Q := by
  obtain ⟨ρ, F, o, e1, e2, q⟩ := h
  unfold m2X at e2
  cases hx : m ρ with
  | none => rw [hx] at e2; cases e2
  | some o1 =>
    rw [hx] at e2
    refine ⟨ρ, F, o1, e1, hx, ?_⟩
    cases o1 with
    | er x =>
      cases e2
      exact q
    | ok dx =>
      replace e2 : ((mb ρ).bind fun y => (g dx y).map Out.ok) = some o := e2
      cases hy : mb ρ with
      | none => rw [hy] at e2; cases e2
      | some dy =>
        rw [hy] at e2
        cases hz : g dx dy with
        | none => simp [hz] at e2
        | some d =>
          replace e2 : Out.ok d = o := by simpa [hz] using e2
          subst e2
          exact fun v F1 H1 a1 p1 => ⟨ρ, F1, dy, e1.go a1, hy, fun v2 F2 H2 a2 t2 => ⟨F2, dx, dy, d, a2.fh, .inl (dp_ex a2.f _ _ p1), t2, hz, fun v3 F3 H3 a3 p3 => q v3 F3 H3 ((a1.trans a2).trans a3) p3⟩⟩
theorem mx_cmp {op : CmpOp} {g : D → D → Option D} (ho : OpD X (compareOp op) g) (ha : MX X W a m) (hb : MT X b mb) (hm : behindInMarks op b = false := by first | exact nomark _ | rfl) : MX X W (.Compare a [op] [b] pos) (m2X g m mb) :=
  ⟨fun F0 H0 => pe_weak (pe_cmpR ho.ok (ha.ok F0 H0) (hb.ok F0 H0) hm) fun _ _ _ h => two_readX h⟩
/-- a test that may raise -/
def GoB (K : PySem.W.Frag) (mg : Str → Option Value) (F H : Hp) (Q : Bool → Hp → Prop) (E : XK) : Out → Prop
  | .ok d => ∃ b, d = .bool b ∧ ∀ F' H', Adv F H F' H' → Q b H'
  | .er e => ∀ F' H' cls dd, Adv F H F' H' → XA K mg F' e cls dd → E cls dd H'
def tXB (X : Cx) (F0 H0 : Hp) (W : WX) (m : Rho → Option Out) : TT := fun σ H Q => ∃ ρ F o, EnvOk X.K F0 H0 F H σ ρ ∧ m ρ = some o ∧ GoB X.K X.mg F H Q (fun cls dd H' => W cls dd σ H') o
structure MXB (X : Cx) (W : WX) (e : Expr) (m : Rho → Option Out) : Prop where
  ok : ∀ F0 H0, PT X e (tXB X F0 H0 W m)
theorem goB_go {K : PySem.W.Frag} {mg : Str → Option Value} {F H : Hp} {Q : Bool → Hp → Prop} {E : XK} {o : Out} (h : GoB K mg F H Q E o) : GoO K mg F H (fun x H' => ∃ k, x = .bl k ∧ Q k H') E o := by
  cases o with
  | er e => exact h
  | ok d =>
    obtain ⟨b, rfl, q⟩ := h
    exact fun v F' H' a p => ⟨b, (by cases p; rfl), q F' H' a⟩
theorem mxb_cmp {op : CmpOp} {g : D → D → Option D} (ho : OpD X (compareOp op) g) (ha : MX X W a m) (hb : MT X b mb) (hm : behindInMarks op b = false := by first | exact nomark _ | rfl) : MXB X W (.Compare a [op] [b] pos) (m2X g m mb) :=
  ⟨fun F0 H0 => pt_weak (pt_cmpR ho.ok (ha.ok F0 H0) (hb.ok F0 H0) hm) fun σ H Q ⟨ρ, F, o, e1, e2, q⟩ => two_readX (F0 := F0) (H0 := H0) (Q := fun x H' => ∃ k, x = .bl k ∧ Q k H') ⟨ρ, F, o, e1, e2, goB_go q⟩⟩
theorem mxb_val (h : MX X W e m) (he : ∀ whole, isTrue e X.env whole = (do let v ← whole; standAt e.pos; holding [v] (truthy v)) := by intro _; rfl) : MXB X W e m :=
  ⟨fun F0 H0 => pt_weak (pt_val (h.ok F0 H0) he) fun σ H Q ⟨ρ, F, o, e1, e2, q⟩ => ⟨ρ, F, o, e1, e2, goB_go q⟩⟩
theorem ms_dropX (he : MX X W e m) (hs : swapsWith e none pos.line X.env = pure false := by rfl) : MS X W (.Expr e pos) (mDropX m) := ⟨fun F0 H0 => ps_weak (ps_expr (he.ok F0 H0) hs) fun Dn σ H ⟨ρ, F, r, e1, e2, q⟩ => by
  unfold mDropX at e2
  cases hx : m ρ with
  | none => rw [hx] at e2; cases e2
  | some o =>
    rw [hx] at e2
    cases e2
    refine ⟨ρ, F, o, e1, hx, ?_⟩
    cases o with
    | ok d => exact fun v F' H' a p => q σ F' H' (e1.go a)
    | er x => exact fun F' H' cls dd a xa => q σ F' H' cls dd (e1.go a) xa⟩
theorem ms_retX (he : MX X W e m) : MS X W (.Return (some e) pos) (mRetX m) := ⟨fun F0 H0 => ps_weak (ps_ret (he.ok F0 H0)) fun Dn σ H ⟨ρ, F, r, e1, e2, q⟩ => by
  unfold mRetX at e2
  cases hx : m ρ with
  | none => rw [hx] at e2; cases e2
  | some o =>
    rw [hx] at e2
    cases e2
    refine ⟨ρ, F, o, e1, hx, ?_⟩
    cases o with
    | ok d => exact fun v F' H' a p => q v F' H' (e1.toAdv.trans a) p
    | er x => exact fun F' H' cls dd a xa => q σ F' H' cls dd (e1.go a) xa⟩
theorem ms_setX (hN : X.N.Nodup) (he : MX X W e m) (hi : X.N[i]? = some x := by rfl) (hx : Loc X.env.scope x := by first | exact Or.inl rfl | exact Or.inr rfl) (hs : swapsWith e (some (.Name x pos')) pos.line X.env = pure false := by rfl)
    (hf : X.fn x = true ∨ X.env.scope.names.lookup x = some .local := by first | exact .inl rfl | exact .inr rfl | assumption) : MS X W (.Assign [.Name x pos'] e pos) (mSetX i m) :=
  ⟨fun F0 H0 => ps_weak (ps_set hN hi hx (he.ok F0 H0) hs hf) fun Dn σ H ⟨ρ, F, r, e1, e2, q⟩ => by
    unfold mSetX at e2
    cases hy : m ρ with
    | none => rw [hy] at e2; cases e2
    | some o =>
      rw [hy] at e2
      cases e2
      refine ⟨ρ, F, o, e1, hy, ?_⟩
      cases o with
      | ok d => exact fun v F' H' a p => q _ F' H' ((e1.go a).setD p)
      | er x => exact fun F' H' cls dd a xa => q σ F' H' cls dd (e1.go a) xa⟩
theorem ms_ifX {c : Expr} {sa sb : List Stmt} {m1 m2 : Rho → Option Res} (hc : MXB X W c m) (ha : MSs X W sa m1) (hb : MSs X W sb m2) : MS X W (.If c sa sb pos) (mIfX m m1 m2) :=
  ⟨fun F0 H0 => ps_weak (ps_if (hc.ok F0 H0) (ha.ok F0 H0) (hb.ok F0 H0)) fun Dn σ H ⟨ρ, F, r, e1, e2, q⟩ => by
    unfold mIfX at e2
    cases hx : m ρ with
    | none => rw [hx] at e2; cases e2
    | some o =>
      rw [hx] at e2
      refine ⟨ρ, F, o, e1, hx, ?_⟩
      cases o with
      | er x =>
        cases e2
        exact fun F' H' cls dd a xa => q σ F' H' cls dd (e1.go a) xa
      | ok d =>
        replace e2 : ((asB d).bind fun t => if t = true then m1 ρ else m2 ρ) = some r := e2
        cases ht : asB d with
        | none => rw [ht] at e2; cases e2
        | some t =>
          rw [ht] at e2
          replace e2 : (if t = true then m1 ρ else m2 ρ) = some r := e2
          refine ⟨t, asB_some ht, fun F1 H1 a1 => ?_⟩
          cases t with
          | true => exact iteT ⟨ρ, F1, r, e1.go a1, e2, q⟩
          | false => exact iteF ⟨ρ, F1, r, e1.go a1, e2, q⟩⟩
end

/-! ### try .. except C as e: what the suite reads of e -/
/-- what a class must have, so that a suite reads its errors -/
structure ErrR (K : PySem.W.Frag) (C : Addr) : Prop where
  xf : XfC K C
  cl : PySem.W.isClsIn K C = true
  ha : PySem.W.findIn K (.ref C) "__class__" = some (some (.builtin "object.__class__"))
  hn : PySem.W.specialIn K (.builtin "object.__class__") "__get__" = some (some (.builtin "getset_descriptor.__get__"))
  ht : PySem.W.takesIn K (.builtin "object.__class__") = some true
  hm : PySem.W.mroIn K C (.type "object") = some true
/-- a suite's place: X's, the error x at a (in slot i), its class, its dict -/
structure Su where
  X : Cx
  i : Nat
  a : Addr
  oe : Obj
  pn : List (Addr × Obj)
  x : Exn
  cls : Value
  dd : Option Addr
  hz : Zc cls dd oe
  hf : ∃ vs, oe.data = .fields vs
def Su.Y (S : Su) : Cx := S.X.suite S.a ((S.a, S.oe) :: S.pn)
structure SuP (S : Su) (F : Hp) (σ : L2.St) : Prop where
  sl : σ[S.i]? = some (some (.ref S.a))
  xa : XAt S.X F S.x S.cls S.dd
theorem SuP.go {S : Su} {F F' : Hp} {σ : L2.St} (p : SuP S F σ) (f : Ex F F') : SuP S F' σ := ⟨p.sl, XA.go f p.xa⟩
def qE (S : Su) (F0 H0 : Hp) (m : Rho → Option D) : TE := fun σ H Q => ∃ ρ F d, EnvOk S.X.K F0 H0 F H σ ρ ∧ SuP S F σ ∧ m ρ = some d ∧ ∀ v F' H', Adv F H F' H' → Dp S.X.K F' v d → Q v H'
def qB (S : Su) (F0 H0 : Hp) (m : Rho → Option Bool) : TT := fun σ H Q => ∃ ρ F b, EnvOk S.X.K F0 H0 F H σ ρ ∧ SuP S F σ ∧ m ρ = some b ∧ ∀ F' H', Adv F H F' H' → Q b H'
def qA (S : Su) (F0 H0 : Hp) (m : Rho → Option (List D)) : TA := fun σ H Q => ∃ ρ F ds, EnvOk S.X.K F0 H0 F H σ ρ ∧ SuP S F σ ∧ m ρ = some ds ∧ ∀ vs F' H', Adv F H F' H' → DpAll S.X.K F' vs ds → Q vs H'
def qS (S : Su) (F0 H0 : Hp) (m : Rho → Option Res) : TS := fun Dn σ H => ∃ ρ F r, EnvOk S.X.K F0 H0 F H σ ρ ∧ SuP S F σ ∧ m ρ = some r ∧ Goes S.X F0 H0 noW Dn r
structure QE (S : Su) (e : Expr) (m : Rho → Option D) : Prop where
  ok : ∀ F0 H0, PE S.Y e (qE S F0 H0 m)
structure QB (S : Su) (e : Expr) (m : Rho → Option Bool) : Prop where
  ok : ∀ F0 H0, PT S.Y e (qB S F0 H0 m)
structure QW (S : Su) (e : Expr) (m : Rho → Option Bool) : Prop where
  ok : ∀ F0 H0, PW S.Y e (qB S F0 H0 m)
structure QA (S : Su) (es : List Expr) (m : Rho → Option (List D)) : Prop where
  ok : ∀ F0 H0, PA S.Y es (qA S F0 H0 m)
structure QS (S : Su) (st : Stmt) (m : Rho → Option Res) : Prop where
  ok : ∀ F0 H0, PS S.Y st (qS S F0 H0 m)
structure QSs (S : Su) (st : List Stmt) (m : Rho → Option Res) : Prop where
  ok : ∀ F0 H0, PSs S.Y st (qS S F0 H0 m)
def mFld (x : Exn) (tags : List Str) (f : Str) : Rho → Option D := fun _ => if x.tag ∈ tags then x.fs.lookup f else none
/-- an answer by the error's class -/
def mIsE (x : Exn) (t : List (Str × Bool)) : Rho → Option Bool := fun _ => t.lookup x.tag
def mIsV (x : Exn) (t : List (Str × Bool)) : Rho → Option D := fun ρ => (mIsE x t ρ).map .bool
section
variable {S : Su} {e a b : Expr} {es : List Expr} {m ma mb : Rho → Option D} {n x xT f : Str} {p pT pT' pos : Pos}
theorem qe_me (h : ME S.Y e m) : QE S e m := ⟨fun F0 H0 => pe_weak (h.ok F0 H0) fun σ H Q ⟨ρ, F, d, e1, _, e2, q⟩ => ⟨ρ, F, d, e1, e2, q⟩⟩
theorem lookup_dp {K : PySem.W.Frag} {F : Hp} {f : Str} {d : D} : ∀ {vs : List (Str × V)} {fs : List (Str × D)}, vs.map (·.1) = fs.map (·.1) → DpAll K F (vs.map (·.2)) (fs.map (·.2)) → fs.lookup f = some d → ∃ v, vs.lookup f = some v ∧ Dp K F v d
  | [], [], _, _, h => by cases h
  | [], _ :: _, h, _, _ => by cases h
  | _ :: _, [], h, _, _ => by cases h
  | (g, v) :: vs, (g', d') :: fs, h, pa, hl => by
    injection h with h1 h2
    replace h1 : g = g' := h1
    subst h1
    cases pa with
    | cons r t =>
      by_cases hg : (f == g) = true
      · simp [List.lookup, hg] at hl ⊢
        subst hl
        exact r
      · have hg' : (f == g) = false := by simpa using hg
        simp only [List.lookup, hg'] at hl ⊢
        exact lookup_dp h2 t hl
theorem qe_fld {tags : List Str} (hT : ∀ t ∈ tags, ∀ C, S.X.mg t = some (.ref C) → XfC S.X.K C ∧ PySem.W.findIn S.X.K (.ref C) f = some none) (hN : S.Y.N[S.i]? = some n := by rfl) (hv : Vis S.Y.env.scope n := by first | exact Or.inl rfl | exact Or.inr (Or.inl rfl) | exact Or.inr (Or.inr rfl))
    (hd : (n == ("__debug__" : Str)) = false := by decide) (hcd : (n == ("__classdict__" : Str)) = false := by decide) (hb : attributeBase (.Name n p) f S.X.env (eval (.Name n p) S.X.env) = eval (.Name n p) S.X.env := by rfl) :
    QE S (.Attribute (.Name n p) f pos) (mFld S.x tags f) := ⟨fun F0 H0 => ⟨fun pins s σ H Q I ⟨ρ, F, d, e1, sp, e2, q⟩ => by
  unfold mFld at e2
  split at e2
  · rename_i ht
    obtain ⟨C, dx, vs, hm, hc, hdx, hF, hnm, hpa⟩ := sp.xa
    obtain ⟨T, hno⟩ := hT _ ht C hm
    obtain ⟨v, hl, pd⟩ := lookup_dp hnm hpa e2
    exact (pe_xf (X := S.X) T hno S.hz S.hf (pe_var hN hv hd hcd) hb).run pins s σ H Q I ⟨_, sp.sl, rfl, hc, dx, vs, v, hdx, e1.fh _ _ hF, hl, q v F H (Adv.refl e1.fh) pd⟩
  · cases e2⟩⟩
theorem call_isX {X : Cx} {a D : Addr} {dd : Option Addr} {oe : Obj} {pn : List (Addr × Obj)} {od : Option Obj} (T : ErrR X.K D) (hz : Zc (.ref D) dd oe) (hf : ∃ vs, oe.data = .fields vs) {pins : List (Addr × Obj)} {σ : L2.St} {H : Hp} {s : Shared} {us : List Value} {c : V} {cv : Value} {b : Bool} {Q : VK}
    (I : L2.Inv (X.suite a ((a, oe) :: pn)) pins σ H s) (hd : (match dd, od with | none, none => True | some d, some o => s.heap.get? d = some o | _, _ => False)) (r : Vals [.ref a, c] us) (hc : ∀ u, RelV c u → u = cv) (hk : PySem.W.kitOne X.K (.ref D) cv = some b) (q : Q (.bl b) H) :
    wpAny (model X.prog X.w) (X.suite a ((a, oe) :: pn)).A (call (.builtin "isinstance") us) (EP (X.suite a ((a, oe) :: pn)) pins σ Q) (X.suite a ((a, oe) :: pn)).xe s := by
  cases r with
  | cons r1 r2 =>
    cases r2 with
    | cons r2 r3 =>
      cases r3
      cases r1
      have hcv := hc _ r2
      subst hcv
      obtain ⟨hget, _⟩ := I.pin (a, oe) (List.mem_append_left _ List.mem_cons_self)
      obtain ⟨vs, hv⟩ := hf
      have J : PySem.W.InstAt s.heap a oe D od := by
        obtain ⟨oc, od', oda, osl⟩ := oe
        obtain ⟨k1, k2⟩ := hz
        dsimp only at k1 k2 hv
        subst k1 k2 hv
        refine ⟨hget, rfl, rfl, ?_⟩
        cases od' <;> cases od <;> first | trivial | exact hd | exact hd.elim
      exact PySem.W.kia_one (PySem.W.kitx_exc (od := od) T.cl T.xf.ga T.xf.gg T.xf.exC T.ha T.hn T.ht T.hm) I.kIn J hk (fun z => nomatch z) fun tk => ⟨.bl b, H, I.kept (t' := tk) fun _ _ z => z, rfl, q⟩
/-- isinstance(e, C), e the suite's error; C read as the class cv -/
theorem qe_isi {t : List (Str × Bool)} {c : V} {cv : Value} (hm : S.X.mg x = none) (hC : PE S.Y (.Name xT pT) (tC c)) (hc : ∀ u, RelV c u → u = cv) (hT : ∀ k bb, t.lookup k = some bb → ∀ C, S.X.mg k = some (.ref C) → ErrR S.X.K C ∧ PySem.W.kitOne S.X.K (.ref C) cv = some bb)
    (hvb : bootBuiltins x = some (.builtin "isinstance") := by decide +kernel) (hN : S.Y.N[S.i]? = some n := by rfl) (hv : Vis S.Y.env.scope n := by first | exact Or.inl rfl | exact Or.inr (Or.inl rfl) | exact Or.inr (Or.inr rfl))
    (hd : (n == ("__debug__" : Str)) = false := by decide) (hcd : (n == ("__classdict__" : Str)) = false := by decide) (hg : Gl S.Y x := by rfl) (hn : x ≠ "__name__" := by decide) (hdb : (x == ("__debug__" : Str)) = false := by decide)
    (s1 : starEach (.Name n p :: [.Name xT pT]) S.Y.env = (false, eval (.Name n p) S.Y.env) :: starEach [.Name xT pT] S.Y.env := by rfl) (s2 : starEach (.Name xT pT :: []) S.Y.env = (false, eval (.Name xT pT) S.Y.env) :: starEach [] S.Y.env := by rfl)
    (hpl : (backTo pos (starEach [.Name xT pT] S.Y.env)).any (·.1) = false := by rfl) : QE S (.Call (.Name x pT') [.Name n p, .Name xT pT] [] pos) (mIsV S.x t) :=
  ⟨fun F0 H0 => ⟨fun pins s σ H Q I ⟨ρ, F, d, e1, sp, e2, q⟩ => by
    replace e2 : (mIsE S.x t ρ).map PyData.bool = some d := e2
    cases hl : mIsE S.x t ρ with
    | none => rw [hl] at e2; cases e2
    | some bb =>
      rw [hl] at e2
      cases e2
      obtain ⟨C, dx, vs, hmg, hcc, hdx, hF, hnm, hpa⟩ := sp.xa
      obtain ⟨T, hk⟩ := hT _ _ hl C hmg
      have args : PA S.Y [.Name n p, .Name xT pT] (tCons (tVar S.i) (tCons (tC c) tNil)) := pa_cons (pe_var hN hv hd hcd) (pa_cons hC pa_nil s2) s1
      have hz' : Zc (.ref C) (some dx) S.oe := by
        have := S.hz
        rw [hcc, hdx] at this
        exact this
      refine wpAny_Call_Name_kw (ld_blt I hg hm hvb ?_ hn hdb)
      refine PyProof.Rows.callWith_builtin1 (thn (args.run pos pins s σ H (fun ws H1 => ws = [.ref S.a, c] ∧ H1 = H) I ⟨_, sp.sl, rfl, rfl⟩) fun us s1 ⟨ws, H1, I1, r, ew, eh⟩ => ?_) s1 hpl
      subst ew eh
      obtain ⟨mA, hns, _⟩ : ObjOk S.X.prog S.X.w H1 s1.heap dx (.xd vs) := I1.hok dx _ (e1.fh _ _ hF)
      obtain ⟨od, ho, _⟩ := lookIn_ns hns
      exact call_isX (X := S.X) (dd := some dx) (od := some od) T hz' S.hf I1 ho r hc hk (q _ F H1 (Adv.refl e1.fh) (.bl bb))⟩⟩
theorem qb_val (h : QE S e m) (he : ∀ whole, isTrue e S.Y.env whole = (do let v ← whole; standAt e.pos; holding [v] (truthy v)) := by intro _; rfl) : QB S e (mAsB m) :=
  ⟨fun F0 H0 => pt_weak (pt_val (h.ok F0 H0) he) fun σ H Q ⟨ρ, F, t, e1, sp, e2, q⟩ => ⟨ρ, F, _, e1, sp, mAsB_some e2, fun v F' H' adv pd => ⟨t, (by cases pd; rfl), q F' H' adv⟩⟩⟩
theorem qb_not {mt : Rho → Option Bool} (h : QB S a mt) : QB S (.UnaryOp .Not a pos) (mNot mt) :=
  ⟨fun F0 H0 => pt_weak (pt_not (h.ok F0 H0)) fun σ H Q ⟨ρ, F, t, e1, sp, e2, q⟩ => by
    unfold mNot at e2
    cases hx : mt ρ with
    | none => rw [hx] at e2; cases e2
    | some u =>
      rw [hx] at e2
      cases e2
      exact ⟨ρ, F, u, e1, sp, hx, q⟩⟩
theorem QW.toB {mt : Rho → Option Bool} (h : QW S e mt) : QB S e mt := ⟨fun F0 H0 => (h.ok F0 H0).pt⟩
theorem qw_or1 {mt : Rho → Option Bool} (h : QB S a mt) : QW S (.BoolOp .Or [a] pos) mt := ⟨fun F0 H0 => pw_or1 (h.ok F0 H0)⟩
theorem qw_or {m1 m2 : Rho → Option Bool} (h : QB S a m1) (h2 : QW S (.BoolOp .Or (b :: es) pos) m2) : QW S (.BoolOp .Or (a :: b :: es) pos) (mOr m1 m2) :=
  ⟨fun F0 H0 => pw_weak (pw_or (h.ok F0 H0) (h2.ok F0 H0)) fun σ H Q ⟨ρ, F, t, e1, sp, e2, q⟩ => by
    unfold mOr at e2
    cases hx : m1 ρ with
    | none => rw [hx] at e2; cases e2
    | some u =>
      rw [hx] at e2
      replace e2 : (if u = true then some true else m2 ρ) = some t := e2
      refine ⟨ρ, F, u, e1, sp, hx, fun F1 H1 a1 => ?_⟩
      cases u with
      | true =>
        cases e2
        exact iteT (q F1 H1 a1)
      | false => exact iteF ⟨ρ, F1, t, e1.go a1, sp.go a1.f, e2, fun F2 H2 a2 => q F2 H2 (a1.trans a2)⟩⟩
theorem qa_nil : QA S [] mNil := ⟨fun F0 H0 => pa_weak pa_nil fun σ H Q ⟨ρ, F, ds, e1, sp, e2, q⟩ => by
  cases e2
  exact q [] F H (Adv.refl e1.fh) .nil⟩
theorem qa_cons {mr : Rho → Option (List D)} (ha : QE S e ma) (hr : QA S es mr) (hs : starEach (e :: es) S.Y.env = (false, eval e S.Y.env) :: starEach es S.Y.env := by rfl) : QA S (e :: es) (mCons ma mr) :=
  ⟨fun F0 H0 => pa_weak (pa_cons (ha.ok F0 H0) (hr.ok F0 H0) hs) fun σ H Q ⟨ρ, F, ds, e1, sp, e2, q⟩ => by
    obtain ⟨d1, dr, h1, h2, rfl⟩ := mCons_some e2
    exact ⟨ρ, F, d1, e1, sp, h1, fun v1 F1 H1 a1 t1 => ⟨ρ, F1, dr, e1.go a1, sp.go a1.f, h2, fun vs F2 H2 a2 t2 => q _ F2 H2 (a1.trans a2) (.cons (dp_ex a2.f _ _ t1) t2)⟩⟩⟩
theorem qe_tup {k} {mr : Rho → Option (List D)} (h : QA S es mr) : QE S (.Tuple es k pos) (mTup mr) := ⟨fun F0 H0 => pe_weak (pe_tup (h.ok F0 H0)) fun σ H Q ⟨ρ, F, d, e1, sp, e2, q⟩ => by
  unfold mTup at e2
  cases hx : mr ρ with
  | none => rw [hx] at e2; cases e2
  | some ds =>
    rw [hx] at e2
    replace e2 : (if ds.length ≤ 100000 then some (PyData.tuple ds) else none) = some d := e2
    split at e2
    · cases e2
      rename_i hz
      exact ⟨ρ, F, ds, e1, sp, hx, fun vs F1 H1 a1 t1 => ⟨sz_of (by rw [(dal_len t1)]; exact hz), fun p hp => q _ _ _ (a1.trans (Adv.laid a1.fh hp)) (.tup (SqT.of upd_same) (dpa_ex (Ex.new (a1.fh.none hp)) _ _ t1))⟩⟩
    · cases e2⟩
theorem qs_ret (h : QE S e m) : QS S (.Return (some e) pos) (mRet m) := ⟨fun F0 H0 => ps_weak (ps_ret (h.ok F0 H0)) fun Dn σ H ⟨ρ, F, r, e1, sp, e2, q⟩ => by
  unfold mRet at e2
  cases hx : m ρ with
  | none => rw [hx] at e2; cases e2
  | some d =>
    rw [hx] at e2
    cases e2
    exact ⟨ρ, F, d, e1, sp, hx, fun v F' H' adv pd => q v F' H' (e1.toAdv.trans adv) pd⟩⟩
theorem qs_pass : QS S (.Pass pos) mSkip := ⟨fun F0 H0 => ps_weak ps_pass fun Dn σ H ⟨ρ, F, r, e1, sp, e2, q⟩ => by
  cases e2
  exact q σ F H e1⟩
theorem qss_nil : QSs S [] mSkip := ⟨fun F0 H0 => pss_weak pss_nil fun Dn σ H ⟨ρ, F, r, e1, sp, e2, q⟩ => by
  cases e2
  exact q σ F H e1⟩
theorem qss_one {st : Stmt} {mr : Rho → Option Res} (h : QS S st mr) : QSs S [st] mr := ⟨fun F0 H0 => pss_one (h.ok F0 H0)⟩
/-- if c: .., with a rest that may follow -/
def mGuard (mt : Rho → Option Bool) (m1 m2 : Rho → Option Res) : Rho → Option Res := fun ρ => (mt ρ).bind fun t => if t = true then m1 ρ else m2 ρ
/-- if c: return e; then the rest: the suite's form -/
theorem qss_guard {c : Expr} {rest : List Stmt} {pr : Pos} {mt : Rho → Option Bool} {m1 : Rho → Option D} {m2 : Rho → Option Res} (hc : QB S c mt) (h1 : QE S e m1) (h2 : QSs S rest m2) : QSs S (.If c [.Return (some e) pr] [] pos :: rest) (mGuard mt (mRet m1) m2) :=
  ⟨fun F0 H0 => pss_weak (pss_cons (ps_if (hc.ok F0 H0) (pss_one (ps_ret (h1.ok F0 H0))) pss_nil) (h2.ok F0 H0)) fun Dn σ H ⟨ρ, F, r, e1, sp, e2, q⟩ => by
    unfold mGuard at e2
    cases hx : mt ρ with
    | none => rw [hx] at e2; cases e2
    | some t =>
      rw [hx] at e2
      replace e2 : (if t = true then mRet m1 ρ else m2 ρ) = some r := e2
      refine ⟨ρ, F, t, e1, sp, hx, fun F1 H1 a1 => ?_⟩
      cases t with
      | true =>
        replace e2 : mRet m1 ρ = some r := e2
        unfold mRet at e2
        cases hy : m1 ρ with
        | none => rw [hy] at e2; cases e2
        | some d =>
          rw [hy] at e2
          cases e2
          exact iteT ⟨ρ, F1, d, e1.go a1, sp.go a1.f, hy, fun v F2 H2 a2 pd => q v F2 H2 ((e1.go a1).toAdv.trans a2) pd⟩
      | false => exact iteF ⟨ρ, F1, r, e1.go a1, sp.go a1.f, e2, q⟩⟩
end

theorem takes_no {X : Cx} (_ : ∀ e s, X.xe e s → False) : Takes X noW := fun u s' ⟨_, _, _, _, _, _, _, _, _, _, _, _, _, _, _, _, w⟩ => w.elim
theorem EnvOk.setU {K : PySem.W.Frag} {F0 H0 F H : Hp} {σ : L2.St} {ρ : Rho} (e : EnvOk K F0 H0 F H σ ρ) (i : Nat) (o : Option V) : EnvOk K F0 H0 F H (σ.set i o) (ρ.set i .un) := by
  have old : ∀ {j : Nat} {c : Cell}, (ρ.set i .un)[j]? = some c → c ≠ .un → ρ[j]? = some c ∧ (σ.set i o)[j]? = σ[j]? := fun {j c} h hc => by
    rcases getElem?_set_cases h with ⟨_, hd, _⟩ | ⟨hne, hj⟩
    · exact absurd hd hc
    · exact ⟨hj, List.getElem?_set_ne (Ne.symm hne)⟩
  refine ⟨e.adv, e.new, by simpa using e.len, fun j d hj => ?_, fun j ds hj => ?_, fun j k ds es p g1 g2 g3 g4 => ?_⟩
  · obtain ⟨h1, h2⟩ := old hj (fun z => nomatch z)
    rw [h2]
    exact e.dat j d h1
  · obtain ⟨h1, h2⟩ := old hj (fun z => nomatch z)
    rw [h2]
    exact e.own j ds h1
  · obtain ⟨h1, h2⟩ := old g1 (fun z => nomatch z)
    obtain ⟨h3, h4⟩ := old g2 (fun z => nomatch z)
    rw [h2] at g3
    rw [h4] at g4
    exact e.dist j k ds es p h1 h3 g3 g4
def endS (i : Nat) : Res → Option Res
  | .ex _ _ => none
  | r => some (postR [i] r)
def mTry (i : Nat) (mb : Rho → Option Res) (exm : List (Str × Bool)) (msu : Exn → Rho → Option Res) : Rho → Option Res := fun ρ => (mb ρ).bind fun r => match r with
  | .ex e ρ1 => (exm.lookup e.tag).bind fun b => if b = true then (if i < ρ1.length then (msu e (ρ1.set i .un)).bind (endS i) else none) else some (.ex e ρ1)
  | r => some r
theorem ms_try {X : Cx} {W : WX} {x n : Str} {C : Addr} {i : Nat} {body suite : List Stmt} {b₀ : Stmt} {np pos pos' : Pos} {mb : Rho → Option Res} {exm : List (Str × Bool)} {msu : Exn → Rho → Option Res} (hN : X.N.Nodup) (hm : X.mg x = some (.ref C)) (tk : Takes X W)
    (hb : ∀ (W' : WX) (pn : List (Addr × Obj)) (xe : Value → Shared → Prop), Takes (X.tr pn xe) W' → PassesOwn (model X.prog X.w) X.A X.env xe → MSs (X.tr pn xe) W' body mb)
    (hsu : ∀ a oe pn y cls dd hz hf, QSs ⟨X, i, a, oe, pn, y, cls, dd, hz, hf⟩ (b₀ :: suite) (msu y))
    (hex : ∀ k bb, exm.lookup k = some bb → ∀ D, X.mg k = some (.ref D) → PySem.W.exmOne X.K (.ref D) (.ref C) = some bb) (hs : X.stack = X.env :: X.outer := by rfl) (hf : X.env.frame = some X.env.locals := by rfl) (hi : X.N[i]? = some n := by rfl) (hln : X.env.kindOf n = some .local := by rfl)
    (hg : Gl X x := by rfl) (hdb : (x == ("__debug__" : Str)) = false := by decide) : MS X W (.Try body [.ExceptHandler (some (.Name x np)) (some n) (b₀ :: suite) pos'] [] [] pos) (mTry i mb exm msu) := by
  refine ⟨fun F0 H0 => ?_⟩
  let dum : Value → Option Addr → Obj := fun c d => { cls := c, dict := d, data := .fields #[] }
  let su : Addr → Value → Option Addr → Exn → Su := fun a cls dd y => ⟨X, i, a, dum cls dd, [], y, cls, dd, ⟨rfl, rfl⟩, ⟨_, rfl⟩⟩
  refine ps_weak (ps_try_as (i := i) (c := .ref C) (Wout := W) (tb := fun W' => tS X F0 H0 W' mb) (ts := fun a cls dd Dn σ H => ∃ y, qS (su a cls dd y) F0 H0 (msu y) Dn σ H) hs hf hN hi hln ⟨hg, hdb, .inl hm⟩ tk
    (fun W' pn xe t p => (hb W' pn xe t p).ok F0 H0) fun a oe cls dd pn hz hfd => ⟨fun pins s σ H Dn I ⟨y, ρ, F, r, e1, sp, e2, q⟩ => ((hsu a oe pn y cls dd hz hfd).ok F0 H0).run pins s σ H Dn I ⟨ρ, F, r, e1, ⟨sp.sl, sp.xa⟩, e2, q⟩⟩) fun Dn σ H ⟨ρ, F, r, e1, e2, q⟩ => ?_
  unfold mTry at e2
  cases hx : mb ρ with
  | none => rw [hx] at e2; cases e2
  | some r1 =>
    rw [hx] at e2
    refine ⟨ρ, F, r1, e1, hx, ?_⟩
    cases r1 with
    | nx ρ1 => cases e2; exact q
    | rt d => cases e2; exact q
    | bk ρ1 => cases e2; exact q
    | ct ρ1 => cases e2; exact q
    | ex y ρ1 =>
      replace e2 : ((exm.lookup y.tag).bind fun b => if b = true then (if i < ρ1.length then (msu y (ρ1.set i .un)).bind (endS i) else none) else some (.ex y ρ1)) = some r := e2
      intro σ1 F1 H1 cls dd k1 xa
      cases hl : exm.lookup y.tag with
      | none => rw [hl] at e2; cases e2
      | some bb =>
        rw [hl] at e2
        obtain ⟨D, dx, vs, hmg, hcl, hdx, hrest⟩ := id xa
        refine ⟨bb, by rw [hcl]; exact hex _ _ hl D hmg, fun hbb a na => ?_, fun hbb => ?_⟩
        · subst hbb
          replace e2 : (if i < ρ1.length then (msu y (ρ1.set i .un)).bind (endS i) else none) = some r := e2
          split at e2
          · rename_i hlen
            cases hsm : msu y (ρ1.set i .un) with
            | none => rw [hsm] at e2; cases e2
            | some r2 =>
              rw [hsm] at e2
              replace e2 : endS i r2 = some r := e2
              refine ⟨y, ρ1.set i .un, F1, r2, k1.setU i _, ⟨List.getElem?_set_self (by rw [← k1.len]; exact hlen), xa⟩, hsm, ?_⟩
              cases r2 with
              | ex _ _ => cases e2
              | rt d => cases e2; exact q
              | nx ρ2 => cases e2; exact fun σ2 F2 H2 k2 => q _ F2 H2 (k2.setU i none)
              | bk ρ2 => cases e2; exact fun σ2 F2 H2 k2 => q _ F2 H2 (k2.setU i none)
              | ct ρ2 => cases e2; exact fun σ2 F2 H2 k2 => q _ F2 H2 (k2.setU i none)
          · cases e2
        · subst hbb
          cases e2
          exact q σ1 F1 H1 cls dd k1 xa
end MV

set_option maxRecDepth 100000
set_option maxHeartbeats 4000000
/-! how the mirrors of errors are worked out -/
namespace MV
open PySem PySem.Spec PyProof.Rows L2
section
variable {ρ ρ1 ρ2 ρ' : Rho} {m : Rho → Option Exn} {mo : Rho → Option Out} {mb : Rho → Option D} {a b : Rho → Option Res} {r r1 r2 : Res} {R : Option Res} {d x y : D} {ds dds : List D} {i : Nat} {g2 : D → D → Option D} {ma : Rho → Option (List D)} {e : Exn} {o o' : Out} {w f : Str} {t : Bool}
def outR : Res → Option Out
  | .rt d => some (.ok d)
  | .nx _ => some (.ok .none)
  | .ex e _ => some (.er e)
  | _ => none
theorem runX_ok {n k : Nat} {body : Rho → Option Res} (h : body (ds.map Cell.dat ++ List.replicate k Cell.un) = some r) (hl : ds.length = n) (e : outR r = some o) : runDefX n k body ds = some o := by
  unfold runDefX
  rw [if_pos hl, h]
  exact e
theorem then_ex : thenR (.ex e ρ) b = some (.ex e ρ) := rfl
theorem post_ex {vs : List Nat} (h : wipeR ρ vs = ρ') : postR vs (.ex e ρ) = .ex e ρ' := by
  rw [← h]
  rfl
theorem st_raise (h : m ρ = some e) : mRaise m ρ = some (.ex e ρ) := by
  unfold mRaise
  rw [h]
  rfl
theorem mk_err (h : ma ρ = some ds) (h2 : errOf w (ds ++ dds) = some e) : mErr w dds ma ρ = some e := by
  unfold mErr
  rw [h]
  exact h2
def errI (w : Str) (p : D) : Exn := ⟨w, [("place", p), ("word", .str w)]⟩
theorem err_int {k : Int} (h : k.natAbs.log2 < 1900) : errOf w ([.int k] ++ []) = some (errI w (.int k)) := if_pos (decide_eq_true h)
theorem err_non : errOf w ([] ++ [.none]) = some (errI w .none) := rfl
theorem loop_ex {mg : D → Rho → Option Rho} {mb : Rho → Option Res} (h1 : mg d ρ = some ρ1) (h2 : mb ρ1 = some (.ex e ρ2)) : loopD mg mb (d :: ds) ρ = some (.ex e ρ2) := by
  rw [loopD, h1, Option.bind_some, h2]
  rfl
def ifXR (a b : Rho → Option Res) (ρ : Rho) : Out → Option Res
  | .ok d => (asB d).bind fun t => if t = true then a ρ else b ρ
  | .er e => some (.ex e ρ)
theorem st_ifX (h : mo ρ = some o) (h2 : ifXR a b ρ o = R) : mIfX mo a b ρ = R := by
  rw [← h2]
  unfold mIfX
  rw [h]
  cases o <;> rfl
theorem ifX_ok (h : (if t = true then a ρ else b ρ) = R) : ifXR a b ρ (.ok (.bool t)) = R := h
theorem ifX_er : ifXR a b ρ (.er e) = some (.ex e ρ) := rfl
def m2R (g : D → D → Option D) (mb : Rho → Option D) (ρ : Rho) : Out → Option Out
  | .ok x => (mb ρ).bind fun y => (g x y).map .ok
  | .er e => some (.er e)
theorem ex_2X (h : mo ρ = some o) (h2 : m2R g2 mb ρ o = some o') : m2X g2 mo mb ρ = some o' := by
  rw [← h2]
  unfold m2X
  rw [h]
  cases o <;> rfl
theorem m2R_er : m2R g2 mb ρ (.er e) = some (.er e) := rfl
theorem m2R_ok (h : mb ρ = some y) (h2 : g2 x y = some d) : m2R g2 mb ρ (.ok x) = some (.ok d) := by
  show ((mb ρ).bind fun y => (g2 x y).map Out.ok) = some (Out.ok d)
  rw [h, Option.bind_some, h2]
  rfl
theorem ex_callX {mf : List D → Option Out} (h : ma ρ = some ds) (h2 : mf ds = some o) : mCallX mf [] ma ρ = some o := by
  unfold mCallX
  rw [h, Option.bind_some, List.append_nil]
  exact h2
def tryR (i : Nat) (exm : List (Str × Bool)) (msu : Exn → Rho → Option Res) : Res → Option Res
  | .ex e ρ1 => (exm.lookup e.tag).bind fun b => if b = true then (if i < ρ1.length then (msu e (ρ1.set i .un)).bind (endS i) else none) else some (.ex e ρ1)
  | r => some r
section
variable {exm : List (Str × Bool)} {msu : Exn → Rho → Option Res} {body : Rho → Option Res}
theorem st_try (h : body ρ = some r) (h2 : tryR i exm msu r = R) : mTry i body exm msu ρ = R := by
  rw [← h2]
  unfold mTry
  rw [h]
  cases r <;> rfl
theorem try_nx : tryR i exm msu (.nx ρ) = some (.nx ρ) := rfl
theorem try_rt : tryR i exm msu (.rt d) = some (.rt d) := rfl
theorem try_ex (h1 : exm.lookup e.tag = some true) (h2 : i < ρ.length) (h3 : ρ.set i .un = ρ1) (h4 : msu e ρ1 = some r) (h5 : endS i r = R) : tryR i exm msu (.ex e ρ) = R := by
  show ((exm.lookup e.tag).bind fun b => if b = true then (if i < ρ.length then (msu e (ρ.set i .un)).bind (endS i) else none) else some (.ex e ρ)) = R
  rw [h1, h3, Option.bind_some, if_pos rfl, if_pos h2, h4]
  exact h5
theorem end_rt : endS i (.rt d) = some (.rt d) := rfl
theorem end_nx (h : wipeR ρ [i] = ρ') : endS i (.nx ρ) = some (.nx ρ') := by
  rw [← h]
  rfl
end
theorem st_guard {mt : Rho → Option Bool} (h : mt ρ = some t) (h2 : (if t = true then a ρ else b ρ) = R) : mGuard mt a b ρ = R := by
  unfold mGuard
  rw [h]
  exact h2
theorem fld_ok {tags : List Str} (h : e.tag ∈ tags) (h2 : e.fs.lookup f = some d) : mFld e tags f ρ = some d := by
  unfold mFld
  rw [if_pos h, h2]
theorem isv_ok {tb : List (Str × Bool)} (h : tb.lookup e.tag = some t) : mIsV e tb ρ = some (.bool t) := by
  unfold mIsV mIsE
  rw [h]
  rfl
/-- a loop that raises at the first item that is out -/
theorem loop_raise {α : Type} {mg : D → Rho → Option Rho} {mb : Rho → Option Res} (g : α → D) (ρ : Rho) (ok : α → Bool) (out : α → Exn) : ∀ xs : List α,
    (∀ x, x ∈ xs → ∃ ρ1, mg (g x) ρ = some ρ1 ∧ (ok x = true → mb ρ1 = some (.nx ρ)) ∧ (ok x = false → ∃ ρ2, mb ρ1 = some (.ex (out x) ρ2))) →
    (xs.find? (fun x => !ok x) = none ∧ loopD mg mb (xs.map g) ρ = some (.nx ρ)) ∨ ∃ x ρ2, xs.find? (fun x => !ok x) = some x ∧ loopD mg mb (xs.map g) ρ = some (.ex (out x) ρ2)
  | [], _ => .inl ⟨rfl, rfl⟩
  | x :: xs, w => by
    obtain ⟨ρ1, h2, h3, h4⟩ := w x List.mem_cons_self
    have ih := loop_raise g ρ ok out xs fun y hy => w y (List.mem_cons_of_mem _ hy)
    cases hx : ok x with
    | true =>
      rw [List.find?_cons, hx]
      rcases ih with ⟨k1, k2⟩ | ⟨z, ρ2, k1, k2⟩
      · exact .inl ⟨k1, loop_cons h2 (h3 hx) k2⟩
      · exact .inr ⟨z, ρ2, k1, loop_cons h2 (h3 hx) k2⟩
    | false =>
      rw [List.find?_cons, hx]
      obtain ⟨ρ2, k⟩ := h4 hx
      exact .inr ⟨x, ρ2, rfl, loop_ex h2 k⟩
end
end MV

namespace Tx
open PySem PySem.Spec PyProof.Rows L2 MV
def topS (i : Nat) : Stmt := PySem.Challenge.pw_stayswithin_k05_points.main.body.getD i (.Pass ⟨0, 0, 0, 0⟩)
abbrev s_is_whole : Stmt := topS 6
abbrev N_is_whole : List Str := ["value"]
theorem sc_is_whole : FnScope ["value"] ["value"] (defScope s_is_whole) := ⟨rfl, rfl, rfl, by decide +kernel, rfl, by decide +kernel, by decide +kernel⟩
abbrev s_greatest_divisor : Stmt := topS 7
abbrev N_greatest_divisor : List Str := ["first", "second"]
theorem sc_greatest_divisor : FnScope ["first", "second"] ["first", "second"] (defScope s_greatest_divisor) := ⟨rfl, rfl, rfl, by decide +kernel, rfl, by decide +kernel, by decide +kernel⟩
abbrev s_is_fraction : Stmt := topS 8
abbrev N_is_fraction : List Str := ["value", "number", "divisor"]
theorem sc_is_fraction : FnScope ["value", "number", "divisor"] ["value"] (defScope s_is_fraction) := ⟨rfl, rfl, rfl, by decide +kernel, rfl, by decide +kernel, by decide +kernel⟩
abbrev s_fraction : Stmt := topS 9
abbrev N_fraction : List Str := ["number", "divisor", "shared"]
theorem sc_fraction : FnScope ["number", "divisor", "shared"] ["number", "divisor"] (defScope s_fraction) := ⟨rfl, rfl, rfl, by decide +kernel, rfl, by decide +kernel, by decide +kernel⟩
abbrev s_is_point : Stmt := topS 11
abbrev N_is_point : List Str := ["value", "count", "part"]
theorem sc_is_point : FnScope ["value", "count", "part"] ["value", "count"] (defScope s_is_point) := ⟨rfl, rfl, rfl, by decide +kernel, rfl, by decide +kernel, by decide +kernel⟩
abbrev s_check_points : Stmt := topS 12
abbrev N_check_points : List Str := ["points", "count", "index", "point"]
theorem sc_check_points : FnScope ["points", "count", "index", "point"] ["points", "count"] (defScope s_check_points) := ⟨rfl, rfl, rfl, by decide +kernel, rfl, by decide +kernel, by decide +kernel⟩
abbrev s_point_of : Stmt := topS 13
abbrev N_point_of : List Str := ["numbers", "divisor", "number"]
theorem sc_point_of : FnScope ["numbers", "divisor", "number"] ["numbers", "divisor"] (defScope s_point_of) := ⟨rfl, rfl, rfl, by decide +kernel, rfl, by decide +kernel, by decide +kernel⟩
abbrev s__law_cell : Stmt := topS 15
abbrev N__law_cell : List Str := ["script", "k"]
theorem sc__law_cell : FnScope ["script", "k"] ["script", "k"] (defScope s__law_cell) := ⟨rfl, rfl, rfl, by decide +kernel, rfl, by decide +kernel, by decide +kernel⟩
abbrev s__law_row : Stmt := topS 16
abbrev N__law_row : List Str := ["cell", "count", "base", "row", "k", "number"]
theorem sc__law_row : FnScope ["cell", "count", "base", "row", "k", "number"] ["cell", "count", "base"] (defScope s__law_row) := ⟨rfl, rfl, rfl, by decide +kernel, rfl, by decide +kernel, by decide +kernel⟩
abbrev s__law_common : Stmt := topS 17
abbrev N__law_common : List Str := ["one", "other", "turn"]
theorem sc__law_common : FnScope ["one", "other", "turn"] ["one", "other"] (defScope s__law_common) := ⟨rfl, rfl, rfl, by decide +kernel, rfl, by decide +kernel, by decide +kernel⟩
abbrev s__law_lowest : Stmt := topS 18
abbrev N__law_lowest : List Str := ["number", "divisor", "common"]
theorem sc__law_lowest : FnScope ["number", "divisor", "common"] ["number", "divisor"] (defScope s__law_lowest) := ⟨rfl, rfl, rfl, by decide +kernel, rfl, by decide +kernel, by decide +kernel⟩
abbrev s__law_number : Stmt := topS 19
abbrev N__law_number : List Str := ["cell", "k", "row", "sizes"]
theorem sc__law_number : FnScope ["cell", "k", "row", "sizes"] ["cell", "k"] (defScope s__law_number) := ⟨rfl, rfl, rfl, by decide +kernel, rfl, by decide +kernel, by decide +kernel⟩
abbrev s__law_fraction : Stmt := topS 20
abbrev N__law_fraction : List Str := ["cell", "k", "divisor"]
theorem sc__law_fraction : FnScope ["cell", "k", "divisor"] ["cell", "k"] (defScope s__law_fraction) := ⟨rfl, rfl, rfl, by decide +kernel, rfl, by decide +kernel, by decide +kernel⟩
abbrev s__law_is : Stmt := topS 21
abbrev N__law_is : List Str := ["actual", "due"]
theorem sc__law_is : FnScope ["actual", "due"] ["actual", "due"] (defScope s__law_is) := ⟨rfl, rfl, rfl, by decide +kernel, rfl, by decide +kernel, by decide +kernel⟩
abbrev s__law_point : Stmt := topS 22
abbrev N__law_point : List Str := ["cell", "count", "k"]
theorem sc__law_point : FnScope ["cell", "count", "k"] ["cell", "count"] (defScope s__law_point) := ⟨rfl, rfl, rfl, by decide +kernel, rfl, by decide +kernel, by decide +kernel⟩
abbrev s__law_bent : Stmt := topS 23
abbrev N__law_bent : List Str := ["cell", "points", "count", "row", "at", "good", "place", "part", "bent", "others", "k"]
theorem sc__law_bent : FnScope ["cell", "points", "count", "row", "at", "good", "place", "part", "bent", "others", "k"] ["cell", "points", "count"] (defScope s__law_bent) := ⟨rfl, rfl, rfl, by decide +kernel, rfl, by decide +kernel, by decide +kernel⟩
abbrev s__law_is_point : Stmt := topS 24
abbrev N__law_is_point : List Str := ["value", "count", "part", "number"]
theorem sc__law_is_point : FnScope ["value", "count", "part", "number"] ["value", "count"] (defScope s__law_is_point) := ⟨rfl, rfl, rfl, by decide +kernel, rfl, by decide +kernel, by decide +kernel⟩
abbrev s__law_told : Stmt := topS 25
abbrev N__law_told : List Str := ["points", "count", "e"]
theorem sc__law_told : FnScope ["points", "count", "e"] ["points", "count"] (defScope s__law_told) := ⟨rfl, rfl, rfl, by decide +kernel, rfl, by decide +kernel, by decide +kernel⟩
abbrev s_law : Stmt := topS 26
abbrev N_law : List Str := ["script", "count", "points", "k", "bad", "due", "given", "value", "numbers", "divisor", "number"]
theorem sc_law : FnScope ["script", "count", "points", "k", "bad", "due", "given", "value", "numbers", "divisor", "number"] ["script"] (defScope s_law) := ⟨rfl, rfl, rfl, by decide +kernel, rfl, by decide +kernel, by decide +kernel⟩
abbrev si_BoundError : Stmt := clsInit (topS 2)
theorem sci_BoundError : FnScope ["self", "word", "place"] ["self", "word", "place"] (defScope si_BoundError) := ⟨rfl, rfl, rfl, by decide +kernel, rfl, by decide +kernel, by decide +kernel⟩
abbrev si_BadPoint : Stmt := clsInit (topS 3)
theorem sci_BadPoint : FnScope ["self", "place"] ["self", "place"] (defScope si_BadPoint) := ⟨rfl, rfl, rfl, by decide +kernel, rfl, by decide +kernel, by decide +kernel⟩
abbrev si_BadWeights : Stmt := clsInit (topS 4)
theorem sci_BadWeights : FnScope ["self", "place"] ["self", "place"] (defScope si_BadWeights) := ⟨rfl, rfl, rfl, by decide +kernel, rfl, by decide +kernel, by decide +kernel⟩
def errTags : List Str := [Str.ofString "BadPoint", Str.ofString "BadWeights"]
def kit_BadPoint : List (Str × Bool) := [(Str.ofString "BadPoint", true), (Str.ofString "BadWeights", false)]
def kit_BadWeights : List (Str × Bool) := [(Str.ofString "BadPoint", false), (Str.ofString "BadWeights", true)]
def kit_ValueError : List (Str × Bool) := [(Str.ofString "BadPoint", true), (Str.ofString "BadWeights", true)]
def exm_BoundError : List (Str × Bool) := [(Str.ofString "BadPoint", true), (Str.ofString "BadWeights", true)]
structure Txt (K : PySem.W.Frag) (mg : Str → Option Value) where
  c_BoundError : Addr
  c_BadPoint : Addr
  c_BadWeights : Addr
  i_BoundError : Addr
  di_BoundError : FuncData
  g_BoundError : mg "BoundError" = some (.ref c_BoundError)
  Fi_BoundError : FunD K "__init__" "BoundError.__init__" (defArgs si_BoundError) (defBody si_BoundError) (defScope si_BoundError) [V.non] [] i_BoundError di_BoundError
  rd_BoundError : ClX.CRead K c_BoundError (.type "type")
  iv_BoundError : PySem.W.findCls K (.ref c_BoundError) (.type "type") "__init__" = some (.val (.ref i_BoundError))
  ui_BoundError_3 : List Value
  bi_BoundError_3 : Binds K di_BoundError ["self", "word", "place"] ui_BoundError_3
  vi_BoundError_3 : Vals [] ui_BoundError_3
  i_BadPoint : Addr
  di_BadPoint : FuncData
  g_BadPoint : mg "BadPoint" = some (.ref c_BadPoint)
  Fi_BadPoint : FunD K "__init__" "BadPoint.__init__" (defArgs si_BadPoint) (defBody si_BadPoint) (defScope si_BadPoint) [V.non] [] i_BadPoint di_BadPoint
  E_BadPoint : ErrC K c_BadPoint i_BadPoint
  R_BadPoint : ErrR K c_BadPoint
  ui_BadPoint_1 : List Value
  bi_BadPoint_1 : Binds K di_BadPoint ["self", "place"] ui_BadPoint_1
  vi_BadPoint_1 : Vals [V.non] ui_BadPoint_1
  ui_BadPoint_2 : List Value
  bi_BadPoint_2 : Binds K di_BadPoint ["self", "place"] ui_BadPoint_2
  vi_BadPoint_2 : Vals [] ui_BadPoint_2
  kk_BadPoint_BadPoint : PySem.W.kitOne K (.ref c_BadPoint) (.ref c_BadPoint) = some true
  kk_BadPoint_BadWeights : PySem.W.kitOne K (.ref c_BadPoint) (.ref c_BadWeights) = some false
  kk_BadPoint_ValueError : PySem.W.kitOne K (.ref c_BadPoint) (.type "ValueError") = some true
  xm_BadPoint_BoundError : PySem.W.exmOne K (.ref c_BadPoint) (.ref c_BoundError) = some true
  i_BadWeights : Addr
  di_BadWeights : FuncData
  g_BadWeights : mg "BadWeights" = some (.ref c_BadWeights)
  Fi_BadWeights : FunD K "__init__" "BadWeights.__init__" (defArgs si_BadWeights) (defBody si_BadWeights) (defScope si_BadWeights) [V.non] [] i_BadWeights di_BadWeights
  E_BadWeights : ErrC K c_BadWeights i_BadWeights
  R_BadWeights : ErrR K c_BadWeights
  ui_BadWeights_1 : List Value
  bi_BadWeights_1 : Binds K di_BadWeights ["self", "place"] ui_BadWeights_1
  vi_BadWeights_1 : Vals [V.non] ui_BadWeights_1
  ui_BadWeights_2 : List Value
  bi_BadWeights_2 : Binds K di_BadWeights ["self", "place"] ui_BadWeights_2
  vi_BadWeights_2 : Vals [] ui_BadWeights_2
  kk_BadWeights_BadPoint : PySem.W.kitOne K (.ref c_BadWeights) (.ref c_BadPoint) = some false
  kk_BadWeights_BadWeights : PySem.W.kitOne K (.ref c_BadWeights) (.ref c_BadWeights) = some true
  kk_BadWeights_ValueError : PySem.W.kitOne K (.ref c_BadWeights) (.type "ValueError") = some true
  xm_BadWeights_BoundError : PySem.W.exmOne K (.ref c_BadWeights) (.ref c_BoundError) = some true
  v_ValueError : PySem.W.findCls K (.type "ValueError") (.type "type") "__init__" = some (.val (.builtin "ValueError.__init__"))
  a_is_whole : Addr
  d_is_whole : FuncData
  F_is_whole : FunD K "is_whole" "is_whole" (defArgs s_is_whole) (defBody s_is_whole) (defScope s_is_whole) [] [] a_is_whole d_is_whole
  g_is_whole : mg "is_whole" = some (.ref a_is_whole)
  b_is_whole : Binds K d_is_whole ["value"] []
  a_greatest_divisor : Addr
  d_greatest_divisor : FuncData
  F_greatest_divisor : FunD K "greatest_divisor" "greatest_divisor" (defArgs s_greatest_divisor) (defBody s_greatest_divisor) (defScope s_greatest_divisor) [] [] a_greatest_divisor d_greatest_divisor
  g_greatest_divisor : mg "greatest_divisor" = some (.ref a_greatest_divisor)
  b_greatest_divisor : Binds K d_greatest_divisor ["first", "second"] []
  a_is_fraction : Addr
  d_is_fraction : FuncData
  F_is_fraction : FunD K "is_fraction" "is_fraction" (defArgs s_is_fraction) (defBody s_is_fraction) (defScope s_is_fraction) [] [] a_is_fraction d_is_fraction
  g_is_fraction : mg "is_fraction" = some (.ref a_is_fraction)
  b_is_fraction : Binds K d_is_fraction ["value"] []
  a_fraction : Addr
  d_fraction : FuncData
  F_fraction : FunD K "fraction" "fraction" (defArgs s_fraction) (defBody s_fraction) (defScope s_fraction) [V.int 1] [] a_fraction d_fraction
  g_fraction : mg "fraction" = some (.ref a_fraction)
  u_fraction_1 : List Value
  b_fraction_1 : Binds K d_fraction ["number", "divisor"] u_fraction_1
  v_fraction_1 : Vals [V.int 1] u_fraction_1
  u_fraction_2 : List Value
  b_fraction_2 : Binds K d_fraction ["number", "divisor"] u_fraction_2
  v_fraction_2 : Vals [] u_fraction_2
  a_is_point : Addr
  d_is_point : FuncData
  F_is_point : FunD K "is_point" "is_point" (defArgs s_is_point) (defBody s_is_point) (defScope s_is_point) [] [] a_is_point d_is_point
  g_is_point : mg "is_point" = some (.ref a_is_point)
  b_is_point : Binds K d_is_point ["value", "count"] []
  a_check_points : Addr
  d_check_points : FuncData
  F_check_points : FunD K "check_points" "check_points" (defArgs s_check_points) (defBody s_check_points) (defScope s_check_points) [] [] a_check_points d_check_points
  g_check_points : mg "check_points" = some (.ref a_check_points)
  b_check_points : Binds K d_check_points ["points", "count"] []
  a_point_of : Addr
  d_point_of : FuncData
  F_point_of : FunD K "point_of" "point_of" (defArgs s_point_of) (defBody s_point_of) (defScope s_point_of) [V.int 1] [] a_point_of d_point_of
  g_point_of : mg "point_of" = some (.ref a_point_of)
  u_point_of_1 : List Value
  b_point_of_1 : Binds K d_point_of ["numbers", "divisor"] u_point_of_1
  v_point_of_1 : Vals [V.int 1] u_point_of_1
  u_point_of_2 : List Value
  b_point_of_2 : Binds K d_point_of ["numbers", "divisor"] u_point_of_2
  v_point_of_2 : Vals [] u_point_of_2
  a__law_cell : Addr
  d__law_cell : FuncData
  F__law_cell : FunD K "_law_cell" "_law_cell" (defArgs s__law_cell) (defBody s__law_cell) (defScope s__law_cell) [] [] a__law_cell d__law_cell
  g__law_cell : mg "_law_cell" = some (.ref a__law_cell)
  b__law_cell : Binds K d__law_cell ["script", "k"] []
  a__law_row : Addr
  d__law_row : FuncData
  F__law_row : FunD K "_law_row" "_law_row" (defArgs s__law_row) (defBody s__law_row) (defScope s__law_row) [] [] a__law_row d__law_row
  g__law_row : mg "_law_row" = some (.ref a__law_row)
  b__law_row : Binds K d__law_row ["cell", "count", "base"] []
  a__law_common : Addr
  d__law_common : FuncData
  F__law_common : FunD K "_law_common" "_law_common" (defArgs s__law_common) (defBody s__law_common) (defScope s__law_common) [] [] a__law_common d__law_common
  g__law_common : mg "_law_common" = some (.ref a__law_common)
  b__law_common : Binds K d__law_common ["one", "other"] []
  a__law_lowest : Addr
  d__law_lowest : FuncData
  F__law_lowest : FunD K "_law_lowest" "_law_lowest" (defArgs s__law_lowest) (defBody s__law_lowest) (defScope s__law_lowest) [] [] a__law_lowest d__law_lowest
  g__law_lowest : mg "_law_lowest" = some (.ref a__law_lowest)
  b__law_lowest : Binds K d__law_lowest ["number", "divisor"] []
  a__law_number : Addr
  d__law_number : FuncData
  F__law_number : FunD K "_law_number" "_law_number" (defArgs s__law_number) (defBody s__law_number) (defScope s__law_number) [] [] a__law_number d__law_number
  g__law_number : mg "_law_number" = some (.ref a__law_number)
  b__law_number : Binds K d__law_number ["cell", "k"] []
  a__law_fraction : Addr
  d__law_fraction : FuncData
  F__law_fraction : FunD K "_law_fraction" "_law_fraction" (defArgs s__law_fraction) (defBody s__law_fraction) (defScope s__law_fraction) [] [] a__law_fraction d__law_fraction
  g__law_fraction : mg "_law_fraction" = some (.ref a__law_fraction)
  b__law_fraction : Binds K d__law_fraction ["cell", "k"] []
  a__law_is : Addr
  d__law_is : FuncData
  F__law_is : FunD K "_law_is" "_law_is" (defArgs s__law_is) (defBody s__law_is) (defScope s__law_is) [] [] a__law_is d__law_is
  g__law_is : mg "_law_is" = some (.ref a__law_is)
  b__law_is : Binds K d__law_is ["actual", "due"] []
  a__law_point : Addr
  d__law_point : FuncData
  F__law_point : FunD K "_law_point" "_law_point" (defArgs s__law_point) (defBody s__law_point) (defScope s__law_point) [] [] a__law_point d__law_point
  g__law_point : mg "_law_point" = some (.ref a__law_point)
  b__law_point : Binds K d__law_point ["cell", "count"] []
  a__law_bent : Addr
  d__law_bent : FuncData
  F__law_bent : FunD K "_law_bent" "_law_bent" (defArgs s__law_bent) (defBody s__law_bent) (defScope s__law_bent) [] [] a__law_bent d__law_bent
  g__law_bent : mg "_law_bent" = some (.ref a__law_bent)
  b__law_bent : Binds K d__law_bent ["cell", "points", "count"] []
  a__law_is_point : Addr
  d__law_is_point : FuncData
  F__law_is_point : FunD K "_law_is_point" "_law_is_point" (defArgs s__law_is_point) (defBody s__law_is_point) (defScope s__law_is_point) [] [] a__law_is_point d__law_is_point
  g__law_is_point : mg "_law_is_point" = some (.ref a__law_is_point)
  b__law_is_point : Binds K d__law_is_point ["value", "count"] []
  a__law_told : Addr
  d__law_told : FuncData
  F__law_told : FunD K "_law_told" "_law_told" (defArgs s__law_told) (defBody s__law_told) (defScope s__law_told) [] [] a__law_told d__law_told
  g__law_told : mg "_law_told" = some (.ref a__law_told)
  b__law_told : Binds K d__law_told ["points", "count"] []
  a_law : Addr
  d_law : FuncData
  F_law : FunD K "law" "law" (defArgs s_law) (defBody s_law) (defScope s_law) [] [] a_law d_law
  g_law : mg "law" = some (.ref a_law)
  b_law : Binds K d_law ["script"] []
  n_ValueError : mg "ValueError" = none
  n_abs : mg "abs" = none
  n_all : mg "all" = none
  n_bool : mg "bool" = none
  n_enumerate : mg "enumerate" = none
  n_int : mg "int" = none
  n_isinstance : mg "isinstance" = none
  n_len : mg "len" = none
  n_list : mg "list" = none
  n_range : mg "range" = none
  n_repr : mg "repr" = none
  n_tuple : mg "tuple" = none
  g_gcd : mg "gcd" = some (.builtin "math.gcd")
theorem Txt.v_is_whole {K : PySem.W.Frag} {mg : Str → Option Value} (_ : Txt K mg) : Vals [] [] := .nil
theorem Txt.v_greatest_divisor {K : PySem.W.Frag} {mg : Str → Option Value} (_ : Txt K mg) : Vals [] [] := .nil
theorem Txt.v_is_fraction {K : PySem.W.Frag} {mg : Str → Option Value} (_ : Txt K mg) : Vals [] [] := .nil
theorem Txt.v_is_point {K : PySem.W.Frag} {mg : Str → Option Value} (_ : Txt K mg) : Vals [] [] := .nil
theorem Txt.v_check_points {K : PySem.W.Frag} {mg : Str → Option Value} (_ : Txt K mg) : Vals [] [] := .nil
theorem Txt.v__law_cell {K : PySem.W.Frag} {mg : Str → Option Value} (_ : Txt K mg) : Vals [] [] := .nil
theorem Txt.v__law_row {K : PySem.W.Frag} {mg : Str → Option Value} (_ : Txt K mg) : Vals [] [] := .nil
theorem Txt.v__law_common {K : PySem.W.Frag} {mg : Str → Option Value} (_ : Txt K mg) : Vals [] [] := .nil
theorem Txt.v__law_lowest {K : PySem.W.Frag} {mg : Str → Option Value} (_ : Txt K mg) : Vals [] [] := .nil
theorem Txt.v__law_number {K : PySem.W.Frag} {mg : Str → Option Value} (_ : Txt K mg) : Vals [] [] := .nil
theorem Txt.v__law_fraction {K : PySem.W.Frag} {mg : Str → Option Value} (_ : Txt K mg) : Vals [] [] := .nil
theorem Txt.v__law_is {K : PySem.W.Frag} {mg : Str → Option Value} (_ : Txt K mg) : Vals [] [] := .nil
theorem Txt.v__law_point {K : PySem.W.Frag} {mg : Str → Option Value} (_ : Txt K mg) : Vals [] [] := .nil
theorem Txt.v__law_bent {K : PySem.W.Frag} {mg : Str → Option Value} (_ : Txt K mg) : Vals [] [] := .nil
theorem Txt.v__law_is_point {K : PySem.W.Frag} {mg : Str → Option Value} (_ : Txt K mg) : Vals [] [] := .nil
theorem Txt.v__law_told {K : PySem.W.Frag} {mg : Str → Option Value} (_ : Txt K mg) : Vals [] [] := .nil
theorem Txt.v_law {K : PySem.W.Frag} {mg : Str → Option Value} (_ : Txt K mg) : Vals [] [] := .nil
theorem Txt.fld_word {K : PySem.W.Frag} {mg : Str → Option Value} (T : Txt K mg) : ∀ t ∈ errTags, ∀ C, mg t = some (.ref C) → XfC K C ∧ PySem.W.findIn K (.ref C) "word" = some none := by
  intro t ht C hC
  simp only [errTags, List.mem_cons, List.not_mem_nil, or_false] at ht
  rcases ht with rfl | rfl
  · rw [T.g_BadPoint] at hC
    cases hC
    exact ⟨T.R_BadPoint.xf, T.E_BadPoint.nw⟩
  · rw [T.g_BadWeights] at hC
    cases hC
    exact ⟨T.R_BadWeights.xf, T.E_BadWeights.nw⟩
theorem Txt.fld_place {K : PySem.W.Frag} {mg : Str → Option Value} (T : Txt K mg) : ∀ t ∈ errTags, ∀ C, mg t = some (.ref C) → XfC K C ∧ PySem.W.findIn K (.ref C) "place" = some none := by
  intro t ht C hC
  simp only [errTags, List.mem_cons, List.not_mem_nil, or_false] at ht
  rcases ht with rfl | rfl
  · rw [T.g_BadPoint] at hC
    cases hC
    exact ⟨T.R_BadPoint.xf, T.E_BadPoint.np⟩
  · rw [T.g_BadWeights] at hC
    cases hC
    exact ⟨T.R_BadWeights.xf, T.E_BadWeights.np⟩
theorem Txt.kit_BadPoint {K : PySem.W.Frag} {mg : Str → Option Value} (T : Txt K mg) : ∀ k bb, List.lookup k Tx.kit_BadPoint = some bb → ∀ C, mg k = some (.ref C) → ErrR K C ∧ PySem.W.kitOne K (.ref C) (.ref T.c_BadPoint) = some bb := by
  intro k bb hk C hC
  have hm := PySem.mem_of_lookup hk
  simp only [Tx.kit_BadPoint, List.mem_cons, List.not_mem_nil, or_false, Prod.mk.injEq] at hm
  rcases hm with ⟨rfl, rfl⟩ | ⟨rfl, rfl⟩
  · rw [T.g_BadPoint] at hC
    cases hC
    exact ⟨T.R_BadPoint, T.kk_BadPoint_BadPoint⟩
  · rw [T.g_BadWeights] at hC
    cases hC
    exact ⟨T.R_BadWeights, T.kk_BadWeights_BadPoint⟩
theorem Txt.kit_BadWeights {K : PySem.W.Frag} {mg : Str → Option Value} (T : Txt K mg) : ∀ k bb, List.lookup k Tx.kit_BadWeights = some bb → ∀ C, mg k = some (.ref C) → ErrR K C ∧ PySem.W.kitOne K (.ref C) (.ref T.c_BadWeights) = some bb := by
  intro k bb hk C hC
  have hm := PySem.mem_of_lookup hk
  simp only [Tx.kit_BadWeights, List.mem_cons, List.not_mem_nil, or_false, Prod.mk.injEq] at hm
  rcases hm with ⟨rfl, rfl⟩ | ⟨rfl, rfl⟩
  · rw [T.g_BadPoint] at hC
    cases hC
    exact ⟨T.R_BadPoint, T.kk_BadPoint_BadWeights⟩
  · rw [T.g_BadWeights] at hC
    cases hC
    exact ⟨T.R_BadWeights, T.kk_BadWeights_BadWeights⟩
theorem Txt.kit_ValueError {K : PySem.W.Frag} {mg : Str → Option Value} (T : Txt K mg) : ∀ k bb, List.lookup k Tx.kit_ValueError = some bb → ∀ C, mg k = some (.ref C) → ErrR K C ∧ PySem.W.kitOne K (.ref C) (.type "ValueError") = some bb := by
  intro k bb hk C hC
  have hm := PySem.mem_of_lookup hk
  simp only [Tx.kit_ValueError, List.mem_cons, List.not_mem_nil, or_false, Prod.mk.injEq] at hm
  rcases hm with ⟨rfl, rfl⟩ | ⟨rfl, rfl⟩
  · rw [T.g_BadPoint] at hC
    cases hC
    exact ⟨T.R_BadPoint, T.kk_BadPoint_ValueError⟩
  · rw [T.g_BadWeights] at hC
    cases hC
    exact ⟨T.R_BadWeights, T.kk_BadWeights_ValueError⟩
theorem Txt.exm_BoundError {K : PySem.W.Frag} {mg : Str → Option Value} (T : Txt K mg) : ∀ k bb, List.lookup k Tx.exm_BoundError = some bb → ∀ C, mg k = some (.ref C) → PySem.W.exmOne K (.ref C) (.ref T.c_BoundError) = some bb := by
  intro k bb hk C hC
  have hm := PySem.mem_of_lookup hk
  simp only [Tx.exm_BoundError, List.mem_cons, List.not_mem_nil, or_false, Prod.mk.injEq] at hm
  rcases hm with ⟨rfl, rfl⟩ | ⟨rfl, rfl⟩
  · rw [T.g_BadPoint] at hC
    cases hC
    exact T.xm_BadPoint_BoundError
  · rw [T.g_BadWeights] at hC
    cases hC
    exact T.xm_BadWeights_BoundError
theorem oki_BoundError {P : Program} {w : World} {K : PySem.W.Frag} {mg : Str → Option Value} {base : Heap} {CX : CXT} (T : Txt K mg) : FnOk P w K mg base CX 1 T.i_BoundError T.di_BoundError ["self", "word", "place"] (spB K) :=
  T.Fi_BoundError.ok sci_BoundError spB_len fun cdv A outer s H vs Q E hr h => ⟨_, pss_cons (ps_if (pt_cmpR op_isN (pe_var (i := 2) rfl (Or.inl rfl)) pe_non (nomark _))
      (pss_one (ps_expr (pe_veinit rfl T.n_ValueError T.v_ValueError (pa_cons (pe_var (i := 0) rfl (Or.inl rfl)) (pa_cons (pe_joined1 (pe_fmt (pe_var (i := 1) rfl (Or.inl rfl)))) pa_nil)))))
      (pss_one (ps_expr (pe_veinit rfl T.n_ValueError T.v_ValueError (pa_cons (pe_var (i := 0) rfl (Or.inl rfl)) (pa_cons (pe_joined (.cons (pe_fmt (pe_var (i := 1) rfl (Or.inl rfl))) (.cons pe_str (.cons (pe_fmt (pe_var (i := 2) rfl (Or.inl rfl))) .nil)))) pa_nil))))))
    (pss_cons (ps_ost (pe_var (i := 0) rfl (Or.inl rfl)) (pe_var (i := 1) rfl (Or.inl rfl))) (pss_one (ps_ost (pe_var (i := 0) rfl (Or.inl rfl)) (pe_var (i := 2) rfl (Or.inl rfl))))), spB_pure (by decide) h⟩
theorem okc_BadPoint {P : Program} {w : World} {K : PySem.W.Frag} {mg : Str → Option Value} {base : Heap} (T : Txt K mg) : FnOk P w K mg base (L2.CX P w) 2 T.i_BadPoint T.di_BadPoint ["self", "place"] (spC K (Str.ofString "BadPoint")) :=
  T.Fi_BadPoint.ok sci_BadPoint spC_len fun cdv A outer s H vs Q E hr h => ⟨_, pss_one (ps_expr (pe_clsfn (E := noX) T.g_BoundError T.rd_BoundError T.iv_BoundError T.Fi_BoundError.kp (oki_BoundError T) (hr.mono (by decide)) T.bi_BoundError_3 T.vi_BoundError_3 (passes_call (W := fun cls d _ H => E cls d H) (takes_of rfl rfl rfl rfl) fun _ _ _ _ z => False.elim z)
    (pa_cons (pe_var (i := 0) rfl (Or.inl rfl)) (pa_cons pe_str (pa_cons (pe_var (i := 1) rfl (Or.inl rfl)) pa_nil))))), spC_pure h⟩
theorem okc_BadWeights {P : Program} {w : World} {K : PySem.W.Frag} {mg : Str → Option Value} {base : Heap} (T : Txt K mg) : FnOk P w K mg base (L2.CX P w) 2 T.i_BadWeights T.di_BadWeights ["self", "place"] (spC K (Str.ofString "BadWeights")) :=
  T.Fi_BadWeights.ok sci_BadWeights spC_len fun cdv A outer s H vs Q E hr h => ⟨_, pss_one (ps_expr (pe_clsfn (E := noX) T.g_BoundError T.rd_BoundError T.iv_BoundError T.Fi_BoundError.kp (oki_BoundError T) (hr.mono (by decide)) T.bi_BoundError_3 T.vi_BoundError_3 (passes_call (W := fun cls d _ H => E cls d H) (takes_of rfl rfl rfl rfl) fun _ _ _ _ z => False.elim z)
    (pa_cons (pe_var (i := 0) rfl (Or.inl rfl)) (pa_cons pe_str (pa_cons (pe_var (i := 1) rfl (Or.inl rfl)) pa_nil))))), spC_pure h⟩
/-! def is_whole -/
def b_is_whole : Rho → Option Res :=
    (mRet (mAndV (m1 (isD "int") (mVar 0)) (mNotV (m1 (isD "bool") (mVar 0)))))
def m_is_whole : List D → Option D := runDef 1 0 b_is_whole
theorem ok_is_whole {P : Program} {w : World} {K : PySem.W.Frag} {mg : Str → Option Value} {base : Heap} (T : Txt K mg) : FnG P w K mg base 1 T.a_is_whole T.d_is_whole ["value"] m_is_whole :=
  fn_def T.F_is_whole sc_is_whole fun cdv A outer s H hG hr => (mss_one (ms_ret (me_and (me_isi T.n_isinstance T.n_int (ME.t (me_var 0))) (me_one (me_not (me_isi T.n_isinstance T.n_bool (ME.t (me_var 0))))))))
/-! def greatest_divisor -/
def b_greatest_divisor : Rho → Option Res :=
    (mRet (mFn fGcd (mCons (mVar 0) (mCons (mVar 1) mNil))))
def m_greatest_divisor : List D → Option D := runDef 2 0 b_greatest_divisor
theorem ok_greatest_divisor {P : Program} {w : World} {K : PySem.W.Frag} {mg : Str → Option Value} {base : Heap} (T : Txt K mg) : FnG P w K mg base 1 T.a_greatest_divisor T.d_greatest_divisor ["first", "second"] m_greatest_divisor :=
  fn_def T.F_greatest_divisor sc_greatest_divisor fun cdv A outer s H hG hr => (mss_one (ms_ret (me_fnM fd_gcd T.g_gcd (mat_cons (ME.t (me_var 0)) (mat_cons (ME.t (me_var 1)) mat_nil)))))
/-! def is_fraction -/
def b_is_fraction : Rho → Option Res :=
    (mSeq (mIfS (mOr (mNot (mAsB (m1 (isD "tuple") (mVar 0)))) (mAsB (m2 dNe (mFn fLen (mCons (mVar 0) mNil)) (mC (.int 2))))) (mRet (mC (.bool false))) mSkip)
    (mSeq (mPost [0] (mAsg (gTupD (gsCons (gSet 1) (gsCons (gSet 2) gsNil))) (mVar 0)))
    (mSeq (mIfS (mOr (mNot (mAsB (mCall m_is_whole [] (mCons (mVar 1) mNil)))) (mNot (mAsB (mCall m_is_whole [] (mCons (mVar 2) mNil))))) (mRet (mC (.bool false))) mSkip)
    (mRet (mAndV (m2 dGe (mVar 2) (mC (.int 1))) (m2 dEq (mCall m_greatest_divisor [] (mCons (mVar 1) (mCons (mVar 2) mNil))) (mC (.int 1))))))))
def m_is_fraction : List D → Option D := runDef 1 2 b_is_fraction
theorem ok_is_fraction {P : Program} {w : World} {K : PySem.W.Frag} {mg : Str → Option Value} {base : Heap} (T : Txt K mg) : FnG P w K mg base 2 T.a_is_fraction T.d_is_fraction ["value"] m_is_fraction :=
  fn_def T.F_is_fraction sc_is_fraction fun cdv A outer s H hG hr => (mss_cons (ms_if (MW.toB (mw_or (mb_not (mb_val (ME.t (me_isi T.n_isinstance T.n_tuple (ME.t (me_var 0)))))) (mw_or1 (mb_cmp (od_ne hr.units) (ME.t (me_fnB fd_len T.n_len (mat_cons (ME.t (me_var 0)) mat_nil))) (ME.t me_int))))) (mss_one (ms_ret me_bl)) mss_nil) (mss_cons (ms_post [0] (ms_asg (me_var 0) (mg_tup rfl (mgs_cons (mg_name 1 sc_is_fraction.nd) (mgs_cons (mg_name 2 sc_is_fraction.nd) mgs_nil)) (fun _ _ _ h => gs_lenS (fun _ _ _ h => gs_lenS (fun _ _ _ h => gs_len0 h) h) h)))) (mss_cons (ms_if (MW.toB (mw_or (mb_not (mb_val (ME.t (me_call (ok_is_whole T) hG (hr.mono (by decide)) T.g_is_whole T.F_is_whole.kp (T.b_is_whole) (T.v_is_whole) (fun _ => .nil) (mae_cons (me_var 1) mae_nil))))) (mw_or1 (mb_not (mb_val (ME.t (me_call (ok_is_whole T) hG (hr.mono (by decide)) T.g_is_whole T.F_is_whole.kp (T.b_is_whole) (T.v_is_whole) (fun _ => .nil) (mae_cons (me_var 2) mae_nil)))))))) (mss_one (ms_ret me_bl)) mss_nil) (mss_one (ms_ret (me_and (me_cmp od_ge (ME.t (me_var 2)) (ME.t me_int)) (me_one (me_cmp (od_eq hr.units) (ME.t (me_call (ok_greatest_divisor T) hG (hr.mono (by decide)) T.g_greatest_divisor T.F_greatest_divisor.kp (T.b_greatest_divisor) (T.v_greatest_divisor) (fun _ => .nil) (mae_cons (me_var 1) (mae_cons (me_var 2) mae_nil)))) (ME.t me_int)))))))))
/-! def fraction -/
def b_fraction : Rho → Option Res :=
    (mSeq (mSet 2 (mCall m_greatest_divisor [] (mCons (mVar 0) (mCons (mVar 1) mNil))))
    (mSeq (mIfS (mAsB (m2 dLt (mVar 1) (mC (.int 0)))) (mSet 2 (m1 dNeg (mVar 2))) mSkip)
    (mRet (mTup (mCons (m2 dDiv (mVar 0) (mVar 2)) (mCons (m2 dDiv (mVar 1) (mVar 2)) mNil))))))
def m_fraction : List D → Option D := runDef 2 1 b_fraction
theorem ok_fraction {P : Program} {w : World} {K : PySem.W.Frag} {mg : Str → Option Value} {base : Heap} (T : Txt K mg) : FnG P w K mg base 2 T.a_fraction T.d_fraction ["number", "divisor"] m_fraction :=
  fn_def T.F_fraction sc_fraction fun cdv A outer s H hG hr => (mss_cons (ms_set (i := 2) sc_fraction.nd (me_call (ok_greatest_divisor T) hG (hr.mono (by decide)) T.g_greatest_divisor T.F_greatest_divisor.kp (T.b_greatest_divisor) (T.v_greatest_divisor) (fun _ => .nil) (mae_cons (me_var 0) (mae_cons (me_var 1) mae_nil)))) (mss_cons (ms_if (mb_cmp od_lt (ME.t (me_var 1)) (ME.t me_int)) (mss_one (ms_set (i := 2) sc_fraction.nd (me_neg (ME.t (me_var 2))))) mss_nil) (mss_one (ms_ret (me_tup (mae_cons (me_bin od_div (ME.t (me_var 0)) (ME.t (me_var 2))) (mae_cons (me_bin od_div (ME.t (me_var 1)) (ME.t (me_var 2))) mae_nil)))))))
/-! def is_point -/
def el_is_point_1 : Rho → Option D :=
    (mCall m_is_fraction [] (mCons (mVar 2) mNil))
theorem un_el_is_point_1 {ρ : Rho} {r : Option D} (h : (mCall m_is_fraction [] (mCons (mVar 2) mNil)) ρ = r) : el_is_point_1 ρ = r := h
def b_is_point : Rho → Option Res :=
    (mSeq (mPost [1] (mIfS (mOr (mNot (mAsB (m1 (isD "tuple") (mVar 0)))) (mAsB (m2 dNe (mFn fLen (mCons (mVar 0) mNil)) (mVar 1)))) (mRet (mC (.bool false))) mSkip))
    (mRet (mFn fAll (mCons (mL (mLc (mSeqOf (mVar 0)) (gSet 2) mYes el_is_point_1 [2])) mNil))))
def m_is_point : List D → Option D := runDef 2 1 b_is_point
theorem ok_is_point {P : Program} {w : World} {K : PySem.W.Frag} {mg : Str → Option Value} {base : Heap} (T : Txt K mg) : FnG P w K mg base 3 T.a_is_point T.d_is_point ["value", "count"] m_is_point :=
  fn_def T.F_is_point sc_is_point fun cdv A outer s H hG hr => (mss_cons (ms_post [1] (ms_if (MW.toB (mw_or (mb_not (mb_val (ME.t (me_isi T.n_isinstance T.n_tuple (ME.t (me_var 0)))))) (mw_or1 (mb_cmp (od_ne hr.units) (ME.t (me_fnB fd_len T.n_len (mat_cons (ME.t (me_var 0)) mat_nil))) (ME.t (me_var 1)))))) (mss_one (ms_ret me_bl)) mss_nil)) (mss_one (ms_ret (me_fnB (fd_all rfl) T.n_all (mat_cons (ME.t (MO.e (mo_lc (own := [(("part" : Str), 2)]) rfl sc_is_point.nd (mih_seq (ME.t (me_var 0))) (blkOk_by (N := N_is_point) (sc := defScope s_is_point) (own := [(("part" : Str), 2)]) (by decide +kernel)) (fun _ _ _ _ _ => (mg_name 2 sc_is_point.nd)) (fun _ _ _ _ _ => mts_nil) (fun _ _ _ _ _ => (me_call (ok_is_fraction T) hG (hr.mono (by decide)) T.g_is_fraction T.F_is_fraction.kp (T.b_is_fraction) (T.v_is_fraction) (fun _ => .nil) (mae_cons (me_var 2) mae_nil)))))) mat_nil)))))
/-! def check_points -/
def lp_check_points_1 : Rho → Option Res :=
    (mPost [2, 3] (mIfS (mNot (mAsB (mCall m_is_point [] (mCons (mVar 3) (mCons (mVar 1) mNil))))) (mRaise (mErr (Str.ofString "BadPoint") [] (mCons (mVar 2) mNil))) mSkip))
theorem un_lp_check_points_1 {ρ : Rho} {r : Option Res} (h : (mPost [2, 3] (mIfS (mNot (mAsB (mCall m_is_point [] (mCons (mVar 3) (mCons (mVar 1) mNil))))) (mRaise (mErr (Str.ofString "BadPoint") [] (mCons (mVar 2) mNil))) mSkip)) ρ = r) : lp_check_points_1 ρ = r := h
def b_check_points : Rho → Option Res :=
    (mPost [0, 1, 2, 3] (mFor (mL2 wEnumerate (mCons (mVar 0) mNil)) (gTupD (gsCons (gSet 2) (gsCons (gSet 3) gsNil))) lp_check_points_1))
def m_check_points : List D → Option Out := runDefX 2 2 b_check_points
theorem ok_check_points {P : Program} {w : World} {K : PySem.W.Frag} {mg : Str → Option Value} {base : Heap} (T : Txt K mg) : FnX P w K mg base 4 T.a_check_points T.d_check_points ["points", "count"] m_check_points :=
  fn_defX T.F_check_points sc_check_points fun cdv A outer s H E hG hr => (mss_one (ms_post [0, 1, 2, 3] (ms_for (passes_of rfl) rfl (mi_enumerate T.n_enumerate (mae_cons (me_var 0) mae_nil)) (mg_tup rfl (mgs_cons (mg_name 2 sc_check_points.nd) (mgs_cons (mg_name 3 sc_check_points.nd) mgs_nil)) (fun _ _ _ h => gs_lenS (fun _ _ _ h => gs_lenS (fun _ _ _ h => gs_len0 h) h) h)) (mss_one (ms_post [2, 3] (ms_if (mb_not (mb_val (ME.t (me_call (ok_is_point T) hG (hr.mono (by decide)) T.g_is_point T.F_is_point.kp (T.b_is_point) (T.v_is_point) (fun _ => .nil) (mae_cons (me_var 3) (mae_cons (me_var 1) mae_nil)))))) (mss_one (ms_raise rfl (takes_of rfl rfl rfl rfl) (mmk_err T.E_BadPoint (okc_BadPoint T) (hr.mono (by decide)) T.g_BadPoint T.bi_BadPoint_2 T.vi_BadPoint_2 (fun _ => .nil) (passes_call (takes_of rfl rfl rfl rfl) fun _ _ _ _ z => False.elim z) (mae_cons (me_var 2) mae_nil)))) mss_nil))))))
/-! def point_of -/
def el_point_of_1 : Rho → Option D :=
    (mCall m_fraction [] (mCons (mVar 2) (mCons (mVar 1) mNil)))
theorem un_el_point_of_1 {ρ : Rho} {r : Option D} (h : (mCall m_fraction [] (mCons (mVar 2) (mCons (mVar 1) mNil))) ρ = r) : el_point_of_1 ρ = r := h
def b_point_of : Rho → Option Res :=
    (mRet (mFn fTuple (mCons (mL (mLc (mSeqOf (mVar 0)) (gSet 2) mYes el_point_of_1 [2])) mNil)))
def m_point_of : List D → Option D := runDef 2 1 b_point_of
theorem ok_point_of {P : Program} {w : World} {K : PySem.W.Frag} {mg : Str → Option Value} {base : Heap} (T : Txt K mg) : FnG P w K mg base 3 T.a_point_of T.d_point_of ["numbers", "divisor"] m_point_of :=
  fn_def T.F_point_of sc_point_of fun cdv A outer s H hG hr => (mss_one (ms_ret (me_fnT fd_tuple T.n_tuple (mat_cons (ME.t (MO.e (mo_lc (own := [(("number" : Str), 2)]) rfl sc_point_of.nd (mih_seq (ME.t (me_var 0))) (blkOk_by (N := N_point_of) (sc := defScope s_point_of) (own := [(("number" : Str), 2)]) (by decide +kernel)) (fun _ _ _ _ _ => (mg_name 2 sc_point_of.nd)) (fun _ _ _ _ _ => mts_nil) (fun _ _ _ _ _ => (me_call (ok_fraction T) hG (hr.mono (by decide)) T.g_fraction T.F_fraction.kp (T.b_fraction_2) (T.v_fraction_2) (fun _ => .nil) (mae_cons (me_var 2) (mae_cons (me_var 1) mae_nil))))))) mat_nil))))
/-! def _law_cell -/
def b__law_cell : Rho → Option Res :=
    (mSeq (mPost [0, 1] (mIfS (mAsB (m2 dLt (mVar 1) (mFn fLen (mCons (mVar 0) mNil)))) (mRet (m2 dIx (mVar 0) (mVar 1))) mSkip))
    (mRet (mC (.int 0))))
def m__law_cell : List D → Option D := runDef 2 0 b__law_cell
theorem ok__law_cell {P : Program} {w : World} {K : PySem.W.Frag} {mg : Str → Option Value} {base : Heap} (T : Txt K mg) : FnG P w K mg base 1 T.a__law_cell T.d__law_cell ["script", "k"] m__law_cell :=
  fn_def T.F__law_cell sc__law_cell fun cdv A outer s H hG hr => (mss_cons (ms_post [0, 1] (ms_if (mb_cmp od_lt (ME.t (me_var 1)) (ME.t (me_fnB fd_len T.n_len (mat_cons (ME.t (me_var 0)) mat_nil)))) (mss_one (ms_ret (me_ix (ME.t (me_var 0)) (ME.t (me_var 1))))) mss_nil)) (mss_one (ms_ret me_int)))
/-! def _law_row -/
def lp__law_row_1 : Rho → Option Res :=
    (mPost [4, 5] (mIfS (mAsB (m2 dGe (mVar 0) (m2 dPow (mC (.int 10)) (mC (.int 18))))) (mSeq (mPost [4] (mApp 3 (m2 dMod (mFn fInt (mCons (mVar 0) mNil)) (mVar 2))))
    (mSet 0 (m2 dDiv (mVar 0) (mVar 2)))) (mSeq (mSet 5 (m2 dMod (mFn fInt (mCons (m2 dAdd (m2 dAdd (m2 dMul (mVar 0) (mC (.int 48271))) (m2 dMul (mVar 4) (mC (.int 69621)))) (mC (.int 12345))) mNil)) (mC (.int 2147483647))))
    (mSeq (mSet 5 (m2 dMod (mFn fInt (mCons (m2 dAdd (m2 dAdd (m2 dMul (mVar 5) (mVar 5)) (m2 dMul (mC (.int 16807)) (mVar 4))) (mC (.int 7))) mNil)) (mC (.int 998244353))))
    (mSeq (mPost [4] (mSet 5 (m2 dMod (mFn fInt (mCons (m2 dAdd (m2 dAdd (m2 dMul (mVar 5) (mVar 5)) (m2 dMul (mC (.int 48271)) (mVar 4))) (mVar 0)) mNil)) (mC (.int 2147483629)))))
    (mPost [5] (mApp 3 (m2 dMod (mFn fInt (mCons (m2 dDiv (mVar 5) (mC (.int 13))) mNil)) (mVar 2)))))))))
theorem un_lp__law_row_1 {ρ : Rho} {r : Option Res} (h : (mPost [4, 5] (mIfS (mAsB (m2 dGe (mVar 0) (m2 dPow (mC (.int 10)) (mC (.int 18))))) (mSeq (mPost [4] (mApp 3 (m2 dMod (mFn fInt (mCons (mVar 0) mNil)) (mVar 2))))
    (mSet 0 (m2 dDiv (mVar 0) (mVar 2)))) (mSeq (mSet 5 (m2 dMod (mFn fInt (mCons (m2 dAdd (m2 dAdd (m2 dMul (mVar 0) (mC (.int 48271))) (m2 dMul (mVar 4) (mC (.int 69621)))) (mC (.int 12345))) mNil)) (mC (.int 2147483647))))
    (mSeq (mSet 5 (m2 dMod (mFn fInt (mCons (m2 dAdd (m2 dAdd (m2 dMul (mVar 5) (mVar 5)) (m2 dMul (mC (.int 16807)) (mVar 4))) (mC (.int 7))) mNil)) (mC (.int 998244353))))
    (mSeq (mPost [4] (mSet 5 (m2 dMod (mFn fInt (mCons (m2 dAdd (m2 dAdd (m2 dMul (mVar 5) (mVar 5)) (m2 dMul (mC (.int 48271)) (mVar 4))) (mVar 0)) mNil)) (mC (.int 2147483629)))))
    (mPost [5] (mApp 3 (m2 dMod (mFn fInt (mCons (m2 dDiv (mVar 5) (mC (.int 13))) mNil)) (mVar 2))))))))) ρ = r) : lp__law_row_1 ρ = r := h
def b__law_row : Rho → Option Res :=
    (mSeq (mSetO 3 (mLst mNil))
    (mSeq (mPost [0, 1, 2, 4, 5] (mFor (mL2 rng1 (mCons (mVar 1) mNil)) (gSet 4) lp__law_row_1))
    (mRetO 3)))
def m__law_row : List D → Option D := runDef 3 3 b__law_row
theorem ok__law_row {P : Program} {w : World} {K : PySem.W.Frag} {mg : Str → Option Value} {base : Heap} (T : Txt K mg) : FnG P w K mg base 1 T.a__law_row T.d__law_row ["cell", "count", "base"] m__law_row :=
  fn_def T.F__law_row sc__law_row fun cdv A outer s H hG hr => (mss_cons (ms_setO (i := 3) sc__law_row.nd (mo_lst mae_nil)) (mss_cons (ms_post [0, 1, 2, 4, 5] (ms_for PassesOwn.never rfl (mi_range1 T.n_range (mat_cons (ME.t (me_var 1)) mat_nil)) (mg_name 4 sc__law_row.nd) (mss_one (ms_post [4, 5] (ms_if (mb_cmp od_ge (ME.t (me_var 0)) (ME.t (me_bin od_pow (ME.t me_int) (ME.t me_int)))) (mss_cons (ms_post [4] (ms_app 3 (me_bin od_mod (ME.t (me_fnT fd_int T.n_int (mat_cons (ME.t (me_var 0)) mat_nil))) (ME.t (me_var 2))))) (mss_one (ms_set (i := 0) sc__law_row.nd (me_bin od_div (ME.t (me_var 0)) (ME.t (me_var 2)))))) (mss_cons (ms_set (i := 5) sc__law_row.nd (me_bin od_mod (ME.t (me_fnT fd_int T.n_int (mat_cons (ME.t (me_bin od_add (ME.t (me_bin od_add (ME.t (me_bin od_mul (ME.t (me_var 0)) (ME.t me_int))) (ME.t (me_bin od_mul (ME.t (me_var 4)) (ME.t me_int))))) (ME.t me_int))) mat_nil))) (ME.t me_int))) (mss_cons (ms_set (i := 5) sc__law_row.nd (me_bin od_mod (ME.t (me_fnT fd_int T.n_int (mat_cons (ME.t (me_bin od_add (ME.t (me_bin od_add (ME.t (me_bin od_mul (ME.t (me_var 5)) (ME.t (me_var 5)))) (ME.t (me_bin od_mul (ME.t me_int) (ME.t (me_var 4)))))) (ME.t me_int))) mat_nil))) (ME.t me_int))) (mss_cons (ms_post [4] (ms_set (i := 5) sc__law_row.nd (me_bin od_mod (ME.t (me_fnT fd_int T.n_int (mat_cons (ME.t (me_bin od_add (ME.t (me_bin od_add (ME.t (me_bin od_mul (ME.t (me_var 5)) (ME.t (me_var 5)))) (ME.t (me_bin od_mul (ME.t me_int) (ME.t (me_var 4)))))) (ME.t (me_var 0)))) mat_nil))) (ME.t me_int)))) (mss_one (ms_post [5] (ms_app 3 (me_bin od_mod (ME.t (me_fnT fd_int T.n_int (mat_cons (ME.t (me_bin od_div (ME.t (me_var 5)) (ME.t me_int))) mat_nil))) (ME.t (me_var 2)))))))))))))) (mss_one (ms_retO 3))))
/-! def _law_common -/
def lp__law_common_1 : Rho → Option Res :=
    (mSeq (mPost [2] (mIfS (mAsB (m2 dEq (mVar 0) (mC (.int 0)))) (mRet (mVar 1)) mSkip))
    (mPar 0 1 (m2 dSub (mVar 1) (m2 dMul (m2 dDiv (mVar 1) (mVar 0)) (mVar 0))) (mVar 0)))
theorem un_lp__law_common_1 {ρ : Rho} {r : Option Res} (h : (mSeq (mPost [2] (mIfS (mAsB (m2 dEq (mVar 0) (mC (.int 0)))) (mRet (mVar 1)) mSkip))
    (mPar 0 1 (m2 dSub (mVar 1) (m2 dMul (m2 dDiv (mVar 1) (mVar 0)) (mVar 0))) (mVar 0))) ρ = r) : lp__law_common_1 ρ = r := h
def b__law_common : Rho → Option Res :=
    (mSeq (mSet 0 (mFn fAbs (mCons (mVar 0) mNil)))
    (mSeq (mPost [0, 2] (mFor (mL2 rng1 (mCons (mC (.int 400)) mNil)) (gSet 2) lp__law_common_1))
    (mRet (mVar 1))))
def m__law_common : List D → Option D := runDef 2 1 b__law_common
theorem ok__law_common {P : Program} {w : World} {K : PySem.W.Frag} {mg : Str → Option Value} {base : Heap} (T : Txt K mg) : FnG P w K mg base 1 T.a__law_common T.d__law_common ["one", "other"] m__law_common :=
  fn_def T.F__law_common sc__law_common fun cdv A outer s H hG hr => (mss_cons (ms_set (i := 0) sc__law_common.nd (me_fnB fd_abs T.n_abs (mat_cons (ME.t (me_var 0)) mat_nil))) (mss_cons (ms_post [0, 2] (ms_for PassesOwn.never rfl (mi_range1 T.n_range (mat_cons (ME.t me_int) mat_nil)) (mg_name 2 sc__law_common.nd) (mss_cons (ms_post [2] (ms_if (mb_cmp (od_eq hr.units) (ME.t (me_var 0)) (ME.t me_int)) (mss_one (ms_ret (me_var 1))) mss_nil)) (mss_one (ms_par (i := 0) (j := 1) rfl sc__law_common.nd (me_bin od_sub (ME.t (me_var 1)) (ME.t (me_bin od_mul (ME.t (me_bin od_div (ME.t (me_var 1)) (ME.t (me_var 0)))) (ME.t (me_var 0))))) (me_var 0)))))) (mss_one (ms_ret (me_var 1)))))
/-! def _law_lowest -/
def b__law_lowest : Rho → Option Res :=
    (mSeq (mIfS (mAsB (m2 dLt (mVar 1) (mC (.int 0)))) (mSeq (mSet 0 (m1 dNeg (mVar 0)))
    (mSet 1 (m1 dNeg (mVar 1)))) mSkip)
    (mSeq (mSet 2 (mCall m__law_common [] (mCons (mVar 0) (mCons (mVar 1) mNil))))
    (mRet (mTup (mCons (m2 dDiv (mVar 0) (mVar 2)) (mCons (m2 dDiv (mVar 1) (mVar 2)) mNil))))))
def m__law_lowest : List D → Option D := runDef 2 1 b__law_lowest
theorem ok__law_lowest {P : Program} {w : World} {K : PySem.W.Frag} {mg : Str → Option Value} {base : Heap} (T : Txt K mg) : FnG P w K mg base 2 T.a__law_lowest T.d__law_lowest ["number", "divisor"] m__law_lowest :=
  fn_def T.F__law_lowest sc__law_lowest fun cdv A outer s H hG hr => (mss_cons (ms_if (mb_cmp od_lt (ME.t (me_var 1)) (ME.t me_int)) (mss_cons (ms_set (i := 0) sc__law_lowest.nd (me_neg (ME.t (me_var 0)))) (mss_one (ms_set (i := 1) sc__law_lowest.nd (me_neg (ME.t (me_var 1)))))) mss_nil) (mss_cons (ms_set (i := 2) sc__law_lowest.nd (me_call (ok__law_common T) hG (hr.mono (by decide)) T.g__law_common T.F__law_common.kp (T.b__law_common) (T.v__law_common) (fun _ => .nil) (mae_cons (me_var 0) (mae_cons (me_var 1) mae_nil)))) (mss_one (ms_ret (me_tup (mae_cons (me_bin od_div (ME.t (me_var 0)) (ME.t (me_var 2))) (mae_cons (me_bin od_div (ME.t (me_var 1)) (ME.t (me_var 2))) mae_nil)))))))
/-! def _law_number -/
def b__law_number : Rho → Option Res :=
    (mSeq (mPost [0, 1] (mSet 2 (mCall m__law_row [] (mCons (m2 dAdd (m2 dDiv (mFn fInt (mCons (mVar 0) mNil)) (mC (.int 5))) (m2 dMul (mC (.int 1009)) (mVar 1))) (mCons (mC (.int 4)) (mCons (m2 dPow (mC (.int 10)) (mC (.int 9))) mNil))))))
    (mSeq (mSet 3 (mL (mLst (mCons (mC (.int 3)) (mCons (mC (.int 13)) (mCons (mC (.int 1000)) (mCons (m2 dPow (mC (.int 10)) (mC (.int 9))) mNil)))))))
    (mRet (m2 dMul (m2 dMod (mFn fInt (mCons (m2 dIx (mVar 2) (mC (.int 0))) mNil)) (m2 dIx (mVar 3) (m2 dMod (mFn fInt (mCons (m2 dIx (mVar 2) (mC (.int 1))) mNil)) (mC (.int 4))))) (m2 dSub (mC (.int 1)) (m2 dMul (mC (.int 2)) (m2 dMod (mFn fInt (mCons (m2 dIx (mVar 2) (mC (.int 2))) mNil)) (mC (.int 2)))))))))
def m__law_number : List D → Option D := runDef 2 2 b__law_number
theorem ok__law_number {P : Program} {w : World} {K : PySem.W.Frag} {mg : Str → Option Value} {base : Heap} (T : Txt K mg) : FnG P w K mg base 2 T.a__law_number T.d__law_number ["cell", "k"] m__law_number :=
  fn_def T.F__law_number sc__law_number fun cdv A outer s H hG hr => (mss_cons (ms_post [0, 1] (ms_set (i := 2) sc__law_number.nd (me_call (ok__law_row T) hG (hr.mono (by decide)) T.g__law_row T.F__law_row.kp (T.b__law_row) (T.v__law_row) (fun _ => .nil) (mae_cons (me_bin od_add (ME.t (me_bin od_div (ME.t (me_fnT fd_int T.n_int (mat_cons (ME.t (me_var 0)) mat_nil))) (ME.t me_int))) (ME.t (me_bin od_mul (ME.t me_int) (ME.t (me_var 1))))) (mae_cons me_int (mae_cons (me_bin od_pow (ME.t me_int) (ME.t me_int)) mae_nil)))))) (mss_cons (ms_set (i := 3) sc__law_number.nd (MO.e (mo_lst (mae_cons me_int (mae_cons me_int (mae_cons me_int (mae_cons (me_bin od_pow (ME.t me_int) (ME.t me_int)) mae_nil))))))) (mss_one (ms_ret (me_bin od_mul (ME.t (me_bin od_mod (ME.t (me_fnT fd_int T.n_int (mat_cons (ME.t (me_ix (ME.t (me_var 2)) (ME.t me_int))) mat_nil))) (ME.t (me_ix (ME.t (me_var 3)) (ME.t (me_bin od_mod (ME.t (me_fnT fd_int T.n_int (mat_cons (ME.t (me_ix (ME.t (me_var 2)) (ME.t me_int))) mat_nil))) (ME.t me_int))))))) (ME.t (me_bin od_sub (ME.t me_int) (ME.t (me_bin od_mul (ME.t me_int) (ME.t (me_bin od_mod (ME.t (me_fnT fd_int T.n_int (mat_cons (ME.t (me_ix (ME.t (me_var 2)) (ME.t me_int))) mat_nil))) (ME.t me_int))))))))))))
/-! def _law_fraction -/
def b__law_fraction : Rho → Option Res :=
    (mSeq (mSet 2 (m2 dAdd (mC (.int 1)) (mFn fAbs (mCons (mCall m__law_number [] (mCons (m2 dAdd (mFn fInt (mCons (mVar 0) mNil)) (mC (.int 3))) (mCons (m2 dAdd (mVar 1) (mC (.int 7))) mNil))) mNil))))
    (mRet (mCall m__law_lowest [] (mCons (mCall m__law_number [] (mCons (mVar 0) (mCons (mVar 1) mNil))) (mCons (mVar 2) mNil)))))
def m__law_fraction : List D → Option D := runDef 2 1 b__law_fraction
theorem ok__law_fraction {P : Program} {w : World} {K : PySem.W.Frag} {mg : Str → Option Value} {base : Heap} (T : Txt K mg) : FnG P w K mg base 3 T.a__law_fraction T.d__law_fraction ["cell", "k"] m__law_fraction :=
  fn_def T.F__law_fraction sc__law_fraction fun cdv A outer s H hG hr => (mss_cons (ms_set (i := 2) sc__law_fraction.nd (me_bin od_add (ME.t me_int) (ME.t (me_fnB fd_abs T.n_abs (mat_cons (ME.t (me_call (ok__law_number T) hG (hr.mono (by decide)) T.g__law_number T.F__law_number.kp (T.b__law_number) (T.v__law_number) (fun _ => .nil) (mae_cons (me_bin od_add (ME.t (me_fnT fd_int T.n_int (mat_cons (ME.t (me_var 0)) mat_nil))) (ME.t me_int)) (mae_cons (me_bin od_add (ME.t (me_var 1)) (ME.t me_int)) mae_nil)))) mat_nil))))) (mss_one (ms_ret (me_call (ok__law_lowest T) hG (hr.mono (by decide)) T.g__law_lowest T.F__law_lowest.kp (T.b__law_lowest) (T.v__law_lowest) (fun _ => .nil) (mae_cons (me_call (ok__law_number T) hG (hr.mono (by decide)) T.g__law_number T.F__law_number.kp (T.b__law_number) (T.v__law_number) (fun _ => .nil) (mae_cons (me_var 0) (mae_cons (me_var 1) mae_nil))) (mae_cons (me_var 2) mae_nil))))))
/-! def _law_is -/
def b__law_is : Rho → Option Res :=
    (mRet (mAndV (m1 (isD "tuple") (mVar 0)) (m2 dEq (mFn fRepr (mCons (mVar 0) mNil)) (mFn fRepr (mCons (mVar 1) mNil)))))
def m__law_is : List D → Option D := runDef 2 0 b__law_is
theorem ok__law_is {P : Program} {w : World} {K : PySem.W.Frag} {mg : Str → Option Value} {base : Heap} (T : Txt K mg) : FnG P w K mg base 1 T.a__law_is T.d__law_is ["actual", "due"] m__law_is :=
  fn_def T.F__law_is sc__law_is fun cdv A outer s H hG hr => (mss_one (ms_ret (me_and (me_isi T.n_isinstance T.n_tuple (ME.t (me_var 0))) (me_one (me_cmp (od_eq hr.units) (ME.t (me_fnB (fd_repr hG hr.units) T.n_repr (mat_cons (ME.t (me_var 0)) mat_nil))) (ME.t (me_fnB (fd_repr hG hr.units) T.n_repr (mat_cons (ME.t (me_var 1)) mat_nil))))))))
/-! def _law_point -/
def el__law_point_1 : Rho → Option D :=
    (mCall m__law_fraction [] (mCons (m2 dAdd (mFn fInt (mCons (mVar 0) mNil)) (m2 dMul (mC (.int 11)) (mVar 2))) (mCons (mVar 2) mNil)))
theorem un_el__law_point_1 {ρ : Rho} {r : Option D} (h : (mCall m__law_fraction [] (mCons (m2 dAdd (mFn fInt (mCons (mVar 0) mNil)) (m2 dMul (mC (.int 11)) (mVar 2))) (mCons (mVar 2) mNil))) ρ = r) : el__law_point_1 ρ = r := h
def b__law_point : Rho → Option Res :=
    (mRet (mFn fTuple (mCons (mL (mLc (mL2 rng1 (mCons (mVar 1) mNil)) (gSet 2) mYes el__law_point_1 [2])) mNil)))
def m__law_point : List D → Option D := runDef 2 1 b__law_point
theorem ok__law_point {P : Program} {w : World} {K : PySem.W.Frag} {mg : Str → Option Value} {base : Heap} (T : Txt K mg) : FnG P w K mg base 4 T.a__law_point T.d__law_point ["cell", "count"] m__law_point :=
  fn_def T.F__law_point sc__law_point fun cdv A outer s H hG hr => (mss_one (ms_ret (me_fnT fd_tuple T.n_tuple (mat_cons (ME.t (MO.e (mo_lc (own := [(("k" : Str), 2)]) rfl sc__law_point.nd (MI.h (mi_range1 T.n_range (mat_cons (ME.t (me_var 1)) mat_nil))) (blkOk_by (N := N__law_point) (sc := defScope s__law_point) (own := [(("k" : Str), 2)]) (by decide +kernel)) (fun _ _ _ _ _ => (mg_name 2 sc__law_point.nd)) (fun _ _ _ _ _ => mts_nil) (fun _ _ _ _ _ => (me_call (ok__law_fraction T) hG (hr.mono (by decide)) T.g__law_fraction T.F__law_fraction.kp (T.b__law_fraction) (T.v__law_fraction) (fun _ => .nil) (mae_cons (me_bin od_add (ME.t (me_fnT fd_int T.n_int (mat_cons (ME.t (me_var 0)) mat_nil))) (ME.t (me_bin od_mul (ME.t me_int) (ME.t (me_var 2))))) (mae_cons (me_var 2) mae_nil))))))) mat_nil))))
/-! def _law_bent -/
def el__law_bent_1 : Rho → Option D :=
    (mTup (mCons (mVar 10) (mCons (mC (.int 1)) mNil)))
theorem un_el__law_bent_1 {ρ : Rho} {r : Option D} (h : (mTup (mCons (mVar 10) (mCons (mC (.int 1)) mNil))) ρ = r) : el__law_bent_1 ρ = r := h
def b__law_bent : Rho → Option Res :=
    (mSeq (mPost [0] (mSet 3 (mCall m__law_row [] (mCons (mVar 0) (mCons (mC (.int 4)) (mCons (mC (.int 240)) mNil))))))
    (mSeq (mSet 4 (m2 dMod (mFn fInt (mCons (m2 dIx (mVar 3) (mC (.int 0))) mNil)) (mFn fLen (mCons (mVar 1) mNil))))
    (mSeq (mSet 5 (mFn fTuple (mCons (mL (mLc (mL2 rng1 (mCons (mVar 2) mNil)) (gSet 10) mYes el__law_bent_1 [10])) mNil)))
    (mSeq (mPost [2] (mSet 6 (m2 dMod (mFn fInt (mCons (m2 dIx (mVar 3) (mC (.int 1))) mNil)) (mVar 2))))
    (mSeq (mSet 7 (m2 dIx (mL (mLst (mCons (mTup (mCons (mC (.int 2)) (mCons (mC (.int 4)) mNil))) (mCons (mTup (mCons (mC (.int 1)) (mCons (mC (.int 0)) mNil))) (mCons (mTup (mCons (mC (.int 1)) (mCons (m1 dNeg (mC (.int 1))) mNil))) (mCons (mTup (mCons (mC (.int 1)) mNil)) (mCons (mL (mLst (mCons (mC (.int 1)) (mCons (mC (.int 2)) mNil)))) (mCons (mC (.int 3)) (mCons (mC .none) (mCons (mTup (mCons (mC (.bool true)) (mCons (mC (.int 1)) mNil))) (mCons (mTup (mCons (mC (.int 1)) (mCons (mC (.int 1)) (mCons (mC (.int 1)) mNil)))) (mCons (mTup (mCons (mC (.int 0)) (mCons (mC (.int 2)) mNil))) mNil)))))))))))) (m2 dMod (mFn fInt (mCons (m2 dIx (mVar 3) (mC (.int 2))) mNil)) (mC (.int 10)))))
    (mSeq (mPost [6, 7] (mSet 8 (m2 dAdd (m2 dAdd (mCut (mVar 5) mNoPart (mPart (mVar 6))) (mTup (mCons (mVar 7) mNil))) (mCut (mVar 5) (mPart (m2 dAdd (mVar 6) (mC (.int 1)))) mNoPart))))
    (mSeq (mPost [5, 8] (mSet 9 (mL (mLst (mCons (mVar 8) (mCons (mVar 8) (mCons (mVar 8) (mCons (m2 dAdd (mVar 5) (mTup (mCons (mTup (mCons (mC (.int 1)) (mCons (mC (.int 1)) mNil))) mNil))) (mCons (mCut (mVar 5) mNoPart (mPart (m1 dNeg (mC (.int 1))))) (mCons (mFn fList (mCons (mVar 5) mNil)) (mCons (mC .none) (mCons (mC (.int 7)) (mCons (mC (.str (Str.ofString "ab"))) (mCons (mVar 5) mNil))))))))))))))
    (mRet (m2 dAdd (m2 dAdd (mCut (mVar 1) mNoPart (mPart (mVar 4))) (mL (mLst (mCons (m2 dIx (mVar 9) (m2 dMod (mFn fInt (mCons (m2 dIx (mVar 3) (mC (.int 3))) mNil)) (mC (.int 10)))) mNil)))) (mCut (mVar 1) (mPart (m2 dAdd (mVar 4) (mC (.int 1)))) mNoPart))))))))))
def m__law_bent : List D → Option D := runDef 3 8 b__law_bent
theorem ok__law_bent {P : Program} {w : World} {K : PySem.W.Frag} {mg : Str → Option Value} {base : Heap} (T : Txt K mg) : FnG P w K mg base 2 T.a__law_bent T.d__law_bent ["cell", "points", "count"] m__law_bent :=
  fn_def T.F__law_bent sc__law_bent fun cdv A outer s H hG hr => (mss_cons (ms_post [0] (ms_set (i := 3) sc__law_bent.nd (me_call (ok__law_row T) hG (hr.mono (by decide)) T.g__law_row T.F__law_row.kp (T.b__law_row) (T.v__law_row) (fun _ => .nil) (mae_cons (me_var 0) (mae_cons me_int (mae_cons me_int mae_nil)))))) (mss_cons (ms_set (i := 4) sc__law_bent.nd (me_bin od_mod (ME.t (me_fnT fd_int T.n_int (mat_cons (ME.t (me_ix (ME.t (me_var 3)) (ME.t me_int))) mat_nil))) (ME.t (me_fnB fd_len T.n_len (mat_cons (ME.t (me_var 1)) mat_nil))))) (mss_cons (ms_set (i := 5) sc__law_bent.nd (me_fnT fd_tuple T.n_tuple (mat_cons (ME.t (MO.e (mo_lc (own := [(("k" : Str), 10)]) rfl sc__law_bent.nd (MI.h (mi_range1 T.n_range (mat_cons (ME.t (me_var 2)) mat_nil))) (blkOk_by (N := N__law_bent) (sc := defScope s__law_bent) (own := [(("k" : Str), 10)]) (by decide +kernel)) (fun _ _ _ _ _ => (mg_name 10 sc__law_bent.nd)) (fun _ _ _ _ _ => mts_nil) (fun _ _ _ _ _ => (me_tup (mae_cons (me_var 10) (mae_cons me_int mae_nil))))))) mat_nil))) (mss_cons (ms_post [2] (ms_set (i := 6) sc__law_bent.nd (me_bin od_mod (ME.t (me_fnT fd_int T.n_int (mat_cons (ME.t (me_ix (ME.t (me_var 3)) (ME.t me_int))) mat_nil))) (ME.t (me_var 2))))) (mss_cons (ms_set (i := 7) sc__law_bent.nd (me_ix (ME.t (MO.e (mo_lst (mae_cons (me_tup (mae_cons me_int (mae_cons me_int mae_nil))) (mae_cons (me_tup (mae_cons me_int (mae_cons me_int mae_nil))) (mae_cons (me_tup (mae_cons me_int (mae_cons (me_neg (ME.t me_int)) mae_nil))) (mae_cons (me_tup (mae_cons me_int mae_nil)) (mae_cons (MO.e (mo_lst (mae_cons me_int (mae_cons me_int mae_nil)))) (mae_cons me_int (mae_cons me_non (mae_cons (me_tup (mae_cons me_bl (mae_cons me_int mae_nil))) (mae_cons (me_tup (mae_cons me_int (mae_cons me_int (mae_cons me_int mae_nil)))) (mae_cons (me_tup (mae_cons me_int (mae_cons me_int mae_nil))) mae_nil))))))))))))) (ME.t (me_bin od_mod (ME.t (me_fnT fd_int T.n_int (mat_cons (ME.t (me_ix (ME.t (me_var 3)) (ME.t me_int))) mat_nil))) (ME.t me_int))))) (mss_cons (ms_post [6, 7] (ms_set (i := 8) sc__law_bent.nd (me_bin od_add (ME.t (me_bin od_add (ME.t (me_cut (ME.t (me_var 5)) mp_none (mp_some (ME.t (me_var 6))))) (ME.t (me_tup (mae_cons (me_var 7) mae_nil))))) (ME.t (me_cut (ME.t (me_var 5)) (mp_some (ME.t (me_bin od_add (ME.t (me_var 6)) (ME.t me_int)))) mp_none))))) (mss_cons (ms_post [5, 8] (ms_set (i := 9) sc__law_bent.nd (MO.e (mo_lst (mae_cons (me_var 8) (mae_cons (me_var 8) (mae_cons (me_var 8) (mae_cons (me_bin od_add (ME.t (me_var 5)) (ME.t (me_tup (mae_cons (me_tup (mae_cons me_int (mae_cons me_int mae_nil))) mae_nil)))) (mae_cons (me_cut (ME.t (me_var 5)) mp_none (mp_some (ME.t (me_neg (ME.t me_int))))) (mae_cons (me_fnT fd_list T.n_list (mat_cons (ME.t (me_var 5)) mat_nil)) (mae_cons me_non (mae_cons me_int (mae_cons me_str (mae_cons (me_var 5) mae_nil)))))))))))))) (mss_one (ms_ret (me_bin od_add (ME.t (me_bin od_add (ME.t (me_cut (ME.t (me_var 1)) mp_none (mp_some (ME.t (me_var 4))))) (ME.t (MO.e (mo_lst (mae_cons (me_ix (ME.t (me_var 9)) (ME.t (me_bin od_mod (ME.t (me_fnT fd_int T.n_int (mat_cons (ME.t (me_ix (ME.t (me_var 3)) (ME.t me_int))) mat_nil))) (ME.t me_int)))) mae_nil)))))) (ME.t (me_cut (ME.t (me_var 1)) (mp_some (ME.t (me_bin od_add (ME.t (me_var 4)) (ME.t me_int)))) mp_none))))))))))))
/-! def _law_is_point -/
def lp__law_is_point_1 : Rho → Option Res :=
    (mPost [3] (mIfS (mOr (mNot (mAsB (m1 (isD "int") (mVar 3)))) (mAsB (m1 (isD "bool") (mVar 3)))) (mRet (mC (.bool false))) mSkip))
theorem un_lp__law_is_point_1 {ρ : Rho} {r : Option Res} (h : (mPost [3] (mIfS (mOr (mNot (mAsB (m1 (isD "int") (mVar 3)))) (mAsB (m1 (isD "bool") (mVar 3)))) (mRet (mC (.bool false))) mSkip)) ρ = r) : lp__law_is_point_1 ρ = r := h
def lp__law_is_point_2 : Rho → Option Res :=
    (mSeq (mIfS (mOr (mNot (mAsB (m1 (isD "tuple") (mVar 2)))) (mAsB (m2 dNe (mFn fLen (mCons (mVar 2) mNil)) (mC (.int 2))))) (mRet (mC (.bool false))) mSkip)
    (mSeq (mPost [3] (mFor (mSeqOf (mVar 2)) (gSet 3) lp__law_is_point_1))
    (mPost [2] (mIfS (mOr (mAsB (m2 dLt (m2 dIx (mVar 2) (mC (.int 1))) (mC (.int 1)))) (mAsB (m2 dNe (mCall m__law_common [] (mCons (m2 dIx (mVar 2) (mC (.int 0))) (mCons (m2 dIx (mVar 2) (mC (.int 1))) mNil))) (mC (.int 1))))) (mRet (mC (.bool false))) mSkip))))
theorem un_lp__law_is_point_2 {ρ : Rho} {r : Option Res} (h : (mSeq (mIfS (mOr (mNot (mAsB (m1 (isD "tuple") (mVar 2)))) (mAsB (m2 dNe (mFn fLen (mCons (mVar 2) mNil)) (mC (.int 2))))) (mRet (mC (.bool false))) mSkip)
    (mSeq (mPost [3] (mFor (mSeqOf (mVar 2)) (gSet 3) lp__law_is_point_1))
    (mPost [2] (mIfS (mOr (mAsB (m2 dLt (m2 dIx (mVar 2) (mC (.int 1))) (mC (.int 1)))) (mAsB (m2 dNe (mCall m__law_common [] (mCons (m2 dIx (mVar 2) (mC (.int 0))) (mCons (m2 dIx (mVar 2) (mC (.int 1))) mNil))) (mC (.int 1))))) (mRet (mC (.bool false))) mSkip)))) ρ = r) : lp__law_is_point_2 ρ = r := h
def b__law_is_point : Rho → Option Res :=
    (mSeq (mPost [1] (mIfS (mOr (mNot (mAsB (m1 (isD "tuple") (mVar 0)))) (mAsB (m2 dNe (mFn fLen (mCons (mVar 0) mNil)) (mVar 1)))) (mRet (mC (.bool false))) mSkip))
    (mSeq (mPost [0, 2, 3] (mFor (mSeqOf (mVar 0)) (gSet 2) lp__law_is_point_2))
    (mRet (mC (.bool true)))))
def m__law_is_point : List D → Option D := runDef 2 2 b__law_is_point
theorem ok__law_is_point {P : Program} {w : World} {K : PySem.W.Frag} {mg : Str → Option Value} {base : Heap} (T : Txt K mg) : FnG P w K mg base 2 T.a__law_is_point T.d__law_is_point ["value", "count"] m__law_is_point :=
  fn_def T.F__law_is_point sc__law_is_point fun cdv A outer s H hG hr => (mss_cons (ms_post [1] (ms_if (MW.toB (mw_or (mb_not (mb_val (ME.t (me_isi T.n_isinstance T.n_tuple (ME.t (me_var 0)))))) (mw_or1 (mb_cmp (od_ne hr.units) (ME.t (me_fnB fd_len T.n_len (mat_cons (ME.t (me_var 0)) mat_nil))) (ME.t (me_var 1)))))) (mss_one (ms_ret me_bl)) mss_nil)) (mss_cons (ms_post [0, 2, 3] (ms_for PassesOwn.never rfl (mi_seq (me_var 0)) (mg_name 2 sc__law_is_point.nd) (mss_cons (ms_if (MW.toB (mw_or (mb_not (mb_val (ME.t (me_isi T.n_isinstance T.n_tuple (ME.t (me_var 2)))))) (mw_or1 (mb_cmp (od_ne hr.units) (ME.t (me_fnB fd_len T.n_len (mat_cons (ME.t (me_var 2)) mat_nil))) (ME.t me_int))))) (mss_one (ms_ret me_bl)) mss_nil) (mss_cons (ms_post [3] (ms_for PassesOwn.never rfl (mi_seq (me_var 2)) (mg_name 3 sc__law_is_point.nd) (mss_one (ms_post [3] (ms_if (MW.toB (mw_or (mb_not (mb_val (ME.t (me_isi T.n_isinstance T.n_int (ME.t (me_var 3)))))) (mw_or1 (mb_val (ME.t (me_isi T.n_isinstance T.n_bool (ME.t (me_var 3)))))))) (mss_one (ms_ret me_bl)) mss_nil))))) (mss_one (ms_post [2] (ms_if (MW.toB (mw_or (mb_cmp od_lt (ME.t (me_ix (ME.t (me_var 2)) (ME.t me_int))) (ME.t me_int)) (mw_or1 (mb_cmp (od_ne hr.units) (ME.t (me_call (ok__law_common T) hG (hr.mono (by decide)) T.g__law_common T.F__law_common.kp (T.b__law_common) (T.v__law_common) (fun _ => .nil) (mae_cons (me_ix (ME.t (me_var 2)) (ME.t me_int)) (mae_cons (me_ix (ME.t (me_var 2)) (ME.t me_int)) mae_nil)))) (ME.t me_int))))) (mss_one (ms_ret me_bl)) mss_nil))))))) (mss_one (ms_ret me_bl))))
/-! def _law_told -/
def su__law_told_1 : Exn → Rho → Option Res :=
    (fun y => (mGuard (mOr (mNot (mAsB (mIsV y kit_ValueError))) (mOr (mNot (mAsB (mIsV y kit_BadPoint))) (mAsB (mIsV y kit_BadWeights)))) (mRet (mTup (mCons (mC (.str (Str.ofString "kind"))) (mCons (mC .none) mNil)))) (mRet (mTup (mCons (mFld y errTags (Str.ofString "word")) (mCons (mFld y errTags (Str.ofString "place")) mNil))))))
theorem un_su__law_told_1 {y : Exn} {ρ : Rho} {r : Option Res} (h : (mGuard (mOr (mNot (mAsB (mIsV y kit_ValueError))) (mOr (mNot (mAsB (mIsV y kit_BadPoint))) (mAsB (mIsV y kit_BadWeights)))) (mRet (mTup (mCons (mC (.str (Str.ofString "kind"))) (mCons (mC .none) mNil)))) (mRet (mTup (mCons (mFld y errTags (Str.ofString "word")) (mCons (mFld y errTags (Str.ofString "place")) mNil))))) ρ = r) : su__law_told_1 y ρ = r := h
def tb__law_told_1 : Rho → Option Res :=
    (mPost [0, 1] (mIfX (m2X dIsNot (mCallX m_check_points [] (mCons (mVar 0) (mCons (mVar 1) mNil))) (mC .none)) (mRet (mTup (mCons (mC (.str (Str.ofString "answer"))) (mCons (mC .none) mNil)))) mSkip))
theorem un_tb__law_told_1 {ρ : Rho} {r : Option Res} (h : (mPost [0, 1] (mIfX (m2X dIsNot (mCallX m_check_points [] (mCons (mVar 0) (mCons (mVar 1) mNil))) (mC .none)) (mRet (mTup (mCons (mC (.str (Str.ofString "answer"))) (mCons (mC .none) mNil)))) mSkip)) ρ = r) : tb__law_told_1 ρ = r := h
def b__law_told : Rho → Option Res :=
    (mSeq (mPost [0, 1, 2] (mTry 2 tb__law_told_1 exm_BoundError su__law_told_1))
    (mRet (mC .none)))
def m__law_told : List D → Option D := runDef 2 1 b__law_told
theorem ok__law_told {P : Program} {w : World} {K : PySem.W.Frag} {mg : Str → Option Value} {base : Heap} (T : Txt K mg) : FnG P w K mg base 5 T.a__law_told T.d__law_told ["points", "count"] m__law_told :=
  fn_def T.F__law_told sc__law_told fun cdv A outer s H hG hr => (mss_cons (ms_post [0, 1, 2] (ms_try (i := 2) (n := "e") sc__law_told.nd T.g_BoundError (takes_no (fun _ _ z => z)) (fun W' pn xe tk po => (mss_one (ms_post [0, 1] (ms_ifX (mxb_cmp od_isnot (mx_call (ok_check_points T) hG (hr.mono (by decide)) tk T.g_check_points T.F_check_points.kp (T.b_check_points) (T.v_check_points) (fun _ => .nil) (mae_cons (me_var 0) (mae_cons (me_var 1) mae_nil))) (ME.t me_non)) (mss_one (ms_ret (me_tup (mae_cons me_str (mae_cons me_non mae_nil))))) mss_nil)))) (fun a oe pn y cls dd hz hf => (qss_guard (QW.toB (qw_or (qb_not (qb_val (qe_isi T.n_isinstance (pe_bltn (v := .ty "ValueError") rfl T.n_ValueError (by decide +kernel) rfl) (fun _ z => z) T.kit_ValueError))) (qw_or (qb_not (qb_val (qe_isi T.n_isinstance (pe_glob (v := .ref T.c_BadPoint) rfl T.g_BadPoint rfl) (fun _ z => z) T.kit_BadPoint))) (qw_or1 (qb_val (qe_isi T.n_isinstance (pe_glob (v := .ref T.c_BadWeights) rfl T.g_BadWeights rfl) (fun _ z => z) T.kit_BadWeights)))))) (qe_tup (qa_cons (qe_me me_str) (qa_cons (qe_me me_non) qa_nil))) (qss_one (qs_ret (qe_tup (qa_cons (qe_fld T.fld_word) (qa_cons (qe_fld T.fld_place) qa_nil))))))) T.exm_BoundError)) (mss_one (ms_ret me_non)))
/-! def law -/
def el_law_1 : Rho → Option D :=
    (mCall m__law_point [] (mCons (mCall m__law_cell [] (mCons (mVar 0) (mCons (m2 dAdd (mC (.int 2)) (mVar 3)) mNil))) (mCons (mVar 1) mNil)))
theorem un_el_law_1 {ρ : Rho} {r : Option D} (h : (mCall m__law_point [] (mCons (mCall m__law_cell [] (mCons (mVar 0) (mCons (m2 dAdd (mC (.int 2)) (mVar 3)) mNil))) (mCons (mVar 1) mNil))) ρ = r) : el_law_1 ρ = r := h
def lp_law_1 : Rho → Option Res :=
    (mPost [3] (mIfS (mAsB (m2 dGt (mFn fLen (mCons (mVar 2) mNil)) (mC (.int 0)))) (mPost [3] (mSet 2 (mCall m__law_bent [] (mCons (mCall m__law_cell [] (mCons (mVar 0) (mCons (m2 dAdd (mC (.int 9)) (mVar 3)) mNil))) (mCons (mVar 2) (mCons (mVar 1) mNil)))))) mSkip))
theorem un_lp_law_1 {ρ : Rho} {r : Option Res} (h : (mPost [3] (mIfS (mAsB (m2 dGt (mFn fLen (mCons (mVar 2) mNil)) (mC (.int 0)))) (mPost [3] (mSet 2 (mCall m__law_bent [] (mCons (mCall m__law_cell [] (mCons (mVar 0) (mCons (m2 dAdd (mC (.int 9)) (mVar 3)) mNil))) (mCons (mVar 2) (mCons (mVar 1) mNil)))))) mSkip)) ρ = r) : lp_law_1 ρ = r := h
def el_law_2 : Rho → Option D :=
    (mVar 3)
theorem un_el_law_2 {ρ : Rho} {r : Option D} (h : (mVar 3) ρ = r) : el_law_2 ρ = r := h
def lp_law_2 : Rho → Option Res :=
    (mPost [7] (mIfS (mAsB (m2 dNe (mFn fRepr (mCons (mCall m_is_point [] (mCons (mVar 7) (mCons (mVar 1) mNil))) mNil)) (mFn fRepr (mCons (mCall m__law_is_point [] (mCons (mVar 7) (mCons (mVar 1) mNil))) mNil)))) (mRet (mC (.bool false))) mSkip))
theorem un_lp_law_2 {ρ : Rho} {r : Option Res} (h : (mPost [7] (mIfS (mAsB (m2 dNe (mFn fRepr (mCons (mCall m_is_point [] (mCons (mVar 7) (mCons (mVar 1) mNil))) mNil)) (mFn fRepr (mCons (mCall m__law_is_point [] (mCons (mVar 7) (mCons (mVar 1) mNil))) mNil)))) (mRet (mC (.bool false))) mSkip)) ρ = r) : lp_law_2 ρ = r := h
def el_law_3 : Rho → Option D :=
    (mCall m__law_number [] (mCons (mCall m__law_cell [] (mCons (mVar 0) (mCons (m2 dAdd (mC (.int 11)) (mVar 3)) mNil))) (mCons (mVar 3) mNil)))
theorem un_el_law_3 {ρ : Rho} {r : Option D} (h : (mCall m__law_number [] (mCons (mCall m__law_cell [] (mCons (mVar 0) (mCons (m2 dAdd (mC (.int 11)) (mVar 3)) mNil))) (mCons (mVar 3) mNil))) ρ = r) : el_law_3 ρ = r := h
def el_law_4 : Rho → Option D :=
    (mCall m__law_lowest [] (mCons (mVar 10) (mCons (mVar 9) mNil)))
theorem un_el_law_4 {ρ : Rho} {r : Option D} (h : (mCall m__law_lowest [] (mCons (mVar 10) (mCons (mVar 9) mNil))) ρ = r) : el_law_4 ρ = r := h
def el_law_5 : Rho → Option D :=
    (mTup (mCons (mVar 10) (mCons (mC (.int 1)) mNil)))
theorem un_el_law_5 {ρ : Rho} {r : Option D} (h : (mTup (mCons (mVar 10) (mCons (mC (.int 1)) mNil))) ρ = r) : el_law_5 ρ = r := h
def b_law : Rho → Option Res :=
    (mSeq (mSet 1 (m2 dAdd (mC (.int 1)) (m2 dMod (mFn fInt (mCons (mCall m__law_cell [] (mCons (mVar 0) (mCons (mC (.int 0)) mNil))) mNil)) (mC (.int 4)))))
    (mSeq (mSet 2 (mL (mLc (mL2 rng1 (mCons (m2 dMod (mFn fInt (mCons (mCall m__law_cell [] (mCons (mVar 0) (mCons (mC (.int 1)) mNil))) mNil)) (mC (.int 7))) mNil)) (gSet 3) mYes el_law_1 [3])))
    (mSeq (mPost [3] (mFor (mL2 rng1 (mCons (m2 dMod (m2 dMod (mFn fInt (mCons (mCall m__law_cell [] (mCons (mVar 0) (mCons (mC (.int 8)) mNil))) mNil)) (mC (.int 4))) (mC (.int 3))) mNil)) (gSet 3) lp_law_1))
    (mSeq (mSet 4 (mL (mLc (mL2 rng1 (mCons (mFn fLen (mCons (mVar 2) mNil)) mNil)) (gSet 3) (mNot (mAsB (mCall m__law_is_point [] (mCons (m2 dIx (mVar 2) (mVar 3)) (mCons (mVar 1) mNil))))) el_law_2 [3])))
    (mSeq (mSet 5 (mC .none))
    (mSeq (mPost [4] (mIfS (mAsB (m2 dGt (mFn fLen (mCons (mVar 4) mNil)) (mC (.int 0)))) (mPost [4] (mSet 5 (mTup (mCons (mC (.str (Str.ofString "BadPoint"))) (mCons (m2 dIx (mVar 4) (mC (.int 0))) mNil))))) mSkip))
    (mSeq (mSet 6 (mFn fList (mCons (mVar 2) mNil)))
    (mSeq (mPost [6] (mIfS (mOr (mAsB (m2 dNe (mFn fRepr (mCons (mCall m__law_told [] (mCons (mVar 6) (mCons (mVar 1) mNil))) mNil)) (mFn fRepr (mCons (mVar 5) mNil)))) (mAsB (m2 dNe (mFn fRepr (mCons (mVar 6) mNil)) (mFn fRepr (mCons (mVar 2) mNil))))) (mRet (mC (.bool false))) mSkip))
    (mSeq (mPost [5] (mIfS (mAsB (m2 dNe (mFn fRepr (mCons (mCall m__law_told [] (mCons (mFn fTuple (mCons (mVar 2) mNil)) (mCons (mVar 1) mNil))) mNil)) (mFn fRepr (mCons (mVar 5) mNil)))) (mRet (mC (.bool false))) mSkip))
    (mSeq (mPost [2, 7] (mFor (mSeqOf (mVar 2)) (gSet 7) lp_law_2))
    (mSeq (mPost [1] (mSet 8 (mL (mLc (mL2 rng1 (mCons (mVar 1) mNil)) (gSet 3) mYes el_law_3 [3]))))
    (mSeq (mPost [0] (mSet 9 (mCall m__law_number [] (mCons (mCall m__law_cell [] (mCons (mVar 0) (mCons (mC (.int 15)) mNil))) (mCons (mC (.int 5)) mNil)))))
    (mSeq (mIfS (mAsB (m2 dEq (mVar 9) (mC (.int 0)))) (mSet 9 (m1 dNeg (mC (.int 7)))) mSkip)
    (mSeq (mPost [9] (mIfS (mNot (mAsB (mCall m__law_is [] (mCons (mCall m_point_of [] (mCons (mVar 8) (mCons (mVar 9) mNil))) (mCons (mFn fTuple (mCons (mL (mLc (mSeqOf (mVar 8)) (gSet 10) mYes el_law_4 [10])) mNil)) mNil))))) (mRet (mC (.bool false))) mSkip))
    (mRet (mCall m__law_is [] (mCons (mCall m_point_of [(.int 1)] (mCons (mFn fTuple (mCons (mVar 8) mNil)) mNil)) (mCons (mFn fTuple (mCons (mL (mLc (mSeqOf (mVar 8)) (gSet 10) mYes el_law_5 [10])) mNil)) mNil))))))))))))))))))
def m_law : List D → Option D := runDef 1 10 b_law
theorem ok_law {P : Program} {w : World} {K : PySem.W.Frag} {mg : Str → Option Value} {base : Heap} (T : Txt K mg) : FnG P w K mg base 6 T.a_law T.d_law ["script"] m_law :=
  fn_def T.F_law sc_law fun cdv A outer s H hG hr => (mss_cons (ms_set (i := 1) sc_law.nd (me_bin od_add (ME.t me_int) (ME.t (me_bin od_mod (ME.t (me_fnT fd_int T.n_int (mat_cons (ME.t (me_call (ok__law_cell T) hG (hr.mono (by decide)) T.g__law_cell T.F__law_cell.kp (T.b__law_cell) (T.v__law_cell) (fun _ => .nil) (mae_cons (me_var 0) (mae_cons me_int mae_nil)))) mat_nil))) (ME.t me_int))))) (mss_cons (ms_set (i := 2) sc_law.nd (MO.e (mo_lc (own := [(("k" : Str), 3)]) rfl sc_law.nd (MI.h (mi_range1 T.n_range (mat_cons (ME.t (me_bin od_mod (ME.t (me_fnT fd_int T.n_int (mat_cons (ME.t (me_call (ok__law_cell T) hG (hr.mono (by decide)) T.g__law_cell T.F__law_cell.kp (T.b__law_cell) (T.v__law_cell) (fun _ => .nil) (mae_cons (me_var 0) (mae_cons me_int mae_nil)))) mat_nil))) (ME.t me_int))) mat_nil))) (blkOk_by (N := N_law) (sc := defScope s_law) (own := [(("k" : Str), 3)]) (by decide +kernel)) (fun _ _ _ _ _ => (mg_name 3 sc_law.nd)) (fun _ _ _ _ _ => mts_nil) (fun _ _ _ _ _ => (me_call (ok__law_point T) hG (hr.mono (by decide)) T.g__law_point T.F__law_point.kp (T.b__law_point) (T.v__law_point) (fun _ => .nil) (mae_cons (me_call (ok__law_cell T) hG (hr.mono (by decide)) T.g__law_cell T.F__law_cell.kp (T.b__law_cell) (T.v__law_cell) (fun _ => .nil) (mae_cons (me_var 0) (mae_cons (me_bin od_add (ME.t me_int) (ME.t (me_var 3))) mae_nil))) (mae_cons (me_var 1) mae_nil))))))) (mss_cons (ms_post [3] (ms_for PassesOwn.never rfl (mi_range1 T.n_range (mat_cons (ME.t (me_bin od_mod (ME.t (me_bin od_mod (ME.t (me_fnT fd_int T.n_int (mat_cons (ME.t (me_call (ok__law_cell T) hG (hr.mono (by decide)) T.g__law_cell T.F__law_cell.kp (T.b__law_cell) (T.v__law_cell) (fun _ => .nil) (mae_cons (me_var 0) (mae_cons me_int mae_nil)))) mat_nil))) (ME.t me_int))) (ME.t me_int))) mat_nil)) (mg_name 3 sc_law.nd) (mss_one (ms_post [3] (ms_if (mb_cmp od_gt (ME.t (me_fnB fd_len T.n_len (mat_cons (ME.t (me_var 2)) mat_nil))) (ME.t me_int)) (mss_one (ms_post [3] (ms_set (i := 2) sc_law.nd (me_call (ok__law_bent T) hG (hr.mono (by decide)) T.g__law_bent T.F__law_bent.kp (T.b__law_bent) (T.v__law_bent) (fun _ => .nil) (mae_cons (me_call (ok__law_cell T) hG (hr.mono (by decide)) T.g__law_cell T.F__law_cell.kp (T.b__law_cell) (T.v__law_cell) (fun _ => .nil) (mae_cons (me_var 0) (mae_cons (me_bin od_add (ME.t me_int) (ME.t (me_var 3))) mae_nil))) (mae_cons (me_var 2) (mae_cons (me_var 1) mae_nil))))))) mss_nil))))) (mss_cons (ms_setLc (i := 4) (own := [(("k" : Str), 3)]) rfl sc_law.nd (MI.h (mi_range1 T.n_range (mat_cons (ME.t (me_fnB fd_len T.n_len (mat_cons (ME.t (me_var 2)) mat_nil))) mat_nil))) (blkOk_by (N := N_law) (sc := defScope s_law) (own := [(("k" : Str), 3)]) (by decide +kernel)) (fun _ _ _ _ _ => (mg_name 3 sc_law.nd)) (fun _ _ _ _ _ => (mts_one (mb_not (mb_val (ME.t (me_call (ok__law_is_point T) hG (hr.mono (by decide)) T.g__law_is_point T.F__law_is_point.kp (T.b__law_is_point) (T.v__law_is_point) (fun _ => .nil) (mae_cons (me_ix (ME.t (me_var 2)) (ME.t (me_var 3))) (mae_cons (me_var 1) mae_nil)))))))) (fun _ _ _ _ _ => (me_var 3)) (sw_true rfl rfl rfl (by decide +kernel))) (mss_cons (ms_set (i := 5) sc_law.nd me_non) (mss_cons (ms_post [4] (ms_if (mb_cmp od_gt (ME.t (me_fnB fd_len T.n_len (mat_cons (ME.t (me_var 4)) mat_nil))) (ME.t me_int)) (mss_one (ms_post [4] (ms_set (i := 5) sc_law.nd (me_tup (mae_cons me_str (mae_cons (me_ix (ME.t (me_var 4)) (ME.t me_int)) mae_nil)))))) mss_nil)) (mss_cons (ms_set (i := 6) sc_law.nd (me_fnT fd_list T.n_list (mat_cons (ME.t (me_var 2)) mat_nil))) (mss_cons (ms_post [6] (ms_if (MW.toB (mw_or (mb_cmp (od_ne hr.units) (ME.t (me_fnB (fd_repr hG hr.units) T.n_repr (mat_cons (ME.t (me_call (ok__law_told T) hG (hr.mono (by decide)) T.g__law_told T.F__law_told.kp (T.b__law_told) (T.v__law_told) (fun _ => .nil) (mae_cons (me_var 6) (mae_cons (me_var 1) mae_nil)))) mat_nil))) (ME.t (me_fnB (fd_repr hG hr.units) T.n_repr (mat_cons (ME.t (me_var 5)) mat_nil)))) (mw_or1 (mb_cmp (od_ne hr.units) (ME.t (me_fnB (fd_repr hG hr.units) T.n_repr (mat_cons (ME.t (me_var 6)) mat_nil))) (ME.t (me_fnB (fd_repr hG hr.units) T.n_repr (mat_cons (ME.t (me_var 2)) mat_nil))))))) (mss_one (ms_ret me_bl)) mss_nil)) (mss_cons (ms_post [5] (ms_if (mb_cmp (od_ne hr.units) (ME.t (me_fnB (fd_repr hG hr.units) T.n_repr (mat_cons (ME.t (me_call (ok__law_told T) hG (hr.mono (by decide)) T.g__law_told T.F__law_told.kp (T.b__law_told) (T.v__law_told) (fun _ => .nil) (mae_cons (me_fnT fd_tuple T.n_tuple (mat_cons (ME.t (me_var 2)) mat_nil)) (mae_cons (me_var 1) mae_nil)))) mat_nil))) (ME.t (me_fnB (fd_repr hG hr.units) T.n_repr (mat_cons (ME.t (me_var 5)) mat_nil)))) (mss_one (ms_ret me_bl)) mss_nil)) (mss_cons (ms_post [2, 7] (ms_for PassesOwn.never rfl (mi_seq (me_var 2)) (mg_name 7 sc_law.nd) (mss_one (ms_post [7] (ms_if (mb_cmp (od_ne hr.units) (ME.t (me_fnB (fd_repr hG hr.units) T.n_repr (mat_cons (ME.t (me_call (ok_is_point T) hG (hr.mono (by decide)) T.g_is_point T.F_is_point.kp (T.b_is_point) (T.v_is_point) (fun _ => .nil) (mae_cons (me_var 7) (mae_cons (me_var 1) mae_nil)))) mat_nil))) (ME.t (me_fnB (fd_repr hG hr.units) T.n_repr (mat_cons (ME.t (me_call (ok__law_is_point T) hG (hr.mono (by decide)) T.g__law_is_point T.F__law_is_point.kp (T.b__law_is_point) (T.v__law_is_point) (fun _ => .nil) (mae_cons (me_var 7) (mae_cons (me_var 1) mae_nil)))) mat_nil)))) (mss_one (ms_ret me_bl)) mss_nil))))) (mss_cons (ms_post [1] (ms_setLc (i := 8) (own := [(("k" : Str), 3)]) rfl sc_law.nd (MI.h (mi_range1 T.n_range (mat_cons (ME.t (me_var 1)) mat_nil))) (blkOk_by (N := N_law) (sc := defScope s_law) (own := [(("k" : Str), 3)]) (by decide +kernel)) (fun _ _ _ _ _ => (mg_name 3 sc_law.nd)) (fun _ _ _ _ _ => mts_nil) (fun _ _ _ _ _ => (me_call (ok__law_number T) hG (hr.mono (by decide)) T.g__law_number T.F__law_number.kp (T.b__law_number) (T.v__law_number) (fun _ => .nil) (mae_cons (me_call (ok__law_cell T) hG (hr.mono (by decide)) T.g__law_cell T.F__law_cell.kp (T.b__law_cell) (T.v__law_cell) (fun _ => .nil) (mae_cons (me_var 0) (mae_cons (me_bin od_add (ME.t me_int) (ME.t (me_var 3))) mae_nil))) (mae_cons (me_var 3) mae_nil)))) (sw_true rfl rfl rfl (by decide +kernel)))) (mss_cons (ms_post [0] (ms_set (i := 9) sc_law.nd (me_call (ok__law_number T) hG (hr.mono (by decide)) T.g__law_number T.F__law_number.kp (T.b__law_number) (T.v__law_number) (fun _ => .nil) (mae_cons (me_call (ok__law_cell T) hG (hr.mono (by decide)) T.g__law_cell T.F__law_cell.kp (T.b__law_cell) (T.v__law_cell) (fun _ => .nil) (mae_cons (me_var 0) (mae_cons me_int mae_nil))) (mae_cons me_int mae_nil))))) (mss_cons (ms_if (mb_cmp (od_eq hr.units) (ME.t (me_var 9)) (ME.t me_int)) (mss_one (ms_set (i := 9) sc_law.nd (me_neg (ME.t me_int)))) mss_nil) (mss_cons (ms_post [9] (ms_if (mb_not (mb_val (ME.t (me_call (ok__law_is T) hG (hr.mono (by decide)) T.g__law_is T.F__law_is.kp (T.b__law_is) (T.v__law_is) (fun _ => .nil) (mae_cons (me_call (ok_point_of T) hG (hr.mono (by decide)) T.g_point_of T.F_point_of.kp (T.b_point_of_2) (T.v_point_of_2) (fun _ => .nil) (mae_cons (me_var 8) (mae_cons (me_var 9) mae_nil))) (mae_cons (me_fnT fd_tuple T.n_tuple (mat_cons (ME.t (MO.e (mo_lc (own := [(("number" : Str), 10)]) rfl sc_law.nd (mih_seq (ME.t (me_var 8))) (blkOk_by (N := N_law) (sc := defScope s_law) (own := [(("number" : Str), 10)]) (by decide +kernel)) (fun _ _ _ _ _ => (mg_name 10 sc_law.nd)) (fun _ _ _ _ _ => mts_nil) (fun _ _ _ _ _ => (me_call (ok__law_lowest T) hG (hr.mono (by decide)) T.g__law_lowest T.F__law_lowest.kp (T.b__law_lowest) (T.v__law_lowest) (fun _ => .nil) (mae_cons (me_var 10) (mae_cons (me_var 9) mae_nil))))))) mat_nil)) mae_nil)))))) (mss_one (ms_ret me_bl)) mss_nil)) (mss_one (ms_ret (me_call (ok__law_is T) hG (hr.mono (by decide)) T.g__law_is T.F__law_is.kp (T.b__law_is) (T.v__law_is) (fun _ => .nil) (mae_cons (me_call (ok_point_of T) hG (hr.mono (by decide)) T.g_point_of T.F_point_of.kp (T.b_point_of_1) (T.v_point_of_1) (fun _ => .cons (.int _) (.nil)) (mae_cons (me_fnT fd_tuple T.n_tuple (mat_cons (ME.t (me_var 8)) mat_nil)) mae_nil)) (mae_cons (me_fnT fd_tuple T.n_tuple (mat_cons (ME.t (MO.e (mo_lc (own := [(("number" : Str), 10)]) rfl sc_law.nd (mih_seq (ME.t (me_var 8))) (blkOk_by (N := N_law) (sc := defScope s_law) (own := [(("number" : Str), 10)]) (by decide +kernel)) (fun _ _ _ _ _ => (mg_name 10 sc_law.nd)) (fun _ _ _ _ _ => mts_nil) (fun _ _ _ _ _ => (me_tup (mae_cons (me_var 10) (mae_cons me_int mae_nil))))))) mat_nil)) mae_nil)))))))))))))))))))
end Tx

namespace Tx
open PySem PySem.Spec PyProof.Rows L2 MV
set_option exponentiation.threshold 9000
/-! numbers -/
theorem pow_le {a b : Nat} (h : a ≤ b) : 2 ^ a ≤ 2 ^ b := Nat.pow_le_pow_right (by decide) h
theorem lt_pow {n a b : Nat} (h : n < 2 ^ a) (h2 : a ≤ b) : n < 2 ^ b := Nat.lt_of_lt_of_le h (pow_le h2)
theorem mul_lt {a b : Int} {m n : Nat} (ha : a.natAbs < 2 ^ m) (hb : b.natAbs < 2 ^ n) : (a * b).natAbs < 2 ^ (m + n) := by
  rw [Int.natAbs_mul, Nat.pow_add]
  exact Nat.mul_lt_mul'' ha hb
theorem add_lt {a b : Int} {m : Nat} (ha : a.natAbs < 2 ^ m) (hb : b.natAbs < 2 ^ m) : (a + b).natAbs < 2 ^ (m + 1) := by
  rw [Nat.pow_succ]
  omega
theorem sub_lt {a b : Int} {m : Nat} (ha : a.natAbs < 2 ^ m) (hb : b.natAbs < 2 ^ m) : (a - b).natAbs < 2 ^ (m + 1) := by
  rw [Nat.pow_succ]
  omega
theorem fmod_range (a : Int) {b : Int} (h : 0 < b) : 0 ≤ a.fmod b ∧ a.fmod b < b := ⟨Int.fmod_nonneg_of_pos a h, Int.fmod_lt_of_pos a h⟩
theorem cast_fdiv (a b : Nat) : ((a : Int)).fdiv (b : Int) = ((a / b : Nat) : Int) := by
  rw [Int.fdiv_eq_ediv_of_nonneg _ (by omega), Int.natCast_ediv]
/-! fractions as data -/
def ratD (q : Rat) : D := .tuple [.int q.num, .int (q.den : Int)]
theorem rat0 (q : Rat) : dIx (ratD q) (.int 0) = some (.int q.num) := rfl
theorem rat1 (q : Rat) : dIx (ratD q) (.int 1) = some (.int (q.den : Int)) := rfl
theorem rat_tg {gs : List D → Rho → Option Rho} {q : Rat} {ρ ρ' : Rho} (h : gs [.int q.num, .int (q.den : Int)] ρ = some ρ') : gTupD gs (ratD q) ρ = some ρ' := h
def ptD (qs : List Rat) : D := .tuple (qs.map ratD)
/-- how great the parts of a fraction may be -/
def Sm (B : Nat) (q : Rat) : Prop := q.num.natAbs < 2 ^ B ∧ q.den < 2 ^ B
theorem Sm.mono {a b : Nat} {q : Rat} (h : Sm a q) (e : a ≤ b) : Sm b q := ⟨lt_pow h.1 e, lt_pow h.2 e⟩
theorem Sm.den {a : Nat} {q : Rat} (h : Sm a q) : ((q.den : Int)).natAbs < 2 ^ a := by rw [Int.natAbs_natCast]; exact h.2
theorem Sm.okD {a : Nat} {q : Rat} (h : Sm a q) (e : a ≤ 1900) : okD (ratD q) := okD_tup fun d hd => by
  simp only [List.mem_cons, List.not_mem_nil, or_false] at hd
  rcases hd with rfl | rfl
  · exact okD_int (lt_pow h.1 e)
  · exact okD_int (lt_pow h.den e)
theorem rat_pos (n : Int) {d : Nat} (hd : d ≠ 0) : (Rat.divInt n (d : Int)).num = n / ((Nat.gcd n.natAbs d : Nat) : Int) ∧ ((Rat.divInt n (d : Int)).den : Int) = (d : Int) / ((Nat.gcd n.natAbs d : Nat) : Int) := by
  rw [Rat.divInt_ofNat, Rat.num_mkRat, Rat.den_mkRat, if_neg hd, if_neg hd, Nat.gcd_comm d, ← Int.natCast_ediv]
  exact ⟨rfl, rfl⟩
theorem rat_le (n : Int) {d : Nat} (hd : d ≠ 0) : (Rat.divInt n (d : Int)).num.natAbs ≤ n.natAbs ∧ (Rat.divInt n (d : Int)).den ≤ d := by
  obtain ⟨h1, h2⟩ := rat_pos n hd
  refine ⟨?_, ?_⟩
  · rw [h1, Int.natAbs_ediv_of_dvd (Int.ofNat_dvd_left.mpr (Nat.gcd_dvd_left _ _))]
    exact Nat.div_le_self _ _
  · have h3 : (Rat.divInt n (d : Int)).den = d / Nat.gcd n.natAbs d := by
      rw [← Int.natCast_ediv] at h2
      exact Int.ofNat.inj h2
    rw [h3]
    exact Nat.div_le_self _ _
theorem sm_divInt {n d : Int} {B : Nat} (hd : d ≠ 0) (h1 : n.natAbs < 2 ^ B) (h2 : d.natAbs < 2 ^ B) : Sm B (Rat.divInt n d) := by
  by_cases h0 : d < 0
  · have ed : -d = (d.natAbs : Int) := by omega
    have p := rat_le (-n) (d := d.natAbs) (by omega)
    rw [Int.natAbs_neg, ← ed, Rat.neg_divInt_neg] at p
    exact ⟨by omega, by omega⟩
  · have ed : (d.natAbs : Int) = d := by omega
    have p := rat_le n (d := d.natAbs) (by omega)
    rw [ed] at p
    exact ⟨by omega, by omega⟩
theorem den_ne (q : Rat) : (q.den : Int) ≠ 0 := by
  have := q.den_pos
  omega
theorem num_den (q : Rat) : Rat.divInt q.num (q.den : Int) = q := Rat.num_divInt_den q
theorem add_eq (p q : Rat) : Rat.divInt (p.num * q.den + q.num * p.den) (p.den * q.den) = p + q := by
  rw [← Rat.divInt_add_divInt _ _ (den_ne p) (den_ne q), num_den, num_den]
theorem sub_eq (p q : Rat) : Rat.divInt (p.num * q.den - q.num * p.den) (p.den * q.den) = p - q := by
  rw [← Rat.divInt_sub_divInt _ _ (den_ne p) (den_ne q), num_den, num_den]
theorem mul_eq (p q : Rat) : Rat.divInt (p.num * q.num) (p.den * q.den) = p * q := by
  rw [← Rat.divInt_mul_divInt, num_den, num_den]
theorem Sm.add {a b : Nat} {p q : Rat} (h : Sm a p) (k : Sm b q) : Sm (a + b + 1) (p + q) := by
  rw [← add_eq]
  refine sm_divInt (Int.mul_ne_zero (den_ne p) (den_ne q)) (add_lt (mul_lt h.1 k.den) ?_) (lt_pow (mul_lt h.den k.den) (by omega))
  rw [Nat.add_comm]
  exact mul_lt k.1 h.den
theorem Sm.sub {a b : Nat} {p q : Rat} (h : Sm a p) (k : Sm b q) : Sm (a + b + 1) (p - q) := by
  rw [← sub_eq]
  refine sm_divInt (Int.mul_ne_zero (den_ne p) (den_ne q)) (sub_lt (mul_lt h.1 k.den) ?_) (lt_pow (mul_lt h.den k.den) (by omega))
  rw [Nat.add_comm]
  exact mul_lt k.1 h.den
theorem Sm.mul {a b : Nat} {p q : Rat} (h : Sm a p) (k : Sm b q) : Sm (a + b) (p * q) := by
  rw [← mul_eq]
  exact sm_divInt (Int.mul_ne_zero (den_ne p) (den_ne q)) (mul_lt h.1 k.1) (mul_lt h.den k.den)
theorem mulSm {i j : Int} {a b : Nat} (ha : i.natAbs < 2 ^ a) (hb : j.natAbs < 2 ^ b) (h : a + b < 900000) : mulOk i j = true :=
  decide_eq_true (.inl (by
    have x := log2_lt' (n := i.natAbs) (a := a + 1) (by omega) (lt_pow ha (by omega))
    have y := log2_lt' (n := j.natAbs) (a := b + 1) (by omega) (lt_pow hb (by omega))
    omega))

/-- the i-th cell of the script -/
def cellv (ns : List Int) (k : Nat) : Int := ns.getD k 0
theorem cell_at (ns : List Int) (k : Nat) : m__law_cell [.list (ns.map PyData.int), .int (k : Int)] = some (.int (cellv ns k)) := by
  by_cases h : k < ns.length
  · have e : cellv ns k = ns[k] := by unfold cellv; rw [List.getD_eq_getElem?_getD, List.getElem?_eq_getElem h]; rfl
    (apply run_ok; case hl => exact rfl); (unfold b__law_cell; simp only [List.map_cons, List.map_nil, List.replicate, List.cons_append, List.nil_append])
    (repeat (first | (with_reducible apply MV.seq_ok) | (with_reducible apply MV.then_nx) | (with_reducible apply MV.then_rt) | (with_reducible apply MV.ar_cons) | (with_reducible apply MV.ar_nil) | (with_reducible apply MV.ex_c) | (with_reducible apply MV.var_0) | (with_reducible apply MV.var_s) | (with_reducible apply MV.own_0) | (with_reducible apply MV.own_0d) | (with_reducible apply MV.own_s) | (with_reducible apply MV.ex_2) | (with_reducible apply MV.ex_call0) | (with_reducible apply MV.ex_fn) | (with_reducible apply MV.st_set) | (with_reducible apply MV.set_0) | (with_reducible apply MV.set_s) | (with_reducible apply MV.st_post) | (with_reducible apply MV.post_nx) | (with_reducible apply MV.post_rt) | (with_reducible apply MV.wipe_0) | (with_reducible apply MV.wipe_s) | (with_reducible apply MV.op_add') | (with_reducible apply MV.op_sub') | (with_reducible apply MV.dMul_ok; rotate_left) | (with_reducible apply MV.dDiv_ok; rotate_left) | (with_reducible apply MV.dMod_ok; rotate_left) | (with_reducible apply MV.op_ixL) | (with_reducible apply MV.op_ixT) | (with_reducible apply MV.at_0) | (with_reducible apply MV.fn_int) | (with_reducible apply MV.fn_abs) | (with_reducible apply MV.fn_len) | (with_reducible apply MV.fn_lenT) | (with_reducible apply MV.fn_tupL) | (with_reducible apply MV.fn_tupT) | (with_reducible apply MV.fn_lstL) | (with_reducible apply MV.fn_lstT) | (with_reducible apply MV.ex_tup) | (with_reducible apply MV.ex_lst) | (with_reducible apply MV.ex_l) | (with_reducible apply MV.len_0) | (with_reducible apply MV.len_s) | (with_reducible apply MV.st_ret) | (with_reducible apply MV.retO_0) | (with_reducible apply MV.retO_0d) | (with_reducible apply MV.retO_s) | (with_reducible apply MV.st_if) | (with_reducible apply MV.ite_tt) | (with_reducible apply MV.ite_ff) | (with_reducible apply MV.bo_as) | (with_reducible apply MV.bo_tru) | (with_reducible apply MV.bo_and) | (with_reducible apply MV.bo_or) | (with_reducible apply MV.bo_not) | (with_reducible apply MV.not_t) | (with_reducible apply MV.not_f) | (with_reducible apply MV.ex_and) | (with_reducible apply MV.ex_or) | (with_reducible apply MV.ex_not) | (with_reducible apply MV.ex_if) | (with_reducible apply MV.st_skip) | (with_reducible apply MV.st_drop) | (with_reducible apply MV.st_brk) | (with_reducible apply MV.st_cnt) | (with_reducible apply MV.st_setO) | (with_reducible apply MV.app_at) | (with_reducible apply MV.get_0) | (with_reducible apply MV.get_s) | (with_reducible apply MV.st_par) | (with_reducible apply MV.st_asg) | (with_reducible apply MV.tg_set) | (with_reducible apply MV.tg_tup) | (with_reducible apply MV.tg_cons) | (with_reducible apply MV.tg_nil) | (with_reducible apply MV.st_for) | (with_reducible apply MV.st_frz) | (with_reducible apply MV.put_at) | (with_reducible apply MV.src_seq) | (with_reducible apply MV.src_2) | (with_reducible apply MV.seq_l) | (with_reducible apply MV.seq_t) | (with_reducible apply MV.zip_ok) | (with_reducible apply MV.enum_ok) | (with_reducible apply MV.ex_1) | (with_reducible apply MV.ex_call) | (with_reducible apply MV.op_neg') | (with_reducible apply MV.op_lt') | (with_reducible apply MV.op_le') | (with_reducible apply MV.op_gt') | (with_reducible apply MV.op_ge') | (with_reducible apply MV.op_p18) | (with_reducible apply MV.op_p9) | (with_reducible apply MV.op_p30) | (with_reducible apply MV.op_eqI) | (with_reducible apply MV.op_neI) | (with_reducible apply MV.op_eqSS) | (with_reducible apply MV.op_neSS) | (with_reducible apply MV.op_eqS) | (with_reducible apply MV.op_neS) | (with_reducible apply MV.op_eqB) | (with_reducible apply MV.op_neB) | (with_reducible apply MV.fn_gcd) | (with_reducible apply MV.fn_intB) | (with_reducible apply MV.post_bk) | (with_reducible apply MV.post_ct) | (with_reducible apply MV.then_bk) | (with_reducible apply MV.then_ct) | (with_reducible apply MV.cut_ok) | (with_reducible apply MV.part_ok) | (with_reducible apply MV.part_no) | (with_reducible apply MV.then_ex) | (with_reducible apply MV.post_ex) | (with_reducible apply MV.st_raise) | (with_reducible apply MV.mk_err) | (with_reducible apply MV.err_int) | (with_reducible apply MV.err_non) | (with_reducible apply MV.st_ifX) | (with_reducible apply MV.ifX_ok) | (with_reducible apply MV.ifX_er) | (with_reducible apply MV.ex_2X) | (with_reducible apply MV.m2R_er) | (with_reducible apply MV.m2R_ok) | (with_reducible apply MV.ex_callX) | (with_reducible apply MV.st_try) | (with_reducible apply MV.try_nx) | (with_reducible apply MV.try_rt) | (with_reducible apply MV.try_ex) | (with_reducible apply MV.end_rt) | (with_reducible apply MV.end_nx) | (with_reducible apply MV.st_guard) | (with_reducible apply MV.fld_ok) | (with_reducible apply MV.isv_ok) | (with_reducible apply MV.some_rfl) | (refine MV.ite_t (by assumption) ?_) | (refine MV.ite_f (by assumption) ?_) | (exact (by assumption : _ = true)) | (refine MV.ite_dt (by omega) ?_) | (refine MV.ite_df (by omega) ?_) | (refine MV.ite_et (by omega) ?_) | (refine MV.ite_ef (by omega) ?_)))
    refine ite_dt (by rw [List.length_map]; omega) ?_
    (repeat (first | (with_reducible apply at_map (List.getElem?_eq_getElem h) <;> first | omega | skip) | (with_reducible apply MV.seq_ok) | (with_reducible apply MV.then_nx) | (with_reducible apply MV.then_rt) | (with_reducible apply MV.ar_cons) | (with_reducible apply MV.ar_nil) | (with_reducible apply MV.ex_c) | (with_reducible apply MV.var_0) | (with_reducible apply MV.var_s) | (with_reducible apply MV.own_0) | (with_reducible apply MV.own_0d) | (with_reducible apply MV.own_s) | (with_reducible apply MV.ex_2) | (with_reducible apply MV.ex_call0) | (with_reducible apply MV.ex_fn) | (with_reducible apply MV.st_set) | (with_reducible apply MV.set_0) | (with_reducible apply MV.set_s) | (with_reducible apply MV.st_post) | (with_reducible apply MV.post_nx) | (with_reducible apply MV.post_rt) | (with_reducible apply MV.wipe_0) | (with_reducible apply MV.wipe_s) | (with_reducible apply MV.op_add') | (with_reducible apply MV.op_sub') | (with_reducible apply MV.dMul_ok; rotate_left) | (with_reducible apply MV.dDiv_ok; rotate_left) | (with_reducible apply MV.dMod_ok; rotate_left) | (with_reducible apply MV.op_ixL) | (with_reducible apply MV.op_ixT) | (with_reducible apply MV.at_0) | (with_reducible apply MV.fn_int) | (with_reducible apply MV.fn_abs) | (with_reducible apply MV.fn_len) | (with_reducible apply MV.fn_lenT) | (with_reducible apply MV.fn_tupL) | (with_reducible apply MV.fn_tupT) | (with_reducible apply MV.fn_lstL) | (with_reducible apply MV.fn_lstT) | (with_reducible apply MV.ex_tup) | (with_reducible apply MV.ex_lst) | (with_reducible apply MV.ex_l) | (with_reducible apply MV.len_0) | (with_reducible apply MV.len_s) | (with_reducible apply MV.st_ret) | (with_reducible apply MV.retO_0) | (with_reducible apply MV.retO_0d) | (with_reducible apply MV.retO_s) | (with_reducible apply MV.st_if) | (with_reducible apply MV.ite_tt) | (with_reducible apply MV.ite_ff) | (with_reducible apply MV.bo_as) | (with_reducible apply MV.bo_tru) | (with_reducible apply MV.bo_and) | (with_reducible apply MV.bo_or) | (with_reducible apply MV.bo_not) | (with_reducible apply MV.not_t) | (with_reducible apply MV.not_f) | (with_reducible apply MV.ex_and) | (with_reducible apply MV.ex_or) | (with_reducible apply MV.ex_not) | (with_reducible apply MV.ex_if) | (with_reducible apply MV.st_skip) | (with_reducible apply MV.st_drop) | (with_reducible apply MV.st_brk) | (with_reducible apply MV.st_cnt) | (with_reducible apply MV.st_setO) | (with_reducible apply MV.app_at) | (with_reducible apply MV.get_0) | (with_reducible apply MV.get_s) | (with_reducible apply MV.st_par) | (with_reducible apply MV.st_asg) | (with_reducible apply MV.tg_set) | (with_reducible apply MV.tg_tup) | (with_reducible apply MV.tg_cons) | (with_reducible apply MV.tg_nil) | (with_reducible apply MV.st_for) | (with_reducible apply MV.st_frz) | (with_reducible apply MV.put_at) | (with_reducible apply MV.src_seq) | (with_reducible apply MV.src_2) | (with_reducible apply MV.seq_l) | (with_reducible apply MV.seq_t) | (with_reducible apply MV.zip_ok) | (with_reducible apply MV.enum_ok) | (with_reducible apply MV.ex_1) | (with_reducible apply MV.ex_call) | (with_reducible apply MV.op_neg') | (with_reducible apply MV.op_lt') | (with_reducible apply MV.op_le') | (with_reducible apply MV.op_gt') | (with_reducible apply MV.op_ge') | (with_reducible apply MV.op_p18) | (with_reducible apply MV.op_p9) | (with_reducible apply MV.op_p30) | (with_reducible apply MV.op_eqI) | (with_reducible apply MV.op_neI) | (with_reducible apply MV.op_eqSS) | (with_reducible apply MV.op_neSS) | (with_reducible apply MV.op_eqS) | (with_reducible apply MV.op_neS) | (with_reducible apply MV.op_eqB) | (with_reducible apply MV.op_neB) | (with_reducible apply MV.fn_gcd) | (with_reducible apply MV.fn_intB) | (with_reducible apply MV.post_bk) | (with_reducible apply MV.post_ct) | (with_reducible apply MV.then_bk) | (with_reducible apply MV.then_ct) | (with_reducible apply MV.cut_ok) | (with_reducible apply MV.part_ok) | (with_reducible apply MV.part_no) | (with_reducible apply MV.then_ex) | (with_reducible apply MV.post_ex) | (with_reducible apply MV.st_raise) | (with_reducible apply MV.mk_err) | (with_reducible apply MV.err_int) | (with_reducible apply MV.err_non) | (with_reducible apply MV.st_ifX) | (with_reducible apply MV.ifX_ok) | (with_reducible apply MV.ifX_er) | (with_reducible apply MV.ex_2X) | (with_reducible apply MV.m2R_er) | (with_reducible apply MV.m2R_ok) | (with_reducible apply MV.ex_callX) | (with_reducible apply MV.st_try) | (with_reducible apply MV.try_nx) | (with_reducible apply MV.try_rt) | (with_reducible apply MV.try_ex) | (with_reducible apply MV.end_rt) | (with_reducible apply MV.end_nx) | (with_reducible apply MV.st_guard) | (with_reducible apply MV.fld_ok) | (with_reducible apply MV.isv_ok) | (with_reducible apply MV.some_rfl) | (refine MV.ite_t (by assumption) ?_) | (refine MV.ite_f (by assumption) ?_) | (exact (by assumption : _ = true)) | (refine MV.ite_dt (by omega) ?_) | (refine MV.ite_df (by omega) ?_) | (refine MV.ite_et (by omega) ?_) | (refine MV.ite_ef (by omega) ?_)))
    rw [e]
  · have e : cellv ns k = 0 := by unfold cellv; rw [List.getD_eq_getElem?_getD, List.getElem?_eq_none (by omega)]; rfl
    (apply run_ok; case hl => exact rfl); (unfold b__law_cell; simp only [List.map_cons, List.map_nil, List.replicate, List.cons_append, List.nil_append])
    (repeat (first | (with_reducible apply MV.seq_ok) | (with_reducible apply MV.then_nx) | (with_reducible apply MV.then_rt) | (with_reducible apply MV.ar_cons) | (with_reducible apply MV.ar_nil) | (with_reducible apply MV.ex_c) | (with_reducible apply MV.var_0) | (with_reducible apply MV.var_s) | (with_reducible apply MV.own_0) | (with_reducible apply MV.own_0d) | (with_reducible apply MV.own_s) | (with_reducible apply MV.ex_2) | (with_reducible apply MV.ex_call0) | (with_reducible apply MV.ex_fn) | (with_reducible apply MV.st_set) | (with_reducible apply MV.set_0) | (with_reducible apply MV.set_s) | (with_reducible apply MV.st_post) | (with_reducible apply MV.post_nx) | (with_reducible apply MV.post_rt) | (with_reducible apply MV.wipe_0) | (with_reducible apply MV.wipe_s) | (with_reducible apply MV.op_add') | (with_reducible apply MV.op_sub') | (with_reducible apply MV.dMul_ok; rotate_left) | (with_reducible apply MV.dDiv_ok; rotate_left) | (with_reducible apply MV.dMod_ok; rotate_left) | (with_reducible apply MV.op_ixL) | (with_reducible apply MV.op_ixT) | (with_reducible apply MV.at_0) | (with_reducible apply MV.fn_int) | (with_reducible apply MV.fn_abs) | (with_reducible apply MV.fn_len) | (with_reducible apply MV.fn_lenT) | (with_reducible apply MV.fn_tupL) | (with_reducible apply MV.fn_tupT) | (with_reducible apply MV.fn_lstL) | (with_reducible apply MV.fn_lstT) | (with_reducible apply MV.ex_tup) | (with_reducible apply MV.ex_lst) | (with_reducible apply MV.ex_l) | (with_reducible apply MV.len_0) | (with_reducible apply MV.len_s) | (with_reducible apply MV.st_ret) | (with_reducible apply MV.retO_0) | (with_reducible apply MV.retO_0d) | (with_reducible apply MV.retO_s) | (with_reducible apply MV.st_if) | (with_reducible apply MV.ite_tt) | (with_reducible apply MV.ite_ff) | (with_reducible apply MV.bo_as) | (with_reducible apply MV.bo_tru) | (with_reducible apply MV.bo_and) | (with_reducible apply MV.bo_or) | (with_reducible apply MV.bo_not) | (with_reducible apply MV.not_t) | (with_reducible apply MV.not_f) | (with_reducible apply MV.ex_and) | (with_reducible apply MV.ex_or) | (with_reducible apply MV.ex_not) | (with_reducible apply MV.ex_if) | (with_reducible apply MV.st_skip) | (with_reducible apply MV.st_drop) | (with_reducible apply MV.st_brk) | (with_reducible apply MV.st_cnt) | (with_reducible apply MV.st_setO) | (with_reducible apply MV.app_at) | (with_reducible apply MV.get_0) | (with_reducible apply MV.get_s) | (with_reducible apply MV.st_par) | (with_reducible apply MV.st_asg) | (with_reducible apply MV.tg_set) | (with_reducible apply MV.tg_tup) | (with_reducible apply MV.tg_cons) | (with_reducible apply MV.tg_nil) | (with_reducible apply MV.st_for) | (with_reducible apply MV.st_frz) | (with_reducible apply MV.put_at) | (with_reducible apply MV.src_seq) | (with_reducible apply MV.src_2) | (with_reducible apply MV.seq_l) | (with_reducible apply MV.seq_t) | (with_reducible apply MV.zip_ok) | (with_reducible apply MV.enum_ok) | (with_reducible apply MV.ex_1) | (with_reducible apply MV.ex_call) | (with_reducible apply MV.op_neg') | (with_reducible apply MV.op_lt') | (with_reducible apply MV.op_le') | (with_reducible apply MV.op_gt') | (with_reducible apply MV.op_ge') | (with_reducible apply MV.op_p18) | (with_reducible apply MV.op_p9) | (with_reducible apply MV.op_p30) | (with_reducible apply MV.op_eqI) | (with_reducible apply MV.op_neI) | (with_reducible apply MV.op_eqSS) | (with_reducible apply MV.op_neSS) | (with_reducible apply MV.op_eqS) | (with_reducible apply MV.op_neS) | (with_reducible apply MV.op_eqB) | (with_reducible apply MV.op_neB) | (with_reducible apply MV.fn_gcd) | (with_reducible apply MV.fn_intB) | (with_reducible apply MV.post_bk) | (with_reducible apply MV.post_ct) | (with_reducible apply MV.then_bk) | (with_reducible apply MV.then_ct) | (with_reducible apply MV.cut_ok) | (with_reducible apply MV.part_ok) | (with_reducible apply MV.part_no) | (with_reducible apply MV.then_ex) | (with_reducible apply MV.post_ex) | (with_reducible apply MV.st_raise) | (with_reducible apply MV.mk_err) | (with_reducible apply MV.err_int) | (with_reducible apply MV.err_non) | (with_reducible apply MV.st_ifX) | (with_reducible apply MV.ifX_ok) | (with_reducible apply MV.ifX_er) | (with_reducible apply MV.ex_2X) | (with_reducible apply MV.m2R_er) | (with_reducible apply MV.m2R_ok) | (with_reducible apply MV.ex_callX) | (with_reducible apply MV.st_try) | (with_reducible apply MV.try_nx) | (with_reducible apply MV.try_rt) | (with_reducible apply MV.try_ex) | (with_reducible apply MV.end_rt) | (with_reducible apply MV.end_nx) | (with_reducible apply MV.st_guard) | (with_reducible apply MV.fld_ok) | (with_reducible apply MV.isv_ok) | (with_reducible apply MV.some_rfl) | (refine MV.ite_t (by assumption) ?_) | (refine MV.ite_f (by assumption) ?_) | (exact (by assumption : _ = true)) | (refine MV.ite_dt (by omega) ?_) | (refine MV.ite_df (by omega) ?_) | (refine MV.ite_et (by omega) ?_) | (refine MV.ite_ef (by omega) ?_)))
    refine ite_df (by rw [List.length_map]; omega) ?_
    (repeat (first | (with_reducible apply MV.seq_ok) | (with_reducible apply MV.then_nx) | (with_reducible apply MV.then_rt) | (with_reducible apply MV.ar_cons) | (with_reducible apply MV.ar_nil) | (with_reducible apply MV.ex_c) | (with_reducible apply MV.var_0) | (with_reducible apply MV.var_s) | (with_reducible apply MV.own_0) | (with_reducible apply MV.own_0d) | (with_reducible apply MV.own_s) | (with_reducible apply MV.ex_2) | (with_reducible apply MV.ex_call0) | (with_reducible apply MV.ex_fn) | (with_reducible apply MV.st_set) | (with_reducible apply MV.set_0) | (with_reducible apply MV.set_s) | (with_reducible apply MV.st_post) | (with_reducible apply MV.post_nx) | (with_reducible apply MV.post_rt) | (with_reducible apply MV.wipe_0) | (with_reducible apply MV.wipe_s) | (with_reducible apply MV.op_add') | (with_reducible apply MV.op_sub') | (with_reducible apply MV.dMul_ok; rotate_left) | (with_reducible apply MV.dDiv_ok; rotate_left) | (with_reducible apply MV.dMod_ok; rotate_left) | (with_reducible apply MV.op_ixL) | (with_reducible apply MV.op_ixT) | (with_reducible apply MV.at_0) | (with_reducible apply MV.fn_int) | (with_reducible apply MV.fn_abs) | (with_reducible apply MV.fn_len) | (with_reducible apply MV.fn_lenT) | (with_reducible apply MV.fn_tupL) | (with_reducible apply MV.fn_tupT) | (with_reducible apply MV.fn_lstL) | (with_reducible apply MV.fn_lstT) | (with_reducible apply MV.ex_tup) | (with_reducible apply MV.ex_lst) | (with_reducible apply MV.ex_l) | (with_reducible apply MV.len_0) | (with_reducible apply MV.len_s) | (with_reducible apply MV.st_ret) | (with_reducible apply MV.retO_0) | (with_reducible apply MV.retO_0d) | (with_reducible apply MV.retO_s) | (with_reducible apply MV.st_if) | (with_reducible apply MV.ite_tt) | (with_reducible apply MV.ite_ff) | (with_reducible apply MV.bo_as) | (with_reducible apply MV.bo_tru) | (with_reducible apply MV.bo_and) | (with_reducible apply MV.bo_or) | (with_reducible apply MV.bo_not) | (with_reducible apply MV.not_t) | (with_reducible apply MV.not_f) | (with_reducible apply MV.ex_and) | (with_reducible apply MV.ex_or) | (with_reducible apply MV.ex_not) | (with_reducible apply MV.ex_if) | (with_reducible apply MV.st_skip) | (with_reducible apply MV.st_drop) | (with_reducible apply MV.st_brk) | (with_reducible apply MV.st_cnt) | (with_reducible apply MV.st_setO) | (with_reducible apply MV.app_at) | (with_reducible apply MV.get_0) | (with_reducible apply MV.get_s) | (with_reducible apply MV.st_par) | (with_reducible apply MV.st_asg) | (with_reducible apply MV.tg_set) | (with_reducible apply MV.tg_tup) | (with_reducible apply MV.tg_cons) | (with_reducible apply MV.tg_nil) | (with_reducible apply MV.st_for) | (with_reducible apply MV.st_frz) | (with_reducible apply MV.put_at) | (with_reducible apply MV.src_seq) | (with_reducible apply MV.src_2) | (with_reducible apply MV.seq_l) | (with_reducible apply MV.seq_t) | (with_reducible apply MV.zip_ok) | (with_reducible apply MV.enum_ok) | (with_reducible apply MV.ex_1) | (with_reducible apply MV.ex_call) | (with_reducible apply MV.op_neg') | (with_reducible apply MV.op_lt') | (with_reducible apply MV.op_le') | (with_reducible apply MV.op_gt') | (with_reducible apply MV.op_ge') | (with_reducible apply MV.op_p18) | (with_reducible apply MV.op_p9) | (with_reducible apply MV.op_p30) | (with_reducible apply MV.op_eqI) | (with_reducible apply MV.op_neI) | (with_reducible apply MV.op_eqSS) | (with_reducible apply MV.op_neSS) | (with_reducible apply MV.op_eqS) | (with_reducible apply MV.op_neS) | (with_reducible apply MV.op_eqB) | (with_reducible apply MV.op_neB) | (with_reducible apply MV.fn_gcd) | (with_reducible apply MV.fn_intB) | (with_reducible apply MV.post_bk) | (with_reducible apply MV.post_ct) | (with_reducible apply MV.then_bk) | (with_reducible apply MV.then_ct) | (with_reducible apply MV.cut_ok) | (with_reducible apply MV.part_ok) | (with_reducible apply MV.part_no) | (with_reducible apply MV.then_ex) | (with_reducible apply MV.post_ex) | (with_reducible apply MV.st_raise) | (with_reducible apply MV.mk_err) | (with_reducible apply MV.err_int) | (with_reducible apply MV.err_non) | (with_reducible apply MV.st_ifX) | (with_reducible apply MV.ifX_ok) | (with_reducible apply MV.ifX_er) | (with_reducible apply MV.ex_2X) | (with_reducible apply MV.m2R_er) | (with_reducible apply MV.m2R_ok) | (with_reducible apply MV.ex_callX) | (with_reducible apply MV.st_try) | (with_reducible apply MV.try_nx) | (with_reducible apply MV.try_rt) | (with_reducible apply MV.try_ex) | (with_reducible apply MV.end_rt) | (with_reducible apply MV.end_nx) | (with_reducible apply MV.st_guard) | (with_reducible apply MV.fld_ok) | (with_reducible apply MV.isv_ok) | (with_reducible apply MV.some_rfl) | (refine MV.ite_t (by assumption) ?_) | (refine MV.ite_f (by assumption) ?_) | (exact (by assumption : _ = true)) | (refine MV.ite_dt (by omega) ?_) | (refine MV.ite_df (by omega) ?_) | (refine MV.ite_et (by omega) ?_) | (refine MV.ite_ef (by omega) ?_)))
    rw [e]
def cellz (ns : List Int) (z : Int) : Int := cellv ns z.toNat
theorem cell_z (ns : List Int) {z : Int} (h : 0 ≤ z) : m__law_cell [.list (ns.map PyData.int), .int z] = some (.int (cellz ns z)) := by
  have e := cell_at ns z.toNat
  rwa [show ((z.toNat : Nat) : Int) = z by omega] at e
/-- a number that is drawn from 0 to m - 1 -/
theorem drawn (z : Int) {m : Int} (h : 0 < m) : ∃ n : Nat, z.fmod m = (n : Int) ∧ (n : Int) < m := ⟨(z.fmod m).toNat, by have := fmod_range z h; omega, by have := fmod_range z h; omega⟩

/-- a number out of a cell, below the base -/
def dig (base cell : Int) (k : Nat) : Int :=
  if (1000000000000000000 : Int) ≤ cell then cell.fmod base
  else
    let a := (cell * 48271 + (k : Int) * 69621 + 12345).fmod 2147483647
    let b := (a * a + 16807 * (k : Int) + 7).fmod 998244353
    let c := (b * b + 48271 * (k : Int) + cell).fmod 2147483629
    (c.fdiv 13).fmod base
def nextc (base cell : Int) : Int := if (1000000000000000000 : Int) ≤ cell then cell.fdiv base else cell
theorem dig_range {base : Int} (hb : 0 < base) (cell : Int) (k : Nat) : 0 ≤ dig base cell k ∧ dig base cell k < base := by
  unfold dig
  split
  · exact fmod_range _ hb
  · exact fmod_range _ hb
/-- the numbers of a cell -/
def rowGo (base : Int) : Nat → Nat → Int → List Int
  | 0, _, _ => []
  | n + 1, k, cell => dig base cell k :: rowGo base n (k + 1) (nextc base cell)
def rowL (cell : Int) (n : Nat) (base : Int) : List Int := rowGo base n 0 cell
theorem rowGo_len (base : Int) : ∀ (n k : Nat) (cell : Int), (rowGo base n k cell).length = n
  | 0, _, _ => rfl
  | n + 1, k, cell => congrArg (· + 1) (rowGo_len base n (k + 1) _)
theorem rowGo_range {base : Int} (hb : 0 < base) : ∀ (n k : Nat) (cell : Int), ∀ y ∈ rowGo base n k cell, 0 ≤ y ∧ y < base
  | 0, _, _, y, h => by cases h
  | n + 1, k, cell, y, h => by
    rcases List.mem_cons.mp h with rfl | h
    · exact dig_range hb _ _
    · exact rowGo_range hb n (k + 1) _ y h
theorem rowL_len (cell : Int) (n : Nat) (base : Int) : (rowL cell n base).length = n := rowGo_len ..
theorem rowL_range {base : Int} (hb : 0 < base) {cell : Int} {n : Nat} : ∀ y ∈ rowL cell n base, 0 ≤ y ∧ y < base := rowGo_range hb _ _ _
theorem row_turn {base : Int} (hb : 0 < base) (hb2 : base < 2 ^ 64) (cell : Int) (k : Nat) (acc : List Int) (hl : acc.length < 1000) (c1 : Cell) :
    lp__law_row_1 [.dat (.int cell), c1, .dat (.int base), .own (acc.map PyData.int), .dat (.int k), .un] = some (.nx [.dat (.int (nextc base cell)), c1, .dat (.int base), .own ((acc ++ [dig base cell k]).map PyData.int), .un, .un]) := by
  have hl' : (acc.map PyData.int).length < 100000 := by rw [List.length_map]; omega
  have hbn : base ≠ 0 := by omega
  have h13 : divOk 13 = true := by decide +kernel
  have hbd : divOk base = true := divOk_n (b := 64) hbn (by omega) (by decide)
  rw [List.map_append]
  unfold lp__law_row_1 dig nextc
  by_cases hc : (1000000000000000000 : Int) ≤ cell
  · rw [if_pos hc, if_pos hc]
    (repeat (first | (with_reducible apply hl' <;> first | omega | skip) | (with_reducible apply MV.seq_ok) | (with_reducible apply MV.then_nx) | (with_reducible apply MV.then_rt) | (with_reducible apply MV.ar_cons) | (with_reducible apply MV.ar_nil) | (with_reducible apply MV.ex_c) | (with_reducible apply MV.var_0) | (with_reducible apply MV.var_s) | (with_reducible apply MV.own_0) | (with_reducible apply MV.own_0d) | (with_reducible apply MV.own_s) | (with_reducible apply MV.ex_2) | (with_reducible apply MV.ex_call0) | (with_reducible apply MV.ex_fn) | (with_reducible apply MV.st_set) | (with_reducible apply MV.set_0) | (with_reducible apply MV.set_s) | (with_reducible apply MV.st_post) | (with_reducible apply MV.post_nx) | (with_reducible apply MV.post_rt) | (with_reducible apply MV.wipe_0) | (with_reducible apply MV.wipe_s) | (with_reducible apply MV.op_add') | (with_reducible apply MV.op_sub') | (with_reducible apply MV.dMul_ok; rotate_left) | (with_reducible apply MV.dDiv_ok; rotate_left) | (with_reducible apply MV.dMod_ok; rotate_left) | (with_reducible apply MV.op_ixL) | (with_reducible apply MV.op_ixT) | (with_reducible apply MV.at_0) | (with_reducible apply MV.fn_int) | (with_reducible apply MV.fn_abs) | (with_reducible apply MV.fn_len) | (with_reducible apply MV.fn_lenT) | (with_reducible apply MV.fn_tupL) | (with_reducible apply MV.fn_tupT) | (with_reducible apply MV.fn_lstL) | (with_reducible apply MV.fn_lstT) | (with_reducible apply MV.ex_tup) | (with_reducible apply MV.ex_lst) | (with_reducible apply MV.ex_l) | (with_reducible apply MV.len_0) | (with_reducible apply MV.len_s) | (with_reducible apply MV.st_ret) | (with_reducible apply MV.retO_0) | (with_reducible apply MV.retO_0d) | (with_reducible apply MV.retO_s) | (with_reducible apply MV.st_if) | (with_reducible apply MV.ite_tt) | (with_reducible apply MV.ite_ff) | (with_reducible apply MV.bo_as) | (with_reducible apply MV.bo_tru) | (with_reducible apply MV.bo_and) | (with_reducible apply MV.bo_or) | (with_reducible apply MV.bo_not) | (with_reducible apply MV.not_t) | (with_reducible apply MV.not_f) | (with_reducible apply MV.ex_and) | (with_reducible apply MV.ex_or) | (with_reducible apply MV.ex_not) | (with_reducible apply MV.ex_if) | (with_reducible apply MV.st_skip) | (with_reducible apply MV.st_drop) | (with_reducible apply MV.st_brk) | (with_reducible apply MV.st_cnt) | (with_reducible apply MV.st_setO) | (with_reducible apply MV.app_at) | (with_reducible apply MV.get_0) | (with_reducible apply MV.get_s) | (with_reducible apply MV.st_par) | (with_reducible apply MV.st_asg) | (with_reducible apply MV.tg_set) | (with_reducible apply MV.tg_tup) | (with_reducible apply MV.tg_cons) | (with_reducible apply MV.tg_nil) | (with_reducible apply MV.st_for) | (with_reducible apply MV.st_frz) | (with_reducible apply MV.put_at) | (with_reducible apply MV.src_seq) | (with_reducible apply MV.src_2) | (with_reducible apply MV.seq_l) | (with_reducible apply MV.seq_t) | (with_reducible apply MV.zip_ok) | (with_reducible apply MV.enum_ok) | (with_reducible apply MV.ex_1) | (with_reducible apply MV.ex_call) | (with_reducible apply MV.op_neg') | (with_reducible apply MV.op_lt') | (with_reducible apply MV.op_le') | (with_reducible apply MV.op_gt') | (with_reducible apply MV.op_ge') | (with_reducible apply MV.op_p18) | (with_reducible apply MV.op_p9) | (with_reducible apply MV.op_p30) | (with_reducible apply MV.op_eqI) | (with_reducible apply MV.op_neI) | (with_reducible apply MV.op_eqSS) | (with_reducible apply MV.op_neSS) | (with_reducible apply MV.op_eqS) | (with_reducible apply MV.op_neS) | (with_reducible apply MV.op_eqB) | (with_reducible apply MV.op_neB) | (with_reducible apply MV.fn_gcd) | (with_reducible apply MV.fn_intB) | (with_reducible apply MV.post_bk) | (with_reducible apply MV.post_ct) | (with_reducible apply MV.then_bk) | (with_reducible apply MV.then_ct) | (with_reducible apply MV.cut_ok) | (with_reducible apply MV.part_ok) | (with_reducible apply MV.part_no) | (with_reducible apply MV.then_ex) | (with_reducible apply MV.post_ex) | (with_reducible apply MV.st_raise) | (with_reducible apply MV.mk_err) | (with_reducible apply MV.err_int) | (with_reducible apply MV.err_non) | (with_reducible apply MV.st_ifX) | (with_reducible apply MV.ifX_ok) | (with_reducible apply MV.ifX_er) | (with_reducible apply MV.ex_2X) | (with_reducible apply MV.m2R_er) | (with_reducible apply MV.m2R_ok) | (with_reducible apply MV.ex_callX) | (with_reducible apply MV.st_try) | (with_reducible apply MV.try_nx) | (with_reducible apply MV.try_rt) | (with_reducible apply MV.try_ex) | (with_reducible apply MV.end_rt) | (with_reducible apply MV.end_nx) | (with_reducible apply MV.st_guard) | (with_reducible apply MV.fld_ok) | (with_reducible apply MV.isv_ok) | (with_reducible apply MV.some_rfl) | (refine MV.ite_t (by assumption) ?_) | (refine MV.ite_f (by assumption) ?_) | (exact (by assumption : _ = true)) | (refine MV.ite_dt (by omega) ?_) | (refine MV.ite_df (by omega) ?_) | (refine MV.ite_et (by omega) ?_) | (refine MV.ite_ef (by omega) ?_)))
    (all_goals first | assumption | exact mulOk_l (by decide) | exact mulOk_r (by decide) | exact mulOk_l (by omega) | exact mulOk_r (by omega) | exact divOk_n (b := 64) (by omega) (by omega) (by decide) | decide | omega | rfl | skip)
  · rw [if_neg hc, if_neg hc]
    have q1 := fmod_range (cell * 48271 + (k : Int) * 69621 + 12345) (b := 2147483647) (by decide)
    have q2 := fmod_range ((cell * 48271 + (k : Int) * 69621 + 12345).fmod 2147483647 * (cell * 48271 + (k : Int) * 69621 + 12345).fmod 2147483647 + 16807 * (k : Int) + 7) (b := 998244353) (by decide)
    (repeat (first | (with_reducible apply hl' <;> first | omega | skip) | (with_reducible apply MV.seq_ok) | (with_reducible apply MV.then_nx) | (with_reducible apply MV.then_rt) | (with_reducible apply MV.ar_cons) | (with_reducible apply MV.ar_nil) | (with_reducible apply MV.ex_c) | (with_reducible apply MV.var_0) | (with_reducible apply MV.var_s) | (with_reducible apply MV.own_0) | (with_reducible apply MV.own_0d) | (with_reducible apply MV.own_s) | (with_reducible apply MV.ex_2) | (with_reducible apply MV.ex_call0) | (with_reducible apply MV.ex_fn) | (with_reducible apply MV.st_set) | (with_reducible apply MV.set_0) | (with_reducible apply MV.set_s) | (with_reducible apply MV.st_post) | (with_reducible apply MV.post_nx) | (with_reducible apply MV.post_rt) | (with_reducible apply MV.wipe_0) | (with_reducible apply MV.wipe_s) | (with_reducible apply MV.op_add') | (with_reducible apply MV.op_sub') | (with_reducible apply MV.dMul_ok; rotate_left) | (with_reducible apply MV.dDiv_ok; rotate_left) | (with_reducible apply MV.dMod_ok; rotate_left) | (with_reducible apply MV.op_ixL) | (with_reducible apply MV.op_ixT) | (with_reducible apply MV.at_0) | (with_reducible apply MV.fn_int) | (with_reducible apply MV.fn_abs) | (with_reducible apply MV.fn_len) | (with_reducible apply MV.fn_lenT) | (with_reducible apply MV.fn_tupL) | (with_reducible apply MV.fn_tupT) | (with_reducible apply MV.fn_lstL) | (with_reducible apply MV.fn_lstT) | (with_reducible apply MV.ex_tup) | (with_reducible apply MV.ex_lst) | (with_reducible apply MV.ex_l) | (with_reducible apply MV.len_0) | (with_reducible apply MV.len_s) | (with_reducible apply MV.st_ret) | (with_reducible apply MV.retO_0) | (with_reducible apply MV.retO_0d) | (with_reducible apply MV.retO_s) | (with_reducible apply MV.st_if) | (with_reducible apply MV.ite_tt) | (with_reducible apply MV.ite_ff) | (with_reducible apply MV.bo_as) | (with_reducible apply MV.bo_tru) | (with_reducible apply MV.bo_and) | (with_reducible apply MV.bo_or) | (with_reducible apply MV.bo_not) | (with_reducible apply MV.not_t) | (with_reducible apply MV.not_f) | (with_reducible apply MV.ex_and) | (with_reducible apply MV.ex_or) | (with_reducible apply MV.ex_not) | (with_reducible apply MV.ex_if) | (with_reducible apply MV.st_skip) | (with_reducible apply MV.st_drop) | (with_reducible apply MV.st_brk) | (with_reducible apply MV.st_cnt) | (with_reducible apply MV.st_setO) | (with_reducible apply MV.app_at) | (with_reducible apply MV.get_0) | (with_reducible apply MV.get_s) | (with_reducible apply MV.st_par) | (with_reducible apply MV.st_asg) | (with_reducible apply MV.tg_set) | (with_reducible apply MV.tg_tup) | (with_reducible apply MV.tg_cons) | (with_reducible apply MV.tg_nil) | (with_reducible apply MV.st_for) | (with_reducible apply MV.st_frz) | (with_reducible apply MV.put_at) | (with_reducible apply MV.src_seq) | (with_reducible apply MV.src_2) | (with_reducible apply MV.seq_l) | (with_reducible apply MV.seq_t) | (with_reducible apply MV.zip_ok) | (with_reducible apply MV.enum_ok) | (with_reducible apply MV.ex_1) | (with_reducible apply MV.ex_call) | (with_reducible apply MV.op_neg') | (with_reducible apply MV.op_lt') | (with_reducible apply MV.op_le') | (with_reducible apply MV.op_gt') | (with_reducible apply MV.op_ge') | (with_reducible apply MV.op_p18) | (with_reducible apply MV.op_p9) | (with_reducible apply MV.op_p30) | (with_reducible apply MV.op_eqI) | (with_reducible apply MV.op_neI) | (with_reducible apply MV.op_eqSS) | (with_reducible apply MV.op_neSS) | (with_reducible apply MV.op_eqS) | (with_reducible apply MV.op_neS) | (with_reducible apply MV.op_eqB) | (with_reducible apply MV.op_neB) | (with_reducible apply MV.fn_gcd) | (with_reducible apply MV.fn_intB) | (with_reducible apply MV.post_bk) | (with_reducible apply MV.post_ct) | (with_reducible apply MV.then_bk) | (with_reducible apply MV.then_ct) | (with_reducible apply MV.cut_ok) | (with_reducible apply MV.part_ok) | (with_reducible apply MV.part_no) | (with_reducible apply MV.then_ex) | (with_reducible apply MV.post_ex) | (with_reducible apply MV.st_raise) | (with_reducible apply MV.mk_err) | (with_reducible apply MV.err_int) | (with_reducible apply MV.err_non) | (with_reducible apply MV.st_ifX) | (with_reducible apply MV.ifX_ok) | (with_reducible apply MV.ifX_er) | (with_reducible apply MV.ex_2X) | (with_reducible apply MV.m2R_er) | (with_reducible apply MV.m2R_ok) | (with_reducible apply MV.ex_callX) | (with_reducible apply MV.st_try) | (with_reducible apply MV.try_nx) | (with_reducible apply MV.try_rt) | (with_reducible apply MV.try_ex) | (with_reducible apply MV.end_rt) | (with_reducible apply MV.end_nx) | (with_reducible apply MV.st_guard) | (with_reducible apply MV.fld_ok) | (with_reducible apply MV.isv_ok) | (with_reducible apply MV.some_rfl) | (refine MV.ite_t (by assumption) ?_) | (refine MV.ite_f (by assumption) ?_) | (exact (by assumption : _ = true)) | (refine MV.ite_dt (by omega) ?_) | (refine MV.ite_df (by omega) ?_) | (refine MV.ite_et (by omega) ?_) | (refine MV.ite_ef (by omega) ?_)))
    (all_goals first | assumption | exact mulOk_l (by decide) | exact mulOk_r (by decide) | exact mulOk_l (by omega) | exact mulOk_r (by omega) | exact divOk_n (b := 64) (by omega) (by omega) (by decide) | decide | omega | rfl | skip)
theorem row_loop {base : Int} (hb : 0 < base) (hb2 : base < 2 ^ 64) (c1 : Cell) (n : Nat) : ∀ (cell : Int) (k0 : Nat) (acc : List Int), n + acc.length < 1000 →
    ∃ c', loopD (gSet 4) lp__law_row_1 ((List.range' k0 n).map fun (i : Nat) => PyData.int (i : Int)) [.dat (.int cell), c1, .dat (.int base), .own (acc.map PyData.int), .un, .un] =
      some (.nx [.dat (.int c'), c1, .dat (.int base), .own ((acc ++ rowGo base n k0 cell).map PyData.int), .un, .un]) := by
  induction n with
  | zero =>
    intro cell k0 acc _
    exact ⟨cell, by rw [rowGo, List.append_nil]; rfl⟩
  | succ n ih =>
    intro cell k0 acc h2
    obtain ⟨c', e⟩ := ih (nextc base cell) (k0 + 1) (acc ++ [dig base cell k0]) (by rw [List.length_append]; simp; omega)
    refine ⟨c', ?_⟩
    rw [List.range'_succ, List.map_cons]
    refine loop_cons rfl (row_turn hb hb2 cell k0 acc (by omega) c1) ?_
    rw [e, List.append_assoc]
    rfl
theorem row_at {base : Int} (hb : 0 < base) (hb2 : base < 2 ^ 64) (cell : Int) (n : Nat) (hn : n < 900) : m__law_row [.int cell, .int (n : Int), .int base] = some (.list ((rowL cell n base).map PyData.int)) := by
  obtain ⟨c', e⟩ := row_loop hb hb2 (.dat (.int n)) n cell 0 [] (by simp; omega)
  rw [List.nil_append, List.map_nil] at e
  rw [← List.range_eq_range'] at e
  (apply run_ok; case hl => exact rfl); (unfold b__law_row; simp only [List.map_cons, List.map_nil, List.replicate, List.cons_append, List.nil_append])
  (repeat (first | (with_reducible apply rng_nat <;> first | omega | skip) | (with_reducible apply e <;> first | omega | skip) | (with_reducible apply MV.seq_ok) | (with_reducible apply MV.then_nx) | (with_reducible apply MV.then_rt) | (with_reducible apply MV.ar_cons) | (with_reducible apply MV.ar_nil) | (with_reducible apply MV.ex_c) | (with_reducible apply MV.var_0) | (with_reducible apply MV.var_s) | (with_reducible apply MV.own_0) | (with_reducible apply MV.own_0d) | (with_reducible apply MV.own_s) | (with_reducible apply MV.ex_2) | (with_reducible apply MV.ex_call0) | (with_reducible apply MV.ex_fn) | (with_reducible apply MV.st_set) | (with_reducible apply MV.set_0) | (with_reducible apply MV.set_s) | (with_reducible apply MV.st_post) | (with_reducible apply MV.post_nx) | (with_reducible apply MV.post_rt) | (with_reducible apply MV.wipe_0) | (with_reducible apply MV.wipe_s) | (with_reducible apply MV.op_add') | (with_reducible apply MV.op_sub') | (with_reducible apply MV.dMul_ok; rotate_left) | (with_reducible apply MV.dDiv_ok; rotate_left) | (with_reducible apply MV.dMod_ok; rotate_left) | (with_reducible apply MV.op_ixL) | (with_reducible apply MV.op_ixT) | (with_reducible apply MV.at_0) | (with_reducible apply MV.fn_int) | (with_reducible apply MV.fn_abs) | (with_reducible apply MV.fn_len) | (with_reducible apply MV.fn_lenT) | (with_reducible apply MV.fn_tupL) | (with_reducible apply MV.fn_tupT) | (with_reducible apply MV.fn_lstL) | (with_reducible apply MV.fn_lstT) | (with_reducible apply MV.ex_tup) | (with_reducible apply MV.ex_lst) | (with_reducible apply MV.ex_l) | (with_reducible apply MV.len_0) | (with_reducible apply MV.len_s) | (with_reducible apply MV.st_ret) | (with_reducible apply MV.retO_0) | (with_reducible apply MV.retO_0d) | (with_reducible apply MV.retO_s) | (with_reducible apply MV.st_if) | (with_reducible apply MV.ite_tt) | (with_reducible apply MV.ite_ff) | (with_reducible apply MV.bo_as) | (with_reducible apply MV.bo_tru) | (with_reducible apply MV.bo_and) | (with_reducible apply MV.bo_or) | (with_reducible apply MV.bo_not) | (with_reducible apply MV.not_t) | (with_reducible apply MV.not_f) | (with_reducible apply MV.ex_and) | (with_reducible apply MV.ex_or) | (with_reducible apply MV.ex_not) | (with_reducible apply MV.ex_if) | (with_reducible apply MV.st_skip) | (with_reducible apply MV.st_drop) | (with_reducible apply MV.st_brk) | (with_reducible apply MV.st_cnt) | (with_reducible apply MV.st_setO) | (with_reducible apply MV.app_at) | (with_reducible apply MV.get_0) | (with_reducible apply MV.get_s) | (with_reducible apply MV.st_par) | (with_reducible apply MV.st_asg) | (with_reducible apply MV.tg_set) | (with_reducible apply MV.tg_tup) | (with_reducible apply MV.tg_cons) | (with_reducible apply MV.tg_nil) | (with_reducible apply MV.st_for) | (with_reducible apply MV.st_frz) | (with_reducible apply MV.put_at) | (with_reducible apply MV.src_seq) | (with_reducible apply MV.src_2) | (with_reducible apply MV.seq_l) | (with_reducible apply MV.seq_t) | (with_reducible apply MV.zip_ok) | (with_reducible apply MV.enum_ok) | (with_reducible apply MV.ex_1) | (with_reducible apply MV.ex_call) | (with_reducible apply MV.op_neg') | (with_reducible apply MV.op_lt') | (with_reducible apply MV.op_le') | (with_reducible apply MV.op_gt') | (with_reducible apply MV.op_ge') | (with_reducible apply MV.op_p18) | (with_reducible apply MV.op_p9) | (with_reducible apply MV.op_p30) | (with_reducible apply MV.op_eqI) | (with_reducible apply MV.op_neI) | (with_reducible apply MV.op_eqSS) | (with_reducible apply MV.op_neSS) | (with_reducible apply MV.op_eqS) | (with_reducible apply MV.op_neS) | (with_reducible apply MV.op_eqB) | (with_reducible apply MV.op_neB) | (with_reducible apply MV.fn_gcd) | (with_reducible apply MV.fn_intB) | (with_reducible apply MV.post_bk) | (with_reducible apply MV.post_ct) | (with_reducible apply MV.then_bk) | (with_reducible apply MV.then_ct) | (with_reducible apply MV.cut_ok) | (with_reducible apply MV.part_ok) | (with_reducible apply MV.part_no) | (with_reducible apply MV.then_ex) | (with_reducible apply MV.post_ex) | (with_reducible apply MV.st_raise) | (with_reducible apply MV.mk_err) | (with_reducible apply MV.err_int) | (with_reducible apply MV.err_non) | (with_reducible apply MV.st_ifX) | (with_reducible apply MV.ifX_ok) | (with_reducible apply MV.ifX_er) | (with_reducible apply MV.ex_2X) | (with_reducible apply MV.m2R_er) | (with_reducible apply MV.m2R_ok) | (with_reducible apply MV.ex_callX) | (with_reducible apply MV.st_try) | (with_reducible apply MV.try_nx) | (with_reducible apply MV.try_rt) | (with_reducible apply MV.try_ex) | (with_reducible apply MV.end_rt) | (with_reducible apply MV.end_nx) | (with_reducible apply MV.st_guard) | (with_reducible apply MV.fld_ok) | (with_reducible apply MV.isv_ok) | (with_reducible apply MV.some_rfl) | (refine MV.ite_t (by assumption) ?_) | (refine MV.ite_f (by assumption) ?_) | (exact (by assumption : _ = true)) | (refine MV.ite_dt (by omega) ?_) | (refine MV.ite_df (by omega) ?_) | (refine MV.ite_et (by omega) ?_) | (refine MV.ite_ef (by omega) ?_)))
  rfl

/-! the greatest divisor by division -/
/-- pairs (a fibonacci number, the next) -/
def fibs : Nat → Nat × Nat
  | 0 => (0, 1)
  | n + 1 => ((fibs n).2, (fibs n).1 + (fibs n).2)
/-- n turns of the division: the answer if the end was met -/
def eu : Nat → Nat → Nat → Option Nat
  | 0, a, b => if a = 0 then some b else none
  | n + 1, a, b => if a = 0 then some b else eu n (b % a) a
theorem eu_gcd : ∀ (n a b g : Nat), eu n a b = some g → g = Nat.gcd a b
  | 0, a, b, g, h => by
    unfold eu at h
    split at h
    · rename_i h0
      subst h0
      cases h
      rw [Nat.gcd_zero_left]
    · cases h
  | n + 1, a, b, g, h => by
    unfold eu at h
    split at h
    · rename_i h0
      subst h0
      cases h
      rw [Nat.gcd_zero_left]
    · rw [eu_gcd n _ _ g h]
      exact (Nat.gcd_rec a b).symm
theorem eu_long : ∀ (n a b : Nat), a < b → eu n a b = none → (fibs (n + 1)).1 ≤ a ∧ (fibs (n + 1)).2 ≤ b
  | 0, a, b, hab, h => by
    unfold eu at h
    split at h
    · cases h
    · show 1 ≤ a ∧ 0 + 1 ≤ b
      omega
  | n + 1, a, b, hab, h => by
    unfold eu at h
    split at h
    · cases h
    · rename_i h0
      have hr : b % a < a := Nat.mod_lt _ (by omega)
      obtain ⟨h1, h2⟩ := eu_long n (b % a) a hr h
      have hq : a + b % a ≤ b := by
        have e := Nat.div_add_mod b a
        have p : 1 ≤ b / a := Nat.div_pos (by omega) (by omega)
        have m : a * 1 ≤ a * (b / a) := Nat.mul_le_mul_left a p
        omega
      show (fibs (n + 1)).2 ≤ a ∧ (fibs (n + 1)).1 + (fibs (n + 1)).2 ≤ b
      omega
/-- below that size the end is met -/
theorem eu_some {n a b : Nat} (h : b < (fibs (n + 1)).1 ∨ a ≤ (fibs (n + 1)).1) : eu (n + 1) a b = some (Nat.gcd a b) := by
  cases e : eu (n + 1) a b with
  | some g => rw [eu_gcd _ _ _ _ e]
  | none =>
    unfold eu at e
    split at e
    · cases e
    · rename_i h0
      have hr : b % a < a := Nat.mod_lt _ (by omega)
      have hb : b % a ≤ b := Nat.mod_le _ _
      obtain ⟨h1, h2⟩ := eu_long n (b % a) a hr e
      omega
theorem fib_big : 2 ^ 250 ≤ (fibs 400).1 := by decide +kernel
theorem fdiv_sub {a b : Nat} (ha : a ≠ 0) : (b : Int) - (b : Int).fdiv (a : Int) * (a : Int) = ((b % a : Nat) : Int) := by
  rw [Int.fdiv_eq_ediv_of_nonneg _ (by omega)]
  have h := Int.mul_ediv_add_emod (b : Int) (a : Int)
  rw [Int.mul_comm] at h
  have h2 : ((b % a : Nat) : Int) = (b : Int) % (a : Int) := Int.natCast_emod b a
  omega
theorem common_turn {B a b : Nat} (hB : B ≤ 4000) (ha : a ≠ 0) (hs : a < 2 ^ B ∧ b < 2 ^ B) (k : D) :
    lp__law_common_1 [.dat (.int (a : Int)), .dat (.int (b : Int)), .dat k] = some (.nx [.dat (.int ((b % a : Nat) : Int)), .dat (.int (a : Int)), .un]) := by
  have d1 : divOk (a : Int) = true := divOk_n (b := B) (by omega) (by simpa using hs.1) (by omega)
  have m1' : mulOk ((b : Int).fdiv (a : Int)) (a : Int) = true := by
    rw [cast_fdiv]
    exact mulSm (a := B) (b := B) (by rw [Int.natAbs_natCast]; exact Nat.lt_of_le_of_lt (Nat.div_le_self b a) hs.2) (by simpa using hs.1) (by omega)
  rw [← fdiv_sub ha]
  unfold lp__law_common_1
  (repeat (first | (with_reducible apply d1 <;> first | omega | skip) | (with_reducible apply m1' <;> first | omega | skip) | (with_reducible apply MV.seq_ok) | (with_reducible apply MV.then_nx) | (with_reducible apply MV.then_rt) | (with_reducible apply MV.ar_cons) | (with_reducible apply MV.ar_nil) | (with_reducible apply MV.ex_c) | (with_reducible apply MV.var_0) | (with_reducible apply MV.var_s) | (with_reducible apply MV.own_0) | (with_reducible apply MV.own_0d) | (with_reducible apply MV.own_s) | (with_reducible apply MV.ex_2) | (with_reducible apply MV.ex_call0) | (with_reducible apply MV.ex_fn) | (with_reducible apply MV.st_set) | (with_reducible apply MV.set_0) | (with_reducible apply MV.set_s) | (with_reducible apply MV.st_post) | (with_reducible apply MV.post_nx) | (with_reducible apply MV.post_rt) | (with_reducible apply MV.wipe_0) | (with_reducible apply MV.wipe_s) | (with_reducible apply MV.op_add') | (with_reducible apply MV.op_sub') | (with_reducible apply MV.dMul_ok; rotate_left) | (with_reducible apply MV.dDiv_ok; rotate_left) | (with_reducible apply MV.dMod_ok; rotate_left) | (with_reducible apply MV.op_ixL) | (with_reducible apply MV.op_ixT) | (with_reducible apply MV.at_0) | (with_reducible apply MV.fn_int) | (with_reducible apply MV.fn_abs) | (with_reducible apply MV.fn_len) | (with_reducible apply MV.fn_lenT) | (with_reducible apply MV.fn_tupL) | (with_reducible apply MV.fn_tupT) | (with_reducible apply MV.fn_lstL) | (with_reducible apply MV.fn_lstT) | (with_reducible apply MV.ex_tup) | (with_reducible apply MV.ex_lst) | (with_reducible apply MV.ex_l) | (with_reducible apply MV.len_0) | (with_reducible apply MV.len_s) | (with_reducible apply MV.st_ret) | (with_reducible apply MV.retO_0) | (with_reducible apply MV.retO_0d) | (with_reducible apply MV.retO_s) | (with_reducible apply MV.st_if) | (with_reducible apply MV.ite_tt) | (with_reducible apply MV.ite_ff) | (with_reducible apply MV.bo_as) | (with_reducible apply MV.bo_tru) | (with_reducible apply MV.bo_and) | (with_reducible apply MV.bo_or) | (with_reducible apply MV.bo_not) | (with_reducible apply MV.not_t) | (with_reducible apply MV.not_f) | (with_reducible apply MV.ex_and) | (with_reducible apply MV.ex_or) | (with_reducible apply MV.ex_not) | (with_reducible apply MV.ex_if) | (with_reducible apply MV.st_skip) | (with_reducible apply MV.st_drop) | (with_reducible apply MV.st_brk) | (with_reducible apply MV.st_cnt) | (with_reducible apply MV.st_setO) | (with_reducible apply MV.app_at) | (with_reducible apply MV.get_0) | (with_reducible apply MV.get_s) | (with_reducible apply MV.st_par) | (with_reducible apply MV.st_asg) | (with_reducible apply MV.tg_set) | (with_reducible apply MV.tg_tup) | (with_reducible apply MV.tg_cons) | (with_reducible apply MV.tg_nil) | (with_reducible apply MV.st_for) | (with_reducible apply MV.st_frz) | (with_reducible apply MV.put_at) | (with_reducible apply MV.src_seq) | (with_reducible apply MV.src_2) | (with_reducible apply MV.seq_l) | (with_reducible apply MV.seq_t) | (with_reducible apply MV.zip_ok) | (with_reducible apply MV.enum_ok) | (with_reducible apply MV.ex_1) | (with_reducible apply MV.ex_call) | (with_reducible apply MV.op_neg') | (with_reducible apply MV.op_lt') | (with_reducible apply MV.op_le') | (with_reducible apply MV.op_gt') | (with_reducible apply MV.op_ge') | (with_reducible apply MV.op_p18) | (with_reducible apply MV.op_p9) | (with_reducible apply MV.op_p30) | (with_reducible apply MV.op_eqI) | (with_reducible apply MV.op_neI) | (with_reducible apply MV.op_eqSS) | (with_reducible apply MV.op_neSS) | (with_reducible apply MV.op_eqS) | (with_reducible apply MV.op_neS) | (with_reducible apply MV.op_eqB) | (with_reducible apply MV.op_neB) | (with_reducible apply MV.fn_gcd) | (with_reducible apply MV.fn_intB) | (with_reducible apply MV.post_bk) | (with_reducible apply MV.post_ct) | (with_reducible apply MV.then_bk) | (with_reducible apply MV.then_ct) | (with_reducible apply MV.cut_ok) | (with_reducible apply MV.part_ok) | (with_reducible apply MV.part_no) | (with_reducible apply MV.then_ex) | (with_reducible apply MV.post_ex) | (with_reducible apply MV.st_raise) | (with_reducible apply MV.mk_err) | (with_reducible apply MV.err_int) | (with_reducible apply MV.err_non) | (with_reducible apply MV.st_ifX) | (with_reducible apply MV.ifX_ok) | (with_reducible apply MV.ifX_er) | (with_reducible apply MV.ex_2X) | (with_reducible apply MV.m2R_er) | (with_reducible apply MV.m2R_ok) | (with_reducible apply MV.ex_callX) | (with_reducible apply MV.st_try) | (with_reducible apply MV.try_nx) | (with_reducible apply MV.try_rt) | (with_reducible apply MV.try_ex) | (with_reducible apply MV.end_rt) | (with_reducible apply MV.end_nx) | (with_reducible apply MV.st_guard) | (with_reducible apply MV.fld_ok) | (with_reducible apply MV.isv_ok) | (with_reducible apply MV.some_rfl) | (refine MV.ite_t (by assumption) ?_) | (refine MV.ite_f (by assumption) ?_) | (exact (by assumption : _ = true)) | (refine MV.ite_dt (by omega) ?_) | (refine MV.ite_df (by omega) ?_) | (refine MV.ite_et (by omega) ?_) | (refine MV.ite_ef (by omega) ?_)))
theorem common_end {b : Nat} (k : D) : lp__law_common_1 [.dat (.int 0), .dat (.int (b : Int)), .dat k] = some (.rt (.int (b : Int))) := by
  unfold lp__law_common_1
  (repeat (first | (with_reducible apply MV.seq_ok) | (with_reducible apply MV.then_nx) | (with_reducible apply MV.then_rt) | (with_reducible apply MV.ar_cons) | (with_reducible apply MV.ar_nil) | (with_reducible apply MV.ex_c) | (with_reducible apply MV.var_0) | (with_reducible apply MV.var_s) | (with_reducible apply MV.own_0) | (with_reducible apply MV.own_0d) | (with_reducible apply MV.own_s) | (with_reducible apply MV.ex_2) | (with_reducible apply MV.ex_call0) | (with_reducible apply MV.ex_fn) | (with_reducible apply MV.st_set) | (with_reducible apply MV.set_0) | (with_reducible apply MV.set_s) | (with_reducible apply MV.st_post) | (with_reducible apply MV.post_nx) | (with_reducible apply MV.post_rt) | (with_reducible apply MV.wipe_0) | (with_reducible apply MV.wipe_s) | (with_reducible apply MV.op_add') | (with_reducible apply MV.op_sub') | (with_reducible apply MV.dMul_ok; rotate_left) | (with_reducible apply MV.dDiv_ok; rotate_left) | (with_reducible apply MV.dMod_ok; rotate_left) | (with_reducible apply MV.op_ixL) | (with_reducible apply MV.op_ixT) | (with_reducible apply MV.at_0) | (with_reducible apply MV.fn_int) | (with_reducible apply MV.fn_abs) | (with_reducible apply MV.fn_len) | (with_reducible apply MV.fn_lenT) | (with_reducible apply MV.fn_tupL) | (with_reducible apply MV.fn_tupT) | (with_reducible apply MV.fn_lstL) | (with_reducible apply MV.fn_lstT) | (with_reducible apply MV.ex_tup) | (with_reducible apply MV.ex_lst) | (with_reducible apply MV.ex_l) | (with_reducible apply MV.len_0) | (with_reducible apply MV.len_s) | (with_reducible apply MV.st_ret) | (with_reducible apply MV.retO_0) | (with_reducible apply MV.retO_0d) | (with_reducible apply MV.retO_s) | (with_reducible apply MV.st_if) | (with_reducible apply MV.ite_tt) | (with_reducible apply MV.ite_ff) | (with_reducible apply MV.bo_as) | (with_reducible apply MV.bo_tru) | (with_reducible apply MV.bo_and) | (with_reducible apply MV.bo_or) | (with_reducible apply MV.bo_not) | (with_reducible apply MV.not_t) | (with_reducible apply MV.not_f) | (with_reducible apply MV.ex_and) | (with_reducible apply MV.ex_or) | (with_reducible apply MV.ex_not) | (with_reducible apply MV.ex_if) | (with_reducible apply MV.st_skip) | (with_reducible apply MV.st_drop) | (with_reducible apply MV.st_brk) | (with_reducible apply MV.st_cnt) | (with_reducible apply MV.st_setO) | (with_reducible apply MV.app_at) | (with_reducible apply MV.get_0) | (with_reducible apply MV.get_s) | (with_reducible apply MV.st_par) | (with_reducible apply MV.st_asg) | (with_reducible apply MV.tg_set) | (with_reducible apply MV.tg_tup) | (with_reducible apply MV.tg_cons) | (with_reducible apply MV.tg_nil) | (with_reducible apply MV.st_for) | (with_reducible apply MV.st_frz) | (with_reducible apply MV.put_at) | (with_reducible apply MV.src_seq) | (with_reducible apply MV.src_2) | (with_reducible apply MV.seq_l) | (with_reducible apply MV.seq_t) | (with_reducible apply MV.zip_ok) | (with_reducible apply MV.enum_ok) | (with_reducible apply MV.ex_1) | (with_reducible apply MV.ex_call) | (with_reducible apply MV.op_neg') | (with_reducible apply MV.op_lt') | (with_reducible apply MV.op_le') | (with_reducible apply MV.op_gt') | (with_reducible apply MV.op_ge') | (with_reducible apply MV.op_p18) | (with_reducible apply MV.op_p9) | (with_reducible apply MV.op_p30) | (with_reducible apply MV.op_eqI) | (with_reducible apply MV.op_neI) | (with_reducible apply MV.op_eqSS) | (with_reducible apply MV.op_neSS) | (with_reducible apply MV.op_eqS) | (with_reducible apply MV.op_neS) | (with_reducible apply MV.op_eqB) | (with_reducible apply MV.op_neB) | (with_reducible apply MV.fn_gcd) | (with_reducible apply MV.fn_intB) | (with_reducible apply MV.post_bk) | (with_reducible apply MV.post_ct) | (with_reducible apply MV.then_bk) | (with_reducible apply MV.then_ct) | (with_reducible apply MV.cut_ok) | (with_reducible apply MV.part_ok) | (with_reducible apply MV.part_no) | (with_reducible apply MV.then_ex) | (with_reducible apply MV.post_ex) | (with_reducible apply MV.st_raise) | (with_reducible apply MV.mk_err) | (with_reducible apply MV.err_int) | (with_reducible apply MV.err_non) | (with_reducible apply MV.st_ifX) | (with_reducible apply MV.ifX_ok) | (with_reducible apply MV.ifX_er) | (with_reducible apply MV.ex_2X) | (with_reducible apply MV.m2R_er) | (with_reducible apply MV.m2R_ok) | (with_reducible apply MV.ex_callX) | (with_reducible apply MV.st_try) | (with_reducible apply MV.try_nx) | (with_reducible apply MV.try_rt) | (with_reducible apply MV.try_ex) | (with_reducible apply MV.end_rt) | (with_reducible apply MV.end_nx) | (with_reducible apply MV.st_guard) | (with_reducible apply MV.fld_ok) | (with_reducible apply MV.isv_ok) | (with_reducible apply MV.some_rfl) | (refine MV.ite_t (by assumption) ?_) | (refine MV.ite_f (by assumption) ?_) | (exact (by assumption : _ = true)) | (refine MV.ite_dt (by omega) ?_) | (refine MV.ite_df (by omega) ?_) | (refine MV.ite_et (by omega) ?_) | (refine MV.ite_ef (by omega) ?_)))
theorem common_loop {B : Nat} (hB : B ≤ 4000) : ∀ (n : Nat) (ds : List D) (a b g : Nat), ds.length = n → a < 2 ^ B → b < 2 ^ B → eu n a b = some g →
    loopD (gSet 2) lp__law_common_1 ds [.dat (.int (a : Int)), .dat (.int (b : Int)), .un] = some (.nx [.dat (.int 0), .dat (.int (g : Int)), .un]) ∨ loopD (gSet 2) lp__law_common_1 ds [.dat (.int (a : Int)), .dat (.int (b : Int)), .un] = some (.rt (.int (g : Int)))
  | 0, [], a, b, g, _, ha, hb, h => by
    unfold eu at h
    split at h
    · rename_i h0
      subst h0
      cases h
      exact .inl rfl
    · cases h
  | 0, _ :: _, _, _, _, hl, _, _, _ => by cases hl
  | n + 1, [], _, _, _, hl, _, _, _ => by cases hl
  | n + 1, d :: ds, a, b, g, hl, ha, hb, h => by
    unfold eu at h
    split at h
    · rename_i h0
      subst h0
      cases h
      exact .inr (loop_rt rfl (common_end _))
    · rename_i h0
      have hm : b % a < 2 ^ B := Nat.lt_of_le_of_lt (Nat.mod_le b a) hb
      rcases common_loop hB n ds (b % a) a g (by simpa using hl) hm ha h with r | r
      · exact .inl (loop_cons rfl (common_turn hB h0 ⟨ha, hb⟩ _) r)
      · exact .inr (loop_cons rfl (common_turn hB h0 ⟨ha, hb⟩ _) r)
/-- the law's greatest common divisor: of a number and one that is not below 0 -/
theorem common_at {B : Nat} (hB : B ≤ 4000) {a : Int} {b : Nat} (ha : a.natAbs < 2 ^ B) (hb : b < 2 ^ B) (h : b < 2 ^ 250 ∨ a.natAbs < 2 ^ 250) : m__law_common [.int a, .int (b : Int)] = some (.int ((Nat.gcd a.natAbs b : Nat) : Int)) := by
  have e := eu_some (n := 399) (a := a.natAbs) (b := b) (by
    rcases h with h | h
    · exact .inl (Nat.lt_of_lt_of_le h fib_big)
    · exact .inr (Nat.le_of_lt (Nat.lt_of_lt_of_le h fib_big)))
  have r := common_loop hB 400 ((List.range 400).map fun (k : Nat) => PyData.int (k : Int)) a.natAbs b _ (by rw [List.length_map, List.length_range]) ha hb e
  have r400 : rng1 [.int 400] = some ((List.range 400).map fun (k : Nat) => PyData.int (k : Int)) := rng_int rfl (by decide)
  rcases r with r | r
  · (apply run_ok; case hl => exact rfl); (unfold b__law_common; simp only [List.map_cons, List.map_nil, List.replicate, List.cons_append, List.nil_append])
    (repeat (first | (with_reducible apply r400 <;> first | omega | skip) | (with_reducible apply r <;> first | omega | skip) | (with_reducible apply MV.seq_ok) | (with_reducible apply MV.then_nx) | (with_reducible apply MV.then_rt) | (with_reducible apply MV.ar_cons) | (with_reducible apply MV.ar_nil) | (with_reducible apply MV.ex_c) | (with_reducible apply MV.var_0) | (with_reducible apply MV.var_s) | (with_reducible apply MV.own_0) | (with_reducible apply MV.own_0d) | (with_reducible apply MV.own_s) | (with_reducible apply MV.ex_2) | (with_reducible apply MV.ex_call0) | (with_reducible apply MV.ex_fn) | (with_reducible apply MV.st_set) | (with_reducible apply MV.set_0) | (with_reducible apply MV.set_s) | (with_reducible apply MV.st_post) | (with_reducible apply MV.post_nx) | (with_reducible apply MV.post_rt) | (with_reducible apply MV.wipe_0) | (with_reducible apply MV.wipe_s) | (with_reducible apply MV.op_add') | (with_reducible apply MV.op_sub') | (with_reducible apply MV.dMul_ok; rotate_left) | (with_reducible apply MV.dDiv_ok; rotate_left) | (with_reducible apply MV.dMod_ok; rotate_left) | (with_reducible apply MV.op_ixL) | (with_reducible apply MV.op_ixT) | (with_reducible apply MV.at_0) | (with_reducible apply MV.fn_int) | (with_reducible apply MV.fn_abs) | (with_reducible apply MV.fn_len) | (with_reducible apply MV.fn_lenT) | (with_reducible apply MV.fn_tupL) | (with_reducible apply MV.fn_tupT) | (with_reducible apply MV.fn_lstL) | (with_reducible apply MV.fn_lstT) | (with_reducible apply MV.ex_tup) | (with_reducible apply MV.ex_lst) | (with_reducible apply MV.ex_l) | (with_reducible apply MV.len_0) | (with_reducible apply MV.len_s) | (with_reducible apply MV.st_ret) | (with_reducible apply MV.retO_0) | (with_reducible apply MV.retO_0d) | (with_reducible apply MV.retO_s) | (with_reducible apply MV.st_if) | (with_reducible apply MV.ite_tt) | (with_reducible apply MV.ite_ff) | (with_reducible apply MV.bo_as) | (with_reducible apply MV.bo_tru) | (with_reducible apply MV.bo_and) | (with_reducible apply MV.bo_or) | (with_reducible apply MV.bo_not) | (with_reducible apply MV.not_t) | (with_reducible apply MV.not_f) | (with_reducible apply MV.ex_and) | (with_reducible apply MV.ex_or) | (with_reducible apply MV.ex_not) | (with_reducible apply MV.ex_if) | (with_reducible apply MV.st_skip) | (with_reducible apply MV.st_drop) | (with_reducible apply MV.st_brk) | (with_reducible apply MV.st_cnt) | (with_reducible apply MV.st_setO) | (with_reducible apply MV.app_at) | (with_reducible apply MV.get_0) | (with_reducible apply MV.get_s) | (with_reducible apply MV.st_par) | (with_reducible apply MV.st_asg) | (with_reducible apply MV.tg_set) | (with_reducible apply MV.tg_tup) | (with_reducible apply MV.tg_cons) | (with_reducible apply MV.tg_nil) | (with_reducible apply MV.st_for) | (with_reducible apply MV.st_frz) | (with_reducible apply MV.put_at) | (with_reducible apply MV.src_seq) | (with_reducible apply MV.src_2) | (with_reducible apply MV.seq_l) | (with_reducible apply MV.seq_t) | (with_reducible apply MV.zip_ok) | (with_reducible apply MV.enum_ok) | (with_reducible apply MV.ex_1) | (with_reducible apply MV.ex_call) | (with_reducible apply MV.op_neg') | (with_reducible apply MV.op_lt') | (with_reducible apply MV.op_le') | (with_reducible apply MV.op_gt') | (with_reducible apply MV.op_ge') | (with_reducible apply MV.op_p18) | (with_reducible apply MV.op_p9) | (with_reducible apply MV.op_p30) | (with_reducible apply MV.op_eqI) | (with_reducible apply MV.op_neI) | (with_reducible apply MV.op_eqSS) | (with_reducible apply MV.op_neSS) | (with_reducible apply MV.op_eqS) | (with_reducible apply MV.op_neS) | (with_reducible apply MV.op_eqB) | (with_reducible apply MV.op_neB) | (with_reducible apply MV.fn_gcd) | (with_reducible apply MV.fn_intB) | (with_reducible apply MV.post_bk) | (with_reducible apply MV.post_ct) | (with_reducible apply MV.then_bk) | (with_reducible apply MV.then_ct) | (with_reducible apply MV.cut_ok) | (with_reducible apply MV.part_ok) | (with_reducible apply MV.part_no) | (with_reducible apply MV.then_ex) | (with_reducible apply MV.post_ex) | (with_reducible apply MV.st_raise) | (with_reducible apply MV.mk_err) | (with_reducible apply MV.err_int) | (with_reducible apply MV.err_non) | (with_reducible apply MV.st_ifX) | (with_reducible apply MV.ifX_ok) | (with_reducible apply MV.ifX_er) | (with_reducible apply MV.ex_2X) | (with_reducible apply MV.m2R_er) | (with_reducible apply MV.m2R_ok) | (with_reducible apply MV.ex_callX) | (with_reducible apply MV.st_try) | (with_reducible apply MV.try_nx) | (with_reducible apply MV.try_rt) | (with_reducible apply MV.try_ex) | (with_reducible apply MV.end_rt) | (with_reducible apply MV.end_nx) | (with_reducible apply MV.st_guard) | (with_reducible apply MV.fld_ok) | (with_reducible apply MV.isv_ok) | (with_reducible apply MV.some_rfl) | (refine MV.ite_t (by assumption) ?_) | (refine MV.ite_f (by assumption) ?_) | (exact (by assumption : _ = true)) | (refine MV.ite_dt (by omega) ?_) | (refine MV.ite_df (by omega) ?_) | (refine MV.ite_et (by omega) ?_) | (refine MV.ite_ef (by omega) ?_)))
    rfl
  · (apply run_ok; case hl => exact rfl); (unfold b__law_common; simp only [List.map_cons, List.map_nil, List.replicate, List.cons_append, List.nil_append])
    (repeat (first | (with_reducible apply r400 <;> first | omega | skip) | (with_reducible apply r <;> first | omega | skip) | (with_reducible apply MV.seq_ok) | (with_reducible apply MV.then_nx) | (with_reducible apply MV.then_rt) | (with_reducible apply MV.ar_cons) | (with_reducible apply MV.ar_nil) | (with_reducible apply MV.ex_c) | (with_reducible apply MV.var_0) | (with_reducible apply MV.var_s) | (with_reducible apply MV.own_0) | (with_reducible apply MV.own_0d) | (with_reducible apply MV.own_s) | (with_reducible apply MV.ex_2) | (with_reducible apply MV.ex_call0) | (with_reducible apply MV.ex_fn) | (with_reducible apply MV.st_set) | (with_reducible apply MV.set_0) | (with_reducible apply MV.set_s) | (with_reducible apply MV.st_post) | (with_reducible apply MV.post_nx) | (with_reducible apply MV.post_rt) | (with_reducible apply MV.wipe_0) | (with_reducible apply MV.wipe_s) | (with_reducible apply MV.op_add') | (with_reducible apply MV.op_sub') | (with_reducible apply MV.dMul_ok; rotate_left) | (with_reducible apply MV.dDiv_ok; rotate_left) | (with_reducible apply MV.dMod_ok; rotate_left) | (with_reducible apply MV.op_ixL) | (with_reducible apply MV.op_ixT) | (with_reducible apply MV.at_0) | (with_reducible apply MV.fn_int) | (with_reducible apply MV.fn_abs) | (with_reducible apply MV.fn_len) | (with_reducible apply MV.fn_lenT) | (with_reducible apply MV.fn_tupL) | (with_reducible apply MV.fn_tupT) | (with_reducible apply MV.fn_lstL) | (with_reducible apply MV.fn_lstT) | (with_reducible apply MV.ex_tup) | (with_reducible apply MV.ex_lst) | (with_reducible apply MV.ex_l) | (with_reducible apply MV.len_0) | (with_reducible apply MV.len_s) | (with_reducible apply MV.st_ret) | (with_reducible apply MV.retO_0) | (with_reducible apply MV.retO_0d) | (with_reducible apply MV.retO_s) | (with_reducible apply MV.st_if) | (with_reducible apply MV.ite_tt) | (with_reducible apply MV.ite_ff) | (with_reducible apply MV.bo_as) | (with_reducible apply MV.bo_tru) | (with_reducible apply MV.bo_and) | (with_reducible apply MV.bo_or) | (with_reducible apply MV.bo_not) | (with_reducible apply MV.not_t) | (with_reducible apply MV.not_f) | (with_reducible apply MV.ex_and) | (with_reducible apply MV.ex_or) | (with_reducible apply MV.ex_not) | (with_reducible apply MV.ex_if) | (with_reducible apply MV.st_skip) | (with_reducible apply MV.st_drop) | (with_reducible apply MV.st_brk) | (with_reducible apply MV.st_cnt) | (with_reducible apply MV.st_setO) | (with_reducible apply MV.app_at) | (with_reducible apply MV.get_0) | (with_reducible apply MV.get_s) | (with_reducible apply MV.st_par) | (with_reducible apply MV.st_asg) | (with_reducible apply MV.tg_set) | (with_reducible apply MV.tg_tup) | (with_reducible apply MV.tg_cons) | (with_reducible apply MV.tg_nil) | (with_reducible apply MV.st_for) | (with_reducible apply MV.st_frz) | (with_reducible apply MV.put_at) | (with_reducible apply MV.src_seq) | (with_reducible apply MV.src_2) | (with_reducible apply MV.seq_l) | (with_reducible apply MV.seq_t) | (with_reducible apply MV.zip_ok) | (with_reducible apply MV.enum_ok) | (with_reducible apply MV.ex_1) | (with_reducible apply MV.ex_call) | (with_reducible apply MV.op_neg') | (with_reducible apply MV.op_lt') | (with_reducible apply MV.op_le') | (with_reducible apply MV.op_gt') | (with_reducible apply MV.op_ge') | (with_reducible apply MV.op_p18) | (with_reducible apply MV.op_p9) | (with_reducible apply MV.op_p30) | (with_reducible apply MV.op_eqI) | (with_reducible apply MV.op_neI) | (with_reducible apply MV.op_eqSS) | (with_reducible apply MV.op_neSS) | (with_reducible apply MV.op_eqS) | (with_reducible apply MV.op_neS) | (with_reducible apply MV.op_eqB) | (with_reducible apply MV.op_neB) | (with_reducible apply MV.fn_gcd) | (with_reducible apply MV.fn_intB) | (with_reducible apply MV.post_bk) | (with_reducible apply MV.post_ct) | (with_reducible apply MV.then_bk) | (with_reducible apply MV.then_ct) | (with_reducible apply MV.cut_ok) | (with_reducible apply MV.part_ok) | (with_reducible apply MV.part_no) | (with_reducible apply MV.then_ex) | (with_reducible apply MV.post_ex) | (with_reducible apply MV.st_raise) | (with_reducible apply MV.mk_err) | (with_reducible apply MV.err_int) | (with_reducible apply MV.err_non) | (with_reducible apply MV.st_ifX) | (with_reducible apply MV.ifX_ok) | (with_reducible apply MV.ifX_er) | (with_reducible apply MV.ex_2X) | (with_reducible apply MV.m2R_er) | (with_reducible apply MV.m2R_ok) | (with_reducible apply MV.ex_callX) | (with_reducible apply MV.st_try) | (with_reducible apply MV.try_nx) | (with_reducible apply MV.try_rt) | (with_reducible apply MV.try_ex) | (with_reducible apply MV.end_rt) | (with_reducible apply MV.end_nx) | (with_reducible apply MV.st_guard) | (with_reducible apply MV.fld_ok) | (with_reducible apply MV.isv_ok) | (with_reducible apply MV.some_rfl) | (refine MV.ite_t (by assumption) ?_) | (refine MV.ite_f (by assumption) ?_) | (exact (by assumption : _ = true)) | (refine MV.ite_dt (by omega) ?_) | (refine MV.ite_df (by omega) ?_) | (refine MV.ite_et (by omega) ?_) | (refine MV.ite_ef (by omega) ?_)))
    rfl

theorem lowest_pos {B : Nat} (hB : B ≤ 4000) {n : Int} {d : Nat} (hd : d ≠ 0) (hn : n.natAbs < 2 ^ B) (hdb : d < 2 ^ B) (h : d < 2 ^ 250 ∨ n.natAbs < 2 ^ 250) :
    ∃ g : Int, m__law_common [.int n, .int (d : Int)] = some (.int g) ∧ divOk g = true ∧ n.fdiv g = (Rat.divInt n (d : Int)).num ∧ (d : Int).fdiv g = ((Rat.divInt n (d : Int)).den : Int) := by
  have hg : 0 < Nat.gcd n.natAbs d := Nat.gcd_pos_of_pos_right _ (by omega)
  have hgd : Nat.gcd n.natAbs d ≤ d := Nat.le_of_dvd (by omega) (Nat.gcd_dvd_right _ _)
  refine ⟨((Nat.gcd n.natAbs d : Nat) : Int), common_at hB hn hdb h, divOk_n (b := B) (by omega) (by simpa using Nat.lt_of_le_of_lt hgd hdb) (by omega), ?_, ?_⟩
  · rw [(rat_pos n hd).1, Int.fdiv_eq_ediv_of_nonneg _ (by omega)]
  · rw [(rat_pos n hd).2, Int.fdiv_eq_ediv_of_nonneg _ (by omega)]
theorem lowest_at {B : Nat} (hB : B ≤ 4000) {n d : Int} (hd : d ≠ 0) (hn : n.natAbs < 2 ^ B) (hdb : d.natAbs < 2 ^ B) (h : d.natAbs < 2 ^ 250 ∨ n.natAbs < 2 ^ 250) : m__law_lowest [.int n, .int d] = some (ratD (Rat.divInt n d)) := by
  by_cases h0 : d < 0
  · obtain ⟨g, e1, e2, e3, e4⟩ := lowest_pos hB (n := -n) (d := d.natAbs) (by omega) (by rw [Int.natAbs_neg]; exact hn) hdb (by rw [Int.natAbs_neg]; exact h)
    have ed : (d.natAbs : Int) = -d := by omega
    rw [ed] at e1 e3 e4
    rw [Rat.neg_divInt_neg] at e3 e4
    (apply run_ok; case hl => exact rfl); (unfold b__law_lowest; simp only [List.map_cons, List.map_nil, List.replicate, List.cons_append, List.nil_append])
    (repeat (first | (with_reducible apply e1 <;> first | omega | skip) | (with_reducible apply MV.seq_ok) | (with_reducible apply MV.then_nx) | (with_reducible apply MV.then_rt) | (with_reducible apply MV.ar_cons) | (with_reducible apply MV.ar_nil) | (with_reducible apply MV.ex_c) | (with_reducible apply MV.var_0) | (with_reducible apply MV.var_s) | (with_reducible apply MV.own_0) | (with_reducible apply MV.own_0d) | (with_reducible apply MV.own_s) | (with_reducible apply MV.ex_2) | (with_reducible apply MV.ex_call0) | (with_reducible apply MV.ex_fn) | (with_reducible apply MV.st_set) | (with_reducible apply MV.set_0) | (with_reducible apply MV.set_s) | (with_reducible apply MV.st_post) | (with_reducible apply MV.post_nx) | (with_reducible apply MV.post_rt) | (with_reducible apply MV.wipe_0) | (with_reducible apply MV.wipe_s) | (with_reducible apply MV.op_add') | (with_reducible apply MV.op_sub') | (with_reducible apply MV.dMul_ok; rotate_left) | (with_reducible apply MV.dDiv_ok; rotate_left) | (with_reducible apply MV.dMod_ok; rotate_left) | (with_reducible apply MV.op_ixL) | (with_reducible apply MV.op_ixT) | (with_reducible apply MV.at_0) | (with_reducible apply MV.fn_int) | (with_reducible apply MV.fn_abs) | (with_reducible apply MV.fn_len) | (with_reducible apply MV.fn_lenT) | (with_reducible apply MV.fn_tupL) | (with_reducible apply MV.fn_tupT) | (with_reducible apply MV.fn_lstL) | (with_reducible apply MV.fn_lstT) | (with_reducible apply MV.ex_tup) | (with_reducible apply MV.ex_lst) | (with_reducible apply MV.ex_l) | (with_reducible apply MV.len_0) | (with_reducible apply MV.len_s) | (with_reducible apply MV.st_ret) | (with_reducible apply MV.retO_0) | (with_reducible apply MV.retO_0d) | (with_reducible apply MV.retO_s) | (with_reducible apply MV.st_if) | (with_reducible apply MV.ite_tt) | (with_reducible apply MV.ite_ff) | (with_reducible apply MV.bo_as) | (with_reducible apply MV.bo_tru) | (with_reducible apply MV.bo_and) | (with_reducible apply MV.bo_or) | (with_reducible apply MV.bo_not) | (with_reducible apply MV.not_t) | (with_reducible apply MV.not_f) | (with_reducible apply MV.ex_and) | (with_reducible apply MV.ex_or) | (with_reducible apply MV.ex_not) | (with_reducible apply MV.ex_if) | (with_reducible apply MV.st_skip) | (with_reducible apply MV.st_drop) | (with_reducible apply MV.st_brk) | (with_reducible apply MV.st_cnt) | (with_reducible apply MV.st_setO) | (with_reducible apply MV.app_at) | (with_reducible apply MV.get_0) | (with_reducible apply MV.get_s) | (with_reducible apply MV.st_par) | (with_reducible apply MV.st_asg) | (with_reducible apply MV.tg_set) | (with_reducible apply MV.tg_tup) | (with_reducible apply MV.tg_cons) | (with_reducible apply MV.tg_nil) | (with_reducible apply MV.st_for) | (with_reducible apply MV.st_frz) | (with_reducible apply MV.put_at) | (with_reducible apply MV.src_seq) | (with_reducible apply MV.src_2) | (with_reducible apply MV.seq_l) | (with_reducible apply MV.seq_t) | (with_reducible apply MV.zip_ok) | (with_reducible apply MV.enum_ok) | (with_reducible apply MV.ex_1) | (with_reducible apply MV.ex_call) | (with_reducible apply MV.op_neg') | (with_reducible apply MV.op_lt') | (with_reducible apply MV.op_le') | (with_reducible apply MV.op_gt') | (with_reducible apply MV.op_ge') | (with_reducible apply MV.op_p18) | (with_reducible apply MV.op_p9) | (with_reducible apply MV.op_p30) | (with_reducible apply MV.op_eqI) | (with_reducible apply MV.op_neI) | (with_reducible apply MV.op_eqSS) | (with_reducible apply MV.op_neSS) | (with_reducible apply MV.op_eqS) | (with_reducible apply MV.op_neS) | (with_reducible apply MV.op_eqB) | (with_reducible apply MV.op_neB) | (with_reducible apply MV.fn_gcd) | (with_reducible apply MV.fn_intB) | (with_reducible apply MV.post_bk) | (with_reducible apply MV.post_ct) | (with_reducible apply MV.then_bk) | (with_reducible apply MV.then_ct) | (with_reducible apply MV.cut_ok) | (with_reducible apply MV.part_ok) | (with_reducible apply MV.part_no) | (with_reducible apply MV.then_ex) | (with_reducible apply MV.post_ex) | (with_reducible apply MV.st_raise) | (with_reducible apply MV.mk_err) | (with_reducible apply MV.err_int) | (with_reducible apply MV.err_non) | (with_reducible apply MV.st_ifX) | (with_reducible apply MV.ifX_ok) | (with_reducible apply MV.ifX_er) | (with_reducible apply MV.ex_2X) | (with_reducible apply MV.m2R_er) | (with_reducible apply MV.m2R_ok) | (with_reducible apply MV.ex_callX) | (with_reducible apply MV.st_try) | (with_reducible apply MV.try_nx) | (with_reducible apply MV.try_rt) | (with_reducible apply MV.try_ex) | (with_reducible apply MV.end_rt) | (with_reducible apply MV.end_nx) | (with_reducible apply MV.st_guard) | (with_reducible apply MV.fld_ok) | (with_reducible apply MV.isv_ok) | (with_reducible apply MV.some_rfl) | (refine MV.ite_t (by assumption) ?_) | (refine MV.ite_f (by assumption) ?_) | (exact (by assumption : _ = true)) | (refine MV.ite_dt (by omega) ?_) | (refine MV.ite_df (by omega) ?_) | (refine MV.ite_et (by omega) ?_) | (refine MV.ite_ef (by omega) ?_)))
    · rw [e3, e4]; rfl
    · exact e2
    · exact e2
  · obtain ⟨g, e1, e2, e3, e4⟩ := lowest_pos hB (n := n) (d := d.natAbs) (by omega) hn hdb h
    have ed : (d.natAbs : Int) = d := by omega
    rw [ed] at e1 e3 e4
    (apply run_ok; case hl => exact rfl); (unfold b__law_lowest; simp only [List.map_cons, List.map_nil, List.replicate, List.cons_append, List.nil_append])
    (repeat (first | (with_reducible apply e1 <;> first | omega | skip) | (with_reducible apply MV.seq_ok) | (with_reducible apply MV.then_nx) | (with_reducible apply MV.then_rt) | (with_reducible apply MV.ar_cons) | (with_reducible apply MV.ar_nil) | (with_reducible apply MV.ex_c) | (with_reducible apply MV.var_0) | (with_reducible apply MV.var_s) | (with_reducible apply MV.own_0) | (with_reducible apply MV.own_0d) | (with_reducible apply MV.own_s) | (with_reducible apply MV.ex_2) | (with_reducible apply MV.ex_call0) | (with_reducible apply MV.ex_fn) | (with_reducible apply MV.st_set) | (with_reducible apply MV.set_0) | (with_reducible apply MV.set_s) | (with_reducible apply MV.st_post) | (with_reducible apply MV.post_nx) | (with_reducible apply MV.post_rt) | (with_reducible apply MV.wipe_0) | (with_reducible apply MV.wipe_s) | (with_reducible apply MV.op_add') | (with_reducible apply MV.op_sub') | (with_reducible apply MV.dMul_ok; rotate_left) | (with_reducible apply MV.dDiv_ok; rotate_left) | (with_reducible apply MV.dMod_ok; rotate_left) | (with_reducible apply MV.op_ixL) | (with_reducible apply MV.op_ixT) | (with_reducible apply MV.at_0) | (with_reducible apply MV.fn_int) | (with_reducible apply MV.fn_abs) | (with_reducible apply MV.fn_len) | (with_reducible apply MV.fn_lenT) | (with_reducible apply MV.fn_tupL) | (with_reducible apply MV.fn_tupT) | (with_reducible apply MV.fn_lstL) | (with_reducible apply MV.fn_lstT) | (with_reducible apply MV.ex_tup) | (with_reducible apply MV.ex_lst) | (with_reducible apply MV.ex_l) | (with_reducible apply MV.len_0) | (with_reducible apply MV.len_s) | (with_reducible apply MV.st_ret) | (with_reducible apply MV.retO_0) | (with_reducible apply MV.retO_0d) | (with_reducible apply MV.retO_s) | (with_reducible apply MV.st_if) | (with_reducible apply MV.ite_tt) | (with_reducible apply MV.ite_ff) | (with_reducible apply MV.bo_as) | (with_reducible apply MV.bo_tru) | (with_reducible apply MV.bo_and) | (with_reducible apply MV.bo_or) | (with_reducible apply MV.bo_not) | (with_reducible apply MV.not_t) | (with_reducible apply MV.not_f) | (with_reducible apply MV.ex_and) | (with_reducible apply MV.ex_or) | (with_reducible apply MV.ex_not) | (with_reducible apply MV.ex_if) | (with_reducible apply MV.st_skip) | (with_reducible apply MV.st_drop) | (with_reducible apply MV.st_brk) | (with_reducible apply MV.st_cnt) | (with_reducible apply MV.st_setO) | (with_reducible apply MV.app_at) | (with_reducible apply MV.get_0) | (with_reducible apply MV.get_s) | (with_reducible apply MV.st_par) | (with_reducible apply MV.st_asg) | (with_reducible apply MV.tg_set) | (with_reducible apply MV.tg_tup) | (with_reducible apply MV.tg_cons) | (with_reducible apply MV.tg_nil) | (with_reducible apply MV.st_for) | (with_reducible apply MV.st_frz) | (with_reducible apply MV.put_at) | (with_reducible apply MV.src_seq) | (with_reducible apply MV.src_2) | (with_reducible apply MV.seq_l) | (with_reducible apply MV.seq_t) | (with_reducible apply MV.zip_ok) | (with_reducible apply MV.enum_ok) | (with_reducible apply MV.ex_1) | (with_reducible apply MV.ex_call) | (with_reducible apply MV.op_neg') | (with_reducible apply MV.op_lt') | (with_reducible apply MV.op_le') | (with_reducible apply MV.op_gt') | (with_reducible apply MV.op_ge') | (with_reducible apply MV.op_p18) | (with_reducible apply MV.op_p9) | (with_reducible apply MV.op_p30) | (with_reducible apply MV.op_eqI) | (with_reducible apply MV.op_neI) | (with_reducible apply MV.op_eqSS) | (with_reducible apply MV.op_neSS) | (with_reducible apply MV.op_eqS) | (with_reducible apply MV.op_neS) | (with_reducible apply MV.op_eqB) | (with_reducible apply MV.op_neB) | (with_reducible apply MV.fn_gcd) | (with_reducible apply MV.fn_intB) | (with_reducible apply MV.post_bk) | (with_reducible apply MV.post_ct) | (with_reducible apply MV.then_bk) | (with_reducible apply MV.then_ct) | (with_reducible apply MV.cut_ok) | (with_reducible apply MV.part_ok) | (with_reducible apply MV.part_no) | (with_reducible apply MV.then_ex) | (with_reducible apply MV.post_ex) | (with_reducible apply MV.st_raise) | (with_reducible apply MV.mk_err) | (with_reducible apply MV.err_int) | (with_reducible apply MV.err_non) | (with_reducible apply MV.st_ifX) | (with_reducible apply MV.ifX_ok) | (with_reducible apply MV.ifX_er) | (with_reducible apply MV.ex_2X) | (with_reducible apply MV.m2R_er) | (with_reducible apply MV.m2R_ok) | (with_reducible apply MV.ex_callX) | (with_reducible apply MV.st_try) | (with_reducible apply MV.try_nx) | (with_reducible apply MV.try_rt) | (with_reducible apply MV.try_ex) | (with_reducible apply MV.end_rt) | (with_reducible apply MV.end_nx) | (with_reducible apply MV.st_guard) | (with_reducible apply MV.fld_ok) | (with_reducible apply MV.isv_ok) | (with_reducible apply MV.some_rfl) | (refine MV.ite_t (by assumption) ?_) | (refine MV.ite_f (by assumption) ?_) | (exact (by assumption : _ = true)) | (refine MV.ite_dt (by omega) ?_) | (refine MV.ite_df (by omega) ?_) | (refine MV.ite_et (by omega) ?_) | (refine MV.ite_ef (by omega) ?_)))
    · rw [e3, e4]; rfl
    · exact e2
    · exact e2
/-- .. where both parts are small -/
theorem lowest_sm {B : Nat} (hB : B ≤ 250) {n d : Int} (hd : d ≠ 0) (hn : n.natAbs < 2 ^ B) (hdb : d.natAbs < 2 ^ B) : m__law_lowest [.int n, .int d] = some (ratD (Rat.divInt n d)) := lowest_at (B := B) (by omega) hd hn hdb (.inl (lt_pow hdb hB))

/-! numbers and fractions out of a cell -/
def sizeL (z : Int) : Int := if z = 0 then 3 else if z = 1 then 13 else if z = 2 then 1000 else 1000000000
def numL (cell k : Int) : Int :=
  let r := rowL (cell.fdiv 5 + 1009 * k) 4 1000000000
  (r.getD 0 0).fmod (sizeL ((r.getD 1 0).fmod 4)) * (1 - 2 * (r.getD 2 0).fmod 2)
theorem size_pos (z : Int) : 0 < sizeL z ∧ sizeL z ≤ 1000000000 := by
  unfold sizeL
  split
  · omega
  · split
    · omega
    · split <;> omega
theorem four {l : List Int} (h : l.length = 4) : ∃ a b c d, l = [a, b, c, d] := by
  match l, h with
  | [a, b, c, d], _ => exact ⟨a, b, c, d, rfl⟩
theorem num_lt (cell k : Int) : (numL cell k).natAbs < 2 ^ 30 := by
  unfold numL
  generalize rowL (cell.fdiv 5 + 1009 * k) 4 1000000000 = r
  simp only
  obtain ⟨s0, s1⟩ := size_pos ((r.getD 1 0).fmod 4)
  have q := fmod_range (r.getD 0 0) s0
  have q2 := fmod_range (r.getD 2 0) (b := 2) (by decide)
  have c : (r.getD 2 0).fmod 2 = 0 ∨ (r.getD 2 0).fmod 2 = 1 := by omega
  rcases c with c | c <;> rw [c] <;> omega
theorem number_at (cell k : Int) : m__law_number [.int cell, .int k] = some (.int (numL cell k)) := by
  have e := row_at (base := 1000000000) (by decide) (by decide) (cell.fdiv 5 + 1009 * k) 4 (by decide)
  have e0 : numL cell k = ((rowL (cell.fdiv 5 + 1009 * k) 4 1000000000).getD 0 0).fmod (sizeL (((rowL (cell.fdiv 5 + 1009 * k) 4 1000000000).getD 1 0).fmod 4)) * (1 - 2 * ((rowL (cell.fdiv 5 + 1009 * k) 4 1000000000).getD 2 0).fmod 2) := rfl
  rw [e0]
  obtain ⟨y0, y1, y2, y3, ey⟩ := four (rowL_len (cell.fdiv 5 + 1009 * k) 4 1000000000)
  rw [ey] at e ⊢
  rw [show ((4 : Nat) : Int) = 4 from rfl] at e
  have q1 := fmod_range y1 (b := 4) (by decide)
  have size : atI [PyData.int 3, .int 13, .int 1000, .int 1000000000] (y1.fmod 4) = some (.int (sizeL (y1.fmod 4))) := by
    have c : y1.fmod 4 = 0 ∨ y1.fmod 4 = 1 ∨ y1.fmod 4 = 2 ∨ y1.fmod 4 = 3 := by omega
    rcases c with c | c | c | c <;> rw [c] <;> rfl
  have sp := size_pos (y1.fmod 4)
  have q0 := fmod_range y0 sp.1
  have a1 : ∀ a b c d : D, atI [a, b, c, d] 1 = some b := fun a b c d => rfl
  have a2 : ∀ a b c d : D, atI [a, b, c, d] 2 = some c := fun a b c d => rfl
  simp only [List.map_cons, List.map_nil] at e
  (apply run_ok; case hl => exact rfl); (unfold b__law_number; simp only [List.map_cons, List.map_nil, List.replicate, List.cons_append, List.nil_append])
  (repeat (first | (with_reducible apply e <;> first | omega | skip) | (with_reducible apply size <;> first | omega | skip) | (with_reducible apply a1 <;> first | omega | skip) | (with_reducible apply a2 <;> first | omega | skip) | (with_reducible apply MV.seq_ok) | (with_reducible apply MV.then_nx) | (with_reducible apply MV.then_rt) | (with_reducible apply MV.ar_cons) | (with_reducible apply MV.ar_nil) | (with_reducible apply MV.ex_c) | (with_reducible apply MV.var_0) | (with_reducible apply MV.var_s) | (with_reducible apply MV.own_0) | (with_reducible apply MV.own_0d) | (with_reducible apply MV.own_s) | (with_reducible apply MV.ex_2) | (with_reducible apply MV.ex_call0) | (with_reducible apply MV.ex_fn) | (with_reducible apply MV.st_set) | (with_reducible apply MV.set_0) | (with_reducible apply MV.set_s) | (with_reducible apply MV.st_post) | (with_reducible apply MV.post_nx) | (with_reducible apply MV.post_rt) | (with_reducible apply MV.wipe_0) | (with_reducible apply MV.wipe_s) | (with_reducible apply MV.op_add') | (with_reducible apply MV.op_sub') | (with_reducible apply MV.dMul_ok; rotate_left) | (with_reducible apply MV.dDiv_ok; rotate_left) | (with_reducible apply MV.dMod_ok; rotate_left) | (with_reducible apply MV.op_ixL) | (with_reducible apply MV.op_ixT) | (with_reducible apply MV.at_0) | (with_reducible apply MV.fn_int) | (with_reducible apply MV.fn_abs) | (with_reducible apply MV.fn_len) | (with_reducible apply MV.fn_lenT) | (with_reducible apply MV.fn_tupL) | (with_reducible apply MV.fn_tupT) | (with_reducible apply MV.fn_lstL) | (with_reducible apply MV.fn_lstT) | (with_reducible apply MV.ex_tup) | (with_reducible apply MV.ex_lst) | (with_reducible apply MV.ex_l) | (with_reducible apply MV.len_0) | (with_reducible apply MV.len_s) | (with_reducible apply MV.st_ret) | (with_reducible apply MV.retO_0) | (with_reducible apply MV.retO_0d) | (with_reducible apply MV.retO_s) | (with_reducible apply MV.st_if) | (with_reducible apply MV.ite_tt) | (with_reducible apply MV.ite_ff) | (with_reducible apply MV.bo_as) | (with_reducible apply MV.bo_tru) | (with_reducible apply MV.bo_and) | (with_reducible apply MV.bo_or) | (with_reducible apply MV.bo_not) | (with_reducible apply MV.not_t) | (with_reducible apply MV.not_f) | (with_reducible apply MV.ex_and) | (with_reducible apply MV.ex_or) | (with_reducible apply MV.ex_not) | (with_reducible apply MV.ex_if) | (with_reducible apply MV.st_skip) | (with_reducible apply MV.st_drop) | (with_reducible apply MV.st_brk) | (with_reducible apply MV.st_cnt) | (with_reducible apply MV.st_setO) | (with_reducible apply MV.app_at) | (with_reducible apply MV.get_0) | (with_reducible apply MV.get_s) | (with_reducible apply MV.st_par) | (with_reducible apply MV.st_asg) | (with_reducible apply MV.tg_set) | (with_reducible apply MV.tg_tup) | (with_reducible apply MV.tg_cons) | (with_reducible apply MV.tg_nil) | (with_reducible apply MV.st_for) | (with_reducible apply MV.st_frz) | (with_reducible apply MV.put_at) | (with_reducible apply MV.src_seq) | (with_reducible apply MV.src_2) | (with_reducible apply MV.seq_l) | (with_reducible apply MV.seq_t) | (with_reducible apply MV.zip_ok) | (with_reducible apply MV.enum_ok) | (with_reducible apply MV.ex_1) | (with_reducible apply MV.ex_call) | (with_reducible apply MV.op_neg') | (with_reducible apply MV.op_lt') | (with_reducible apply MV.op_le') | (with_reducible apply MV.op_gt') | (with_reducible apply MV.op_ge') | (with_reducible apply MV.op_p18) | (with_reducible apply MV.op_p9) | (with_reducible apply MV.op_p30) | (with_reducible apply MV.op_eqI) | (with_reducible apply MV.op_neI) | (with_reducible apply MV.op_eqSS) | (with_reducible apply MV.op_neSS) | (with_reducible apply MV.op_eqS) | (with_reducible apply MV.op_neS) | (with_reducible apply MV.op_eqB) | (with_reducible apply MV.op_neB) | (with_reducible apply MV.fn_gcd) | (with_reducible apply MV.fn_intB) | (with_reducible apply MV.post_bk) | (with_reducible apply MV.post_ct) | (with_reducible apply MV.then_bk) | (with_reducible apply MV.then_ct) | (with_reducible apply MV.cut_ok) | (with_reducible apply MV.part_ok) | (with_reducible apply MV.part_no) | (with_reducible apply MV.then_ex) | (with_reducible apply MV.post_ex) | (with_reducible apply MV.st_raise) | (with_reducible apply MV.mk_err) | (with_reducible apply MV.err_int) | (with_reducible apply MV.err_non) | (with_reducible apply MV.st_ifX) | (with_reducible apply MV.ifX_ok) | (with_reducible apply MV.ifX_er) | (with_reducible apply MV.ex_2X) | (with_reducible apply MV.m2R_er) | (with_reducible apply MV.m2R_ok) | (with_reducible apply MV.ex_callX) | (with_reducible apply MV.st_try) | (with_reducible apply MV.try_nx) | (with_reducible apply MV.try_rt) | (with_reducible apply MV.try_ex) | (with_reducible apply MV.end_rt) | (with_reducible apply MV.end_nx) | (with_reducible apply MV.st_guard) | (with_reducible apply MV.fld_ok) | (with_reducible apply MV.isv_ok) | (with_reducible apply MV.some_rfl) | (refine MV.ite_t (by assumption) ?_) | (refine MV.ite_f (by assumption) ?_) | (exact (by assumption : _ = true)) | (refine MV.ite_dt (by omega) ?_) | (refine MV.ite_df (by omega) ?_) | (refine MV.ite_et (by omega) ?_) | (refine MV.ite_ef (by omega) ?_)))
  · rfl
  · exact divOk_n (b := 64) (by decide) (by decide) (by decide)
  · exact mulOk_l (by decide)
  · decide
  · omega
  · decide
  · exact mulOk_l (by decide)
  · refine mulOk_l ?_
    show (y0.fmod (sizeL (y1.fmod 4))).natAbs < 2 ^ 64
    omega

def fracL (cell k : Int) : Rat := Rat.divInt (numL cell k) ((1 + (numL (cell + 3) (k + 7)).natAbs : Nat) : Int)
theorem frac_sm (cell k : Int) : Sm 31 (fracL cell k) := by
  have h1 := num_lt cell k
  have h2 := num_lt (cell + 3) (k + 7)
  exact sm_divInt (by omega) (by omega) (by omega)
theorem fraction_at (cell k : Int) : m__law_fraction [.int cell, .int k] = some (ratD (fracL cell k)) := by
  have h1 := num_lt cell k
  have h2 := num_lt (cell + 3) (k + 7)
  have el := lowest_sm (B := 40) (by decide) (n := numL cell k) (d := ((1 + (numL (cell + 3) (k + 7)).natAbs : Nat) : Int)) (by omega) (by omega) (by omega)
  rw [show ((1 + (numL (cell + 3) (k + 7)).natAbs : Nat) : Int) = 1 + ((numL (cell + 3) (k + 7)).natAbs : Int) by omega] at el
  (apply run_ok; case hl => exact rfl); (unfold b__law_fraction; simp only [List.map_cons, List.map_nil, List.replicate, List.cons_append, List.nil_append])
  (repeat (first | (with_reducible apply number_at <;> first | omega | skip) | (with_reducible apply el <;> first | omega | skip) | (with_reducible apply MV.seq_ok) | (with_reducible apply MV.then_nx) | (with_reducible apply MV.then_rt) | (with_reducible apply MV.ar_cons) | (with_reducible apply MV.ar_nil) | (with_reducible apply MV.ex_c) | (with_reducible apply MV.var_0) | (with_reducible apply MV.var_s) | (with_reducible apply MV.own_0) | (with_reducible apply MV.own_0d) | (with_reducible apply MV.own_s) | (with_reducible apply MV.ex_2) | (with_reducible apply MV.ex_call0) | (with_reducible apply MV.ex_fn) | (with_reducible apply MV.st_set) | (with_reducible apply MV.set_0) | (with_reducible apply MV.set_s) | (with_reducible apply MV.st_post) | (with_reducible apply MV.post_nx) | (with_reducible apply MV.post_rt) | (with_reducible apply MV.wipe_0) | (with_reducible apply MV.wipe_s) | (with_reducible apply MV.op_add') | (with_reducible apply MV.op_sub') | (with_reducible apply MV.dMul_ok; rotate_left) | (with_reducible apply MV.dDiv_ok; rotate_left) | (with_reducible apply MV.dMod_ok; rotate_left) | (with_reducible apply MV.op_ixL) | (with_reducible apply MV.op_ixT) | (with_reducible apply MV.at_0) | (with_reducible apply MV.fn_int) | (with_reducible apply MV.fn_abs) | (with_reducible apply MV.fn_len) | (with_reducible apply MV.fn_lenT) | (with_reducible apply MV.fn_tupL) | (with_reducible apply MV.fn_tupT) | (with_reducible apply MV.fn_lstL) | (with_reducible apply MV.fn_lstT) | (with_reducible apply MV.ex_tup) | (with_reducible apply MV.ex_lst) | (with_reducible apply MV.ex_l) | (with_reducible apply MV.len_0) | (with_reducible apply MV.len_s) | (with_reducible apply MV.st_ret) | (with_reducible apply MV.retO_0) | (with_reducible apply MV.retO_0d) | (with_reducible apply MV.retO_s) | (with_reducible apply MV.st_if) | (with_reducible apply MV.ite_tt) | (with_reducible apply MV.ite_ff) | (with_reducible apply MV.bo_as) | (with_reducible apply MV.bo_tru) | (with_reducible apply MV.bo_and) | (with_reducible apply MV.bo_or) | (with_reducible apply MV.bo_not) | (with_reducible apply MV.not_t) | (with_reducible apply MV.not_f) | (with_reducible apply MV.ex_and) | (with_reducible apply MV.ex_or) | (with_reducible apply MV.ex_not) | (with_reducible apply MV.ex_if) | (with_reducible apply MV.st_skip) | (with_reducible apply MV.st_drop) | (with_reducible apply MV.st_brk) | (with_reducible apply MV.st_cnt) | (with_reducible apply MV.st_setO) | (with_reducible apply MV.app_at) | (with_reducible apply MV.get_0) | (with_reducible apply MV.get_s) | (with_reducible apply MV.st_par) | (with_reducible apply MV.st_asg) | (with_reducible apply MV.tg_set) | (with_reducible apply MV.tg_tup) | (with_reducible apply MV.tg_cons) | (with_reducible apply MV.tg_nil) | (with_reducible apply MV.st_for) | (with_reducible apply MV.st_frz) | (with_reducible apply MV.put_at) | (with_reducible apply MV.src_seq) | (with_reducible apply MV.src_2) | (with_reducible apply MV.seq_l) | (with_reducible apply MV.seq_t) | (with_reducible apply MV.zip_ok) | (with_reducible apply MV.enum_ok) | (with_reducible apply MV.ex_1) | (with_reducible apply MV.ex_call) | (with_reducible apply MV.op_neg') | (with_reducible apply MV.op_lt') | (with_reducible apply MV.op_le') | (with_reducible apply MV.op_gt') | (with_reducible apply MV.op_ge') | (with_reducible apply MV.op_p18) | (with_reducible apply MV.op_p9) | (with_reducible apply MV.op_p30) | (with_reducible apply MV.op_eqI) | (with_reducible apply MV.op_neI) | (with_reducible apply MV.op_eqSS) | (with_reducible apply MV.op_neSS) | (with_reducible apply MV.op_eqS) | (with_reducible apply MV.op_neS) | (with_reducible apply MV.op_eqB) | (with_reducible apply MV.op_neB) | (with_reducible apply MV.fn_gcd) | (with_reducible apply MV.fn_intB) | (with_reducible apply MV.post_bk) | (with_reducible apply MV.post_ct) | (with_reducible apply MV.then_bk) | (with_reducible apply MV.then_ct) | (with_reducible apply MV.cut_ok) | (with_reducible apply MV.part_ok) | (with_reducible apply MV.part_no) | (with_reducible apply MV.then_ex) | (with_reducible apply MV.post_ex) | (with_reducible apply MV.st_raise) | (with_reducible apply MV.mk_err) | (with_reducible apply MV.err_int) | (with_reducible apply MV.err_non) | (with_reducible apply MV.st_ifX) | (with_reducible apply MV.ifX_ok) | (with_reducible apply MV.ifX_er) | (with_reducible apply MV.ex_2X) | (with_reducible apply MV.m2R_er) | (with_reducible apply MV.m2R_ok) | (with_reducible apply MV.ex_callX) | (with_reducible apply MV.st_try) | (with_reducible apply MV.try_nx) | (with_reducible apply MV.try_rt) | (with_reducible apply MV.try_ex) | (with_reducible apply MV.end_rt) | (with_reducible apply MV.end_nx) | (with_reducible apply MV.st_guard) | (with_reducible apply MV.fld_ok) | (with_reducible apply MV.isv_ok) | (with_reducible apply MV.some_rfl) | (refine MV.ite_t (by assumption) ?_) | (refine MV.ite_f (by assumption) ?_) | (exact (by assumption : _ = true)) | (refine MV.ite_dt (by omega) ?_) | (refine MV.ite_df (by omega) ?_) | (refine MV.ite_et (by omega) ?_) | (refine MV.ite_ef (by omega) ?_)))
  unfold fracL
  rw [show ((1 + (numL (cell + 3) (k + 7)).natAbs : Nat) : Int) = 1 + ((numL (cell + 3) (k + 7)).natAbs : Int) by omega]

/-! the program's fractions -/
theorem gd_at (a b : Int) : m_greatest_divisor [.int a, .int b] = some (.int ((Nat.gcd a.natAbs b.natAbs : Nat) : Int)) := by
  (apply run_ok; case hl => exact rfl); (unfold b_greatest_divisor; simp only [List.map_cons, List.map_nil, List.replicate, List.cons_append, List.nil_append])
  (repeat (first | (with_reducible apply MV.seq_ok) | (with_reducible apply MV.then_nx) | (with_reducible apply MV.then_rt) | (with_reducible apply MV.ar_cons) | (with_reducible apply MV.ar_nil) | (with_reducible apply MV.ex_c) | (with_reducible apply MV.var_0) | (with_reducible apply MV.var_s) | (with_reducible apply MV.own_0) | (with_reducible apply MV.own_0d) | (with_reducible apply MV.own_s) | (with_reducible apply MV.ex_2) | (with_reducible apply MV.ex_call0) | (with_reducible apply MV.ex_fn) | (with_reducible apply MV.st_set) | (with_reducible apply MV.set_0) | (with_reducible apply MV.set_s) | (with_reducible apply MV.st_post) | (with_reducible apply MV.post_nx) | (with_reducible apply MV.post_rt) | (with_reducible apply MV.wipe_0) | (with_reducible apply MV.wipe_s) | (with_reducible apply MV.op_add') | (with_reducible apply MV.op_sub') | (with_reducible apply MV.dMul_ok; rotate_left) | (with_reducible apply MV.dDiv_ok; rotate_left) | (with_reducible apply MV.dMod_ok; rotate_left) | (with_reducible apply MV.op_ixL) | (with_reducible apply MV.op_ixT) | (with_reducible apply MV.at_0) | (with_reducible apply MV.fn_int) | (with_reducible apply MV.fn_abs) | (with_reducible apply MV.fn_len) | (with_reducible apply MV.fn_lenT) | (with_reducible apply MV.fn_tupL) | (with_reducible apply MV.fn_tupT) | (with_reducible apply MV.fn_lstL) | (with_reducible apply MV.fn_lstT) | (with_reducible apply MV.ex_tup) | (with_reducible apply MV.ex_lst) | (with_reducible apply MV.ex_l) | (with_reducible apply MV.len_0) | (with_reducible apply MV.len_s) | (with_reducible apply MV.st_ret) | (with_reducible apply MV.retO_0) | (with_reducible apply MV.retO_0d) | (with_reducible apply MV.retO_s) | (with_reducible apply MV.st_if) | (with_reducible apply MV.ite_tt) | (with_reducible apply MV.ite_ff) | (with_reducible apply MV.bo_as) | (with_reducible apply MV.bo_tru) | (with_reducible apply MV.bo_and) | (with_reducible apply MV.bo_or) | (with_reducible apply MV.bo_not) | (with_reducible apply MV.not_t) | (with_reducible apply MV.not_f) | (with_reducible apply MV.ex_and) | (with_reducible apply MV.ex_or) | (with_reducible apply MV.ex_not) | (with_reducible apply MV.ex_if) | (with_reducible apply MV.st_skip) | (with_reducible apply MV.st_drop) | (with_reducible apply MV.st_brk) | (with_reducible apply MV.st_cnt) | (with_reducible apply MV.st_setO) | (with_reducible apply MV.app_at) | (with_reducible apply MV.get_0) | (with_reducible apply MV.get_s) | (with_reducible apply MV.st_par) | (with_reducible apply MV.st_asg) | (with_reducible apply MV.tg_set) | (with_reducible apply MV.tg_tup) | (with_reducible apply MV.tg_cons) | (with_reducible apply MV.tg_nil) | (with_reducible apply MV.st_for) | (with_reducible apply MV.st_frz) | (with_reducible apply MV.put_at) | (with_reducible apply MV.src_seq) | (with_reducible apply MV.src_2) | (with_reducible apply MV.seq_l) | (with_reducible apply MV.seq_t) | (with_reducible apply MV.zip_ok) | (with_reducible apply MV.enum_ok) | (with_reducible apply MV.ex_1) | (with_reducible apply MV.ex_call) | (with_reducible apply MV.op_neg') | (with_reducible apply MV.op_lt') | (with_reducible apply MV.op_le') | (with_reducible apply MV.op_gt') | (with_reducible apply MV.op_ge') | (with_reducible apply MV.op_p18) | (with_reducible apply MV.op_p9) | (with_reducible apply MV.op_p30) | (with_reducible apply MV.op_eqI) | (with_reducible apply MV.op_neI) | (with_reducible apply MV.op_eqSS) | (with_reducible apply MV.op_neSS) | (with_reducible apply MV.op_eqS) | (with_reducible apply MV.op_neS) | (with_reducible apply MV.op_eqB) | (with_reducible apply MV.op_neB) | (with_reducible apply MV.fn_gcd) | (with_reducible apply MV.fn_intB) | (with_reducible apply MV.post_bk) | (with_reducible apply MV.post_ct) | (with_reducible apply MV.then_bk) | (with_reducible apply MV.then_ct) | (with_reducible apply MV.cut_ok) | (with_reducible apply MV.part_ok) | (with_reducible apply MV.part_no) | (with_reducible apply MV.then_ex) | (with_reducible apply MV.post_ex) | (with_reducible apply MV.st_raise) | (with_reducible apply MV.mk_err) | (with_reducible apply MV.err_int) | (with_reducible apply MV.err_non) | (with_reducible apply MV.st_ifX) | (with_reducible apply MV.ifX_ok) | (with_reducible apply MV.ifX_er) | (with_reducible apply MV.ex_2X) | (with_reducible apply MV.m2R_er) | (with_reducible apply MV.m2R_ok) | (with_reducible apply MV.ex_callX) | (with_reducible apply MV.st_try) | (with_reducible apply MV.try_nx) | (with_reducible apply MV.try_rt) | (with_reducible apply MV.try_ex) | (with_reducible apply MV.end_rt) | (with_reducible apply MV.end_nx) | (with_reducible apply MV.st_guard) | (with_reducible apply MV.fld_ok) | (with_reducible apply MV.isv_ok) | (with_reducible apply MV.some_rfl) | (refine MV.ite_t (by assumption) ?_) | (refine MV.ite_f (by assumption) ?_) | (exact (by assumption : _ = true)) | (refine MV.ite_dt (by omega) ?_) | (refine MV.ite_df (by omega) ?_) | (refine MV.ite_et (by omega) ?_) | (refine MV.ite_ef (by omega) ?_)))
  rfl
theorem frac_at {B : Nat} (hB : B ≤ 8000) {n d : Int} (hd : d ≠ 0) (hdb : d.natAbs < 2 ^ B) : m_fraction [.int n, .int d] = some (ratD (Rat.divInt n d)) := by
  have hg : 0 < Nat.gcd n.natAbs d.natAbs := Nat.gcd_pos_of_pos_right _ (by omega)
  have hgd : Nat.gcd n.natAbs d.natAbs ≤ d.natAbs := Nat.le_of_dvd (by omega) (Nat.gcd_dvd_right _ _)
  have v1 : ((Nat.gcd n.natAbs d.natAbs : Nat) : Int) ∣ n := Int.ofNat_dvd_left.mpr (Nat.gcd_dvd_left _ _)
  have v2 : ((Nat.gcd n.natAbs d.natAbs : Nat) : Int) ∣ d := Int.ofNat_dvd_left.mpr (Nat.gcd_dvd_right _ _)
  have gd := gd_at n d
  by_cases h0 : d < 0
  · have o : divOk (-((Nat.gcd n.natAbs d.natAbs : Nat) : Int)) = true := divOk_n (b := B) (by omega) (by rw [Int.natAbs_neg, Int.natAbs_natCast]; omega) (by omega)
    have ed : -d = (d.natAbs : Int) := by omega
    have p := rat_pos (-n) (d := d.natAbs) (by omega)
    rw [Int.natAbs_neg, ← ed, Rat.neg_divInt_neg] at p
    have e1 : n.fdiv (-((Nat.gcd n.natAbs d.natAbs : Nat) : Int)) = (Rat.divInt n d).num := by
      rw [Int.fdiv_eq_ediv_of_dvd (Int.neg_dvd.mpr v1), Int.ediv_neg, p.1, Int.neg_ediv_of_dvd v1]
    have e2 : d.fdiv (-((Nat.gcd n.natAbs d.natAbs : Nat) : Int)) = ((Rat.divInt n d).den : Int) := by
      rw [Int.fdiv_eq_ediv_of_dvd (Int.neg_dvd.mpr v2), Int.ediv_neg, p.2, Int.neg_ediv_of_dvd v2]
    (apply run_ok; case hl => exact rfl); (unfold b_fraction; simp only [List.map_cons, List.map_nil, List.replicate, List.cons_append, List.nil_append])
    (repeat (first | (with_reducible apply gd <;> first | omega | skip) | (with_reducible apply MV.seq_ok) | (with_reducible apply MV.then_nx) | (with_reducible apply MV.then_rt) | (with_reducible apply MV.ar_cons) | (with_reducible apply MV.ar_nil) | (with_reducible apply MV.ex_c) | (with_reducible apply MV.var_0) | (with_reducible apply MV.var_s) | (with_reducible apply MV.own_0) | (with_reducible apply MV.own_0d) | (with_reducible apply MV.own_s) | (with_reducible apply MV.ex_2) | (with_reducible apply MV.ex_call0) | (with_reducible apply MV.ex_fn) | (with_reducible apply MV.st_set) | (with_reducible apply MV.set_0) | (with_reducible apply MV.set_s) | (with_reducible apply MV.st_post) | (with_reducible apply MV.post_nx) | (with_reducible apply MV.post_rt) | (with_reducible apply MV.wipe_0) | (with_reducible apply MV.wipe_s) | (with_reducible apply MV.op_add') | (with_reducible apply MV.op_sub') | (with_reducible apply MV.dMul_ok; rotate_left) | (with_reducible apply MV.dDiv_ok; rotate_left) | (with_reducible apply MV.dMod_ok; rotate_left) | (with_reducible apply MV.op_ixL) | (with_reducible apply MV.op_ixT) | (with_reducible apply MV.at_0) | (with_reducible apply MV.fn_int) | (with_reducible apply MV.fn_abs) | (with_reducible apply MV.fn_len) | (with_reducible apply MV.fn_lenT) | (with_reducible apply MV.fn_tupL) | (with_reducible apply MV.fn_tupT) | (with_reducible apply MV.fn_lstL) | (with_reducible apply MV.fn_lstT) | (with_reducible apply MV.ex_tup) | (with_reducible apply MV.ex_lst) | (with_reducible apply MV.ex_l) | (with_reducible apply MV.len_0) | (with_reducible apply MV.len_s) | (with_reducible apply MV.st_ret) | (with_reducible apply MV.retO_0) | (with_reducible apply MV.retO_0d) | (with_reducible apply MV.retO_s) | (with_reducible apply MV.st_if) | (with_reducible apply MV.ite_tt) | (with_reducible apply MV.ite_ff) | (with_reducible apply MV.bo_as) | (with_reducible apply MV.bo_tru) | (with_reducible apply MV.bo_and) | (with_reducible apply MV.bo_or) | (with_reducible apply MV.bo_not) | (with_reducible apply MV.not_t) | (with_reducible apply MV.not_f) | (with_reducible apply MV.ex_and) | (with_reducible apply MV.ex_or) | (with_reducible apply MV.ex_not) | (with_reducible apply MV.ex_if) | (with_reducible apply MV.st_skip) | (with_reducible apply MV.st_drop) | (with_reducible apply MV.st_brk) | (with_reducible apply MV.st_cnt) | (with_reducible apply MV.st_setO) | (with_reducible apply MV.app_at) | (with_reducible apply MV.get_0) | (with_reducible apply MV.get_s) | (with_reducible apply MV.st_par) | (with_reducible apply MV.st_asg) | (with_reducible apply MV.tg_set) | (with_reducible apply MV.tg_tup) | (with_reducible apply MV.tg_cons) | (with_reducible apply MV.tg_nil) | (with_reducible apply MV.st_for) | (with_reducible apply MV.st_frz) | (with_reducible apply MV.put_at) | (with_reducible apply MV.src_seq) | (with_reducible apply MV.src_2) | (with_reducible apply MV.seq_l) | (with_reducible apply MV.seq_t) | (with_reducible apply MV.zip_ok) | (with_reducible apply MV.enum_ok) | (with_reducible apply MV.ex_1) | (with_reducible apply MV.ex_call) | (with_reducible apply MV.op_neg') | (with_reducible apply MV.op_lt') | (with_reducible apply MV.op_le') | (with_reducible apply MV.op_gt') | (with_reducible apply MV.op_ge') | (with_reducible apply MV.op_p18) | (with_reducible apply MV.op_p9) | (with_reducible apply MV.op_p30) | (with_reducible apply MV.op_eqI) | (with_reducible apply MV.op_neI) | (with_reducible apply MV.op_eqSS) | (with_reducible apply MV.op_neSS) | (with_reducible apply MV.op_eqS) | (with_reducible apply MV.op_neS) | (with_reducible apply MV.op_eqB) | (with_reducible apply MV.op_neB) | (with_reducible apply MV.fn_gcd) | (with_reducible apply MV.fn_intB) | (with_reducible apply MV.post_bk) | (with_reducible apply MV.post_ct) | (with_reducible apply MV.then_bk) | (with_reducible apply MV.then_ct) | (with_reducible apply MV.cut_ok) | (with_reducible apply MV.part_ok) | (with_reducible apply MV.part_no) | (with_reducible apply MV.then_ex) | (with_reducible apply MV.post_ex) | (with_reducible apply MV.st_raise) | (with_reducible apply MV.mk_err) | (with_reducible apply MV.err_int) | (with_reducible apply MV.err_non) | (with_reducible apply MV.st_ifX) | (with_reducible apply MV.ifX_ok) | (with_reducible apply MV.ifX_er) | (with_reducible apply MV.ex_2X) | (with_reducible apply MV.m2R_er) | (with_reducible apply MV.m2R_ok) | (with_reducible apply MV.ex_callX) | (with_reducible apply MV.st_try) | (with_reducible apply MV.try_nx) | (with_reducible apply MV.try_rt) | (with_reducible apply MV.try_ex) | (with_reducible apply MV.end_rt) | (with_reducible apply MV.end_nx) | (with_reducible apply MV.st_guard) | (with_reducible apply MV.fld_ok) | (with_reducible apply MV.isv_ok) | (with_reducible apply MV.some_rfl) | (refine MV.ite_t (by assumption) ?_) | (refine MV.ite_f (by assumption) ?_) | (exact (by assumption : _ = true)) | (refine MV.ite_dt (by omega) ?_) | (refine MV.ite_df (by omega) ?_) | (refine MV.ite_et (by omega) ?_) | (refine MV.ite_ef (by omega) ?_)))
    · rw [e1, e2]; rfl
    · exact o
    · exact o
  · have o : divOk (((Nat.gcd n.natAbs d.natAbs : Nat) : Int)) = true := divOk_n (b := B) (by omega) (by rw [Int.natAbs_natCast]; omega) (by omega)
    have ed : (d.natAbs : Int) = d := by omega
    have p := rat_pos n (d := d.natAbs) (by omega)
    rw [ed] at p
    have e1 : n.fdiv (((Nat.gcd n.natAbs d.natAbs : Nat) : Int)) = (Rat.divInt n d).num := by
      rw [Int.fdiv_eq_ediv_of_dvd v1, p.1]
    have e2 : d.fdiv (((Nat.gcd n.natAbs d.natAbs : Nat) : Int)) = ((Rat.divInt n d).den : Int) := by
      rw [Int.fdiv_eq_ediv_of_dvd v2, p.2]
    (apply run_ok; case hl => exact rfl); (unfold b_fraction; simp only [List.map_cons, List.map_nil, List.replicate, List.cons_append, List.nil_append])
    (repeat (first | (with_reducible apply gd <;> first | omega | skip) | (with_reducible apply MV.seq_ok) | (with_reducible apply MV.then_nx) | (with_reducible apply MV.then_rt) | (with_reducible apply MV.ar_cons) | (with_reducible apply MV.ar_nil) | (with_reducible apply MV.ex_c) | (with_reducible apply MV.var_0) | (with_reducible apply MV.var_s) | (with_reducible apply MV.own_0) | (with_reducible apply MV.own_0d) | (with_reducible apply MV.own_s) | (with_reducible apply MV.ex_2) | (with_reducible apply MV.ex_call0) | (with_reducible apply MV.ex_fn) | (with_reducible apply MV.st_set) | (with_reducible apply MV.set_0) | (with_reducible apply MV.set_s) | (with_reducible apply MV.st_post) | (with_reducible apply MV.post_nx) | (with_reducible apply MV.post_rt) | (with_reducible apply MV.wipe_0) | (with_reducible apply MV.wipe_s) | (with_reducible apply MV.op_add') | (with_reducible apply MV.op_sub') | (with_reducible apply MV.dMul_ok; rotate_left) | (with_reducible apply MV.dDiv_ok; rotate_left) | (with_reducible apply MV.dMod_ok; rotate_left) | (with_reducible apply MV.op_ixL) | (with_reducible apply MV.op_ixT) | (with_reducible apply MV.at_0) | (with_reducible apply MV.fn_int) | (with_reducible apply MV.fn_abs) | (with_reducible apply MV.fn_len) | (with_reducible apply MV.fn_lenT) | (with_reducible apply MV.fn_tupL) | (with_reducible apply MV.fn_tupT) | (with_reducible apply MV.fn_lstL) | (with_reducible apply MV.fn_lstT) | (with_reducible apply MV.ex_tup) | (with_reducible apply MV.ex_lst) | (with_reducible apply MV.ex_l) | (with_reducible apply MV.len_0) | (with_reducible apply MV.len_s) | (with_reducible apply MV.st_ret) | (with_reducible apply MV.retO_0) | (with_reducible apply MV.retO_0d) | (with_reducible apply MV.retO_s) | (with_reducible apply MV.st_if) | (with_reducible apply MV.ite_tt) | (with_reducible apply MV.ite_ff) | (with_reducible apply MV.bo_as) | (with_reducible apply MV.bo_tru) | (with_reducible apply MV.bo_and) | (with_reducible apply MV.bo_or) | (with_reducible apply MV.bo_not) | (with_reducible apply MV.not_t) | (with_reducible apply MV.not_f) | (with_reducible apply MV.ex_and) | (with_reducible apply MV.ex_or) | (with_reducible apply MV.ex_not) | (with_reducible apply MV.ex_if) | (with_reducible apply MV.st_skip) | (with_reducible apply MV.st_drop) | (with_reducible apply MV.st_brk) | (with_reducible apply MV.st_cnt) | (with_reducible apply MV.st_setO) | (with_reducible apply MV.app_at) | (with_reducible apply MV.get_0) | (with_reducible apply MV.get_s) | (with_reducible apply MV.st_par) | (with_reducible apply MV.st_asg) | (with_reducible apply MV.tg_set) | (with_reducible apply MV.tg_tup) | (with_reducible apply MV.tg_cons) | (with_reducible apply MV.tg_nil) | (with_reducible apply MV.st_for) | (with_reducible apply MV.st_frz) | (with_reducible apply MV.put_at) | (with_reducible apply MV.src_seq) | (with_reducible apply MV.src_2) | (with_reducible apply MV.seq_l) | (with_reducible apply MV.seq_t) | (with_reducible apply MV.zip_ok) | (with_reducible apply MV.enum_ok) | (with_reducible apply MV.ex_1) | (with_reducible apply MV.ex_call) | (with_reducible apply MV.op_neg') | (with_reducible apply MV.op_lt') | (with_reducible apply MV.op_le') | (with_reducible apply MV.op_gt') | (with_reducible apply MV.op_ge') | (with_reducible apply MV.op_p18) | (with_reducible apply MV.op_p9) | (with_reducible apply MV.op_p30) | (with_reducible apply MV.op_eqI) | (with_reducible apply MV.op_neI) | (with_reducible apply MV.op_eqSS) | (with_reducible apply MV.op_neSS) | (with_reducible apply MV.op_eqS) | (with_reducible apply MV.op_neS) | (with_reducible apply MV.op_eqB) | (with_reducible apply MV.op_neB) | (with_reducible apply MV.fn_gcd) | (with_reducible apply MV.fn_intB) | (with_reducible apply MV.post_bk) | (with_reducible apply MV.post_ct) | (with_reducible apply MV.then_bk) | (with_reducible apply MV.then_ct) | (with_reducible apply MV.cut_ok) | (with_reducible apply MV.part_ok) | (with_reducible apply MV.part_no) | (with_reducible apply MV.then_ex) | (with_reducible apply MV.post_ex) | (with_reducible apply MV.st_raise) | (with_reducible apply MV.mk_err) | (with_reducible apply MV.err_int) | (with_reducible apply MV.err_non) | (with_reducible apply MV.st_ifX) | (with_reducible apply MV.ifX_ok) | (with_reducible apply MV.ifX_er) | (with_reducible apply MV.ex_2X) | (with_reducible apply MV.m2R_er) | (with_reducible apply MV.m2R_ok) | (with_reducible apply MV.ex_callX) | (with_reducible apply MV.st_try) | (with_reducible apply MV.try_nx) | (with_reducible apply MV.try_rt) | (with_reducible apply MV.try_ex) | (with_reducible apply MV.end_rt) | (with_reducible apply MV.end_nx) | (with_reducible apply MV.st_guard) | (with_reducible apply MV.fld_ok) | (with_reducible apply MV.isv_ok) | (with_reducible apply MV.some_rfl) | (refine MV.ite_t (by assumption) ?_) | (refine MV.ite_f (by assumption) ?_) | (exact (by assumption : _ = true)) | (refine MV.ite_dt (by omega) ?_) | (refine MV.ite_df (by omega) ?_) | (refine MV.ite_et (by omega) ?_) | (refine MV.ite_ef (by omega) ?_)))
    · rw [e1, e2]; rfl
    · exact o
    · exact o

theorem is_of {d : D} (ht : isD "tuple" d = some (.bool true)) (h : reprOk d = true) : m__law_is [d, d] = some (.bool true) := by
  (apply run_ok; case hl => exact rfl); (unfold b__law_is; simp only [List.map_cons, List.map_nil, List.replicate, List.cons_append, List.nil_append])
  (repeat (first | (with_reducible apply ht <;> first | omega | skip) | (with_reducible apply fRepr_ok h <;> first | omega | skip) | (with_reducible apply MV.seq_ok) | (with_reducible apply MV.then_nx) | (with_reducible apply MV.then_rt) | (with_reducible apply MV.ar_cons) | (with_reducible apply MV.ar_nil) | (with_reducible apply MV.ex_c) | (with_reducible apply MV.var_0) | (with_reducible apply MV.var_s) | (with_reducible apply MV.own_0) | (with_reducible apply MV.own_0d) | (with_reducible apply MV.own_s) | (with_reducible apply MV.ex_2) | (with_reducible apply MV.ex_call0) | (with_reducible apply MV.ex_fn) | (with_reducible apply MV.st_set) | (with_reducible apply MV.set_0) | (with_reducible apply MV.set_s) | (with_reducible apply MV.st_post) | (with_reducible apply MV.post_nx) | (with_reducible apply MV.post_rt) | (with_reducible apply MV.wipe_0) | (with_reducible apply MV.wipe_s) | (with_reducible apply MV.op_add') | (with_reducible apply MV.op_sub') | (with_reducible apply MV.dMul_ok; rotate_left) | (with_reducible apply MV.dDiv_ok; rotate_left) | (with_reducible apply MV.dMod_ok; rotate_left) | (with_reducible apply MV.op_ixL) | (with_reducible apply MV.op_ixT) | (with_reducible apply MV.at_0) | (with_reducible apply MV.fn_int) | (with_reducible apply MV.fn_abs) | (with_reducible apply MV.fn_len) | (with_reducible apply MV.fn_lenT) | (with_reducible apply MV.fn_tupL) | (with_reducible apply MV.fn_tupT) | (with_reducible apply MV.fn_lstL) | (with_reducible apply MV.fn_lstT) | (with_reducible apply MV.ex_tup) | (with_reducible apply MV.ex_lst) | (with_reducible apply MV.ex_l) | (with_reducible apply MV.len_0) | (with_reducible apply MV.len_s) | (with_reducible apply MV.st_ret) | (with_reducible apply MV.retO_0) | (with_reducible apply MV.retO_0d) | (with_reducible apply MV.retO_s) | (with_reducible apply MV.st_if) | (with_reducible apply MV.ite_tt) | (with_reducible apply MV.ite_ff) | (with_reducible apply MV.bo_as) | (with_reducible apply MV.bo_tru) | (with_reducible apply MV.bo_and) | (with_reducible apply MV.bo_or) | (with_reducible apply MV.bo_not) | (with_reducible apply MV.not_t) | (with_reducible apply MV.not_f) | (with_reducible apply MV.ex_and) | (with_reducible apply MV.ex_or) | (with_reducible apply MV.ex_not) | (with_reducible apply MV.ex_if) | (with_reducible apply MV.st_skip) | (with_reducible apply MV.st_drop) | (with_reducible apply MV.st_brk) | (with_reducible apply MV.st_cnt) | (with_reducible apply MV.st_setO) | (with_reducible apply MV.app_at) | (with_reducible apply MV.get_0) | (with_reducible apply MV.get_s) | (with_reducible apply MV.st_par) | (with_reducible apply MV.st_asg) | (with_reducible apply MV.tg_set) | (with_reducible apply MV.tg_tup) | (with_reducible apply MV.tg_cons) | (with_reducible apply MV.tg_nil) | (with_reducible apply MV.st_for) | (with_reducible apply MV.st_frz) | (with_reducible apply MV.put_at) | (with_reducible apply MV.src_seq) | (with_reducible apply MV.src_2) | (with_reducible apply MV.seq_l) | (with_reducible apply MV.seq_t) | (with_reducible apply MV.zip_ok) | (with_reducible apply MV.enum_ok) | (with_reducible apply MV.ex_1) | (with_reducible apply MV.ex_call) | (with_reducible apply MV.op_neg') | (with_reducible apply MV.op_lt') | (with_reducible apply MV.op_le') | (with_reducible apply MV.op_gt') | (with_reducible apply MV.op_ge') | (with_reducible apply MV.op_p18) | (with_reducible apply MV.op_p9) | (with_reducible apply MV.op_p30) | (with_reducible apply MV.op_eqI) | (with_reducible apply MV.op_neI) | (with_reducible apply MV.op_eqSS) | (with_reducible apply MV.op_neSS) | (with_reducible apply MV.op_eqS) | (with_reducible apply MV.op_neS) | (with_reducible apply MV.op_eqB) | (with_reducible apply MV.op_neB) | (with_reducible apply MV.fn_gcd) | (with_reducible apply MV.fn_intB) | (with_reducible apply MV.post_bk) | (with_reducible apply MV.post_ct) | (with_reducible apply MV.then_bk) | (with_reducible apply MV.then_ct) | (with_reducible apply MV.cut_ok) | (with_reducible apply MV.part_ok) | (with_reducible apply MV.part_no) | (with_reducible apply MV.then_ex) | (with_reducible apply MV.post_ex) | (with_reducible apply MV.st_raise) | (with_reducible apply MV.mk_err) | (with_reducible apply MV.err_int) | (with_reducible apply MV.err_non) | (with_reducible apply MV.st_ifX) | (with_reducible apply MV.ifX_ok) | (with_reducible apply MV.ifX_er) | (with_reducible apply MV.ex_2X) | (with_reducible apply MV.m2R_er) | (with_reducible apply MV.m2R_ok) | (with_reducible apply MV.ex_callX) | (with_reducible apply MV.st_try) | (with_reducible apply MV.try_nx) | (with_reducible apply MV.try_rt) | (with_reducible apply MV.try_ex) | (with_reducible apply MV.end_rt) | (with_reducible apply MV.end_nx) | (with_reducible apply MV.st_guard) | (with_reducible apply MV.fld_ok) | (with_reducible apply MV.isv_ok) | (with_reducible apply MV.some_rfl) | (refine MV.ite_t (by assumption) ?_) | (refine MV.ite_f (by assumption) ?_) | (exact (by assumption : _ = true)) | (refine MV.ite_dt (by omega) ?_) | (refine MV.ite_df (by omega) ?_) | (refine MV.ite_et (by omega) ?_) | (refine MV.ite_ef (by omega) ?_)))
  rfl
theorem tup_is (ds : List D) : isD "tuple" (.tuple ds) = some (.bool true) := by
  have k : kitB "tuple" "tuple" = some true := by decide +kernel
  unfold isD
  show (kitB "tuple" "tuple").map PyData.bool = _
  rw [k]
  rfl
theorem bulkAll_pt : ∀ qs : List Rat, PyData.bulkAll (qs.map ratD) ≤ 3 * qs.length
  | [] => Nat.le_refl _
  | q :: qs => by
    have i := bulkAll_pt qs
    have e : (ratD q).bulk = 2 := rfl
    rw [List.map_cons, PyData.bulkAll, List.length_cons, e]
    omega
theorem depthAll_pt : ∀ qs : List Rat, PyData.depthAll (qs.map ratD) ≤ 1
  | [] => Nat.zero_le _
  | q :: qs => by
    have i := depthAll_pt qs
    have e : (ratD q).depth = 1 := rfl
    rw [List.map_cons, PyData.depthAll, e]
    omega
theorem okD_pt {B : Nat} {qs : List Rat} (h : ∀ q ∈ qs, Sm B q) (e : B ≤ 1900) : ∀ d ∈ qs.map ratD, okD d := fun d hd => by
  obtain ⟨q, hq, e2⟩ := List.mem_map.mp hd
  rw [← e2]
  exact (h q hq).okD e
theorem repr_rat {B : Nat} {q : Rat} (h : Sm B q) (e : B ≤ 1900) : reprOk (ratD q) = true := reprOk_of (h.okD e) (show 2 ≤ 2000 by decide) (show 1 ≤ 60 by decide)
theorem repr_pt {B : Nat} {qs : List Rat} (h : ∀ q ∈ qs, Sm B q) (e : B ≤ 1900) (hl : qs.length ≤ 600) : reprOk (ptD qs) = true := by
  refine reprOk_of (okD_tup (okD_pt h e)) ?_ ?_
  · have := bulkAll_pt qs
    show PyData.bulkAll (qs.map ratD) ≤ 2000
    omega
  · have := depthAll_pt qs
    show PyData.depthAll (qs.map ratD) + 1 ≤ 60
    omega
theorem is_rat {B : Nat} {q : Rat} (h : Sm B q) (e : B ≤ 1900) : m__law_is [ratD q, ratD q] = some (.bool true) := is_of (tup_is _) (repr_rat h e)
theorem is_pt {B : Nat} {qs : List Rat} (h : ∀ q ∈ qs, Sm B q) (e : B ≤ 1900) (hl : qs.length ≤ 600) : m__law_is [ptD qs, ptD qs] = some (.bool true) := is_of (tup_is _) (repr_pt h e hl)

/-! isinstance -/
def isTup : D → Bool
  | .tuple _ => true
  | _ => false
def isWhole : D → Bool
  | .int _ => true
  | _ => false
def isBoo : D → Bool
  | .bool _ => true
  | _ => false
theorem isD_of {T : String} {v : D} {b : Bool} (h : kitB (tyName v) T = some b) : isD T v = some (.bool b) := by
  unfold isD
  rw [h]
  rfl
theorem isD_tup (v : D) : isD "tuple" v = some (.bool (isTup v)) := by
  refine isD_of ?_
  cases v <;> (show kitB _ _ = some _; simp only [tyName, isTup]; decide +kernel)
theorem isD_bool (v : D) : isD "bool" v = some (.bool (isBoo v)) := by
  refine isD_of ?_
  cases v <;> (show kitB _ _ = some _; simp only [tyName, isBoo]; decide +kernel)
theorem isD_int (v : D) : isD "int" v = some (.bool (isWhole v || isBoo v)) := by
  refine isD_of ?_
  cases v <;> (show kitB _ _ = some _; simp only [tyName, isBoo, isWhole]; decide +kernel)
theorem int_of {v : D} (h : isWhole v = true) : ∃ n : Int, v = .int n := by cases v <;> first | exact ⟨_, rfl⟩ | cases h

theorem whole_at (v : D) : m_is_whole [v] = some (.bool (isWhole v)) := by
  have t1 := isD_int v
  have t2 := isD_bool v
  cases h2 : isBoo v with
  | true =>
    have e : isWhole v = false := by cases v <;> first | rfl | cases h2
    rw [h2, e, Bool.false_or] at t1
    rw [h2] at t2
    rw [e]
    (apply run_ok; case hl => exact rfl); (unfold b_is_whole; simp only [List.map_cons, List.map_nil, List.replicate, List.cons_append, List.nil_append])
    (repeat (first | (with_reducible apply t1 <;> first | omega | skip) | (with_reducible apply t2 <;> first | omega | skip) | (with_reducible apply MV.seq_ok) | (with_reducible apply MV.then_nx) | (with_reducible apply MV.then_rt) | (with_reducible apply MV.ar_cons) | (with_reducible apply MV.ar_nil) | (with_reducible apply MV.ex_c) | (with_reducible apply MV.var_0) | (with_reducible apply MV.var_s) | (with_reducible apply MV.own_0) | (with_reducible apply MV.own_0d) | (with_reducible apply MV.own_s) | (with_reducible apply MV.ex_2) | (with_reducible apply MV.ex_call0) | (with_reducible apply MV.ex_fn) | (with_reducible apply MV.st_set) | (with_reducible apply MV.set_0) | (with_reducible apply MV.set_s) | (with_reducible apply MV.st_post) | (with_reducible apply MV.post_nx) | (with_reducible apply MV.post_rt) | (with_reducible apply MV.wipe_0) | (with_reducible apply MV.wipe_s) | (with_reducible apply MV.op_add') | (with_reducible apply MV.op_sub') | (with_reducible apply MV.dMul_ok; rotate_left) | (with_reducible apply MV.dDiv_ok; rotate_left) | (with_reducible apply MV.dMod_ok; rotate_left) | (with_reducible apply MV.op_ixL) | (with_reducible apply MV.op_ixT) | (with_reducible apply MV.at_0) | (with_reducible apply MV.fn_int) | (with_reducible apply MV.fn_abs) | (with_reducible apply MV.fn_len) | (with_reducible apply MV.fn_lenT) | (with_reducible apply MV.fn_tupL) | (with_reducible apply MV.fn_tupT) | (with_reducible apply MV.fn_lstL) | (with_reducible apply MV.fn_lstT) | (with_reducible apply MV.ex_tup) | (with_reducible apply MV.ex_lst) | (with_reducible apply MV.ex_l) | (with_reducible apply MV.len_0) | (with_reducible apply MV.len_s) | (with_reducible apply MV.st_ret) | (with_reducible apply MV.retO_0) | (with_reducible apply MV.retO_0d) | (with_reducible apply MV.retO_s) | (with_reducible apply MV.st_if) | (with_reducible apply MV.ite_tt) | (with_reducible apply MV.ite_ff) | (with_reducible apply MV.bo_as) | (with_reducible apply MV.bo_tru) | (with_reducible apply MV.bo_and) | (with_reducible apply MV.bo_or) | (with_reducible apply MV.bo_not) | (with_reducible apply MV.not_t) | (with_reducible apply MV.not_f) | (with_reducible apply MV.ex_and) | (with_reducible apply MV.ex_or) | (with_reducible apply MV.ex_not) | (with_reducible apply MV.ex_if) | (with_reducible apply MV.st_skip) | (with_reducible apply MV.st_drop) | (with_reducible apply MV.st_brk) | (with_reducible apply MV.st_cnt) | (with_reducible apply MV.st_setO) | (with_reducible apply MV.app_at) | (with_reducible apply MV.get_0) | (with_reducible apply MV.get_s) | (with_reducible apply MV.st_par) | (with_reducible apply MV.st_asg) | (with_reducible apply MV.tg_set) | (with_reducible apply MV.tg_tup) | (with_reducible apply MV.tg_cons) | (with_reducible apply MV.tg_nil) | (with_reducible apply MV.st_for) | (with_reducible apply MV.st_frz) | (with_reducible apply MV.put_at) | (with_reducible apply MV.src_seq) | (with_reducible apply MV.src_2) | (with_reducible apply MV.seq_l) | (with_reducible apply MV.seq_t) | (with_reducible apply MV.zip_ok) | (with_reducible apply MV.enum_ok) | (with_reducible apply MV.ex_1) | (with_reducible apply MV.ex_call) | (with_reducible apply MV.op_neg') | (with_reducible apply MV.op_lt') | (with_reducible apply MV.op_le') | (with_reducible apply MV.op_gt') | (with_reducible apply MV.op_ge') | (with_reducible apply MV.op_p18) | (with_reducible apply MV.op_p9) | (with_reducible apply MV.op_p30) | (with_reducible apply MV.op_eqI) | (with_reducible apply MV.op_neI) | (with_reducible apply MV.op_eqSS) | (with_reducible apply MV.op_neSS) | (with_reducible apply MV.op_eqS) | (with_reducible apply MV.op_neS) | (with_reducible apply MV.op_eqB) | (with_reducible apply MV.op_neB) | (with_reducible apply MV.fn_gcd) | (with_reducible apply MV.fn_intB) | (with_reducible apply MV.post_bk) | (with_reducible apply MV.post_ct) | (with_reducible apply MV.then_bk) | (with_reducible apply MV.then_ct) | (with_reducible apply MV.cut_ok) | (with_reducible apply MV.part_ok) | (with_reducible apply MV.part_no) | (with_reducible apply MV.then_ex) | (with_reducible apply MV.post_ex) | (with_reducible apply MV.st_raise) | (with_reducible apply MV.mk_err) | (with_reducible apply MV.err_int) | (with_reducible apply MV.err_non) | (with_reducible apply MV.st_ifX) | (with_reducible apply MV.ifX_ok) | (with_reducible apply MV.ifX_er) | (with_reducible apply MV.ex_2X) | (with_reducible apply MV.m2R_er) | (with_reducible apply MV.m2R_ok) | (with_reducible apply MV.ex_callX) | (with_reducible apply MV.st_try) | (with_reducible apply MV.try_nx) | (with_reducible apply MV.try_rt) | (with_reducible apply MV.try_ex) | (with_reducible apply MV.end_rt) | (with_reducible apply MV.end_nx) | (with_reducible apply MV.st_guard) | (with_reducible apply MV.fld_ok) | (with_reducible apply MV.isv_ok) | (with_reducible apply MV.some_rfl) | (refine MV.ite_t (by assumption) ?_) | (refine MV.ite_f (by assumption) ?_) | (exact (by assumption : _ = true)) | (refine MV.ite_dt (by omega) ?_) | (refine MV.ite_df (by omega) ?_) | (refine MV.ite_et (by omega) ?_) | (refine MV.ite_ef (by omega) ?_)))
    rfl
  | false =>
    rw [h2, Bool.or_false] at t1
    rw [h2] at t2
    cases h1 : isWhole v with
    | true =>
      rw [h1] at t1
      (apply run_ok; case hl => exact rfl); (unfold b_is_whole; simp only [List.map_cons, List.map_nil, List.replicate, List.cons_append, List.nil_append])
      (repeat (first | (with_reducible apply t1 <;> first | omega | skip) | (with_reducible apply t2 <;> first | omega | skip) | (with_reducible apply MV.seq_ok) | (with_reducible apply MV.then_nx) | (with_reducible apply MV.then_rt) | (with_reducible apply MV.ar_cons) | (with_reducible apply MV.ar_nil) | (with_reducible apply MV.ex_c) | (with_reducible apply MV.var_0) | (with_reducible apply MV.var_s) | (with_reducible apply MV.own_0) | (with_reducible apply MV.own_0d) | (with_reducible apply MV.own_s) | (with_reducible apply MV.ex_2) | (with_reducible apply MV.ex_call0) | (with_reducible apply MV.ex_fn) | (with_reducible apply MV.st_set) | (with_reducible apply MV.set_0) | (with_reducible apply MV.set_s) | (with_reducible apply MV.st_post) | (with_reducible apply MV.post_nx) | (with_reducible apply MV.post_rt) | (with_reducible apply MV.wipe_0) | (with_reducible apply MV.wipe_s) | (with_reducible apply MV.op_add') | (with_reducible apply MV.op_sub') | (with_reducible apply MV.dMul_ok; rotate_left) | (with_reducible apply MV.dDiv_ok; rotate_left) | (with_reducible apply MV.dMod_ok; rotate_left) | (with_reducible apply MV.op_ixL) | (with_reducible apply MV.op_ixT) | (with_reducible apply MV.at_0) | (with_reducible apply MV.fn_int) | (with_reducible apply MV.fn_abs) | (with_reducible apply MV.fn_len) | (with_reducible apply MV.fn_lenT) | (with_reducible apply MV.fn_tupL) | (with_reducible apply MV.fn_tupT) | (with_reducible apply MV.fn_lstL) | (with_reducible apply MV.fn_lstT) | (with_reducible apply MV.ex_tup) | (with_reducible apply MV.ex_lst) | (with_reducible apply MV.ex_l) | (with_reducible apply MV.len_0) | (with_reducible apply MV.len_s) | (with_reducible apply MV.st_ret) | (with_reducible apply MV.retO_0) | (with_reducible apply MV.retO_0d) | (with_reducible apply MV.retO_s) | (with_reducible apply MV.st_if) | (with_reducible apply MV.ite_tt) | (with_reducible apply MV.ite_ff) | (with_reducible apply MV.bo_as) | (with_reducible apply MV.bo_tru) | (with_reducible apply MV.bo_and) | (with_reducible apply MV.bo_or) | (with_reducible apply MV.bo_not) | (with_reducible apply MV.not_t) | (with_reducible apply MV.not_f) | (with_reducible apply MV.ex_and) | (with_reducible apply MV.ex_or) | (with_reducible apply MV.ex_not) | (with_reducible apply MV.ex_if) | (with_reducible apply MV.st_skip) | (with_reducible apply MV.st_drop) | (with_reducible apply MV.st_brk) | (with_reducible apply MV.st_cnt) | (with_reducible apply MV.st_setO) | (with_reducible apply MV.app_at) | (with_reducible apply MV.get_0) | (with_reducible apply MV.get_s) | (with_reducible apply MV.st_par) | (with_reducible apply MV.st_asg) | (with_reducible apply MV.tg_set) | (with_reducible apply MV.tg_tup) | (with_reducible apply MV.tg_cons) | (with_reducible apply MV.tg_nil) | (with_reducible apply MV.st_for) | (with_reducible apply MV.st_frz) | (with_reducible apply MV.put_at) | (with_reducible apply MV.src_seq) | (with_reducible apply MV.src_2) | (with_reducible apply MV.seq_l) | (with_reducible apply MV.seq_t) | (with_reducible apply MV.zip_ok) | (with_reducible apply MV.enum_ok) | (with_reducible apply MV.ex_1) | (with_reducible apply MV.ex_call) | (with_reducible apply MV.op_neg') | (with_reducible apply MV.op_lt') | (with_reducible apply MV.op_le') | (with_reducible apply MV.op_gt') | (with_reducible apply MV.op_ge') | (with_reducible apply MV.op_p18) | (with_reducible apply MV.op_p9) | (with_reducible apply MV.op_p30) | (with_reducible apply MV.op_eqI) | (with_reducible apply MV.op_neI) | (with_reducible apply MV.op_eqSS) | (with_reducible apply MV.op_neSS) | (with_reducible apply MV.op_eqS) | (with_reducible apply MV.op_neS) | (with_reducible apply MV.op_eqB) | (with_reducible apply MV.op_neB) | (with_reducible apply MV.fn_gcd) | (with_reducible apply MV.fn_intB) | (with_reducible apply MV.post_bk) | (with_reducible apply MV.post_ct) | (with_reducible apply MV.then_bk) | (with_reducible apply MV.then_ct) | (with_reducible apply MV.cut_ok) | (with_reducible apply MV.part_ok) | (with_reducible apply MV.part_no) | (with_reducible apply MV.then_ex) | (with_reducible apply MV.post_ex) | (with_reducible apply MV.st_raise) | (with_reducible apply MV.mk_err) | (with_reducible apply MV.err_int) | (with_reducible apply MV.err_non) | (with_reducible apply MV.st_ifX) | (with_reducible apply MV.ifX_ok) | (with_reducible apply MV.ifX_er) | (with_reducible apply MV.ex_2X) | (with_reducible apply MV.m2R_er) | (with_reducible apply MV.m2R_ok) | (with_reducible apply MV.ex_callX) | (with_reducible apply MV.st_try) | (with_reducible apply MV.try_nx) | (with_reducible apply MV.try_rt) | (with_reducible apply MV.try_ex) | (with_reducible apply MV.end_rt) | (with_reducible apply MV.end_nx) | (with_reducible apply MV.st_guard) | (with_reducible apply MV.fld_ok) | (with_reducible apply MV.isv_ok) | (with_reducible apply MV.some_rfl) | (refine MV.ite_t (by assumption) ?_) | (refine MV.ite_f (by assumption) ?_) | (exact (by assumption : _ = true)) | (refine MV.ite_dt (by omega) ?_) | (refine MV.ite_df (by omega) ?_) | (refine MV.ite_et (by omega) ?_) | (refine MV.ite_ef (by omega) ?_)))
      rfl
    | false =>
      rw [h1] at t1
      (apply run_ok; case hl => exact rfl); (unfold b_is_whole; simp only [List.map_cons, List.map_nil, List.replicate, List.cons_append, List.nil_append])
      (repeat (first | (with_reducible apply t1 <;> first | omega | skip) | (with_reducible apply t2 <;> first | omega | skip) | (with_reducible apply MV.seq_ok) | (with_reducible apply MV.then_nx) | (with_reducible apply MV.then_rt) | (with_reducible apply MV.ar_cons) | (with_reducible apply MV.ar_nil) | (with_reducible apply MV.ex_c) | (with_reducible apply MV.var_0) | (with_reducible apply MV.var_s) | (with_reducible apply MV.own_0) | (with_reducible apply MV.own_0d) | (with_reducible apply MV.own_s) | (with_reducible apply MV.ex_2) | (with_reducible apply MV.ex_call0) | (with_reducible apply MV.ex_fn) | (with_reducible apply MV.st_set) | (with_reducible apply MV.set_0) | (with_reducible apply MV.set_s) | (with_reducible apply MV.st_post) | (with_reducible apply MV.post_nx) | (with_reducible apply MV.post_rt) | (with_reducible apply MV.wipe_0) | (with_reducible apply MV.wipe_s) | (with_reducible apply MV.op_add') | (with_reducible apply MV.op_sub') | (with_reducible apply MV.dMul_ok; rotate_left) | (with_reducible apply MV.dDiv_ok; rotate_left) | (with_reducible apply MV.dMod_ok; rotate_left) | (with_reducible apply MV.op_ixL) | (with_reducible apply MV.op_ixT) | (with_reducible apply MV.at_0) | (with_reducible apply MV.fn_int) | (with_reducible apply MV.fn_abs) | (with_reducible apply MV.fn_len) | (with_reducible apply MV.fn_lenT) | (with_reducible apply MV.fn_tupL) | (with_reducible apply MV.fn_tupT) | (with_reducible apply MV.fn_lstL) | (with_reducible apply MV.fn_lstT) | (with_reducible apply MV.ex_tup) | (with_reducible apply MV.ex_lst) | (with_reducible apply MV.ex_l) | (with_reducible apply MV.len_0) | (with_reducible apply MV.len_s) | (with_reducible apply MV.st_ret) | (with_reducible apply MV.retO_0) | (with_reducible apply MV.retO_0d) | (with_reducible apply MV.retO_s) | (with_reducible apply MV.st_if) | (with_reducible apply MV.ite_tt) | (with_reducible apply MV.ite_ff) | (with_reducible apply MV.bo_as) | (with_reducible apply MV.bo_tru) | (with_reducible apply MV.bo_and) | (with_reducible apply MV.bo_or) | (with_reducible apply MV.bo_not) | (with_reducible apply MV.not_t) | (with_reducible apply MV.not_f) | (with_reducible apply MV.ex_and) | (with_reducible apply MV.ex_or) | (with_reducible apply MV.ex_not) | (with_reducible apply MV.ex_if) | (with_reducible apply MV.st_skip) | (with_reducible apply MV.st_drop) | (with_reducible apply MV.st_brk) | (with_reducible apply MV.st_cnt) | (with_reducible apply MV.st_setO) | (with_reducible apply MV.app_at) | (with_reducible apply MV.get_0) | (with_reducible apply MV.get_s) | (with_reducible apply MV.st_par) | (with_reducible apply MV.st_asg) | (with_reducible apply MV.tg_set) | (with_reducible apply MV.tg_tup) | (with_reducible apply MV.tg_cons) | (with_reducible apply MV.tg_nil) | (with_reducible apply MV.st_for) | (with_reducible apply MV.st_frz) | (with_reducible apply MV.put_at) | (with_reducible apply MV.src_seq) | (with_reducible apply MV.src_2) | (with_reducible apply MV.seq_l) | (with_reducible apply MV.seq_t) | (with_reducible apply MV.zip_ok) | (with_reducible apply MV.enum_ok) | (with_reducible apply MV.ex_1) | (with_reducible apply MV.ex_call) | (with_reducible apply MV.op_neg') | (with_reducible apply MV.op_lt') | (with_reducible apply MV.op_le') | (with_reducible apply MV.op_gt') | (with_reducible apply MV.op_ge') | (with_reducible apply MV.op_p18) | (with_reducible apply MV.op_p9) | (with_reducible apply MV.op_p30) | (with_reducible apply MV.op_eqI) | (with_reducible apply MV.op_neI) | (with_reducible apply MV.op_eqSS) | (with_reducible apply MV.op_neSS) | (with_reducible apply MV.op_eqS) | (with_reducible apply MV.op_neS) | (with_reducible apply MV.op_eqB) | (with_reducible apply MV.op_neB) | (with_reducible apply MV.fn_gcd) | (with_reducible apply MV.fn_intB) | (with_reducible apply MV.post_bk) | (with_reducible apply MV.post_ct) | (with_reducible apply MV.then_bk) | (with_reducible apply MV.then_ct) | (with_reducible apply MV.cut_ok) | (with_reducible apply MV.part_ok) | (with_reducible apply MV.part_no) | (with_reducible apply MV.then_ex) | (with_reducible apply MV.post_ex) | (with_reducible apply MV.st_raise) | (with_reducible apply MV.mk_err) | (with_reducible apply MV.err_int) | (with_reducible apply MV.err_non) | (with_reducible apply MV.st_ifX) | (with_reducible apply MV.ifX_ok) | (with_reducible apply MV.ifX_er) | (with_reducible apply MV.ex_2X) | (with_reducible apply MV.m2R_er) | (with_reducible apply MV.m2R_ok) | (with_reducible apply MV.ex_callX) | (with_reducible apply MV.st_try) | (with_reducible apply MV.try_nx) | (with_reducible apply MV.try_rt) | (with_reducible apply MV.try_ex) | (with_reducible apply MV.end_rt) | (with_reducible apply MV.end_nx) | (with_reducible apply MV.st_guard) | (with_reducible apply MV.fld_ok) | (with_reducible apply MV.isv_ok) | (with_reducible apply MV.some_rfl) | (refine MV.ite_t (by assumption) ?_) | (refine MV.ite_f (by assumption) ?_) | (exact (by assumption : _ = true)) | (refine MV.ite_dt (by omega) ?_) | (refine MV.ite_df (by omega) ?_) | (refine MV.ite_et (by omega) ?_) | (refine MV.ite_ef (by omega) ?_)))
      rfl

def isFrac : D → Bool
  | .tuple [.int n, .int d] => decide (1 ≤ d) && ((Nat.gcd n.natAbs d.natAbs : Nat) : Int) == 1
  | _ => false
theorem is_fraction_at (v : D) : m_is_fraction [v] = some (.bool (isFrac v)) := by
  have no : ∀ w : D, isTup w = false → isFrac w = false := fun w h => by cases w <;> first | rfl | cases h
  cases hv : isTup v with
  | false =>
    have t := isD_tup v
    rw [hv] at t
    rw [no v hv]
    (apply run_ok; case hl => exact rfl); (unfold b_is_fraction; simp only [List.map_cons, List.map_nil, List.replicate, List.cons_append, List.nil_append])
    (repeat (first | (with_reducible apply t <;> first | omega | skip) | (with_reducible apply MV.seq_ok) | (with_reducible apply MV.then_nx) | (with_reducible apply MV.then_rt) | (with_reducible apply MV.ar_cons) | (with_reducible apply MV.ar_nil) | (with_reducible apply MV.ex_c) | (with_reducible apply MV.var_0) | (with_reducible apply MV.var_s) | (with_reducible apply MV.own_0) | (with_reducible apply MV.own_0d) | (with_reducible apply MV.own_s) | (with_reducible apply MV.ex_2) | (with_reducible apply MV.ex_call0) | (with_reducible apply MV.ex_fn) | (with_reducible apply MV.st_set) | (with_reducible apply MV.set_0) | (with_reducible apply MV.set_s) | (with_reducible apply MV.st_post) | (with_reducible apply MV.post_nx) | (with_reducible apply MV.post_rt) | (with_reducible apply MV.wipe_0) | (with_reducible apply MV.wipe_s) | (with_reducible apply MV.op_add') | (with_reducible apply MV.op_sub') | (with_reducible apply MV.dMul_ok; rotate_left) | (with_reducible apply MV.dDiv_ok; rotate_left) | (with_reducible apply MV.dMod_ok; rotate_left) | (with_reducible apply MV.op_ixL) | (with_reducible apply MV.op_ixT) | (with_reducible apply MV.at_0) | (with_reducible apply MV.fn_int) | (with_reducible apply MV.fn_abs) | (with_reducible apply MV.fn_len) | (with_reducible apply MV.fn_lenT) | (with_reducible apply MV.fn_tupL) | (with_reducible apply MV.fn_tupT) | (with_reducible apply MV.fn_lstL) | (with_reducible apply MV.fn_lstT) | (with_reducible apply MV.ex_tup) | (with_reducible apply MV.ex_lst) | (with_reducible apply MV.ex_l) | (with_reducible apply MV.len_0) | (with_reducible apply MV.len_s) | (with_reducible apply MV.st_ret) | (with_reducible apply MV.retO_0) | (with_reducible apply MV.retO_0d) | (with_reducible apply MV.retO_s) | (with_reducible apply MV.st_if) | (with_reducible apply MV.ite_tt) | (with_reducible apply MV.ite_ff) | (with_reducible apply MV.bo_as) | (with_reducible apply MV.bo_tru) | (with_reducible apply MV.bo_and) | (with_reducible apply MV.bo_or) | (with_reducible apply MV.bo_not) | (with_reducible apply MV.not_t) | (with_reducible apply MV.not_f) | (with_reducible apply MV.ex_and) | (with_reducible apply MV.ex_or) | (with_reducible apply MV.ex_not) | (with_reducible apply MV.ex_if) | (with_reducible apply MV.st_skip) | (with_reducible apply MV.st_drop) | (with_reducible apply MV.st_brk) | (with_reducible apply MV.st_cnt) | (with_reducible apply MV.st_setO) | (with_reducible apply MV.app_at) | (with_reducible apply MV.get_0) | (with_reducible apply MV.get_s) | (with_reducible apply MV.st_par) | (with_reducible apply MV.st_asg) | (with_reducible apply MV.tg_set) | (with_reducible apply MV.tg_tup) | (with_reducible apply MV.tg_cons) | (with_reducible apply MV.tg_nil) | (with_reducible apply MV.st_for) | (with_reducible apply MV.st_frz) | (with_reducible apply MV.put_at) | (with_reducible apply MV.src_seq) | (with_reducible apply MV.src_2) | (with_reducible apply MV.seq_l) | (with_reducible apply MV.seq_t) | (with_reducible apply MV.zip_ok) | (with_reducible apply MV.enum_ok) | (with_reducible apply MV.ex_1) | (with_reducible apply MV.ex_call) | (with_reducible apply MV.op_neg') | (with_reducible apply MV.op_lt') | (with_reducible apply MV.op_le') | (with_reducible apply MV.op_gt') | (with_reducible apply MV.op_ge') | (with_reducible apply MV.op_p18) | (with_reducible apply MV.op_p9) | (with_reducible apply MV.op_p30) | (with_reducible apply MV.op_eqI) | (with_reducible apply MV.op_neI) | (with_reducible apply MV.op_eqSS) | (with_reducible apply MV.op_neSS) | (with_reducible apply MV.op_eqS) | (with_reducible apply MV.op_neS) | (with_reducible apply MV.op_eqB) | (with_reducible apply MV.op_neB) | (with_reducible apply MV.fn_gcd) | (with_reducible apply MV.fn_intB) | (with_reducible apply MV.post_bk) | (with_reducible apply MV.post_ct) | (with_reducible apply MV.then_bk) | (with_reducible apply MV.then_ct) | (with_reducible apply MV.cut_ok) | (with_reducible apply MV.part_ok) | (with_reducible apply MV.part_no) | (with_reducible apply MV.then_ex) | (with_reducible apply MV.post_ex) | (with_reducible apply MV.st_raise) | (with_reducible apply MV.mk_err) | (with_reducible apply MV.err_int) | (with_reducible apply MV.err_non) | (with_reducible apply MV.st_ifX) | (with_reducible apply MV.ifX_ok) | (with_reducible apply MV.ifX_er) | (with_reducible apply MV.ex_2X) | (with_reducible apply MV.m2R_er) | (with_reducible apply MV.m2R_ok) | (with_reducible apply MV.ex_callX) | (with_reducible apply MV.st_try) | (with_reducible apply MV.try_nx) | (with_reducible apply MV.try_rt) | (with_reducible apply MV.try_ex) | (with_reducible apply MV.end_rt) | (with_reducible apply MV.end_nx) | (with_reducible apply MV.st_guard) | (with_reducible apply MV.fld_ok) | (with_reducible apply MV.isv_ok) | (with_reducible apply MV.some_rfl) | (refine MV.ite_t (by assumption) ?_) | (refine MV.ite_f (by assumption) ?_) | (exact (by assumption : _ = true)) | (refine MV.ite_dt (by omega) ?_) | (refine MV.ite_df (by omega) ?_) | (refine MV.ite_et (by omega) ?_) | (refine MV.ite_ef (by omega) ?_)))
    rfl
  | true =>
    cases v <;> first | cases hv | skip
    rename_i ds
    have t : isD "tuple" (.tuple ds) = some (.bool true) := isD_tup _
    have far : ds.length ≠ 2 → m_is_fraction [.tuple ds] = some (.bool (isFrac (.tuple ds))) := fun h => by
      have e : isFrac (.tuple ds) = false := by
        match ds, h with
        | [], _ => rfl
        | [_], _ => simp [isFrac]
        | [_, _], h => exact absurd rfl h
        | _ :: _ :: _ :: _, _ => simp [isFrac]
      have nl : dNe (.int (ds.length : Int)) (.int 2) = some (.bool true) := by
        rw [op_neI, show ((ds.length : Int) == 2) = false by simpa using (by omega : (ds.length : Int) ≠ 2)]
        rfl
      rw [e]
      (apply run_ok; case hl => exact rfl); (unfold b_is_fraction; simp only [List.map_cons, List.map_nil, List.replicate, List.cons_append, List.nil_append])
      (repeat (first | (with_reducible apply t <;> first | omega | skip) | (with_reducible apply nl <;> first | omega | skip) | (with_reducible apply MV.seq_ok) | (with_reducible apply MV.then_nx) | (with_reducible apply MV.then_rt) | (with_reducible apply MV.ar_cons) | (with_reducible apply MV.ar_nil) | (with_reducible apply MV.ex_c) | (with_reducible apply MV.var_0) | (with_reducible apply MV.var_s) | (with_reducible apply MV.own_0) | (with_reducible apply MV.own_0d) | (with_reducible apply MV.own_s) | (with_reducible apply MV.ex_2) | (with_reducible apply MV.ex_call0) | (with_reducible apply MV.ex_fn) | (with_reducible apply MV.st_set) | (with_reducible apply MV.set_0) | (with_reducible apply MV.set_s) | (with_reducible apply MV.st_post) | (with_reducible apply MV.post_nx) | (with_reducible apply MV.post_rt) | (with_reducible apply MV.wipe_0) | (with_reducible apply MV.wipe_s) | (with_reducible apply MV.op_add') | (with_reducible apply MV.op_sub') | (with_reducible apply MV.dMul_ok; rotate_left) | (with_reducible apply MV.dDiv_ok; rotate_left) | (with_reducible apply MV.dMod_ok; rotate_left) | (with_reducible apply MV.op_ixL) | (with_reducible apply MV.op_ixT) | (with_reducible apply MV.at_0) | (with_reducible apply MV.fn_int) | (with_reducible apply MV.fn_abs) | (with_reducible apply MV.fn_len) | (with_reducible apply MV.fn_lenT) | (with_reducible apply MV.fn_tupL) | (with_reducible apply MV.fn_tupT) | (with_reducible apply MV.fn_lstL) | (with_reducible apply MV.fn_lstT) | (with_reducible apply MV.ex_tup) | (with_reducible apply MV.ex_lst) | (with_reducible apply MV.ex_l) | (with_reducible apply MV.len_0) | (with_reducible apply MV.len_s) | (with_reducible apply MV.st_ret) | (with_reducible apply MV.retO_0) | (with_reducible apply MV.retO_0d) | (with_reducible apply MV.retO_s) | (with_reducible apply MV.st_if) | (with_reducible apply MV.ite_tt) | (with_reducible apply MV.ite_ff) | (with_reducible apply MV.bo_as) | (with_reducible apply MV.bo_tru) | (with_reducible apply MV.bo_and) | (with_reducible apply MV.bo_or) | (with_reducible apply MV.bo_not) | (with_reducible apply MV.not_t) | (with_reducible apply MV.not_f) | (with_reducible apply MV.ex_and) | (with_reducible apply MV.ex_or) | (with_reducible apply MV.ex_not) | (with_reducible apply MV.ex_if) | (with_reducible apply MV.st_skip) | (with_reducible apply MV.st_drop) | (with_reducible apply MV.st_brk) | (with_reducible apply MV.st_cnt) | (with_reducible apply MV.st_setO) | (with_reducible apply MV.app_at) | (with_reducible apply MV.get_0) | (with_reducible apply MV.get_s) | (with_reducible apply MV.st_par) | (with_reducible apply MV.st_asg) | (with_reducible apply MV.tg_set) | (with_reducible apply MV.tg_tup) | (with_reducible apply MV.tg_cons) | (with_reducible apply MV.tg_nil) | (with_reducible apply MV.st_for) | (with_reducible apply MV.st_frz) | (with_reducible apply MV.put_at) | (with_reducible apply MV.src_seq) | (with_reducible apply MV.src_2) | (with_reducible apply MV.seq_l) | (with_reducible apply MV.seq_t) | (with_reducible apply MV.zip_ok) | (with_reducible apply MV.enum_ok) | (with_reducible apply MV.ex_1) | (with_reducible apply MV.ex_call) | (with_reducible apply MV.op_neg') | (with_reducible apply MV.op_lt') | (with_reducible apply MV.op_le') | (with_reducible apply MV.op_gt') | (with_reducible apply MV.op_ge') | (with_reducible apply MV.op_p18) | (with_reducible apply MV.op_p9) | (with_reducible apply MV.op_p30) | (with_reducible apply MV.op_eqI) | (with_reducible apply MV.op_neI) | (with_reducible apply MV.op_eqSS) | (with_reducible apply MV.op_neSS) | (with_reducible apply MV.op_eqS) | (with_reducible apply MV.op_neS) | (with_reducible apply MV.op_eqB) | (with_reducible apply MV.op_neB) | (with_reducible apply MV.fn_gcd) | (with_reducible apply MV.fn_intB) | (with_reducible apply MV.post_bk) | (with_reducible apply MV.post_ct) | (with_reducible apply MV.then_bk) | (with_reducible apply MV.then_ct) | (with_reducible apply MV.cut_ok) | (with_reducible apply MV.part_ok) | (with_reducible apply MV.part_no) | (with_reducible apply MV.then_ex) | (with_reducible apply MV.post_ex) | (with_reducible apply MV.st_raise) | (with_reducible apply MV.mk_err) | (with_reducible apply MV.err_int) | (with_reducible apply MV.err_non) | (with_reducible apply MV.st_ifX) | (with_reducible apply MV.ifX_ok) | (with_reducible apply MV.ifX_er) | (with_reducible apply MV.ex_2X) | (with_reducible apply MV.m2R_er) | (with_reducible apply MV.m2R_ok) | (with_reducible apply MV.ex_callX) | (with_reducible apply MV.st_try) | (with_reducible apply MV.try_nx) | (with_reducible apply MV.try_rt) | (with_reducible apply MV.try_ex) | (with_reducible apply MV.end_rt) | (with_reducible apply MV.end_nx) | (with_reducible apply MV.st_guard) | (with_reducible apply MV.fld_ok) | (with_reducible apply MV.isv_ok) | (with_reducible apply MV.some_rfl) | (refine MV.ite_t (by assumption) ?_) | (refine MV.ite_f (by assumption) ?_) | (exact (by assumption : _ = true)) | (refine MV.ite_dt (by omega) ?_) | (refine MV.ite_df (by omega) ?_) | (refine MV.ite_et (by omega) ?_) | (refine MV.ite_ef (by omega) ?_)))
      rfl
    match ds, far with
    | [], far => exact far (by decide)
    | [_], far => exact far (by simp)
    | _ :: _ :: _ :: _, far => exact far (by simp)
    | [a, b], _ =>
      have n2 : dNe (.int (([a, b] : List D).length : Int)) (.int 2) = some (.bool false) := by rw [op_neI]; rfl
      cases ha : isWhole a with
      | false =>
        have e : isFrac (.tuple [a, b]) = false := by cases a <;> first | rfl | cases ha
        have w := whole_at a
        rw [ha] at w
        rw [e]
        (apply run_ok; case hl => exact rfl); (unfold b_is_fraction; simp only [List.map_cons, List.map_nil, List.replicate, List.cons_append, List.nil_append])
        (repeat (first | (with_reducible apply t <;> first | omega | skip) | (with_reducible apply n2 <;> first | omega | skip) | (with_reducible apply w <;> first | omega | skip) | (with_reducible apply MV.seq_ok) | (with_reducible apply MV.then_nx) | (with_reducible apply MV.then_rt) | (with_reducible apply MV.ar_cons) | (with_reducible apply MV.ar_nil) | (with_reducible apply MV.ex_c) | (with_reducible apply MV.var_0) | (with_reducible apply MV.var_s) | (with_reducible apply MV.own_0) | (with_reducible apply MV.own_0d) | (with_reducible apply MV.own_s) | (with_reducible apply MV.ex_2) | (with_reducible apply MV.ex_call0) | (with_reducible apply MV.ex_fn) | (with_reducible apply MV.st_set) | (with_reducible apply MV.set_0) | (with_reducible apply MV.set_s) | (with_reducible apply MV.st_post) | (with_reducible apply MV.post_nx) | (with_reducible apply MV.post_rt) | (with_reducible apply MV.wipe_0) | (with_reducible apply MV.wipe_s) | (with_reducible apply MV.op_add') | (with_reducible apply MV.op_sub') | (with_reducible apply MV.dMul_ok; rotate_left) | (with_reducible apply MV.dDiv_ok; rotate_left) | (with_reducible apply MV.dMod_ok; rotate_left) | (with_reducible apply MV.op_ixL) | (with_reducible apply MV.op_ixT) | (with_reducible apply MV.at_0) | (with_reducible apply MV.fn_int) | (with_reducible apply MV.fn_abs) | (with_reducible apply MV.fn_len) | (with_reducible apply MV.fn_lenT) | (with_reducible apply MV.fn_tupL) | (with_reducible apply MV.fn_tupT) | (with_reducible apply MV.fn_lstL) | (with_reducible apply MV.fn_lstT) | (with_reducible apply MV.ex_tup) | (with_reducible apply MV.ex_lst) | (with_reducible apply MV.ex_l) | (with_reducible apply MV.len_0) | (with_reducible apply MV.len_s) | (with_reducible apply MV.st_ret) | (with_reducible apply MV.retO_0) | (with_reducible apply MV.retO_0d) | (with_reducible apply MV.retO_s) | (with_reducible apply MV.st_if) | (with_reducible apply MV.ite_tt) | (with_reducible apply MV.ite_ff) | (with_reducible apply MV.bo_as) | (with_reducible apply MV.bo_tru) | (with_reducible apply MV.bo_and) | (with_reducible apply MV.bo_or) | (with_reducible apply MV.bo_not) | (with_reducible apply MV.not_t) | (with_reducible apply MV.not_f) | (with_reducible apply MV.ex_and) | (with_reducible apply MV.ex_or) | (with_reducible apply MV.ex_not) | (with_reducible apply MV.ex_if) | (with_reducible apply MV.st_skip) | (with_reducible apply MV.st_drop) | (with_reducible apply MV.st_brk) | (with_reducible apply MV.st_cnt) | (with_reducible apply MV.st_setO) | (with_reducible apply MV.app_at) | (with_reducible apply MV.get_0) | (with_reducible apply MV.get_s) | (with_reducible apply MV.st_par) | (with_reducible apply MV.st_asg) | (with_reducible apply MV.tg_set) | (with_reducible apply MV.tg_tup) | (with_reducible apply MV.tg_cons) | (with_reducible apply MV.tg_nil) | (with_reducible apply MV.st_for) | (with_reducible apply MV.st_frz) | (with_reducible apply MV.put_at) | (with_reducible apply MV.src_seq) | (with_reducible apply MV.src_2) | (with_reducible apply MV.seq_l) | (with_reducible apply MV.seq_t) | (with_reducible apply MV.zip_ok) | (with_reducible apply MV.enum_ok) | (with_reducible apply MV.ex_1) | (with_reducible apply MV.ex_call) | (with_reducible apply MV.op_neg') | (with_reducible apply MV.op_lt') | (with_reducible apply MV.op_le') | (with_reducible apply MV.op_gt') | (with_reducible apply MV.op_ge') | (with_reducible apply MV.op_p18) | (with_reducible apply MV.op_p9) | (with_reducible apply MV.op_p30) | (with_reducible apply MV.op_eqI) | (with_reducible apply MV.op_neI) | (with_reducible apply MV.op_eqSS) | (with_reducible apply MV.op_neSS) | (with_reducible apply MV.op_eqS) | (with_reducible apply MV.op_neS) | (with_reducible apply MV.op_eqB) | (with_reducible apply MV.op_neB) | (with_reducible apply MV.fn_gcd) | (with_reducible apply MV.fn_intB) | (with_reducible apply MV.post_bk) | (with_reducible apply MV.post_ct) | (with_reducible apply MV.then_bk) | (with_reducible apply MV.then_ct) | (with_reducible apply MV.cut_ok) | (with_reducible apply MV.part_ok) | (with_reducible apply MV.part_no) | (with_reducible apply MV.then_ex) | (with_reducible apply MV.post_ex) | (with_reducible apply MV.st_raise) | (with_reducible apply MV.mk_err) | (with_reducible apply MV.err_int) | (with_reducible apply MV.err_non) | (with_reducible apply MV.st_ifX) | (with_reducible apply MV.ifX_ok) | (with_reducible apply MV.ifX_er) | (with_reducible apply MV.ex_2X) | (with_reducible apply MV.m2R_er) | (with_reducible apply MV.m2R_ok) | (with_reducible apply MV.ex_callX) | (with_reducible apply MV.st_try) | (with_reducible apply MV.try_nx) | (with_reducible apply MV.try_rt) | (with_reducible apply MV.try_ex) | (with_reducible apply MV.end_rt) | (with_reducible apply MV.end_nx) | (with_reducible apply MV.st_guard) | (with_reducible apply MV.fld_ok) | (with_reducible apply MV.isv_ok) | (with_reducible apply MV.some_rfl) | (refine MV.ite_t (by assumption) ?_) | (refine MV.ite_f (by assumption) ?_) | (exact (by assumption : _ = true)) | (refine MV.ite_dt (by omega) ?_) | (refine MV.ite_df (by omega) ?_) | (refine MV.ite_et (by omega) ?_) | (refine MV.ite_ef (by omega) ?_)))
        rfl
      | true =>
        have w := whole_at a
        rw [ha] at w
        cases hb : isWhole b with
        | false =>
          have e : isFrac (.tuple [a, b]) = false := by cases a <;> cases b <;> first | rfl | cases hb | cases ha
          have w2 := whole_at b
          rw [hb] at w2
          rw [e]
          (apply run_ok; case hl => exact rfl); (unfold b_is_fraction; simp only [List.map_cons, List.map_nil, List.replicate, List.cons_append, List.nil_append])
          (repeat (first | (with_reducible apply t <;> first | omega | skip) | (with_reducible apply n2 <;> first | omega | skip) | (with_reducible apply w <;> first | omega | skip) | (with_reducible apply w2 <;> first | omega | skip) | (with_reducible apply MV.seq_ok) | (with_reducible apply MV.then_nx) | (with_reducible apply MV.then_rt) | (with_reducible apply MV.ar_cons) | (with_reducible apply MV.ar_nil) | (with_reducible apply MV.ex_c) | (with_reducible apply MV.var_0) | (with_reducible apply MV.var_s) | (with_reducible apply MV.own_0) | (with_reducible apply MV.own_0d) | (with_reducible apply MV.own_s) | (with_reducible apply MV.ex_2) | (with_reducible apply MV.ex_call0) | (with_reducible apply MV.ex_fn) | (with_reducible apply MV.st_set) | (with_reducible apply MV.set_0) | (with_reducible apply MV.set_s) | (with_reducible apply MV.st_post) | (with_reducible apply MV.post_nx) | (with_reducible apply MV.post_rt) | (with_reducible apply MV.wipe_0) | (with_reducible apply MV.wipe_s) | (with_reducible apply MV.op_add') | (with_reducible apply MV.op_sub') | (with_reducible apply MV.dMul_ok; rotate_left) | (with_reducible apply MV.dDiv_ok; rotate_left) | (with_reducible apply MV.dMod_ok; rotate_left) | (with_reducible apply MV.op_ixL) | (with_reducible apply MV.op_ixT) | (with_reducible apply MV.at_0) | (with_reducible apply MV.fn_int) | (with_reducible apply MV.fn_abs) | (with_reducible apply MV.fn_len) | (with_reducible apply MV.fn_lenT) | (with_reducible apply MV.fn_tupL) | (with_reducible apply MV.fn_tupT) | (with_reducible apply MV.fn_lstL) | (with_reducible apply MV.fn_lstT) | (with_reducible apply MV.ex_tup) | (with_reducible apply MV.ex_lst) | (with_reducible apply MV.ex_l) | (with_reducible apply MV.len_0) | (with_reducible apply MV.len_s) | (with_reducible apply MV.st_ret) | (with_reducible apply MV.retO_0) | (with_reducible apply MV.retO_0d) | (with_reducible apply MV.retO_s) | (with_reducible apply MV.st_if) | (with_reducible apply MV.ite_tt) | (with_reducible apply MV.ite_ff) | (with_reducible apply MV.bo_as) | (with_reducible apply MV.bo_tru) | (with_reducible apply MV.bo_and) | (with_reducible apply MV.bo_or) | (with_reducible apply MV.bo_not) | (with_reducible apply MV.not_t) | (with_reducible apply MV.not_f) | (with_reducible apply MV.ex_and) | (with_reducible apply MV.ex_or) | (with_reducible apply MV.ex_not) | (with_reducible apply MV.ex_if) | (with_reducible apply MV.st_skip) | (with_reducible apply MV.st_drop) | (with_reducible apply MV.st_brk) | (with_reducible apply MV.st_cnt) | (with_reducible apply MV.st_setO) | (with_reducible apply MV.app_at) | (with_reducible apply MV.get_0) | (with_reducible apply MV.get_s) | (with_reducible apply MV.st_par) | (with_reducible apply MV.st_asg) | (with_reducible apply MV.tg_set) | (with_reducible apply MV.tg_tup) | (with_reducible apply MV.tg_cons) | (with_reducible apply MV.tg_nil) | (with_reducible apply MV.st_for) | (with_reducible apply MV.st_frz) | (with_reducible apply MV.put_at) | (with_reducible apply MV.src_seq) | (with_reducible apply MV.src_2) | (with_reducible apply MV.seq_l) | (with_reducible apply MV.seq_t) | (with_reducible apply MV.zip_ok) | (with_reducible apply MV.enum_ok) | (with_reducible apply MV.ex_1) | (with_reducible apply MV.ex_call) | (with_reducible apply MV.op_neg') | (with_reducible apply MV.op_lt') | (with_reducible apply MV.op_le') | (with_reducible apply MV.op_gt') | (with_reducible apply MV.op_ge') | (with_reducible apply MV.op_p18) | (with_reducible apply MV.op_p9) | (with_reducible apply MV.op_p30) | (with_reducible apply MV.op_eqI) | (with_reducible apply MV.op_neI) | (with_reducible apply MV.op_eqSS) | (with_reducible apply MV.op_neSS) | (with_reducible apply MV.op_eqS) | (with_reducible apply MV.op_neS) | (with_reducible apply MV.op_eqB) | (with_reducible apply MV.op_neB) | (with_reducible apply MV.fn_gcd) | (with_reducible apply MV.fn_intB) | (with_reducible apply MV.post_bk) | (with_reducible apply MV.post_ct) | (with_reducible apply MV.then_bk) | (with_reducible apply MV.then_ct) | (with_reducible apply MV.cut_ok) | (with_reducible apply MV.part_ok) | (with_reducible apply MV.part_no) | (with_reducible apply MV.then_ex) | (with_reducible apply MV.post_ex) | (with_reducible apply MV.st_raise) | (with_reducible apply MV.mk_err) | (with_reducible apply MV.err_int) | (with_reducible apply MV.err_non) | (with_reducible apply MV.st_ifX) | (with_reducible apply MV.ifX_ok) | (with_reducible apply MV.ifX_er) | (with_reducible apply MV.ex_2X) | (with_reducible apply MV.m2R_er) | (with_reducible apply MV.m2R_ok) | (with_reducible apply MV.ex_callX) | (with_reducible apply MV.st_try) | (with_reducible apply MV.try_nx) | (with_reducible apply MV.try_rt) | (with_reducible apply MV.try_ex) | (with_reducible apply MV.end_rt) | (with_reducible apply MV.end_nx) | (with_reducible apply MV.st_guard) | (with_reducible apply MV.fld_ok) | (with_reducible apply MV.isv_ok) | (with_reducible apply MV.some_rfl) | (refine MV.ite_t (by assumption) ?_) | (refine MV.ite_f (by assumption) ?_) | (exact (by assumption : _ = true)) | (refine MV.ite_dt (by omega) ?_) | (refine MV.ite_df (by omega) ?_) | (refine MV.ite_et (by omega) ?_) | (refine MV.ite_ef (by omega) ?_)))
          rfl
        | true =>
          have w2 := whole_at b
          rw [hb] at w2
          obtain ⟨n, rfl⟩ := int_of ha
          obtain ⟨d, rfl⟩ := int_of hb
          show _ = some (PyData.bool (decide (1 ≤ d) && ((Nat.gcd n.natAbs d.natAbs : Nat) : Int) == 1))
          by_cases h1 : 1 ≤ d
          · rw [decide_eq_true h1]
            (apply run_ok; case hl => exact rfl); (unfold b_is_fraction; simp only [List.map_cons, List.map_nil, List.replicate, List.cons_append, List.nil_append])
            (repeat (first | (with_reducible apply t <;> first | omega | skip) | (with_reducible apply n2 <;> first | omega | skip) | (with_reducible apply w <;> first | omega | skip) | (with_reducible apply w2 <;> first | omega | skip) | (with_reducible apply gd_at <;> first | omega | skip) | (with_reducible apply MV.seq_ok) | (with_reducible apply MV.then_nx) | (with_reducible apply MV.then_rt) | (with_reducible apply MV.ar_cons) | (with_reducible apply MV.ar_nil) | (with_reducible apply MV.ex_c) | (with_reducible apply MV.var_0) | (with_reducible apply MV.var_s) | (with_reducible apply MV.own_0) | (with_reducible apply MV.own_0d) | (with_reducible apply MV.own_s) | (with_reducible apply MV.ex_2) | (with_reducible apply MV.ex_call0) | (with_reducible apply MV.ex_fn) | (with_reducible apply MV.st_set) | (with_reducible apply MV.set_0) | (with_reducible apply MV.set_s) | (with_reducible apply MV.st_post) | (with_reducible apply MV.post_nx) | (with_reducible apply MV.post_rt) | (with_reducible apply MV.wipe_0) | (with_reducible apply MV.wipe_s) | (with_reducible apply MV.op_add') | (with_reducible apply MV.op_sub') | (with_reducible apply MV.dMul_ok; rotate_left) | (with_reducible apply MV.dDiv_ok; rotate_left) | (with_reducible apply MV.dMod_ok; rotate_left) | (with_reducible apply MV.op_ixL) | (with_reducible apply MV.op_ixT) | (with_reducible apply MV.at_0) | (with_reducible apply MV.fn_int) | (with_reducible apply MV.fn_abs) | (with_reducible apply MV.fn_len) | (with_reducible apply MV.fn_lenT) | (with_reducible apply MV.fn_tupL) | (with_reducible apply MV.fn_tupT) | (with_reducible apply MV.fn_lstL) | (with_reducible apply MV.fn_lstT) | (with_reducible apply MV.ex_tup) | (with_reducible apply MV.ex_lst) | (with_reducible apply MV.ex_l) | (with_reducible apply MV.len_0) | (with_reducible apply MV.len_s) | (with_reducible apply MV.st_ret) | (with_reducible apply MV.retO_0) | (with_reducible apply MV.retO_0d) | (with_reducible apply MV.retO_s) | (with_reducible apply MV.st_if) | (with_reducible apply MV.ite_tt) | (with_reducible apply MV.ite_ff) | (with_reducible apply MV.bo_as) | (with_reducible apply MV.bo_tru) | (with_reducible apply MV.bo_and) | (with_reducible apply MV.bo_or) | (with_reducible apply MV.bo_not) | (with_reducible apply MV.not_t) | (with_reducible apply MV.not_f) | (with_reducible apply MV.ex_and) | (with_reducible apply MV.ex_or) | (with_reducible apply MV.ex_not) | (with_reducible apply MV.ex_if) | (with_reducible apply MV.st_skip) | (with_reducible apply MV.st_drop) | (with_reducible apply MV.st_brk) | (with_reducible apply MV.st_cnt) | (with_reducible apply MV.st_setO) | (with_reducible apply MV.app_at) | (with_reducible apply MV.get_0) | (with_reducible apply MV.get_s) | (with_reducible apply MV.st_par) | (with_reducible apply MV.st_asg) | (with_reducible apply MV.tg_set) | (with_reducible apply MV.tg_tup) | (with_reducible apply MV.tg_cons) | (with_reducible apply MV.tg_nil) | (with_reducible apply MV.st_for) | (with_reducible apply MV.st_frz) | (with_reducible apply MV.put_at) | (with_reducible apply MV.src_seq) | (with_reducible apply MV.src_2) | (with_reducible apply MV.seq_l) | (with_reducible apply MV.seq_t) | (with_reducible apply MV.zip_ok) | (with_reducible apply MV.enum_ok) | (with_reducible apply MV.ex_1) | (with_reducible apply MV.ex_call) | (with_reducible apply MV.op_neg') | (with_reducible apply MV.op_lt') | (with_reducible apply MV.op_le') | (with_reducible apply MV.op_gt') | (with_reducible apply MV.op_ge') | (with_reducible apply MV.op_p18) | (with_reducible apply MV.op_p9) | (with_reducible apply MV.op_p30) | (with_reducible apply MV.op_eqI) | (with_reducible apply MV.op_neI) | (with_reducible apply MV.op_eqSS) | (with_reducible apply MV.op_neSS) | (with_reducible apply MV.op_eqS) | (with_reducible apply MV.op_neS) | (with_reducible apply MV.op_eqB) | (with_reducible apply MV.op_neB) | (with_reducible apply MV.fn_gcd) | (with_reducible apply MV.fn_intB) | (with_reducible apply MV.post_bk) | (with_reducible apply MV.post_ct) | (with_reducible apply MV.then_bk) | (with_reducible apply MV.then_ct) | (with_reducible apply MV.cut_ok) | (with_reducible apply MV.part_ok) | (with_reducible apply MV.part_no) | (with_reducible apply MV.then_ex) | (with_reducible apply MV.post_ex) | (with_reducible apply MV.st_raise) | (with_reducible apply MV.mk_err) | (with_reducible apply MV.err_int) | (with_reducible apply MV.err_non) | (with_reducible apply MV.st_ifX) | (with_reducible apply MV.ifX_ok) | (with_reducible apply MV.ifX_er) | (with_reducible apply MV.ex_2X) | (with_reducible apply MV.m2R_er) | (with_reducible apply MV.m2R_ok) | (with_reducible apply MV.ex_callX) | (with_reducible apply MV.st_try) | (with_reducible apply MV.try_nx) | (with_reducible apply MV.try_rt) | (with_reducible apply MV.try_ex) | (with_reducible apply MV.end_rt) | (with_reducible apply MV.end_nx) | (with_reducible apply MV.st_guard) | (with_reducible apply MV.fld_ok) | (with_reducible apply MV.isv_ok) | (with_reducible apply MV.some_rfl) | (refine MV.ite_t (by assumption) ?_) | (refine MV.ite_f (by assumption) ?_) | (exact (by assumption : _ = true)) | (refine MV.ite_dt (by omega) ?_) | (refine MV.ite_df (by omega) ?_) | (refine MV.ite_et (by omega) ?_) | (refine MV.ite_ef (by omega) ?_)))
            rfl
          · rw [decide_eq_false h1]
            (apply run_ok; case hl => exact rfl); (unfold b_is_fraction; simp only [List.map_cons, List.map_nil, List.replicate, List.cons_append, List.nil_append])
            (repeat (first | (with_reducible apply t <;> first | omega | skip) | (with_reducible apply n2 <;> first | omega | skip) | (with_reducible apply w <;> first | omega | skip) | (with_reducible apply w2 <;> first | omega | skip) | (with_reducible apply gd_at <;> first | omega | skip) | (with_reducible apply MV.seq_ok) | (with_reducible apply MV.then_nx) | (with_reducible apply MV.then_rt) | (with_reducible apply MV.ar_cons) | (with_reducible apply MV.ar_nil) | (with_reducible apply MV.ex_c) | (with_reducible apply MV.var_0) | (with_reducible apply MV.var_s) | (with_reducible apply MV.own_0) | (with_reducible apply MV.own_0d) | (with_reducible apply MV.own_s) | (with_reducible apply MV.ex_2) | (with_reducible apply MV.ex_call0) | (with_reducible apply MV.ex_fn) | (with_reducible apply MV.st_set) | (with_reducible apply MV.set_0) | (with_reducible apply MV.set_s) | (with_reducible apply MV.st_post) | (with_reducible apply MV.post_nx) | (with_reducible apply MV.post_rt) | (with_reducible apply MV.wipe_0) | (with_reducible apply MV.wipe_s) | (with_reducible apply MV.op_add') | (with_reducible apply MV.op_sub') | (with_reducible apply MV.dMul_ok; rotate_left) | (with_reducible apply MV.dDiv_ok; rotate_left) | (with_reducible apply MV.dMod_ok; rotate_left) | (with_reducible apply MV.op_ixL) | (with_reducible apply MV.op_ixT) | (with_reducible apply MV.at_0) | (with_reducible apply MV.fn_int) | (with_reducible apply MV.fn_abs) | (with_reducible apply MV.fn_len) | (with_reducible apply MV.fn_lenT) | (with_reducible apply MV.fn_tupL) | (with_reducible apply MV.fn_tupT) | (with_reducible apply MV.fn_lstL) | (with_reducible apply MV.fn_lstT) | (with_reducible apply MV.ex_tup) | (with_reducible apply MV.ex_lst) | (with_reducible apply MV.ex_l) | (with_reducible apply MV.len_0) | (with_reducible apply MV.len_s) | (with_reducible apply MV.st_ret) | (with_reducible apply MV.retO_0) | (with_reducible apply MV.retO_0d) | (with_reducible apply MV.retO_s) | (with_reducible apply MV.st_if) | (with_reducible apply MV.ite_tt) | (with_reducible apply MV.ite_ff) | (with_reducible apply MV.bo_as) | (with_reducible apply MV.bo_tru) | (with_reducible apply MV.bo_and) | (with_reducible apply MV.bo_or) | (with_reducible apply MV.bo_not) | (with_reducible apply MV.not_t) | (with_reducible apply MV.not_f) | (with_reducible apply MV.ex_and) | (with_reducible apply MV.ex_or) | (with_reducible apply MV.ex_not) | (with_reducible apply MV.ex_if) | (with_reducible apply MV.st_skip) | (with_reducible apply MV.st_drop) | (with_reducible apply MV.st_brk) | (with_reducible apply MV.st_cnt) | (with_reducible apply MV.st_setO) | (with_reducible apply MV.app_at) | (with_reducible apply MV.get_0) | (with_reducible apply MV.get_s) | (with_reducible apply MV.st_par) | (with_reducible apply MV.st_asg) | (with_reducible apply MV.tg_set) | (with_reducible apply MV.tg_tup) | (with_reducible apply MV.tg_cons) | (with_reducible apply MV.tg_nil) | (with_reducible apply MV.st_for) | (with_reducible apply MV.st_frz) | (with_reducible apply MV.put_at) | (with_reducible apply MV.src_seq) | (with_reducible apply MV.src_2) | (with_reducible apply MV.seq_l) | (with_reducible apply MV.seq_t) | (with_reducible apply MV.zip_ok) | (with_reducible apply MV.enum_ok) | (with_reducible apply MV.ex_1) | (with_reducible apply MV.ex_call) | (with_reducible apply MV.op_neg') | (with_reducible apply MV.op_lt') | (with_reducible apply MV.op_le') | (with_reducible apply MV.op_gt') | (with_reducible apply MV.op_ge') | (with_reducible apply MV.op_p18) | (with_reducible apply MV.op_p9) | (with_reducible apply MV.op_p30) | (with_reducible apply MV.op_eqI) | (with_reducible apply MV.op_neI) | (with_reducible apply MV.op_eqSS) | (with_reducible apply MV.op_neSS) | (with_reducible apply MV.op_eqS) | (with_reducible apply MV.op_neS) | (with_reducible apply MV.op_eqB) | (with_reducible apply MV.op_neB) | (with_reducible apply MV.fn_gcd) | (with_reducible apply MV.fn_intB) | (with_reducible apply MV.post_bk) | (with_reducible apply MV.post_ct) | (with_reducible apply MV.then_bk) | (with_reducible apply MV.then_ct) | (with_reducible apply MV.cut_ok) | (with_reducible apply MV.part_ok) | (with_reducible apply MV.part_no) | (with_reducible apply MV.then_ex) | (with_reducible apply MV.post_ex) | (with_reducible apply MV.st_raise) | (with_reducible apply MV.mk_err) | (with_reducible apply MV.err_int) | (with_reducible apply MV.err_non) | (with_reducible apply MV.st_ifX) | (with_reducible apply MV.ifX_ok) | (with_reducible apply MV.ifX_er) | (with_reducible apply MV.ex_2X) | (with_reducible apply MV.m2R_er) | (with_reducible apply MV.m2R_ok) | (with_reducible apply MV.ex_callX) | (with_reducible apply MV.st_try) | (with_reducible apply MV.try_nx) | (with_reducible apply MV.try_rt) | (with_reducible apply MV.try_ex) | (with_reducible apply MV.end_rt) | (with_reducible apply MV.end_nx) | (with_reducible apply MV.st_guard) | (with_reducible apply MV.fld_ok) | (with_reducible apply MV.isv_ok) | (with_reducible apply MV.some_rfl) | (refine MV.ite_t (by assumption) ?_) | (refine MV.ite_f (by assumption) ?_) | (exact (by assumption : _ = true)) | (refine MV.ite_dt (by omega) ?_) | (refine MV.ite_df (by omega) ?_) | (refine MV.ite_et (by omega) ?_) | (refine MV.ite_ef (by omega) ?_)))
            rfl

def isPt (n : Nat) : D → Bool
  | .tuple ds => decide (ds.length = n) && ds.all isFrac
  | _ => false
theorem isPt_no (n : Nat) : ∀ w : D, isTup w = false → isPt n w = false := fun w h => by cases w <;> first | rfl | cases h
theorem bools_all (f : D → Bool) : ∀ ds : List D, boolsD (ds.map fun d => .bool (f d)) = some (ds.map f)
  | [] => rfl
  | d :: ds => by
    rw [List.map_cons, boolsD, bools_all f ds]
    rfl
theorem all_map (f : D → Bool) (ds : List D) : (ds.map f).all id = ds.all f := by simp [List.all_map]
theorem is_point_at (v : D) (n : Nat) (hn : n < 100000) : m_is_point [v, .int (n : Int)] = some (.bool (isPt n v)) := by
  cases hv : isTup v with
  | false =>
    have t := isD_tup v
    rw [hv] at t
    rw [isPt_no n v hv]
    (apply run_ok; case hl => exact rfl); (unfold b_is_point; simp only [List.map_cons, List.map_nil, List.replicate, List.cons_append, List.nil_append])
    (repeat (first | (with_reducible apply t <;> first | omega | skip) | (with_reducible apply MV.seq_ok) | (with_reducible apply MV.then_nx) | (with_reducible apply MV.then_rt) | (with_reducible apply MV.ar_cons) | (with_reducible apply MV.ar_nil) | (with_reducible apply MV.ex_c) | (with_reducible apply MV.var_0) | (with_reducible apply MV.var_s) | (with_reducible apply MV.own_0) | (with_reducible apply MV.own_0d) | (with_reducible apply MV.own_s) | (with_reducible apply MV.ex_2) | (with_reducible apply MV.ex_call0) | (with_reducible apply MV.ex_fn) | (with_reducible apply MV.st_set) | (with_reducible apply MV.set_0) | (with_reducible apply MV.set_s) | (with_reducible apply MV.st_post) | (with_reducible apply MV.post_nx) | (with_reducible apply MV.post_rt) | (with_reducible apply MV.wipe_0) | (with_reducible apply MV.wipe_s) | (with_reducible apply MV.op_add') | (with_reducible apply MV.op_sub') | (with_reducible apply MV.dMul_ok; rotate_left) | (with_reducible apply MV.dDiv_ok; rotate_left) | (with_reducible apply MV.dMod_ok; rotate_left) | (with_reducible apply MV.op_ixL) | (with_reducible apply MV.op_ixT) | (with_reducible apply MV.at_0) | (with_reducible apply MV.fn_int) | (with_reducible apply MV.fn_abs) | (with_reducible apply MV.fn_len) | (with_reducible apply MV.fn_lenT) | (with_reducible apply MV.fn_tupL) | (with_reducible apply MV.fn_tupT) | (with_reducible apply MV.fn_lstL) | (with_reducible apply MV.fn_lstT) | (with_reducible apply MV.ex_tup) | (with_reducible apply MV.ex_lst) | (with_reducible apply MV.ex_l) | (with_reducible apply MV.len_0) | (with_reducible apply MV.len_s) | (with_reducible apply MV.st_ret) | (with_reducible apply MV.retO_0) | (with_reducible apply MV.retO_0d) | (with_reducible apply MV.retO_s) | (with_reducible apply MV.st_if) | (with_reducible apply MV.ite_tt) | (with_reducible apply MV.ite_ff) | (with_reducible apply MV.bo_as) | (with_reducible apply MV.bo_tru) | (with_reducible apply MV.bo_and) | (with_reducible apply MV.bo_or) | (with_reducible apply MV.bo_not) | (with_reducible apply MV.not_t) | (with_reducible apply MV.not_f) | (with_reducible apply MV.ex_and) | (with_reducible apply MV.ex_or) | (with_reducible apply MV.ex_not) | (with_reducible apply MV.ex_if) | (with_reducible apply MV.st_skip) | (with_reducible apply MV.st_drop) | (with_reducible apply MV.st_brk) | (with_reducible apply MV.st_cnt) | (with_reducible apply MV.st_setO) | (with_reducible apply MV.app_at) | (with_reducible apply MV.get_0) | (with_reducible apply MV.get_s) | (with_reducible apply MV.st_par) | (with_reducible apply MV.st_asg) | (with_reducible apply MV.tg_set) | (with_reducible apply MV.tg_tup) | (with_reducible apply MV.tg_cons) | (with_reducible apply MV.tg_nil) | (with_reducible apply MV.st_for) | (with_reducible apply MV.st_frz) | (with_reducible apply MV.put_at) | (with_reducible apply MV.src_seq) | (with_reducible apply MV.src_2) | (with_reducible apply MV.seq_l) | (with_reducible apply MV.seq_t) | (with_reducible apply MV.zip_ok) | (with_reducible apply MV.enum_ok) | (with_reducible apply MV.ex_1) | (with_reducible apply MV.ex_call) | (with_reducible apply MV.op_neg') | (with_reducible apply MV.op_lt') | (with_reducible apply MV.op_le') | (with_reducible apply MV.op_gt') | (with_reducible apply MV.op_ge') | (with_reducible apply MV.op_p18) | (with_reducible apply MV.op_p9) | (with_reducible apply MV.op_p30) | (with_reducible apply MV.op_eqI) | (with_reducible apply MV.op_neI) | (with_reducible apply MV.op_eqSS) | (with_reducible apply MV.op_neSS) | (with_reducible apply MV.op_eqS) | (with_reducible apply MV.op_neS) | (with_reducible apply MV.op_eqB) | (with_reducible apply MV.op_neB) | (with_reducible apply MV.fn_gcd) | (with_reducible apply MV.fn_intB) | (with_reducible apply MV.post_bk) | (with_reducible apply MV.post_ct) | (with_reducible apply MV.then_bk) | (with_reducible apply MV.then_ct) | (with_reducible apply MV.cut_ok) | (with_reducible apply MV.part_ok) | (with_reducible apply MV.part_no) | (with_reducible apply MV.then_ex) | (with_reducible apply MV.post_ex) | (with_reducible apply MV.st_raise) | (with_reducible apply MV.mk_err) | (with_reducible apply MV.err_int) | (with_reducible apply MV.err_non) | (with_reducible apply MV.st_ifX) | (with_reducible apply MV.ifX_ok) | (with_reducible apply MV.ifX_er) | (with_reducible apply MV.ex_2X) | (with_reducible apply MV.m2R_er) | (with_reducible apply MV.m2R_ok) | (with_reducible apply MV.ex_callX) | (with_reducible apply MV.st_try) | (with_reducible apply MV.try_nx) | (with_reducible apply MV.try_rt) | (with_reducible apply MV.try_ex) | (with_reducible apply MV.end_rt) | (with_reducible apply MV.end_nx) | (with_reducible apply MV.st_guard) | (with_reducible apply MV.fld_ok) | (with_reducible apply MV.isv_ok) | (with_reducible apply MV.some_rfl) | (refine MV.ite_t (by assumption) ?_) | (refine MV.ite_f (by assumption) ?_) | (exact (by assumption : _ = true)) | (refine MV.ite_dt (by omega) ?_) | (refine MV.ite_df (by omega) ?_) | (refine MV.ite_et (by omega) ?_) | (refine MV.ite_ef (by omega) ?_)))
    rfl
  | true =>
    cases v <;> first | cases hv | skip
    rename_i ds
    have t : isD "tuple" (.tuple ds) = some (.bool true) := isD_tup _
    by_cases hl : ds.length = n
    · have nl : dNe (.int (ds.length : Int)) (.int (n : Int)) = some (.bool false) := by
        rw [op_neI, hl, show ((n : Int) == (n : Int)) = true by simp]
        rfl
      have e : isPt n (.tuple ds) = ds.all isFrac := by
        show (decide (ds.length = n) && ds.all isFrac) = _
        rw [decide_eq_true hl, Bool.true_and]
      have cm : ∀ x0 x1, mLc (mSeqOf (mVar 0)) (gSet 2) mYes el_is_point_1 [2] [.dat (.tuple ds), x0, x1] = some (ds.map fun d => .bool (isFrac d)) := fun x0 x1 =>
        comp_at (fun d => d) (fun d => .bool (isFrac d)) ds (by
          rw [List.map_id']
          (repeat (first | (with_reducible apply MV.seq_ok) | (with_reducible apply MV.then_nx) | (with_reducible apply MV.then_rt) | (with_reducible apply MV.ar_cons) | (with_reducible apply MV.ar_nil) | (with_reducible apply MV.ex_c) | (with_reducible apply MV.var_0) | (with_reducible apply MV.var_s) | (with_reducible apply MV.own_0) | (with_reducible apply MV.own_0d) | (with_reducible apply MV.own_s) | (with_reducible apply MV.ex_2) | (with_reducible apply MV.ex_call0) | (with_reducible apply MV.ex_fn) | (with_reducible apply MV.st_set) | (with_reducible apply MV.set_0) | (with_reducible apply MV.set_s) | (with_reducible apply MV.st_post) | (with_reducible apply MV.post_nx) | (with_reducible apply MV.post_rt) | (with_reducible apply MV.wipe_0) | (with_reducible apply MV.wipe_s) | (with_reducible apply MV.op_add') | (with_reducible apply MV.op_sub') | (with_reducible apply MV.dMul_ok; rotate_left) | (with_reducible apply MV.dDiv_ok; rotate_left) | (with_reducible apply MV.dMod_ok; rotate_left) | (with_reducible apply MV.op_ixL) | (with_reducible apply MV.op_ixT) | (with_reducible apply MV.at_0) | (with_reducible apply MV.fn_int) | (with_reducible apply MV.fn_abs) | (with_reducible apply MV.fn_len) | (with_reducible apply MV.fn_lenT) | (with_reducible apply MV.fn_tupL) | (with_reducible apply MV.fn_tupT) | (with_reducible apply MV.fn_lstL) | (with_reducible apply MV.fn_lstT) | (with_reducible apply MV.ex_tup) | (with_reducible apply MV.ex_lst) | (with_reducible apply MV.ex_l) | (with_reducible apply MV.len_0) | (with_reducible apply MV.len_s) | (with_reducible apply MV.st_ret) | (with_reducible apply MV.retO_0) | (with_reducible apply MV.retO_0d) | (with_reducible apply MV.retO_s) | (with_reducible apply MV.st_if) | (with_reducible apply MV.ite_tt) | (with_reducible apply MV.ite_ff) | (with_reducible apply MV.bo_as) | (with_reducible apply MV.bo_tru) | (with_reducible apply MV.bo_and) | (with_reducible apply MV.bo_or) | (with_reducible apply MV.bo_not) | (with_reducible apply MV.not_t) | (with_reducible apply MV.not_f) | (with_reducible apply MV.ex_and) | (with_reducible apply MV.ex_or) | (with_reducible apply MV.ex_not) | (with_reducible apply MV.ex_if) | (with_reducible apply MV.st_skip) | (with_reducible apply MV.st_drop) | (with_reducible apply MV.st_brk) | (with_reducible apply MV.st_cnt) | (with_reducible apply MV.st_setO) | (with_reducible apply MV.app_at) | (with_reducible apply MV.get_0) | (with_reducible apply MV.get_s) | (with_reducible apply MV.st_par) | (with_reducible apply MV.st_asg) | (with_reducible apply MV.tg_set) | (with_reducible apply MV.tg_tup) | (with_reducible apply MV.tg_cons) | (with_reducible apply MV.tg_nil) | (with_reducible apply MV.st_for) | (with_reducible apply MV.st_frz) | (with_reducible apply MV.put_at) | (with_reducible apply MV.src_seq) | (with_reducible apply MV.src_2) | (with_reducible apply MV.seq_l) | (with_reducible apply MV.seq_t) | (with_reducible apply MV.zip_ok) | (with_reducible apply MV.enum_ok) | (with_reducible apply MV.ex_1) | (with_reducible apply MV.ex_call) | (with_reducible apply MV.op_neg') | (with_reducible apply MV.op_lt') | (with_reducible apply MV.op_le') | (with_reducible apply MV.op_gt') | (with_reducible apply MV.op_ge') | (with_reducible apply MV.op_p18) | (with_reducible apply MV.op_p9) | (with_reducible apply MV.op_p30) | (with_reducible apply MV.op_eqI) | (with_reducible apply MV.op_neI) | (with_reducible apply MV.op_eqSS) | (with_reducible apply MV.op_neSS) | (with_reducible apply MV.op_eqS) | (with_reducible apply MV.op_neS) | (with_reducible apply MV.op_eqB) | (with_reducible apply MV.op_neB) | (with_reducible apply MV.fn_gcd) | (with_reducible apply MV.fn_intB) | (with_reducible apply MV.post_bk) | (with_reducible apply MV.post_ct) | (with_reducible apply MV.then_bk) | (with_reducible apply MV.then_ct) | (with_reducible apply MV.cut_ok) | (with_reducible apply MV.part_ok) | (with_reducible apply MV.part_no) | (with_reducible apply MV.then_ex) | (with_reducible apply MV.post_ex) | (with_reducible apply MV.st_raise) | (with_reducible apply MV.mk_err) | (with_reducible apply MV.err_int) | (with_reducible apply MV.err_non) | (with_reducible apply MV.st_ifX) | (with_reducible apply MV.ifX_ok) | (with_reducible apply MV.ifX_er) | (with_reducible apply MV.ex_2X) | (with_reducible apply MV.m2R_er) | (with_reducible apply MV.m2R_ok) | (with_reducible apply MV.ex_callX) | (with_reducible apply MV.st_try) | (with_reducible apply MV.try_nx) | (with_reducible apply MV.try_rt) | (with_reducible apply MV.try_ex) | (with_reducible apply MV.end_rt) | (with_reducible apply MV.end_nx) | (with_reducible apply MV.st_guard) | (with_reducible apply MV.fld_ok) | (with_reducible apply MV.isv_ok) | (with_reducible apply MV.some_rfl) | (refine MV.ite_t (by assumption) ?_) | (refine MV.ite_f (by assumption) ?_) | (exact (by assumption : _ = true)) | (refine MV.ite_dt (by omega) ?_) | (refine MV.ite_df (by omega) ?_) | (refine MV.ite_et (by omega) ?_) | (refine MV.ite_ef (by omega) ?_)))) (by omega) fun d _ => by
          apply comp_el
          (repeat (first | (with_reducible apply un_el_is_point_1 <;> first | omega | skip) | (with_reducible apply is_fraction_at <;> first | omega | skip) | (with_reducible apply MV.seq_ok) | (with_reducible apply MV.then_nx) | (with_reducible apply MV.then_rt) | (with_reducible apply MV.ar_cons) | (with_reducible apply MV.ar_nil) | (with_reducible apply MV.ex_c) | (with_reducible apply MV.var_0) | (with_reducible apply MV.var_s) | (with_reducible apply MV.own_0) | (with_reducible apply MV.own_0d) | (with_reducible apply MV.own_s) | (with_reducible apply MV.ex_2) | (with_reducible apply MV.ex_call0) | (with_reducible apply MV.ex_fn) | (with_reducible apply MV.st_set) | (with_reducible apply MV.set_0) | (with_reducible apply MV.set_s) | (with_reducible apply MV.st_post) | (with_reducible apply MV.post_nx) | (with_reducible apply MV.post_rt) | (with_reducible apply MV.wipe_0) | (with_reducible apply MV.wipe_s) | (with_reducible apply MV.op_add') | (with_reducible apply MV.op_sub') | (with_reducible apply MV.dMul_ok; rotate_left) | (with_reducible apply MV.dDiv_ok; rotate_left) | (with_reducible apply MV.dMod_ok; rotate_left) | (with_reducible apply MV.op_ixL) | (with_reducible apply MV.op_ixT) | (with_reducible apply MV.at_0) | (with_reducible apply MV.fn_int) | (with_reducible apply MV.fn_abs) | (with_reducible apply MV.fn_len) | (with_reducible apply MV.fn_lenT) | (with_reducible apply MV.fn_tupL) | (with_reducible apply MV.fn_tupT) | (with_reducible apply MV.fn_lstL) | (with_reducible apply MV.fn_lstT) | (with_reducible apply MV.ex_tup) | (with_reducible apply MV.ex_lst) | (with_reducible apply MV.ex_l) | (with_reducible apply MV.len_0) | (with_reducible apply MV.len_s) | (with_reducible apply MV.st_ret) | (with_reducible apply MV.retO_0) | (with_reducible apply MV.retO_0d) | (with_reducible apply MV.retO_s) | (with_reducible apply MV.st_if) | (with_reducible apply MV.ite_tt) | (with_reducible apply MV.ite_ff) | (with_reducible apply MV.bo_as) | (with_reducible apply MV.bo_tru) | (with_reducible apply MV.bo_and) | (with_reducible apply MV.bo_or) | (with_reducible apply MV.bo_not) | (with_reducible apply MV.not_t) | (with_reducible apply MV.not_f) | (with_reducible apply MV.ex_and) | (with_reducible apply MV.ex_or) | (with_reducible apply MV.ex_not) | (with_reducible apply MV.ex_if) | (with_reducible apply MV.st_skip) | (with_reducible apply MV.st_drop) | (with_reducible apply MV.st_brk) | (with_reducible apply MV.st_cnt) | (with_reducible apply MV.st_setO) | (with_reducible apply MV.app_at) | (with_reducible apply MV.get_0) | (with_reducible apply MV.get_s) | (with_reducible apply MV.st_par) | (with_reducible apply MV.st_asg) | (with_reducible apply MV.tg_set) | (with_reducible apply MV.tg_tup) | (with_reducible apply MV.tg_cons) | (with_reducible apply MV.tg_nil) | (with_reducible apply MV.st_for) | (with_reducible apply MV.st_frz) | (with_reducible apply MV.put_at) | (with_reducible apply MV.src_seq) | (with_reducible apply MV.src_2) | (with_reducible apply MV.seq_l) | (with_reducible apply MV.seq_t) | (with_reducible apply MV.zip_ok) | (with_reducible apply MV.enum_ok) | (with_reducible apply MV.ex_1) | (with_reducible apply MV.ex_call) | (with_reducible apply MV.op_neg') | (with_reducible apply MV.op_lt') | (with_reducible apply MV.op_le') | (with_reducible apply MV.op_gt') | (with_reducible apply MV.op_ge') | (with_reducible apply MV.op_p18) | (with_reducible apply MV.op_p9) | (with_reducible apply MV.op_p30) | (with_reducible apply MV.op_eqI) | (with_reducible apply MV.op_neI) | (with_reducible apply MV.op_eqSS) | (with_reducible apply MV.op_neSS) | (with_reducible apply MV.op_eqS) | (with_reducible apply MV.op_neS) | (with_reducible apply MV.op_eqB) | (with_reducible apply MV.op_neB) | (with_reducible apply MV.fn_gcd) | (with_reducible apply MV.fn_intB) | (with_reducible apply MV.post_bk) | (with_reducible apply MV.post_ct) | (with_reducible apply MV.then_bk) | (with_reducible apply MV.then_ct) | (with_reducible apply MV.cut_ok) | (with_reducible apply MV.part_ok) | (with_reducible apply MV.part_no) | (with_reducible apply MV.then_ex) | (with_reducible apply MV.post_ex) | (with_reducible apply MV.st_raise) | (with_reducible apply MV.mk_err) | (with_reducible apply MV.err_int) | (with_reducible apply MV.err_non) | (with_reducible apply MV.st_ifX) | (with_reducible apply MV.ifX_ok) | (with_reducible apply MV.ifX_er) | (with_reducible apply MV.ex_2X) | (with_reducible apply MV.m2R_er) | (with_reducible apply MV.m2R_ok) | (with_reducible apply MV.ex_callX) | (with_reducible apply MV.st_try) | (with_reducible apply MV.try_nx) | (with_reducible apply MV.try_rt) | (with_reducible apply MV.try_ex) | (with_reducible apply MV.end_rt) | (with_reducible apply MV.end_nx) | (with_reducible apply MV.st_guard) | (with_reducible apply MV.fld_ok) | (with_reducible apply MV.isv_ok) | (with_reducible apply MV.some_rfl) | (refine MV.ite_t (by assumption) ?_) | (refine MV.ite_f (by assumption) ?_) | (exact (by assumption : _ = true)) | (refine MV.ite_dt (by omega) ?_) | (refine MV.ite_df (by omega) ?_) | (refine MV.ite_et (by omega) ?_) | (refine MV.ite_ef (by omega) ?_)))
          rfl
      have fa : fAll [.list (ds.map fun d => .bool (isFrac d))] = some (.bool (ds.all isFrac)) := by
        show ((seqOf (.list (ds.map fun d => PyData.bool (isFrac d)))).bind boolsD).map _ = _
        show (boolsD (ds.map fun d => PyData.bool (isFrac d))).map _ = _
        rw [bools_all, ← all_map]
        rfl
      rw [e]
      (apply run_ok; case hl => exact rfl); (unfold b_is_point; simp only [List.map_cons, List.map_nil, List.replicate, List.cons_append, List.nil_append])
      (repeat (first | (with_reducible apply t <;> first | omega | skip) | (with_reducible apply nl <;> first | omega | skip) | (with_reducible apply cm <;> first | omega | skip) | (with_reducible apply fa <;> first | omega | skip) | (with_reducible apply MV.seq_ok) | (with_reducible apply MV.then_nx) | (with_reducible apply MV.then_rt) | (with_reducible apply MV.ar_cons) | (with_reducible apply MV.ar_nil) | (with_reducible apply MV.ex_c) | (with_reducible apply MV.var_0) | (with_reducible apply MV.var_s) | (with_reducible apply MV.own_0) | (with_reducible apply MV.own_0d) | (with_reducible apply MV.own_s) | (with_reducible apply MV.ex_2) | (with_reducible apply MV.ex_call0) | (with_reducible apply MV.ex_fn) | (with_reducible apply MV.st_set) | (with_reducible apply MV.set_0) | (with_reducible apply MV.set_s) | (with_reducible apply MV.st_post) | (with_reducible apply MV.post_nx) | (with_reducible apply MV.post_rt) | (with_reducible apply MV.wipe_0) | (with_reducible apply MV.wipe_s) | (with_reducible apply MV.op_add') | (with_reducible apply MV.op_sub') | (with_reducible apply MV.dMul_ok; rotate_left) | (with_reducible apply MV.dDiv_ok; rotate_left) | (with_reducible apply MV.dMod_ok; rotate_left) | (with_reducible apply MV.op_ixL) | (with_reducible apply MV.op_ixT) | (with_reducible apply MV.at_0) | (with_reducible apply MV.fn_int) | (with_reducible apply MV.fn_abs) | (with_reducible apply MV.fn_len) | (with_reducible apply MV.fn_lenT) | (with_reducible apply MV.fn_tupL) | (with_reducible apply MV.fn_tupT) | (with_reducible apply MV.fn_lstL) | (with_reducible apply MV.fn_lstT) | (with_reducible apply MV.ex_tup) | (with_reducible apply MV.ex_lst) | (with_reducible apply MV.ex_l) | (with_reducible apply MV.len_0) | (with_reducible apply MV.len_s) | (with_reducible apply MV.st_ret) | (with_reducible apply MV.retO_0) | (with_reducible apply MV.retO_0d) | (with_reducible apply MV.retO_s) | (with_reducible apply MV.st_if) | (with_reducible apply MV.ite_tt) | (with_reducible apply MV.ite_ff) | (with_reducible apply MV.bo_as) | (with_reducible apply MV.bo_tru) | (with_reducible apply MV.bo_and) | (with_reducible apply MV.bo_or) | (with_reducible apply MV.bo_not) | (with_reducible apply MV.not_t) | (with_reducible apply MV.not_f) | (with_reducible apply MV.ex_and) | (with_reducible apply MV.ex_or) | (with_reducible apply MV.ex_not) | (with_reducible apply MV.ex_if) | (with_reducible apply MV.st_skip) | (with_reducible apply MV.st_drop) | (with_reducible apply MV.st_brk) | (with_reducible apply MV.st_cnt) | (with_reducible apply MV.st_setO) | (with_reducible apply MV.app_at) | (with_reducible apply MV.get_0) | (with_reducible apply MV.get_s) | (with_reducible apply MV.st_par) | (with_reducible apply MV.st_asg) | (with_reducible apply MV.tg_set) | (with_reducible apply MV.tg_tup) | (with_reducible apply MV.tg_cons) | (with_reducible apply MV.tg_nil) | (with_reducible apply MV.st_for) | (with_reducible apply MV.st_frz) | (with_reducible apply MV.put_at) | (with_reducible apply MV.src_seq) | (with_reducible apply MV.src_2) | (with_reducible apply MV.seq_l) | (with_reducible apply MV.seq_t) | (with_reducible apply MV.zip_ok) | (with_reducible apply MV.enum_ok) | (with_reducible apply MV.ex_1) | (with_reducible apply MV.ex_call) | (with_reducible apply MV.op_neg') | (with_reducible apply MV.op_lt') | (with_reducible apply MV.op_le') | (with_reducible apply MV.op_gt') | (with_reducible apply MV.op_ge') | (with_reducible apply MV.op_p18) | (with_reducible apply MV.op_p9) | (with_reducible apply MV.op_p30) | (with_reducible apply MV.op_eqI) | (with_reducible apply MV.op_neI) | (with_reducible apply MV.op_eqSS) | (with_reducible apply MV.op_neSS) | (with_reducible apply MV.op_eqS) | (with_reducible apply MV.op_neS) | (with_reducible apply MV.op_eqB) | (with_reducible apply MV.op_neB) | (with_reducible apply MV.fn_gcd) | (with_reducible apply MV.fn_intB) | (with_reducible apply MV.post_bk) | (with_reducible apply MV.post_ct) | (with_reducible apply MV.then_bk) | (with_reducible apply MV.then_ct) | (with_reducible apply MV.cut_ok) | (with_reducible apply MV.part_ok) | (with_reducible apply MV.part_no) | (with_reducible apply MV.then_ex) | (with_reducible apply MV.post_ex) | (with_reducible apply MV.st_raise) | (with_reducible apply MV.mk_err) | (with_reducible apply MV.err_int) | (with_reducible apply MV.err_non) | (with_reducible apply MV.st_ifX) | (with_reducible apply MV.ifX_ok) | (with_reducible apply MV.ifX_er) | (with_reducible apply MV.ex_2X) | (with_reducible apply MV.m2R_er) | (with_reducible apply MV.m2R_ok) | (with_reducible apply MV.ex_callX) | (with_reducible apply MV.st_try) | (with_reducible apply MV.try_nx) | (with_reducible apply MV.try_rt) | (with_reducible apply MV.try_ex) | (with_reducible apply MV.end_rt) | (with_reducible apply MV.end_nx) | (with_reducible apply MV.st_guard) | (with_reducible apply MV.fld_ok) | (with_reducible apply MV.isv_ok) | (with_reducible apply MV.some_rfl) | (refine MV.ite_t (by assumption) ?_) | (refine MV.ite_f (by assumption) ?_) | (exact (by assumption : _ = true)) | (refine MV.ite_dt (by omega) ?_) | (refine MV.ite_df (by omega) ?_) | (refine MV.ite_et (by omega) ?_) | (refine MV.ite_ef (by omega) ?_)))
      rfl
    · have nl : dNe (.int (ds.length : Int)) (.int (n : Int)) = some (.bool true) := by
        rw [op_neI, show ((ds.length : Int) == (n : Int)) = false by simpa using (by omega : (ds.length : Int) ≠ (n : Int))]
        rfl
      have e : isPt n (.tuple ds) = false := by
        show (decide (ds.length = n) && ds.all isFrac) = false
        rw [decide_eq_false hl, Bool.false_and]
      rw [e]
      (apply run_ok; case hl => exact rfl); (unfold b_is_point; simp only [List.map_cons, List.map_nil, List.replicate, List.cons_append, List.nil_append])
      (repeat (first | (with_reducible apply t <;> first | omega | skip) | (with_reducible apply nl <;> first | omega | skip) | (with_reducible apply MV.seq_ok) | (with_reducible apply MV.then_nx) | (with_reducible apply MV.then_rt) | (with_reducible apply MV.ar_cons) | (with_reducible apply MV.ar_nil) | (with_reducible apply MV.ex_c) | (with_reducible apply MV.var_0) | (with_reducible apply MV.var_s) | (with_reducible apply MV.own_0) | (with_reducible apply MV.own_0d) | (with_reducible apply MV.own_s) | (with_reducible apply MV.ex_2) | (with_reducible apply MV.ex_call0) | (with_reducible apply MV.ex_fn) | (with_reducible apply MV.st_set) | (with_reducible apply MV.set_0) | (with_reducible apply MV.set_s) | (with_reducible apply MV.st_post) | (with_reducible apply MV.post_nx) | (with_reducible apply MV.post_rt) | (with_reducible apply MV.wipe_0) | (with_reducible apply MV.wipe_s) | (with_reducible apply MV.op_add') | (with_reducible apply MV.op_sub') | (with_reducible apply MV.dMul_ok; rotate_left) | (with_reducible apply MV.dDiv_ok; rotate_left) | (with_reducible apply MV.dMod_ok; rotate_left) | (with_reducible apply MV.op_ixL) | (with_reducible apply MV.op_ixT) | (with_reducible apply MV.at_0) | (with_reducible apply MV.fn_int) | (with_reducible apply MV.fn_abs) | (with_reducible apply MV.fn_len) | (with_reducible apply MV.fn_lenT) | (with_reducible apply MV.fn_tupL) | (with_reducible apply MV.fn_tupT) | (with_reducible apply MV.fn_lstL) | (with_reducible apply MV.fn_lstT) | (with_reducible apply MV.ex_tup) | (with_reducible apply MV.ex_lst) | (with_reducible apply MV.ex_l) | (with_reducible apply MV.len_0) | (with_reducible apply MV.len_s) | (with_reducible apply MV.st_ret) | (with_reducible apply MV.retO_0) | (with_reducible apply MV.retO_0d) | (with_reducible apply MV.retO_s) | (with_reducible apply MV.st_if) | (with_reducible apply MV.ite_tt) | (with_reducible apply MV.ite_ff) | (with_reducible apply MV.bo_as) | (with_reducible apply MV.bo_tru) | (with_reducible apply MV.bo_and) | (with_reducible apply MV.bo_or) | (with_reducible apply MV.bo_not) | (with_reducible apply MV.not_t) | (with_reducible apply MV.not_f) | (with_reducible apply MV.ex_and) | (with_reducible apply MV.ex_or) | (with_reducible apply MV.ex_not) | (with_reducible apply MV.ex_if) | (with_reducible apply MV.st_skip) | (with_reducible apply MV.st_drop) | (with_reducible apply MV.st_brk) | (with_reducible apply MV.st_cnt) | (with_reducible apply MV.st_setO) | (with_reducible apply MV.app_at) | (with_reducible apply MV.get_0) | (with_reducible apply MV.get_s) | (with_reducible apply MV.st_par) | (with_reducible apply MV.st_asg) | (with_reducible apply MV.tg_set) | (with_reducible apply MV.tg_tup) | (with_reducible apply MV.tg_cons) | (with_reducible apply MV.tg_nil) | (with_reducible apply MV.st_for) | (with_reducible apply MV.st_frz) | (with_reducible apply MV.put_at) | (with_reducible apply MV.src_seq) | (with_reducible apply MV.src_2) | (with_reducible apply MV.seq_l) | (with_reducible apply MV.seq_t) | (with_reducible apply MV.zip_ok) | (with_reducible apply MV.enum_ok) | (with_reducible apply MV.ex_1) | (with_reducible apply MV.ex_call) | (with_reducible apply MV.op_neg') | (with_reducible apply MV.op_lt') | (with_reducible apply MV.op_le') | (with_reducible apply MV.op_gt') | (with_reducible apply MV.op_ge') | (with_reducible apply MV.op_p18) | (with_reducible apply MV.op_p9) | (with_reducible apply MV.op_p30) | (with_reducible apply MV.op_eqI) | (with_reducible apply MV.op_neI) | (with_reducible apply MV.op_eqSS) | (with_reducible apply MV.op_neSS) | (with_reducible apply MV.op_eqS) | (with_reducible apply MV.op_neS) | (with_reducible apply MV.op_eqB) | (with_reducible apply MV.op_neB) | (with_reducible apply MV.fn_gcd) | (with_reducible apply MV.fn_intB) | (with_reducible apply MV.post_bk) | (with_reducible apply MV.post_ct) | (with_reducible apply MV.then_bk) | (with_reducible apply MV.then_ct) | (with_reducible apply MV.cut_ok) | (with_reducible apply MV.part_ok) | (with_reducible apply MV.part_no) | (with_reducible apply MV.then_ex) | (with_reducible apply MV.post_ex) | (with_reducible apply MV.st_raise) | (with_reducible apply MV.mk_err) | (with_reducible apply MV.err_int) | (with_reducible apply MV.err_non) | (with_reducible apply MV.st_ifX) | (with_reducible apply MV.ifX_ok) | (with_reducible apply MV.ifX_er) | (with_reducible apply MV.ex_2X) | (with_reducible apply MV.m2R_er) | (with_reducible apply MV.m2R_ok) | (with_reducible apply MV.ex_callX) | (with_reducible apply MV.st_try) | (with_reducible apply MV.try_nx) | (with_reducible apply MV.try_rt) | (with_reducible apply MV.try_ex) | (with_reducible apply MV.end_rt) | (with_reducible apply MV.end_nx) | (with_reducible apply MV.st_guard) | (with_reducible apply MV.fld_ok) | (with_reducible apply MV.isv_ok) | (with_reducible apply MV.some_rfl) | (refine MV.ite_t (by assumption) ?_) | (refine MV.ite_f (by assumption) ?_) | (exact (by assumption : _ = true)) | (refine MV.ite_dt (by omega) ?_) | (refine MV.ite_df (by omega) ?_) | (refine MV.ite_et (by omega) ?_) | (refine MV.ite_ef (by omega) ?_)))
      rfl

/-- what the law looks at is not too great -/
def lim : D → Bool
  | .tuple [.int n, .int d] => decide (n.natAbs < 2 ^ 200 ∧ d.natAbs < 2 ^ 200)
  | _ => true
def limP : D → Bool
  | .tuple ds => ds.all lim
  | _ => true
theorem part_turn (v : D) (c0 c1 c2 : Cell) : lp__law_is_point_1 [c0, c1, c2, .dat v] = some (if isWhole v = true then .nx [c0, c1, c2, .un] else .rt (.bool false)) := by
  have t1 := isD_int v
  have t2 := isD_bool v
  cases h2 : isBoo v with
  | true =>
    have e : isWhole v = false := by cases v <;> first | rfl | cases h2
    rw [h2, e, Bool.false_or] at t1
    rw [h2] at t2
    rw [e, if_neg Bool.false_ne_true]
    unfold lp__law_is_point_1
    (repeat (first | (with_reducible apply t1 <;> first | omega | skip) | (with_reducible apply t2 <;> first | omega | skip) | (with_reducible apply MV.seq_ok) | (with_reducible apply MV.then_nx) | (with_reducible apply MV.then_rt) | (with_reducible apply MV.ar_cons) | (with_reducible apply MV.ar_nil) | (with_reducible apply MV.ex_c) | (with_reducible apply MV.var_0) | (with_reducible apply MV.var_s) | (with_reducible apply MV.own_0) | (with_reducible apply MV.own_0d) | (with_reducible apply MV.own_s) | (with_reducible apply MV.ex_2) | (with_reducible apply MV.ex_call0) | (with_reducible apply MV.ex_fn) | (with_reducible apply MV.st_set) | (with_reducible apply MV.set_0) | (with_reducible apply MV.set_s) | (with_reducible apply MV.st_post) | (with_reducible apply MV.post_nx) | (with_reducible apply MV.post_rt) | (with_reducible apply MV.wipe_0) | (with_reducible apply MV.wipe_s) | (with_reducible apply MV.op_add') | (with_reducible apply MV.op_sub') | (with_reducible apply MV.dMul_ok; rotate_left) | (with_reducible apply MV.dDiv_ok; rotate_left) | (with_reducible apply MV.dMod_ok; rotate_left) | (with_reducible apply MV.op_ixL) | (with_reducible apply MV.op_ixT) | (with_reducible apply MV.at_0) | (with_reducible apply MV.fn_int) | (with_reducible apply MV.fn_abs) | (with_reducible apply MV.fn_len) | (with_reducible apply MV.fn_lenT) | (with_reducible apply MV.fn_tupL) | (with_reducible apply MV.fn_tupT) | (with_reducible apply MV.fn_lstL) | (with_reducible apply MV.fn_lstT) | (with_reducible apply MV.ex_tup) | (with_reducible apply MV.ex_lst) | (with_reducible apply MV.ex_l) | (with_reducible apply MV.len_0) | (with_reducible apply MV.len_s) | (with_reducible apply MV.st_ret) | (with_reducible apply MV.retO_0) | (with_reducible apply MV.retO_0d) | (with_reducible apply MV.retO_s) | (with_reducible apply MV.st_if) | (with_reducible apply MV.ite_tt) | (with_reducible apply MV.ite_ff) | (with_reducible apply MV.bo_as) | (with_reducible apply MV.bo_tru) | (with_reducible apply MV.bo_and) | (with_reducible apply MV.bo_or) | (with_reducible apply MV.bo_not) | (with_reducible apply MV.not_t) | (with_reducible apply MV.not_f) | (with_reducible apply MV.ex_and) | (with_reducible apply MV.ex_or) | (with_reducible apply MV.ex_not) | (with_reducible apply MV.ex_if) | (with_reducible apply MV.st_skip) | (with_reducible apply MV.st_drop) | (with_reducible apply MV.st_brk) | (with_reducible apply MV.st_cnt) | (with_reducible apply MV.st_setO) | (with_reducible apply MV.app_at) | (with_reducible apply MV.get_0) | (with_reducible apply MV.get_s) | (with_reducible apply MV.st_par) | (with_reducible apply MV.st_asg) | (with_reducible apply MV.tg_set) | (with_reducible apply MV.tg_tup) | (with_reducible apply MV.tg_cons) | (with_reducible apply MV.tg_nil) | (with_reducible apply MV.st_for) | (with_reducible apply MV.st_frz) | (with_reducible apply MV.put_at) | (with_reducible apply MV.src_seq) | (with_reducible apply MV.src_2) | (with_reducible apply MV.seq_l) | (with_reducible apply MV.seq_t) | (with_reducible apply MV.zip_ok) | (with_reducible apply MV.enum_ok) | (with_reducible apply MV.ex_1) | (with_reducible apply MV.ex_call) | (with_reducible apply MV.op_neg') | (with_reducible apply MV.op_lt') | (with_reducible apply MV.op_le') | (with_reducible apply MV.op_gt') | (with_reducible apply MV.op_ge') | (with_reducible apply MV.op_p18) | (with_reducible apply MV.op_p9) | (with_reducible apply MV.op_p30) | (with_reducible apply MV.op_eqI) | (with_reducible apply MV.op_neI) | (with_reducible apply MV.op_eqSS) | (with_reducible apply MV.op_neSS) | (with_reducible apply MV.op_eqS) | (with_reducible apply MV.op_neS) | (with_reducible apply MV.op_eqB) | (with_reducible apply MV.op_neB) | (with_reducible apply MV.fn_gcd) | (with_reducible apply MV.fn_intB) | (with_reducible apply MV.post_bk) | (with_reducible apply MV.post_ct) | (with_reducible apply MV.then_bk) | (with_reducible apply MV.then_ct) | (with_reducible apply MV.cut_ok) | (with_reducible apply MV.part_ok) | (with_reducible apply MV.part_no) | (with_reducible apply MV.then_ex) | (with_reducible apply MV.post_ex) | (with_reducible apply MV.st_raise) | (with_reducible apply MV.mk_err) | (with_reducible apply MV.err_int) | (with_reducible apply MV.err_non) | (with_reducible apply MV.st_ifX) | (with_reducible apply MV.ifX_ok) | (with_reducible apply MV.ifX_er) | (with_reducible apply MV.ex_2X) | (with_reducible apply MV.m2R_er) | (with_reducible apply MV.m2R_ok) | (with_reducible apply MV.ex_callX) | (with_reducible apply MV.st_try) | (with_reducible apply MV.try_nx) | (with_reducible apply MV.try_rt) | (with_reducible apply MV.try_ex) | (with_reducible apply MV.end_rt) | (with_reducible apply MV.end_nx) | (with_reducible apply MV.st_guard) | (with_reducible apply MV.fld_ok) | (with_reducible apply MV.isv_ok) | (with_reducible apply MV.some_rfl) | (refine MV.ite_t (by assumption) ?_) | (refine MV.ite_f (by assumption) ?_) | (exact (by assumption : _ = true)) | (refine MV.ite_dt (by omega) ?_) | (refine MV.ite_df (by omega) ?_) | (refine MV.ite_et (by omega) ?_) | (refine MV.ite_ef (by omega) ?_)))
  | false =>
    rw [h2, Bool.or_false] at t1
    rw [h2] at t2
    cases h1 : isWhole v with
    | true =>
      rw [h1] at t1
      rw [if_pos rfl]
      unfold lp__law_is_point_1
      (repeat (first | (with_reducible apply t1 <;> first | omega | skip) | (with_reducible apply t2 <;> first | omega | skip) | (with_reducible apply MV.seq_ok) | (with_reducible apply MV.then_nx) | (with_reducible apply MV.then_rt) | (with_reducible apply MV.ar_cons) | (with_reducible apply MV.ar_nil) | (with_reducible apply MV.ex_c) | (with_reducible apply MV.var_0) | (with_reducible apply MV.var_s) | (with_reducible apply MV.own_0) | (with_reducible apply MV.own_0d) | (with_reducible apply MV.own_s) | (with_reducible apply MV.ex_2) | (with_reducible apply MV.ex_call0) | (with_reducible apply MV.ex_fn) | (with_reducible apply MV.st_set) | (with_reducible apply MV.set_0) | (with_reducible apply MV.set_s) | (with_reducible apply MV.st_post) | (with_reducible apply MV.post_nx) | (with_reducible apply MV.post_rt) | (with_reducible apply MV.wipe_0) | (with_reducible apply MV.wipe_s) | (with_reducible apply MV.op_add') | (with_reducible apply MV.op_sub') | (with_reducible apply MV.dMul_ok; rotate_left) | (with_reducible apply MV.dDiv_ok; rotate_left) | (with_reducible apply MV.dMod_ok; rotate_left) | (with_reducible apply MV.op_ixL) | (with_reducible apply MV.op_ixT) | (with_reducible apply MV.at_0) | (with_reducible apply MV.fn_int) | (with_reducible apply MV.fn_abs) | (with_reducible apply MV.fn_len) | (with_reducible apply MV.fn_lenT) | (with_reducible apply MV.fn_tupL) | (with_reducible apply MV.fn_tupT) | (with_reducible apply MV.fn_lstL) | (with_reducible apply MV.fn_lstT) | (with_reducible apply MV.ex_tup) | (with_reducible apply MV.ex_lst) | (with_reducible apply MV.ex_l) | (with_reducible apply MV.len_0) | (with_reducible apply MV.len_s) | (with_reducible apply MV.st_ret) | (with_reducible apply MV.retO_0) | (with_reducible apply MV.retO_0d) | (with_reducible apply MV.retO_s) | (with_reducible apply MV.st_if) | (with_reducible apply MV.ite_tt) | (with_reducible apply MV.ite_ff) | (with_reducible apply MV.bo_as) | (with_reducible apply MV.bo_tru) | (with_reducible apply MV.bo_and) | (with_reducible apply MV.bo_or) | (with_reducible apply MV.bo_not) | (with_reducible apply MV.not_t) | (with_reducible apply MV.not_f) | (with_reducible apply MV.ex_and) | (with_reducible apply MV.ex_or) | (with_reducible apply MV.ex_not) | (with_reducible apply MV.ex_if) | (with_reducible apply MV.st_skip) | (with_reducible apply MV.st_drop) | (with_reducible apply MV.st_brk) | (with_reducible apply MV.st_cnt) | (with_reducible apply MV.st_setO) | (with_reducible apply MV.app_at) | (with_reducible apply MV.get_0) | (with_reducible apply MV.get_s) | (with_reducible apply MV.st_par) | (with_reducible apply MV.st_asg) | (with_reducible apply MV.tg_set) | (with_reducible apply MV.tg_tup) | (with_reducible apply MV.tg_cons) | (with_reducible apply MV.tg_nil) | (with_reducible apply MV.st_for) | (with_reducible apply MV.st_frz) | (with_reducible apply MV.put_at) | (with_reducible apply MV.src_seq) | (with_reducible apply MV.src_2) | (with_reducible apply MV.seq_l) | (with_reducible apply MV.seq_t) | (with_reducible apply MV.zip_ok) | (with_reducible apply MV.enum_ok) | (with_reducible apply MV.ex_1) | (with_reducible apply MV.ex_call) | (with_reducible apply MV.op_neg') | (with_reducible apply MV.op_lt') | (with_reducible apply MV.op_le') | (with_reducible apply MV.op_gt') | (with_reducible apply MV.op_ge') | (with_reducible apply MV.op_p18) | (with_reducible apply MV.op_p9) | (with_reducible apply MV.op_p30) | (with_reducible apply MV.op_eqI) | (with_reducible apply MV.op_neI) | (with_reducible apply MV.op_eqSS) | (with_reducible apply MV.op_neSS) | (with_reducible apply MV.op_eqS) | (with_reducible apply MV.op_neS) | (with_reducible apply MV.op_eqB) | (with_reducible apply MV.op_neB) | (with_reducible apply MV.fn_gcd) | (with_reducible apply MV.fn_intB) | (with_reducible apply MV.post_bk) | (with_reducible apply MV.post_ct) | (with_reducible apply MV.then_bk) | (with_reducible apply MV.then_ct) | (with_reducible apply MV.cut_ok) | (with_reducible apply MV.part_ok) | (with_reducible apply MV.part_no) | (with_reducible apply MV.then_ex) | (with_reducible apply MV.post_ex) | (with_reducible apply MV.st_raise) | (with_reducible apply MV.mk_err) | (with_reducible apply MV.err_int) | (with_reducible apply MV.err_non) | (with_reducible apply MV.st_ifX) | (with_reducible apply MV.ifX_ok) | (with_reducible apply MV.ifX_er) | (with_reducible apply MV.ex_2X) | (with_reducible apply MV.m2R_er) | (with_reducible apply MV.m2R_ok) | (with_reducible apply MV.ex_callX) | (with_reducible apply MV.st_try) | (with_reducible apply MV.try_nx) | (with_reducible apply MV.try_rt) | (with_reducible apply MV.try_ex) | (with_reducible apply MV.end_rt) | (with_reducible apply MV.end_nx) | (with_reducible apply MV.st_guard) | (with_reducible apply MV.fld_ok) | (with_reducible apply MV.isv_ok) | (with_reducible apply MV.some_rfl) | (refine MV.ite_t (by assumption) ?_) | (refine MV.ite_f (by assumption) ?_) | (exact (by assumption : _ = true)) | (refine MV.ite_dt (by omega) ?_) | (refine MV.ite_df (by omega) ?_) | (refine MV.ite_et (by omega) ?_) | (refine MV.ite_ef (by omega) ?_)))
    | false =>
      rw [h1] at t1
      rw [if_neg Bool.false_ne_true]
      unfold lp__law_is_point_1
      (repeat (first | (with_reducible apply t1 <;> first | omega | skip) | (with_reducible apply t2 <;> first | omega | skip) | (with_reducible apply MV.seq_ok) | (with_reducible apply MV.then_nx) | (with_reducible apply MV.then_rt) | (with_reducible apply MV.ar_cons) | (with_reducible apply MV.ar_nil) | (with_reducible apply MV.ex_c) | (with_reducible apply MV.var_0) | (with_reducible apply MV.var_s) | (with_reducible apply MV.own_0) | (with_reducible apply MV.own_0d) | (with_reducible apply MV.own_s) | (with_reducible apply MV.ex_2) | (with_reducible apply MV.ex_call0) | (with_reducible apply MV.ex_fn) | (with_reducible apply MV.st_set) | (with_reducible apply MV.set_0) | (with_reducible apply MV.set_s) | (with_reducible apply MV.st_post) | (with_reducible apply MV.post_nx) | (with_reducible apply MV.post_rt) | (with_reducible apply MV.wipe_0) | (with_reducible apply MV.wipe_s) | (with_reducible apply MV.op_add') | (with_reducible apply MV.op_sub') | (with_reducible apply MV.dMul_ok; rotate_left) | (with_reducible apply MV.dDiv_ok; rotate_left) | (with_reducible apply MV.dMod_ok; rotate_left) | (with_reducible apply MV.op_ixL) | (with_reducible apply MV.op_ixT) | (with_reducible apply MV.at_0) | (with_reducible apply MV.fn_int) | (with_reducible apply MV.fn_abs) | (with_reducible apply MV.fn_len) | (with_reducible apply MV.fn_lenT) | (with_reducible apply MV.fn_tupL) | (with_reducible apply MV.fn_tupT) | (with_reducible apply MV.fn_lstL) | (with_reducible apply MV.fn_lstT) | (with_reducible apply MV.ex_tup) | (with_reducible apply MV.ex_lst) | (with_reducible apply MV.ex_l) | (with_reducible apply MV.len_0) | (with_reducible apply MV.len_s) | (with_reducible apply MV.st_ret) | (with_reducible apply MV.retO_0) | (with_reducible apply MV.retO_0d) | (with_reducible apply MV.retO_s) | (with_reducible apply MV.st_if) | (with_reducible apply MV.ite_tt) | (with_reducible apply MV.ite_ff) | (with_reducible apply MV.bo_as) | (with_reducible apply MV.bo_tru) | (with_reducible apply MV.bo_and) | (with_reducible apply MV.bo_or) | (with_reducible apply MV.bo_not) | (with_reducible apply MV.not_t) | (with_reducible apply MV.not_f) | (with_reducible apply MV.ex_and) | (with_reducible apply MV.ex_or) | (with_reducible apply MV.ex_not) | (with_reducible apply MV.ex_if) | (with_reducible apply MV.st_skip) | (with_reducible apply MV.st_drop) | (with_reducible apply MV.st_brk) | (with_reducible apply MV.st_cnt) | (with_reducible apply MV.st_setO) | (with_reducible apply MV.app_at) | (with_reducible apply MV.get_0) | (with_reducible apply MV.get_s) | (with_reducible apply MV.st_par) | (with_reducible apply MV.st_asg) | (with_reducible apply MV.tg_set) | (with_reducible apply MV.tg_tup) | (with_reducible apply MV.tg_cons) | (with_reducible apply MV.tg_nil) | (with_reducible apply MV.st_for) | (with_reducible apply MV.st_frz) | (with_reducible apply MV.put_at) | (with_reducible apply MV.src_seq) | (with_reducible apply MV.src_2) | (with_reducible apply MV.seq_l) | (with_reducible apply MV.seq_t) | (with_reducible apply MV.zip_ok) | (with_reducible apply MV.enum_ok) | (with_reducible apply MV.ex_1) | (with_reducible apply MV.ex_call) | (with_reducible apply MV.op_neg') | (with_reducible apply MV.op_lt') | (with_reducible apply MV.op_le') | (with_reducible apply MV.op_gt') | (with_reducible apply MV.op_ge') | (with_reducible apply MV.op_p18) | (with_reducible apply MV.op_p9) | (with_reducible apply MV.op_p30) | (with_reducible apply MV.op_eqI) | (with_reducible apply MV.op_neI) | (with_reducible apply MV.op_eqSS) | (with_reducible apply MV.op_neSS) | (with_reducible apply MV.op_eqS) | (with_reducible apply MV.op_neS) | (with_reducible apply MV.op_eqB) | (with_reducible apply MV.op_neB) | (with_reducible apply MV.fn_gcd) | (with_reducible apply MV.fn_intB) | (with_reducible apply MV.post_bk) | (with_reducible apply MV.post_ct) | (with_reducible apply MV.then_bk) | (with_reducible apply MV.then_ct) | (with_reducible apply MV.cut_ok) | (with_reducible apply MV.part_ok) | (with_reducible apply MV.part_no) | (with_reducible apply MV.then_ex) | (with_reducible apply MV.post_ex) | (with_reducible apply MV.st_raise) | (with_reducible apply MV.mk_err) | (with_reducible apply MV.err_int) | (with_reducible apply MV.err_non) | (with_reducible apply MV.st_ifX) | (with_reducible apply MV.ifX_ok) | (with_reducible apply MV.ifX_er) | (with_reducible apply MV.ex_2X) | (with_reducible apply MV.m2R_er) | (with_reducible apply MV.m2R_ok) | (with_reducible apply MV.ex_callX) | (with_reducible apply MV.st_try) | (with_reducible apply MV.try_nx) | (with_reducible apply MV.try_rt) | (with_reducible apply MV.try_ex) | (with_reducible apply MV.end_rt) | (with_reducible apply MV.end_nx) | (with_reducible apply MV.st_guard) | (with_reducible apply MV.fld_ok) | (with_reducible apply MV.isv_ok) | (with_reducible apply MV.some_rfl) | (refine MV.ite_t (by assumption) ?_) | (refine MV.ite_f (by assumption) ?_) | (exact (by assumption : _ = true)) | (refine MV.ite_dt (by omega) ?_) | (refine MV.ite_df (by omega) ?_) | (refine MV.ite_et (by omega) ?_) | (refine MV.ite_ef (by omega) ?_)))
theorem point_turn (v : D) (hl : lim v = true) (c0 c1 : Cell) : lp__law_is_point_2 [c0, c1, .dat v, .un] = some (if isFrac v = true then .nx [c0, c1, .un, .un] else .rt (.bool false)) := by
  have no : ∀ w : D, isTup w = false → isFrac w = false := fun w h => by cases w <;> first | rfl | cases h
  cases hv : isTup v with
  | false =>
    have t := isD_tup v
    rw [hv] at t
    rw [no v hv, if_neg Bool.false_ne_true]
    unfold lp__law_is_point_2
    (repeat (first | (with_reducible apply t <;> first | omega | skip) | (with_reducible apply MV.seq_ok) | (with_reducible apply MV.then_nx) | (with_reducible apply MV.then_rt) | (with_reducible apply MV.ar_cons) | (with_reducible apply MV.ar_nil) | (with_reducible apply MV.ex_c) | (with_reducible apply MV.var_0) | (with_reducible apply MV.var_s) | (with_reducible apply MV.own_0) | (with_reducible apply MV.own_0d) | (with_reducible apply MV.own_s) | (with_reducible apply MV.ex_2) | (with_reducible apply MV.ex_call0) | (with_reducible apply MV.ex_fn) | (with_reducible apply MV.st_set) | (with_reducible apply MV.set_0) | (with_reducible apply MV.set_s) | (with_reducible apply MV.st_post) | (with_reducible apply MV.post_nx) | (with_reducible apply MV.post_rt) | (with_reducible apply MV.wipe_0) | (with_reducible apply MV.wipe_s) | (with_reducible apply MV.op_add') | (with_reducible apply MV.op_sub') | (with_reducible apply MV.dMul_ok; rotate_left) | (with_reducible apply MV.dDiv_ok; rotate_left) | (with_reducible apply MV.dMod_ok; rotate_left) | (with_reducible apply MV.op_ixL) | (with_reducible apply MV.op_ixT) | (with_reducible apply MV.at_0) | (with_reducible apply MV.fn_int) | (with_reducible apply MV.fn_abs) | (with_reducible apply MV.fn_len) | (with_reducible apply MV.fn_lenT) | (with_reducible apply MV.fn_tupL) | (with_reducible apply MV.fn_tupT) | (with_reducible apply MV.fn_lstL) | (with_reducible apply MV.fn_lstT) | (with_reducible apply MV.ex_tup) | (with_reducible apply MV.ex_lst) | (with_reducible apply MV.ex_l) | (with_reducible apply MV.len_0) | (with_reducible apply MV.len_s) | (with_reducible apply MV.st_ret) | (with_reducible apply MV.retO_0) | (with_reducible apply MV.retO_0d) | (with_reducible apply MV.retO_s) | (with_reducible apply MV.st_if) | (with_reducible apply MV.ite_tt) | (with_reducible apply MV.ite_ff) | (with_reducible apply MV.bo_as) | (with_reducible apply MV.bo_tru) | (with_reducible apply MV.bo_and) | (with_reducible apply MV.bo_or) | (with_reducible apply MV.bo_not) | (with_reducible apply MV.not_t) | (with_reducible apply MV.not_f) | (with_reducible apply MV.ex_and) | (with_reducible apply MV.ex_or) | (with_reducible apply MV.ex_not) | (with_reducible apply MV.ex_if) | (with_reducible apply MV.st_skip) | (with_reducible apply MV.st_drop) | (with_reducible apply MV.st_brk) | (with_reducible apply MV.st_cnt) | (with_reducible apply MV.st_setO) | (with_reducible apply MV.app_at) | (with_reducible apply MV.get_0) | (with_reducible apply MV.get_s) | (with_reducible apply MV.st_par) | (with_reducible apply MV.st_asg) | (with_reducible apply MV.tg_set) | (with_reducible apply MV.tg_tup) | (with_reducible apply MV.tg_cons) | (with_reducible apply MV.tg_nil) | (with_reducible apply MV.st_for) | (with_reducible apply MV.st_frz) | (with_reducible apply MV.put_at) | (with_reducible apply MV.src_seq) | (with_reducible apply MV.src_2) | (with_reducible apply MV.seq_l) | (with_reducible apply MV.seq_t) | (with_reducible apply MV.zip_ok) | (with_reducible apply MV.enum_ok) | (with_reducible apply MV.ex_1) | (with_reducible apply MV.ex_call) | (with_reducible apply MV.op_neg') | (with_reducible apply MV.op_lt') | (with_reducible apply MV.op_le') | (with_reducible apply MV.op_gt') | (with_reducible apply MV.op_ge') | (with_reducible apply MV.op_p18) | (with_reducible apply MV.op_p9) | (with_reducible apply MV.op_p30) | (with_reducible apply MV.op_eqI) | (with_reducible apply MV.op_neI) | (with_reducible apply MV.op_eqSS) | (with_reducible apply MV.op_neSS) | (with_reducible apply MV.op_eqS) | (with_reducible apply MV.op_neS) | (with_reducible apply MV.op_eqB) | (with_reducible apply MV.op_neB) | (with_reducible apply MV.fn_gcd) | (with_reducible apply MV.fn_intB) | (with_reducible apply MV.post_bk) | (with_reducible apply MV.post_ct) | (with_reducible apply MV.then_bk) | (with_reducible apply MV.then_ct) | (with_reducible apply MV.cut_ok) | (with_reducible apply MV.part_ok) | (with_reducible apply MV.part_no) | (with_reducible apply MV.then_ex) | (with_reducible apply MV.post_ex) | (with_reducible apply MV.st_raise) | (with_reducible apply MV.mk_err) | (with_reducible apply MV.err_int) | (with_reducible apply MV.err_non) | (with_reducible apply MV.st_ifX) | (with_reducible apply MV.ifX_ok) | (with_reducible apply MV.ifX_er) | (with_reducible apply MV.ex_2X) | (with_reducible apply MV.m2R_er) | (with_reducible apply MV.m2R_ok) | (with_reducible apply MV.ex_callX) | (with_reducible apply MV.st_try) | (with_reducible apply MV.try_nx) | (with_reducible apply MV.try_rt) | (with_reducible apply MV.try_ex) | (with_reducible apply MV.end_rt) | (with_reducible apply MV.end_nx) | (with_reducible apply MV.st_guard) | (with_reducible apply MV.fld_ok) | (with_reducible apply MV.isv_ok) | (with_reducible apply MV.some_rfl) | (refine MV.ite_t (by assumption) ?_) | (refine MV.ite_f (by assumption) ?_) | (exact (by assumption : _ = true)) | (refine MV.ite_dt (by omega) ?_) | (refine MV.ite_df (by omega) ?_) | (refine MV.ite_et (by omega) ?_) | (refine MV.ite_ef (by omega) ?_)))
  | true =>
    cases v <;> first | cases hv | skip
    rename_i ds
    have t : isD "tuple" (.tuple ds) = some (.bool true) := isD_tup _
    have far : ds.length ≠ 2 → lp__law_is_point_2 [c0, c1, .dat (.tuple ds), .un] = some (if isFrac (.tuple ds) = true then .nx [c0, c1, .un, .un] else .rt (.bool false)) := fun h => by
      have e : isFrac (.tuple ds) = false := by
        match ds, h with
        | [], _ => rfl
        | [_], _ => simp [isFrac]
        | [_, _], h => exact absurd rfl h
        | _ :: _ :: _ :: _, _ => simp [isFrac]
      have nl : dNe (.int (ds.length : Int)) (.int 2) = some (.bool true) := by
        rw [op_neI, show ((ds.length : Int) == 2) = false by simpa using (by omega : (ds.length : Int) ≠ 2)]
        rfl
      rw [e, if_neg Bool.false_ne_true]
      unfold lp__law_is_point_2
      (repeat (first | (with_reducible apply t <;> first | omega | skip) | (with_reducible apply nl <;> first | omega | skip) | (with_reducible apply MV.seq_ok) | (with_reducible apply MV.then_nx) | (with_reducible apply MV.then_rt) | (with_reducible apply MV.ar_cons) | (with_reducible apply MV.ar_nil) | (with_reducible apply MV.ex_c) | (with_reducible apply MV.var_0) | (with_reducible apply MV.var_s) | (with_reducible apply MV.own_0) | (with_reducible apply MV.own_0d) | (with_reducible apply MV.own_s) | (with_reducible apply MV.ex_2) | (with_reducible apply MV.ex_call0) | (with_reducible apply MV.ex_fn) | (with_reducible apply MV.st_set) | (with_reducible apply MV.set_0) | (with_reducible apply MV.set_s) | (with_reducible apply MV.st_post) | (with_reducible apply MV.post_nx) | (with_reducible apply MV.post_rt) | (with_reducible apply MV.wipe_0) | (with_reducible apply MV.wipe_s) | (with_reducible apply MV.op_add') | (with_reducible apply MV.op_sub') | (with_reducible apply MV.dMul_ok; rotate_left) | (with_reducible apply MV.dDiv_ok; rotate_left) | (with_reducible apply MV.dMod_ok; rotate_left) | (with_reducible apply MV.op_ixL) | (with_reducible apply MV.op_ixT) | (with_reducible apply MV.at_0) | (with_reducible apply MV.fn_int) | (with_reducible apply MV.fn_abs) | (with_reducible apply MV.fn_len) | (with_reducible apply MV.fn_lenT) | (with_reducible apply MV.fn_tupL) | (with_reducible apply MV.fn_tupT) | (with_reducible apply MV.fn_lstL) | (with_reducible apply MV.fn_lstT) | (with_reducible apply MV.ex_tup) | (with_reducible apply MV.ex_lst) | (with_reducible apply MV.ex_l) | (with_reducible apply MV.len_0) | (with_reducible apply MV.len_s) | (with_reducible apply MV.st_ret) | (with_reducible apply MV.retO_0) | (with_reducible apply MV.retO_0d) | (with_reducible apply MV.retO_s) | (with_reducible apply MV.st_if) | (with_reducible apply MV.ite_tt) | (with_reducible apply MV.ite_ff) | (with_reducible apply MV.bo_as) | (with_reducible apply MV.bo_tru) | (with_reducible apply MV.bo_and) | (with_reducible apply MV.bo_or) | (with_reducible apply MV.bo_not) | (with_reducible apply MV.not_t) | (with_reducible apply MV.not_f) | (with_reducible apply MV.ex_and) | (with_reducible apply MV.ex_or) | (with_reducible apply MV.ex_not) | (with_reducible apply MV.ex_if) | (with_reducible apply MV.st_skip) | (with_reducible apply MV.st_drop) | (with_reducible apply MV.st_brk) | (with_reducible apply MV.st_cnt) | (with_reducible apply MV.st_setO) | (with_reducible apply MV.app_at) | (with_reducible apply MV.get_0) | (with_reducible apply MV.get_s) | (with_reducible apply MV.st_par) | (with_reducible apply MV.st_asg) | (with_reducible apply MV.tg_set) | (with_reducible apply MV.tg_tup) | (with_reducible apply MV.tg_cons) | (with_reducible apply MV.tg_nil) | (with_reducible apply MV.st_for) | (with_reducible apply MV.st_frz) | (with_reducible apply MV.put_at) | (with_reducible apply MV.src_seq) | (with_reducible apply MV.src_2) | (with_reducible apply MV.seq_l) | (with_reducible apply MV.seq_t) | (with_reducible apply MV.zip_ok) | (with_reducible apply MV.enum_ok) | (with_reducible apply MV.ex_1) | (with_reducible apply MV.ex_call) | (with_reducible apply MV.op_neg') | (with_reducible apply MV.op_lt') | (with_reducible apply MV.op_le') | (with_reducible apply MV.op_gt') | (with_reducible apply MV.op_ge') | (with_reducible apply MV.op_p18) | (with_reducible apply MV.op_p9) | (with_reducible apply MV.op_p30) | (with_reducible apply MV.op_eqI) | (with_reducible apply MV.op_neI) | (with_reducible apply MV.op_eqSS) | (with_reducible apply MV.op_neSS) | (with_reducible apply MV.op_eqS) | (with_reducible apply MV.op_neS) | (with_reducible apply MV.op_eqB) | (with_reducible apply MV.op_neB) | (with_reducible apply MV.fn_gcd) | (with_reducible apply MV.fn_intB) | (with_reducible apply MV.post_bk) | (with_reducible apply MV.post_ct) | (with_reducible apply MV.then_bk) | (with_reducible apply MV.then_ct) | (with_reducible apply MV.cut_ok) | (with_reducible apply MV.part_ok) | (with_reducible apply MV.part_no) | (with_reducible apply MV.then_ex) | (with_reducible apply MV.post_ex) | (with_reducible apply MV.st_raise) | (with_reducible apply MV.mk_err) | (with_reducible apply MV.err_int) | (with_reducible apply MV.err_non) | (with_reducible apply MV.st_ifX) | (with_reducible apply MV.ifX_ok) | (with_reducible apply MV.ifX_er) | (with_reducible apply MV.ex_2X) | (with_reducible apply MV.m2R_er) | (with_reducible apply MV.m2R_ok) | (with_reducible apply MV.ex_callX) | (with_reducible apply MV.st_try) | (with_reducible apply MV.try_nx) | (with_reducible apply MV.try_rt) | (with_reducible apply MV.try_ex) | (with_reducible apply MV.end_rt) | (with_reducible apply MV.end_nx) | (with_reducible apply MV.st_guard) | (with_reducible apply MV.fld_ok) | (with_reducible apply MV.isv_ok) | (with_reducible apply MV.some_rfl) | (refine MV.ite_t (by assumption) ?_) | (refine MV.ite_f (by assumption) ?_) | (exact (by assumption : _ = true)) | (refine MV.ite_dt (by omega) ?_) | (refine MV.ite_df (by omega) ?_) | (refine MV.ite_et (by omega) ?_) | (refine MV.ite_ef (by omega) ?_)))
    match ds, far with
    | [], far => exact far (by decide)
    | [_], far => exact far (by simp)
    | _ :: _ :: _ :: _, far => exact far (by simp)
    | [a, b], _ =>
      have n2 : dNe (.int (([a, b] : List D).length : Int)) (.int 2) = some (.bool false) := by rw [op_neI]; rfl
      have t1 := part_turn a
      have t2 := part_turn b
      cases ha : isWhole a with
      | false =>
        have e : isFrac (.tuple [a, b]) = false := by cases a <;> first | rfl | cases ha
        rw [ha] at t1
        have lo : ∀ c0 c1 c2, loopD (gSet 3) lp__law_is_point_1 [a, b] [c0, c1, c2, .un] = some (.rt (.bool false)) := fun c0 c1 c2 => MV.loop_rt rfl (t1 c0 c1 c2)
        rw [e, if_neg Bool.false_ne_true]
        unfold lp__law_is_point_2
        (repeat (first | (with_reducible apply t <;> first | omega | skip) | (with_reducible apply n2 <;> first | omega | skip) | (with_reducible apply lo <;> first | omega | skip) | (with_reducible apply MV.seq_ok) | (with_reducible apply MV.then_nx) | (with_reducible apply MV.then_rt) | (with_reducible apply MV.ar_cons) | (with_reducible apply MV.ar_nil) | (with_reducible apply MV.ex_c) | (with_reducible apply MV.var_0) | (with_reducible apply MV.var_s) | (with_reducible apply MV.own_0) | (with_reducible apply MV.own_0d) | (with_reducible apply MV.own_s) | (with_reducible apply MV.ex_2) | (with_reducible apply MV.ex_call0) | (with_reducible apply MV.ex_fn) | (with_reducible apply MV.st_set) | (with_reducible apply MV.set_0) | (with_reducible apply MV.set_s) | (with_reducible apply MV.st_post) | (with_reducible apply MV.post_nx) | (with_reducible apply MV.post_rt) | (with_reducible apply MV.wipe_0) | (with_reducible apply MV.wipe_s) | (with_reducible apply MV.op_add') | (with_reducible apply MV.op_sub') | (with_reducible apply MV.dMul_ok; rotate_left) | (with_reducible apply MV.dDiv_ok; rotate_left) | (with_reducible apply MV.dMod_ok; rotate_left) | (with_reducible apply MV.op_ixL) | (with_reducible apply MV.op_ixT) | (with_reducible apply MV.at_0) | (with_reducible apply MV.fn_int) | (with_reducible apply MV.fn_abs) | (with_reducible apply MV.fn_len) | (with_reducible apply MV.fn_lenT) | (with_reducible apply MV.fn_tupL) | (with_reducible apply MV.fn_tupT) | (with_reducible apply MV.fn_lstL) | (with_reducible apply MV.fn_lstT) | (with_reducible apply MV.ex_tup) | (with_reducible apply MV.ex_lst) | (with_reducible apply MV.ex_l) | (with_reducible apply MV.len_0) | (with_reducible apply MV.len_s) | (with_reducible apply MV.st_ret) | (with_reducible apply MV.retO_0) | (with_reducible apply MV.retO_0d) | (with_reducible apply MV.retO_s) | (with_reducible apply MV.st_if) | (with_reducible apply MV.ite_tt) | (with_reducible apply MV.ite_ff) | (with_reducible apply MV.bo_as) | (with_reducible apply MV.bo_tru) | (with_reducible apply MV.bo_and) | (with_reducible apply MV.bo_or) | (with_reducible apply MV.bo_not) | (with_reducible apply MV.not_t) | (with_reducible apply MV.not_f) | (with_reducible apply MV.ex_and) | (with_reducible apply MV.ex_or) | (with_reducible apply MV.ex_not) | (with_reducible apply MV.ex_if) | (with_reducible apply MV.st_skip) | (with_reducible apply MV.st_drop) | (with_reducible apply MV.st_brk) | (with_reducible apply MV.st_cnt) | (with_reducible apply MV.st_setO) | (with_reducible apply MV.app_at) | (with_reducible apply MV.get_0) | (with_reducible apply MV.get_s) | (with_reducible apply MV.st_par) | (with_reducible apply MV.st_asg) | (with_reducible apply MV.tg_set) | (with_reducible apply MV.tg_tup) | (with_reducible apply MV.tg_cons) | (with_reducible apply MV.tg_nil) | (with_reducible apply MV.st_for) | (with_reducible apply MV.st_frz) | (with_reducible apply MV.put_at) | (with_reducible apply MV.src_seq) | (with_reducible apply MV.src_2) | (with_reducible apply MV.seq_l) | (with_reducible apply MV.seq_t) | (with_reducible apply MV.zip_ok) | (with_reducible apply MV.enum_ok) | (with_reducible apply MV.ex_1) | (with_reducible apply MV.ex_call) | (with_reducible apply MV.op_neg') | (with_reducible apply MV.op_lt') | (with_reducible apply MV.op_le') | (with_reducible apply MV.op_gt') | (with_reducible apply MV.op_ge') | (with_reducible apply MV.op_p18) | (with_reducible apply MV.op_p9) | (with_reducible apply MV.op_p30) | (with_reducible apply MV.op_eqI) | (with_reducible apply MV.op_neI) | (with_reducible apply MV.op_eqSS) | (with_reducible apply MV.op_neSS) | (with_reducible apply MV.op_eqS) | (with_reducible apply MV.op_neS) | (with_reducible apply MV.op_eqB) | (with_reducible apply MV.op_neB) | (with_reducible apply MV.fn_gcd) | (with_reducible apply MV.fn_intB) | (with_reducible apply MV.post_bk) | (with_reducible apply MV.post_ct) | (with_reducible apply MV.then_bk) | (with_reducible apply MV.then_ct) | (with_reducible apply MV.cut_ok) | (with_reducible apply MV.part_ok) | (with_reducible apply MV.part_no) | (with_reducible apply MV.then_ex) | (with_reducible apply MV.post_ex) | (with_reducible apply MV.st_raise) | (with_reducible apply MV.mk_err) | (with_reducible apply MV.err_int) | (with_reducible apply MV.err_non) | (with_reducible apply MV.st_ifX) | (with_reducible apply MV.ifX_ok) | (with_reducible apply MV.ifX_er) | (with_reducible apply MV.ex_2X) | (with_reducible apply MV.m2R_er) | (with_reducible apply MV.m2R_ok) | (with_reducible apply MV.ex_callX) | (with_reducible apply MV.st_try) | (with_reducible apply MV.try_nx) | (with_reducible apply MV.try_rt) | (with_reducible apply MV.try_ex) | (with_reducible apply MV.end_rt) | (with_reducible apply MV.end_nx) | (with_reducible apply MV.st_guard) | (with_reducible apply MV.fld_ok) | (with_reducible apply MV.isv_ok) | (with_reducible apply MV.some_rfl) | (refine MV.ite_t (by assumption) ?_) | (refine MV.ite_f (by assumption) ?_) | (exact (by assumption : _ = true)) | (refine MV.ite_dt (by omega) ?_) | (refine MV.ite_df (by omega) ?_) | (refine MV.ite_et (by omega) ?_) | (refine MV.ite_ef (by omega) ?_)))
      | true =>
        rw [ha] at t1
        cases hb : isWhole b with
        | false =>
          have e : isFrac (.tuple [a, b]) = false := by cases a <;> cases b <;> first | rfl | cases hb | cases ha
          rw [hb] at t2
          have lo : ∀ c0 c1 c2, loopD (gSet 3) lp__law_is_point_1 [a, b] [c0, c1, c2, .un] = some (.rt (.bool false)) := fun c0 c1 c2 => MV.loop_cons rfl (t1 c0 c1 c2) (MV.loop_rt rfl (t2 c0 c1 c2))
          rw [e, if_neg Bool.false_ne_true]
          unfold lp__law_is_point_2
          (repeat (first | (with_reducible apply t <;> first | omega | skip) | (with_reducible apply n2 <;> first | omega | skip) | (with_reducible apply lo <;> first | omega | skip) | (with_reducible apply MV.seq_ok) | (with_reducible apply MV.then_nx) | (with_reducible apply MV.then_rt) | (with_reducible apply MV.ar_cons) | (with_reducible apply MV.ar_nil) | (with_reducible apply MV.ex_c) | (with_reducible apply MV.var_0) | (with_reducible apply MV.var_s) | (with_reducible apply MV.own_0) | (with_reducible apply MV.own_0d) | (with_reducible apply MV.own_s) | (with_reducible apply MV.ex_2) | (with_reducible apply MV.ex_call0) | (with_reducible apply MV.ex_fn) | (with_reducible apply MV.st_set) | (with_reducible apply MV.set_0) | (with_reducible apply MV.set_s) | (with_reducible apply MV.st_post) | (with_reducible apply MV.post_nx) | (with_reducible apply MV.post_rt) | (with_reducible apply MV.wipe_0) | (with_reducible apply MV.wipe_s) | (with_reducible apply MV.op_add') | (with_reducible apply MV.op_sub') | (with_reducible apply MV.dMul_ok; rotate_left) | (with_reducible apply MV.dDiv_ok; rotate_left) | (with_reducible apply MV.dMod_ok; rotate_left) | (with_reducible apply MV.op_ixL) | (with_reducible apply MV.op_ixT) | (with_reducible apply MV.at_0) | (with_reducible apply MV.fn_int) | (with_reducible apply MV.fn_abs) | (with_reducible apply MV.fn_len) | (with_reducible apply MV.fn_lenT) | (with_reducible apply MV.fn_tupL) | (with_reducible apply MV.fn_tupT) | (with_reducible apply MV.fn_lstL) | (with_reducible apply MV.fn_lstT) | (with_reducible apply MV.ex_tup) | (with_reducible apply MV.ex_lst) | (with_reducible apply MV.ex_l) | (with_reducible apply MV.len_0) | (with_reducible apply MV.len_s) | (with_reducible apply MV.st_ret) | (with_reducible apply MV.retO_0) | (with_reducible apply MV.retO_0d) | (with_reducible apply MV.retO_s) | (with_reducible apply MV.st_if) | (with_reducible apply MV.ite_tt) | (with_reducible apply MV.ite_ff) | (with_reducible apply MV.bo_as) | (with_reducible apply MV.bo_tru) | (with_reducible apply MV.bo_and) | (with_reducible apply MV.bo_or) | (with_reducible apply MV.bo_not) | (with_reducible apply MV.not_t) | (with_reducible apply MV.not_f) | (with_reducible apply MV.ex_and) | (with_reducible apply MV.ex_or) | (with_reducible apply MV.ex_not) | (with_reducible apply MV.ex_if) | (with_reducible apply MV.st_skip) | (with_reducible apply MV.st_drop) | (with_reducible apply MV.st_brk) | (with_reducible apply MV.st_cnt) | (with_reducible apply MV.st_setO) | (with_reducible apply MV.app_at) | (with_reducible apply MV.get_0) | (with_reducible apply MV.get_s) | (with_reducible apply MV.st_par) | (with_reducible apply MV.st_asg) | (with_reducible apply MV.tg_set) | (with_reducible apply MV.tg_tup) | (with_reducible apply MV.tg_cons) | (with_reducible apply MV.tg_nil) | (with_reducible apply MV.st_for) | (with_reducible apply MV.st_frz) | (with_reducible apply MV.put_at) | (with_reducible apply MV.src_seq) | (with_reducible apply MV.src_2) | (with_reducible apply MV.seq_l) | (with_reducible apply MV.seq_t) | (with_reducible apply MV.zip_ok) | (with_reducible apply MV.enum_ok) | (with_reducible apply MV.ex_1) | (with_reducible apply MV.ex_call) | (with_reducible apply MV.op_neg') | (with_reducible apply MV.op_lt') | (with_reducible apply MV.op_le') | (with_reducible apply MV.op_gt') | (with_reducible apply MV.op_ge') | (with_reducible apply MV.op_p18) | (with_reducible apply MV.op_p9) | (with_reducible apply MV.op_p30) | (with_reducible apply MV.op_eqI) | (with_reducible apply MV.op_neI) | (with_reducible apply MV.op_eqSS) | (with_reducible apply MV.op_neSS) | (with_reducible apply MV.op_eqS) | (with_reducible apply MV.op_neS) | (with_reducible apply MV.op_eqB) | (with_reducible apply MV.op_neB) | (with_reducible apply MV.fn_gcd) | (with_reducible apply MV.fn_intB) | (with_reducible apply MV.post_bk) | (with_reducible apply MV.post_ct) | (with_reducible apply MV.then_bk) | (with_reducible apply MV.then_ct) | (with_reducible apply MV.cut_ok) | (with_reducible apply MV.part_ok) | (with_reducible apply MV.part_no) | (with_reducible apply MV.then_ex) | (with_reducible apply MV.post_ex) | (with_reducible apply MV.st_raise) | (with_reducible apply MV.mk_err) | (with_reducible apply MV.err_int) | (with_reducible apply MV.err_non) | (with_reducible apply MV.st_ifX) | (with_reducible apply MV.ifX_ok) | (with_reducible apply MV.ifX_er) | (with_reducible apply MV.ex_2X) | (with_reducible apply MV.m2R_er) | (with_reducible apply MV.m2R_ok) | (with_reducible apply MV.ex_callX) | (with_reducible apply MV.st_try) | (with_reducible apply MV.try_nx) | (with_reducible apply MV.try_rt) | (with_reducible apply MV.try_ex) | (with_reducible apply MV.end_rt) | (with_reducible apply MV.end_nx) | (with_reducible apply MV.st_guard) | (with_reducible apply MV.fld_ok) | (with_reducible apply MV.isv_ok) | (with_reducible apply MV.some_rfl) | (refine MV.ite_t (by assumption) ?_) | (refine MV.ite_f (by assumption) ?_) | (exact (by assumption : _ = true)) | (refine MV.ite_dt (by omega) ?_) | (refine MV.ite_df (by omega) ?_) | (refine MV.ite_et (by omega) ?_) | (refine MV.ite_ef (by omega) ?_)))
        | true =>
          rw [hb] at t2
          have lo : ∀ c0 c1 c2, loopD (gSet 3) lp__law_is_point_1 [a, b] [c0, c1, c2, .un] = some (.nx [c0, c1, c2, .un]) := fun c0 c1 c2 => MV.loop_cons rfl (t1 c0 c1 c2) (MV.loop_cons rfl (t2 c0 c1 c2) rfl)
          obtain ⟨n, rfl⟩ := int_of ha
          obtain ⟨d, rfl⟩ := int_of hb
          have hl' := of_decide_eq_true hl
          have i0 : atI [PyData.int n, .int d] 0 = some (.int n) := rfl
          have i1 : atI [PyData.int n, .int d] 1 = some (.int d) := rfl
          have ef : isFrac (.tuple [.int n, .int d]) = (decide (1 ≤ d) && ((Nat.gcd n.natAbs d.natAbs : Nat) : Int) == 1) := rfl
          rw [ef]
          by_cases h1 : 1 ≤ d
          · have cm := common_at (B := 200) (a := n) (b := d.natAbs) (by decide) hl'.1 hl'.2 (.inl (lt_pow hl'.2 (by decide)))
            rw [show (d.natAbs : Int) = d by omega] at cm
            rw [decide_eq_true h1, Bool.true_and]
            have hd : ¬ d < 1 := by omega
            by_cases hg : ((Nat.gcd n.natAbs d.natAbs : Nat) : Int) = 1
            · have ne : dNe (.int ((Nat.gcd n.natAbs d.natAbs : Nat) : Int)) (.int 1) = some (.bool false) := by
                rw [op_neI, hg]
                rfl
              rw [show (((Nat.gcd n.natAbs d.natAbs : Nat) : Int) == 1) = true by simpa using hg, if_pos rfl]
              unfold lp__law_is_point_2
              (repeat (first | (with_reducible apply t <;> first | omega | skip) | (with_reducible apply n2 <;> first | omega | skip) | (with_reducible apply lo <;> first | omega | skip) | (with_reducible apply i0 <;> first | omega | skip) | (with_reducible apply i1 <;> first | omega | skip) | (with_reducible apply cm <;> first | omega | skip) | (with_reducible apply ne <;> first | omega | skip) | (with_reducible apply MV.seq_ok) | (with_reducible apply MV.then_nx) | (with_reducible apply MV.then_rt) | (with_reducible apply MV.ar_cons) | (with_reducible apply MV.ar_nil) | (with_reducible apply MV.ex_c) | (with_reducible apply MV.var_0) | (with_reducible apply MV.var_s) | (with_reducible apply MV.own_0) | (with_reducible apply MV.own_0d) | (with_reducible apply MV.own_s) | (with_reducible apply MV.ex_2) | (with_reducible apply MV.ex_call0) | (with_reducible apply MV.ex_fn) | (with_reducible apply MV.st_set) | (with_reducible apply MV.set_0) | (with_reducible apply MV.set_s) | (with_reducible apply MV.st_post) | (with_reducible apply MV.post_nx) | (with_reducible apply MV.post_rt) | (with_reducible apply MV.wipe_0) | (with_reducible apply MV.wipe_s) | (with_reducible apply MV.op_add') | (with_reducible apply MV.op_sub') | (with_reducible apply MV.dMul_ok; rotate_left) | (with_reducible apply MV.dDiv_ok; rotate_left) | (with_reducible apply MV.dMod_ok; rotate_left) | (with_reducible apply MV.op_ixL) | (with_reducible apply MV.op_ixT) | (with_reducible apply MV.at_0) | (with_reducible apply MV.fn_int) | (with_reducible apply MV.fn_abs) | (with_reducible apply MV.fn_len) | (with_reducible apply MV.fn_lenT) | (with_reducible apply MV.fn_tupL) | (with_reducible apply MV.fn_tupT) | (with_reducible apply MV.fn_lstL) | (with_reducible apply MV.fn_lstT) | (with_reducible apply MV.ex_tup) | (with_reducible apply MV.ex_lst) | (with_reducible apply MV.ex_l) | (with_reducible apply MV.len_0) | (with_reducible apply MV.len_s) | (with_reducible apply MV.st_ret) | (with_reducible apply MV.retO_0) | (with_reducible apply MV.retO_0d) | (with_reducible apply MV.retO_s) | (with_reducible apply MV.st_if) | (with_reducible apply MV.ite_tt) | (with_reducible apply MV.ite_ff) | (with_reducible apply MV.bo_as) | (with_reducible apply MV.bo_tru) | (with_reducible apply MV.bo_and) | (with_reducible apply MV.bo_or) | (with_reducible apply MV.bo_not) | (with_reducible apply MV.not_t) | (with_reducible apply MV.not_f) | (with_reducible apply MV.ex_and) | (with_reducible apply MV.ex_or) | (with_reducible apply MV.ex_not) | (with_reducible apply MV.ex_if) | (with_reducible apply MV.st_skip) | (with_reducible apply MV.st_drop) | (with_reducible apply MV.st_brk) | (with_reducible apply MV.st_cnt) | (with_reducible apply MV.st_setO) | (with_reducible apply MV.app_at) | (with_reducible apply MV.get_0) | (with_reducible apply MV.get_s) | (with_reducible apply MV.st_par) | (with_reducible apply MV.st_asg) | (with_reducible apply MV.tg_set) | (with_reducible apply MV.tg_tup) | (with_reducible apply MV.tg_cons) | (with_reducible apply MV.tg_nil) | (with_reducible apply MV.st_for) | (with_reducible apply MV.st_frz) | (with_reducible apply MV.put_at) | (with_reducible apply MV.src_seq) | (with_reducible apply MV.src_2) | (with_reducible apply MV.seq_l) | (with_reducible apply MV.seq_t) | (with_reducible apply MV.zip_ok) | (with_reducible apply MV.enum_ok) | (with_reducible apply MV.ex_1) | (with_reducible apply MV.ex_call) | (with_reducible apply MV.op_neg') | (with_reducible apply MV.op_lt') | (with_reducible apply MV.op_le') | (with_reducible apply MV.op_gt') | (with_reducible apply MV.op_ge') | (with_reducible apply MV.op_p18) | (with_reducible apply MV.op_p9) | (with_reducible apply MV.op_p30) | (with_reducible apply MV.op_eqI) | (with_reducible apply MV.op_neI) | (with_reducible apply MV.op_eqSS) | (with_reducible apply MV.op_neSS) | (with_reducible apply MV.op_eqS) | (with_reducible apply MV.op_neS) | (with_reducible apply MV.op_eqB) | (with_reducible apply MV.op_neB) | (with_reducible apply MV.fn_gcd) | (with_reducible apply MV.fn_intB) | (with_reducible apply MV.post_bk) | (with_reducible apply MV.post_ct) | (with_reducible apply MV.then_bk) | (with_reducible apply MV.then_ct) | (with_reducible apply MV.cut_ok) | (with_reducible apply MV.part_ok) | (with_reducible apply MV.part_no) | (with_reducible apply MV.then_ex) | (with_reducible apply MV.post_ex) | (with_reducible apply MV.st_raise) | (with_reducible apply MV.mk_err) | (with_reducible apply MV.err_int) | (with_reducible apply MV.err_non) | (with_reducible apply MV.st_ifX) | (with_reducible apply MV.ifX_ok) | (with_reducible apply MV.ifX_er) | (with_reducible apply MV.ex_2X) | (with_reducible apply MV.m2R_er) | (with_reducible apply MV.m2R_ok) | (with_reducible apply MV.ex_callX) | (with_reducible apply MV.st_try) | (with_reducible apply MV.try_nx) | (with_reducible apply MV.try_rt) | (with_reducible apply MV.try_ex) | (with_reducible apply MV.end_rt) | (with_reducible apply MV.end_nx) | (with_reducible apply MV.st_guard) | (with_reducible apply MV.fld_ok) | (with_reducible apply MV.isv_ok) | (with_reducible apply MV.some_rfl) | (refine MV.ite_t (by assumption) ?_) | (refine MV.ite_f (by assumption) ?_) | (exact (by assumption : _ = true)) | (refine MV.ite_dt (by omega) ?_) | (refine MV.ite_df (by omega) ?_) | (refine MV.ite_et (by omega) ?_) | (refine MV.ite_ef (by omega) ?_)))
            · have ne : dNe (.int ((Nat.gcd n.natAbs d.natAbs : Nat) : Int)) (.int 1) = some (.bool true) := by
                rw [op_neI, show (((Nat.gcd n.natAbs d.natAbs : Nat) : Int) == 1) = false by simpa using hg]
                rfl
              rw [show (((Nat.gcd n.natAbs d.natAbs : Nat) : Int) == 1) = false by simpa using hg, if_neg Bool.false_ne_true]
              unfold lp__law_is_point_2
              (repeat (first | (with_reducible apply t <;> first | omega | skip) | (with_reducible apply n2 <;> first | omega | skip) | (with_reducible apply lo <;> first | omega | skip) | (with_reducible apply i0 <;> first | omega | skip) | (with_reducible apply i1 <;> first | omega | skip) | (with_reducible apply cm <;> first | omega | skip) | (with_reducible apply ne <;> first | omega | skip) | (with_reducible apply MV.seq_ok) | (with_reducible apply MV.then_nx) | (with_reducible apply MV.then_rt) | (with_reducible apply MV.ar_cons) | (with_reducible apply MV.ar_nil) | (with_reducible apply MV.ex_c) | (with_reducible apply MV.var_0) | (with_reducible apply MV.var_s) | (with_reducible apply MV.own_0) | (with_reducible apply MV.own_0d) | (with_reducible apply MV.own_s) | (with_reducible apply MV.ex_2) | (with_reducible apply MV.ex_call0) | (with_reducible apply MV.ex_fn) | (with_reducible apply MV.st_set) | (with_reducible apply MV.set_0) | (with_reducible apply MV.set_s) | (with_reducible apply MV.st_post) | (with_reducible apply MV.post_nx) | (with_reducible apply MV.post_rt) | (with_reducible apply MV.wipe_0) | (with_reducible apply MV.wipe_s) | (with_reducible apply MV.op_add') | (with_reducible apply MV.op_sub') | (with_reducible apply MV.dMul_ok; rotate_left) | (with_reducible apply MV.dDiv_ok; rotate_left) | (with_reducible apply MV.dMod_ok; rotate_left) | (with_reducible apply MV.op_ixL) | (with_reducible apply MV.op_ixT) | (with_reducible apply MV.at_0) | (with_reducible apply MV.fn_int) | (with_reducible apply MV.fn_abs) | (with_reducible apply MV.fn_len) | (with_reducible apply MV.fn_lenT) | (with_reducible apply MV.fn_tupL) | (with_reducible apply MV.fn_tupT) | (with_reducible apply MV.fn_lstL) | (with_reducible apply MV.fn_lstT) | (with_reducible apply MV.ex_tup) | (with_reducible apply MV.ex_lst) | (with_reducible apply MV.ex_l) | (with_reducible apply MV.len_0) | (with_reducible apply MV.len_s) | (with_reducible apply MV.st_ret) | (with_reducible apply MV.retO_0) | (with_reducible apply MV.retO_0d) | (with_reducible apply MV.retO_s) | (with_reducible apply MV.st_if) | (with_reducible apply MV.ite_tt) | (with_reducible apply MV.ite_ff) | (with_reducible apply MV.bo_as) | (with_reducible apply MV.bo_tru) | (with_reducible apply MV.bo_and) | (with_reducible apply MV.bo_or) | (with_reducible apply MV.bo_not) | (with_reducible apply MV.not_t) | (with_reducible apply MV.not_f) | (with_reducible apply MV.ex_and) | (with_reducible apply MV.ex_or) | (with_reducible apply MV.ex_not) | (with_reducible apply MV.ex_if) | (with_reducible apply MV.st_skip) | (with_reducible apply MV.st_drop) | (with_reducible apply MV.st_brk) | (with_reducible apply MV.st_cnt) | (with_reducible apply MV.st_setO) | (with_reducible apply MV.app_at) | (with_reducible apply MV.get_0) | (with_reducible apply MV.get_s) | (with_reducible apply MV.st_par) | (with_reducible apply MV.st_asg) | (with_reducible apply MV.tg_set) | (with_reducible apply MV.tg_tup) | (with_reducible apply MV.tg_cons) | (with_reducible apply MV.tg_nil) | (with_reducible apply MV.st_for) | (with_reducible apply MV.st_frz) | (with_reducible apply MV.put_at) | (with_reducible apply MV.src_seq) | (with_reducible apply MV.src_2) | (with_reducible apply MV.seq_l) | (with_reducible apply MV.seq_t) | (with_reducible apply MV.zip_ok) | (with_reducible apply MV.enum_ok) | (with_reducible apply MV.ex_1) | (with_reducible apply MV.ex_call) | (with_reducible apply MV.op_neg') | (with_reducible apply MV.op_lt') | (with_reducible apply MV.op_le') | (with_reducible apply MV.op_gt') | (with_reducible apply MV.op_ge') | (with_reducible apply MV.op_p18) | (with_reducible apply MV.op_p9) | (with_reducible apply MV.op_p30) | (with_reducible apply MV.op_eqI) | (with_reducible apply MV.op_neI) | (with_reducible apply MV.op_eqSS) | (with_reducible apply MV.op_neSS) | (with_reducible apply MV.op_eqS) | (with_reducible apply MV.op_neS) | (with_reducible apply MV.op_eqB) | (with_reducible apply MV.op_neB) | (with_reducible apply MV.fn_gcd) | (with_reducible apply MV.fn_intB) | (with_reducible apply MV.post_bk) | (with_reducible apply MV.post_ct) | (with_reducible apply MV.then_bk) | (with_reducible apply MV.then_ct) | (with_reducible apply MV.cut_ok) | (with_reducible apply MV.part_ok) | (with_reducible apply MV.part_no) | (with_reducible apply MV.then_ex) | (with_reducible apply MV.post_ex) | (with_reducible apply MV.st_raise) | (with_reducible apply MV.mk_err) | (with_reducible apply MV.err_int) | (with_reducible apply MV.err_non) | (with_reducible apply MV.st_ifX) | (with_reducible apply MV.ifX_ok) | (with_reducible apply MV.ifX_er) | (with_reducible apply MV.ex_2X) | (with_reducible apply MV.m2R_er) | (with_reducible apply MV.m2R_ok) | (with_reducible apply MV.ex_callX) | (with_reducible apply MV.st_try) | (with_reducible apply MV.try_nx) | (with_reducible apply MV.try_rt) | (with_reducible apply MV.try_ex) | (with_reducible apply MV.end_rt) | (with_reducible apply MV.end_nx) | (with_reducible apply MV.st_guard) | (with_reducible apply MV.fld_ok) | (with_reducible apply MV.isv_ok) | (with_reducible apply MV.some_rfl) | (refine MV.ite_t (by assumption) ?_) | (refine MV.ite_f (by assumption) ?_) | (exact (by assumption : _ = true)) | (refine MV.ite_dt (by omega) ?_) | (refine MV.ite_df (by omega) ?_) | (refine MV.ite_et (by omega) ?_) | (refine MV.ite_ef (by omega) ?_)))
          · rw [decide_eq_false h1, Bool.false_and, if_neg Bool.false_ne_true]
            have hd : d < 1 := by omega
            unfold lp__law_is_point_2
            (repeat (first | (with_reducible apply t <;> first | omega | skip) | (with_reducible apply n2 <;> first | omega | skip) | (with_reducible apply lo <;> first | omega | skip) | (with_reducible apply i0 <;> first | omega | skip) | (with_reducible apply i1 <;> first | omega | skip) | (with_reducible apply MV.seq_ok) | (with_reducible apply MV.then_nx) | (with_reducible apply MV.then_rt) | (with_reducible apply MV.ar_cons) | (with_reducible apply MV.ar_nil) | (with_reducible apply MV.ex_c) | (with_reducible apply MV.var_0) | (with_reducible apply MV.var_s) | (with_reducible apply MV.own_0) | (with_reducible apply MV.own_0d) | (with_reducible apply MV.own_s) | (with_reducible apply MV.ex_2) | (with_reducible apply MV.ex_call0) | (with_reducible apply MV.ex_fn) | (with_reducible apply MV.st_set) | (with_reducible apply MV.set_0) | (with_reducible apply MV.set_s) | (with_reducible apply MV.st_post) | (with_reducible apply MV.post_nx) | (with_reducible apply MV.post_rt) | (with_reducible apply MV.wipe_0) | (with_reducible apply MV.wipe_s) | (with_reducible apply MV.op_add') | (with_reducible apply MV.op_sub') | (with_reducible apply MV.dMul_ok; rotate_left) | (with_reducible apply MV.dDiv_ok; rotate_left) | (with_reducible apply MV.dMod_ok; rotate_left) | (with_reducible apply MV.op_ixL) | (with_reducible apply MV.op_ixT) | (with_reducible apply MV.at_0) | (with_reducible apply MV.fn_int) | (with_reducible apply MV.fn_abs) | (with_reducible apply MV.fn_len) | (with_reducible apply MV.fn_lenT) | (with_reducible apply MV.fn_tupL) | (with_reducible apply MV.fn_tupT) | (with_reducible apply MV.fn_lstL) | (with_reducible apply MV.fn_lstT) | (with_reducible apply MV.ex_tup) | (with_reducible apply MV.ex_lst) | (with_reducible apply MV.ex_l) | (with_reducible apply MV.len_0) | (with_reducible apply MV.len_s) | (with_reducible apply MV.st_ret) | (with_reducible apply MV.retO_0) | (with_reducible apply MV.retO_0d) | (with_reducible apply MV.retO_s) | (with_reducible apply MV.st_if) | (with_reducible apply MV.ite_tt) | (with_reducible apply MV.ite_ff) | (with_reducible apply MV.bo_as) | (with_reducible apply MV.bo_tru) | (with_reducible apply MV.bo_and) | (with_reducible apply MV.bo_or) | (with_reducible apply MV.bo_not) | (with_reducible apply MV.not_t) | (with_reducible apply MV.not_f) | (with_reducible apply MV.ex_and) | (with_reducible apply MV.ex_or) | (with_reducible apply MV.ex_not) | (with_reducible apply MV.ex_if) | (with_reducible apply MV.st_skip) | (with_reducible apply MV.st_drop) | (with_reducible apply MV.st_brk) | (with_reducible apply MV.st_cnt) | (with_reducible apply MV.st_setO) | (with_reducible apply MV.app_at) | (with_reducible apply MV.get_0) | (with_reducible apply MV.get_s) | (with_reducible apply MV.st_par) | (with_reducible apply MV.st_asg) | (with_reducible apply MV.tg_set) | (with_reducible apply MV.tg_tup) | (with_reducible apply MV.tg_cons) | (with_reducible apply MV.tg_nil) | (with_reducible apply MV.st_for) | (with_reducible apply MV.st_frz) | (with_reducible apply MV.put_at) | (with_reducible apply MV.src_seq) | (with_reducible apply MV.src_2) | (with_reducible apply MV.seq_l) | (with_reducible apply MV.seq_t) | (with_reducible apply MV.zip_ok) | (with_reducible apply MV.enum_ok) | (with_reducible apply MV.ex_1) | (with_reducible apply MV.ex_call) | (with_reducible apply MV.op_neg') | (with_reducible apply MV.op_lt') | (with_reducible apply MV.op_le') | (with_reducible apply MV.op_gt') | (with_reducible apply MV.op_ge') | (with_reducible apply MV.op_p18) | (with_reducible apply MV.op_p9) | (with_reducible apply MV.op_p30) | (with_reducible apply MV.op_eqI) | (with_reducible apply MV.op_neI) | (with_reducible apply MV.op_eqSS) | (with_reducible apply MV.op_neSS) | (with_reducible apply MV.op_eqS) | (with_reducible apply MV.op_neS) | (with_reducible apply MV.op_eqB) | (with_reducible apply MV.op_neB) | (with_reducible apply MV.fn_gcd) | (with_reducible apply MV.fn_intB) | (with_reducible apply MV.post_bk) | (with_reducible apply MV.post_ct) | (with_reducible apply MV.then_bk) | (with_reducible apply MV.then_ct) | (with_reducible apply MV.cut_ok) | (with_reducible apply MV.part_ok) | (with_reducible apply MV.part_no) | (with_reducible apply MV.then_ex) | (with_reducible apply MV.post_ex) | (with_reducible apply MV.st_raise) | (with_reducible apply MV.mk_err) | (with_reducible apply MV.err_int) | (with_reducible apply MV.err_non) | (with_reducible apply MV.st_ifX) | (with_reducible apply MV.ifX_ok) | (with_reducible apply MV.ifX_er) | (with_reducible apply MV.ex_2X) | (with_reducible apply MV.m2R_er) | (with_reducible apply MV.m2R_ok) | (with_reducible apply MV.ex_callX) | (with_reducible apply MV.st_try) | (with_reducible apply MV.try_nx) | (with_reducible apply MV.try_rt) | (with_reducible apply MV.try_ex) | (with_reducible apply MV.end_rt) | (with_reducible apply MV.end_nx) | (with_reducible apply MV.st_guard) | (with_reducible apply MV.fld_ok) | (with_reducible apply MV.isv_ok) | (with_reducible apply MV.some_rfl) | (refine MV.ite_t (by assumption) ?_) | (refine MV.ite_f (by assumption) ?_) | (exact (by assumption : _ = true)) | (refine MV.ite_dt (by omega) ?_) | (refine MV.ite_df (by omega) ?_) | (refine MV.ite_et (by omega) ?_) | (refine MV.ite_ef (by omega) ?_)))
theorem law_is_point_at (v : D) (n : Nat) (hl : limP v = true) : m__law_is_point [v, .int (n : Int)] = some (.bool (isPt n v)) := by
  cases hv : isTup v with
  | false =>
    have t := isD_tup v
    rw [hv] at t
    rw [isPt_no n v hv]
    (apply run_ok; case hl => exact rfl); (unfold b__law_is_point; simp only [List.map_cons, List.map_nil, List.replicate, List.cons_append, List.nil_append])
    (repeat (first | (with_reducible apply t <;> first | omega | skip) | (with_reducible apply MV.seq_ok) | (with_reducible apply MV.then_nx) | (with_reducible apply MV.then_rt) | (with_reducible apply MV.ar_cons) | (with_reducible apply MV.ar_nil) | (with_reducible apply MV.ex_c) | (with_reducible apply MV.var_0) | (with_reducible apply MV.var_s) | (with_reducible apply MV.own_0) | (with_reducible apply MV.own_0d) | (with_reducible apply MV.own_s) | (with_reducible apply MV.ex_2) | (with_reducible apply MV.ex_call0) | (with_reducible apply MV.ex_fn) | (with_reducible apply MV.st_set) | (with_reducible apply MV.set_0) | (with_reducible apply MV.set_s) | (with_reducible apply MV.st_post) | (with_reducible apply MV.post_nx) | (with_reducible apply MV.post_rt) | (with_reducible apply MV.wipe_0) | (with_reducible apply MV.wipe_s) | (with_reducible apply MV.op_add') | (with_reducible apply MV.op_sub') | (with_reducible apply MV.dMul_ok; rotate_left) | (with_reducible apply MV.dDiv_ok; rotate_left) | (with_reducible apply MV.dMod_ok; rotate_left) | (with_reducible apply MV.op_ixL) | (with_reducible apply MV.op_ixT) | (with_reducible apply MV.at_0) | (with_reducible apply MV.fn_int) | (with_reducible apply MV.fn_abs) | (with_reducible apply MV.fn_len) | (with_reducible apply MV.fn_lenT) | (with_reducible apply MV.fn_tupL) | (with_reducible apply MV.fn_tupT) | (with_reducible apply MV.fn_lstL) | (with_reducible apply MV.fn_lstT) | (with_reducible apply MV.ex_tup) | (with_reducible apply MV.ex_lst) | (with_reducible apply MV.ex_l) | (with_reducible apply MV.len_0) | (with_reducible apply MV.len_s) | (with_reducible apply MV.st_ret) | (with_reducible apply MV.retO_0) | (with_reducible apply MV.retO_0d) | (with_reducible apply MV.retO_s) | (with_reducible apply MV.st_if) | (with_reducible apply MV.ite_tt) | (with_reducible apply MV.ite_ff) | (with_reducible apply MV.bo_as) | (with_reducible apply MV.bo_tru) | (with_reducible apply MV.bo_and) | (with_reducible apply MV.bo_or) | (with_reducible apply MV.bo_not) | (with_reducible apply MV.not_t) | (with_reducible apply MV.not_f) | (with_reducible apply MV.ex_and) | (with_reducible apply MV.ex_or) | (with_reducible apply MV.ex_not) | (with_reducible apply MV.ex_if) | (with_reducible apply MV.st_skip) | (with_reducible apply MV.st_drop) | (with_reducible apply MV.st_brk) | (with_reducible apply MV.st_cnt) | (with_reducible apply MV.st_setO) | (with_reducible apply MV.app_at) | (with_reducible apply MV.get_0) | (with_reducible apply MV.get_s) | (with_reducible apply MV.st_par) | (with_reducible apply MV.st_asg) | (with_reducible apply MV.tg_set) | (with_reducible apply MV.tg_tup) | (with_reducible apply MV.tg_cons) | (with_reducible apply MV.tg_nil) | (with_reducible apply MV.st_for) | (with_reducible apply MV.st_frz) | (with_reducible apply MV.put_at) | (with_reducible apply MV.src_seq) | (with_reducible apply MV.src_2) | (with_reducible apply MV.seq_l) | (with_reducible apply MV.seq_t) | (with_reducible apply MV.zip_ok) | (with_reducible apply MV.enum_ok) | (with_reducible apply MV.ex_1) | (with_reducible apply MV.ex_call) | (with_reducible apply MV.op_neg') | (with_reducible apply MV.op_lt') | (with_reducible apply MV.op_le') | (with_reducible apply MV.op_gt') | (with_reducible apply MV.op_ge') | (with_reducible apply MV.op_p18) | (with_reducible apply MV.op_p9) | (with_reducible apply MV.op_p30) | (with_reducible apply MV.op_eqI) | (with_reducible apply MV.op_neI) | (with_reducible apply MV.op_eqSS) | (with_reducible apply MV.op_neSS) | (with_reducible apply MV.op_eqS) | (with_reducible apply MV.op_neS) | (with_reducible apply MV.op_eqB) | (with_reducible apply MV.op_neB) | (with_reducible apply MV.fn_gcd) | (with_reducible apply MV.fn_intB) | (with_reducible apply MV.post_bk) | (with_reducible apply MV.post_ct) | (with_reducible apply MV.then_bk) | (with_reducible apply MV.then_ct) | (with_reducible apply MV.cut_ok) | (with_reducible apply MV.part_ok) | (with_reducible apply MV.part_no) | (with_reducible apply MV.then_ex) | (with_reducible apply MV.post_ex) | (with_reducible apply MV.st_raise) | (with_reducible apply MV.mk_err) | (with_reducible apply MV.err_int) | (with_reducible apply MV.err_non) | (with_reducible apply MV.st_ifX) | (with_reducible apply MV.ifX_ok) | (with_reducible apply MV.ifX_er) | (with_reducible apply MV.ex_2X) | (with_reducible apply MV.m2R_er) | (with_reducible apply MV.m2R_ok) | (with_reducible apply MV.ex_callX) | (with_reducible apply MV.st_try) | (with_reducible apply MV.try_nx) | (with_reducible apply MV.try_rt) | (with_reducible apply MV.try_ex) | (with_reducible apply MV.end_rt) | (with_reducible apply MV.end_nx) | (with_reducible apply MV.st_guard) | (with_reducible apply MV.fld_ok) | (with_reducible apply MV.isv_ok) | (with_reducible apply MV.some_rfl) | (refine MV.ite_t (by assumption) ?_) | (refine MV.ite_f (by assumption) ?_) | (exact (by assumption : _ = true)) | (refine MV.ite_dt (by omega) ?_) | (refine MV.ite_df (by omega) ?_) | (refine MV.ite_et (by omega) ?_) | (refine MV.ite_ef (by omega) ?_)))
    rfl
  | true =>
    cases v <;> first | cases hv | skip
    rename_i ds
    have t : isD "tuple" (.tuple ds) = some (.bool true) := isD_tup _
    have hl' : ∀ d ∈ ds, lim d = true := fun d hd => List.all_eq_true.mp hl d hd
    by_cases hn : ds.length = n
    · have nl : dNe (.int (ds.length : Int)) (.int (n : Int)) = some (.bool false) := by
        rw [op_neI, hn, show ((n : Int) == (n : Int)) = true by simp]
        rfl
      have e : isPt n (.tuple ds) = ds.all isFrac := by
        show (decide (ds.length = n) && ds.all isFrac) = _
        rw [decide_eq_true hn, Bool.true_and]
      have lo : ∀ c0 c1, loopD (gSet 2) lp__law_is_point_2 ds [c0, c1, .un, .un] = some (match ds.find? (fun d => !isFrac d) with | some _ => .rt (.bool false) | none => .nx [c0, c1, .un, .un]) := fun c0 c1 => by
        have h := MV.loop_find (mg := gSet 2) (mb := lp__law_is_point_2) (fun d => d) [c0, c1, .un, .un] isFrac (fun _ => .bool false) ds fun d hd => ⟨_, rfl, point_turn d (hl' d hd) c0 c1⟩
        rw [List.map_id'] at h
        rw [h]
        cases ds.find? (fun d => !isFrac d) <;> rfl
      cases hf : ds.find? (fun d => !isFrac d) with
      | none =>
        have ha : ds.all isFrac = true := List.all_eq_true.mpr fun d hd => by
          have := List.find?_eq_none.mp hf d hd
          simpa using this
        have lo' : ∀ c0 c1, loopD (gSet 2) lp__law_is_point_2 ds [c0, c1, .un, .un] = some (.nx [c0, c1, .un, .un]) := fun c0 c1 => by rw [lo, hf]
        rw [e, ha]
        (apply run_ok; case hl => exact rfl); (unfold b__law_is_point; simp only [List.map_cons, List.map_nil, List.replicate, List.cons_append, List.nil_append])
        (repeat (first | (with_reducible apply t <;> first | omega | skip) | (with_reducible apply nl <;> first | omega | skip) | (with_reducible apply lo' <;> first | omega | skip) | (with_reducible apply MV.seq_ok) | (with_reducible apply MV.then_nx) | (with_reducible apply MV.then_rt) | (with_reducible apply MV.ar_cons) | (with_reducible apply MV.ar_nil) | (with_reducible apply MV.ex_c) | (with_reducible apply MV.var_0) | (with_reducible apply MV.var_s) | (with_reducible apply MV.own_0) | (with_reducible apply MV.own_0d) | (with_reducible apply MV.own_s) | (with_reducible apply MV.ex_2) | (with_reducible apply MV.ex_call0) | (with_reducible apply MV.ex_fn) | (with_reducible apply MV.st_set) | (with_reducible apply MV.set_0) | (with_reducible apply MV.set_s) | (with_reducible apply MV.st_post) | (with_reducible apply MV.post_nx) | (with_reducible apply MV.post_rt) | (with_reducible apply MV.wipe_0) | (with_reducible apply MV.wipe_s) | (with_reducible apply MV.op_add') | (with_reducible apply MV.op_sub') | (with_reducible apply MV.dMul_ok; rotate_left) | (with_reducible apply MV.dDiv_ok; rotate_left) | (with_reducible apply MV.dMod_ok; rotate_left) | (with_reducible apply MV.op_ixL) | (with_reducible apply MV.op_ixT) | (with_reducible apply MV.at_0) | (with_reducible apply MV.fn_int) | (with_reducible apply MV.fn_abs) | (with_reducible apply MV.fn_len) | (with_reducible apply MV.fn_lenT) | (with_reducible apply MV.fn_tupL) | (with_reducible apply MV.fn_tupT) | (with_reducible apply MV.fn_lstL) | (with_reducible apply MV.fn_lstT) | (with_reducible apply MV.ex_tup) | (with_reducible apply MV.ex_lst) | (with_reducible apply MV.ex_l) | (with_reducible apply MV.len_0) | (with_reducible apply MV.len_s) | (with_reducible apply MV.st_ret) | (with_reducible apply MV.retO_0) | (with_reducible apply MV.retO_0d) | (with_reducible apply MV.retO_s) | (with_reducible apply MV.st_if) | (with_reducible apply MV.ite_tt) | (with_reducible apply MV.ite_ff) | (with_reducible apply MV.bo_as) | (with_reducible apply MV.bo_tru) | (with_reducible apply MV.bo_and) | (with_reducible apply MV.bo_or) | (with_reducible apply MV.bo_not) | (with_reducible apply MV.not_t) | (with_reducible apply MV.not_f) | (with_reducible apply MV.ex_and) | (with_reducible apply MV.ex_or) | (with_reducible apply MV.ex_not) | (with_reducible apply MV.ex_if) | (with_reducible apply MV.st_skip) | (with_reducible apply MV.st_drop) | (with_reducible apply MV.st_brk) | (with_reducible apply MV.st_cnt) | (with_reducible apply MV.st_setO) | (with_reducible apply MV.app_at) | (with_reducible apply MV.get_0) | (with_reducible apply MV.get_s) | (with_reducible apply MV.st_par) | (with_reducible apply MV.st_asg) | (with_reducible apply MV.tg_set) | (with_reducible apply MV.tg_tup) | (with_reducible apply MV.tg_cons) | (with_reducible apply MV.tg_nil) | (with_reducible apply MV.st_for) | (with_reducible apply MV.st_frz) | (with_reducible apply MV.put_at) | (with_reducible apply MV.src_seq) | (with_reducible apply MV.src_2) | (with_reducible apply MV.seq_l) | (with_reducible apply MV.seq_t) | (with_reducible apply MV.zip_ok) | (with_reducible apply MV.enum_ok) | (with_reducible apply MV.ex_1) | (with_reducible apply MV.ex_call) | (with_reducible apply MV.op_neg') | (with_reducible apply MV.op_lt') | (with_reducible apply MV.op_le') | (with_reducible apply MV.op_gt') | (with_reducible apply MV.op_ge') | (with_reducible apply MV.op_p18) | (with_reducible apply MV.op_p9) | (with_reducible apply MV.op_p30) | (with_reducible apply MV.op_eqI) | (with_reducible apply MV.op_neI) | (with_reducible apply MV.op_eqSS) | (with_reducible apply MV.op_neSS) | (with_reducible apply MV.op_eqS) | (with_reducible apply MV.op_neS) | (with_reducible apply MV.op_eqB) | (with_reducible apply MV.op_neB) | (with_reducible apply MV.fn_gcd) | (with_reducible apply MV.fn_intB) | (with_reducible apply MV.post_bk) | (with_reducible apply MV.post_ct) | (with_reducible apply MV.then_bk) | (with_reducible apply MV.then_ct) | (with_reducible apply MV.cut_ok) | (with_reducible apply MV.part_ok) | (with_reducible apply MV.part_no) | (with_reducible apply MV.then_ex) | (with_reducible apply MV.post_ex) | (with_reducible apply MV.st_raise) | (with_reducible apply MV.mk_err) | (with_reducible apply MV.err_int) | (with_reducible apply MV.err_non) | (with_reducible apply MV.st_ifX) | (with_reducible apply MV.ifX_ok) | (with_reducible apply MV.ifX_er) | (with_reducible apply MV.ex_2X) | (with_reducible apply MV.m2R_er) | (with_reducible apply MV.m2R_ok) | (with_reducible apply MV.ex_callX) | (with_reducible apply MV.st_try) | (with_reducible apply MV.try_nx) | (with_reducible apply MV.try_rt) | (with_reducible apply MV.try_ex) | (with_reducible apply MV.end_rt) | (with_reducible apply MV.end_nx) | (with_reducible apply MV.st_guard) | (with_reducible apply MV.fld_ok) | (with_reducible apply MV.isv_ok) | (with_reducible apply MV.some_rfl) | (refine MV.ite_t (by assumption) ?_) | (refine MV.ite_f (by assumption) ?_) | (exact (by assumption : _ = true)) | (refine MV.ite_dt (by omega) ?_) | (refine MV.ite_df (by omega) ?_) | (refine MV.ite_et (by omega) ?_) | (refine MV.ite_ef (by omega) ?_)))
        rfl
      | some d =>
        have ha : ds.all isFrac = false := by
          have h1 := List.find?_some hf
          have h2 := List.mem_of_find?_eq_some hf
          cases hh : ds.all isFrac with
          | false => rfl
          | true =>
            rw [List.all_eq_true.mp hh d h2] at h1
            cases h1
        have lo' : ∀ c0 c1, loopD (gSet 2) lp__law_is_point_2 ds [c0, c1, .un, .un] = some (.rt (.bool false)) := fun c0 c1 => by rw [lo, hf]
        rw [e, ha]
        (apply run_ok; case hl => exact rfl); (unfold b__law_is_point; simp only [List.map_cons, List.map_nil, List.replicate, List.cons_append, List.nil_append])
        (repeat (first | (with_reducible apply t <;> first | omega | skip) | (with_reducible apply nl <;> first | omega | skip) | (with_reducible apply lo' <;> first | omega | skip) | (with_reducible apply MV.seq_ok) | (with_reducible apply MV.then_nx) | (with_reducible apply MV.then_rt) | (with_reducible apply MV.ar_cons) | (with_reducible apply MV.ar_nil) | (with_reducible apply MV.ex_c) | (with_reducible apply MV.var_0) | (with_reducible apply MV.var_s) | (with_reducible apply MV.own_0) | (with_reducible apply MV.own_0d) | (with_reducible apply MV.own_s) | (with_reducible apply MV.ex_2) | (with_reducible apply MV.ex_call0) | (with_reducible apply MV.ex_fn) | (with_reducible apply MV.st_set) | (with_reducible apply MV.set_0) | (with_reducible apply MV.set_s) | (with_reducible apply MV.st_post) | (with_reducible apply MV.post_nx) | (with_reducible apply MV.post_rt) | (with_reducible apply MV.wipe_0) | (with_reducible apply MV.wipe_s) | (with_reducible apply MV.op_add') | (with_reducible apply MV.op_sub') | (with_reducible apply MV.dMul_ok; rotate_left) | (with_reducible apply MV.dDiv_ok; rotate_left) | (with_reducible apply MV.dMod_ok; rotate_left) | (with_reducible apply MV.op_ixL) | (with_reducible apply MV.op_ixT) | (with_reducible apply MV.at_0) | (with_reducible apply MV.fn_int) | (with_reducible apply MV.fn_abs) | (with_reducible apply MV.fn_len) | (with_reducible apply MV.fn_lenT) | (with_reducible apply MV.fn_tupL) | (with_reducible apply MV.fn_tupT) | (with_reducible apply MV.fn_lstL) | (with_reducible apply MV.fn_lstT) | (with_reducible apply MV.ex_tup) | (with_reducible apply MV.ex_lst) | (with_reducible apply MV.ex_l) | (with_reducible apply MV.len_0) | (with_reducible apply MV.len_s) | (with_reducible apply MV.st_ret) | (with_reducible apply MV.retO_0) | (with_reducible apply MV.retO_0d) | (with_reducible apply MV.retO_s) | (with_reducible apply MV.st_if) | (with_reducible apply MV.ite_tt) | (with_reducible apply MV.ite_ff) | (with_reducible apply MV.bo_as) | (with_reducible apply MV.bo_tru) | (with_reducible apply MV.bo_and) | (with_reducible apply MV.bo_or) | (with_reducible apply MV.bo_not) | (with_reducible apply MV.not_t) | (with_reducible apply MV.not_f) | (with_reducible apply MV.ex_and) | (with_reducible apply MV.ex_or) | (with_reducible apply MV.ex_not) | (with_reducible apply MV.ex_if) | (with_reducible apply MV.st_skip) | (with_reducible apply MV.st_drop) | (with_reducible apply MV.st_brk) | (with_reducible apply MV.st_cnt) | (with_reducible apply MV.st_setO) | (with_reducible apply MV.app_at) | (with_reducible apply MV.get_0) | (with_reducible apply MV.get_s) | (with_reducible apply MV.st_par) | (with_reducible apply MV.st_asg) | (with_reducible apply MV.tg_set) | (with_reducible apply MV.tg_tup) | (with_reducible apply MV.tg_cons) | (with_reducible apply MV.tg_nil) | (with_reducible apply MV.st_for) | (with_reducible apply MV.st_frz) | (with_reducible apply MV.put_at) | (with_reducible apply MV.src_seq) | (with_reducible apply MV.src_2) | (with_reducible apply MV.seq_l) | (with_reducible apply MV.seq_t) | (with_reducible apply MV.zip_ok) | (with_reducible apply MV.enum_ok) | (with_reducible apply MV.ex_1) | (with_reducible apply MV.ex_call) | (with_reducible apply MV.op_neg') | (with_reducible apply MV.op_lt') | (with_reducible apply MV.op_le') | (with_reducible apply MV.op_gt') | (with_reducible apply MV.op_ge') | (with_reducible apply MV.op_p18) | (with_reducible apply MV.op_p9) | (with_reducible apply MV.op_p30) | (with_reducible apply MV.op_eqI) | (with_reducible apply MV.op_neI) | (with_reducible apply MV.op_eqSS) | (with_reducible apply MV.op_neSS) | (with_reducible apply MV.op_eqS) | (with_reducible apply MV.op_neS) | (with_reducible apply MV.op_eqB) | (with_reducible apply MV.op_neB) | (with_reducible apply MV.fn_gcd) | (with_reducible apply MV.fn_intB) | (with_reducible apply MV.post_bk) | (with_reducible apply MV.post_ct) | (with_reducible apply MV.then_bk) | (with_reducible apply MV.then_ct) | (with_reducible apply MV.cut_ok) | (with_reducible apply MV.part_ok) | (with_reducible apply MV.part_no) | (with_reducible apply MV.then_ex) | (with_reducible apply MV.post_ex) | (with_reducible apply MV.st_raise) | (with_reducible apply MV.mk_err) | (with_reducible apply MV.err_int) | (with_reducible apply MV.err_non) | (with_reducible apply MV.st_ifX) | (with_reducible apply MV.ifX_ok) | (with_reducible apply MV.ifX_er) | (with_reducible apply MV.ex_2X) | (with_reducible apply MV.m2R_er) | (with_reducible apply MV.m2R_ok) | (with_reducible apply MV.ex_callX) | (with_reducible apply MV.st_try) | (with_reducible apply MV.try_nx) | (with_reducible apply MV.try_rt) | (with_reducible apply MV.try_ex) | (with_reducible apply MV.end_rt) | (with_reducible apply MV.end_nx) | (with_reducible apply MV.st_guard) | (with_reducible apply MV.fld_ok) | (with_reducible apply MV.isv_ok) | (with_reducible apply MV.some_rfl) | (refine MV.ite_t (by assumption) ?_) | (refine MV.ite_f (by assumption) ?_) | (exact (by assumption : _ = true)) | (refine MV.ite_dt (by omega) ?_) | (refine MV.ite_df (by omega) ?_) | (refine MV.ite_et (by omega) ?_) | (refine MV.ite_ef (by omega) ?_)))
        rfl
    · have nl : dNe (.int (ds.length : Int)) (.int (n : Int)) = some (.bool true) := by
        rw [op_neI, show ((ds.length : Int) == (n : Int)) = false by simpa using (by omega : (ds.length : Int) ≠ (n : Int))]
        rfl
      have e : isPt n (.tuple ds) = false := by
        show (decide (ds.length = n) && ds.all isFrac) = false
        rw [decide_eq_false hn, Bool.false_and]
      rw [e]
      (apply run_ok; case hl => exact rfl); (unfold b__law_is_point; simp only [List.map_cons, List.map_nil, List.replicate, List.cons_append, List.nil_append])
      (repeat (first | (with_reducible apply t <;> first | omega | skip) | (with_reducible apply nl <;> first | omega | skip) | (with_reducible apply MV.seq_ok) | (with_reducible apply MV.then_nx) | (with_reducible apply MV.then_rt) | (with_reducible apply MV.ar_cons) | (with_reducible apply MV.ar_nil) | (with_reducible apply MV.ex_c) | (with_reducible apply MV.var_0) | (with_reducible apply MV.var_s) | (with_reducible apply MV.own_0) | (with_reducible apply MV.own_0d) | (with_reducible apply MV.own_s) | (with_reducible apply MV.ex_2) | (with_reducible apply MV.ex_call0) | (with_reducible apply MV.ex_fn) | (with_reducible apply MV.st_set) | (with_reducible apply MV.set_0) | (with_reducible apply MV.set_s) | (with_reducible apply MV.st_post) | (with_reducible apply MV.post_nx) | (with_reducible apply MV.post_rt) | (with_reducible apply MV.wipe_0) | (with_reducible apply MV.wipe_s) | (with_reducible apply MV.op_add') | (with_reducible apply MV.op_sub') | (with_reducible apply MV.dMul_ok; rotate_left) | (with_reducible apply MV.dDiv_ok; rotate_left) | (with_reducible apply MV.dMod_ok; rotate_left) | (with_reducible apply MV.op_ixL) | (with_reducible apply MV.op_ixT) | (with_reducible apply MV.at_0) | (with_reducible apply MV.fn_int) | (with_reducible apply MV.fn_abs) | (with_reducible apply MV.fn_len) | (with_reducible apply MV.fn_lenT) | (with_reducible apply MV.fn_tupL) | (with_reducible apply MV.fn_tupT) | (with_reducible apply MV.fn_lstL) | (with_reducible apply MV.fn_lstT) | (with_reducible apply MV.ex_tup) | (with_reducible apply MV.ex_lst) | (with_reducible apply MV.ex_l) | (with_reducible apply MV.len_0) | (with_reducible apply MV.len_s) | (with_reducible apply MV.st_ret) | (with_reducible apply MV.retO_0) | (with_reducible apply MV.retO_0d) | (with_reducible apply MV.retO_s) | (with_reducible apply MV.st_if) | (with_reducible apply MV.ite_tt) | (with_reducible apply MV.ite_ff) | (with_reducible apply MV.bo_as) | (with_reducible apply MV.bo_tru) | (with_reducible apply MV.bo_and) | (with_reducible apply MV.bo_or) | (with_reducible apply MV.bo_not) | (with_reducible apply MV.not_t) | (with_reducible apply MV.not_f) | (with_reducible apply MV.ex_and) | (with_reducible apply MV.ex_or) | (with_reducible apply MV.ex_not) | (with_reducible apply MV.ex_if) | (with_reducible apply MV.st_skip) | (with_reducible apply MV.st_drop) | (with_reducible apply MV.st_brk) | (with_reducible apply MV.st_cnt) | (with_reducible apply MV.st_setO) | (with_reducible apply MV.app_at) | (with_reducible apply MV.get_0) | (with_reducible apply MV.get_s) | (with_reducible apply MV.st_par) | (with_reducible apply MV.st_asg) | (with_reducible apply MV.tg_set) | (with_reducible apply MV.tg_tup) | (with_reducible apply MV.tg_cons) | (with_reducible apply MV.tg_nil) | (with_reducible apply MV.st_for) | (with_reducible apply MV.st_frz) | (with_reducible apply MV.put_at) | (with_reducible apply MV.src_seq) | (with_reducible apply MV.src_2) | (with_reducible apply MV.seq_l) | (with_reducible apply MV.seq_t) | (with_reducible apply MV.zip_ok) | (with_reducible apply MV.enum_ok) | (with_reducible apply MV.ex_1) | (with_reducible apply MV.ex_call) | (with_reducible apply MV.op_neg') | (with_reducible apply MV.op_lt') | (with_reducible apply MV.op_le') | (with_reducible apply MV.op_gt') | (with_reducible apply MV.op_ge') | (with_reducible apply MV.op_p18) | (with_reducible apply MV.op_p9) | (with_reducible apply MV.op_p30) | (with_reducible apply MV.op_eqI) | (with_reducible apply MV.op_neI) | (with_reducible apply MV.op_eqSS) | (with_reducible apply MV.op_neSS) | (with_reducible apply MV.op_eqS) | (with_reducible apply MV.op_neS) | (with_reducible apply MV.op_eqB) | (with_reducible apply MV.op_neB) | (with_reducible apply MV.fn_gcd) | (with_reducible apply MV.fn_intB) | (with_reducible apply MV.post_bk) | (with_reducible apply MV.post_ct) | (with_reducible apply MV.then_bk) | (with_reducible apply MV.then_ct) | (with_reducible apply MV.cut_ok) | (with_reducible apply MV.part_ok) | (with_reducible apply MV.part_no) | (with_reducible apply MV.then_ex) | (with_reducible apply MV.post_ex) | (with_reducible apply MV.st_raise) | (with_reducible apply MV.mk_err) | (with_reducible apply MV.err_int) | (with_reducible apply MV.err_non) | (with_reducible apply MV.st_ifX) | (with_reducible apply MV.ifX_ok) | (with_reducible apply MV.ifX_er) | (with_reducible apply MV.ex_2X) | (with_reducible apply MV.m2R_er) | (with_reducible apply MV.m2R_ok) | (with_reducible apply MV.ex_callX) | (with_reducible apply MV.st_try) | (with_reducible apply MV.try_nx) | (with_reducible apply MV.try_rt) | (with_reducible apply MV.try_ex) | (with_reducible apply MV.end_rt) | (with_reducible apply MV.end_nx) | (with_reducible apply MV.st_guard) | (with_reducible apply MV.fld_ok) | (with_reducible apply MV.isv_ok) | (with_reducible apply MV.some_rfl) | (refine MV.ite_t (by assumption) ?_) | (refine MV.ite_f (by assumption) ?_) | (exact (by assumption : _ = true)) | (refine MV.ite_dt (by omega) ?_) | (refine MV.ite_df (by omega) ?_) | (refine MV.ite_et (by omega) ?_) | (refine MV.ite_ef (by omega) ?_)))
      rfl

/-- the first index of an item that is no point -/
def firstBad (n : Nat) (vs : List D) : Option Nat := vs.findIdx? fun v => !isPt n v
def dueD : Option Nat → D
  | none => .none
  | some i => .tuple [.str (Str.ofString "BadPoint"), .int (i : Int)]
def told : Option Nat → Out
  | none => .ok .none
  | some i => .er (errI (Str.ofString "BadPoint") (.int (i : Int)))
theorem check_turn (v : D) (i n : Nat) (hn : n < 100000) (hi : i < 1000) (c0 : Cell) :
    (isPt n v = true → lp_check_points_1 [c0, .dat (.int (n : Int)), .dat (.int (i : Int)), .dat v] = some (.nx [c0, .dat (.int (n : Int)), .un, .un])) ∧
    (isPt n v = false → lp_check_points_1 [c0, .dat (.int (n : Int)), .dat (.int (i : Int)), .dat v] = some (.ex (errI (Str.ofString "BadPoint") (.int (i : Int))) [c0, .dat (.int (n : Int)), .un, .un])) := by
  have p := is_point_at v n hn
  have hb : ((i : Int)).natAbs.log2 < 1900 := by
    have : ((i : Int)).natAbs < 2 ^ 10 := by omega
    have := log2_lt' (by decide) this
    omega
  constructor
  · intro h
    rw [h] at p
    unfold lp_check_points_1
    (repeat (first | (with_reducible apply p <;> first | omega | skip) | (with_reducible apply MV.seq_ok) | (with_reducible apply MV.then_nx) | (with_reducible apply MV.then_rt) | (with_reducible apply MV.ar_cons) | (with_reducible apply MV.ar_nil) | (with_reducible apply MV.ex_c) | (with_reducible apply MV.var_0) | (with_reducible apply MV.var_s) | (with_reducible apply MV.own_0) | (with_reducible apply MV.own_0d) | (with_reducible apply MV.own_s) | (with_reducible apply MV.ex_2) | (with_reducible apply MV.ex_call0) | (with_reducible apply MV.ex_fn) | (with_reducible apply MV.st_set) | (with_reducible apply MV.set_0) | (with_reducible apply MV.set_s) | (with_reducible apply MV.st_post) | (with_reducible apply MV.post_nx) | (with_reducible apply MV.post_rt) | (with_reducible apply MV.wipe_0) | (with_reducible apply MV.wipe_s) | (with_reducible apply MV.op_add') | (with_reducible apply MV.op_sub') | (with_reducible apply MV.dMul_ok; rotate_left) | (with_reducible apply MV.dDiv_ok; rotate_left) | (with_reducible apply MV.dMod_ok; rotate_left) | (with_reducible apply MV.op_ixL) | (with_reducible apply MV.op_ixT) | (with_reducible apply MV.at_0) | (with_reducible apply MV.fn_int) | (with_reducible apply MV.fn_abs) | (with_reducible apply MV.fn_len) | (with_reducible apply MV.fn_lenT) | (with_reducible apply MV.fn_tupL) | (with_reducible apply MV.fn_tupT) | (with_reducible apply MV.fn_lstL) | (with_reducible apply MV.fn_lstT) | (with_reducible apply MV.ex_tup) | (with_reducible apply MV.ex_lst) | (with_reducible apply MV.ex_l) | (with_reducible apply MV.len_0) | (with_reducible apply MV.len_s) | (with_reducible apply MV.st_ret) | (with_reducible apply MV.retO_0) | (with_reducible apply MV.retO_0d) | (with_reducible apply MV.retO_s) | (with_reducible apply MV.st_if) | (with_reducible apply MV.ite_tt) | (with_reducible apply MV.ite_ff) | (with_reducible apply MV.bo_as) | (with_reducible apply MV.bo_tru) | (with_reducible apply MV.bo_and) | (with_reducible apply MV.bo_or) | (with_reducible apply MV.bo_not) | (with_reducible apply MV.not_t) | (with_reducible apply MV.not_f) | (with_reducible apply MV.ex_and) | (with_reducible apply MV.ex_or) | (with_reducible apply MV.ex_not) | (with_reducible apply MV.ex_if) | (with_reducible apply MV.st_skip) | (with_reducible apply MV.st_drop) | (with_reducible apply MV.st_brk) | (with_reducible apply MV.st_cnt) | (with_reducible apply MV.st_setO) | (with_reducible apply MV.app_at) | (with_reducible apply MV.get_0) | (with_reducible apply MV.get_s) | (with_reducible apply MV.st_par) | (with_reducible apply MV.st_asg) | (with_reducible apply MV.tg_set) | (with_reducible apply MV.tg_tup) | (with_reducible apply MV.tg_cons) | (with_reducible apply MV.tg_nil) | (with_reducible apply MV.st_for) | (with_reducible apply MV.st_frz) | (with_reducible apply MV.put_at) | (with_reducible apply MV.src_seq) | (with_reducible apply MV.src_2) | (with_reducible apply MV.seq_l) | (with_reducible apply MV.seq_t) | (with_reducible apply MV.zip_ok) | (with_reducible apply MV.enum_ok) | (with_reducible apply MV.ex_1) | (with_reducible apply MV.ex_call) | (with_reducible apply MV.op_neg') | (with_reducible apply MV.op_lt') | (with_reducible apply MV.op_le') | (with_reducible apply MV.op_gt') | (with_reducible apply MV.op_ge') | (with_reducible apply MV.op_p18) | (with_reducible apply MV.op_p9) | (with_reducible apply MV.op_p30) | (with_reducible apply MV.op_eqI) | (with_reducible apply MV.op_neI) | (with_reducible apply MV.op_eqSS) | (with_reducible apply MV.op_neSS) | (with_reducible apply MV.op_eqS) | (with_reducible apply MV.op_neS) | (with_reducible apply MV.op_eqB) | (with_reducible apply MV.op_neB) | (with_reducible apply MV.fn_gcd) | (with_reducible apply MV.fn_intB) | (with_reducible apply MV.post_bk) | (with_reducible apply MV.post_ct) | (with_reducible apply MV.then_bk) | (with_reducible apply MV.then_ct) | (with_reducible apply MV.cut_ok) | (with_reducible apply MV.part_ok) | (with_reducible apply MV.part_no) | (with_reducible apply MV.then_ex) | (with_reducible apply MV.post_ex) | (with_reducible apply MV.st_raise) | (with_reducible apply MV.mk_err) | (with_reducible apply MV.err_int) | (with_reducible apply MV.err_non) | (with_reducible apply MV.st_ifX) | (with_reducible apply MV.ifX_ok) | (with_reducible apply MV.ifX_er) | (with_reducible apply MV.ex_2X) | (with_reducible apply MV.m2R_er) | (with_reducible apply MV.m2R_ok) | (with_reducible apply MV.ex_callX) | (with_reducible apply MV.st_try) | (with_reducible apply MV.try_nx) | (with_reducible apply MV.try_rt) | (with_reducible apply MV.try_ex) | (with_reducible apply MV.end_rt) | (with_reducible apply MV.end_nx) | (with_reducible apply MV.st_guard) | (with_reducible apply MV.fld_ok) | (with_reducible apply MV.isv_ok) | (with_reducible apply MV.some_rfl) | (refine MV.ite_t (by assumption) ?_) | (refine MV.ite_f (by assumption) ?_) | (exact (by assumption : _ = true)) | (refine MV.ite_dt (by omega) ?_) | (refine MV.ite_df (by omega) ?_) | (refine MV.ite_et (by omega) ?_) | (refine MV.ite_ef (by omega) ?_)))
  · intro h
    rw [h] at p
    unfold lp_check_points_1
    (repeat (first | (with_reducible apply p <;> first | omega | skip) | (with_reducible apply MV.err_int hb <;> first | omega | skip) | (with_reducible apply MV.seq_ok) | (with_reducible apply MV.then_nx) | (with_reducible apply MV.then_rt) | (with_reducible apply MV.ar_cons) | (with_reducible apply MV.ar_nil) | (with_reducible apply MV.ex_c) | (with_reducible apply MV.var_0) | (with_reducible apply MV.var_s) | (with_reducible apply MV.own_0) | (with_reducible apply MV.own_0d) | (with_reducible apply MV.own_s) | (with_reducible apply MV.ex_2) | (with_reducible apply MV.ex_call0) | (with_reducible apply MV.ex_fn) | (with_reducible apply MV.st_set) | (with_reducible apply MV.set_0) | (with_reducible apply MV.set_s) | (with_reducible apply MV.st_post) | (with_reducible apply MV.post_nx) | (with_reducible apply MV.post_rt) | (with_reducible apply MV.wipe_0) | (with_reducible apply MV.wipe_s) | (with_reducible apply MV.op_add') | (with_reducible apply MV.op_sub') | (with_reducible apply MV.dMul_ok; rotate_left) | (with_reducible apply MV.dDiv_ok; rotate_left) | (with_reducible apply MV.dMod_ok; rotate_left) | (with_reducible apply MV.op_ixL) | (with_reducible apply MV.op_ixT) | (with_reducible apply MV.at_0) | (with_reducible apply MV.fn_int) | (with_reducible apply MV.fn_abs) | (with_reducible apply MV.fn_len) | (with_reducible apply MV.fn_lenT) | (with_reducible apply MV.fn_tupL) | (with_reducible apply MV.fn_tupT) | (with_reducible apply MV.fn_lstL) | (with_reducible apply MV.fn_lstT) | (with_reducible apply MV.ex_tup) | (with_reducible apply MV.ex_lst) | (with_reducible apply MV.ex_l) | (with_reducible apply MV.len_0) | (with_reducible apply MV.len_s) | (with_reducible apply MV.st_ret) | (with_reducible apply MV.retO_0) | (with_reducible apply MV.retO_0d) | (with_reducible apply MV.retO_s) | (with_reducible apply MV.st_if) | (with_reducible apply MV.ite_tt) | (with_reducible apply MV.ite_ff) | (with_reducible apply MV.bo_as) | (with_reducible apply MV.bo_tru) | (with_reducible apply MV.bo_and) | (with_reducible apply MV.bo_or) | (with_reducible apply MV.bo_not) | (with_reducible apply MV.not_t) | (with_reducible apply MV.not_f) | (with_reducible apply MV.ex_and) | (with_reducible apply MV.ex_or) | (with_reducible apply MV.ex_not) | (with_reducible apply MV.ex_if) | (with_reducible apply MV.st_skip) | (with_reducible apply MV.st_drop) | (with_reducible apply MV.st_brk) | (with_reducible apply MV.st_cnt) | (with_reducible apply MV.st_setO) | (with_reducible apply MV.app_at) | (with_reducible apply MV.get_0) | (with_reducible apply MV.get_s) | (with_reducible apply MV.st_par) | (with_reducible apply MV.st_asg) | (with_reducible apply MV.tg_set) | (with_reducible apply MV.tg_tup) | (with_reducible apply MV.tg_cons) | (with_reducible apply MV.tg_nil) | (with_reducible apply MV.st_for) | (with_reducible apply MV.st_frz) | (with_reducible apply MV.put_at) | (with_reducible apply MV.src_seq) | (with_reducible apply MV.src_2) | (with_reducible apply MV.seq_l) | (with_reducible apply MV.seq_t) | (with_reducible apply MV.zip_ok) | (with_reducible apply MV.enum_ok) | (with_reducible apply MV.ex_1) | (with_reducible apply MV.ex_call) | (with_reducible apply MV.op_neg') | (with_reducible apply MV.op_lt') | (with_reducible apply MV.op_le') | (with_reducible apply MV.op_gt') | (with_reducible apply MV.op_ge') | (with_reducible apply MV.op_p18) | (with_reducible apply MV.op_p9) | (with_reducible apply MV.op_p30) | (with_reducible apply MV.op_eqI) | (with_reducible apply MV.op_neI) | (with_reducible apply MV.op_eqSS) | (with_reducible apply MV.op_neSS) | (with_reducible apply MV.op_eqS) | (with_reducible apply MV.op_neS) | (with_reducible apply MV.op_eqB) | (with_reducible apply MV.op_neB) | (with_reducible apply MV.fn_gcd) | (with_reducible apply MV.fn_intB) | (with_reducible apply MV.post_bk) | (with_reducible apply MV.post_ct) | (with_reducible apply MV.then_bk) | (with_reducible apply MV.then_ct) | (with_reducible apply MV.cut_ok) | (with_reducible apply MV.part_ok) | (with_reducible apply MV.part_no) | (with_reducible apply MV.then_ex) | (with_reducible apply MV.post_ex) | (with_reducible apply MV.st_raise) | (with_reducible apply MV.mk_err) | (with_reducible apply MV.err_int) | (with_reducible apply MV.err_non) | (with_reducible apply MV.st_ifX) | (with_reducible apply MV.ifX_ok) | (with_reducible apply MV.ifX_er) | (with_reducible apply MV.ex_2X) | (with_reducible apply MV.m2R_er) | (with_reducible apply MV.m2R_ok) | (with_reducible apply MV.ex_callX) | (with_reducible apply MV.st_try) | (with_reducible apply MV.try_nx) | (with_reducible apply MV.try_rt) | (with_reducible apply MV.try_ex) | (with_reducible apply MV.end_rt) | (with_reducible apply MV.end_nx) | (with_reducible apply MV.st_guard) | (with_reducible apply MV.fld_ok) | (with_reducible apply MV.isv_ok) | (with_reducible apply MV.some_rfl) | (refine MV.ite_t (by assumption) ?_) | (refine MV.ite_f (by assumption) ?_) | (exact (by assumption : _ = true)) | (refine MV.ite_dt (by omega) ?_) | (refine MV.ite_df (by omega) ?_) | (refine MV.ite_et (by omega) ?_) | (refine MV.ite_ef (by omega) ?_)))
theorem check_loop (n : Nat) (hn : n < 100000) (c0 : Cell) : ∀ (vs : List D) (k : Nat), k + vs.length < 1000 →
    loopD (gTupD (gsCons (gSet 2) (gsCons (gSet 3) gsNil))) lp_check_points_1 (enumFrom k vs) [c0, .dat (.int (n : Int)), .un, .un] =
      some (match firstBad n vs with | none => .nx [c0, .dat (.int (n : Int)), .un, .un] | some i => .ex (errI (Str.ofString "BadPoint") (.int ((k + i : Nat) : Int))) [c0, .dat (.int (n : Int)), .un, .un])
  | [], _, _ => rfl
  | v :: vs, k, h => by
    have hk : k < 1000 := by rw [List.length_cons] at h; omega
    obtain ⟨t1, t2⟩ := check_turn v k n hn hk c0
    have ih := check_loop n hn c0 vs (k + 1) (by rw [List.length_cons] at h; omega)
    have tg : gTupD (gsCons (gSet 2) (gsCons (gSet 3) gsNil)) (.tuple [.int (k : Int), v]) [c0, .dat (.int (n : Int)), .un, .un] = some [c0, .dat (.int (n : Int)), .dat (.int (k : Int)), .dat v] := rfl
    have en : enumFrom k (v :: vs) = .tuple [.int (k : Int), v] :: enumFrom (k + 1) vs := rfl
    rw [en]
    unfold firstBad
    rw [List.findIdx?_cons]
    cases hp : isPt n v with
    | false =>
      rw [MV.loop_ex tg (t2 hp)]
      rfl
    | true =>
      rw [MV.loop_cons tg (t1 hp) ih]
      show some (match firstBad n vs with | none => _ | some i => _) = some (match (firstBad n vs).map (· + 1) with | none => _ | some i => _)
      cases firstBad n vs with
      | none => rfl
      | some i =>
        show some (Res.ex (errI (Str.ofString "BadPoint") (.int ((k + 1 + i : Nat) : Int))) _) = some (Res.ex (errI (Str.ofString "BadPoint") (.int ((k + (i + 1) : Nat) : Int))) _)
        rw [show (k + 1 + i : Nat) = k + (i + 1) by omega]
theorem check_points_at (s : D) (vs : List D) (n : Nat) (hs : seqOf s = some vs) (hn : n < 100000) (hl : vs.length < 1000) : m_check_points [s, .int (n : Int)] = some (told (firstBad n vs)) := by
  have lo := fun c0 => check_loop n hn c0 vs 0 (by omega)
  have en : wEnumerate [s] = some (enumFrom 0 vs) := MV.enum_ok hs
  cases hf : firstBad n vs with
  | none =>
    have lo' : ∀ c0, loopD (gTupD (gsCons (gSet 2) (gsCons (gSet 3) gsNil))) lp_check_points_1 (enumFrom 0 vs) [c0, .dat (.int (n : Int)), .un, .un] = some (.nx [c0, .dat (.int (n : Int)), .un, .un]) := fun c0 => by rw [lo c0, hf]
    apply MV.runX_ok
    case hl => exact rfl
    · unfold b_check_points
      simp only [List.map_cons, List.map_nil, List.replicate, List.cons_append, List.nil_append]
      (repeat (first | (with_reducible apply en <;> first | omega | skip) | (with_reducible apply lo' <;> first | omega | skip) | (with_reducible apply MV.seq_ok) | (with_reducible apply MV.then_nx) | (with_reducible apply MV.then_rt) | (with_reducible apply MV.ar_cons) | (with_reducible apply MV.ar_nil) | (with_reducible apply MV.ex_c) | (with_reducible apply MV.var_0) | (with_reducible apply MV.var_s) | (with_reducible apply MV.own_0) | (with_reducible apply MV.own_0d) | (with_reducible apply MV.own_s) | (with_reducible apply MV.ex_2) | (with_reducible apply MV.ex_call0) | (with_reducible apply MV.ex_fn) | (with_reducible apply MV.st_set) | (with_reducible apply MV.set_0) | (with_reducible apply MV.set_s) | (with_reducible apply MV.st_post) | (with_reducible apply MV.post_nx) | (with_reducible apply MV.post_rt) | (with_reducible apply MV.wipe_0) | (with_reducible apply MV.wipe_s) | (with_reducible apply MV.op_add') | (with_reducible apply MV.op_sub') | (with_reducible apply MV.dMul_ok; rotate_left) | (with_reducible apply MV.dDiv_ok; rotate_left) | (with_reducible apply MV.dMod_ok; rotate_left) | (with_reducible apply MV.op_ixL) | (with_reducible apply MV.op_ixT) | (with_reducible apply MV.at_0) | (with_reducible apply MV.fn_int) | (with_reducible apply MV.fn_abs) | (with_reducible apply MV.fn_len) | (with_reducible apply MV.fn_lenT) | (with_reducible apply MV.fn_tupL) | (with_reducible apply MV.fn_tupT) | (with_reducible apply MV.fn_lstL) | (with_reducible apply MV.fn_lstT) | (with_reducible apply MV.ex_tup) | (with_reducible apply MV.ex_lst) | (with_reducible apply MV.ex_l) | (with_reducible apply MV.len_0) | (with_reducible apply MV.len_s) | (with_reducible apply MV.st_ret) | (with_reducible apply MV.retO_0) | (with_reducible apply MV.retO_0d) | (with_reducible apply MV.retO_s) | (with_reducible apply MV.st_if) | (with_reducible apply MV.ite_tt) | (with_reducible apply MV.ite_ff) | (with_reducible apply MV.bo_as) | (with_reducible apply MV.bo_tru) | (with_reducible apply MV.bo_and) | (with_reducible apply MV.bo_or) | (with_reducible apply MV.bo_not) | (with_reducible apply MV.not_t) | (with_reducible apply MV.not_f) | (with_reducible apply MV.ex_and) | (with_reducible apply MV.ex_or) | (with_reducible apply MV.ex_not) | (with_reducible apply MV.ex_if) | (with_reducible apply MV.st_skip) | (with_reducible apply MV.st_drop) | (with_reducible apply MV.st_brk) | (with_reducible apply MV.st_cnt) | (with_reducible apply MV.st_setO) | (with_reducible apply MV.app_at) | (with_reducible apply MV.get_0) | (with_reducible apply MV.get_s) | (with_reducible apply MV.st_par) | (with_reducible apply MV.st_asg) | (with_reducible apply MV.tg_set) | (with_reducible apply MV.tg_tup) | (with_reducible apply MV.tg_cons) | (with_reducible apply MV.tg_nil) | (with_reducible apply MV.st_for) | (with_reducible apply MV.st_frz) | (with_reducible apply MV.put_at) | (with_reducible apply MV.src_seq) | (with_reducible apply MV.src_2) | (with_reducible apply MV.seq_l) | (with_reducible apply MV.seq_t) | (with_reducible apply MV.zip_ok) | (with_reducible apply MV.enum_ok) | (with_reducible apply MV.ex_1) | (with_reducible apply MV.ex_call) | (with_reducible apply MV.op_neg') | (with_reducible apply MV.op_lt') | (with_reducible apply MV.op_le') | (with_reducible apply MV.op_gt') | (with_reducible apply MV.op_ge') | (with_reducible apply MV.op_p18) | (with_reducible apply MV.op_p9) | (with_reducible apply MV.op_p30) | (with_reducible apply MV.op_eqI) | (with_reducible apply MV.op_neI) | (with_reducible apply MV.op_eqSS) | (with_reducible apply MV.op_neSS) | (with_reducible apply MV.op_eqS) | (with_reducible apply MV.op_neS) | (with_reducible apply MV.op_eqB) | (with_reducible apply MV.op_neB) | (with_reducible apply MV.fn_gcd) | (with_reducible apply MV.fn_intB) | (with_reducible apply MV.post_bk) | (with_reducible apply MV.post_ct) | (with_reducible apply MV.then_bk) | (with_reducible apply MV.then_ct) | (with_reducible apply MV.cut_ok) | (with_reducible apply MV.part_ok) | (with_reducible apply MV.part_no) | (with_reducible apply MV.then_ex) | (with_reducible apply MV.post_ex) | (with_reducible apply MV.st_raise) | (with_reducible apply MV.mk_err) | (with_reducible apply MV.err_int) | (with_reducible apply MV.err_non) | (with_reducible apply MV.st_ifX) | (with_reducible apply MV.ifX_ok) | (with_reducible apply MV.ifX_er) | (with_reducible apply MV.ex_2X) | (with_reducible apply MV.m2R_er) | (with_reducible apply MV.m2R_ok) | (with_reducible apply MV.ex_callX) | (with_reducible apply MV.st_try) | (with_reducible apply MV.try_nx) | (with_reducible apply MV.try_rt) | (with_reducible apply MV.try_ex) | (with_reducible apply MV.end_rt) | (with_reducible apply MV.end_nx) | (with_reducible apply MV.st_guard) | (with_reducible apply MV.fld_ok) | (with_reducible apply MV.isv_ok) | (with_reducible apply MV.some_rfl) | (refine MV.ite_t (by assumption) ?_) | (refine MV.ite_f (by assumption) ?_) | (exact (by assumption : _ = true)) | (refine MV.ite_dt (by omega) ?_) | (refine MV.ite_df (by omega) ?_) | (refine MV.ite_et (by omega) ?_) | (refine MV.ite_ef (by omega) ?_)))
    · rfl
  | some i =>
    have lo' : ∀ c0, loopD (gTupD (gsCons (gSet 2) (gsCons (gSet 3) gsNil))) lp_check_points_1 (enumFrom 0 vs) [c0, .dat (.int (n : Int)), .un, .un] = some (.ex (errI (Str.ofString "BadPoint") (.int (i : Int))) [c0, .dat (.int (n : Int)), .un, .un]) := fun c0 => by
      rw [lo c0, hf]
      show some (Res.ex (errI (Str.ofString "BadPoint") (.int ((0 + i : Nat) : Int))) _) = _
      rw [Nat.zero_add]
    apply MV.runX_ok
    case hl => exact rfl
    · unfold b_check_points
      simp only [List.map_cons, List.map_nil, List.replicate, List.cons_append, List.nil_append]
      (repeat (first | (with_reducible apply en <;> first | omega | skip) | (with_reducible apply lo' <;> first | omega | skip) | (with_reducible apply MV.seq_ok) | (with_reducible apply MV.then_nx) | (with_reducible apply MV.then_rt) | (with_reducible apply MV.ar_cons) | (with_reducible apply MV.ar_nil) | (with_reducible apply MV.ex_c) | (with_reducible apply MV.var_0) | (with_reducible apply MV.var_s) | (with_reducible apply MV.own_0) | (with_reducible apply MV.own_0d) | (with_reducible apply MV.own_s) | (with_reducible apply MV.ex_2) | (with_reducible apply MV.ex_call0) | (with_reducible apply MV.ex_fn) | (with_reducible apply MV.st_set) | (with_reducible apply MV.set_0) | (with_reducible apply MV.set_s) | (with_reducible apply MV.st_post) | (with_reducible apply MV.post_nx) | (with_reducible apply MV.post_rt) | (with_reducible apply MV.wipe_0) | (with_reducible apply MV.wipe_s) | (with_reducible apply MV.op_add') | (with_reducible apply MV.op_sub') | (with_reducible apply MV.dMul_ok; rotate_left) | (with_reducible apply MV.dDiv_ok; rotate_left) | (with_reducible apply MV.dMod_ok; rotate_left) | (with_reducible apply MV.op_ixL) | (with_reducible apply MV.op_ixT) | (with_reducible apply MV.at_0) | (with_reducible apply MV.fn_int) | (with_reducible apply MV.fn_abs) | (with_reducible apply MV.fn_len) | (with_reducible apply MV.fn_lenT) | (with_reducible apply MV.fn_tupL) | (with_reducible apply MV.fn_tupT) | (with_reducible apply MV.fn_lstL) | (with_reducible apply MV.fn_lstT) | (with_reducible apply MV.ex_tup) | (with_reducible apply MV.ex_lst) | (with_reducible apply MV.ex_l) | (with_reducible apply MV.len_0) | (with_reducible apply MV.len_s) | (with_reducible apply MV.st_ret) | (with_reducible apply MV.retO_0) | (with_reducible apply MV.retO_0d) | (with_reducible apply MV.retO_s) | (with_reducible apply MV.st_if) | (with_reducible apply MV.ite_tt) | (with_reducible apply MV.ite_ff) | (with_reducible apply MV.bo_as) | (with_reducible apply MV.bo_tru) | (with_reducible apply MV.bo_and) | (with_reducible apply MV.bo_or) | (with_reducible apply MV.bo_not) | (with_reducible apply MV.not_t) | (with_reducible apply MV.not_f) | (with_reducible apply MV.ex_and) | (with_reducible apply MV.ex_or) | (with_reducible apply MV.ex_not) | (with_reducible apply MV.ex_if) | (with_reducible apply MV.st_skip) | (with_reducible apply MV.st_drop) | (with_reducible apply MV.st_brk) | (with_reducible apply MV.st_cnt) | (with_reducible apply MV.st_setO) | (with_reducible apply MV.app_at) | (with_reducible apply MV.get_0) | (with_reducible apply MV.get_s) | (with_reducible apply MV.st_par) | (with_reducible apply MV.st_asg) | (with_reducible apply MV.tg_set) | (with_reducible apply MV.tg_tup) | (with_reducible apply MV.tg_cons) | (with_reducible apply MV.tg_nil) | (with_reducible apply MV.st_for) | (with_reducible apply MV.st_frz) | (with_reducible apply MV.put_at) | (with_reducible apply MV.src_seq) | (with_reducible apply MV.src_2) | (with_reducible apply MV.seq_l) | (with_reducible apply MV.seq_t) | (with_reducible apply MV.zip_ok) | (with_reducible apply MV.enum_ok) | (with_reducible apply MV.ex_1) | (with_reducible apply MV.ex_call) | (with_reducible apply MV.op_neg') | (with_reducible apply MV.op_lt') | (with_reducible apply MV.op_le') | (with_reducible apply MV.op_gt') | (with_reducible apply MV.op_ge') | (with_reducible apply MV.op_p18) | (with_reducible apply MV.op_p9) | (with_reducible apply MV.op_p30) | (with_reducible apply MV.op_eqI) | (with_reducible apply MV.op_neI) | (with_reducible apply MV.op_eqSS) | (with_reducible apply MV.op_neSS) | (with_reducible apply MV.op_eqS) | (with_reducible apply MV.op_neS) | (with_reducible apply MV.op_eqB) | (with_reducible apply MV.op_neB) | (with_reducible apply MV.fn_gcd) | (with_reducible apply MV.fn_intB) | (with_reducible apply MV.post_bk) | (with_reducible apply MV.post_ct) | (with_reducible apply MV.then_bk) | (with_reducible apply MV.then_ct) | (with_reducible apply MV.cut_ok) | (with_reducible apply MV.part_ok) | (with_reducible apply MV.part_no) | (with_reducible apply MV.then_ex) | (with_reducible apply MV.post_ex) | (with_reducible apply MV.st_raise) | (with_reducible apply MV.mk_err) | (with_reducible apply MV.err_int) | (with_reducible apply MV.err_non) | (with_reducible apply MV.st_ifX) | (with_reducible apply MV.ifX_ok) | (with_reducible apply MV.ifX_er) | (with_reducible apply MV.ex_2X) | (with_reducible apply MV.m2R_er) | (with_reducible apply MV.m2R_ok) | (with_reducible apply MV.ex_callX) | (with_reducible apply MV.st_try) | (with_reducible apply MV.try_nx) | (with_reducible apply MV.try_rt) | (with_reducible apply MV.try_ex) | (with_reducible apply MV.end_rt) | (with_reducible apply MV.end_nx) | (with_reducible apply MV.st_guard) | (with_reducible apply MV.fld_ok) | (with_reducible apply MV.isv_ok) | (with_reducible apply MV.some_rfl) | (refine MV.ite_t (by assumption) ?_) | (refine MV.ite_f (by assumption) ?_) | (exact (by assumption : _ = true)) | (refine MV.ite_dt (by omega) ?_) | (refine MV.ite_df (by omega) ?_) | (refine MV.ite_et (by omega) ?_) | (refine MV.ite_ef (by omega) ?_)))
    · rfl
theorem told_at (s : D) (vs : List D) (n : Nat) (hs : seqOf s = some vs) (hn : n < 100000) (hl : vs.length < 1000) : m__law_told [s, .int (n : Int)] = some (dueD (firstBad n vs)) := by
  have ck := check_points_at s vs n hs hn hl
  cases hf : firstBad n vs with
  | none =>
    rw [hf] at ck
    have ck' : m_check_points [s, .int (n : Int)] = some (.ok .none) := ck
    have nn : dIsNot .none .none = some (.bool false) := rfl
    have body : ∀ c2, tb__law_told_1 [.dat s, .dat (.int (n : Int)), c2] = some (.nx [.un, .un, c2]) := fun c2 => by
      unfold tb__law_told_1
      (repeat (first | (with_reducible apply ck' <;> first | omega | skip) | (with_reducible apply nn <;> first | omega | skip) | (with_reducible apply MV.seq_ok) | (with_reducible apply MV.then_nx) | (with_reducible apply MV.then_rt) | (with_reducible apply MV.ar_cons) | (with_reducible apply MV.ar_nil) | (with_reducible apply MV.ex_c) | (with_reducible apply MV.var_0) | (with_reducible apply MV.var_s) | (with_reducible apply MV.own_0) | (with_reducible apply MV.own_0d) | (with_reducible apply MV.own_s) | (with_reducible apply MV.ex_2) | (with_reducible apply MV.ex_call0) | (with_reducible apply MV.ex_fn) | (with_reducible apply MV.st_set) | (with_reducible apply MV.set_0) | (with_reducible apply MV.set_s) | (with_reducible apply MV.st_post) | (with_reducible apply MV.post_nx) | (with_reducible apply MV.post_rt) | (with_reducible apply MV.wipe_0) | (with_reducible apply MV.wipe_s) | (with_reducible apply MV.op_add') | (with_reducible apply MV.op_sub') | (with_reducible apply MV.dMul_ok; rotate_left) | (with_reducible apply MV.dDiv_ok; rotate_left) | (with_reducible apply MV.dMod_ok; rotate_left) | (with_reducible apply MV.op_ixL) | (with_reducible apply MV.op_ixT) | (with_reducible apply MV.at_0) | (with_reducible apply MV.fn_int) | (with_reducible apply MV.fn_abs) | (with_reducible apply MV.fn_len) | (with_reducible apply MV.fn_lenT) | (with_reducible apply MV.fn_tupL) | (with_reducible apply MV.fn_tupT) | (with_reducible apply MV.fn_lstL) | (with_reducible apply MV.fn_lstT) | (with_reducible apply MV.ex_tup) | (with_reducible apply MV.ex_lst) | (with_reducible apply MV.ex_l) | (with_reducible apply MV.len_0) | (with_reducible apply MV.len_s) | (with_reducible apply MV.st_ret) | (with_reducible apply MV.retO_0) | (with_reducible apply MV.retO_0d) | (with_reducible apply MV.retO_s) | (with_reducible apply MV.st_if) | (with_reducible apply MV.ite_tt) | (with_reducible apply MV.ite_ff) | (with_reducible apply MV.bo_as) | (with_reducible apply MV.bo_tru) | (with_reducible apply MV.bo_and) | (with_reducible apply MV.bo_or) | (with_reducible apply MV.bo_not) | (with_reducible apply MV.not_t) | (with_reducible apply MV.not_f) | (with_reducible apply MV.ex_and) | (with_reducible apply MV.ex_or) | (with_reducible apply MV.ex_not) | (with_reducible apply MV.ex_if) | (with_reducible apply MV.st_skip) | (with_reducible apply MV.st_drop) | (with_reducible apply MV.st_brk) | (with_reducible apply MV.st_cnt) | (with_reducible apply MV.st_setO) | (with_reducible apply MV.app_at) | (with_reducible apply MV.get_0) | (with_reducible apply MV.get_s) | (with_reducible apply MV.st_par) | (with_reducible apply MV.st_asg) | (with_reducible apply MV.tg_set) | (with_reducible apply MV.tg_tup) | (with_reducible apply MV.tg_cons) | (with_reducible apply MV.tg_nil) | (with_reducible apply MV.st_for) | (with_reducible apply MV.st_frz) | (with_reducible apply MV.put_at) | (with_reducible apply MV.src_seq) | (with_reducible apply MV.src_2) | (with_reducible apply MV.seq_l) | (with_reducible apply MV.seq_t) | (with_reducible apply MV.zip_ok) | (with_reducible apply MV.enum_ok) | (with_reducible apply MV.ex_1) | (with_reducible apply MV.ex_call) | (with_reducible apply MV.op_neg') | (with_reducible apply MV.op_lt') | (with_reducible apply MV.op_le') | (with_reducible apply MV.op_gt') | (with_reducible apply MV.op_ge') | (with_reducible apply MV.op_p18) | (with_reducible apply MV.op_p9) | (with_reducible apply MV.op_p30) | (with_reducible apply MV.op_eqI) | (with_reducible apply MV.op_neI) | (with_reducible apply MV.op_eqSS) | (with_reducible apply MV.op_neSS) | (with_reducible apply MV.op_eqS) | (with_reducible apply MV.op_neS) | (with_reducible apply MV.op_eqB) | (with_reducible apply MV.op_neB) | (with_reducible apply MV.fn_gcd) | (with_reducible apply MV.fn_intB) | (with_reducible apply MV.post_bk) | (with_reducible apply MV.post_ct) | (with_reducible apply MV.then_bk) | (with_reducible apply MV.then_ct) | (with_reducible apply MV.cut_ok) | (with_reducible apply MV.part_ok) | (with_reducible apply MV.part_no) | (with_reducible apply MV.then_ex) | (with_reducible apply MV.post_ex) | (with_reducible apply MV.st_raise) | (with_reducible apply MV.mk_err) | (with_reducible apply MV.err_int) | (with_reducible apply MV.err_non) | (with_reducible apply MV.st_ifX) | (with_reducible apply MV.ifX_ok) | (with_reducible apply MV.ifX_er) | (with_reducible apply MV.ex_2X) | (with_reducible apply MV.m2R_er) | (with_reducible apply MV.m2R_ok) | (with_reducible apply MV.ex_callX) | (with_reducible apply MV.st_try) | (with_reducible apply MV.try_nx) | (with_reducible apply MV.try_rt) | (with_reducible apply MV.try_ex) | (with_reducible apply MV.end_rt) | (with_reducible apply MV.end_nx) | (with_reducible apply MV.st_guard) | (with_reducible apply MV.fld_ok) | (with_reducible apply MV.isv_ok) | (with_reducible apply MV.some_rfl) | (refine MV.ite_t (by assumption) ?_) | (refine MV.ite_f (by assumption) ?_) | (exact (by assumption : _ = true)) | (refine MV.ite_dt (by omega) ?_) | (refine MV.ite_df (by omega) ?_) | (refine MV.ite_et (by omega) ?_) | (refine MV.ite_ef (by omega) ?_)))
    (apply run_ok; case hl => exact rfl); (unfold b__law_told; simp only [List.map_cons, List.map_nil, List.replicate, List.cons_append, List.nil_append])
    (repeat (first | (with_reducible apply body <;> first | omega | skip) | (with_reducible apply MV.seq_ok) | (with_reducible apply MV.then_nx) | (with_reducible apply MV.then_rt) | (with_reducible apply MV.ar_cons) | (with_reducible apply MV.ar_nil) | (with_reducible apply MV.ex_c) | (with_reducible apply MV.var_0) | (with_reducible apply MV.var_s) | (with_reducible apply MV.own_0) | (with_reducible apply MV.own_0d) | (with_reducible apply MV.own_s) | (with_reducible apply MV.ex_2) | (with_reducible apply MV.ex_call0) | (with_reducible apply MV.ex_fn) | (with_reducible apply MV.st_set) | (with_reducible apply MV.set_0) | (with_reducible apply MV.set_s) | (with_reducible apply MV.st_post) | (with_reducible apply MV.post_nx) | (with_reducible apply MV.post_rt) | (with_reducible apply MV.wipe_0) | (with_reducible apply MV.wipe_s) | (with_reducible apply MV.op_add') | (with_reducible apply MV.op_sub') | (with_reducible apply MV.dMul_ok; rotate_left) | (with_reducible apply MV.dDiv_ok; rotate_left) | (with_reducible apply MV.dMod_ok; rotate_left) | (with_reducible apply MV.op_ixL) | (with_reducible apply MV.op_ixT) | (with_reducible apply MV.at_0) | (with_reducible apply MV.fn_int) | (with_reducible apply MV.fn_abs) | (with_reducible apply MV.fn_len) | (with_reducible apply MV.fn_lenT) | (with_reducible apply MV.fn_tupL) | (with_reducible apply MV.fn_tupT) | (with_reducible apply MV.fn_lstL) | (with_reducible apply MV.fn_lstT) | (with_reducible apply MV.ex_tup) | (with_reducible apply MV.ex_lst) | (with_reducible apply MV.ex_l) | (with_reducible apply MV.len_0) | (with_reducible apply MV.len_s) | (with_reducible apply MV.st_ret) | (with_reducible apply MV.retO_0) | (with_reducible apply MV.retO_0d) | (with_reducible apply MV.retO_s) | (with_reducible apply MV.st_if) | (with_reducible apply MV.ite_tt) | (with_reducible apply MV.ite_ff) | (with_reducible apply MV.bo_as) | (with_reducible apply MV.bo_tru) | (with_reducible apply MV.bo_and) | (with_reducible apply MV.bo_or) | (with_reducible apply MV.bo_not) | (with_reducible apply MV.not_t) | (with_reducible apply MV.not_f) | (with_reducible apply MV.ex_and) | (with_reducible apply MV.ex_or) | (with_reducible apply MV.ex_not) | (with_reducible apply MV.ex_if) | (with_reducible apply MV.st_skip) | (with_reducible apply MV.st_drop) | (with_reducible apply MV.st_brk) | (with_reducible apply MV.st_cnt) | (with_reducible apply MV.st_setO) | (with_reducible apply MV.app_at) | (with_reducible apply MV.get_0) | (with_reducible apply MV.get_s) | (with_reducible apply MV.st_par) | (with_reducible apply MV.st_asg) | (with_reducible apply MV.tg_set) | (with_reducible apply MV.tg_tup) | (with_reducible apply MV.tg_cons) | (with_reducible apply MV.tg_nil) | (with_reducible apply MV.st_for) | (with_reducible apply MV.st_frz) | (with_reducible apply MV.put_at) | (with_reducible apply MV.src_seq) | (with_reducible apply MV.src_2) | (with_reducible apply MV.seq_l) | (with_reducible apply MV.seq_t) | (with_reducible apply MV.zip_ok) | (with_reducible apply MV.enum_ok) | (with_reducible apply MV.ex_1) | (with_reducible apply MV.ex_call) | (with_reducible apply MV.op_neg') | (with_reducible apply MV.op_lt') | (with_reducible apply MV.op_le') | (with_reducible apply MV.op_gt') | (with_reducible apply MV.op_ge') | (with_reducible apply MV.op_p18) | (with_reducible apply MV.op_p9) | (with_reducible apply MV.op_p30) | (with_reducible apply MV.op_eqI) | (with_reducible apply MV.op_neI) | (with_reducible apply MV.op_eqSS) | (with_reducible apply MV.op_neSS) | (with_reducible apply MV.op_eqS) | (with_reducible apply MV.op_neS) | (with_reducible apply MV.op_eqB) | (with_reducible apply MV.op_neB) | (with_reducible apply MV.fn_gcd) | (with_reducible apply MV.fn_intB) | (with_reducible apply MV.post_bk) | (with_reducible apply MV.post_ct) | (with_reducible apply MV.then_bk) | (with_reducible apply MV.then_ct) | (with_reducible apply MV.cut_ok) | (with_reducible apply MV.part_ok) | (with_reducible apply MV.part_no) | (with_reducible apply MV.then_ex) | (with_reducible apply MV.post_ex) | (with_reducible apply MV.st_raise) | (with_reducible apply MV.mk_err) | (with_reducible apply MV.err_int) | (with_reducible apply MV.err_non) | (with_reducible apply MV.st_ifX) | (with_reducible apply MV.ifX_ok) | (with_reducible apply MV.ifX_er) | (with_reducible apply MV.ex_2X) | (with_reducible apply MV.m2R_er) | (with_reducible apply MV.m2R_ok) | (with_reducible apply MV.ex_callX) | (with_reducible apply MV.st_try) | (with_reducible apply MV.try_nx) | (with_reducible apply MV.try_rt) | (with_reducible apply MV.try_ex) | (with_reducible apply MV.end_rt) | (with_reducible apply MV.end_nx) | (with_reducible apply MV.st_guard) | (with_reducible apply MV.fld_ok) | (with_reducible apply MV.isv_ok) | (with_reducible apply MV.some_rfl) | (refine MV.ite_t (by assumption) ?_) | (refine MV.ite_f (by assumption) ?_) | (exact (by assumption : _ = true)) | (refine MV.ite_dt (by omega) ?_) | (refine MV.ite_df (by omega) ?_) | (refine MV.ite_et (by omega) ?_) | (refine MV.ite_ef (by omega) ?_)))
    rfl
  | some i =>
    rw [hf] at ck
    have ck' : m_check_points [s, .int (n : Int)] = some (.er (errI (Str.ofString "BadPoint") (.int (i : Int)))) := ck
    have body : ∀ c2, tb__law_told_1 [.dat s, .dat (.int (n : Int)), c2] = some (.ex (errI (Str.ofString "BadPoint") (.int (i : Int))) [.un, .un, c2]) := fun c2 => by
      unfold tb__law_told_1
      (repeat (first | (with_reducible apply ck' <;> first | omega | skip) | (with_reducible apply MV.seq_ok) | (with_reducible apply MV.then_nx) | (with_reducible apply MV.then_rt) | (with_reducible apply MV.ar_cons) | (with_reducible apply MV.ar_nil) | (with_reducible apply MV.ex_c) | (with_reducible apply MV.var_0) | (with_reducible apply MV.var_s) | (with_reducible apply MV.own_0) | (with_reducible apply MV.own_0d) | (with_reducible apply MV.own_s) | (with_reducible apply MV.ex_2) | (with_reducible apply MV.ex_call0) | (with_reducible apply MV.ex_fn) | (with_reducible apply MV.st_set) | (with_reducible apply MV.set_0) | (with_reducible apply MV.set_s) | (with_reducible apply MV.st_post) | (with_reducible apply MV.post_nx) | (with_reducible apply MV.post_rt) | (with_reducible apply MV.wipe_0) | (with_reducible apply MV.wipe_s) | (with_reducible apply MV.op_add') | (with_reducible apply MV.op_sub') | (with_reducible apply MV.dMul_ok; rotate_left) | (with_reducible apply MV.dDiv_ok; rotate_left) | (with_reducible apply MV.dMod_ok; rotate_left) | (with_reducible apply MV.op_ixL) | (with_reducible apply MV.op_ixT) | (with_reducible apply MV.at_0) | (with_reducible apply MV.fn_int) | (with_reducible apply MV.fn_abs) | (with_reducible apply MV.fn_len) | (with_reducible apply MV.fn_lenT) | (with_reducible apply MV.fn_tupL) | (with_reducible apply MV.fn_tupT) | (with_reducible apply MV.fn_lstL) | (with_reducible apply MV.fn_lstT) | (with_reducible apply MV.ex_tup) | (with_reducible apply MV.ex_lst) | (with_reducible apply MV.ex_l) | (with_reducible apply MV.len_0) | (with_reducible apply MV.len_s) | (with_reducible apply MV.st_ret) | (with_reducible apply MV.retO_0) | (with_reducible apply MV.retO_0d) | (with_reducible apply MV.retO_s) | (with_reducible apply MV.st_if) | (with_reducible apply MV.ite_tt) | (with_reducible apply MV.ite_ff) | (with_reducible apply MV.bo_as) | (with_reducible apply MV.bo_tru) | (with_reducible apply MV.bo_and) | (with_reducible apply MV.bo_or) | (with_reducible apply MV.bo_not) | (with_reducible apply MV.not_t) | (with_reducible apply MV.not_f) | (with_reducible apply MV.ex_and) | (with_reducible apply MV.ex_or) | (with_reducible apply MV.ex_not) | (with_reducible apply MV.ex_if) | (with_reducible apply MV.st_skip) | (with_reducible apply MV.st_drop) | (with_reducible apply MV.st_brk) | (with_reducible apply MV.st_cnt) | (with_reducible apply MV.st_setO) | (with_reducible apply MV.app_at) | (with_reducible apply MV.get_0) | (with_reducible apply MV.get_s) | (with_reducible apply MV.st_par) | (with_reducible apply MV.st_asg) | (with_reducible apply MV.tg_set) | (with_reducible apply MV.tg_tup) | (with_reducible apply MV.tg_cons) | (with_reducible apply MV.tg_nil) | (with_reducible apply MV.st_for) | (with_reducible apply MV.st_frz) | (with_reducible apply MV.put_at) | (with_reducible apply MV.src_seq) | (with_reducible apply MV.src_2) | (with_reducible apply MV.seq_l) | (with_reducible apply MV.seq_t) | (with_reducible apply MV.zip_ok) | (with_reducible apply MV.enum_ok) | (with_reducible apply MV.ex_1) | (with_reducible apply MV.ex_call) | (with_reducible apply MV.op_neg') | (with_reducible apply MV.op_lt') | (with_reducible apply MV.op_le') | (with_reducible apply MV.op_gt') | (with_reducible apply MV.op_ge') | (with_reducible apply MV.op_p18) | (with_reducible apply MV.op_p9) | (with_reducible apply MV.op_p30) | (with_reducible apply MV.op_eqI) | (with_reducible apply MV.op_neI) | (with_reducible apply MV.op_eqSS) | (with_reducible apply MV.op_neSS) | (with_reducible apply MV.op_eqS) | (with_reducible apply MV.op_neS) | (with_reducible apply MV.op_eqB) | (with_reducible apply MV.op_neB) | (with_reducible apply MV.fn_gcd) | (with_reducible apply MV.fn_intB) | (with_reducible apply MV.post_bk) | (with_reducible apply MV.post_ct) | (with_reducible apply MV.then_bk) | (with_reducible apply MV.then_ct) | (with_reducible apply MV.cut_ok) | (with_reducible apply MV.part_ok) | (with_reducible apply MV.part_no) | (with_reducible apply MV.then_ex) | (with_reducible apply MV.post_ex) | (with_reducible apply MV.st_raise) | (with_reducible apply MV.mk_err) | (with_reducible apply MV.err_int) | (with_reducible apply MV.err_non) | (with_reducible apply MV.st_ifX) | (with_reducible apply MV.ifX_ok) | (with_reducible apply MV.ifX_er) | (with_reducible apply MV.ex_2X) | (with_reducible apply MV.m2R_er) | (with_reducible apply MV.m2R_ok) | (with_reducible apply MV.ex_callX) | (with_reducible apply MV.st_try) | (with_reducible apply MV.try_nx) | (with_reducible apply MV.try_rt) | (with_reducible apply MV.try_ex) | (with_reducible apply MV.end_rt) | (with_reducible apply MV.end_nx) | (with_reducible apply MV.st_guard) | (with_reducible apply MV.fld_ok) | (with_reducible apply MV.isv_ok) | (with_reducible apply MV.some_rfl) | (refine MV.ite_t (by assumption) ?_) | (refine MV.ite_f (by assumption) ?_) | (exact (by assumption : _ = true)) | (refine MV.ite_dt (by omega) ?_) | (refine MV.ite_df (by omega) ?_) | (refine MV.ite_et (by omega) ?_) | (refine MV.ite_ef (by omega) ?_)))
    have f1 : ∀ r : Rho, mFld (errI (Str.ofString "BadPoint") (.int (i : Int))) errTags (Str.ofString "word") r = some (.str (Str.ofString "BadPoint")) := fun r => MV.fld_ok (by show Str.ofString "BadPoint" ∈ errTags; decide) rfl
    have f2 : ∀ r : Rho, mFld (errI (Str.ofString "BadPoint") (.int (i : Int))) errTags (Str.ofString "place") r = some (.int (i : Int)) := fun r => MV.fld_ok (by show Str.ofString "BadPoint" ∈ errTags; decide) rfl
    have k1 : ∀ r : Rho, mIsV (errI (Str.ofString "BadPoint") (.int (i : Int))) kit_ValueError r = some (.bool true) := fun r => MV.isv_ok rfl
    have k2 : ∀ r : Rho, mIsV (errI (Str.ofString "BadPoint") (.int (i : Int))) kit_BadPoint r = some (.bool true) := fun r => MV.isv_ok rfl
    have k3 : ∀ r : Rho, mIsV (errI (Str.ofString "BadPoint") (.int (i : Int))) kit_BadWeights r = some (.bool false) := fun r => MV.isv_ok rfl
    have su : ∀ r : Rho, su__law_told_1 (errI (Str.ofString "BadPoint") (.int (i : Int))) r = some (.rt (.tuple [.str (Str.ofString "BadPoint"), .int (i : Int)])) := fun r => by
      apply un_su__law_told_1
      (repeat (first | (with_reducible apply k1 <;> first | omega | skip) | (with_reducible apply k2 <;> first | omega | skip) | (with_reducible apply k3 <;> first | omega | skip) | (with_reducible apply f1 <;> first | omega | skip) | (with_reducible apply f2 <;> first | omega | skip) | (with_reducible apply MV.seq_ok) | (with_reducible apply MV.then_nx) | (with_reducible apply MV.then_rt) | (with_reducible apply MV.ar_cons) | (with_reducible apply MV.ar_nil) | (with_reducible apply MV.ex_c) | (with_reducible apply MV.var_0) | (with_reducible apply MV.var_s) | (with_reducible apply MV.own_0) | (with_reducible apply MV.own_0d) | (with_reducible apply MV.own_s) | (with_reducible apply MV.ex_2) | (with_reducible apply MV.ex_call0) | (with_reducible apply MV.ex_fn) | (with_reducible apply MV.st_set) | (with_reducible apply MV.set_0) | (with_reducible apply MV.set_s) | (with_reducible apply MV.st_post) | (with_reducible apply MV.post_nx) | (with_reducible apply MV.post_rt) | (with_reducible apply MV.wipe_0) | (with_reducible apply MV.wipe_s) | (with_reducible apply MV.op_add') | (with_reducible apply MV.op_sub') | (with_reducible apply MV.dMul_ok; rotate_left) | (with_reducible apply MV.dDiv_ok; rotate_left) | (with_reducible apply MV.dMod_ok; rotate_left) | (with_reducible apply MV.op_ixL) | (with_reducible apply MV.op_ixT) | (with_reducible apply MV.at_0) | (with_reducible apply MV.fn_int) | (with_reducible apply MV.fn_abs) | (with_reducible apply MV.fn_len) | (with_reducible apply MV.fn_lenT) | (with_reducible apply MV.fn_tupL) | (with_reducible apply MV.fn_tupT) | (with_reducible apply MV.fn_lstL) | (with_reducible apply MV.fn_lstT) | (with_reducible apply MV.ex_tup) | (with_reducible apply MV.ex_lst) | (with_reducible apply MV.ex_l) | (with_reducible apply MV.len_0) | (with_reducible apply MV.len_s) | (with_reducible apply MV.st_ret) | (with_reducible apply MV.retO_0) | (with_reducible apply MV.retO_0d) | (with_reducible apply MV.retO_s) | (with_reducible apply MV.st_if) | (with_reducible apply MV.ite_tt) | (with_reducible apply MV.ite_ff) | (with_reducible apply MV.bo_as) | (with_reducible apply MV.bo_tru) | (with_reducible apply MV.bo_and) | (with_reducible apply MV.bo_or) | (with_reducible apply MV.bo_not) | (with_reducible apply MV.not_t) | (with_reducible apply MV.not_f) | (with_reducible apply MV.ex_and) | (with_reducible apply MV.ex_or) | (with_reducible apply MV.ex_not) | (with_reducible apply MV.ex_if) | (with_reducible apply MV.st_skip) | (with_reducible apply MV.st_drop) | (with_reducible apply MV.st_brk) | (with_reducible apply MV.st_cnt) | (with_reducible apply MV.st_setO) | (with_reducible apply MV.app_at) | (with_reducible apply MV.get_0) | (with_reducible apply MV.get_s) | (with_reducible apply MV.st_par) | (with_reducible apply MV.st_asg) | (with_reducible apply MV.tg_set) | (with_reducible apply MV.tg_tup) | (with_reducible apply MV.tg_cons) | (with_reducible apply MV.tg_nil) | (with_reducible apply MV.st_for) | (with_reducible apply MV.st_frz) | (with_reducible apply MV.put_at) | (with_reducible apply MV.src_seq) | (with_reducible apply MV.src_2) | (with_reducible apply MV.seq_l) | (with_reducible apply MV.seq_t) | (with_reducible apply MV.zip_ok) | (with_reducible apply MV.enum_ok) | (with_reducible apply MV.ex_1) | (with_reducible apply MV.ex_call) | (with_reducible apply MV.op_neg') | (with_reducible apply MV.op_lt') | (with_reducible apply MV.op_le') | (with_reducible apply MV.op_gt') | (with_reducible apply MV.op_ge') | (with_reducible apply MV.op_p18) | (with_reducible apply MV.op_p9) | (with_reducible apply MV.op_p30) | (with_reducible apply MV.op_eqI) | (with_reducible apply MV.op_neI) | (with_reducible apply MV.op_eqSS) | (with_reducible apply MV.op_neSS) | (with_reducible apply MV.op_eqS) | (with_reducible apply MV.op_neS) | (with_reducible apply MV.op_eqB) | (with_reducible apply MV.op_neB) | (with_reducible apply MV.fn_gcd) | (with_reducible apply MV.fn_intB) | (with_reducible apply MV.post_bk) | (with_reducible apply MV.post_ct) | (with_reducible apply MV.then_bk) | (with_reducible apply MV.then_ct) | (with_reducible apply MV.cut_ok) | (with_reducible apply MV.part_ok) | (with_reducible apply MV.part_no) | (with_reducible apply MV.then_ex) | (with_reducible apply MV.post_ex) | (with_reducible apply MV.st_raise) | (with_reducible apply MV.mk_err) | (with_reducible apply MV.err_int) | (with_reducible apply MV.err_non) | (with_reducible apply MV.st_ifX) | (with_reducible apply MV.ifX_ok) | (with_reducible apply MV.ifX_er) | (with_reducible apply MV.ex_2X) | (with_reducible apply MV.m2R_er) | (with_reducible apply MV.m2R_ok) | (with_reducible apply MV.ex_callX) | (with_reducible apply MV.st_try) | (with_reducible apply MV.try_nx) | (with_reducible apply MV.try_rt) | (with_reducible apply MV.try_ex) | (with_reducible apply MV.end_rt) | (with_reducible apply MV.end_nx) | (with_reducible apply MV.st_guard) | (with_reducible apply MV.fld_ok) | (with_reducible apply MV.isv_ok) | (with_reducible apply MV.some_rfl) | (refine MV.ite_t (by assumption) ?_) | (refine MV.ite_f (by assumption) ?_) | (exact (by assumption : _ = true)) | (refine MV.ite_dt (by omega) ?_) | (refine MV.ite_df (by omega) ?_) | (refine MV.ite_et (by omega) ?_) | (refine MV.ite_ef (by omega) ?_)))
    have ex : (exm_BoundError).lookup (errI (Str.ofString "BadPoint") (.int (i : Int))).tag = some true := rfl
    (apply run_ok; case hl => exact rfl); (unfold b__law_told; simp only [List.map_cons, List.map_nil, List.replicate, List.cons_append, List.nil_append])
    (repeat (first | (with_reducible apply body <;> first | omega | skip) | (with_reducible apply ex <;> first | omega | skip) | (with_reducible apply su <;> first | omega | skip) | (with_reducible apply MV.seq_ok) | (with_reducible apply MV.then_nx) | (with_reducible apply MV.then_rt) | (with_reducible apply MV.ar_cons) | (with_reducible apply MV.ar_nil) | (with_reducible apply MV.ex_c) | (with_reducible apply MV.var_0) | (with_reducible apply MV.var_s) | (with_reducible apply MV.own_0) | (with_reducible apply MV.own_0d) | (with_reducible apply MV.own_s) | (with_reducible apply MV.ex_2) | (with_reducible apply MV.ex_call0) | (with_reducible apply MV.ex_fn) | (with_reducible apply MV.st_set) | (with_reducible apply MV.set_0) | (with_reducible apply MV.set_s) | (with_reducible apply MV.st_post) | (with_reducible apply MV.post_nx) | (with_reducible apply MV.post_rt) | (with_reducible apply MV.wipe_0) | (with_reducible apply MV.wipe_s) | (with_reducible apply MV.op_add') | (with_reducible apply MV.op_sub') | (with_reducible apply MV.dMul_ok; rotate_left) | (with_reducible apply MV.dDiv_ok; rotate_left) | (with_reducible apply MV.dMod_ok; rotate_left) | (with_reducible apply MV.op_ixL) | (with_reducible apply MV.op_ixT) | (with_reducible apply MV.at_0) | (with_reducible apply MV.fn_int) | (with_reducible apply MV.fn_abs) | (with_reducible apply MV.fn_len) | (with_reducible apply MV.fn_lenT) | (with_reducible apply MV.fn_tupL) | (with_reducible apply MV.fn_tupT) | (with_reducible apply MV.fn_lstL) | (with_reducible apply MV.fn_lstT) | (with_reducible apply MV.ex_tup) | (with_reducible apply MV.ex_lst) | (with_reducible apply MV.ex_l) | (with_reducible apply MV.len_0) | (with_reducible apply MV.len_s) | (with_reducible apply MV.st_ret) | (with_reducible apply MV.retO_0) | (with_reducible apply MV.retO_0d) | (with_reducible apply MV.retO_s) | (with_reducible apply MV.st_if) | (with_reducible apply MV.ite_tt) | (with_reducible apply MV.ite_ff) | (with_reducible apply MV.bo_as) | (with_reducible apply MV.bo_tru) | (with_reducible apply MV.bo_and) | (with_reducible apply MV.bo_or) | (with_reducible apply MV.bo_not) | (with_reducible apply MV.not_t) | (with_reducible apply MV.not_f) | (with_reducible apply MV.ex_and) | (with_reducible apply MV.ex_or) | (with_reducible apply MV.ex_not) | (with_reducible apply MV.ex_if) | (with_reducible apply MV.st_skip) | (with_reducible apply MV.st_drop) | (with_reducible apply MV.st_brk) | (with_reducible apply MV.st_cnt) | (with_reducible apply MV.st_setO) | (with_reducible apply MV.app_at) | (with_reducible apply MV.get_0) | (with_reducible apply MV.get_s) | (with_reducible apply MV.st_par) | (with_reducible apply MV.st_asg) | (with_reducible apply MV.tg_set) | (with_reducible apply MV.tg_tup) | (with_reducible apply MV.tg_cons) | (with_reducible apply MV.tg_nil) | (with_reducible apply MV.st_for) | (with_reducible apply MV.st_frz) | (with_reducible apply MV.put_at) | (with_reducible apply MV.src_seq) | (with_reducible apply MV.src_2) | (with_reducible apply MV.seq_l) | (with_reducible apply MV.seq_t) | (with_reducible apply MV.zip_ok) | (with_reducible apply MV.enum_ok) | (with_reducible apply MV.ex_1) | (with_reducible apply MV.ex_call) | (with_reducible apply MV.op_neg') | (with_reducible apply MV.op_lt') | (with_reducible apply MV.op_le') | (with_reducible apply MV.op_gt') | (with_reducible apply MV.op_ge') | (with_reducible apply MV.op_p18) | (with_reducible apply MV.op_p9) | (with_reducible apply MV.op_p30) | (with_reducible apply MV.op_eqI) | (with_reducible apply MV.op_neI) | (with_reducible apply MV.op_eqSS) | (with_reducible apply MV.op_neSS) | (with_reducible apply MV.op_eqS) | (with_reducible apply MV.op_neS) | (with_reducible apply MV.op_eqB) | (with_reducible apply MV.op_neB) | (with_reducible apply MV.fn_gcd) | (with_reducible apply MV.fn_intB) | (with_reducible apply MV.post_bk) | (with_reducible apply MV.post_ct) | (with_reducible apply MV.then_bk) | (with_reducible apply MV.then_ct) | (with_reducible apply MV.cut_ok) | (with_reducible apply MV.part_ok) | (with_reducible apply MV.part_no) | (with_reducible apply MV.then_ex) | (with_reducible apply MV.post_ex) | (with_reducible apply MV.st_raise) | (with_reducible apply MV.mk_err) | (with_reducible apply MV.err_int) | (with_reducible apply MV.err_non) | (with_reducible apply MV.st_ifX) | (with_reducible apply MV.ifX_ok) | (with_reducible apply MV.ifX_er) | (with_reducible apply MV.ex_2X) | (with_reducible apply MV.m2R_er) | (with_reducible apply MV.m2R_ok) | (with_reducible apply MV.ex_callX) | (with_reducible apply MV.st_try) | (with_reducible apply MV.try_nx) | (with_reducible apply MV.try_rt) | (with_reducible apply MV.try_ex) | (with_reducible apply MV.end_rt) | (with_reducible apply MV.end_nx) | (with_reducible apply MV.st_guard) | (with_reducible apply MV.fld_ok) | (with_reducible apply MV.isv_ok) | (with_reducible apply MV.some_rfl) | (refine MV.ite_t (by assumption) ?_) | (refine MV.ite_f (by assumption) ?_) | (exact (by assumption : _ = true)) | (refine MV.ite_dt (by omega) ?_) | (refine MV.ite_df (by omega) ?_) | (refine MV.ite_et (by omega) ?_) | (refine MV.ite_ef (by omega) ?_)))
    all_goals first | rfl | decide

structure PartOk (d : D) : Prop where
  l : lim d = true
  o : okD d
  b : d.bulk ≤ 4
  p : d.depth ≤ 2
structure ItemOk (d : D) : Prop where
  l : limP d = true
  o : okD d
  b : d.bulk ≤ 60
  p : d.depth ≤ 4
theorem cut_sub {ds : List D} {lo hi : Option Int} : ∀ d ∈ cutD ds lo hi, d ∈ ds := fun d h => List.mem_of_mem_drop (List.mem_of_mem_take h)
theorem cut_len {ds : List D} {lo hi : Option Int} : (cutD ds lo hi).length ≤ ds.length := by
  unfold MV.cutD
  rw [List.length_take, List.length_drop]
  omega
theorem item_tup {ds : List D} (h : ∀ d ∈ ds, PartOk d) (hl : ds.length ≤ 10) : ItemOk (.tuple ds) := by
  refine ⟨List.all_eq_true.mpr fun d hd => (h d hd).l, okD_tup fun d hd => (h d hd).o, ?_, ?_⟩
  · have := bulk_le (n := 4) (ds := ds) fun d hd => (h d hd).b
    show PyData.bulkAll ds ≤ 60
    omega
  · have := depth_le (n := 2) (ds := ds) fun d hd => (h d hd).p
    show PyData.depthAll ds + 1 ≤ 4
    omega
theorem item_lst {ds : List D} (h : ∀ d ∈ ds, PartOk d) (hl : ds.length ≤ 10) : ItemOk (.list ds) := by
  refine ⟨rfl, okD_lst fun d hd => (h d hd).o, ?_, ?_⟩
  · have := bulk_le (n := 4) (ds := ds) fun d hd => (h d hd).b
    show PyData.bulkAll ds ≤ 60
    omega
  · have := depth_le (n := 2) (ds := ds) fun d hd => (h d hd).p
    show PyData.depthAll ds + 1 ≤ 4
    omega
theorem part_int2 {a b : Int} (ha : a.natAbs < 2 ^ 200) (hb : b.natAbs < 2 ^ 200) : PartOk (.tuple [.int a, .int b]) := by
  refine ⟨decide_eq_true ⟨ha, hb⟩, okD_tup fun d hd => ?_, by show 2 ≤ 4; decide, by show 1 ≤ 2; decide⟩
  rcases List.mem_cons.mp hd with rfl | hd
  · exact okD_int (lt_pow ha (by decide))
  · rw [List.mem_singleton.mp hd]
    exact okD_int (lt_pow hb (by decide))
def partsL : List D := [.tuple [.int 2, .int 4], .tuple [.int 1, .int 0], .tuple [.int 1, .int (-1)], .tuple [.int 1], .list [.int 1, .int 2], .int 3, .none, .tuple [.bool true, .int 1], .tuple [.int 1, .int 1, .int 1], .tuple [.int 0, .int 2]]
theorem parts_ok : ∀ d ∈ partsL, PartOk d := fun d h => by
  simp only [partsL, List.mem_cons, List.not_mem_nil, or_false] at h
  rcases h with rfl | rfl | rfl | rfl | rfl | rfl | rfl | rfl | rfl | rfl
  all_goals exact ⟨by decide +kernel, ⟨by decide +kernel, by decide +kernel, by decide +kernel, by decide +kernel⟩, by decide +kernel, by decide +kernel⟩
def gd (k : Nat) : D := .tuple [.int (k : Int), .int 1]
def goodL (n : Nat) : List D := (List.range n).map gd
theorem good_len (n : Nat) : (goodL n).length = n := by unfold goodL; rw [List.length_map, List.length_range]
theorem good_ok {n : Nat} (h4 : n ≤ 4) : ∀ d ∈ goodL n, PartOk d := fun d h => by
  obtain ⟨k, hk, rfl⟩ := List.mem_map.mp h
  have := List.mem_range.mp hk
  exact part_int2 (lt_pow (by omega : ((k : Int)).natAbs < 2 ^ 3) (by decide)) (by decide)
theorem cutT (lo hi : Option Int) (ds : List D) : dCut lo hi (.tuple ds) = some (.tuple (cutD ds lo hi)) := rfl
theorem cutL (lo hi : Option Int) (ds : List D) : dCut lo hi (.list ds) = some (.list (cutD ds lo hi)) := rfl
theorem addT {a b : List D} (h : a.length + b.length ≤ 100000) : dAdd (.tuple a) (.tuple b) = some (.tuple (a ++ b)) := if_pos h
theorem addL {a b : List D} (h : a.length + b.length ≤ 100000) : dAdd (.list a) (.list b) = some (.list (a ++ b)) := if_pos h
theorem atL {xs : List D} (z : Int) {m : Int} (hm : (xs.length : Int) = m) (h0 : 0 < m) : ∃ x ∈ xs, atI xs (z.fmod m) = some x := by
  obtain ⟨k, e, b⟩ := drawn z h0
  refine ⟨xs[k]'(by omega), List.getElem_mem _, ?_⟩
  rw [e]
  exact atI_nat (List.getElem?_eq_getElem (by omega))
theorem bent_at (cell : Int) (vs : List D) (n : Nat) (h1 : 1 ≤ n) (h4 : n ≤ 4) (hv : vs ≠ []) (hl : vs.length ≤ 20) (h : ∀ v ∈ vs, ItemOk v) :
    ∃ ws, m__law_bent [.int cell, .list vs, .int (n : Int)] = some (.list ws) ∧ (∀ v ∈ ws, ItemOk v) ∧ ws.length ≤ 2 * vs.length + 1 ∧ ws ≠ [] := by
  have e := row_at (base := 240) (by decide) (by decide) cell 4 (by decide)
  obtain ⟨y0, y1, y2, y3, ey⟩ := four (rowL_len cell 4 240)
  rw [ey] at e
  rw [show ((4 : Nat) : Int) = 4 from rfl] at e
  simp only [List.map_cons, List.map_nil] at e
  have pos : 0 < vs.length := List.length_pos_iff.mpr hv
  have a0 : ∀ a b c d : D, atI [a, b, c, d] 0 = some a := fun a b c d => rfl
  have a1 : ∀ a b c d : D, atI [a, b, c, d] 1 = some b := fun a b c d => rfl
  have a2 : ∀ a b c d : D, atI [a, b, c, d] 2 = some c := fun a b c d => rfl
  have a3 : ∀ a b c d : D, atI [a, b, c, d] 3 = some d := fun a b c d => rfl
  have m0 : dMod (.int y0) (.int (vs.length : Int)) = some (.int (y0.fmod vs.length)) := dMod_ok (by omega)
  have m1 : dMod (.int y1) (.int (n : Int)) = some (.int (y1.fmod n)) := dMod_ok (by omega)
  generalize y0.fmod vs.length = at0 at m0
  generalize y1.fmod n = pl at m1
  have cm : ∀ c0 c1 c3 c4 c5 c6 c7 c8 c9 c10, mLc (mL2 rng1 (mCons (mVar 2) mNil)) (gSet 10) mYes el__law_bent_1 [10] [c0, c1, .dat (.int (n : Int)), c3, c4, c5, c6, c7, c8, c9, c10] = some (goodL n) := fun c0 c1 c3 c4 c5 c6 c7 c8 c9 c10 => by
    refine comp_at (fun (k : Nat) => PyData.int (k : Int)) gd (List.range n) ?_ (by rw [List.length_range]; omega) fun k hm => ?_
    · (repeat (first | (with_reducible apply rng_nat <;> first | omega | skip) | (with_reducible apply MV.seq_ok) | (with_reducible apply MV.then_nx) | (with_reducible apply MV.then_rt) | (with_reducible apply MV.ar_cons) | (with_reducible apply MV.ar_nil) | (with_reducible apply MV.ex_c) | (with_reducible apply MV.var_0) | (with_reducible apply MV.var_s) | (with_reducible apply MV.own_0) | (with_reducible apply MV.own_0d) | (with_reducible apply MV.own_s) | (with_reducible apply MV.ex_2) | (with_reducible apply MV.ex_call0) | (with_reducible apply MV.ex_fn) | (with_reducible apply MV.st_set) | (with_reducible apply MV.set_0) | (with_reducible apply MV.set_s) | (with_reducible apply MV.st_post) | (with_reducible apply MV.post_nx) | (with_reducible apply MV.post_rt) | (with_reducible apply MV.wipe_0) | (with_reducible apply MV.wipe_s) | (with_reducible apply MV.op_add') | (with_reducible apply MV.op_sub') | (with_reducible apply MV.dMul_ok; rotate_left) | (with_reducible apply MV.dDiv_ok; rotate_left) | (with_reducible apply MV.dMod_ok; rotate_left) | (with_reducible apply MV.op_ixL) | (with_reducible apply MV.op_ixT) | (with_reducible apply MV.at_0) | (with_reducible apply MV.fn_int) | (with_reducible apply MV.fn_abs) | (with_reducible apply MV.fn_len) | (with_reducible apply MV.fn_lenT) | (with_reducible apply MV.fn_tupL) | (with_reducible apply MV.fn_tupT) | (with_reducible apply MV.fn_lstL) | (with_reducible apply MV.fn_lstT) | (with_reducible apply MV.ex_tup) | (with_reducible apply MV.ex_lst) | (with_reducible apply MV.ex_l) | (with_reducible apply MV.len_0) | (with_reducible apply MV.len_s) | (with_reducible apply MV.st_ret) | (with_reducible apply MV.retO_0) | (with_reducible apply MV.retO_0d) | (with_reducible apply MV.retO_s) | (with_reducible apply MV.st_if) | (with_reducible apply MV.ite_tt) | (with_reducible apply MV.ite_ff) | (with_reducible apply MV.bo_as) | (with_reducible apply MV.bo_tru) | (with_reducible apply MV.bo_and) | (with_reducible apply MV.bo_or) | (with_reducible apply MV.bo_not) | (with_reducible apply MV.not_t) | (with_reducible apply MV.not_f) | (with_reducible apply MV.ex_and) | (with_reducible apply MV.ex_or) | (with_reducible apply MV.ex_not) | (with_reducible apply MV.ex_if) | (with_reducible apply MV.st_skip) | (with_reducible apply MV.st_drop) | (with_reducible apply MV.st_brk) | (with_reducible apply MV.st_cnt) | (with_reducible apply MV.st_setO) | (with_reducible apply MV.app_at) | (with_reducible apply MV.get_0) | (with_reducible apply MV.get_s) | (with_reducible apply MV.st_par) | (with_reducible apply MV.st_asg) | (with_reducible apply MV.tg_set) | (with_reducible apply MV.tg_tup) | (with_reducible apply MV.tg_cons) | (with_reducible apply MV.tg_nil) | (with_reducible apply MV.st_for) | (with_reducible apply MV.st_frz) | (with_reducible apply MV.put_at) | (with_reducible apply MV.src_seq) | (with_reducible apply MV.src_2) | (with_reducible apply MV.seq_l) | (with_reducible apply MV.seq_t) | (with_reducible apply MV.zip_ok) | (with_reducible apply MV.enum_ok) | (with_reducible apply MV.ex_1) | (with_reducible apply MV.ex_call) | (with_reducible apply MV.op_neg') | (with_reducible apply MV.op_lt') | (with_reducible apply MV.op_le') | (with_reducible apply MV.op_gt') | (with_reducible apply MV.op_ge') | (with_reducible apply MV.op_p18) | (with_reducible apply MV.op_p9) | (with_reducible apply MV.op_p30) | (with_reducible apply MV.op_eqI) | (with_reducible apply MV.op_neI) | (with_reducible apply MV.op_eqSS) | (with_reducible apply MV.op_neSS) | (with_reducible apply MV.op_eqS) | (with_reducible apply MV.op_neS) | (with_reducible apply MV.op_eqB) | (with_reducible apply MV.op_neB) | (with_reducible apply MV.fn_gcd) | (with_reducible apply MV.fn_intB) | (with_reducible apply MV.post_bk) | (with_reducible apply MV.post_ct) | (with_reducible apply MV.then_bk) | (with_reducible apply MV.then_ct) | (with_reducible apply MV.cut_ok) | (with_reducible apply MV.part_ok) | (with_reducible apply MV.part_no) | (with_reducible apply MV.then_ex) | (with_reducible apply MV.post_ex) | (with_reducible apply MV.st_raise) | (with_reducible apply MV.mk_err) | (with_reducible apply MV.err_int) | (with_reducible apply MV.err_non) | (with_reducible apply MV.st_ifX) | (with_reducible apply MV.ifX_ok) | (with_reducible apply MV.ifX_er) | (with_reducible apply MV.ex_2X) | (with_reducible apply MV.m2R_er) | (with_reducible apply MV.m2R_ok) | (with_reducible apply MV.ex_callX) | (with_reducible apply MV.st_try) | (with_reducible apply MV.try_nx) | (with_reducible apply MV.try_rt) | (with_reducible apply MV.try_ex) | (with_reducible apply MV.end_rt) | (with_reducible apply MV.end_nx) | (with_reducible apply MV.st_guard) | (with_reducible apply MV.fld_ok) | (with_reducible apply MV.isv_ok) | (with_reducible apply MV.some_rfl) | (refine MV.ite_t (by assumption) ?_) | (refine MV.ite_f (by assumption) ?_) | (exact (by assumption : _ = true)) | (refine MV.ite_dt (by omega) ?_) | (refine MV.ite_df (by omega) ?_) | (refine MV.ite_et (by omega) ?_) | (refine MV.ite_ef (by omega) ?_)))
    · apply comp_el
      (repeat (first | (with_reducible apply un_el__law_bent_1 <;> first | omega | skip) | (with_reducible apply MV.seq_ok) | (with_reducible apply MV.then_nx) | (with_reducible apply MV.then_rt) | (with_reducible apply MV.ar_cons) | (with_reducible apply MV.ar_nil) | (with_reducible apply MV.ex_c) | (with_reducible apply MV.var_0) | (with_reducible apply MV.var_s) | (with_reducible apply MV.own_0) | (with_reducible apply MV.own_0d) | (with_reducible apply MV.own_s) | (with_reducible apply MV.ex_2) | (with_reducible apply MV.ex_call0) | (with_reducible apply MV.ex_fn) | (with_reducible apply MV.st_set) | (with_reducible apply MV.set_0) | (with_reducible apply MV.set_s) | (with_reducible apply MV.st_post) | (with_reducible apply MV.post_nx) | (with_reducible apply MV.post_rt) | (with_reducible apply MV.wipe_0) | (with_reducible apply MV.wipe_s) | (with_reducible apply MV.op_add') | (with_reducible apply MV.op_sub') | (with_reducible apply MV.dMul_ok; rotate_left) | (with_reducible apply MV.dDiv_ok; rotate_left) | (with_reducible apply MV.dMod_ok; rotate_left) | (with_reducible apply MV.op_ixL) | (with_reducible apply MV.op_ixT) | (with_reducible apply MV.at_0) | (with_reducible apply MV.fn_int) | (with_reducible apply MV.fn_abs) | (with_reducible apply MV.fn_len) | (with_reducible apply MV.fn_lenT) | (with_reducible apply MV.fn_tupL) | (with_reducible apply MV.fn_tupT) | (with_reducible apply MV.fn_lstL) | (with_reducible apply MV.fn_lstT) | (with_reducible apply MV.ex_tup) | (with_reducible apply MV.ex_lst) | (with_reducible apply MV.ex_l) | (with_reducible apply MV.len_0) | (with_reducible apply MV.len_s) | (with_reducible apply MV.st_ret) | (with_reducible apply MV.retO_0) | (with_reducible apply MV.retO_0d) | (with_reducible apply MV.retO_s) | (with_reducible apply MV.st_if) | (with_reducible apply MV.ite_tt) | (with_reducible apply MV.ite_ff) | (with_reducible apply MV.bo_as) | (with_reducible apply MV.bo_tru) | (with_reducible apply MV.bo_and) | (with_reducible apply MV.bo_or) | (with_reducible apply MV.bo_not) | (with_reducible apply MV.not_t) | (with_reducible apply MV.not_f) | (with_reducible apply MV.ex_and) | (with_reducible apply MV.ex_or) | (with_reducible apply MV.ex_not) | (with_reducible apply MV.ex_if) | (with_reducible apply MV.st_skip) | (with_reducible apply MV.st_drop) | (with_reducible apply MV.st_brk) | (with_reducible apply MV.st_cnt) | (with_reducible apply MV.st_setO) | (with_reducible apply MV.app_at) | (with_reducible apply MV.get_0) | (with_reducible apply MV.get_s) | (with_reducible apply MV.st_par) | (with_reducible apply MV.st_asg) | (with_reducible apply MV.tg_set) | (with_reducible apply MV.tg_tup) | (with_reducible apply MV.tg_cons) | (with_reducible apply MV.tg_nil) | (with_reducible apply MV.st_for) | (with_reducible apply MV.st_frz) | (with_reducible apply MV.put_at) | (with_reducible apply MV.src_seq) | (with_reducible apply MV.src_2) | (with_reducible apply MV.seq_l) | (with_reducible apply MV.seq_t) | (with_reducible apply MV.zip_ok) | (with_reducible apply MV.enum_ok) | (with_reducible apply MV.ex_1) | (with_reducible apply MV.ex_call) | (with_reducible apply MV.op_neg') | (with_reducible apply MV.op_lt') | (with_reducible apply MV.op_le') | (with_reducible apply MV.op_gt') | (with_reducible apply MV.op_ge') | (with_reducible apply MV.op_p18) | (with_reducible apply MV.op_p9) | (with_reducible apply MV.op_p30) | (with_reducible apply MV.op_eqI) | (with_reducible apply MV.op_neI) | (with_reducible apply MV.op_eqSS) | (with_reducible apply MV.op_neSS) | (with_reducible apply MV.op_eqS) | (with_reducible apply MV.op_neS) | (with_reducible apply MV.op_eqB) | (with_reducible apply MV.op_neB) | (with_reducible apply MV.fn_gcd) | (with_reducible apply MV.fn_intB) | (with_reducible apply MV.post_bk) | (with_reducible apply MV.post_ct) | (with_reducible apply MV.then_bk) | (with_reducible apply MV.then_ct) | (with_reducible apply MV.cut_ok) | (with_reducible apply MV.part_ok) | (with_reducible apply MV.part_no) | (with_reducible apply MV.then_ex) | (with_reducible apply MV.post_ex) | (with_reducible apply MV.st_raise) | (with_reducible apply MV.mk_err) | (with_reducible apply MV.err_int) | (with_reducible apply MV.err_non) | (with_reducible apply MV.st_ifX) | (with_reducible apply MV.ifX_ok) | (with_reducible apply MV.ifX_er) | (with_reducible apply MV.ex_2X) | (with_reducible apply MV.m2R_er) | (with_reducible apply MV.m2R_ok) | (with_reducible apply MV.ex_callX) | (with_reducible apply MV.st_try) | (with_reducible apply MV.try_nx) | (with_reducible apply MV.try_rt) | (with_reducible apply MV.try_ex) | (with_reducible apply MV.end_rt) | (with_reducible apply MV.end_nx) | (with_reducible apply MV.st_guard) | (with_reducible apply MV.fld_ok) | (with_reducible apply MV.isv_ok) | (with_reducible apply MV.some_rfl) | (refine MV.ite_t (by assumption) ?_) | (refine MV.ite_f (by assumption) ?_) | (exact (by assumption : _ = true)) | (refine MV.ite_dt (by omega) ?_) | (refine MV.ite_df (by omega) ?_) | (refine MV.ite_et (by omega) ?_) | (refine MV.ite_ef (by omega) ?_)))
      rfl
  obtain ⟨p, hp, ep⟩ := atL (xs := partsL) y2 (m := 10) rfl (by decide)
  have pk := parts_ok p hp
  unfold partsL at ep
  have gl := good_len n
  have gk := good_ok h4
  have cl : ∀ lo hi, (cutD (goodL n) lo hi).length ≤ 4 := fun lo hi => Nat.le_trans cut_len (by omega)
  have t1 := addT (a := cutD (goodL n) none (some pl)) (b := [p]) (by have := cl none (some pl); simp; omega)
  have t2 := addT (a := cutD (goodL n) none (some pl) ++ [p]) (b := cutD (goodL n) (some (pl + 1)) none) (by have := cl none (some pl); have := cl (some (pl + 1)) none; simp; omega)
  have t3 := addT (a := goodL n) (b := [.tuple [.int 1, .int 1]]) (by simp; omega)
  have bl : ∀ d ∈ cutD (goodL n) none (some pl) ++ [p] ++ cutD (goodL n) (some (pl + 1)) none, PartOk d := fun d hd => by
    rcases List.mem_append.mp hd with hd | hd
    · rcases List.mem_append.mp hd with hd | hd
      · exact gk d (cut_sub d hd)
      · rw [List.mem_singleton.mp hd]
        exact pk
    · exact gk d (cut_sub d hd)
  have bn : (cutD (goodL n) none (some pl) ++ [p] ++ cutD (goodL n) (some (pl + 1)) none).length ≤ 10 := by
    have b1 := cl none (some pl)
    have b2 := cl (some (pl + 1)) none
    simp only [List.length_append, List.length_singleton]
    omega
  generalize cutD (goodL n) none (some pl) ++ [p] ++ cutD (goodL n) (some (pl + 1)) none = bent at t2 bl bn
  obtain ⟨x, hx, ex⟩ := atL (xs := [.tuple bent, .tuple bent, .tuple bent, .tuple (goodL n ++ [.tuple [.int 1, .int 1]]), .tuple (cutD (goodL n) none (some (-1))), .list (goodL n), .none, .int 7, .str (Str.ofString "ab"), .tuple (goodL n)]) y3 (m := 10) rfl (by decide)
  have xk : ItemOk x := by
    simp only [List.mem_cons, List.not_mem_nil, or_false] at hx
    have i1 : ItemOk (.tuple bent) := item_tup bl bn
    rcases hx with rfl | rfl | rfl | rfl | rfl | rfl | rfl | rfl | rfl | rfl
    · exact i1
    · exact i1
    · exact i1
    · refine item_tup (fun d hd => ?_) (by simp; omega)
      rcases List.mem_append.mp hd with hd | hd
      · exact gk d hd
      · rw [List.mem_singleton.mp hd]
        exact part_int2 (by decide) (by decide)
    · exact item_tup (fun d hd => gk d (cut_sub d hd)) (by have := cl none (some (-1)); omega)
    · exact item_lst gk (by omega)
    · exact ⟨by decide +kernel, ⟨by decide +kernel, by decide +kernel, by decide +kernel, by decide +kernel⟩, by decide +kernel, by decide +kernel⟩
    · exact ⟨by decide +kernel, ⟨by decide +kernel, by decide +kernel, by decide +kernel, by decide +kernel⟩, by decide +kernel, by decide +kernel⟩
    · exact ⟨by decide +kernel, ⟨by decide +kernel, by decide +kernel, by decide +kernel, by decide +kernel⟩, by decide +kernel, by decide +kernel⟩
    · exact item_tup gk (by omega)
  have vl : ∀ lo hi, (cutD vs lo hi).length ≤ vs.length := fun lo hi => cut_len
  have t4 := addL (a := cutD vs none (some at0)) (b := [x]) (by have := vl none (some at0); simp; omega)
  have t5 := addL (a := cutD vs none (some at0) ++ [x]) (b := cutD vs (some (at0 + 1)) none) (by have := vl none (some at0); have := vl (some (at0 + 1)) none; simp; omega)
  refine ⟨cutD vs none (some at0) ++ [x] ++ cutD vs (some (at0 + 1)) none, ?_, fun v hm => ?_, ?_, by simp⟩
  · (apply run_ok; case hl => exact rfl); (unfold b__law_bent; simp only [List.map_cons, List.map_nil, List.replicate, List.cons_append, List.nil_append])
    (repeat (first | (with_reducible apply e <;> first | omega | skip) | (with_reducible apply a0 <;> first | omega | skip) | (with_reducible apply a1 <;> first | omega | skip) | (with_reducible apply a2 <;> first | omega | skip) | (with_reducible apply a3 <;> first | omega | skip) | (with_reducible apply m0 <;> first | omega | skip) | (with_reducible apply m1 <;> first | omega | skip) | (with_reducible apply cm <;> first | omega | skip) | (with_reducible apply ep <;> first | omega | skip) | (with_reducible apply cutT <;> first | omega | skip) | (with_reducible apply cutL <;> first | omega | skip) | (with_reducible apply t1 <;> first | omega | skip) | (with_reducible apply t2 <;> first | omega | skip) | (with_reducible apply t3 <;> first | omega | skip) | (with_reducible apply ex <;> first | omega | skip) | (with_reducible apply t4 <;> first | omega | skip) | (with_reducible apply t5 <;> first | omega | skip) | (with_reducible apply MV.seq_ok) | (with_reducible apply MV.then_nx) | (with_reducible apply MV.then_rt) | (with_reducible apply MV.ar_cons) | (with_reducible apply MV.ar_nil) | (with_reducible apply MV.ex_c) | (with_reducible apply MV.var_0) | (with_reducible apply MV.var_s) | (with_reducible apply MV.own_0) | (with_reducible apply MV.own_0d) | (with_reducible apply MV.own_s) | (with_reducible apply MV.ex_2) | (with_reducible apply MV.ex_call0) | (with_reducible apply MV.ex_fn) | (with_reducible apply MV.st_set) | (with_reducible apply MV.set_0) | (with_reducible apply MV.set_s) | (with_reducible apply MV.st_post) | (with_reducible apply MV.post_nx) | (with_reducible apply MV.post_rt) | (with_reducible apply MV.wipe_0) | (with_reducible apply MV.wipe_s) | (with_reducible apply MV.op_add') | (with_reducible apply MV.op_sub') | (with_reducible apply MV.dMul_ok; rotate_left) | (with_reducible apply MV.dDiv_ok; rotate_left) | (with_reducible apply MV.dMod_ok; rotate_left) | (with_reducible apply MV.op_ixL) | (with_reducible apply MV.op_ixT) | (with_reducible apply MV.at_0) | (with_reducible apply MV.fn_int) | (with_reducible apply MV.fn_abs) | (with_reducible apply MV.fn_len) | (with_reducible apply MV.fn_lenT) | (with_reducible apply MV.fn_tupL) | (with_reducible apply MV.fn_tupT) | (with_reducible apply MV.fn_lstL) | (with_reducible apply MV.fn_lstT) | (with_reducible apply MV.ex_tup) | (with_reducible apply MV.ex_lst) | (with_reducible apply MV.ex_l) | (with_reducible apply MV.len_0) | (with_reducible apply MV.len_s) | (with_reducible apply MV.st_ret) | (with_reducible apply MV.retO_0) | (with_reducible apply MV.retO_0d) | (with_reducible apply MV.retO_s) | (with_reducible apply MV.st_if) | (with_reducible apply MV.ite_tt) | (with_reducible apply MV.ite_ff) | (with_reducible apply MV.bo_as) | (with_reducible apply MV.bo_tru) | (with_reducible apply MV.bo_and) | (with_reducible apply MV.bo_or) | (with_reducible apply MV.bo_not) | (with_reducible apply MV.not_t) | (with_reducible apply MV.not_f) | (with_reducible apply MV.ex_and) | (with_reducible apply MV.ex_or) | (with_reducible apply MV.ex_not) | (with_reducible apply MV.ex_if) | (with_reducible apply MV.st_skip) | (with_reducible apply MV.st_drop) | (with_reducible apply MV.st_brk) | (with_reducible apply MV.st_cnt) | (with_reducible apply MV.st_setO) | (with_reducible apply MV.app_at) | (with_reducible apply MV.get_0) | (with_reducible apply MV.get_s) | (with_reducible apply MV.st_par) | (with_reducible apply MV.st_asg) | (with_reducible apply MV.tg_set) | (with_reducible apply MV.tg_tup) | (with_reducible apply MV.tg_cons) | (with_reducible apply MV.tg_nil) | (with_reducible apply MV.st_for) | (with_reducible apply MV.st_frz) | (with_reducible apply MV.put_at) | (with_reducible apply MV.src_seq) | (with_reducible apply MV.src_2) | (with_reducible apply MV.seq_l) | (with_reducible apply MV.seq_t) | (with_reducible apply MV.zip_ok) | (with_reducible apply MV.enum_ok) | (with_reducible apply MV.ex_1) | (with_reducible apply MV.ex_call) | (with_reducible apply MV.op_neg') | (with_reducible apply MV.op_lt') | (with_reducible apply MV.op_le') | (with_reducible apply MV.op_gt') | (with_reducible apply MV.op_ge') | (with_reducible apply MV.op_p18) | (with_reducible apply MV.op_p9) | (with_reducible apply MV.op_p30) | (with_reducible apply MV.op_eqI) | (with_reducible apply MV.op_neI) | (with_reducible apply MV.op_eqSS) | (with_reducible apply MV.op_neSS) | (with_reducible apply MV.op_eqS) | (with_reducible apply MV.op_neS) | (with_reducible apply MV.op_eqB) | (with_reducible apply MV.op_neB) | (with_reducible apply MV.fn_gcd) | (with_reducible apply MV.fn_intB) | (with_reducible apply MV.post_bk) | (with_reducible apply MV.post_ct) | (with_reducible apply MV.then_bk) | (with_reducible apply MV.then_ct) | (with_reducible apply MV.cut_ok) | (with_reducible apply MV.part_ok) | (with_reducible apply MV.part_no) | (with_reducible apply MV.then_ex) | (with_reducible apply MV.post_ex) | (with_reducible apply MV.st_raise) | (with_reducible apply MV.mk_err) | (with_reducible apply MV.err_int) | (with_reducible apply MV.err_non) | (with_reducible apply MV.st_ifX) | (with_reducible apply MV.ifX_ok) | (with_reducible apply MV.ifX_er) | (with_reducible apply MV.ex_2X) | (with_reducible apply MV.m2R_er) | (with_reducible apply MV.m2R_ok) | (with_reducible apply MV.ex_callX) | (with_reducible apply MV.st_try) | (with_reducible apply MV.try_nx) | (with_reducible apply MV.try_rt) | (with_reducible apply MV.try_ex) | (with_reducible apply MV.end_rt) | (with_reducible apply MV.end_nx) | (with_reducible apply MV.st_guard) | (with_reducible apply MV.fld_ok) | (with_reducible apply MV.isv_ok) | (with_reducible apply MV.some_rfl) | (refine MV.ite_t (by assumption) ?_) | (refine MV.ite_f (by assumption) ?_) | (exact (by assumption : _ = true)) | (refine MV.ite_dt (by omega) ?_) | (refine MV.ite_df (by omega) ?_) | (refine MV.ite_et (by omega) ?_) | (refine MV.ite_ef (by omega) ?_)))
    all_goals first | rfl | decide
  · rcases List.mem_append.mp hm with hm | hm
    · rcases List.mem_append.mp hm with hm | hm
      · exact h v (cut_sub v hm)
      · rw [List.mem_singleton.mp hm]
        exact xk
    · exact h v (cut_sub v hm)
  · have := vl none (some at0)
    have := vl (some (at0 + 1)) none
    simp only [List.length_append, List.length_singleton]
    omega

def ptL (cell : Int) (n : Nat) : List Rat := (List.range n).map fun (k : Nat) => fracL (cell + 11 * (k : Int)) (k : Int)
theorem ptL_sm {cell : Int} {n : Nat} : ∀ q ∈ ptL cell n, Sm 31 q := fun q h => by
  obtain ⟨k, _, e⟩ := List.mem_map.mp h
  rw [← e]
  exact frac_sm _ _
theorem ptL_len (cell : Int) (n : Nat) : (ptL cell n).length = n := by unfold ptL; rw [List.length_map, List.length_range]
theorem point_at (cell : Int) (n : Nat) (hn : n < 1000) : m__law_point [.int cell, .int (n : Int)] = some (ptD (ptL cell n)) := by
  have cm : ∀ x, mLc (mL2 rng1 (mCons (mVar 1) mNil)) (gSet 2) mYes el__law_point_1 [2] [.dat (.int cell), .dat (.int (n : Int)), x] = some ((ptL cell n).map ratD) := fun x => by
    unfold ptL
    rw [List.map_map]
    refine comp_at (fun (k : Nat) => PyData.int (k : Int)) _ (List.range n) ?_ (by rw [List.length_range]; omega) fun k hm => ?_
    · (repeat (first | (with_reducible apply rng_nat <;> first | omega | skip) | (with_reducible apply MV.seq_ok) | (with_reducible apply MV.then_nx) | (with_reducible apply MV.then_rt) | (with_reducible apply MV.ar_cons) | (with_reducible apply MV.ar_nil) | (with_reducible apply MV.ex_c) | (with_reducible apply MV.var_0) | (with_reducible apply MV.var_s) | (with_reducible apply MV.own_0) | (with_reducible apply MV.own_0d) | (with_reducible apply MV.own_s) | (with_reducible apply MV.ex_2) | (with_reducible apply MV.ex_call0) | (with_reducible apply MV.ex_fn) | (with_reducible apply MV.st_set) | (with_reducible apply MV.set_0) | (with_reducible apply MV.set_s) | (with_reducible apply MV.st_post) | (with_reducible apply MV.post_nx) | (with_reducible apply MV.post_rt) | (with_reducible apply MV.wipe_0) | (with_reducible apply MV.wipe_s) | (with_reducible apply MV.op_add') | (with_reducible apply MV.op_sub') | (with_reducible apply MV.dMul_ok; rotate_left) | (with_reducible apply MV.dDiv_ok; rotate_left) | (with_reducible apply MV.dMod_ok; rotate_left) | (with_reducible apply MV.op_ixL) | (with_reducible apply MV.op_ixT) | (with_reducible apply MV.at_0) | (with_reducible apply MV.fn_int) | (with_reducible apply MV.fn_abs) | (with_reducible apply MV.fn_len) | (with_reducible apply MV.fn_lenT) | (with_reducible apply MV.fn_tupL) | (with_reducible apply MV.fn_tupT) | (with_reducible apply MV.fn_lstL) | (with_reducible apply MV.fn_lstT) | (with_reducible apply MV.ex_tup) | (with_reducible apply MV.ex_lst) | (with_reducible apply MV.ex_l) | (with_reducible apply MV.len_0) | (with_reducible apply MV.len_s) | (with_reducible apply MV.st_ret) | (with_reducible apply MV.retO_0) | (with_reducible apply MV.retO_0d) | (with_reducible apply MV.retO_s) | (with_reducible apply MV.st_if) | (with_reducible apply MV.ite_tt) | (with_reducible apply MV.ite_ff) | (with_reducible apply MV.bo_as) | (with_reducible apply MV.bo_tru) | (with_reducible apply MV.bo_and) | (with_reducible apply MV.bo_or) | (with_reducible apply MV.bo_not) | (with_reducible apply MV.not_t) | (with_reducible apply MV.not_f) | (with_reducible apply MV.ex_and) | (with_reducible apply MV.ex_or) | (with_reducible apply MV.ex_not) | (with_reducible apply MV.ex_if) | (with_reducible apply MV.st_skip) | (with_reducible apply MV.st_drop) | (with_reducible apply MV.st_brk) | (with_reducible apply MV.st_cnt) | (with_reducible apply MV.st_setO) | (with_reducible apply MV.app_at) | (with_reducible apply MV.get_0) | (with_reducible apply MV.get_s) | (with_reducible apply MV.st_par) | (with_reducible apply MV.st_asg) | (with_reducible apply MV.tg_set) | (with_reducible apply MV.tg_tup) | (with_reducible apply MV.tg_cons) | (with_reducible apply MV.tg_nil) | (with_reducible apply MV.st_for) | (with_reducible apply MV.st_frz) | (with_reducible apply MV.put_at) | (with_reducible apply MV.src_seq) | (with_reducible apply MV.src_2) | (with_reducible apply MV.seq_l) | (with_reducible apply MV.seq_t) | (with_reducible apply MV.zip_ok) | (with_reducible apply MV.enum_ok) | (with_reducible apply MV.ex_1) | (with_reducible apply MV.ex_call) | (with_reducible apply MV.op_neg') | (with_reducible apply MV.op_lt') | (with_reducible apply MV.op_le') | (with_reducible apply MV.op_gt') | (with_reducible apply MV.op_ge') | (with_reducible apply MV.op_p18) | (with_reducible apply MV.op_p9) | (with_reducible apply MV.op_p30) | (with_reducible apply MV.op_eqI) | (with_reducible apply MV.op_neI) | (with_reducible apply MV.op_eqSS) | (with_reducible apply MV.op_neSS) | (with_reducible apply MV.op_eqS) | (with_reducible apply MV.op_neS) | (with_reducible apply MV.op_eqB) | (with_reducible apply MV.op_neB) | (with_reducible apply MV.fn_gcd) | (with_reducible apply MV.fn_intB) | (with_reducible apply MV.post_bk) | (with_reducible apply MV.post_ct) | (with_reducible apply MV.then_bk) | (with_reducible apply MV.then_ct) | (with_reducible apply MV.cut_ok) | (with_reducible apply MV.part_ok) | (with_reducible apply MV.part_no) | (with_reducible apply MV.then_ex) | (with_reducible apply MV.post_ex) | (with_reducible apply MV.st_raise) | (with_reducible apply MV.mk_err) | (with_reducible apply MV.err_int) | (with_reducible apply MV.err_non) | (with_reducible apply MV.st_ifX) | (with_reducible apply MV.ifX_ok) | (with_reducible apply MV.ifX_er) | (with_reducible apply MV.ex_2X) | (with_reducible apply MV.m2R_er) | (with_reducible apply MV.m2R_ok) | (with_reducible apply MV.ex_callX) | (with_reducible apply MV.st_try) | (with_reducible apply MV.try_nx) | (with_reducible apply MV.try_rt) | (with_reducible apply MV.try_ex) | (with_reducible apply MV.end_rt) | (with_reducible apply MV.end_nx) | (with_reducible apply MV.st_guard) | (with_reducible apply MV.fld_ok) | (with_reducible apply MV.isv_ok) | (with_reducible apply MV.some_rfl) | (refine MV.ite_t (by assumption) ?_) | (refine MV.ite_f (by assumption) ?_) | (exact (by assumption : _ = true)) | (refine MV.ite_dt (by omega) ?_) | (refine MV.ite_df (by omega) ?_) | (refine MV.ite_et (by omega) ?_) | (refine MV.ite_ef (by omega) ?_)))
    · apply comp_el
      (repeat (first | (with_reducible apply un_el__law_point_1 <;> first | omega | skip) | (with_reducible apply fraction_at <;> first | omega | skip) | (with_reducible apply MV.seq_ok) | (with_reducible apply MV.then_nx) | (with_reducible apply MV.then_rt) | (with_reducible apply MV.ar_cons) | (with_reducible apply MV.ar_nil) | (with_reducible apply MV.ex_c) | (with_reducible apply MV.var_0) | (with_reducible apply MV.var_s) | (with_reducible apply MV.own_0) | (with_reducible apply MV.own_0d) | (with_reducible apply MV.own_s) | (with_reducible apply MV.ex_2) | (with_reducible apply MV.ex_call0) | (with_reducible apply MV.ex_fn) | (with_reducible apply MV.st_set) | (with_reducible apply MV.set_0) | (with_reducible apply MV.set_s) | (with_reducible apply MV.st_post) | (with_reducible apply MV.post_nx) | (with_reducible apply MV.post_rt) | (with_reducible apply MV.wipe_0) | (with_reducible apply MV.wipe_s) | (with_reducible apply MV.op_add') | (with_reducible apply MV.op_sub') | (with_reducible apply MV.dMul_ok; rotate_left) | (with_reducible apply MV.dDiv_ok; rotate_left) | (with_reducible apply MV.dMod_ok; rotate_left) | (with_reducible apply MV.op_ixL) | (with_reducible apply MV.op_ixT) | (with_reducible apply MV.at_0) | (with_reducible apply MV.fn_int) | (with_reducible apply MV.fn_abs) | (with_reducible apply MV.fn_len) | (with_reducible apply MV.fn_lenT) | (with_reducible apply MV.fn_tupL) | (with_reducible apply MV.fn_tupT) | (with_reducible apply MV.fn_lstL) | (with_reducible apply MV.fn_lstT) | (with_reducible apply MV.ex_tup) | (with_reducible apply MV.ex_lst) | (with_reducible apply MV.ex_l) | (with_reducible apply MV.len_0) | (with_reducible apply MV.len_s) | (with_reducible apply MV.st_ret) | (with_reducible apply MV.retO_0) | (with_reducible apply MV.retO_0d) | (with_reducible apply MV.retO_s) | (with_reducible apply MV.st_if) | (with_reducible apply MV.ite_tt) | (with_reducible apply MV.ite_ff) | (with_reducible apply MV.bo_as) | (with_reducible apply MV.bo_tru) | (with_reducible apply MV.bo_and) | (with_reducible apply MV.bo_or) | (with_reducible apply MV.bo_not) | (with_reducible apply MV.not_t) | (with_reducible apply MV.not_f) | (with_reducible apply MV.ex_and) | (with_reducible apply MV.ex_or) | (with_reducible apply MV.ex_not) | (with_reducible apply MV.ex_if) | (with_reducible apply MV.st_skip) | (with_reducible apply MV.st_drop) | (with_reducible apply MV.st_brk) | (with_reducible apply MV.st_cnt) | (with_reducible apply MV.st_setO) | (with_reducible apply MV.app_at) | (with_reducible apply MV.get_0) | (with_reducible apply MV.get_s) | (with_reducible apply MV.st_par) | (with_reducible apply MV.st_asg) | (with_reducible apply MV.tg_set) | (with_reducible apply MV.tg_tup) | (with_reducible apply MV.tg_cons) | (with_reducible apply MV.tg_nil) | (with_reducible apply MV.st_for) | (with_reducible apply MV.st_frz) | (with_reducible apply MV.put_at) | (with_reducible apply MV.src_seq) | (with_reducible apply MV.src_2) | (with_reducible apply MV.seq_l) | (with_reducible apply MV.seq_t) | (with_reducible apply MV.zip_ok) | (with_reducible apply MV.enum_ok) | (with_reducible apply MV.ex_1) | (with_reducible apply MV.ex_call) | (with_reducible apply MV.op_neg') | (with_reducible apply MV.op_lt') | (with_reducible apply MV.op_le') | (with_reducible apply MV.op_gt') | (with_reducible apply MV.op_ge') | (with_reducible apply MV.op_p18) | (with_reducible apply MV.op_p9) | (with_reducible apply MV.op_p30) | (with_reducible apply MV.op_eqI) | (with_reducible apply MV.op_neI) | (with_reducible apply MV.op_eqSS) | (with_reducible apply MV.op_neSS) | (with_reducible apply MV.op_eqS) | (with_reducible apply MV.op_neS) | (with_reducible apply MV.op_eqB) | (with_reducible apply MV.op_neB) | (with_reducible apply MV.fn_gcd) | (with_reducible apply MV.fn_intB) | (with_reducible apply MV.post_bk) | (with_reducible apply MV.post_ct) | (with_reducible apply MV.then_bk) | (with_reducible apply MV.then_ct) | (with_reducible apply MV.cut_ok) | (with_reducible apply MV.part_ok) | (with_reducible apply MV.part_no) | (with_reducible apply MV.then_ex) | (with_reducible apply MV.post_ex) | (with_reducible apply MV.st_raise) | (with_reducible apply MV.mk_err) | (with_reducible apply MV.err_int) | (with_reducible apply MV.err_non) | (with_reducible apply MV.st_ifX) | (with_reducible apply MV.ifX_ok) | (with_reducible apply MV.ifX_er) | (with_reducible apply MV.ex_2X) | (with_reducible apply MV.m2R_er) | (with_reducible apply MV.m2R_ok) | (with_reducible apply MV.ex_callX) | (with_reducible apply MV.st_try) | (with_reducible apply MV.try_nx) | (with_reducible apply MV.try_rt) | (with_reducible apply MV.try_ex) | (with_reducible apply MV.end_rt) | (with_reducible apply MV.end_nx) | (with_reducible apply MV.st_guard) | (with_reducible apply MV.fld_ok) | (with_reducible apply MV.isv_ok) | (with_reducible apply MV.some_rfl) | (refine MV.ite_t (by assumption) ?_) | (refine MV.ite_f (by assumption) ?_) | (exact (by assumption : _ = true)) | (refine MV.ite_dt (by omega) ?_) | (refine MV.ite_df (by omega) ?_) | (refine MV.ite_et (by omega) ?_) | (refine MV.ite_ef (by omega) ?_)))
      · rfl
      · exact mulOk_l (by decide)
  (apply run_ok; case hl => exact rfl); (unfold b__law_point; simp only [List.map_cons, List.map_nil, List.replicate, List.cons_append, List.nil_append])
  (repeat (first | (with_reducible apply cm <;> first | omega | skip) | (with_reducible apply MV.seq_ok) | (with_reducible apply MV.then_nx) | (with_reducible apply MV.then_rt) | (with_reducible apply MV.ar_cons) | (with_reducible apply MV.ar_nil) | (with_reducible apply MV.ex_c) | (with_reducible apply MV.var_0) | (with_reducible apply MV.var_s) | (with_reducible apply MV.own_0) | (with_reducible apply MV.own_0d) | (with_reducible apply MV.own_s) | (with_reducible apply MV.ex_2) | (with_reducible apply MV.ex_call0) | (with_reducible apply MV.ex_fn) | (with_reducible apply MV.st_set) | (with_reducible apply MV.set_0) | (with_reducible apply MV.set_s) | (with_reducible apply MV.st_post) | (with_reducible apply MV.post_nx) | (with_reducible apply MV.post_rt) | (with_reducible apply MV.wipe_0) | (with_reducible apply MV.wipe_s) | (with_reducible apply MV.op_add') | (with_reducible apply MV.op_sub') | (with_reducible apply MV.dMul_ok; rotate_left) | (with_reducible apply MV.dDiv_ok; rotate_left) | (with_reducible apply MV.dMod_ok; rotate_left) | (with_reducible apply MV.op_ixL) | (with_reducible apply MV.op_ixT) | (with_reducible apply MV.at_0) | (with_reducible apply MV.fn_int) | (with_reducible apply MV.fn_abs) | (with_reducible apply MV.fn_len) | (with_reducible apply MV.fn_lenT) | (with_reducible apply MV.fn_tupL) | (with_reducible apply MV.fn_tupT) | (with_reducible apply MV.fn_lstL) | (with_reducible apply MV.fn_lstT) | (with_reducible apply MV.ex_tup) | (with_reducible apply MV.ex_lst) | (with_reducible apply MV.ex_l) | (with_reducible apply MV.len_0) | (with_reducible apply MV.len_s) | (with_reducible apply MV.st_ret) | (with_reducible apply MV.retO_0) | (with_reducible apply MV.retO_0d) | (with_reducible apply MV.retO_s) | (with_reducible apply MV.st_if) | (with_reducible apply MV.ite_tt) | (with_reducible apply MV.ite_ff) | (with_reducible apply MV.bo_as) | (with_reducible apply MV.bo_tru) | (with_reducible apply MV.bo_and) | (with_reducible apply MV.bo_or) | (with_reducible apply MV.bo_not) | (with_reducible apply MV.not_t) | (with_reducible apply MV.not_f) | (with_reducible apply MV.ex_and) | (with_reducible apply MV.ex_or) | (with_reducible apply MV.ex_not) | (with_reducible apply MV.ex_if) | (with_reducible apply MV.st_skip) | (with_reducible apply MV.st_drop) | (with_reducible apply MV.st_brk) | (with_reducible apply MV.st_cnt) | (with_reducible apply MV.st_setO) | (with_reducible apply MV.app_at) | (with_reducible apply MV.get_0) | (with_reducible apply MV.get_s) | (with_reducible apply MV.st_par) | (with_reducible apply MV.st_asg) | (with_reducible apply MV.tg_set) | (with_reducible apply MV.tg_tup) | (with_reducible apply MV.tg_cons) | (with_reducible apply MV.tg_nil) | (with_reducible apply MV.st_for) | (with_reducible apply MV.st_frz) | (with_reducible apply MV.put_at) | (with_reducible apply MV.src_seq) | (with_reducible apply MV.src_2) | (with_reducible apply MV.seq_l) | (with_reducible apply MV.seq_t) | (with_reducible apply MV.zip_ok) | (with_reducible apply MV.enum_ok) | (with_reducible apply MV.ex_1) | (with_reducible apply MV.ex_call) | (with_reducible apply MV.op_neg') | (with_reducible apply MV.op_lt') | (with_reducible apply MV.op_le') | (with_reducible apply MV.op_gt') | (with_reducible apply MV.op_ge') | (with_reducible apply MV.op_p18) | (with_reducible apply MV.op_p9) | (with_reducible apply MV.op_p30) | (with_reducible apply MV.op_eqI) | (with_reducible apply MV.op_neI) | (with_reducible apply MV.op_eqSS) | (with_reducible apply MV.op_neSS) | (with_reducible apply MV.op_eqS) | (with_reducible apply MV.op_neS) | (with_reducible apply MV.op_eqB) | (with_reducible apply MV.op_neB) | (with_reducible apply MV.fn_gcd) | (with_reducible apply MV.fn_intB) | (with_reducible apply MV.post_bk) | (with_reducible apply MV.post_ct) | (with_reducible apply MV.then_bk) | (with_reducible apply MV.then_ct) | (with_reducible apply MV.cut_ok) | (with_reducible apply MV.part_ok) | (with_reducible apply MV.part_no) | (with_reducible apply MV.then_ex) | (with_reducible apply MV.post_ex) | (with_reducible apply MV.st_raise) | (with_reducible apply MV.mk_err) | (with_reducible apply MV.err_int) | (with_reducible apply MV.err_non) | (with_reducible apply MV.st_ifX) | (with_reducible apply MV.ifX_ok) | (with_reducible apply MV.ifX_er) | (with_reducible apply MV.ex_2X) | (with_reducible apply MV.m2R_er) | (with_reducible apply MV.m2R_ok) | (with_reducible apply MV.ex_callX) | (with_reducible apply MV.st_try) | (with_reducible apply MV.try_nx) | (with_reducible apply MV.try_rt) | (with_reducible apply MV.try_ex) | (with_reducible apply MV.end_rt) | (with_reducible apply MV.end_nx) | (with_reducible apply MV.st_guard) | (with_reducible apply MV.fld_ok) | (with_reducible apply MV.isv_ok) | (with_reducible apply MV.some_rfl) | (refine MV.ite_t (by assumption) ?_) | (refine MV.ite_f (by assumption) ?_) | (exact (by assumption : _ = true)) | (refine MV.ite_dt (by omega) ?_) | (refine MV.ite_df (by omega) ?_) | (refine MV.ite_et (by omega) ?_) | (refine MV.ite_ef (by omega) ?_)))
  rfl

theorem depth_ints : ∀ ns : List Int, PyData.depthAll (ns.map PyData.int) = 0
  | [] => rfl
  | n :: ns => by
    have i := depth_ints ns
    rw [List.map_cons, PyData.depthAll, i]
    rfl
theorem bulk_ints : ∀ ns : List Int, PyData.bulkAll (ns.map PyData.int) = ns.length
  | [] => rfl
  | n :: ns => by
    have i := bulk_ints ns
    have e : (PyData.int n).bulk = 0 := rfl
    rw [List.map_cons, PyData.bulkAll, i, List.length_cons, e]
    omega
theorem ok_ints {B : Nat} {ns : List Int} (h : ∀ n ∈ ns, n.natAbs < 2 ^ B) (e : B ≤ 1900) : ∀ d ∈ ns.map PyData.int, okD d := fun d hd => by
  obtain ⟨n, hn, e2⟩ := List.mem_map.mp hd
  rw [← e2]
  exact okD_int (lt_pow (h n hn) e)
theorem depth_map {α : Type} (f : α → D) (n : Nat) (h : ∀ a, (f a).depth ≤ n) : ∀ xs : List α, PyData.depthAll (xs.map f) ≤ n := fun xs => depth_le fun d hd => by
  obtain ⟨a, _, e⟩ := List.mem_map.mp hd
  rw [← e]
  exact h a
theorem zipWith_range {α β γ : Type} (f : α → β → γ) (a0 : α) (b0 : β) : ∀ (as : List α) (bs : List β) (n : Nat), as.length = n → bs.length = n → List.zipWith f as bs = (List.range n).map fun k => f (as.getD k a0) (bs.getD k b0) := fun as bs n ha hb => by
  refine List.ext_getElem (by rw [List.length_zipWith, List.length_map, List.length_range, ha, hb, Nat.min_self]) fun i h1 h2 => ?_
  rw [List.length_zipWith, ha, hb, Nat.min_self] at h1
  rw [List.getElem_zipWith, List.getElem_map, List.getElem_range]
  simp only [List.getD_eq_getElem?_getD]
  rw [List.getElem?_eq_getElem (by omega), List.getElem?_eq_getElem (by omega)]
  rfl
theorem getD_at {α : Type} (f : α → D) (xs : List α) (x0 : α) {k : Nat} (h : k < xs.length) : atI (xs.map f) (k : Int) = some (f (xs.getD k x0)) := by
  refine at_map ?_
  rw [List.getD_eq_getElem?_getD, List.getElem?_eq_getElem h]
  rfl
theorem getD_in {α : Type} {l : List α} {k : Nat} {x0 : α} (h : k < l.length) : l.getD k x0 ∈ l := by
  rw [List.getD_eq_getElem?_getD, List.getElem?_eq_getElem h]
  exact List.getElem_mem h
theorem getD_last {α : Type} (f : α → D) (xs : List α) (x0 : α) (h : xs ≠ []) : atI (xs.map f) (-1) = some (f (xs.getD (xs.length - 1) x0)) := by
  have hl := List.length_pos_iff.mpr h
  unfold atI ixN
  rw [if_neg (by decide), if_pos (by rw [List.length_map]; omega)]
  rw [List.length_map]
  show (xs.map f)[((xs.length : Int) + -1).toNat]? = _
  rw [show ((xs.length : Int) + -1).toNat = xs.length - 1 by omega]
  rw [List.getElem?_map, List.getElem?_eq_getElem (by omega), List.getD_eq_getElem?_getD, List.getElem?_eq_getElem (by omega)]
  rfl

theorem find_same {α : Type} {p q : α → Bool} : ∀ {l : List α}, (∀ x ∈ l, p x = q x) → l.find? p = l.find? q
  | [], _ => rfl
  | x :: l, h => by
    rw [List.find?_cons, List.find?_cons, h x List.mem_cons_self, find_same fun y hy => h y (List.mem_cons_of_mem _ hy)]
theorem idx_go (p : D → Bool) : ∀ (ws : List D) (s : Nat), (List.range' s ws.length).find? (fun k => p (ws.getD (k - s) .none)) = (ws.findIdx? p).map (· + s)
  | [], _ => rfl
  | w :: ws, s => by
    have ih := idx_go p ws (s + 1)
    have same : (List.range' (s + 1) ws.length).find? (fun k => p ((w :: ws).getD (k - s) .none)) = (List.range' (s + 1) ws.length).find? (fun k => p (ws.getD (k - (s + 1)) .none)) := by
      refine find_same fun k hk => ?_
      have := (List.mem_range'_1.mp hk).1
      rw [show k - s = (k - (s + 1)) + 1 by omega, List.getD_cons_succ]
    rw [List.length_cons, List.range'_succ, List.find?_cons, List.findIdx?_cons, Nat.sub_self, List.getD_cons_zero]
    cases hp : p w with
    | true => simp
    | false =>
      rw [same, ih]
      cases ws.findIdx? p with
      | none => rfl
      | some i => simp; omega
theorem idx_first (p : D → Bool) (ws : List D) : ((List.range ws.length).filter fun k => p (ws.getD k .none)).head? = ws.findIdx? p := by
  rw [List.head?_filter, List.range_eq_range']
  have h := idx_go p ws 0
  simp only [Nat.sub_zero] at h
  rw [h]
  cases ws.findIdx? p <;> rfl
theorem turn1 (ns : List Int) (vs : List D) (n k : Nat) (h1 : 1 ≤ n) (h4 : n ≤ 4) (hl : vs.length ≤ 20) (h : ∀ v ∈ vs, ItemOk v) :
    ∃ ws, (∀ c4 c5 c6 c7 c8 c9 c10, lp_law_1 [.dat (.list (ns.map PyData.int)), .dat (.int (n : Int)), .dat (.list vs), .dat (.int (k : Int)), c4, c5, c6, c7, c8, c9, c10] = some (.nx [.dat (.list (ns.map PyData.int)), .dat (.int (n : Int)), .dat (.list ws), .un, c4, c5, c6, c7, c8, c9, c10])) ∧
      (∀ v ∈ ws, ItemOk v) ∧ ws.length ≤ 2 * vs.length + 1 := by
  by_cases hv : vs = []
  · subst hv
    have g0 : dGt (.int (([] : List D).length : Int)) (.int 0) = some (.bool false) := rfl
    refine ⟨[], fun c4 c5 c6 c7 c8 c9 c10 => ?_, h, by simp⟩
    unfold lp_law_1
    (repeat (first | (with_reducible apply g0 <;> first | omega | skip) | (with_reducible apply MV.seq_ok) | (with_reducible apply MV.then_nx) | (with_reducible apply MV.then_rt) | (with_reducible apply MV.ar_cons) | (with_reducible apply MV.ar_nil) | (with_reducible apply MV.ex_c) | (with_reducible apply MV.var_0) | (with_reducible apply MV.var_s) | (with_reducible apply MV.own_0) | (with_reducible apply MV.own_0d) | (with_reducible apply MV.own_s) | (with_reducible apply MV.ex_2) | (with_reducible apply MV.ex_call0) | (with_reducible apply MV.ex_fn) | (with_reducible apply MV.st_set) | (with_reducible apply MV.set_0) | (with_reducible apply MV.set_s) | (with_reducible apply MV.st_post) | (with_reducible apply MV.post_nx) | (with_reducible apply MV.post_rt) | (with_reducible apply MV.wipe_0) | (with_reducible apply MV.wipe_s) | (with_reducible apply MV.op_add') | (with_reducible apply MV.op_sub') | (with_reducible apply MV.dMul_ok; rotate_left) | (with_reducible apply MV.dDiv_ok; rotate_left) | (with_reducible apply MV.dMod_ok; rotate_left) | (with_reducible apply MV.op_ixL) | (with_reducible apply MV.op_ixT) | (with_reducible apply MV.at_0) | (with_reducible apply MV.fn_int) | (with_reducible apply MV.fn_abs) | (with_reducible apply MV.fn_len) | (with_reducible apply MV.fn_lenT) | (with_reducible apply MV.fn_tupL) | (with_reducible apply MV.fn_tupT) | (with_reducible apply MV.fn_lstL) | (with_reducible apply MV.fn_lstT) | (with_reducible apply MV.ex_tup) | (with_reducible apply MV.ex_lst) | (with_reducible apply MV.ex_l) | (with_reducible apply MV.len_0) | (with_reducible apply MV.len_s) | (with_reducible apply MV.st_ret) | (with_reducible apply MV.retO_0) | (with_reducible apply MV.retO_0d) | (with_reducible apply MV.retO_s) | (with_reducible apply MV.st_if) | (with_reducible apply MV.ite_tt) | (with_reducible apply MV.ite_ff) | (with_reducible apply MV.bo_as) | (with_reducible apply MV.bo_tru) | (with_reducible apply MV.bo_and) | (with_reducible apply MV.bo_or) | (with_reducible apply MV.bo_not) | (with_reducible apply MV.not_t) | (with_reducible apply MV.not_f) | (with_reducible apply MV.ex_and) | (with_reducible apply MV.ex_or) | (with_reducible apply MV.ex_not) | (with_reducible apply MV.ex_if) | (with_reducible apply MV.st_skip) | (with_reducible apply MV.st_drop) | (with_reducible apply MV.st_brk) | (with_reducible apply MV.st_cnt) | (with_reducible apply MV.st_setO) | (with_reducible apply MV.app_at) | (with_reducible apply MV.get_0) | (with_reducible apply MV.get_s) | (with_reducible apply MV.st_par) | (with_reducible apply MV.st_asg) | (with_reducible apply MV.tg_set) | (with_reducible apply MV.tg_tup) | (with_reducible apply MV.tg_cons) | (with_reducible apply MV.tg_nil) | (with_reducible apply MV.st_for) | (with_reducible apply MV.st_frz) | (with_reducible apply MV.put_at) | (with_reducible apply MV.src_seq) | (with_reducible apply MV.src_2) | (with_reducible apply MV.seq_l) | (with_reducible apply MV.seq_t) | (with_reducible apply MV.zip_ok) | (with_reducible apply MV.enum_ok) | (with_reducible apply MV.ex_1) | (with_reducible apply MV.ex_call) | (with_reducible apply MV.op_neg') | (with_reducible apply MV.op_lt') | (with_reducible apply MV.op_le') | (with_reducible apply MV.op_gt') | (with_reducible apply MV.op_ge') | (with_reducible apply MV.op_p18) | (with_reducible apply MV.op_p9) | (with_reducible apply MV.op_p30) | (with_reducible apply MV.op_eqI) | (with_reducible apply MV.op_neI) | (with_reducible apply MV.op_eqSS) | (with_reducible apply MV.op_neSS) | (with_reducible apply MV.op_eqS) | (with_reducible apply MV.op_neS) | (with_reducible apply MV.op_eqB) | (with_reducible apply MV.op_neB) | (with_reducible apply MV.fn_gcd) | (with_reducible apply MV.fn_intB) | (with_reducible apply MV.post_bk) | (with_reducible apply MV.post_ct) | (with_reducible apply MV.then_bk) | (with_reducible apply MV.then_ct) | (with_reducible apply MV.cut_ok) | (with_reducible apply MV.part_ok) | (with_reducible apply MV.part_no) | (with_reducible apply MV.then_ex) | (with_reducible apply MV.post_ex) | (with_reducible apply MV.st_raise) | (with_reducible apply MV.mk_err) | (with_reducible apply MV.err_int) | (with_reducible apply MV.err_non) | (with_reducible apply MV.st_ifX) | (with_reducible apply MV.ifX_ok) | (with_reducible apply MV.ifX_er) | (with_reducible apply MV.ex_2X) | (with_reducible apply MV.m2R_er) | (with_reducible apply MV.m2R_ok) | (with_reducible apply MV.ex_callX) | (with_reducible apply MV.st_try) | (with_reducible apply MV.try_nx) | (with_reducible apply MV.try_rt) | (with_reducible apply MV.try_ex) | (with_reducible apply MV.end_rt) | (with_reducible apply MV.end_nx) | (with_reducible apply MV.st_guard) | (with_reducible apply MV.fld_ok) | (with_reducible apply MV.isv_ok) | (with_reducible apply MV.some_rfl) | (refine MV.ite_t (by assumption) ?_) | (refine MV.ite_f (by assumption) ?_) | (exact (by assumption : _ = true)) | (refine MV.ite_dt (by omega) ?_) | (refine MV.ite_df (by omega) ?_) | (refine MV.ite_et (by omega) ?_) | (refine MV.ite_ef (by omega) ?_)))
  · obtain ⟨ws, e, k1, k2, _⟩ := bent_at (cellz ns (9 + (k : Int))) vs n h1 h4 hv hl h
    have pos : 0 < vs.length := List.length_pos_iff.mpr hv
    refine ⟨ws, fun c4 c5 c6 c7 c8 c9 c10 => ?_, k1, k2⟩
    unfold lp_law_1
    (repeat (first | (with_reducible apply cell_z <;> first | omega | skip) | (with_reducible apply e <;> first | omega | skip) | (with_reducible apply MV.seq_ok) | (with_reducible apply MV.then_nx) | (with_reducible apply MV.then_rt) | (with_reducible apply MV.ar_cons) | (with_reducible apply MV.ar_nil) | (with_reducible apply MV.ex_c) | (with_reducible apply MV.var_0) | (with_reducible apply MV.var_s) | (with_reducible apply MV.own_0) | (with_reducible apply MV.own_0d) | (with_reducible apply MV.own_s) | (with_reducible apply MV.ex_2) | (with_reducible apply MV.ex_call0) | (with_reducible apply MV.ex_fn) | (with_reducible apply MV.st_set) | (with_reducible apply MV.set_0) | (with_reducible apply MV.set_s) | (with_reducible apply MV.st_post) | (with_reducible apply MV.post_nx) | (with_reducible apply MV.post_rt) | (with_reducible apply MV.wipe_0) | (with_reducible apply MV.wipe_s) | (with_reducible apply MV.op_add') | (with_reducible apply MV.op_sub') | (with_reducible apply MV.dMul_ok; rotate_left) | (with_reducible apply MV.dDiv_ok; rotate_left) | (with_reducible apply MV.dMod_ok; rotate_left) | (with_reducible apply MV.op_ixL) | (with_reducible apply MV.op_ixT) | (with_reducible apply MV.at_0) | (with_reducible apply MV.fn_int) | (with_reducible apply MV.fn_abs) | (with_reducible apply MV.fn_len) | (with_reducible apply MV.fn_lenT) | (with_reducible apply MV.fn_tupL) | (with_reducible apply MV.fn_tupT) | (with_reducible apply MV.fn_lstL) | (with_reducible apply MV.fn_lstT) | (with_reducible apply MV.ex_tup) | (with_reducible apply MV.ex_lst) | (with_reducible apply MV.ex_l) | (with_reducible apply MV.len_0) | (with_reducible apply MV.len_s) | (with_reducible apply MV.st_ret) | (with_reducible apply MV.retO_0) | (with_reducible apply MV.retO_0d) | (with_reducible apply MV.retO_s) | (with_reducible apply MV.st_if) | (with_reducible apply MV.ite_tt) | (with_reducible apply MV.ite_ff) | (with_reducible apply MV.bo_as) | (with_reducible apply MV.bo_tru) | (with_reducible apply MV.bo_and) | (with_reducible apply MV.bo_or) | (with_reducible apply MV.bo_not) | (with_reducible apply MV.not_t) | (with_reducible apply MV.not_f) | (with_reducible apply MV.ex_and) | (with_reducible apply MV.ex_or) | (with_reducible apply MV.ex_not) | (with_reducible apply MV.ex_if) | (with_reducible apply MV.st_skip) | (with_reducible apply MV.st_drop) | (with_reducible apply MV.st_brk) | (with_reducible apply MV.st_cnt) | (with_reducible apply MV.st_setO) | (with_reducible apply MV.app_at) | (with_reducible apply MV.get_0) | (with_reducible apply MV.get_s) | (with_reducible apply MV.st_par) | (with_reducible apply MV.st_asg) | (with_reducible apply MV.tg_set) | (with_reducible apply MV.tg_tup) | (with_reducible apply MV.tg_cons) | (with_reducible apply MV.tg_nil) | (with_reducible apply MV.st_for) | (with_reducible apply MV.st_frz) | (with_reducible apply MV.put_at) | (with_reducible apply MV.src_seq) | (with_reducible apply MV.src_2) | (with_reducible apply MV.seq_l) | (with_reducible apply MV.seq_t) | (with_reducible apply MV.zip_ok) | (with_reducible apply MV.enum_ok) | (with_reducible apply MV.ex_1) | (with_reducible apply MV.ex_call) | (with_reducible apply MV.op_neg') | (with_reducible apply MV.op_lt') | (with_reducible apply MV.op_le') | (with_reducible apply MV.op_gt') | (with_reducible apply MV.op_ge') | (with_reducible apply MV.op_p18) | (with_reducible apply MV.op_p9) | (with_reducible apply MV.op_p30) | (with_reducible apply MV.op_eqI) | (with_reducible apply MV.op_neI) | (with_reducible apply MV.op_eqSS) | (with_reducible apply MV.op_neSS) | (with_reducible apply MV.op_eqS) | (with_reducible apply MV.op_neS) | (with_reducible apply MV.op_eqB) | (with_reducible apply MV.op_neB) | (with_reducible apply MV.fn_gcd) | (with_reducible apply MV.fn_intB) | (with_reducible apply MV.post_bk) | (with_reducible apply MV.post_ct) | (with_reducible apply MV.then_bk) | (with_reducible apply MV.then_ct) | (with_reducible apply MV.cut_ok) | (with_reducible apply MV.part_ok) | (with_reducible apply MV.part_no) | (with_reducible apply MV.then_ex) | (with_reducible apply MV.post_ex) | (with_reducible apply MV.st_raise) | (with_reducible apply MV.mk_err) | (with_reducible apply MV.err_int) | (with_reducible apply MV.err_non) | (with_reducible apply MV.st_ifX) | (with_reducible apply MV.ifX_ok) | (with_reducible apply MV.ifX_er) | (with_reducible apply MV.ex_2X) | (with_reducible apply MV.m2R_er) | (with_reducible apply MV.m2R_ok) | (with_reducible apply MV.ex_callX) | (with_reducible apply MV.st_try) | (with_reducible apply MV.try_nx) | (with_reducible apply MV.try_rt) | (with_reducible apply MV.try_ex) | (with_reducible apply MV.end_rt) | (with_reducible apply MV.end_nx) | (with_reducible apply MV.st_guard) | (with_reducible apply MV.fld_ok) | (with_reducible apply MV.isv_ok) | (with_reducible apply MV.some_rfl) | (refine MV.ite_t (by assumption) ?_) | (refine MV.ite_f (by assumption) ?_) | (exact (by assumption : _ = true)) | (refine MV.ite_dt (by omega) ?_) | (refine MV.ite_df (by omega) ?_) | (refine MV.ite_et (by omega) ?_) | (refine MV.ite_ef (by omega) ?_)))
theorem bends (ns : List Int) (vs : List D) (n : Nat) (j : Int) (hj : j = 0 ∨ j = 1 ∨ j = 2) (h1 : 1 ≤ n) (h4 : n ≤ 4) (hl : vs.length ≤ 6) (h : ∀ v ∈ vs, ItemOk v) :
    ∃ ws, (∀ c4 c5 c6 c7 c8 c9 c10, loopD (gSet 3) lp_law_1 (rangeD 0 j) [.dat (.list (ns.map PyData.int)), .dat (.int (n : Int)), .dat (.list vs), .un, c4, c5, c6, c7, c8, c9, c10] = some (.nx [.dat (.list (ns.map PyData.int)), .dat (.int (n : Int)), .dat (.list ws), .un, c4, c5, c6, c7, c8, c9, c10])) ∧
      (∀ v ∈ ws, ItemOk v) ∧ ws.length ≤ 27 := by
  rcases hj with rfl | rfl | rfl
  · exact ⟨vs, fun _ _ _ _ _ _ _ => rfl, h, by omega⟩
  · obtain ⟨ws, e, k1, k2⟩ := turn1 ns vs n 0 h1 h4 (by omega) h
    exact ⟨ws, fun c4 c5 c6 c7 c8 c9 c10 => MV.loop_cons rfl (e c4 c5 c6 c7 c8 c9 c10) rfl, k1, by omega⟩
  · obtain ⟨ws, e, k1, k2⟩ := turn1 ns vs n 0 h1 h4 (by omega) h
    obtain ⟨us, e2, k3, k4⟩ := turn1 ns ws n 1 h1 h4 (by omega) k1
    exact ⟨us, fun c4 c5 c6 c7 c8 c9 c10 => MV.loop_cons rfl (e c4 c5 c6 c7 c8 c9 c10) (MV.loop_cons rfl (e2 c4 c5 c6 c7 c8 c9 c10) rfl), k3, by omega⟩
theorem pt_item {B : Nat} {qs : List Rat} (h : ∀ q ∈ qs, Sm B q) (e : B ≤ 200) (hl : qs.length ≤ 10) : ItemOk (ptD qs) := by
  refine item_tup (fun d hd => ?_) (by rw [List.length_map]; exact hl)
  obtain ⟨q, hq, rfl⟩ := List.mem_map.mp hd
  exact part_int2 (lt_pow (h q hq).1 e) (lt_pow (h q hq).den e)
theorem items_repr {ws : List D} (h : ∀ v ∈ ws, ItemOk v) (hl : ws.length ≤ 27) : reprOk (.list ws) = true := by
  refine reprOk_of (okD_lst fun d hd => (h d hd).o) ?_ ?_
  · have := bulk_le (n := 60) (ds := ws) fun d hd => (h d hd).b
    show PyData.bulkAll ws ≤ 2000
    omega
  · have := depth_le (n := 4) (ds := ws) fun d hd => (h d hd).p
    show PyData.depthAll ws + 1 ≤ 60
    omega
theorem due_repr {o : Option Nat} (h : ∀ i, o = some i → i < 1000) : reprOk (dueD o) = true := by
  cases o with
  | none => decide +kernel
  | some i =>
    have hi := h i rfl
    refine reprOk_of (okD_tup fun d hd => ?_) (by rw [show PyData.bulk (dueD (some i)) = PyData.bulk (dueD (some 0)) from rfl]; decide +kernel) (by rw [show PyData.depth (dueD (some i)) = PyData.depth (dueD (some 0)) from rfl]; decide +kernel)
    rcases List.mem_cons.mp hd with rfl | hd
    · exact ⟨by decide +kernel, by decide +kernel, by decide +kernel, by decide +kernel⟩
    · rw [List.mem_singleton.mp hd]
      exact okD_int (lt_pow (by omega : ((i : Int)).natAbs < 2 ^ 10) (by decide))
theorem last_turn (n : Nat) (h4 : n ≤ 4) (v : D) (h : ItemOk v) (c0 c2 c3 c4 c5 c6 c8 c9 c10 : Cell) : lp_law_2 [c0, .dat (.int (n : Int)), c2, c3, c4, c5, c6, .dat v, c8, c9, c10] = some (.nx [c0, .dat (.int (n : Int)), c2, c3, c4, c5, c6, .un, c8, c9, c10]) := by
  have p := is_point_at v n (by omega)
  have q := law_is_point_at v n h.l
  have r := fRepr_ok (d := .bool (isPt n v)) (by cases isPt n v <;> decide +kernel)
  unfold lp_law_2
  (repeat (first | (with_reducible apply p <;> first | omega | skip) | (with_reducible apply q <;> first | omega | skip) | (with_reducible apply r <;> first | omega | skip) | (with_reducible apply MV.seq_ok) | (with_reducible apply MV.then_nx) | (with_reducible apply MV.then_rt) | (with_reducible apply MV.ar_cons) | (with_reducible apply MV.ar_nil) | (with_reducible apply MV.ex_c) | (with_reducible apply MV.var_0) | (with_reducible apply MV.var_s) | (with_reducible apply MV.own_0) | (with_reducible apply MV.own_0d) | (with_reducible apply MV.own_s) | (with_reducible apply MV.ex_2) | (with_reducible apply MV.ex_call0) | (with_reducible apply MV.ex_fn) | (with_reducible apply MV.st_set) | (with_reducible apply MV.set_0) | (with_reducible apply MV.set_s) | (with_reducible apply MV.st_post) | (with_reducible apply MV.post_nx) | (with_reducible apply MV.post_rt) | (with_reducible apply MV.wipe_0) | (with_reducible apply MV.wipe_s) | (with_reducible apply MV.op_add') | (with_reducible apply MV.op_sub') | (with_reducible apply MV.dMul_ok; rotate_left) | (with_reducible apply MV.dDiv_ok; rotate_left) | (with_reducible apply MV.dMod_ok; rotate_left) | (with_reducible apply MV.op_ixL) | (with_reducible apply MV.op_ixT) | (with_reducible apply MV.at_0) | (with_reducible apply MV.fn_int) | (with_reducible apply MV.fn_abs) | (with_reducible apply MV.fn_len) | (with_reducible apply MV.fn_lenT) | (with_reducible apply MV.fn_tupL) | (with_reducible apply MV.fn_tupT) | (with_reducible apply MV.fn_lstL) | (with_reducible apply MV.fn_lstT) | (with_reducible apply MV.ex_tup) | (with_reducible apply MV.ex_lst) | (with_reducible apply MV.ex_l) | (with_reducible apply MV.len_0) | (with_reducible apply MV.len_s) | (with_reducible apply MV.st_ret) | (with_reducible apply MV.retO_0) | (with_reducible apply MV.retO_0d) | (with_reducible apply MV.retO_s) | (with_reducible apply MV.st_if) | (with_reducible apply MV.ite_tt) | (with_reducible apply MV.ite_ff) | (with_reducible apply MV.bo_as) | (with_reducible apply MV.bo_tru) | (with_reducible apply MV.bo_and) | (with_reducible apply MV.bo_or) | (with_reducible apply MV.bo_not) | (with_reducible apply MV.not_t) | (with_reducible apply MV.not_f) | (with_reducible apply MV.ex_and) | (with_reducible apply MV.ex_or) | (with_reducible apply MV.ex_not) | (with_reducible apply MV.ex_if) | (with_reducible apply MV.st_skip) | (with_reducible apply MV.st_drop) | (with_reducible apply MV.st_brk) | (with_reducible apply MV.st_cnt) | (with_reducible apply MV.st_setO) | (with_reducible apply MV.app_at) | (with_reducible apply MV.get_0) | (with_reducible apply MV.get_s) | (with_reducible apply MV.st_par) | (with_reducible apply MV.st_asg) | (with_reducible apply MV.tg_set) | (with_reducible apply MV.tg_tup) | (with_reducible apply MV.tg_cons) | (with_reducible apply MV.tg_nil) | (with_reducible apply MV.st_for) | (with_reducible apply MV.st_frz) | (with_reducible apply MV.put_at) | (with_reducible apply MV.src_seq) | (with_reducible apply MV.src_2) | (with_reducible apply MV.seq_l) | (with_reducible apply MV.seq_t) | (with_reducible apply MV.zip_ok) | (with_reducible apply MV.enum_ok) | (with_reducible apply MV.ex_1) | (with_reducible apply MV.ex_call) | (with_reducible apply MV.op_neg') | (with_reducible apply MV.op_lt') | (with_reducible apply MV.op_le') | (with_reducible apply MV.op_gt') | (with_reducible apply MV.op_ge') | (with_reducible apply MV.op_p18) | (with_reducible apply MV.op_p9) | (with_reducible apply MV.op_p30) | (with_reducible apply MV.op_eqI) | (with_reducible apply MV.op_neI) | (with_reducible apply MV.op_eqSS) | (with_reducible apply MV.op_neSS) | (with_reducible apply MV.op_eqS) | (with_reducible apply MV.op_neS) | (with_reducible apply MV.op_eqB) | (with_reducible apply MV.op_neB) | (with_reducible apply MV.fn_gcd) | (with_reducible apply MV.fn_intB) | (with_reducible apply MV.post_bk) | (with_reducible apply MV.post_ct) | (with_reducible apply MV.then_bk) | (with_reducible apply MV.then_ct) | (with_reducible apply MV.cut_ok) | (with_reducible apply MV.part_ok) | (with_reducible apply MV.part_no) | (with_reducible apply MV.then_ex) | (with_reducible apply MV.post_ex) | (with_reducible apply MV.st_raise) | (with_reducible apply MV.mk_err) | (with_reducible apply MV.err_int) | (with_reducible apply MV.err_non) | (with_reducible apply MV.st_ifX) | (with_reducible apply MV.ifX_ok) | (with_reducible apply MV.ifX_er) | (with_reducible apply MV.ex_2X) | (with_reducible apply MV.m2R_er) | (with_reducible apply MV.m2R_ok) | (with_reducible apply MV.ex_callX) | (with_reducible apply MV.st_try) | (with_reducible apply MV.try_nx) | (with_reducible apply MV.try_rt) | (with_reducible apply MV.try_ex) | (with_reducible apply MV.end_rt) | (with_reducible apply MV.end_nx) | (with_reducible apply MV.st_guard) | (with_reducible apply MV.fld_ok) | (with_reducible apply MV.isv_ok) | (with_reducible apply MV.some_rfl) | (refine MV.ite_t (by assumption) ?_) | (refine MV.ite_f (by assumption) ?_) | (exact (by assumption : _ = true)) | (refine MV.ite_dt (by omega) ?_) | (refine MV.ite_df (by omega) ?_) | (refine MV.ite_et (by omega) ?_) | (refine MV.ite_ef (by omega) ?_)))
theorem last_loop (n : Nat) (h4 : n ≤ 4) (c0 c2 c3 c4 c5 c6 c8 c9 c10 : Cell) : ∀ ws : List D, (∀ v ∈ ws, ItemOk v) → loopD (gSet 7) lp_law_2 ws [c0, .dat (.int (n : Int)), c2, c3, c4, c5, c6, .un, c8, c9, c10] = some (.nx [c0, .dat (.int (n : Int)), c2, c3, c4, c5, c6, .un, c8, c9, c10])
  | [], _ => rfl
  | v :: ws, h => MV.loop_cons rfl (last_turn n h4 v (h v List.mem_cons_self) ..) (last_loop n h4 _ _ _ _ _ _ _ _ _ ws fun u hu => h u (List.mem_cons_of_mem _ hu))

theorem rat_one (N : Int) : ratD (Rat.divInt N 1) = .tuple [.int N, .int 1] := by
  rw [show Rat.divInt N 1 = (N : Rat) from num_den (N : Rat)]
  rfl
theorem point_of_at (s : D) (NS : List Int) (V : Int) (hs : seqOf s = some (NS.map PyData.int)) (hl : NS.length < 1000) (hV : V ≠ 0) (hb : V.natAbs < 2 ^ 200) : m_point_of [s, .int V] = some (.tuple ((NS.map fun N => Rat.divInt N V).map ratD)) := by
  have cm : ∀ x, mLc (mSeqOf (mVar 0)) (gSet 2) mYes el_point_of_1 [2] [.dat s, .dat (.int V), x] = some ((NS.map fun N => Rat.divInt N V).map ratD) := fun x => by
    rw [List.map_map]
    refine comp_at PyData.int _ NS ?_ (by omega) fun N hN => ?_
    · (repeat (first | (with_reducible apply hs <;> first | omega | skip) | (with_reducible apply MV.seq_ok) | (with_reducible apply MV.then_nx) | (with_reducible apply MV.then_rt) | (with_reducible apply MV.ar_cons) | (with_reducible apply MV.ar_nil) | (with_reducible apply MV.ex_c) | (with_reducible apply MV.var_0) | (with_reducible apply MV.var_s) | (with_reducible apply MV.own_0) | (with_reducible apply MV.own_0d) | (with_reducible apply MV.own_s) | (with_reducible apply MV.ex_2) | (with_reducible apply MV.ex_call0) | (with_reducible apply MV.ex_fn) | (with_reducible apply MV.st_set) | (with_reducible apply MV.set_0) | (with_reducible apply MV.set_s) | (with_reducible apply MV.st_post) | (with_reducible apply MV.post_nx) | (with_reducible apply MV.post_rt) | (with_reducible apply MV.wipe_0) | (with_reducible apply MV.wipe_s) | (with_reducible apply MV.op_add') | (with_reducible apply MV.op_sub') | (with_reducible apply MV.dMul_ok; rotate_left) | (with_reducible apply MV.dDiv_ok; rotate_left) | (with_reducible apply MV.dMod_ok; rotate_left) | (with_reducible apply MV.op_ixL) | (with_reducible apply MV.op_ixT) | (with_reducible apply MV.at_0) | (with_reducible apply MV.fn_int) | (with_reducible apply MV.fn_abs) | (with_reducible apply MV.fn_len) | (with_reducible apply MV.fn_lenT) | (with_reducible apply MV.fn_tupL) | (with_reducible apply MV.fn_tupT) | (with_reducible apply MV.fn_lstL) | (with_reducible apply MV.fn_lstT) | (with_reducible apply MV.ex_tup) | (with_reducible apply MV.ex_lst) | (with_reducible apply MV.ex_l) | (with_reducible apply MV.len_0) | (with_reducible apply MV.len_s) | (with_reducible apply MV.st_ret) | (with_reducible apply MV.retO_0) | (with_reducible apply MV.retO_0d) | (with_reducible apply MV.retO_s) | (with_reducible apply MV.st_if) | (with_reducible apply MV.ite_tt) | (with_reducible apply MV.ite_ff) | (with_reducible apply MV.bo_as) | (with_reducible apply MV.bo_tru) | (with_reducible apply MV.bo_and) | (with_reducible apply MV.bo_or) | (with_reducible apply MV.bo_not) | (with_reducible apply MV.not_t) | (with_reducible apply MV.not_f) | (with_reducible apply MV.ex_and) | (with_reducible apply MV.ex_or) | (with_reducible apply MV.ex_not) | (with_reducible apply MV.ex_if) | (with_reducible apply MV.st_skip) | (with_reducible apply MV.st_drop) | (with_reducible apply MV.st_brk) | (with_reducible apply MV.st_cnt) | (with_reducible apply MV.st_setO) | (with_reducible apply MV.app_at) | (with_reducible apply MV.get_0) | (with_reducible apply MV.get_s) | (with_reducible apply MV.st_par) | (with_reducible apply MV.st_asg) | (with_reducible apply MV.tg_set) | (with_reducible apply MV.tg_tup) | (with_reducible apply MV.tg_cons) | (with_reducible apply MV.tg_nil) | (with_reducible apply MV.st_for) | (with_reducible apply MV.st_frz) | (with_reducible apply MV.put_at) | (with_reducible apply MV.src_seq) | (with_reducible apply MV.src_2) | (with_reducible apply MV.seq_l) | (with_reducible apply MV.seq_t) | (with_reducible apply MV.zip_ok) | (with_reducible apply MV.enum_ok) | (with_reducible apply MV.ex_1) | (with_reducible apply MV.ex_call) | (with_reducible apply MV.op_neg') | (with_reducible apply MV.op_lt') | (with_reducible apply MV.op_le') | (with_reducible apply MV.op_gt') | (with_reducible apply MV.op_ge') | (with_reducible apply MV.op_p18) | (with_reducible apply MV.op_p9) | (with_reducible apply MV.op_p30) | (with_reducible apply MV.op_eqI) | (with_reducible apply MV.op_neI) | (with_reducible apply MV.op_eqSS) | (with_reducible apply MV.op_neSS) | (with_reducible apply MV.op_eqS) | (with_reducible apply MV.op_neS) | (with_reducible apply MV.op_eqB) | (with_reducible apply MV.op_neB) | (with_reducible apply MV.fn_gcd) | (with_reducible apply MV.fn_intB) | (with_reducible apply MV.post_bk) | (with_reducible apply MV.post_ct) | (with_reducible apply MV.then_bk) | (with_reducible apply MV.then_ct) | (with_reducible apply MV.cut_ok) | (with_reducible apply MV.part_ok) | (with_reducible apply MV.part_no) | (with_reducible apply MV.then_ex) | (with_reducible apply MV.post_ex) | (with_reducible apply MV.st_raise) | (with_reducible apply MV.mk_err) | (with_reducible apply MV.err_int) | (with_reducible apply MV.err_non) | (with_reducible apply MV.st_ifX) | (with_reducible apply MV.ifX_ok) | (with_reducible apply MV.ifX_er) | (with_reducible apply MV.ex_2X) | (with_reducible apply MV.m2R_er) | (with_reducible apply MV.m2R_ok) | (with_reducible apply MV.ex_callX) | (with_reducible apply MV.st_try) | (with_reducible apply MV.try_nx) | (with_reducible apply MV.try_rt) | (with_reducible apply MV.try_ex) | (with_reducible apply MV.end_rt) | (with_reducible apply MV.end_nx) | (with_reducible apply MV.st_guard) | (with_reducible apply MV.fld_ok) | (with_reducible apply MV.isv_ok) | (with_reducible apply MV.some_rfl) | (refine MV.ite_t (by assumption) ?_) | (refine MV.ite_f (by assumption) ?_) | (exact (by assumption : _ = true)) | (refine MV.ite_dt (by omega) ?_) | (refine MV.ite_df (by omega) ?_) | (refine MV.ite_et (by omega) ?_) | (refine MV.ite_ef (by omega) ?_)))
    · have f := frac_at (B := 200) (by decide) (n := N) hV hb
      apply comp_el
      (repeat (first | (with_reducible apply un_el_point_of_1 <;> first | omega | skip) | (with_reducible apply f <;> first | omega | skip) | (with_reducible apply MV.seq_ok) | (with_reducible apply MV.then_nx) | (with_reducible apply MV.then_rt) | (with_reducible apply MV.ar_cons) | (with_reducible apply MV.ar_nil) | (with_reducible apply MV.ex_c) | (with_reducible apply MV.var_0) | (with_reducible apply MV.var_s) | (with_reducible apply MV.own_0) | (with_reducible apply MV.own_0d) | (with_reducible apply MV.own_s) | (with_reducible apply MV.ex_2) | (with_reducible apply MV.ex_call0) | (with_reducible apply MV.ex_fn) | (with_reducible apply MV.st_set) | (with_reducible apply MV.set_0) | (with_reducible apply MV.set_s) | (with_reducible apply MV.st_post) | (with_reducible apply MV.post_nx) | (with_reducible apply MV.post_rt) | (with_reducible apply MV.wipe_0) | (with_reducible apply MV.wipe_s) | (with_reducible apply MV.op_add') | (with_reducible apply MV.op_sub') | (with_reducible apply MV.dMul_ok; rotate_left) | (with_reducible apply MV.dDiv_ok; rotate_left) | (with_reducible apply MV.dMod_ok; rotate_left) | (with_reducible apply MV.op_ixL) | (with_reducible apply MV.op_ixT) | (with_reducible apply MV.at_0) | (with_reducible apply MV.fn_int) | (with_reducible apply MV.fn_abs) | (with_reducible apply MV.fn_len) | (with_reducible apply MV.fn_lenT) | (with_reducible apply MV.fn_tupL) | (with_reducible apply MV.fn_tupT) | (with_reducible apply MV.fn_lstL) | (with_reducible apply MV.fn_lstT) | (with_reducible apply MV.ex_tup) | (with_reducible apply MV.ex_lst) | (with_reducible apply MV.ex_l) | (with_reducible apply MV.len_0) | (with_reducible apply MV.len_s) | (with_reducible apply MV.st_ret) | (with_reducible apply MV.retO_0) | (with_reducible apply MV.retO_0d) | (with_reducible apply MV.retO_s) | (with_reducible apply MV.st_if) | (with_reducible apply MV.ite_tt) | (with_reducible apply MV.ite_ff) | (with_reducible apply MV.bo_as) | (with_reducible apply MV.bo_tru) | (with_reducible apply MV.bo_and) | (with_reducible apply MV.bo_or) | (with_reducible apply MV.bo_not) | (with_reducible apply MV.not_t) | (with_reducible apply MV.not_f) | (with_reducible apply MV.ex_and) | (with_reducible apply MV.ex_or) | (with_reducible apply MV.ex_not) | (with_reducible apply MV.ex_if) | (with_reducible apply MV.st_skip) | (with_reducible apply MV.st_drop) | (with_reducible apply MV.st_brk) | (with_reducible apply MV.st_cnt) | (with_reducible apply MV.st_setO) | (with_reducible apply MV.app_at) | (with_reducible apply MV.get_0) | (with_reducible apply MV.get_s) | (with_reducible apply MV.st_par) | (with_reducible apply MV.st_asg) | (with_reducible apply MV.tg_set) | (with_reducible apply MV.tg_tup) | (with_reducible apply MV.tg_cons) | (with_reducible apply MV.tg_nil) | (with_reducible apply MV.st_for) | (with_reducible apply MV.st_frz) | (with_reducible apply MV.put_at) | (with_reducible apply MV.src_seq) | (with_reducible apply MV.src_2) | (with_reducible apply MV.seq_l) | (with_reducible apply MV.seq_t) | (with_reducible apply MV.zip_ok) | (with_reducible apply MV.enum_ok) | (with_reducible apply MV.ex_1) | (with_reducible apply MV.ex_call) | (with_reducible apply MV.op_neg') | (with_reducible apply MV.op_lt') | (with_reducible apply MV.op_le') | (with_reducible apply MV.op_gt') | (with_reducible apply MV.op_ge') | (with_reducible apply MV.op_p18) | (with_reducible apply MV.op_p9) | (with_reducible apply MV.op_p30) | (with_reducible apply MV.op_eqI) | (with_reducible apply MV.op_neI) | (with_reducible apply MV.op_eqSS) | (with_reducible apply MV.op_neSS) | (with_reducible apply MV.op_eqS) | (with_reducible apply MV.op_neS) | (with_reducible apply MV.op_eqB) | (with_reducible apply MV.op_neB) | (with_reducible apply MV.fn_gcd) | (with_reducible apply MV.fn_intB) | (with_reducible apply MV.post_bk) | (with_reducible apply MV.post_ct) | (with_reducible apply MV.then_bk) | (with_reducible apply MV.then_ct) | (with_reducible apply MV.cut_ok) | (with_reducible apply MV.part_ok) | (with_reducible apply MV.part_no) | (with_reducible apply MV.then_ex) | (with_reducible apply MV.post_ex) | (with_reducible apply MV.st_raise) | (with_reducible apply MV.mk_err) | (with_reducible apply MV.err_int) | (with_reducible apply MV.err_non) | (with_reducible apply MV.st_ifX) | (with_reducible apply MV.ifX_ok) | (with_reducible apply MV.ifX_er) | (with_reducible apply MV.ex_2X) | (with_reducible apply MV.m2R_er) | (with_reducible apply MV.m2R_ok) | (with_reducible apply MV.ex_callX) | (with_reducible apply MV.st_try) | (with_reducible apply MV.try_nx) | (with_reducible apply MV.try_rt) | (with_reducible apply MV.try_ex) | (with_reducible apply MV.end_rt) | (with_reducible apply MV.end_nx) | (with_reducible apply MV.st_guard) | (with_reducible apply MV.fld_ok) | (with_reducible apply MV.isv_ok) | (with_reducible apply MV.some_rfl) | (refine MV.ite_t (by assumption) ?_) | (refine MV.ite_f (by assumption) ?_) | (exact (by assumption : _ = true)) | (refine MV.ite_dt (by omega) ?_) | (refine MV.ite_df (by omega) ?_) | (refine MV.ite_et (by omega) ?_) | (refine MV.ite_ef (by omega) ?_)))
      rfl
  (apply run_ok; case hl => exact rfl); (unfold b_point_of; simp only [List.map_cons, List.map_nil, List.replicate, List.cons_append, List.nil_append])
  (repeat (first | (with_reducible apply cm <;> first | omega | skip) | (with_reducible apply MV.seq_ok) | (with_reducible apply MV.then_nx) | (with_reducible apply MV.then_rt) | (with_reducible apply MV.ar_cons) | (with_reducible apply MV.ar_nil) | (with_reducible apply MV.ex_c) | (with_reducible apply MV.var_0) | (with_reducible apply MV.var_s) | (with_reducible apply MV.own_0) | (with_reducible apply MV.own_0d) | (with_reducible apply MV.own_s) | (with_reducible apply MV.ex_2) | (with_reducible apply MV.ex_call0) | (with_reducible apply MV.ex_fn) | (with_reducible apply MV.st_set) | (with_reducible apply MV.set_0) | (with_reducible apply MV.set_s) | (with_reducible apply MV.st_post) | (with_reducible apply MV.post_nx) | (with_reducible apply MV.post_rt) | (with_reducible apply MV.wipe_0) | (with_reducible apply MV.wipe_s) | (with_reducible apply MV.op_add') | (with_reducible apply MV.op_sub') | (with_reducible apply MV.dMul_ok; rotate_left) | (with_reducible apply MV.dDiv_ok; rotate_left) | (with_reducible apply MV.dMod_ok; rotate_left) | (with_reducible apply MV.op_ixL) | (with_reducible apply MV.op_ixT) | (with_reducible apply MV.at_0) | (with_reducible apply MV.fn_int) | (with_reducible apply MV.fn_abs) | (with_reducible apply MV.fn_len) | (with_reducible apply MV.fn_lenT) | (with_reducible apply MV.fn_tupL) | (with_reducible apply MV.fn_tupT) | (with_reducible apply MV.fn_lstL) | (with_reducible apply MV.fn_lstT) | (with_reducible apply MV.ex_tup) | (with_reducible apply MV.ex_lst) | (with_reducible apply MV.ex_l) | (with_reducible apply MV.len_0) | (with_reducible apply MV.len_s) | (with_reducible apply MV.st_ret) | (with_reducible apply MV.retO_0) | (with_reducible apply MV.retO_0d) | (with_reducible apply MV.retO_s) | (with_reducible apply MV.st_if) | (with_reducible apply MV.ite_tt) | (with_reducible apply MV.ite_ff) | (with_reducible apply MV.bo_as) | (with_reducible apply MV.bo_tru) | (with_reducible apply MV.bo_and) | (with_reducible apply MV.bo_or) | (with_reducible apply MV.bo_not) | (with_reducible apply MV.not_t) | (with_reducible apply MV.not_f) | (with_reducible apply MV.ex_and) | (with_reducible apply MV.ex_or) | (with_reducible apply MV.ex_not) | (with_reducible apply MV.ex_if) | (with_reducible apply MV.st_skip) | (with_reducible apply MV.st_drop) | (with_reducible apply MV.st_brk) | (with_reducible apply MV.st_cnt) | (with_reducible apply MV.st_setO) | (with_reducible apply MV.app_at) | (with_reducible apply MV.get_0) | (with_reducible apply MV.get_s) | (with_reducible apply MV.st_par) | (with_reducible apply MV.st_asg) | (with_reducible apply MV.tg_set) | (with_reducible apply MV.tg_tup) | (with_reducible apply MV.tg_cons) | (with_reducible apply MV.tg_nil) | (with_reducible apply MV.st_for) | (with_reducible apply MV.st_frz) | (with_reducible apply MV.put_at) | (with_reducible apply MV.src_seq) | (with_reducible apply MV.src_2) | (with_reducible apply MV.seq_l) | (with_reducible apply MV.seq_t) | (with_reducible apply MV.zip_ok) | (with_reducible apply MV.enum_ok) | (with_reducible apply MV.ex_1) | (with_reducible apply MV.ex_call) | (with_reducible apply MV.op_neg') | (with_reducible apply MV.op_lt') | (with_reducible apply MV.op_le') | (with_reducible apply MV.op_gt') | (with_reducible apply MV.op_ge') | (with_reducible apply MV.op_p18) | (with_reducible apply MV.op_p9) | (with_reducible apply MV.op_p30) | (with_reducible apply MV.op_eqI) | (with_reducible apply MV.op_neI) | (with_reducible apply MV.op_eqSS) | (with_reducible apply MV.op_neSS) | (with_reducible apply MV.op_eqS) | (with_reducible apply MV.op_neS) | (with_reducible apply MV.op_eqB) | (with_reducible apply MV.op_neB) | (with_reducible apply MV.fn_gcd) | (with_reducible apply MV.fn_intB) | (with_reducible apply MV.post_bk) | (with_reducible apply MV.post_ct) | (with_reducible apply MV.then_bk) | (with_reducible apply MV.then_ct) | (with_reducible apply MV.cut_ok) | (with_reducible apply MV.part_ok) | (with_reducible apply MV.part_no) | (with_reducible apply MV.then_ex) | (with_reducible apply MV.post_ex) | (with_reducible apply MV.st_raise) | (with_reducible apply MV.mk_err) | (with_reducible apply MV.err_int) | (with_reducible apply MV.err_non) | (with_reducible apply MV.st_ifX) | (with_reducible apply MV.ifX_ok) | (with_reducible apply MV.ifX_er) | (with_reducible apply MV.ex_2X) | (with_reducible apply MV.m2R_er) | (with_reducible apply MV.m2R_ok) | (with_reducible apply MV.ex_callX) | (with_reducible apply MV.st_try) | (with_reducible apply MV.try_nx) | (with_reducible apply MV.try_rt) | (with_reducible apply MV.try_ex) | (with_reducible apply MV.end_rt) | (with_reducible apply MV.end_nx) | (with_reducible apply MV.st_guard) | (with_reducible apply MV.fld_ok) | (with_reducible apply MV.isv_ok) | (with_reducible apply MV.some_rfl) | (refine MV.ite_t (by assumption) ?_) | (refine MV.ite_f (by assumption) ?_) | (exact (by assumption : _ = true)) | (refine MV.ite_dt (by omega) ?_) | (refine MV.ite_df (by omega) ?_) | (refine MV.ite_et (by omega) ?_) | (refine MV.ite_ef (by omega) ?_)))
  rfl
theorem law_true (ns : List Int) (hn : ns.length ≤ 63) : m_law [.list (ns.map PyData.int)] = some (.bool true) := by
  obtain ⟨c, ec, bc⟩ := drawn (cellz ns 0) (m := 4) (by decide)
  have d1 : dMod (.int (cellz ns 0)) (.int 4) = some (.int (c : Int)) := by rw [← ec]; exact dMod_ok (by decide)
  have d2 : dAdd (.int 1) (.int (c : Int)) = some (.int ((1 + c : Nat) : Int)) := by
    show some (PyData.int (1 + (c : Int))) = _
    rw [show ((1 + c : Nat) : Int) = 1 + (c : Int) by omega]
  have n1 : 1 ≤ 1 + c := by omega
  have n4 : 1 + c ≤ 4 := by omega
  generalize 1 + c = n at d2 n1 n4
  obtain ⟨m, em, bm⟩ := drawn (cellz ns 1) (m := 7) (by decide)
  have d3 : dMod (.int (cellz ns 1)) (.int 7) = some (.int (m : Int)) := by rw [← em]; exact dMod_ok (by decide)
  have d4 : dMod (.int (cellz ns 8)) (.int 4) = some (.int ((cellz ns 8).fmod 4)) := dMod_ok (by decide)
  have d5 : dMod (.int ((cellz ns 8).fmod 4)) (.int 3) = some (.int (((cellz ns 8).fmod 4).fmod 3)) := dMod_ok (by decide)
  have jr := fmod_range ((cellz ns 8).fmod 4) (b := 3) (by decide)
  generalize ((cellz ns 8).fmod 4).fmod 3 = j at d5 jr
  have d6 : rng1 [.int j] = some (rangeD 0 j) := MV.rng1_ok (MV.rngOk_i (by omega) (by omega))
  have c1 : ∀ x2 x3 x4 x5 x6 x7 x8 x9 x10, mLc (mL2 rng1 (mCons (m2 dMod (mFn fInt (mCons (mCall m__law_cell [] (mCons (mVar 0) (mCons (mC (.int 1)) mNil))) mNil)) (mC (.int 7))) mNil)) (gSet 3) mYes el_law_1 [3] [.dat (.list (ns.map PyData.int)), .dat (.int (n : Int)), x2, x3, x4, x5, x6, x7, x8, x9, x10] = some ((List.range m).map fun (k : Nat) => ptD (ptL (cellz ns (2 + (k : Int))) n)) := fun x2 x3 x4 x5 x6 x7 x8 x9 x10 => by
    refine comp_at (fun (k : Nat) => PyData.int (k : Int)) _ (List.range m) ?_ (by rw [List.length_range]; omega) fun k hm => ?_
    · (repeat (first | (with_reducible apply cell_z <;> first | omega | skip) | (with_reducible apply d3 <;> first | omega | skip) | (with_reducible apply rng_nat <;> first | omega | skip) | (with_reducible apply MV.seq_ok) | (with_reducible apply MV.then_nx) | (with_reducible apply MV.then_rt) | (with_reducible apply MV.ar_cons) | (with_reducible apply MV.ar_nil) | (with_reducible apply MV.ex_c) | (with_reducible apply MV.var_0) | (with_reducible apply MV.var_s) | (with_reducible apply MV.own_0) | (with_reducible apply MV.own_0d) | (with_reducible apply MV.own_s) | (with_reducible apply MV.ex_2) | (with_reducible apply MV.ex_call0) | (with_reducible apply MV.ex_fn) | (with_reducible apply MV.st_set) | (with_reducible apply MV.set_0) | (with_reducible apply MV.set_s) | (with_reducible apply MV.st_post) | (with_reducible apply MV.post_nx) | (with_reducible apply MV.post_rt) | (with_reducible apply MV.wipe_0) | (with_reducible apply MV.wipe_s) | (with_reducible apply MV.op_add') | (with_reducible apply MV.op_sub') | (with_reducible apply MV.dMul_ok; rotate_left) | (with_reducible apply MV.dDiv_ok; rotate_left) | (with_reducible apply MV.dMod_ok; rotate_left) | (with_reducible apply MV.op_ixL) | (with_reducible apply MV.op_ixT) | (with_reducible apply MV.at_0) | (with_reducible apply MV.fn_int) | (with_reducible apply MV.fn_abs) | (with_reducible apply MV.fn_len) | (with_reducible apply MV.fn_lenT) | (with_reducible apply MV.fn_tupL) | (with_reducible apply MV.fn_tupT) | (with_reducible apply MV.fn_lstL) | (with_reducible apply MV.fn_lstT) | (with_reducible apply MV.ex_tup) | (with_reducible apply MV.ex_lst) | (with_reducible apply MV.ex_l) | (with_reducible apply MV.len_0) | (with_reducible apply MV.len_s) | (with_reducible apply MV.st_ret) | (with_reducible apply MV.retO_0) | (with_reducible apply MV.retO_0d) | (with_reducible apply MV.retO_s) | (with_reducible apply MV.st_if) | (with_reducible apply MV.ite_tt) | (with_reducible apply MV.ite_ff) | (with_reducible apply MV.bo_as) | (with_reducible apply MV.bo_tru) | (with_reducible apply MV.bo_and) | (with_reducible apply MV.bo_or) | (with_reducible apply MV.bo_not) | (with_reducible apply MV.not_t) | (with_reducible apply MV.not_f) | (with_reducible apply MV.ex_and) | (with_reducible apply MV.ex_or) | (with_reducible apply MV.ex_not) | (with_reducible apply MV.ex_if) | (with_reducible apply MV.st_skip) | (with_reducible apply MV.st_drop) | (with_reducible apply MV.st_brk) | (with_reducible apply MV.st_cnt) | (with_reducible apply MV.st_setO) | (with_reducible apply MV.app_at) | (with_reducible apply MV.get_0) | (with_reducible apply MV.get_s) | (with_reducible apply MV.st_par) | (with_reducible apply MV.st_asg) | (with_reducible apply MV.tg_set) | (with_reducible apply MV.tg_tup) | (with_reducible apply MV.tg_cons) | (with_reducible apply MV.tg_nil) | (with_reducible apply MV.st_for) | (with_reducible apply MV.st_frz) | (with_reducible apply MV.put_at) | (with_reducible apply MV.src_seq) | (with_reducible apply MV.src_2) | (with_reducible apply MV.seq_l) | (with_reducible apply MV.seq_t) | (with_reducible apply MV.zip_ok) | (with_reducible apply MV.enum_ok) | (with_reducible apply MV.ex_1) | (with_reducible apply MV.ex_call) | (with_reducible apply MV.op_neg') | (with_reducible apply MV.op_lt') | (with_reducible apply MV.op_le') | (with_reducible apply MV.op_gt') | (with_reducible apply MV.op_ge') | (with_reducible apply MV.op_p18) | (with_reducible apply MV.op_p9) | (with_reducible apply MV.op_p30) | (with_reducible apply MV.op_eqI) | (with_reducible apply MV.op_neI) | (with_reducible apply MV.op_eqSS) | (with_reducible apply MV.op_neSS) | (with_reducible apply MV.op_eqS) | (with_reducible apply MV.op_neS) | (with_reducible apply MV.op_eqB) | (with_reducible apply MV.op_neB) | (with_reducible apply MV.fn_gcd) | (with_reducible apply MV.fn_intB) | (with_reducible apply MV.post_bk) | (with_reducible apply MV.post_ct) | (with_reducible apply MV.then_bk) | (with_reducible apply MV.then_ct) | (with_reducible apply MV.cut_ok) | (with_reducible apply MV.part_ok) | (with_reducible apply MV.part_no) | (with_reducible apply MV.then_ex) | (with_reducible apply MV.post_ex) | (with_reducible apply MV.st_raise) | (with_reducible apply MV.mk_err) | (with_reducible apply MV.err_int) | (with_reducible apply MV.err_non) | (with_reducible apply MV.st_ifX) | (with_reducible apply MV.ifX_ok) | (with_reducible apply MV.ifX_er) | (with_reducible apply MV.ex_2X) | (with_reducible apply MV.m2R_er) | (with_reducible apply MV.m2R_ok) | (with_reducible apply MV.ex_callX) | (with_reducible apply MV.st_try) | (with_reducible apply MV.try_nx) | (with_reducible apply MV.try_rt) | (with_reducible apply MV.try_ex) | (with_reducible apply MV.end_rt) | (with_reducible apply MV.end_nx) | (with_reducible apply MV.st_guard) | (with_reducible apply MV.fld_ok) | (with_reducible apply MV.isv_ok) | (with_reducible apply MV.some_rfl) | (refine MV.ite_t (by assumption) ?_) | (refine MV.ite_f (by assumption) ?_) | (exact (by assumption : _ = true)) | (refine MV.ite_dt (by omega) ?_) | (refine MV.ite_df (by omega) ?_) | (refine MV.ite_et (by omega) ?_) | (refine MV.ite_ef (by omega) ?_)))
    · have pa := point_at (cellz ns (2 + (k : Int))) n (by omega)
      apply comp_el
      (repeat (first | (with_reducible apply un_el_law_1 <;> first | omega | skip) | (with_reducible apply cell_z <;> first | omega | skip) | (with_reducible apply pa <;> first | omega | skip) | (with_reducible apply MV.seq_ok) | (with_reducible apply MV.then_nx) | (with_reducible apply MV.then_rt) | (with_reducible apply MV.ar_cons) | (with_reducible apply MV.ar_nil) | (with_reducible apply MV.ex_c) | (with_reducible apply MV.var_0) | (with_reducible apply MV.var_s) | (with_reducible apply MV.own_0) | (with_reducible apply MV.own_0d) | (with_reducible apply MV.own_s) | (with_reducible apply MV.ex_2) | (with_reducible apply MV.ex_call0) | (with_reducible apply MV.ex_fn) | (with_reducible apply MV.st_set) | (with_reducible apply MV.set_0) | (with_reducible apply MV.set_s) | (with_reducible apply MV.st_post) | (with_reducible apply MV.post_nx) | (with_reducible apply MV.post_rt) | (with_reducible apply MV.wipe_0) | (with_reducible apply MV.wipe_s) | (with_reducible apply MV.op_add') | (with_reducible apply MV.op_sub') | (with_reducible apply MV.dMul_ok; rotate_left) | (with_reducible apply MV.dDiv_ok; rotate_left) | (with_reducible apply MV.dMod_ok; rotate_left) | (with_reducible apply MV.op_ixL) | (with_reducible apply MV.op_ixT) | (with_reducible apply MV.at_0) | (with_reducible apply MV.fn_int) | (with_reducible apply MV.fn_abs) | (with_reducible apply MV.fn_len) | (with_reducible apply MV.fn_lenT) | (with_reducible apply MV.fn_tupL) | (with_reducible apply MV.fn_tupT) | (with_reducible apply MV.fn_lstL) | (with_reducible apply MV.fn_lstT) | (with_reducible apply MV.ex_tup) | (with_reducible apply MV.ex_lst) | (with_reducible apply MV.ex_l) | (with_reducible apply MV.len_0) | (with_reducible apply MV.len_s) | (with_reducible apply MV.st_ret) | (with_reducible apply MV.retO_0) | (with_reducible apply MV.retO_0d) | (with_reducible apply MV.retO_s) | (with_reducible apply MV.st_if) | (with_reducible apply MV.ite_tt) | (with_reducible apply MV.ite_ff) | (with_reducible apply MV.bo_as) | (with_reducible apply MV.bo_tru) | (with_reducible apply MV.bo_and) | (with_reducible apply MV.bo_or) | (with_reducible apply MV.bo_not) | (with_reducible apply MV.not_t) | (with_reducible apply MV.not_f) | (with_reducible apply MV.ex_and) | (with_reducible apply MV.ex_or) | (with_reducible apply MV.ex_not) | (with_reducible apply MV.ex_if) | (with_reducible apply MV.st_skip) | (with_reducible apply MV.st_drop) | (with_reducible apply MV.st_brk) | (with_reducible apply MV.st_cnt) | (with_reducible apply MV.st_setO) | (with_reducible apply MV.app_at) | (with_reducible apply MV.get_0) | (with_reducible apply MV.get_s) | (with_reducible apply MV.st_par) | (with_reducible apply MV.st_asg) | (with_reducible apply MV.tg_set) | (with_reducible apply MV.tg_tup) | (with_reducible apply MV.tg_cons) | (with_reducible apply MV.tg_nil) | (with_reducible apply MV.st_for) | (with_reducible apply MV.st_frz) | (with_reducible apply MV.put_at) | (with_reducible apply MV.src_seq) | (with_reducible apply MV.src_2) | (with_reducible apply MV.seq_l) | (with_reducible apply MV.seq_t) | (with_reducible apply MV.zip_ok) | (with_reducible apply MV.enum_ok) | (with_reducible apply MV.ex_1) | (with_reducible apply MV.ex_call) | (with_reducible apply MV.op_neg') | (with_reducible apply MV.op_lt') | (with_reducible apply MV.op_le') | (with_reducible apply MV.op_gt') | (with_reducible apply MV.op_ge') | (with_reducible apply MV.op_p18) | (with_reducible apply MV.op_p9) | (with_reducible apply MV.op_p30) | (with_reducible apply MV.op_eqI) | (with_reducible apply MV.op_neI) | (with_reducible apply MV.op_eqSS) | (with_reducible apply MV.op_neSS) | (with_reducible apply MV.op_eqS) | (with_reducible apply MV.op_neS) | (with_reducible apply MV.op_eqB) | (with_reducible apply MV.op_neB) | (with_reducible apply MV.fn_gcd) | (with_reducible apply MV.fn_intB) | (with_reducible apply MV.post_bk) | (with_reducible apply MV.post_ct) | (with_reducible apply MV.then_bk) | (with_reducible apply MV.then_ct) | (with_reducible apply MV.cut_ok) | (with_reducible apply MV.part_ok) | (with_reducible apply MV.part_no) | (with_reducible apply MV.then_ex) | (with_reducible apply MV.post_ex) | (with_reducible apply MV.st_raise) | (with_reducible apply MV.mk_err) | (with_reducible apply MV.err_int) | (with_reducible apply MV.err_non) | (with_reducible apply MV.st_ifX) | (with_reducible apply MV.ifX_ok) | (with_reducible apply MV.ifX_er) | (with_reducible apply MV.ex_2X) | (with_reducible apply MV.m2R_er) | (with_reducible apply MV.m2R_ok) | (with_reducible apply MV.ex_callX) | (with_reducible apply MV.st_try) | (with_reducible apply MV.try_nx) | (with_reducible apply MV.try_rt) | (with_reducible apply MV.try_ex) | (with_reducible apply MV.end_rt) | (with_reducible apply MV.end_nx) | (with_reducible apply MV.st_guard) | (with_reducible apply MV.fld_ok) | (with_reducible apply MV.isv_ok) | (with_reducible apply MV.some_rfl) | (refine MV.ite_t (by assumption) ?_) | (refine MV.ite_f (by assumption) ?_) | (exact (by assumption : _ = true)) | (refine MV.ite_dt (by omega) ?_) | (refine MV.ite_df (by omega) ?_) | (refine MV.ite_et (by omega) ?_) | (refine MV.ite_ef (by omega) ?_)))
      rfl
  obtain ⟨ws, lo1, hw, hl⟩ := bends ns ((List.range m).map fun (k : Nat) => ptD (ptL (cellz ns (2 + (k : Int))) n)) n j (by omega) n1 n4 (by rw [List.length_map, List.length_range]; omega) fun v hv => by
    obtain ⟨k, _, rfl⟩ := List.mem_map.mp hv
    exact pt_item (B := 31) ptL_sm (by decide) (by rw [ptL_len]; omega)
  have c2 : ∀ x0 x3 x4 x5 x6 x7 x8 x9 x10, mLc (mL2 rng1 (mCons (mFn fLen (mCons (mVar 2) mNil)) mNil)) (gSet 3) (mNot (mAsB (mCall m__law_is_point [] (mCons (m2 dIx (mVar 2) (mVar 3)) (mCons (mVar 1) mNil))))) el_law_2 [3] [x0, .dat (.int (n : Int)), .dat (.list ws), x3, x4, x5, x6, x7, x8, x9, x10] = some (((List.range ws.length).filter fun k => !isPt n (ws.getD k .none)).map fun (k : Nat) => .int (k : Int)) := fun x0 x3 x4 x5 x6 x7 x8 x9 x10 => by
    refine comp_if (fun (k : Nat) => PyData.int (k : Int)) _ (fun k => !isPt n (ws.getD k .none)) (List.range ws.length) ?_ (by rw [List.length_range]; omega) fun k hk => ?_
    · (repeat (first | (with_reducible apply rng_nat <;> first | omega | skip) | (with_reducible apply MV.seq_ok) | (with_reducible apply MV.then_nx) | (with_reducible apply MV.then_rt) | (with_reducible apply MV.ar_cons) | (with_reducible apply MV.ar_nil) | (with_reducible apply MV.ex_c) | (with_reducible apply MV.var_0) | (with_reducible apply MV.var_s) | (with_reducible apply MV.own_0) | (with_reducible apply MV.own_0d) | (with_reducible apply MV.own_s) | (with_reducible apply MV.ex_2) | (with_reducible apply MV.ex_call0) | (with_reducible apply MV.ex_fn) | (with_reducible apply MV.st_set) | (with_reducible apply MV.set_0) | (with_reducible apply MV.set_s) | (with_reducible apply MV.st_post) | (with_reducible apply MV.post_nx) | (with_reducible apply MV.post_rt) | (with_reducible apply MV.wipe_0) | (with_reducible apply MV.wipe_s) | (with_reducible apply MV.op_add') | (with_reducible apply MV.op_sub') | (with_reducible apply MV.dMul_ok; rotate_left) | (with_reducible apply MV.dDiv_ok; rotate_left) | (with_reducible apply MV.dMod_ok; rotate_left) | (with_reducible apply MV.op_ixL) | (with_reducible apply MV.op_ixT) | (with_reducible apply MV.at_0) | (with_reducible apply MV.fn_int) | (with_reducible apply MV.fn_abs) | (with_reducible apply MV.fn_len) | (with_reducible apply MV.fn_lenT) | (with_reducible apply MV.fn_tupL) | (with_reducible apply MV.fn_tupT) | (with_reducible apply MV.fn_lstL) | (with_reducible apply MV.fn_lstT) | (with_reducible apply MV.ex_tup) | (with_reducible apply MV.ex_lst) | (with_reducible apply MV.ex_l) | (with_reducible apply MV.len_0) | (with_reducible apply MV.len_s) | (with_reducible apply MV.st_ret) | (with_reducible apply MV.retO_0) | (with_reducible apply MV.retO_0d) | (with_reducible apply MV.retO_s) | (with_reducible apply MV.st_if) | (with_reducible apply MV.ite_tt) | (with_reducible apply MV.ite_ff) | (with_reducible apply MV.bo_as) | (with_reducible apply MV.bo_tru) | (with_reducible apply MV.bo_and) | (with_reducible apply MV.bo_or) | (with_reducible apply MV.bo_not) | (with_reducible apply MV.not_t) | (with_reducible apply MV.not_f) | (with_reducible apply MV.ex_and) | (with_reducible apply MV.ex_or) | (with_reducible apply MV.ex_not) | (with_reducible apply MV.ex_if) | (with_reducible apply MV.st_skip) | (with_reducible apply MV.st_drop) | (with_reducible apply MV.st_brk) | (with_reducible apply MV.st_cnt) | (with_reducible apply MV.st_setO) | (with_reducible apply MV.app_at) | (with_reducible apply MV.get_0) | (with_reducible apply MV.get_s) | (with_reducible apply MV.st_par) | (with_reducible apply MV.st_asg) | (with_reducible apply MV.tg_set) | (with_reducible apply MV.tg_tup) | (with_reducible apply MV.tg_cons) | (with_reducible apply MV.tg_nil) | (with_reducible apply MV.st_for) | (with_reducible apply MV.st_frz) | (with_reducible apply MV.put_at) | (with_reducible apply MV.src_seq) | (with_reducible apply MV.src_2) | (with_reducible apply MV.seq_l) | (with_reducible apply MV.seq_t) | (with_reducible apply MV.zip_ok) | (with_reducible apply MV.enum_ok) | (with_reducible apply MV.ex_1) | (with_reducible apply MV.ex_call) | (with_reducible apply MV.op_neg') | (with_reducible apply MV.op_lt') | (with_reducible apply MV.op_le') | (with_reducible apply MV.op_gt') | (with_reducible apply MV.op_ge') | (with_reducible apply MV.op_p18) | (with_reducible apply MV.op_p9) | (with_reducible apply MV.op_p30) | (with_reducible apply MV.op_eqI) | (with_reducible apply MV.op_neI) | (with_reducible apply MV.op_eqSS) | (with_reducible apply MV.op_neSS) | (with_reducible apply MV.op_eqS) | (with_reducible apply MV.op_neS) | (with_reducible apply MV.op_eqB) | (with_reducible apply MV.op_neB) | (with_reducible apply MV.fn_gcd) | (with_reducible apply MV.fn_intB) | (with_reducible apply MV.post_bk) | (with_reducible apply MV.post_ct) | (with_reducible apply MV.then_bk) | (with_reducible apply MV.then_ct) | (with_reducible apply MV.cut_ok) | (with_reducible apply MV.part_ok) | (with_reducible apply MV.part_no) | (with_reducible apply MV.then_ex) | (with_reducible apply MV.post_ex) | (with_reducible apply MV.st_raise) | (with_reducible apply MV.mk_err) | (with_reducible apply MV.err_int) | (with_reducible apply MV.err_non) | (with_reducible apply MV.st_ifX) | (with_reducible apply MV.ifX_ok) | (with_reducible apply MV.ifX_er) | (with_reducible apply MV.ex_2X) | (with_reducible apply MV.m2R_er) | (with_reducible apply MV.m2R_ok) | (with_reducible apply MV.ex_callX) | (with_reducible apply MV.st_try) | (with_reducible apply MV.try_nx) | (with_reducible apply MV.try_rt) | (with_reducible apply MV.try_ex) | (with_reducible apply MV.end_rt) | (with_reducible apply MV.end_nx) | (with_reducible apply MV.st_guard) | (with_reducible apply MV.fld_ok) | (with_reducible apply MV.isv_ok) | (with_reducible apply MV.some_rfl) | (refine MV.ite_t (by assumption) ?_) | (refine MV.ite_f (by assumption) ?_) | (exact (by assumption : _ = true)) | (refine MV.ite_dt (by omega) ?_) | (refine MV.ite_df (by omega) ?_) | (refine MV.ite_et (by omega) ?_) | (refine MV.ite_ef (by omega) ?_)))
    · have hk' := List.mem_range.mp hk
      have g : atI ws (k : Int) = some (ws.getD k .none) := atI_nat (by rw [List.getD_eq_getElem?_getD, List.getElem?_eq_getElem hk']; rfl)
      have p := law_is_point_at (ws.getD k .none) n (hw _ (getD_in hk')).l
      cases hp : isPt n (ws.getD k .none) with
      | true =>
        rw [hp] at p
        refine ⟨[x0, .dat (.int (n : Int)), .dat (.list ws), .dat (.int (k : Int)), x4, x5, x6, x7, x8, x9, x10], rfl, ?_, fun z => by cases z⟩
        (repeat (first | (with_reducible apply g <;> first | omega | skip) | (with_reducible apply p <;> first | omega | skip) | (with_reducible apply MV.seq_ok) | (with_reducible apply MV.then_nx) | (with_reducible apply MV.then_rt) | (with_reducible apply MV.ar_cons) | (with_reducible apply MV.ar_nil) | (with_reducible apply MV.ex_c) | (with_reducible apply MV.var_0) | (with_reducible apply MV.var_s) | (with_reducible apply MV.own_0) | (with_reducible apply MV.own_0d) | (with_reducible apply MV.own_s) | (with_reducible apply MV.ex_2) | (with_reducible apply MV.ex_call0) | (with_reducible apply MV.ex_fn) | (with_reducible apply MV.st_set) | (with_reducible apply MV.set_0) | (with_reducible apply MV.set_s) | (with_reducible apply MV.st_post) | (with_reducible apply MV.post_nx) | (with_reducible apply MV.post_rt) | (with_reducible apply MV.wipe_0) | (with_reducible apply MV.wipe_s) | (with_reducible apply MV.op_add') | (with_reducible apply MV.op_sub') | (with_reducible apply MV.dMul_ok; rotate_left) | (with_reducible apply MV.dDiv_ok; rotate_left) | (with_reducible apply MV.dMod_ok; rotate_left) | (with_reducible apply MV.op_ixL) | (with_reducible apply MV.op_ixT) | (with_reducible apply MV.at_0) | (with_reducible apply MV.fn_int) | (with_reducible apply MV.fn_abs) | (with_reducible apply MV.fn_len) | (with_reducible apply MV.fn_lenT) | (with_reducible apply MV.fn_tupL) | (with_reducible apply MV.fn_tupT) | (with_reducible apply MV.fn_lstL) | (with_reducible apply MV.fn_lstT) | (with_reducible apply MV.ex_tup) | (with_reducible apply MV.ex_lst) | (with_reducible apply MV.ex_l) | (with_reducible apply MV.len_0) | (with_reducible apply MV.len_s) | (with_reducible apply MV.st_ret) | (with_reducible apply MV.retO_0) | (with_reducible apply MV.retO_0d) | (with_reducible apply MV.retO_s) | (with_reducible apply MV.st_if) | (with_reducible apply MV.ite_tt) | (with_reducible apply MV.ite_ff) | (with_reducible apply MV.bo_as) | (with_reducible apply MV.bo_tru) | (with_reducible apply MV.bo_and) | (with_reducible apply MV.bo_or) | (with_reducible apply MV.bo_not) | (with_reducible apply MV.not_t) | (with_reducible apply MV.not_f) | (with_reducible apply MV.ex_and) | (with_reducible apply MV.ex_or) | (with_reducible apply MV.ex_not) | (with_reducible apply MV.ex_if) | (with_reducible apply MV.st_skip) | (with_reducible apply MV.st_drop) | (with_reducible apply MV.st_brk) | (with_reducible apply MV.st_cnt) | (with_reducible apply MV.st_setO) | (with_reducible apply MV.app_at) | (with_reducible apply MV.get_0) | (with_reducible apply MV.get_s) | (with_reducible apply MV.st_par) | (with_reducible apply MV.st_asg) | (with_reducible apply MV.tg_set) | (with_reducible apply MV.tg_tup) | (with_reducible apply MV.tg_cons) | (with_reducible apply MV.tg_nil) | (with_reducible apply MV.st_for) | (with_reducible apply MV.st_frz) | (with_reducible apply MV.put_at) | (with_reducible apply MV.src_seq) | (with_reducible apply MV.src_2) | (with_reducible apply MV.seq_l) | (with_reducible apply MV.seq_t) | (with_reducible apply MV.zip_ok) | (with_reducible apply MV.enum_ok) | (with_reducible apply MV.ex_1) | (with_reducible apply MV.ex_call) | (with_reducible apply MV.op_neg') | (with_reducible apply MV.op_lt') | (with_reducible apply MV.op_le') | (with_reducible apply MV.op_gt') | (with_reducible apply MV.op_ge') | (with_reducible apply MV.op_p18) | (with_reducible apply MV.op_p9) | (with_reducible apply MV.op_p30) | (with_reducible apply MV.op_eqI) | (with_reducible apply MV.op_neI) | (with_reducible apply MV.op_eqSS) | (with_reducible apply MV.op_neSS) | (with_reducible apply MV.op_eqS) | (with_reducible apply MV.op_neS) | (with_reducible apply MV.op_eqB) | (with_reducible apply MV.op_neB) | (with_reducible apply MV.fn_gcd) | (with_reducible apply MV.fn_intB) | (with_reducible apply MV.post_bk) | (with_reducible apply MV.post_ct) | (with_reducible apply MV.then_bk) | (with_reducible apply MV.then_ct) | (with_reducible apply MV.cut_ok) | (with_reducible apply MV.part_ok) | (with_reducible apply MV.part_no) | (with_reducible apply MV.then_ex) | (with_reducible apply MV.post_ex) | (with_reducible apply MV.st_raise) | (with_reducible apply MV.mk_err) | (with_reducible apply MV.err_int) | (with_reducible apply MV.err_non) | (with_reducible apply MV.st_ifX) | (with_reducible apply MV.ifX_ok) | (with_reducible apply MV.ifX_er) | (with_reducible apply MV.ex_2X) | (with_reducible apply MV.m2R_er) | (with_reducible apply MV.m2R_ok) | (with_reducible apply MV.ex_callX) | (with_reducible apply MV.st_try) | (with_reducible apply MV.try_nx) | (with_reducible apply MV.try_rt) | (with_reducible apply MV.try_ex) | (with_reducible apply MV.end_rt) | (with_reducible apply MV.end_nx) | (with_reducible apply MV.st_guard) | (with_reducible apply MV.fld_ok) | (with_reducible apply MV.isv_ok) | (with_reducible apply MV.some_rfl) | (refine MV.ite_t (by assumption) ?_) | (refine MV.ite_f (by assumption) ?_) | (exact (by assumption : _ = true)) | (refine MV.ite_dt (by omega) ?_) | (refine MV.ite_df (by omega) ?_) | (refine MV.ite_et (by omega) ?_) | (refine MV.ite_ef (by omega) ?_)))
        rfl
      | false =>
        rw [hp] at p
        refine ⟨[x0, .dat (.int (n : Int)), .dat (.list ws), .dat (.int (k : Int)), x4, x5, x6, x7, x8, x9, x10], rfl, ?_, fun z => ?_⟩
        · (repeat (first | (with_reducible apply g <;> first | omega | skip) | (with_reducible apply p <;> first | omega | skip) | (with_reducible apply MV.seq_ok) | (with_reducible apply MV.then_nx) | (with_reducible apply MV.then_rt) | (with_reducible apply MV.ar_cons) | (with_reducible apply MV.ar_nil) | (with_reducible apply MV.ex_c) | (with_reducible apply MV.var_0) | (with_reducible apply MV.var_s) | (with_reducible apply MV.own_0) | (with_reducible apply MV.own_0d) | (with_reducible apply MV.own_s) | (with_reducible apply MV.ex_2) | (with_reducible apply MV.ex_call0) | (with_reducible apply MV.ex_fn) | (with_reducible apply MV.st_set) | (with_reducible apply MV.set_0) | (with_reducible apply MV.set_s) | (with_reducible apply MV.st_post) | (with_reducible apply MV.post_nx) | (with_reducible apply MV.post_rt) | (with_reducible apply MV.wipe_0) | (with_reducible apply MV.wipe_s) | (with_reducible apply MV.op_add') | (with_reducible apply MV.op_sub') | (with_reducible apply MV.dMul_ok; rotate_left) | (with_reducible apply MV.dDiv_ok; rotate_left) | (with_reducible apply MV.dMod_ok; rotate_left) | (with_reducible apply MV.op_ixL) | (with_reducible apply MV.op_ixT) | (with_reducible apply MV.at_0) | (with_reducible apply MV.fn_int) | (with_reducible apply MV.fn_abs) | (with_reducible apply MV.fn_len) | (with_reducible apply MV.fn_lenT) | (with_reducible apply MV.fn_tupL) | (with_reducible apply MV.fn_tupT) | (with_reducible apply MV.fn_lstL) | (with_reducible apply MV.fn_lstT) | (with_reducible apply MV.ex_tup) | (with_reducible apply MV.ex_lst) | (with_reducible apply MV.ex_l) | (with_reducible apply MV.len_0) | (with_reducible apply MV.len_s) | (with_reducible apply MV.st_ret) | (with_reducible apply MV.retO_0) | (with_reducible apply MV.retO_0d) | (with_reducible apply MV.retO_s) | (with_reducible apply MV.st_if) | (with_reducible apply MV.ite_tt) | (with_reducible apply MV.ite_ff) | (with_reducible apply MV.bo_as) | (with_reducible apply MV.bo_tru) | (with_reducible apply MV.bo_and) | (with_reducible apply MV.bo_or) | (with_reducible apply MV.bo_not) | (with_reducible apply MV.not_t) | (with_reducible apply MV.not_f) | (with_reducible apply MV.ex_and) | (with_reducible apply MV.ex_or) | (with_reducible apply MV.ex_not) | (with_reducible apply MV.ex_if) | (with_reducible apply MV.st_skip) | (with_reducible apply MV.st_drop) | (with_reducible apply MV.st_brk) | (with_reducible apply MV.st_cnt) | (with_reducible apply MV.st_setO) | (with_reducible apply MV.app_at) | (with_reducible apply MV.get_0) | (with_reducible apply MV.get_s) | (with_reducible apply MV.st_par) | (with_reducible apply MV.st_asg) | (with_reducible apply MV.tg_set) | (with_reducible apply MV.tg_tup) | (with_reducible apply MV.tg_cons) | (with_reducible apply MV.tg_nil) | (with_reducible apply MV.st_for) | (with_reducible apply MV.st_frz) | (with_reducible apply MV.put_at) | (with_reducible apply MV.src_seq) | (with_reducible apply MV.src_2) | (with_reducible apply MV.seq_l) | (with_reducible apply MV.seq_t) | (with_reducible apply MV.zip_ok) | (with_reducible apply MV.enum_ok) | (with_reducible apply MV.ex_1) | (with_reducible apply MV.ex_call) | (with_reducible apply MV.op_neg') | (with_reducible apply MV.op_lt') | (with_reducible apply MV.op_le') | (with_reducible apply MV.op_gt') | (with_reducible apply MV.op_ge') | (with_reducible apply MV.op_p18) | (with_reducible apply MV.op_p9) | (with_reducible apply MV.op_p30) | (with_reducible apply MV.op_eqI) | (with_reducible apply MV.op_neI) | (with_reducible apply MV.op_eqSS) | (with_reducible apply MV.op_neSS) | (with_reducible apply MV.op_eqS) | (with_reducible apply MV.op_neS) | (with_reducible apply MV.op_eqB) | (with_reducible apply MV.op_neB) | (with_reducible apply MV.fn_gcd) | (with_reducible apply MV.fn_intB) | (with_reducible apply MV.post_bk) | (with_reducible apply MV.post_ct) | (with_reducible apply MV.then_bk) | (with_reducible apply MV.then_ct) | (with_reducible apply MV.cut_ok) | (with_reducible apply MV.part_ok) | (with_reducible apply MV.part_no) | (with_reducible apply MV.then_ex) | (with_reducible apply MV.post_ex) | (with_reducible apply MV.st_raise) | (with_reducible apply MV.mk_err) | (with_reducible apply MV.err_int) | (with_reducible apply MV.err_non) | (with_reducible apply MV.st_ifX) | (with_reducible apply MV.ifX_ok) | (with_reducible apply MV.ifX_er) | (with_reducible apply MV.ex_2X) | (with_reducible apply MV.m2R_er) | (with_reducible apply MV.m2R_ok) | (with_reducible apply MV.ex_callX) | (with_reducible apply MV.st_try) | (with_reducible apply MV.try_nx) | (with_reducible apply MV.try_rt) | (with_reducible apply MV.try_ex) | (with_reducible apply MV.end_rt) | (with_reducible apply MV.end_nx) | (with_reducible apply MV.st_guard) | (with_reducible apply MV.fld_ok) | (with_reducible apply MV.isv_ok) | (with_reducible apply MV.some_rfl) | (refine MV.ite_t (by assumption) ?_) | (refine MV.ite_f (by assumption) ?_) | (exact (by assumption : _ = true)) | (refine MV.ite_dt (by omega) ?_) | (refine MV.ite_df (by omega) ?_) | (refine MV.ite_et (by omega) ?_) | (refine MV.ite_ef (by omega) ?_)))
          rfl
        · unfold el_law_2
          (repeat (first | (with_reducible apply MV.seq_ok) | (with_reducible apply MV.then_nx) | (with_reducible apply MV.then_rt) | (with_reducible apply MV.ar_cons) | (with_reducible apply MV.ar_nil) | (with_reducible apply MV.ex_c) | (with_reducible apply MV.var_0) | (with_reducible apply MV.var_s) | (with_reducible apply MV.own_0) | (with_reducible apply MV.own_0d) | (with_reducible apply MV.own_s) | (with_reducible apply MV.ex_2) | (with_reducible apply MV.ex_call0) | (with_reducible apply MV.ex_fn) | (with_reducible apply MV.st_set) | (with_reducible apply MV.set_0) | (with_reducible apply MV.set_s) | (with_reducible apply MV.st_post) | (with_reducible apply MV.post_nx) | (with_reducible apply MV.post_rt) | (with_reducible apply MV.wipe_0) | (with_reducible apply MV.wipe_s) | (with_reducible apply MV.op_add') | (with_reducible apply MV.op_sub') | (with_reducible apply MV.dMul_ok; rotate_left) | (with_reducible apply MV.dDiv_ok; rotate_left) | (with_reducible apply MV.dMod_ok; rotate_left) | (with_reducible apply MV.op_ixL) | (with_reducible apply MV.op_ixT) | (with_reducible apply MV.at_0) | (with_reducible apply MV.fn_int) | (with_reducible apply MV.fn_abs) | (with_reducible apply MV.fn_len) | (with_reducible apply MV.fn_lenT) | (with_reducible apply MV.fn_tupL) | (with_reducible apply MV.fn_tupT) | (with_reducible apply MV.fn_lstL) | (with_reducible apply MV.fn_lstT) | (with_reducible apply MV.ex_tup) | (with_reducible apply MV.ex_lst) | (with_reducible apply MV.ex_l) | (with_reducible apply MV.len_0) | (with_reducible apply MV.len_s) | (with_reducible apply MV.st_ret) | (with_reducible apply MV.retO_0) | (with_reducible apply MV.retO_0d) | (with_reducible apply MV.retO_s) | (with_reducible apply MV.st_if) | (with_reducible apply MV.ite_tt) | (with_reducible apply MV.ite_ff) | (with_reducible apply MV.bo_as) | (with_reducible apply MV.bo_tru) | (with_reducible apply MV.bo_and) | (with_reducible apply MV.bo_or) | (with_reducible apply MV.bo_not) | (with_reducible apply MV.not_t) | (with_reducible apply MV.not_f) | (with_reducible apply MV.ex_and) | (with_reducible apply MV.ex_or) | (with_reducible apply MV.ex_not) | (with_reducible apply MV.ex_if) | (with_reducible apply MV.st_skip) | (with_reducible apply MV.st_drop) | (with_reducible apply MV.st_brk) | (with_reducible apply MV.st_cnt) | (with_reducible apply MV.st_setO) | (with_reducible apply MV.app_at) | (with_reducible apply MV.get_0) | (with_reducible apply MV.get_s) | (with_reducible apply MV.st_par) | (with_reducible apply MV.st_asg) | (with_reducible apply MV.tg_set) | (with_reducible apply MV.tg_tup) | (with_reducible apply MV.tg_cons) | (with_reducible apply MV.tg_nil) | (with_reducible apply MV.st_for) | (with_reducible apply MV.st_frz) | (with_reducible apply MV.put_at) | (with_reducible apply MV.src_seq) | (with_reducible apply MV.src_2) | (with_reducible apply MV.seq_l) | (with_reducible apply MV.seq_t) | (with_reducible apply MV.zip_ok) | (with_reducible apply MV.enum_ok) | (with_reducible apply MV.ex_1) | (with_reducible apply MV.ex_call) | (with_reducible apply MV.op_neg') | (with_reducible apply MV.op_lt') | (with_reducible apply MV.op_le') | (with_reducible apply MV.op_gt') | (with_reducible apply MV.op_ge') | (with_reducible apply MV.op_p18) | (with_reducible apply MV.op_p9) | (with_reducible apply MV.op_p30) | (with_reducible apply MV.op_eqI) | (with_reducible apply MV.op_neI) | (with_reducible apply MV.op_eqSS) | (with_reducible apply MV.op_neSS) | (with_reducible apply MV.op_eqS) | (with_reducible apply MV.op_neS) | (with_reducible apply MV.op_eqB) | (with_reducible apply MV.op_neB) | (with_reducible apply MV.fn_gcd) | (with_reducible apply MV.fn_intB) | (with_reducible apply MV.post_bk) | (with_reducible apply MV.post_ct) | (with_reducible apply MV.then_bk) | (with_reducible apply MV.then_ct) | (with_reducible apply MV.cut_ok) | (with_reducible apply MV.part_ok) | (with_reducible apply MV.part_no) | (with_reducible apply MV.then_ex) | (with_reducible apply MV.post_ex) | (with_reducible apply MV.st_raise) | (with_reducible apply MV.mk_err) | (with_reducible apply MV.err_int) | (with_reducible apply MV.err_non) | (with_reducible apply MV.st_ifX) | (with_reducible apply MV.ifX_ok) | (with_reducible apply MV.ifX_er) | (with_reducible apply MV.ex_2X) | (with_reducible apply MV.m2R_er) | (with_reducible apply MV.m2R_ok) | (with_reducible apply MV.ex_callX) | (with_reducible apply MV.st_try) | (with_reducible apply MV.try_nx) | (with_reducible apply MV.try_rt) | (with_reducible apply MV.try_ex) | (with_reducible apply MV.end_rt) | (with_reducible apply MV.end_nx) | (with_reducible apply MV.st_guard) | (with_reducible apply MV.fld_ok) | (with_reducible apply MV.isv_ok) | (with_reducible apply MV.some_rfl) | (refine MV.ite_t (by assumption) ?_) | (refine MV.ite_f (by assumption) ?_) | (exact (by assumption : _ = true)) | (refine MV.ite_dt (by omega) ?_) | (refine MV.ite_df (by omega) ?_) | (refine MV.ite_et (by omega) ?_) | (refine MV.ite_ef (by omega) ?_)))
  have fb := idx_first (fun v => !isPt n v) ws
  have tl := told_at (.list ws) ws n rfl (by omega) (by omega)
  have tt := told_at (.tuple ws) ws n rfl (by omega) (by omega)
  have rw1 := fRepr_ok (items_repr hw hl)
  have lo2 := fun c0 c2 c3 c4 c5 c6 c8 c9 c10 => last_loop n n4 c0 c2 c3 c4 c5 c6 c8 c9 c10 ws hw
  have bNS : ∀ N ∈ (List.range n).map (fun (k : Nat) => numL (cellz ns (11 + (k : Int))) (k : Int)), N.natAbs < 2 ^ 30 := fun N hN => by
    obtain ⟨k, _, rfl⟩ := List.mem_map.mp hN
    exact num_lt _ _
  have lNS : ((List.range n).map (fun (k : Nat) => numL (cellz ns (11 + (k : Int))) (k : Int))).length < 600 := by rw [List.length_map, List.length_range]; omega
  have c3 : ∀ x2 x3 x4 x5 x6 x7 x8 x9 x10, mLc (mL2 rng1 (mCons (mVar 1) mNil)) (gSet 3) mYes el_law_3 [3] [.dat (.list (ns.map PyData.int)), .dat (.int (n : Int)), x2, x3, x4, x5, x6, x7, x8, x9, x10] = some (((List.range n).map (fun (k : Nat) => numL (cellz ns (11 + (k : Int))) (k : Int))).map PyData.int) := fun x2 x3 x4 x5 x6 x7 x8 x9 x10 => by
    rw [List.map_map]
    refine comp_at (fun (k : Nat) => PyData.int (k : Int)) _ (List.range n) ?_ (by rw [List.length_range]; omega) fun k hm => ?_
    · (repeat (first | (with_reducible apply rng_nat <;> first | omega | skip) | (with_reducible apply MV.seq_ok) | (with_reducible apply MV.then_nx) | (with_reducible apply MV.then_rt) | (with_reducible apply MV.ar_cons) | (with_reducible apply MV.ar_nil) | (with_reducible apply MV.ex_c) | (with_reducible apply MV.var_0) | (with_reducible apply MV.var_s) | (with_reducible apply MV.own_0) | (with_reducible apply MV.own_0d) | (with_reducible apply MV.own_s) | (with_reducible apply MV.ex_2) | (with_reducible apply MV.ex_call0) | (with_reducible apply MV.ex_fn) | (with_reducible apply MV.st_set) | (with_reducible apply MV.set_0) | (with_reducible apply MV.set_s) | (with_reducible apply MV.st_post) | (with_reducible apply MV.post_nx) | (with_reducible apply MV.post_rt) | (with_reducible apply MV.wipe_0) | (with_reducible apply MV.wipe_s) | (with_reducible apply MV.op_add') | (with_reducible apply MV.op_sub') | (with_reducible apply MV.dMul_ok; rotate_left) | (with_reducible apply MV.dDiv_ok; rotate_left) | (with_reducible apply MV.dMod_ok; rotate_left) | (with_reducible apply MV.op_ixL) | (with_reducible apply MV.op_ixT) | (with_reducible apply MV.at_0) | (with_reducible apply MV.fn_int) | (with_reducible apply MV.fn_abs) | (with_reducible apply MV.fn_len) | (with_reducible apply MV.fn_lenT) | (with_reducible apply MV.fn_tupL) | (with_reducible apply MV.fn_tupT) | (with_reducible apply MV.fn_lstL) | (with_reducible apply MV.fn_lstT) | (with_reducible apply MV.ex_tup) | (with_reducible apply MV.ex_lst) | (with_reducible apply MV.ex_l) | (with_reducible apply MV.len_0) | (with_reducible apply MV.len_s) | (with_reducible apply MV.st_ret) | (with_reducible apply MV.retO_0) | (with_reducible apply MV.retO_0d) | (with_reducible apply MV.retO_s) | (with_reducible apply MV.st_if) | (with_reducible apply MV.ite_tt) | (with_reducible apply MV.ite_ff) | (with_reducible apply MV.bo_as) | (with_reducible apply MV.bo_tru) | (with_reducible apply MV.bo_and) | (with_reducible apply MV.bo_or) | (with_reducible apply MV.bo_not) | (with_reducible apply MV.not_t) | (with_reducible apply MV.not_f) | (with_reducible apply MV.ex_and) | (with_reducible apply MV.ex_or) | (with_reducible apply MV.ex_not) | (with_reducible apply MV.ex_if) | (with_reducible apply MV.st_skip) | (with_reducible apply MV.st_drop) | (with_reducible apply MV.st_brk) | (with_reducible apply MV.st_cnt) | (with_reducible apply MV.st_setO) | (with_reducible apply MV.app_at) | (with_reducible apply MV.get_0) | (with_reducible apply MV.get_s) | (with_reducible apply MV.st_par) | (with_reducible apply MV.st_asg) | (with_reducible apply MV.tg_set) | (with_reducible apply MV.tg_tup) | (with_reducible apply MV.tg_cons) | (with_reducible apply MV.tg_nil) | (with_reducible apply MV.st_for) | (with_reducible apply MV.st_frz) | (with_reducible apply MV.put_at) | (with_reducible apply MV.src_seq) | (with_reducible apply MV.src_2) | (with_reducible apply MV.seq_l) | (with_reducible apply MV.seq_t) | (with_reducible apply MV.zip_ok) | (with_reducible apply MV.enum_ok) | (with_reducible apply MV.ex_1) | (with_reducible apply MV.ex_call) | (with_reducible apply MV.op_neg') | (with_reducible apply MV.op_lt') | (with_reducible apply MV.op_le') | (with_reducible apply MV.op_gt') | (with_reducible apply MV.op_ge') | (with_reducible apply MV.op_p18) | (with_reducible apply MV.op_p9) | (with_reducible apply MV.op_p30) | (with_reducible apply MV.op_eqI) | (with_reducible apply MV.op_neI) | (with_reducible apply MV.op_eqSS) | (with_reducible apply MV.op_neSS) | (with_reducible apply MV.op_eqS) | (with_reducible apply MV.op_neS) | (with_reducible apply MV.op_eqB) | (with_reducible apply MV.op_neB) | (with_reducible apply MV.fn_gcd) | (with_reducible apply MV.fn_intB) | (with_reducible apply MV.post_bk) | (with_reducible apply MV.post_ct) | (with_reducible apply MV.then_bk) | (with_reducible apply MV.then_ct) | (with_reducible apply MV.cut_ok) | (with_reducible apply MV.part_ok) | (with_reducible apply MV.part_no) | (with_reducible apply MV.then_ex) | (with_reducible apply MV.post_ex) | (with_reducible apply MV.st_raise) | (with_reducible apply MV.mk_err) | (with_reducible apply MV.err_int) | (with_reducible apply MV.err_non) | (with_reducible apply MV.st_ifX) | (with_reducible apply MV.ifX_ok) | (with_reducible apply MV.ifX_er) | (with_reducible apply MV.ex_2X) | (with_reducible apply MV.m2R_er) | (with_reducible apply MV.m2R_ok) | (with_reducible apply MV.ex_callX) | (with_reducible apply MV.st_try) | (with_reducible apply MV.try_nx) | (with_reducible apply MV.try_rt) | (with_reducible apply MV.try_ex) | (with_reducible apply MV.end_rt) | (with_reducible apply MV.end_nx) | (with_reducible apply MV.st_guard) | (with_reducible apply MV.fld_ok) | (with_reducible apply MV.isv_ok) | (with_reducible apply MV.some_rfl) | (refine MV.ite_t (by assumption) ?_) | (refine MV.ite_f (by assumption) ?_) | (exact (by assumption : _ = true)) | (refine MV.ite_dt (by omega) ?_) | (refine MV.ite_df (by omega) ?_) | (refine MV.ite_et (by omega) ?_) | (refine MV.ite_ef (by omega) ?_)))
    · apply comp_el
      (repeat (first | (with_reducible apply un_el_law_3 <;> first | omega | skip) | (with_reducible apply cell_z <;> first | omega | skip) | (with_reducible apply number_at <;> first | omega | skip) | (with_reducible apply MV.seq_ok) | (with_reducible apply MV.then_nx) | (with_reducible apply MV.then_rt) | (with_reducible apply MV.ar_cons) | (with_reducible apply MV.ar_nil) | (with_reducible apply MV.ex_c) | (with_reducible apply MV.var_0) | (with_reducible apply MV.var_s) | (with_reducible apply MV.own_0) | (with_reducible apply MV.own_0d) | (with_reducible apply MV.own_s) | (with_reducible apply MV.ex_2) | (with_reducible apply MV.ex_call0) | (with_reducible apply MV.ex_fn) | (with_reducible apply MV.st_set) | (with_reducible apply MV.set_0) | (with_reducible apply MV.set_s) | (with_reducible apply MV.st_post) | (with_reducible apply MV.post_nx) | (with_reducible apply MV.post_rt) | (with_reducible apply MV.wipe_0) | (with_reducible apply MV.wipe_s) | (with_reducible apply MV.op_add') | (with_reducible apply MV.op_sub') | (with_reducible apply MV.dMul_ok; rotate_left) | (with_reducible apply MV.dDiv_ok; rotate_left) | (with_reducible apply MV.dMod_ok; rotate_left) | (with_reducible apply MV.op_ixL) | (with_reducible apply MV.op_ixT) | (with_reducible apply MV.at_0) | (with_reducible apply MV.fn_int) | (with_reducible apply MV.fn_abs) | (with_reducible apply MV.fn_len) | (with_reducible apply MV.fn_lenT) | (with_reducible apply MV.fn_tupL) | (with_reducible apply MV.fn_tupT) | (with_reducible apply MV.fn_lstL) | (with_reducible apply MV.fn_lstT) | (with_reducible apply MV.ex_tup) | (with_reducible apply MV.ex_lst) | (with_reducible apply MV.ex_l) | (with_reducible apply MV.len_0) | (with_reducible apply MV.len_s) | (with_reducible apply MV.st_ret) | (with_reducible apply MV.retO_0) | (with_reducible apply MV.retO_0d) | (with_reducible apply MV.retO_s) | (with_reducible apply MV.st_if) | (with_reducible apply MV.ite_tt) | (with_reducible apply MV.ite_ff) | (with_reducible apply MV.bo_as) | (with_reducible apply MV.bo_tru) | (with_reducible apply MV.bo_and) | (with_reducible apply MV.bo_or) | (with_reducible apply MV.bo_not) | (with_reducible apply MV.not_t) | (with_reducible apply MV.not_f) | (with_reducible apply MV.ex_and) | (with_reducible apply MV.ex_or) | (with_reducible apply MV.ex_not) | (with_reducible apply MV.ex_if) | (with_reducible apply MV.st_skip) | (with_reducible apply MV.st_drop) | (with_reducible apply MV.st_brk) | (with_reducible apply MV.st_cnt) | (with_reducible apply MV.st_setO) | (with_reducible apply MV.app_at) | (with_reducible apply MV.get_0) | (with_reducible apply MV.get_s) | (with_reducible apply MV.st_par) | (with_reducible apply MV.st_asg) | (with_reducible apply MV.tg_set) | (with_reducible apply MV.tg_tup) | (with_reducible apply MV.tg_cons) | (with_reducible apply MV.tg_nil) | (with_reducible apply MV.st_for) | (with_reducible apply MV.st_frz) | (with_reducible apply MV.put_at) | (with_reducible apply MV.src_seq) | (with_reducible apply MV.src_2) | (with_reducible apply MV.seq_l) | (with_reducible apply MV.seq_t) | (with_reducible apply MV.zip_ok) | (with_reducible apply MV.enum_ok) | (with_reducible apply MV.ex_1) | (with_reducible apply MV.ex_call) | (with_reducible apply MV.op_neg') | (with_reducible apply MV.op_lt') | (with_reducible apply MV.op_le') | (with_reducible apply MV.op_gt') | (with_reducible apply MV.op_ge') | (with_reducible apply MV.op_p18) | (with_reducible apply MV.op_p9) | (with_reducible apply MV.op_p30) | (with_reducible apply MV.op_eqI) | (with_reducible apply MV.op_neI) | (with_reducible apply MV.op_eqSS) | (with_reducible apply MV.op_neSS) | (with_reducible apply MV.op_eqS) | (with_reducible apply MV.op_neS) | (with_reducible apply MV.op_eqB) | (with_reducible apply MV.op_neB) | (with_reducible apply MV.fn_gcd) | (with_reducible apply MV.fn_intB) | (with_reducible apply MV.post_bk) | (with_reducible apply MV.post_ct) | (with_reducible apply MV.then_bk) | (with_reducible apply MV.then_ct) | (with_reducible apply MV.cut_ok) | (with_reducible apply MV.part_ok) | (with_reducible apply MV.part_no) | (with_reducible apply MV.then_ex) | (with_reducible apply MV.post_ex) | (with_reducible apply MV.st_raise) | (with_reducible apply MV.mk_err) | (with_reducible apply MV.err_int) | (with_reducible apply MV.err_non) | (with_reducible apply MV.st_ifX) | (with_reducible apply MV.ifX_ok) | (with_reducible apply MV.ifX_er) | (with_reducible apply MV.ex_2X) | (with_reducible apply MV.m2R_er) | (with_reducible apply MV.m2R_ok) | (with_reducible apply MV.ex_callX) | (with_reducible apply MV.st_try) | (with_reducible apply MV.try_nx) | (with_reducible apply MV.try_rt) | (with_reducible apply MV.try_ex) | (with_reducible apply MV.end_rt) | (with_reducible apply MV.end_nx) | (with_reducible apply MV.st_guard) | (with_reducible apply MV.fld_ok) | (with_reducible apply MV.isv_ok) | (with_reducible apply MV.some_rfl) | (refine MV.ite_t (by assumption) ?_) | (refine MV.ite_f (by assumption) ?_) | (exact (by assumption : _ = true)) | (refine MV.ite_dt (by omega) ?_) | (refine MV.ite_df (by omega) ?_) | (refine MV.ite_et (by omega) ?_) | (refine MV.ite_ef (by omega) ?_)))
      rfl
  generalize (List.range n).map (fun (k : Nat) => numL (cellz ns (11 + (k : Int))) (k : Int)) = NS at bNS lNS c3
  have bV := num_lt (cellz ns 15) 5
  have mV : ∃ V : Int, V ≠ 0 ∧ V.natAbs < 2 ^ 30 ∧ ∀ x0 x1 x2 x3 x4 x5 x6 x7 x8 x10, mIfS (mAsB (m2 dEq (mVar 9) (mC (.int 0)))) (mSet 9 (m1 dNeg (mC (.int 7)))) mSkip [x0, x1, x2, x3, x4, x5, x6, x7, x8, .dat (.int (numL (cellz ns 15) 5)), x10] = some (.nx [x0, x1, x2, x3, x4, x5, x6, x7, x8, .dat (.int V), x10]) := by
    generalize numL (cellz ns 15) 5 = V0 at bV
    by_cases hV : V0 = 0
    · subst hV
      refine ⟨-7, by decide, by decide, fun x0 x1 x2 x3 x4 x5 x6 x7 x8 x10 => ?_⟩
      have z : dEq (.int 0) (.int 0) = some (.bool true) := rfl
      (repeat (first | (with_reducible apply z <;> first | omega | skip) | (with_reducible apply MV.seq_ok) | (with_reducible apply MV.then_nx) | (with_reducible apply MV.then_rt) | (with_reducible apply MV.ar_cons) | (with_reducible apply MV.ar_nil) | (with_reducible apply MV.ex_c) | (with_reducible apply MV.var_0) | (with_reducible apply MV.var_s) | (with_reducible apply MV.own_0) | (with_reducible apply MV.own_0d) | (with_reducible apply MV.own_s) | (with_reducible apply MV.ex_2) | (with_reducible apply MV.ex_call0) | (with_reducible apply MV.ex_fn) | (with_reducible apply MV.st_set) | (with_reducible apply MV.set_0) | (with_reducible apply MV.set_s) | (with_reducible apply MV.st_post) | (with_reducible apply MV.post_nx) | (with_reducible apply MV.post_rt) | (with_reducible apply MV.wipe_0) | (with_reducible apply MV.wipe_s) | (with_reducible apply MV.op_add') | (with_reducible apply MV.op_sub') | (with_reducible apply MV.dMul_ok; rotate_left) | (with_reducible apply MV.dDiv_ok; rotate_left) | (with_reducible apply MV.dMod_ok; rotate_left) | (with_reducible apply MV.op_ixL) | (with_reducible apply MV.op_ixT) | (with_reducible apply MV.at_0) | (with_reducible apply MV.fn_int) | (with_reducible apply MV.fn_abs) | (with_reducible apply MV.fn_len) | (with_reducible apply MV.fn_lenT) | (with_reducible apply MV.fn_tupL) | (with_reducible apply MV.fn_tupT) | (with_reducible apply MV.fn_lstL) | (with_reducible apply MV.fn_lstT) | (with_reducible apply MV.ex_tup) | (with_reducible apply MV.ex_lst) | (with_reducible apply MV.ex_l) | (with_reducible apply MV.len_0) | (with_reducible apply MV.len_s) | (with_reducible apply MV.st_ret) | (with_reducible apply MV.retO_0) | (with_reducible apply MV.retO_0d) | (with_reducible apply MV.retO_s) | (with_reducible apply MV.st_if) | (with_reducible apply MV.ite_tt) | (with_reducible apply MV.ite_ff) | (with_reducible apply MV.bo_as) | (with_reducible apply MV.bo_tru) | (with_reducible apply MV.bo_and) | (with_reducible apply MV.bo_or) | (with_reducible apply MV.bo_not) | (with_reducible apply MV.not_t) | (with_reducible apply MV.not_f) | (with_reducible apply MV.ex_and) | (with_reducible apply MV.ex_or) | (with_reducible apply MV.ex_not) | (with_reducible apply MV.ex_if) | (with_reducible apply MV.st_skip) | (with_reducible apply MV.st_drop) | (with_reducible apply MV.st_brk) | (with_reducible apply MV.st_cnt) | (with_reducible apply MV.st_setO) | (with_reducible apply MV.app_at) | (with_reducible apply MV.get_0) | (with_reducible apply MV.get_s) | (with_reducible apply MV.st_par) | (with_reducible apply MV.st_asg) | (with_reducible apply MV.tg_set) | (with_reducible apply MV.tg_tup) | (with_reducible apply MV.tg_cons) | (with_reducible apply MV.tg_nil) | (with_reducible apply MV.st_for) | (with_reducible apply MV.st_frz) | (with_reducible apply MV.put_at) | (with_reducible apply MV.src_seq) | (with_reducible apply MV.src_2) | (with_reducible apply MV.seq_l) | (with_reducible apply MV.seq_t) | (with_reducible apply MV.zip_ok) | (with_reducible apply MV.enum_ok) | (with_reducible apply MV.ex_1) | (with_reducible apply MV.ex_call) | (with_reducible apply MV.op_neg') | (with_reducible apply MV.op_lt') | (with_reducible apply MV.op_le') | (with_reducible apply MV.op_gt') | (with_reducible apply MV.op_ge') | (with_reducible apply MV.op_p18) | (with_reducible apply MV.op_p9) | (with_reducible apply MV.op_p30) | (with_reducible apply MV.op_eqI) | (with_reducible apply MV.op_neI) | (with_reducible apply MV.op_eqSS) | (with_reducible apply MV.op_neSS) | (with_reducible apply MV.op_eqS) | (with_reducible apply MV.op_neS) | (with_reducible apply MV.op_eqB) | (with_reducible apply MV.op_neB) | (with_reducible apply MV.fn_gcd) | (with_reducible apply MV.fn_intB) | (with_reducible apply MV.post_bk) | (with_reducible apply MV.post_ct) | (with_reducible apply MV.then_bk) | (with_reducible apply MV.then_ct) | (with_reducible apply MV.cut_ok) | (with_reducible apply MV.part_ok) | (with_reducible apply MV.part_no) | (with_reducible apply MV.then_ex) | (with_reducible apply MV.post_ex) | (with_reducible apply MV.st_raise) | (with_reducible apply MV.mk_err) | (with_reducible apply MV.err_int) | (with_reducible apply MV.err_non) | (with_reducible apply MV.st_ifX) | (with_reducible apply MV.ifX_ok) | (with_reducible apply MV.ifX_er) | (with_reducible apply MV.ex_2X) | (with_reducible apply MV.m2R_er) | (with_reducible apply MV.m2R_ok) | (with_reducible apply MV.ex_callX) | (with_reducible apply MV.st_try) | (with_reducible apply MV.try_nx) | (with_reducible apply MV.try_rt) | (with_reducible apply MV.try_ex) | (with_reducible apply MV.end_rt) | (with_reducible apply MV.end_nx) | (with_reducible apply MV.st_guard) | (with_reducible apply MV.fld_ok) | (with_reducible apply MV.isv_ok) | (with_reducible apply MV.some_rfl) | (refine MV.ite_t (by assumption) ?_) | (refine MV.ite_f (by assumption) ?_) | (exact (by assumption : _ = true)) | (refine MV.ite_dt (by omega) ?_) | (refine MV.ite_df (by omega) ?_) | (refine MV.ite_et (by omega) ?_) | (refine MV.ite_ef (by omega) ?_)))
    · refine ⟨V0, hV, bV, fun x0 x1 x2 x3 x4 x5 x6 x7 x8 x10 => ?_⟩
      have z : dEq (.int V0) (.int 0) = some (.bool false) := by
        rw [op_eqI, show (V0 == 0) = false by simpa using hV]
      (repeat (first | (with_reducible apply z <;> first | omega | skip) | (with_reducible apply MV.seq_ok) | (with_reducible apply MV.then_nx) | (with_reducible apply MV.then_rt) | (with_reducible apply MV.ar_cons) | (with_reducible apply MV.ar_nil) | (with_reducible apply MV.ex_c) | (with_reducible apply MV.var_0) | (with_reducible apply MV.var_s) | (with_reducible apply MV.own_0) | (with_reducible apply MV.own_0d) | (with_reducible apply MV.own_s) | (with_reducible apply MV.ex_2) | (with_reducible apply MV.ex_call0) | (with_reducible apply MV.ex_fn) | (with_reducible apply MV.st_set) | (with_reducible apply MV.set_0) | (with_reducible apply MV.set_s) | (with_reducible apply MV.st_post) | (with_reducible apply MV.post_nx) | (with_reducible apply MV.post_rt) | (with_reducible apply MV.wipe_0) | (with_reducible apply MV.wipe_s) | (with_reducible apply MV.op_add') | (with_reducible apply MV.op_sub') | (with_reducible apply MV.dMul_ok; rotate_left) | (with_reducible apply MV.dDiv_ok; rotate_left) | (with_reducible apply MV.dMod_ok; rotate_left) | (with_reducible apply MV.op_ixL) | (with_reducible apply MV.op_ixT) | (with_reducible apply MV.at_0) | (with_reducible apply MV.fn_int) | (with_reducible apply MV.fn_abs) | (with_reducible apply MV.fn_len) | (with_reducible apply MV.fn_lenT) | (with_reducible apply MV.fn_tupL) | (with_reducible apply MV.fn_tupT) | (with_reducible apply MV.fn_lstL) | (with_reducible apply MV.fn_lstT) | (with_reducible apply MV.ex_tup) | (with_reducible apply MV.ex_lst) | (with_reducible apply MV.ex_l) | (with_reducible apply MV.len_0) | (with_reducible apply MV.len_s) | (with_reducible apply MV.st_ret) | (with_reducible apply MV.retO_0) | (with_reducible apply MV.retO_0d) | (with_reducible apply MV.retO_s) | (with_reducible apply MV.st_if) | (with_reducible apply MV.ite_tt) | (with_reducible apply MV.ite_ff) | (with_reducible apply MV.bo_as) | (with_reducible apply MV.bo_tru) | (with_reducible apply MV.bo_and) | (with_reducible apply MV.bo_or) | (with_reducible apply MV.bo_not) | (with_reducible apply MV.not_t) | (with_reducible apply MV.not_f) | (with_reducible apply MV.ex_and) | (with_reducible apply MV.ex_or) | (with_reducible apply MV.ex_not) | (with_reducible apply MV.ex_if) | (with_reducible apply MV.st_skip) | (with_reducible apply MV.st_drop) | (with_reducible apply MV.st_brk) | (with_reducible apply MV.st_cnt) | (with_reducible apply MV.st_setO) | (with_reducible apply MV.app_at) | (with_reducible apply MV.get_0) | (with_reducible apply MV.get_s) | (with_reducible apply MV.st_par) | (with_reducible apply MV.st_asg) | (with_reducible apply MV.tg_set) | (with_reducible apply MV.tg_tup) | (with_reducible apply MV.tg_cons) | (with_reducible apply MV.tg_nil) | (with_reducible apply MV.st_for) | (with_reducible apply MV.st_frz) | (with_reducible apply MV.put_at) | (with_reducible apply MV.src_seq) | (with_reducible apply MV.src_2) | (with_reducible apply MV.seq_l) | (with_reducible apply MV.seq_t) | (with_reducible apply MV.zip_ok) | (with_reducible apply MV.enum_ok) | (with_reducible apply MV.ex_1) | (with_reducible apply MV.ex_call) | (with_reducible apply MV.op_neg') | (with_reducible apply MV.op_lt') | (with_reducible apply MV.op_le') | (with_reducible apply MV.op_gt') | (with_reducible apply MV.op_ge') | (with_reducible apply MV.op_p18) | (with_reducible apply MV.op_p9) | (with_reducible apply MV.op_p30) | (with_reducible apply MV.op_eqI) | (with_reducible apply MV.op_neI) | (with_reducible apply MV.op_eqSS) | (with_reducible apply MV.op_neSS) | (with_reducible apply MV.op_eqS) | (with_reducible apply MV.op_neS) | (with_reducible apply MV.op_eqB) | (with_reducible apply MV.op_neB) | (with_reducible apply MV.fn_gcd) | (with_reducible apply MV.fn_intB) | (with_reducible apply MV.post_bk) | (with_reducible apply MV.post_ct) | (with_reducible apply MV.then_bk) | (with_reducible apply MV.then_ct) | (with_reducible apply MV.cut_ok) | (with_reducible apply MV.part_ok) | (with_reducible apply MV.part_no) | (with_reducible apply MV.then_ex) | (with_reducible apply MV.post_ex) | (with_reducible apply MV.st_raise) | (with_reducible apply MV.mk_err) | (with_reducible apply MV.err_int) | (with_reducible apply MV.err_non) | (with_reducible apply MV.st_ifX) | (with_reducible apply MV.ifX_ok) | (with_reducible apply MV.ifX_er) | (with_reducible apply MV.ex_2X) | (with_reducible apply MV.m2R_er) | (with_reducible apply MV.m2R_ok) | (with_reducible apply MV.ex_callX) | (with_reducible apply MV.st_try) | (with_reducible apply MV.try_nx) | (with_reducible apply MV.try_rt) | (with_reducible apply MV.try_ex) | (with_reducible apply MV.end_rt) | (with_reducible apply MV.end_nx) | (with_reducible apply MV.st_guard) | (with_reducible apply MV.fld_ok) | (with_reducible apply MV.isv_ok) | (with_reducible apply MV.some_rfl) | (refine MV.ite_t (by assumption) ?_) | (refine MV.ite_f (by assumption) ?_) | (exact (by assumption : _ = true)) | (refine MV.ite_dt (by omega) ?_) | (refine MV.ite_df (by omega) ?_) | (refine MV.ite_et (by omega) ?_) | (refine MV.ite_ef (by omega) ?_)))
  obtain ⟨V, hV, bV2, mV⟩ := mV
  have p1 := point_of_at (.list (NS.map PyData.int)) NS V rfl (by omega) hV (lt_pow bV2 (by decide))
  have p2 := point_of_at (.tuple (NS.map PyData.int)) NS 1 rfl (by omega) (by decide) (by decide)
  have c4 : ∀ x0 x1 x2 x3 x4 x5 x6 x7 x10, mLc (mSeqOf (mVar 8)) (gSet 10) mYes el_law_4 [10] [x0, x1, x2, x3, x4, x5, x6, x7, .dat (.list (NS.map PyData.int)), .dat (.int V), x10] = some ((NS.map fun N => Rat.divInt N V).map ratD) := fun x0 x1 x2 x3 x4 x5 x6 x7 x10 => by
    rw [List.map_map]
    refine comp_at PyData.int _ NS ?_ (by omega) fun N hN => ?_
    · (repeat (first | (with_reducible apply MV.seq_ok) | (with_reducible apply MV.then_nx) | (with_reducible apply MV.then_rt) | (with_reducible apply MV.ar_cons) | (with_reducible apply MV.ar_nil) | (with_reducible apply MV.ex_c) | (with_reducible apply MV.var_0) | (with_reducible apply MV.var_s) | (with_reducible apply MV.own_0) | (with_reducible apply MV.own_0d) | (with_reducible apply MV.own_s) | (with_reducible apply MV.ex_2) | (with_reducible apply MV.ex_call0) | (with_reducible apply MV.ex_fn) | (with_reducible apply MV.st_set) | (with_reducible apply MV.set_0) | (with_reducible apply MV.set_s) | (with_reducible apply MV.st_post) | (with_reducible apply MV.post_nx) | (with_reducible apply MV.post_rt) | (with_reducible apply MV.wipe_0) | (with_reducible apply MV.wipe_s) | (with_reducible apply MV.op_add') | (with_reducible apply MV.op_sub') | (with_reducible apply MV.dMul_ok; rotate_left) | (with_reducible apply MV.dDiv_ok; rotate_left) | (with_reducible apply MV.dMod_ok; rotate_left) | (with_reducible apply MV.op_ixL) | (with_reducible apply MV.op_ixT) | (with_reducible apply MV.at_0) | (with_reducible apply MV.fn_int) | (with_reducible apply MV.fn_abs) | (with_reducible apply MV.fn_len) | (with_reducible apply MV.fn_lenT) | (with_reducible apply MV.fn_tupL) | (with_reducible apply MV.fn_tupT) | (with_reducible apply MV.fn_lstL) | (with_reducible apply MV.fn_lstT) | (with_reducible apply MV.ex_tup) | (with_reducible apply MV.ex_lst) | (with_reducible apply MV.ex_l) | (with_reducible apply MV.len_0) | (with_reducible apply MV.len_s) | (with_reducible apply MV.st_ret) | (with_reducible apply MV.retO_0) | (with_reducible apply MV.retO_0d) | (with_reducible apply MV.retO_s) | (with_reducible apply MV.st_if) | (with_reducible apply MV.ite_tt) | (with_reducible apply MV.ite_ff) | (with_reducible apply MV.bo_as) | (with_reducible apply MV.bo_tru) | (with_reducible apply MV.bo_and) | (with_reducible apply MV.bo_or) | (with_reducible apply MV.bo_not) | (with_reducible apply MV.not_t) | (with_reducible apply MV.not_f) | (with_reducible apply MV.ex_and) | (with_reducible apply MV.ex_or) | (with_reducible apply MV.ex_not) | (with_reducible apply MV.ex_if) | (with_reducible apply MV.st_skip) | (with_reducible apply MV.st_drop) | (with_reducible apply MV.st_brk) | (with_reducible apply MV.st_cnt) | (with_reducible apply MV.st_setO) | (with_reducible apply MV.app_at) | (with_reducible apply MV.get_0) | (with_reducible apply MV.get_s) | (with_reducible apply MV.st_par) | (with_reducible apply MV.st_asg) | (with_reducible apply MV.tg_set) | (with_reducible apply MV.tg_tup) | (with_reducible apply MV.tg_cons) | (with_reducible apply MV.tg_nil) | (with_reducible apply MV.st_for) | (with_reducible apply MV.st_frz) | (with_reducible apply MV.put_at) | (with_reducible apply MV.src_seq) | (with_reducible apply MV.src_2) | (with_reducible apply MV.seq_l) | (with_reducible apply MV.seq_t) | (with_reducible apply MV.zip_ok) | (with_reducible apply MV.enum_ok) | (with_reducible apply MV.ex_1) | (with_reducible apply MV.ex_call) | (with_reducible apply MV.op_neg') | (with_reducible apply MV.op_lt') | (with_reducible apply MV.op_le') | (with_reducible apply MV.op_gt') | (with_reducible apply MV.op_ge') | (with_reducible apply MV.op_p18) | (with_reducible apply MV.op_p9) | (with_reducible apply MV.op_p30) | (with_reducible apply MV.op_eqI) | (with_reducible apply MV.op_neI) | (with_reducible apply MV.op_eqSS) | (with_reducible apply MV.op_neSS) | (with_reducible apply MV.op_eqS) | (with_reducible apply MV.op_neS) | (with_reducible apply MV.op_eqB) | (with_reducible apply MV.op_neB) | (with_reducible apply MV.fn_gcd) | (with_reducible apply MV.fn_intB) | (with_reducible apply MV.post_bk) | (with_reducible apply MV.post_ct) | (with_reducible apply MV.then_bk) | (with_reducible apply MV.then_ct) | (with_reducible apply MV.cut_ok) | (with_reducible apply MV.part_ok) | (with_reducible apply MV.part_no) | (with_reducible apply MV.then_ex) | (with_reducible apply MV.post_ex) | (with_reducible apply MV.st_raise) | (with_reducible apply MV.mk_err) | (with_reducible apply MV.err_int) | (with_reducible apply MV.err_non) | (with_reducible apply MV.st_ifX) | (with_reducible apply MV.ifX_ok) | (with_reducible apply MV.ifX_er) | (with_reducible apply MV.ex_2X) | (with_reducible apply MV.m2R_er) | (with_reducible apply MV.m2R_ok) | (with_reducible apply MV.ex_callX) | (with_reducible apply MV.st_try) | (with_reducible apply MV.try_nx) | (with_reducible apply MV.try_rt) | (with_reducible apply MV.try_ex) | (with_reducible apply MV.end_rt) | (with_reducible apply MV.end_nx) | (with_reducible apply MV.st_guard) | (with_reducible apply MV.fld_ok) | (with_reducible apply MV.isv_ok) | (with_reducible apply MV.some_rfl) | (refine MV.ite_t (by assumption) ?_) | (refine MV.ite_f (by assumption) ?_) | (exact (by assumption : _ = true)) | (refine MV.ite_dt (by omega) ?_) | (refine MV.ite_df (by omega) ?_) | (refine MV.ite_et (by omega) ?_) | (refine MV.ite_ef (by omega) ?_)))
    · have l := lowest_sm (B := 200) (by decide) (n := N) hV (lt_pow (bNS N hN) (by decide)) (lt_pow bV2 (by decide))
      apply comp_el
      (repeat (first | (with_reducible apply un_el_law_4 <;> first | omega | skip) | (with_reducible apply l <;> first | omega | skip) | (with_reducible apply MV.seq_ok) | (with_reducible apply MV.then_nx) | (with_reducible apply MV.then_rt) | (with_reducible apply MV.ar_cons) | (with_reducible apply MV.ar_nil) | (with_reducible apply MV.ex_c) | (with_reducible apply MV.var_0) | (with_reducible apply MV.var_s) | (with_reducible apply MV.own_0) | (with_reducible apply MV.own_0d) | (with_reducible apply MV.own_s) | (with_reducible apply MV.ex_2) | (with_reducible apply MV.ex_call0) | (with_reducible apply MV.ex_fn) | (with_reducible apply MV.st_set) | (with_reducible apply MV.set_0) | (with_reducible apply MV.set_s) | (with_reducible apply MV.st_post) | (with_reducible apply MV.post_nx) | (with_reducible apply MV.post_rt) | (with_reducible apply MV.wipe_0) | (with_reducible apply MV.wipe_s) | (with_reducible apply MV.op_add') | (with_reducible apply MV.op_sub') | (with_reducible apply MV.dMul_ok; rotate_left) | (with_reducible apply MV.dDiv_ok; rotate_left) | (with_reducible apply MV.dMod_ok; rotate_left) | (with_reducible apply MV.op_ixL) | (with_reducible apply MV.op_ixT) | (with_reducible apply MV.at_0) | (with_reducible apply MV.fn_int) | (with_reducible apply MV.fn_abs) | (with_reducible apply MV.fn_len) | (with_reducible apply MV.fn_lenT) | (with_reducible apply MV.fn_tupL) | (with_reducible apply MV.fn_tupT) | (with_reducible apply MV.fn_lstL) | (with_reducible apply MV.fn_lstT) | (with_reducible apply MV.ex_tup) | (with_reducible apply MV.ex_lst) | (with_reducible apply MV.ex_l) | (with_reducible apply MV.len_0) | (with_reducible apply MV.len_s) | (with_reducible apply MV.st_ret) | (with_reducible apply MV.retO_0) | (with_reducible apply MV.retO_0d) | (with_reducible apply MV.retO_s) | (with_reducible apply MV.st_if) | (with_reducible apply MV.ite_tt) | (with_reducible apply MV.ite_ff) | (with_reducible apply MV.bo_as) | (with_reducible apply MV.bo_tru) | (with_reducible apply MV.bo_and) | (with_reducible apply MV.bo_or) | (with_reducible apply MV.bo_not) | (with_reducible apply MV.not_t) | (with_reducible apply MV.not_f) | (with_reducible apply MV.ex_and) | (with_reducible apply MV.ex_or) | (with_reducible apply MV.ex_not) | (with_reducible apply MV.ex_if) | (with_reducible apply MV.st_skip) | (with_reducible apply MV.st_drop) | (with_reducible apply MV.st_brk) | (with_reducible apply MV.st_cnt) | (with_reducible apply MV.st_setO) | (with_reducible apply MV.app_at) | (with_reducible apply MV.get_0) | (with_reducible apply MV.get_s) | (with_reducible apply MV.st_par) | (with_reducible apply MV.st_asg) | (with_reducible apply MV.tg_set) | (with_reducible apply MV.tg_tup) | (with_reducible apply MV.tg_cons) | (with_reducible apply MV.tg_nil) | (with_reducible apply MV.st_for) | (with_reducible apply MV.st_frz) | (with_reducible apply MV.put_at) | (with_reducible apply MV.src_seq) | (with_reducible apply MV.src_2) | (with_reducible apply MV.seq_l) | (with_reducible apply MV.seq_t) | (with_reducible apply MV.zip_ok) | (with_reducible apply MV.enum_ok) | (with_reducible apply MV.ex_1) | (with_reducible apply MV.ex_call) | (with_reducible apply MV.op_neg') | (with_reducible apply MV.op_lt') | (with_reducible apply MV.op_le') | (with_reducible apply MV.op_gt') | (with_reducible apply MV.op_ge') | (with_reducible apply MV.op_p18) | (with_reducible apply MV.op_p9) | (with_reducible apply MV.op_p30) | (with_reducible apply MV.op_eqI) | (with_reducible apply MV.op_neI) | (with_reducible apply MV.op_eqSS) | (with_reducible apply MV.op_neSS) | (with_reducible apply MV.op_eqS) | (with_reducible apply MV.op_neS) | (with_reducible apply MV.op_eqB) | (with_reducible apply MV.op_neB) | (with_reducible apply MV.fn_gcd) | (with_reducible apply MV.fn_intB) | (with_reducible apply MV.post_bk) | (with_reducible apply MV.post_ct) | (with_reducible apply MV.then_bk) | (with_reducible apply MV.then_ct) | (with_reducible apply MV.cut_ok) | (with_reducible apply MV.part_ok) | (with_reducible apply MV.part_no) | (with_reducible apply MV.then_ex) | (with_reducible apply MV.post_ex) | (with_reducible apply MV.st_raise) | (with_reducible apply MV.mk_err) | (with_reducible apply MV.err_int) | (with_reducible apply MV.err_non) | (with_reducible apply MV.st_ifX) | (with_reducible apply MV.ifX_ok) | (with_reducible apply MV.ifX_er) | (with_reducible apply MV.ex_2X) | (with_reducible apply MV.m2R_er) | (with_reducible apply MV.m2R_ok) | (with_reducible apply MV.ex_callX) | (with_reducible apply MV.st_try) | (with_reducible apply MV.try_nx) | (with_reducible apply MV.try_rt) | (with_reducible apply MV.try_ex) | (with_reducible apply MV.end_rt) | (with_reducible apply MV.end_nx) | (with_reducible apply MV.st_guard) | (with_reducible apply MV.fld_ok) | (with_reducible apply MV.isv_ok) | (with_reducible apply MV.some_rfl) | (refine MV.ite_t (by assumption) ?_) | (refine MV.ite_f (by assumption) ?_) | (exact (by assumption : _ = true)) | (refine MV.ite_dt (by omega) ?_) | (refine MV.ite_df (by omega) ?_) | (refine MV.ite_et (by omega) ?_) | (refine MV.ite_ef (by omega) ?_)))
      rfl
  have c5 : ∀ x0 x1 x2 x3 x4 x5 x6 x7 x9 x10, mLc (mSeqOf (mVar 8)) (gSet 10) mYes el_law_5 [10] [x0, x1, x2, x3, x4, x5, x6, x7, .dat (.list (NS.map PyData.int)), x9, x10] = some ((NS.map fun N => Rat.divInt N 1).map ratD) := fun x0 x1 x2 x3 x4 x5 x6 x7 x9 x10 => by
    rw [List.map_map]
    refine comp_at PyData.int _ NS ?_ (by omega) fun N hN => ?_
    · (repeat (first | (with_reducible apply MV.seq_ok) | (with_reducible apply MV.then_nx) | (with_reducible apply MV.then_rt) | (with_reducible apply MV.ar_cons) | (with_reducible apply MV.ar_nil) | (with_reducible apply MV.ex_c) | (with_reducible apply MV.var_0) | (with_reducible apply MV.var_s) | (with_reducible apply MV.own_0) | (with_reducible apply MV.own_0d) | (with_reducible apply MV.own_s) | (with_reducible apply MV.ex_2) | (with_reducible apply MV.ex_call0) | (with_reducible apply MV.ex_fn) | (with_reducible apply MV.st_set) | (with_reducible apply MV.set_0) | (with_reducible apply MV.set_s) | (with_reducible apply MV.st_post) | (with_reducible apply MV.post_nx) | (with_reducible apply MV.post_rt) | (with_reducible apply MV.wipe_0) | (with_reducible apply MV.wipe_s) | (with_reducible apply MV.op_add') | (with_reducible apply MV.op_sub') | (with_reducible apply MV.dMul_ok; rotate_left) | (with_reducible apply MV.dDiv_ok; rotate_left) | (with_reducible apply MV.dMod_ok; rotate_left) | (with_reducible apply MV.op_ixL) | (with_reducible apply MV.op_ixT) | (with_reducible apply MV.at_0) | (with_reducible apply MV.fn_int) | (with_reducible apply MV.fn_abs) | (with_reducible apply MV.fn_len) | (with_reducible apply MV.fn_lenT) | (with_reducible apply MV.fn_tupL) | (with_reducible apply MV.fn_tupT) | (with_reducible apply MV.fn_lstL) | (with_reducible apply MV.fn_lstT) | (with_reducible apply MV.ex_tup) | (with_reducible apply MV.ex_lst) | (with_reducible apply MV.ex_l) | (with_reducible apply MV.len_0) | (with_reducible apply MV.len_s) | (with_reducible apply MV.st_ret) | (with_reducible apply MV.retO_0) | (with_reducible apply MV.retO_0d) | (with_reducible apply MV.retO_s) | (with_reducible apply MV.st_if) | (with_reducible apply MV.ite_tt) | (with_reducible apply MV.ite_ff) | (with_reducible apply MV.bo_as) | (with_reducible apply MV.bo_tru) | (with_reducible apply MV.bo_and) | (with_reducible apply MV.bo_or) | (with_reducible apply MV.bo_not) | (with_reducible apply MV.not_t) | (with_reducible apply MV.not_f) | (with_reducible apply MV.ex_and) | (with_reducible apply MV.ex_or) | (with_reducible apply MV.ex_not) | (with_reducible apply MV.ex_if) | (with_reducible apply MV.st_skip) | (with_reducible apply MV.st_drop) | (with_reducible apply MV.st_brk) | (with_reducible apply MV.st_cnt) | (with_reducible apply MV.st_setO) | (with_reducible apply MV.app_at) | (with_reducible apply MV.get_0) | (with_reducible apply MV.get_s) | (with_reducible apply MV.st_par) | (with_reducible apply MV.st_asg) | (with_reducible apply MV.tg_set) | (with_reducible apply MV.tg_tup) | (with_reducible apply MV.tg_cons) | (with_reducible apply MV.tg_nil) | (with_reducible apply MV.st_for) | (with_reducible apply MV.st_frz) | (with_reducible apply MV.put_at) | (with_reducible apply MV.src_seq) | (with_reducible apply MV.src_2) | (with_reducible apply MV.seq_l) | (with_reducible apply MV.seq_t) | (with_reducible apply MV.zip_ok) | (with_reducible apply MV.enum_ok) | (with_reducible apply MV.ex_1) | (with_reducible apply MV.ex_call) | (with_reducible apply MV.op_neg') | (with_reducible apply MV.op_lt') | (with_reducible apply MV.op_le') | (with_reducible apply MV.op_gt') | (with_reducible apply MV.op_ge') | (with_reducible apply MV.op_p18) | (with_reducible apply MV.op_p9) | (with_reducible apply MV.op_p30) | (with_reducible apply MV.op_eqI) | (with_reducible apply MV.op_neI) | (with_reducible apply MV.op_eqSS) | (with_reducible apply MV.op_neSS) | (with_reducible apply MV.op_eqS) | (with_reducible apply MV.op_neS) | (with_reducible apply MV.op_eqB) | (with_reducible apply MV.op_neB) | (with_reducible apply MV.fn_gcd) | (with_reducible apply MV.fn_intB) | (with_reducible apply MV.post_bk) | (with_reducible apply MV.post_ct) | (with_reducible apply MV.then_bk) | (with_reducible apply MV.then_ct) | (with_reducible apply MV.cut_ok) | (with_reducible apply MV.part_ok) | (with_reducible apply MV.part_no) | (with_reducible apply MV.then_ex) | (with_reducible apply MV.post_ex) | (with_reducible apply MV.st_raise) | (with_reducible apply MV.mk_err) | (with_reducible apply MV.err_int) | (with_reducible apply MV.err_non) | (with_reducible apply MV.st_ifX) | (with_reducible apply MV.ifX_ok) | (with_reducible apply MV.ifX_er) | (with_reducible apply MV.ex_2X) | (with_reducible apply MV.m2R_er) | (with_reducible apply MV.m2R_ok) | (with_reducible apply MV.ex_callX) | (with_reducible apply MV.st_try) | (with_reducible apply MV.try_nx) | (with_reducible apply MV.try_rt) | (with_reducible apply MV.try_ex) | (with_reducible apply MV.end_rt) | (with_reducible apply MV.end_nx) | (with_reducible apply MV.st_guard) | (with_reducible apply MV.fld_ok) | (with_reducible apply MV.isv_ok) | (with_reducible apply MV.some_rfl) | (refine MV.ite_t (by assumption) ?_) | (refine MV.ite_f (by assumption) ?_) | (exact (by assumption : _ = true)) | (refine MV.ite_dt (by omega) ?_) | (refine MV.ite_df (by omega) ?_) | (refine MV.ite_et (by omega) ?_) | (refine MV.ite_ef (by omega) ?_)))
    · apply comp_el
      (repeat (first | (with_reducible apply un_el_law_5 <;> first | omega | skip) | (with_reducible apply MV.seq_ok) | (with_reducible apply MV.then_nx) | (with_reducible apply MV.then_rt) | (with_reducible apply MV.ar_cons) | (with_reducible apply MV.ar_nil) | (with_reducible apply MV.ex_c) | (with_reducible apply MV.var_0) | (with_reducible apply MV.var_s) | (with_reducible apply MV.own_0) | (with_reducible apply MV.own_0d) | (with_reducible apply MV.own_s) | (with_reducible apply MV.ex_2) | (with_reducible apply MV.ex_call0) | (with_reducible apply MV.ex_fn) | (with_reducible apply MV.st_set) | (with_reducible apply MV.set_0) | (with_reducible apply MV.set_s) | (with_reducible apply MV.st_post) | (with_reducible apply MV.post_nx) | (with_reducible apply MV.post_rt) | (with_reducible apply MV.wipe_0) | (with_reducible apply MV.wipe_s) | (with_reducible apply MV.op_add') | (with_reducible apply MV.op_sub') | (with_reducible apply MV.dMul_ok; rotate_left) | (with_reducible apply MV.dDiv_ok; rotate_left) | (with_reducible apply MV.dMod_ok; rotate_left) | (with_reducible apply MV.op_ixL) | (with_reducible apply MV.op_ixT) | (with_reducible apply MV.at_0) | (with_reducible apply MV.fn_int) | (with_reducible apply MV.fn_abs) | (with_reducible apply MV.fn_len) | (with_reducible apply MV.fn_lenT) | (with_reducible apply MV.fn_tupL) | (with_reducible apply MV.fn_tupT) | (with_reducible apply MV.fn_lstL) | (with_reducible apply MV.fn_lstT) | (with_reducible apply MV.ex_tup) | (with_reducible apply MV.ex_lst) | (with_reducible apply MV.ex_l) | (with_reducible apply MV.len_0) | (with_reducible apply MV.len_s) | (with_reducible apply MV.st_ret) | (with_reducible apply MV.retO_0) | (with_reducible apply MV.retO_0d) | (with_reducible apply MV.retO_s) | (with_reducible apply MV.st_if) | (with_reducible apply MV.ite_tt) | (with_reducible apply MV.ite_ff) | (with_reducible apply MV.bo_as) | (with_reducible apply MV.bo_tru) | (with_reducible apply MV.bo_and) | (with_reducible apply MV.bo_or) | (with_reducible apply MV.bo_not) | (with_reducible apply MV.not_t) | (with_reducible apply MV.not_f) | (with_reducible apply MV.ex_and) | (with_reducible apply MV.ex_or) | (with_reducible apply MV.ex_not) | (with_reducible apply MV.ex_if) | (with_reducible apply MV.st_skip) | (with_reducible apply MV.st_drop) | (with_reducible apply MV.st_brk) | (with_reducible apply MV.st_cnt) | (with_reducible apply MV.st_setO) | (with_reducible apply MV.app_at) | (with_reducible apply MV.get_0) | (with_reducible apply MV.get_s) | (with_reducible apply MV.st_par) | (with_reducible apply MV.st_asg) | (with_reducible apply MV.tg_set) | (with_reducible apply MV.tg_tup) | (with_reducible apply MV.tg_cons) | (with_reducible apply MV.tg_nil) | (with_reducible apply MV.st_for) | (with_reducible apply MV.st_frz) | (with_reducible apply MV.put_at) | (with_reducible apply MV.src_seq) | (with_reducible apply MV.src_2) | (with_reducible apply MV.seq_l) | (with_reducible apply MV.seq_t) | (with_reducible apply MV.zip_ok) | (with_reducible apply MV.enum_ok) | (with_reducible apply MV.ex_1) | (with_reducible apply MV.ex_call) | (with_reducible apply MV.op_neg') | (with_reducible apply MV.op_lt') | (with_reducible apply MV.op_le') | (with_reducible apply MV.op_gt') | (with_reducible apply MV.op_ge') | (with_reducible apply MV.op_p18) | (with_reducible apply MV.op_p9) | (with_reducible apply MV.op_p30) | (with_reducible apply MV.op_eqI) | (with_reducible apply MV.op_neI) | (with_reducible apply MV.op_eqSS) | (with_reducible apply MV.op_neSS) | (with_reducible apply MV.op_eqS) | (with_reducible apply MV.op_neS) | (with_reducible apply MV.op_eqB) | (with_reducible apply MV.op_neB) | (with_reducible apply MV.fn_gcd) | (with_reducible apply MV.fn_intB) | (with_reducible apply MV.post_bk) | (with_reducible apply MV.post_ct) | (with_reducible apply MV.then_bk) | (with_reducible apply MV.then_ct) | (with_reducible apply MV.cut_ok) | (with_reducible apply MV.part_ok) | (with_reducible apply MV.part_no) | (with_reducible apply MV.then_ex) | (with_reducible apply MV.post_ex) | (with_reducible apply MV.st_raise) | (with_reducible apply MV.mk_err) | (with_reducible apply MV.err_int) | (with_reducible apply MV.err_non) | (with_reducible apply MV.st_ifX) | (with_reducible apply MV.ifX_ok) | (with_reducible apply MV.ifX_er) | (with_reducible apply MV.ex_2X) | (with_reducible apply MV.m2R_er) | (with_reducible apply MV.m2R_ok) | (with_reducible apply MV.ex_callX) | (with_reducible apply MV.st_try) | (with_reducible apply MV.try_nx) | (with_reducible apply MV.try_rt) | (with_reducible apply MV.try_ex) | (with_reducible apply MV.end_rt) | (with_reducible apply MV.end_nx) | (with_reducible apply MV.st_guard) | (with_reducible apply MV.fld_ok) | (with_reducible apply MV.isv_ok) | (with_reducible apply MV.some_rfl) | (refine MV.ite_t (by assumption) ?_) | (refine MV.ite_f (by assumption) ?_) | (exact (by assumption : _ = true)) | (refine MV.ite_dt (by omega) ?_) | (refine MV.ite_df (by omega) ?_) | (refine MV.ite_et (by omega) ?_) | (refine MV.ite_ef (by omega) ?_)))
      exact (rat_one N).symm
  have s1 : ∀ W : Int, W ≠ 0 → W.natAbs < 2 ^ 30 → ∀ q ∈ NS.map (fun N => Rat.divInt N W), Sm 30 q := fun W hW bW q hq => by
    obtain ⟨N, hN, rfl⟩ := List.mem_map.mp hq
    exact sm_divInt hW (bNS N hN) bW
  have i1 : m__law_is [.tuple ((NS.map fun N => Rat.divInt N V).map ratD), .tuple ((NS.map fun N => Rat.divInt N V).map ratD)] = some (.bool true) := is_pt (s1 V hV bV2) (by decide) (by rw [List.length_map]; omega)
  have i2 : m__law_is [.tuple ((NS.map fun N => Rat.divInt N 1).map ratD), .tuple ((NS.map fun N => Rat.divInt N 1).map ratD)] = some (.bool true) := is_pt (s1 1 (by decide) (by decide)) (by decide) (by rw [List.length_map]; omega)
  have p2' : m_point_of ([.tuple (NS.map PyData.int)] ++ [.int 1]) = some (.tuple ((NS.map fun N => Rat.divInt N 1).map ratD)) := p2
  have hfb : firstBad n ws = ws.findIdx? fun v => !isPt n v := rfl
  cases hB : (List.range ws.length).filter fun k => !isPt n (ws.getD k .none) with
  | nil =>
    rw [hB] at fb c2
    rw [hfb, ← fb] at tl tt
    have tl' : m__law_told [.list ws, .int (n : Int)] = some .none := tl
    have tt' : m__law_told [.tuple ws, .int (n : Int)] = some .none := tt
    have rd := fRepr_ok (d := .none) (by decide +kernel)
    have g0 : dGt (.int ((([] : List Nat).map fun (k : Nat) => PyData.int (k : Int)).length : Int)) (.int 0) = some (.bool false) := rfl
    (apply run_ok; case hl => exact rfl); (unfold b_law; simp only [List.map_cons, List.map_nil, List.replicate, List.cons_append, List.nil_append])
    (repeat (first | (with_reducible apply cell_z <;> first | omega | skip) | (with_reducible apply number_at <;> first | omega | skip) | (with_reducible apply d1 <;> first | omega | skip) | (with_reducible apply d2 <;> first | omega | skip) | (with_reducible apply d4 <;> first | omega | skip) | (with_reducible apply d5 <;> first | omega | skip) | (with_reducible apply d6 <;> first | omega | skip) | (with_reducible apply c1 <;> first | omega | skip) | (with_reducible apply lo1 <;> first | omega | skip) | (with_reducible apply c2 <;> first | omega | skip) | (with_reducible apply g0 <;> first | omega | skip) | (with_reducible apply tl' <;> first | omega | skip) | (with_reducible apply tt' <;> first | omega | skip) | (with_reducible apply rd <;> first | omega | skip) | (with_reducible apply rw1 <;> first | omega | skip) | (with_reducible apply lo2 <;> first | omega | skip) | (with_reducible apply c3 <;> first | omega | skip) | (with_reducible apply mV <;> first | omega | skip) | (with_reducible apply p1 <;> first | omega | skip) | (with_reducible apply p2' <;> first | omega | skip) | (with_reducible apply c4 <;> first | omega | skip) | (with_reducible apply c5 <;> first | omega | skip) | (with_reducible apply i1 <;> first | omega | skip) | (with_reducible apply i2 <;> first | omega | skip) | (with_reducible apply MV.seq_ok) | (with_reducible apply MV.then_nx) | (with_reducible apply MV.then_rt) | (with_reducible apply MV.ar_cons) | (with_reducible apply MV.ar_nil) | (with_reducible apply MV.ex_c) | (with_reducible apply MV.var_0) | (with_reducible apply MV.var_s) | (with_reducible apply MV.own_0) | (with_reducible apply MV.own_0d) | (with_reducible apply MV.own_s) | (with_reducible apply MV.ex_2) | (with_reducible apply MV.ex_call0) | (with_reducible apply MV.ex_fn) | (with_reducible apply MV.st_set) | (with_reducible apply MV.set_0) | (with_reducible apply MV.set_s) | (with_reducible apply MV.st_post) | (with_reducible apply MV.post_nx) | (with_reducible apply MV.post_rt) | (with_reducible apply MV.wipe_0) | (with_reducible apply MV.wipe_s) | (with_reducible apply MV.op_add') | (with_reducible apply MV.op_sub') | (with_reducible apply MV.dMul_ok; rotate_left) | (with_reducible apply MV.dDiv_ok; rotate_left) | (with_reducible apply MV.dMod_ok; rotate_left) | (with_reducible apply MV.op_ixL) | (with_reducible apply MV.op_ixT) | (with_reducible apply MV.at_0) | (with_reducible apply MV.fn_int) | (with_reducible apply MV.fn_abs) | (with_reducible apply MV.fn_len) | (with_reducible apply MV.fn_lenT) | (with_reducible apply MV.fn_tupL) | (with_reducible apply MV.fn_tupT) | (with_reducible apply MV.fn_lstL) | (with_reducible apply MV.fn_lstT) | (with_reducible apply MV.ex_tup) | (with_reducible apply MV.ex_lst) | (with_reducible apply MV.ex_l) | (with_reducible apply MV.len_0) | (with_reducible apply MV.len_s) | (with_reducible apply MV.st_ret) | (with_reducible apply MV.retO_0) | (with_reducible apply MV.retO_0d) | (with_reducible apply MV.retO_s) | (with_reducible apply MV.st_if) | (with_reducible apply MV.ite_tt) | (with_reducible apply MV.ite_ff) | (with_reducible apply MV.bo_as) | (with_reducible apply MV.bo_tru) | (with_reducible apply MV.bo_and) | (with_reducible apply MV.bo_or) | (with_reducible apply MV.bo_not) | (with_reducible apply MV.not_t) | (with_reducible apply MV.not_f) | (with_reducible apply MV.ex_and) | (with_reducible apply MV.ex_or) | (with_reducible apply MV.ex_not) | (with_reducible apply MV.ex_if) | (with_reducible apply MV.st_skip) | (with_reducible apply MV.st_drop) | (with_reducible apply MV.st_brk) | (with_reducible apply MV.st_cnt) | (with_reducible apply MV.st_setO) | (with_reducible apply MV.app_at) | (with_reducible apply MV.get_0) | (with_reducible apply MV.get_s) | (with_reducible apply MV.st_par) | (with_reducible apply MV.st_asg) | (with_reducible apply MV.tg_set) | (with_reducible apply MV.tg_tup) | (with_reducible apply MV.tg_cons) | (with_reducible apply MV.tg_nil) | (with_reducible apply MV.st_for) | (with_reducible apply MV.st_frz) | (with_reducible apply MV.put_at) | (with_reducible apply MV.src_seq) | (with_reducible apply MV.src_2) | (with_reducible apply MV.seq_l) | (with_reducible apply MV.seq_t) | (with_reducible apply MV.zip_ok) | (with_reducible apply MV.enum_ok) | (with_reducible apply MV.ex_1) | (with_reducible apply MV.ex_call) | (with_reducible apply MV.op_neg') | (with_reducible apply MV.op_lt') | (with_reducible apply MV.op_le') | (with_reducible apply MV.op_gt') | (with_reducible apply MV.op_ge') | (with_reducible apply MV.op_p18) | (with_reducible apply MV.op_p9) | (with_reducible apply MV.op_p30) | (with_reducible apply MV.op_eqI) | (with_reducible apply MV.op_neI) | (with_reducible apply MV.op_eqSS) | (with_reducible apply MV.op_neSS) | (with_reducible apply MV.op_eqS) | (with_reducible apply MV.op_neS) | (with_reducible apply MV.op_eqB) | (with_reducible apply MV.op_neB) | (with_reducible apply MV.fn_gcd) | (with_reducible apply MV.fn_intB) | (with_reducible apply MV.post_bk) | (with_reducible apply MV.post_ct) | (with_reducible apply MV.then_bk) | (with_reducible apply MV.then_ct) | (with_reducible apply MV.cut_ok) | (with_reducible apply MV.part_ok) | (with_reducible apply MV.part_no) | (with_reducible apply MV.then_ex) | (with_reducible apply MV.post_ex) | (with_reducible apply MV.st_raise) | (with_reducible apply MV.mk_err) | (with_reducible apply MV.err_int) | (with_reducible apply MV.err_non) | (with_reducible apply MV.st_ifX) | (with_reducible apply MV.ifX_ok) | (with_reducible apply MV.ifX_er) | (with_reducible apply MV.ex_2X) | (with_reducible apply MV.m2R_er) | (with_reducible apply MV.m2R_ok) | (with_reducible apply MV.ex_callX) | (with_reducible apply MV.st_try) | (with_reducible apply MV.try_nx) | (with_reducible apply MV.try_rt) | (with_reducible apply MV.try_ex) | (with_reducible apply MV.end_rt) | (with_reducible apply MV.end_nx) | (with_reducible apply MV.st_guard) | (with_reducible apply MV.fld_ok) | (with_reducible apply MV.isv_ok) | (with_reducible apply MV.some_rfl) | (refine MV.ite_t (by assumption) ?_) | (refine MV.ite_f (by assumption) ?_) | (exact (by assumption : _ = true)) | (refine MV.ite_dt (by omega) ?_) | (refine MV.ite_df (by omega) ?_) | (refine MV.ite_et (by omega) ?_) | (refine MV.ite_ef (by omega) ?_)))
    all_goals first | rfl | decide
  | cons i R =>
    have hi : i < ws.length := by
      have : i ∈ (List.range ws.length).filter fun k => !isPt n (ws.getD k .none) := by rw [hB]; exact List.mem_cons_self
      exact List.mem_range.mp (List.mem_filter.mp this).1
    rw [hB] at fb c2
    rw [hfb, ← fb] at tl tt
    have tl' : m__law_told [.list ws, .int (n : Int)] = some (.tuple [.str (Str.ofString "BadPoint"), .int (i : Int)]) := tl
    have tt' : m__law_told [.tuple ws, .int (n : Int)] = some (.tuple [.str (Str.ofString "BadPoint"), .int (i : Int)]) := tt
    have rd := fRepr_ok (d := .tuple [.str (Str.ofString "BadPoint"), .int (i : Int)]) (due_repr (o := some i) fun k e => by cases e; omega)
    have g1 : dGt (.int (((i :: R).map fun (k : Nat) => PyData.int (k : Int)).length : Int)) (.int 0) = some (.bool true) := by
      have l : (0 : Int) < (((i :: R).map fun (k : Nat) => PyData.int (k : Int)).length : Int) := by
        rw [List.length_map, List.length_cons]
        omega
      exact congrArg (fun b => some (PyData.bool b)) (decide_eq_true l)
    have g2 : atI ((i :: R).map fun (k : Nat) => PyData.int (k : Int)) 0 = some (.int (i : Int)) := MV.at_0
    (apply run_ok; case hl => exact rfl); (unfold b_law; simp only [List.map_cons, List.map_nil, List.replicate, List.cons_append, List.nil_append])
    (repeat (first | (with_reducible apply cell_z <;> first | omega | skip) | (with_reducible apply number_at <;> first | omega | skip) | (with_reducible apply d1 <;> first | omega | skip) | (with_reducible apply d2 <;> first | omega | skip) | (with_reducible apply d4 <;> first | omega | skip) | (with_reducible apply d5 <;> first | omega | skip) | (with_reducible apply d6 <;> first | omega | skip) | (with_reducible apply c1 <;> first | omega | skip) | (with_reducible apply lo1 <;> first | omega | skip) | (with_reducible apply c2 <;> first | omega | skip) | (with_reducible apply g1 <;> first | omega | skip) | (with_reducible apply g2 <;> first | omega | skip) | (with_reducible apply tl' <;> first | omega | skip) | (with_reducible apply tt' <;> first | omega | skip) | (with_reducible apply rd <;> first | omega | skip) | (with_reducible apply rw1 <;> first | omega | skip) | (with_reducible apply lo2 <;> first | omega | skip) | (with_reducible apply c3 <;> first | omega | skip) | (with_reducible apply mV <;> first | omega | skip) | (with_reducible apply p1 <;> first | omega | skip) | (with_reducible apply p2' <;> first | omega | skip) | (with_reducible apply c4 <;> first | omega | skip) | (with_reducible apply c5 <;> first | omega | skip) | (with_reducible apply i1 <;> first | omega | skip) | (with_reducible apply i2 <;> first | omega | skip) | (with_reducible apply MV.seq_ok) | (with_reducible apply MV.then_nx) | (with_reducible apply MV.then_rt) | (with_reducible apply MV.ar_cons) | (with_reducible apply MV.ar_nil) | (with_reducible apply MV.ex_c) | (with_reducible apply MV.var_0) | (with_reducible apply MV.var_s) | (with_reducible apply MV.own_0) | (with_reducible apply MV.own_0d) | (with_reducible apply MV.own_s) | (with_reducible apply MV.ex_2) | (with_reducible apply MV.ex_call0) | (with_reducible apply MV.ex_fn) | (with_reducible apply MV.st_set) | (with_reducible apply MV.set_0) | (with_reducible apply MV.set_s) | (with_reducible apply MV.st_post) | (with_reducible apply MV.post_nx) | (with_reducible apply MV.post_rt) | (with_reducible apply MV.wipe_0) | (with_reducible apply MV.wipe_s) | (with_reducible apply MV.op_add') | (with_reducible apply MV.op_sub') | (with_reducible apply MV.dMul_ok; rotate_left) | (with_reducible apply MV.dDiv_ok; rotate_left) | (with_reducible apply MV.dMod_ok; rotate_left) | (with_reducible apply MV.op_ixL) | (with_reducible apply MV.op_ixT) | (with_reducible apply MV.at_0) | (with_reducible apply MV.fn_int) | (with_reducible apply MV.fn_abs) | (with_reducible apply MV.fn_len) | (with_reducible apply MV.fn_lenT) | (with_reducible apply MV.fn_tupL) | (with_reducible apply MV.fn_tupT) | (with_reducible apply MV.fn_lstL) | (with_reducible apply MV.fn_lstT) | (with_reducible apply MV.ex_tup) | (with_reducible apply MV.ex_lst) | (with_reducible apply MV.ex_l) | (with_reducible apply MV.len_0) | (with_reducible apply MV.len_s) | (with_reducible apply MV.st_ret) | (with_reducible apply MV.retO_0) | (with_reducible apply MV.retO_0d) | (with_reducible apply MV.retO_s) | (with_reducible apply MV.st_if) | (with_reducible apply MV.ite_tt) | (with_reducible apply MV.ite_ff) | (with_reducible apply MV.bo_as) | (with_reducible apply MV.bo_tru) | (with_reducible apply MV.bo_and) | (with_reducible apply MV.bo_or) | (with_reducible apply MV.bo_not) | (with_reducible apply MV.not_t) | (with_reducible apply MV.not_f) | (with_reducible apply MV.ex_and) | (with_reducible apply MV.ex_or) | (with_reducible apply MV.ex_not) | (with_reducible apply MV.ex_if) | (with_reducible apply MV.st_skip) | (with_reducible apply MV.st_drop) | (with_reducible apply MV.st_brk) | (with_reducible apply MV.st_cnt) | (with_reducible apply MV.st_setO) | (with_reducible apply MV.app_at) | (with_reducible apply MV.get_0) | (with_reducible apply MV.get_s) | (with_reducible apply MV.st_par) | (with_reducible apply MV.st_asg) | (with_reducible apply MV.tg_set) | (with_reducible apply MV.tg_tup) | (with_reducible apply MV.tg_cons) | (with_reducible apply MV.tg_nil) | (with_reducible apply MV.st_for) | (with_reducible apply MV.st_frz) | (with_reducible apply MV.put_at) | (with_reducible apply MV.src_seq) | (with_reducible apply MV.src_2) | (with_reducible apply MV.seq_l) | (with_reducible apply MV.seq_t) | (with_reducible apply MV.zip_ok) | (with_reducible apply MV.enum_ok) | (with_reducible apply MV.ex_1) | (with_reducible apply MV.ex_call) | (with_reducible apply MV.op_neg') | (with_reducible apply MV.op_lt') | (with_reducible apply MV.op_le') | (with_reducible apply MV.op_gt') | (with_reducible apply MV.op_ge') | (with_reducible apply MV.op_p18) | (with_reducible apply MV.op_p9) | (with_reducible apply MV.op_p30) | (with_reducible apply MV.op_eqI) | (with_reducible apply MV.op_neI) | (with_reducible apply MV.op_eqSS) | (with_reducible apply MV.op_neSS) | (with_reducible apply MV.op_eqS) | (with_reducible apply MV.op_neS) | (with_reducible apply MV.op_eqB) | (with_reducible apply MV.op_neB) | (with_reducible apply MV.fn_gcd) | (with_reducible apply MV.fn_intB) | (with_reducible apply MV.post_bk) | (with_reducible apply MV.post_ct) | (with_reducible apply MV.then_bk) | (with_reducible apply MV.then_ct) | (with_reducible apply MV.cut_ok) | (with_reducible apply MV.part_ok) | (with_reducible apply MV.part_no) | (with_reducible apply MV.then_ex) | (with_reducible apply MV.post_ex) | (with_reducible apply MV.st_raise) | (with_reducible apply MV.mk_err) | (with_reducible apply MV.err_int) | (with_reducible apply MV.err_non) | (with_reducible apply MV.st_ifX) | (with_reducible apply MV.ifX_ok) | (with_reducible apply MV.ifX_er) | (with_reducible apply MV.ex_2X) | (with_reducible apply MV.m2R_er) | (with_reducible apply MV.m2R_ok) | (with_reducible apply MV.ex_callX) | (with_reducible apply MV.st_try) | (with_reducible apply MV.try_nx) | (with_reducible apply MV.try_rt) | (with_reducible apply MV.try_ex) | (with_reducible apply MV.end_rt) | (with_reducible apply MV.end_nx) | (with_reducible apply MV.st_guard) | (with_reducible apply MV.fld_ok) | (with_reducible apply MV.isv_ok) | (with_reducible apply MV.some_rfl) | (refine MV.ite_t (by assumption) ?_) | (refine MV.ite_f (by assumption) ?_) | (exact (by assumption : _ = true)) | (refine MV.ite_dt (by omega) ?_) | (refine MV.ite_df (by omega) ?_) | (refine MV.ite_et (by omega) ?_) | (refine MV.ite_ef (by omega) ?_)))
    all_goals first | rfl | decide

end Tx
namespace Tx
open PySem PySem.Spec PyProof.Rows L2 MV
/-- the law's def by its address -/
theorem all_end {l : PySem.W.OpenLaw} {w : World} {K : PySem.W.Frag} {mg : Str → Option Value} (T : Txt K mg) :
    ∃ fd : FuncData, (∀ (s : Shared) (u : Value), BindsTo s fd ⟨[u], []⟩ [("script", u)]) ∧ ∀ base : Heap, K.In base → base.Ns mainGlobals mg → FnG l.prog w K mg base 6 T.a_law fd ["script"] m_law :=
  ⟨T.d_law, fun s u => T.F_law.bindsA (ps := ["script"]) (fun _ _ _ _ _ _ us hl => match us, hl with | [_], _ => rfl) s [u] rfl, fun _ _ _ => ok_law T⟩
end Tx
namespace Tx
open PySem PySem.Spec PyProof.Rows L2 MV
set_option maxHeartbeats 0 in
theorem all_mk {l : PySem.W.OpenLaw} {w : World} {K : PySem.W.Frag} {h : Heap} {mg : Str → Option Value} {fa : Addr} (X : K.In h) (G : h.Ns mainGlobals mg) (hfa : mg "law" = some (.ref fa))
    {c_BoundError c_BadPoint c_BadWeights : Addr}
    {i_BoundError t_BoundError : Addr} {od_BoundError an_BoundError oe_BoundError : Option Addr} {sl_BoundError se_BoundError : Array (Option Value)} {oc_BoundError kV_BoundError dc_BoundError pm_BoundError cd_BoundError ct_BoundError oe'_BoundError : Value} {n_BoundError : Nat}
    (ga_BoundError : PySem.W.nsIn K mainGlobals "BoundError" = some (some (.ref c_BoundError)))
    (rd1_BoundError : PySem.W.readsIn K c_BoundError (.type "type") = true)
    (rd2_BoundError : PySem.W.specialIn K (.ref c_BoundError) "__getattribute__" = some (some (.builtin "type.__getattribute__")))
    (iv_BoundError : PySem.W.findCls K (.ref c_BoundError) (.type "type") "__init__" = some (.val (.ref i_BoundError)))
    (li_BoundError : K.lookup i_BoundError = some ⟨oc_BoundError, od_BoundError, .func (PySem.W.fnOf "__init__" "BoundError.__init__" (defArgs si_BoundError) (defBody si_BoundError) (defScope si_BoundError) (.ref t_BoundError) kV_BoundError dc_BoundError pm_BoundError an_BoundError cd_BoundError ct_BoundError), sl_BoundError⟩)
    (lq_BoundError : K.lookup t_BoundError = some ⟨oe'_BoundError, oe_BoundError, .seq #[.none] n_BoundError, se_BoundError⟩)
    (lc_BoundError : PySem.W.codeIn K cd_BoundError "BoundError.__init__" = true)
    (lk_BoundError : PySem.W.keepIn K (.ref i_BoundError) = true)
    (eC_BoundError : PySem.W.subIn K (.ref c_BoundError) (.type "BaseException") = some true)
    (tC_BoundError : PySem.W.typeIn K (.ref c_BoundError) = some (.type "type"))
    (hd_BoundError : PySem.W.hasDictIn K c_BoundError = true)
    {i_BadPoint t_BadPoint : Addr} {od_BadPoint an_BadPoint oe_BadPoint : Option Addr} {sl_BadPoint se_BadPoint : Array (Option Value)} {oc_BadPoint kV_BadPoint dc_BadPoint pm_BadPoint cd_BadPoint ct_BadPoint oe'_BadPoint : Value} {n_BadPoint : Nat}
    {nm_BadPoint qn_BadPoint : Str} {N_BadPoint : Addr} {bs_BadPoint : List Value} {sn_BadPoint : List Str} {sb_BadPoint : List Value} {ab_BadPoint : Bool} {co_BadPoint : Option Bool} {dd_BadPoint : Option Addr} {m0_BadPoint m1_BadPoint m2_BadPoint m3_BadPoint m5_BadPoint : Option Value}
    (ga_BadPoint : PySem.W.nsIn K mainGlobals "BadPoint" = some (some (.ref c_BadPoint)))
    (xL_BadPoint : K.lookup c_BadPoint = some (excClassObj nm_BadPoint qn_BadPoint c_BadPoint N_BadPoint bs_BadPoint [.ref c_BoundError, .type "ValueError", .type "Exception", .type "BaseException", .type "object"] true sn_BadPoint sb_BadPoint ab_BadPoint co_BadPoint dd_BadPoint m0_BadPoint m1_BadPoint m2_BadPoint m3_BadPoint m5_BadPoint "ValueError.__new__"))
    (iC_BadPoint : PySem.W.findIn K (.ref c_BadPoint) "__init__" = some (some (.ref i_BadPoint)))
    (tI_BadPoint : PySem.W.typeIn K (.ref i_BadPoint) = some (.type "function"))
    (li_BadPoint : K.lookup i_BadPoint = some ⟨oc_BadPoint, od_BadPoint, .func (PySem.W.fnOf "__init__" "BadPoint.__init__" (defArgs si_BadPoint) (defBody si_BadPoint) (defScope si_BadPoint) (.ref t_BadPoint) kV_BadPoint dc_BadPoint pm_BadPoint an_BadPoint cd_BadPoint ct_BadPoint), sl_BadPoint⟩)
    (lq_BadPoint : K.lookup t_BadPoint = some ⟨oe'_BadPoint, oe_BadPoint, .seq #[.none] n_BadPoint, se_BadPoint⟩)
    (lc_BadPoint : PySem.W.codeIn K cd_BadPoint "BadPoint.__init__" = true)
    (lk_BadPoint : PySem.W.keepIn K (.ref i_BadPoint) = true)
    (eC_BadPoint : PySem.W.subIn K (.ref c_BadPoint) (.type "BaseException") = some true)
    (tC_BadPoint : PySem.W.typeIn K (.ref c_BadPoint) = some (.type "type"))
    (hd_BadPoint : PySem.W.hasDictIn K c_BadPoint = true)
    (sa_BadPoint : PySem.W.findIn K (.ref c_BadPoint) "__setattr__" = some (some (.builtin "object.__setattr__")))
    (kC_BadPoint : PySem.W.keepIn K (.ref c_BadPoint) = true)
    (nw_BadPoint : PySem.W.findIn K (.ref c_BadPoint) "word" = some none)
    (np_BadPoint : PySem.W.findIn K (.ref c_BadPoint) "place" = some none)
    (xg_BadPoint : PySem.W.findIn K (.ref c_BadPoint) "__getattribute__" = some (some (.builtin "BaseException.__getattribute__")))
    (xh_BadPoint : PySem.W.findIn K (.ref c_BadPoint) "__getattr__" = some none)
    (cl_BadPoint : PySem.W.isClsIn K c_BadPoint = true)
    (ha_BadPoint : PySem.W.findIn K (.ref c_BadPoint) "__class__" = some (some (.builtin "object.__class__")))
    (hm_BadPoint : PySem.W.mroIn K c_BadPoint (.type "object") = some true)
    {i_BadWeights t_BadWeights : Addr} {od_BadWeights an_BadWeights oe_BadWeights : Option Addr} {sl_BadWeights se_BadWeights : Array (Option Value)} {oc_BadWeights kV_BadWeights dc_BadWeights pm_BadWeights cd_BadWeights ct_BadWeights oe'_BadWeights : Value} {n_BadWeights : Nat}
    {nm_BadWeights qn_BadWeights : Str} {N_BadWeights : Addr} {bs_BadWeights : List Value} {sn_BadWeights : List Str} {sb_BadWeights : List Value} {ab_BadWeights : Bool} {co_BadWeights : Option Bool} {dd_BadWeights : Option Addr} {m0_BadWeights m1_BadWeights m2_BadWeights m3_BadWeights m5_BadWeights : Option Value}
    (ga_BadWeights : PySem.W.nsIn K mainGlobals "BadWeights" = some (some (.ref c_BadWeights)))
    (xL_BadWeights : K.lookup c_BadWeights = some (excClassObj nm_BadWeights qn_BadWeights c_BadWeights N_BadWeights bs_BadWeights [.ref c_BoundError, .type "ValueError", .type "Exception", .type "BaseException", .type "object"] true sn_BadWeights sb_BadWeights ab_BadWeights co_BadWeights dd_BadWeights m0_BadWeights m1_BadWeights m2_BadWeights m3_BadWeights m5_BadWeights "ValueError.__new__"))
    (iC_BadWeights : PySem.W.findIn K (.ref c_BadWeights) "__init__" = some (some (.ref i_BadWeights)))
    (tI_BadWeights : PySem.W.typeIn K (.ref i_BadWeights) = some (.type "function"))
    (li_BadWeights : K.lookup i_BadWeights = some ⟨oc_BadWeights, od_BadWeights, .func (PySem.W.fnOf "__init__" "BadWeights.__init__" (defArgs si_BadWeights) (defBody si_BadWeights) (defScope si_BadWeights) (.ref t_BadWeights) kV_BadWeights dc_BadWeights pm_BadWeights an_BadWeights cd_BadWeights ct_BadWeights), sl_BadWeights⟩)
    (lq_BadWeights : K.lookup t_BadWeights = some ⟨oe'_BadWeights, oe_BadWeights, .seq #[.none] n_BadWeights, se_BadWeights⟩)
    (lc_BadWeights : PySem.W.codeIn K cd_BadWeights "BadWeights.__init__" = true)
    (lk_BadWeights : PySem.W.keepIn K (.ref i_BadWeights) = true)
    (eC_BadWeights : PySem.W.subIn K (.ref c_BadWeights) (.type "BaseException") = some true)
    (tC_BadWeights : PySem.W.typeIn K (.ref c_BadWeights) = some (.type "type"))
    (hd_BadWeights : PySem.W.hasDictIn K c_BadWeights = true)
    (sa_BadWeights : PySem.W.findIn K (.ref c_BadWeights) "__setattr__" = some (some (.builtin "object.__setattr__")))
    (kC_BadWeights : PySem.W.keepIn K (.ref c_BadWeights) = true)
    (nw_BadWeights : PySem.W.findIn K (.ref c_BadWeights) "word" = some none)
    (np_BadWeights : PySem.W.findIn K (.ref c_BadWeights) "place" = some none)
    (xg_BadWeights : PySem.W.findIn K (.ref c_BadWeights) "__getattribute__" = some (some (.builtin "BaseException.__getattribute__")))
    (xh_BadWeights : PySem.W.findIn K (.ref c_BadWeights) "__getattr__" = some none)
    (cl_BadWeights : PySem.W.isClsIn K c_BadWeights = true)
    (ha_BadWeights : PySem.W.findIn K (.ref c_BadWeights) "__class__" = some (some (.builtin "object.__class__")))
    (hm_BadWeights : PySem.W.mroIn K c_BadWeights (.type "object") = some true)
    (ocG : PySem.W.specialIn K (.builtin "object.__class__") "__get__" = some (some (.builtin "getset_descriptor.__get__")))
    (ocT : PySem.W.takesIn K (.builtin "object.__class__") = some true)
    (vVE : PySem.W.findCls K (.type "ValueError") (.type "type") "__init__" = some (.val (.builtin "ValueError.__init__")))
    (kk_BadPoint_BadPoint : PySem.W.kitOne K (.ref c_BadPoint) (.ref c_BadPoint) = some true)
    (kk_BadPoint_BadWeights : PySem.W.kitOne K (.ref c_BadPoint) (.ref c_BadWeights) = some false)
    (kk_BadPoint_ValueError : PySem.W.kitOne K (.ref c_BadPoint) (.type "ValueError") = some true)
    (sx_BadPoint_BoundError : PySem.W.subIn K (.ref c_BadPoint) (.ref c_BoundError) = some true)
    (kk_BadWeights_BadPoint : PySem.W.kitOne K (.ref c_BadWeights) (.ref c_BadPoint) = some false)
    (kk_BadWeights_BadWeights : PySem.W.kitOne K (.ref c_BadWeights) (.ref c_BadWeights) = some true)
    (kk_BadWeights_ValueError : PySem.W.kitOne K (.ref c_BadWeights) (.type "ValueError") = some true)
    (sx_BadWeights_BoundError : PySem.W.subIn K (.ref c_BadWeights) (.ref c_BoundError) = some true)
    {f1 : Addr} {od1 an1 : Option Addr} {sl1 : Array (Option Value)} {oc1 kV1 dc1 pm1 cd1 ct1 : Value}
    (a1 : PySem.W.nsIn K mainGlobals "is_whole" = some (some (.ref f1)))
    (l1 : K.lookup f1 = some ⟨oc1, od1, .func (PySem.W.fnOf "is_whole" "is_whole" (defArgs s_is_whole) (defBody s_is_whole) (defScope s_is_whole) .none kV1 dc1 pm1 an1 cd1 ct1), sl1⟩)
    (c1 : PySem.W.codeIn K cd1 "is_whole" = true) (k1 : PySem.W.keepIn K (.ref f1) = true)
    {f2 : Addr} {od2 an2 : Option Addr} {sl2 : Array (Option Value)} {oc2 kV2 dc2 pm2 cd2 ct2 : Value}
    (a2 : PySem.W.nsIn K mainGlobals "greatest_divisor" = some (some (.ref f2)))
    (l2 : K.lookup f2 = some ⟨oc2, od2, .func (PySem.W.fnOf "greatest_divisor" "greatest_divisor" (defArgs s_greatest_divisor) (defBody s_greatest_divisor) (defScope s_greatest_divisor) .none kV2 dc2 pm2 an2 cd2 ct2), sl2⟩)
    (c2 : PySem.W.codeIn K cd2 "greatest_divisor" = true) (k2 : PySem.W.keepIn K (.ref f2) = true)
    {f3 : Addr} {od3 an3 : Option Addr} {sl3 : Array (Option Value)} {oc3 kV3 dc3 pm3 cd3 ct3 : Value}
    (a3 : PySem.W.nsIn K mainGlobals "is_fraction" = some (some (.ref f3)))
    (l3 : K.lookup f3 = some ⟨oc3, od3, .func (PySem.W.fnOf "is_fraction" "is_fraction" (defArgs s_is_fraction) (defBody s_is_fraction) (defScope s_is_fraction) .none kV3 dc3 pm3 an3 cd3 ct3), sl3⟩)
    (c3 : PySem.W.codeIn K cd3 "is_fraction" = true) (k3 : PySem.W.keepIn K (.ref f3) = true)
    {f4 t4 : Addr} {od4 an4 oe4 : Option Addr} {sl4 se4 : Array (Option Value)} {oc4 kV4 dc4 pm4 cd4 ct4 oe'4 : Value} {n4 : Nat}
    {k4_0 : Tok}
    (a4 : PySem.W.nsIn K mainGlobals "fraction" = some (some (.ref f4)))
    (l4 : K.lookup f4 = some ⟨oc4, od4, .func (PySem.W.fnOf "fraction" "fraction" (defArgs s_fraction) (defBody s_fraction) (defScope s_fraction) (.ref t4) kV4 dc4 pm4 an4 cd4 ct4), sl4⟩)
    (q4 : K.lookup t4 = some ⟨oe'4, oe4, .seq #[.int 1 k4_0] n4, se4⟩)
    (c4 : PySem.W.codeIn K cd4 "fraction" = true) (k4 : PySem.W.keepIn K (.ref f4) = true)
    {f5 : Addr} {od5 an5 : Option Addr} {sl5 : Array (Option Value)} {oc5 kV5 dc5 pm5 cd5 ct5 : Value}
    (a5 : PySem.W.nsIn K mainGlobals "is_point" = some (some (.ref f5)))
    (l5 : K.lookup f5 = some ⟨oc5, od5, .func (PySem.W.fnOf "is_point" "is_point" (defArgs s_is_point) (defBody s_is_point) (defScope s_is_point) .none kV5 dc5 pm5 an5 cd5 ct5), sl5⟩)
    (c5 : PySem.W.codeIn K cd5 "is_point" = true) (k5 : PySem.W.keepIn K (.ref f5) = true)
    {f6 : Addr} {od6 an6 : Option Addr} {sl6 : Array (Option Value)} {oc6 kV6 dc6 pm6 cd6 ct6 : Value}
    (a6 : PySem.W.nsIn K mainGlobals "check_points" = some (some (.ref f6)))
    (l6 : K.lookup f6 = some ⟨oc6, od6, .func (PySem.W.fnOf "check_points" "check_points" (defArgs s_check_points) (defBody s_check_points) (defScope s_check_points) .none kV6 dc6 pm6 an6 cd6 ct6), sl6⟩)
    (c6 : PySem.W.codeIn K cd6 "check_points" = true) (k6 : PySem.W.keepIn K (.ref f6) = true)
    {f7 t7 : Addr} {od7 an7 oe7 : Option Addr} {sl7 se7 : Array (Option Value)} {oc7 kV7 dc7 pm7 cd7 ct7 oe'7 : Value} {n7 : Nat}
    {k7_0 : Tok}
    (a7 : PySem.W.nsIn K mainGlobals "point_of" = some (some (.ref f7)))
    (l7 : K.lookup f7 = some ⟨oc7, od7, .func (PySem.W.fnOf "point_of" "point_of" (defArgs s_point_of) (defBody s_point_of) (defScope s_point_of) (.ref t7) kV7 dc7 pm7 an7 cd7 ct7), sl7⟩)
    (q7 : K.lookup t7 = some ⟨oe'7, oe7, .seq #[.int 1 k7_0] n7, se7⟩)
    (c7 : PySem.W.codeIn K cd7 "point_of" = true) (k7 : PySem.W.keepIn K (.ref f7) = true)
    {f8 : Addr} {od8 an8 : Option Addr} {sl8 : Array (Option Value)} {oc8 kV8 dc8 pm8 cd8 ct8 : Value}
    (a8 : PySem.W.nsIn K mainGlobals "_law_cell" = some (some (.ref f8)))
    (l8 : K.lookup f8 = some ⟨oc8, od8, .func (PySem.W.fnOf "_law_cell" "_law_cell" (defArgs s__law_cell) (defBody s__law_cell) (defScope s__law_cell) .none kV8 dc8 pm8 an8 cd8 ct8), sl8⟩)
    (c8 : PySem.W.codeIn K cd8 "_law_cell" = true) (k8 : PySem.W.keepIn K (.ref f8) = true)
    {f9 : Addr} {od9 an9 : Option Addr} {sl9 : Array (Option Value)} {oc9 kV9 dc9 pm9 cd9 ct9 : Value}
    (a9 : PySem.W.nsIn K mainGlobals "_law_row" = some (some (.ref f9)))
    (l9 : K.lookup f9 = some ⟨oc9, od9, .func (PySem.W.fnOf "_law_row" "_law_row" (defArgs s__law_row) (defBody s__law_row) (defScope s__law_row) .none kV9 dc9 pm9 an9 cd9 ct9), sl9⟩)
    (c9 : PySem.W.codeIn K cd9 "_law_row" = true) (k9 : PySem.W.keepIn K (.ref f9) = true)
    {f10 : Addr} {od10 an10 : Option Addr} {sl10 : Array (Option Value)} {oc10 kV10 dc10 pm10 cd10 ct10 : Value}
    (a10 : PySem.W.nsIn K mainGlobals "_law_common" = some (some (.ref f10)))
    (l10 : K.lookup f10 = some ⟨oc10, od10, .func (PySem.W.fnOf "_law_common" "_law_common" (defArgs s__law_common) (defBody s__law_common) (defScope s__law_common) .none kV10 dc10 pm10 an10 cd10 ct10), sl10⟩)
    (c10 : PySem.W.codeIn K cd10 "_law_common" = true) (k10 : PySem.W.keepIn K (.ref f10) = true)
    {f11 : Addr} {od11 an11 : Option Addr} {sl11 : Array (Option Value)} {oc11 kV11 dc11 pm11 cd11 ct11 : Value}
    (a11 : PySem.W.nsIn K mainGlobals "_law_lowest" = some (some (.ref f11)))
    (l11 : K.lookup f11 = some ⟨oc11, od11, .func (PySem.W.fnOf "_law_lowest" "_law_lowest" (defArgs s__law_lowest) (defBody s__law_lowest) (defScope s__law_lowest) .none kV11 dc11 pm11 an11 cd11 ct11), sl11⟩)
    (c11 : PySem.W.codeIn K cd11 "_law_lowest" = true) (k11 : PySem.W.keepIn K (.ref f11) = true)
    {f12 : Addr} {od12 an12 : Option Addr} {sl12 : Array (Option Value)} {oc12 kV12 dc12 pm12 cd12 ct12 : Value}
    (a12 : PySem.W.nsIn K mainGlobals "_law_number" = some (some (.ref f12)))
    (l12 : K.lookup f12 = some ⟨oc12, od12, .func (PySem.W.fnOf "_law_number" "_law_number" (defArgs s__law_number) (defBody s__law_number) (defScope s__law_number) .none kV12 dc12 pm12 an12 cd12 ct12), sl12⟩)
    (c12 : PySem.W.codeIn K cd12 "_law_number" = true) (k12 : PySem.W.keepIn K (.ref f12) = true)
    {f13 : Addr} {od13 an13 : Option Addr} {sl13 : Array (Option Value)} {oc13 kV13 dc13 pm13 cd13 ct13 : Value}
    (a13 : PySem.W.nsIn K mainGlobals "_law_fraction" = some (some (.ref f13)))
    (l13 : K.lookup f13 = some ⟨oc13, od13, .func (PySem.W.fnOf "_law_fraction" "_law_fraction" (defArgs s__law_fraction) (defBody s__law_fraction) (defScope s__law_fraction) .none kV13 dc13 pm13 an13 cd13 ct13), sl13⟩)
    (c13 : PySem.W.codeIn K cd13 "_law_fraction" = true) (k13 : PySem.W.keepIn K (.ref f13) = true)
    {f14 : Addr} {od14 an14 : Option Addr} {sl14 : Array (Option Value)} {oc14 kV14 dc14 pm14 cd14 ct14 : Value}
    (a14 : PySem.W.nsIn K mainGlobals "_law_is" = some (some (.ref f14)))
    (l14 : K.lookup f14 = some ⟨oc14, od14, .func (PySem.W.fnOf "_law_is" "_law_is" (defArgs s__law_is) (defBody s__law_is) (defScope s__law_is) .none kV14 dc14 pm14 an14 cd14 ct14), sl14⟩)
    (c14 : PySem.W.codeIn K cd14 "_law_is" = true) (k14 : PySem.W.keepIn K (.ref f14) = true)
    {f15 : Addr} {od15 an15 : Option Addr} {sl15 : Array (Option Value)} {oc15 kV15 dc15 pm15 cd15 ct15 : Value}
    (a15 : PySem.W.nsIn K mainGlobals "_law_point" = some (some (.ref f15)))
    (l15 : K.lookup f15 = some ⟨oc15, od15, .func (PySem.W.fnOf "_law_point" "_law_point" (defArgs s__law_point) (defBody s__law_point) (defScope s__law_point) .none kV15 dc15 pm15 an15 cd15 ct15), sl15⟩)
    (c15 : PySem.W.codeIn K cd15 "_law_point" = true) (k15 : PySem.W.keepIn K (.ref f15) = true)
    {f16 : Addr} {od16 an16 : Option Addr} {sl16 : Array (Option Value)} {oc16 kV16 dc16 pm16 cd16 ct16 : Value}
    (a16 : PySem.W.nsIn K mainGlobals "_law_bent" = some (some (.ref f16)))
    (l16 : K.lookup f16 = some ⟨oc16, od16, .func (PySem.W.fnOf "_law_bent" "_law_bent" (defArgs s__law_bent) (defBody s__law_bent) (defScope s__law_bent) .none kV16 dc16 pm16 an16 cd16 ct16), sl16⟩)
    (c16 : PySem.W.codeIn K cd16 "_law_bent" = true) (k16 : PySem.W.keepIn K (.ref f16) = true)
    {f17 : Addr} {od17 an17 : Option Addr} {sl17 : Array (Option Value)} {oc17 kV17 dc17 pm17 cd17 ct17 : Value}
    (a17 : PySem.W.nsIn K mainGlobals "_law_is_point" = some (some (.ref f17)))
    (l17 : K.lookup f17 = some ⟨oc17, od17, .func (PySem.W.fnOf "_law_is_point" "_law_is_point" (defArgs s__law_is_point) (defBody s__law_is_point) (defScope s__law_is_point) .none kV17 dc17 pm17 an17 cd17 ct17), sl17⟩)
    (c17 : PySem.W.codeIn K cd17 "_law_is_point" = true) (k17 : PySem.W.keepIn K (.ref f17) = true)
    {f18 : Addr} {od18 an18 : Option Addr} {sl18 : Array (Option Value)} {oc18 kV18 dc18 pm18 cd18 ct18 : Value}
    (a18 : PySem.W.nsIn K mainGlobals "_law_told" = some (some (.ref f18)))
    (l18 : K.lookup f18 = some ⟨oc18, od18, .func (PySem.W.fnOf "_law_told" "_law_told" (defArgs s__law_told) (defBody s__law_told) (defScope s__law_told) .none kV18 dc18 pm18 an18 cd18 ct18), sl18⟩)
    (c18 : PySem.W.codeIn K cd18 "_law_told" = true) (k18 : PySem.W.keepIn K (.ref f18) = true)
    {f19 : Addr} {od19 an19 : Option Addr} {sl19 : Array (Option Value)} {oc19 kV19 dc19 pm19 cd19 ct19 : Value}
    (a19 : PySem.W.nsIn K mainGlobals "law" = some (some (.ref f19)))
    (l19 : K.lookup f19 = some ⟨oc19, od19, .func (PySem.W.fnOf "law" "law" (defArgs s_law) (defBody s_law) (defScope s_law) .none kV19 dc19 pm19 an19 cd19 ct19), sl19⟩)
    (c19 : PySem.W.codeIn K cd19 "law" = true) (k19 : PySem.W.keepIn K (.ref f19) = true)
    (z_ValueError : PySem.W.nsIn K mainGlobals "ValueError" = some none)
    (z_abs : PySem.W.nsIn K mainGlobals "abs" = some none)
    (z_all : PySem.W.nsIn K mainGlobals "all" = some none)
    (z_bool : PySem.W.nsIn K mainGlobals "bool" = some none)
    (z_enumerate : PySem.W.nsIn K mainGlobals "enumerate" = some none)
    (z_int : PySem.W.nsIn K mainGlobals "int" = some none)
    (z_isinstance : PySem.W.nsIn K mainGlobals "isinstance" = some none)
    (z_len : PySem.W.nsIn K mainGlobals "len" = some none)
    (z_list : PySem.W.nsIn K mainGlobals "list" = some none)
    (z_range : PySem.W.nsIn K mainGlobals "range" = some none)
    (z_repr : PySem.W.nsIn K mainGlobals "repr" = some none)
    (z_tuple : PySem.W.nsIn K mainGlobals "tuple" = some none)
    (i_gcd : PySem.W.nsIn K mainGlobals "gcd" = some (some (.builtin "math.gcd")))
    : ∃ fd : FuncData, (∀ (s : Shared) (u : Value), BindsTo s fd ⟨[u], []⟩ [("script", u)]) ∧ ∀ base : Heap, K.In base → base.Ns mainGlobals mg → FnG l.prog w K mg base 6 fa fd ["script"] m_law := by
  have e := hfa.symm.trans (PySem.W.mg_of X G a19)
  cases e
  have Fi_BoundError : FunD K "__init__" "BoundError.__init__" (defArgs si_BoundError) (defBody si_BoundError) (defScope si_BoundError) [V.non] [] i_BoundError _ := ⟨⟨_, _, _, _, _, _, _, _, _, _, rfl, li_BoundError, lc_BoundError, .inr ⟨by simp, t_BoundError, _, [.none], n_BoundError, rfl, lq_BoundError, rfl, .cons rfl .nil⟩, .inl rfl⟩, lk_BoundError⟩
  have Bi_BoundError_3 := Fi_BoundError.binds1 (ps := ["self", "word", "place"]) 3 1 (by simp) rfl (fun _ _ _ _ _ _ _ us its h1 h2 => match us, its, h1, h2 with | [_, _, _], [_], _, _ => ⟨_, rfl, rfl⟩)
  obtain ⟨ui_BoundError_3, vi_BoundError_3, bi_BoundError_3⟩ := Bi_BoundError_3
  have Fi_BadPoint : FunD K "__init__" "BadPoint.__init__" (defArgs si_BadPoint) (defBody si_BadPoint) (defScope si_BadPoint) [V.non] [] i_BadPoint _ := ⟨⟨_, _, _, _, _, _, _, _, _, _, rfl, li_BadPoint, lc_BadPoint, .inr ⟨by simp, t_BadPoint, _, [.none], n_BadPoint, rfl, lq_BadPoint, rfl, .cons rfl .nil⟩, .inl rfl⟩, lk_BadPoint⟩
  have Bi_BadPoint_1 := Fi_BadPoint.binds1 (ps := ["self", "place"]) 1 0 (by simp) rfl (fun _ _ _ _ _ _ _ us its h1 h2 => match us, its, h1, h2 with | [_], [_], _, _ => ⟨_, rfl, rfl⟩)
  obtain ⟨ui_BadPoint_1, vi_BadPoint_1, bi_BadPoint_1⟩ := Bi_BadPoint_1
  have Bi_BadPoint_2 := Fi_BadPoint.binds1 (ps := ["self", "place"]) 2 1 (by simp) rfl (fun _ _ _ _ _ _ _ us its h1 h2 => match us, its, h1, h2 with | [_, _], [_], _, _ => ⟨_, rfl, rfl⟩)
  obtain ⟨ui_BadPoint_2, vi_BadPoint_2, bi_BadPoint_2⟩ := Bi_BadPoint_2
  have Fi_BadWeights : FunD K "__init__" "BadWeights.__init__" (defArgs si_BadWeights) (defBody si_BadWeights) (defScope si_BadWeights) [V.non] [] i_BadWeights _ := ⟨⟨_, _, _, _, _, _, _, _, _, _, rfl, li_BadWeights, lc_BadWeights, .inr ⟨by simp, t_BadWeights, _, [.none], n_BadWeights, rfl, lq_BadWeights, rfl, .cons rfl .nil⟩, .inl rfl⟩, lk_BadWeights⟩
  have Bi_BadWeights_1 := Fi_BadWeights.binds1 (ps := ["self", "place"]) 1 0 (by simp) rfl (fun _ _ _ _ _ _ _ us its h1 h2 => match us, its, h1, h2 with | [_], [_], _, _ => ⟨_, rfl, rfl⟩)
  obtain ⟨ui_BadWeights_1, vi_BadWeights_1, bi_BadWeights_1⟩ := Bi_BadWeights_1
  have Bi_BadWeights_2 := Fi_BadWeights.binds1 (ps := ["self", "place"]) 2 1 (by simp) rfl (fun _ _ _ _ _ _ _ us its h1 h2 => match us, its, h1, h2 with | [_, _], [_], _, _ => ⟨_, rfl, rfl⟩)
  obtain ⟨ui_BadWeights_2, vi_BadWeights_2, bi_BadWeights_2⟩ := Bi_BadWeights_2
  have F1 : FunD K "is_whole" "is_whole" (defArgs s_is_whole) (defBody s_is_whole) (defScope s_is_whole) [] [] f1 _ := ⟨⟨_, _, _, _, _, _, _, _, _, _, rfl, l1, c1, .inl ⟨rfl, rfl⟩, .inl rfl⟩, k1⟩
  have b1 := F1.bindsN (ps := ["value"]) (fun _ _ _ _ _ _ us hl => match us, hl with | [_], _ => rfl)
  have F2 : FunD K "greatest_divisor" "greatest_divisor" (defArgs s_greatest_divisor) (defBody s_greatest_divisor) (defScope s_greatest_divisor) [] [] f2 _ := ⟨⟨_, _, _, _, _, _, _, _, _, _, rfl, l2, c2, .inl ⟨rfl, rfl⟩, .inl rfl⟩, k2⟩
  have b2 := F2.bindsN (ps := ["first", "second"]) (fun _ _ _ _ _ _ us hl => match us, hl with | [_, _], _ => rfl)
  have F3 : FunD K "is_fraction" "is_fraction" (defArgs s_is_fraction) (defBody s_is_fraction) (defScope s_is_fraction) [] [] f3 _ := ⟨⟨_, _, _, _, _, _, _, _, _, _, rfl, l3, c3, .inl ⟨rfl, rfl⟩, .inl rfl⟩, k3⟩
  have b3 := F3.bindsN (ps := ["value"]) (fun _ _ _ _ _ _ us hl => match us, hl with | [_], _ => rfl)
  have F4 : FunD K "fraction" "fraction" (defArgs s_fraction) (defBody s_fraction) (defScope s_fraction) [V.int 1] [] f4 _ := ⟨⟨_, _, _, _, _, _, _, _, _, _, rfl, l4, c4, .inr ⟨by simp, t4, _, [.int 1 k4_0], n4, rfl, q4, rfl, .cons ⟨_, rfl⟩ (.nil)⟩, .inl rfl⟩, k4⟩
  have B4_1 := F4.binds1 (ps := ["number", "divisor"]) 1 0 (by simp) rfl (fun _ _ _ _ _ _ _ us its h1 h2 => match us, its, h1, h2 with | [_], [_], _, _ => ⟨_, rfl, rfl⟩)
  obtain ⟨u4_1, v4_1, b4_1⟩ := B4_1
  have B4_2 := F4.binds1 (ps := ["number", "divisor"]) 2 1 (by simp) rfl (fun _ _ _ _ _ _ _ us its h1 h2 => match us, its, h1, h2 with | [_, _], [_], _, _ => ⟨_, rfl, rfl⟩)
  obtain ⟨u4_2, v4_2, b4_2⟩ := B4_2
  have F5 : FunD K "is_point" "is_point" (defArgs s_is_point) (defBody s_is_point) (defScope s_is_point) [] [] f5 _ := ⟨⟨_, _, _, _, _, _, _, _, _, _, rfl, l5, c5, .inl ⟨rfl, rfl⟩, .inl rfl⟩, k5⟩
  have b5 := F5.bindsN (ps := ["value", "count"]) (fun _ _ _ _ _ _ us hl => match us, hl with | [_, _], _ => rfl)
  have F6 : FunD K "check_points" "check_points" (defArgs s_check_points) (defBody s_check_points) (defScope s_check_points) [] [] f6 _ := ⟨⟨_, _, _, _, _, _, _, _, _, _, rfl, l6, c6, .inl ⟨rfl, rfl⟩, .inl rfl⟩, k6⟩
  have b6 := F6.bindsN (ps := ["points", "count"]) (fun _ _ _ _ _ _ us hl => match us, hl with | [_, _], _ => rfl)
  have F7 : FunD K "point_of" "point_of" (defArgs s_point_of) (defBody s_point_of) (defScope s_point_of) [V.int 1] [] f7 _ := ⟨⟨_, _, _, _, _, _, _, _, _, _, rfl, l7, c7, .inr ⟨by simp, t7, _, [.int 1 k7_0], n7, rfl, q7, rfl, .cons ⟨_, rfl⟩ (.nil)⟩, .inl rfl⟩, k7⟩
  have B7_1 := F7.binds1 (ps := ["numbers", "divisor"]) 1 0 (by simp) rfl (fun _ _ _ _ _ _ _ us its h1 h2 => match us, its, h1, h2 with | [_], [_], _, _ => ⟨_, rfl, rfl⟩)
  obtain ⟨u7_1, v7_1, b7_1⟩ := B7_1
  have B7_2 := F7.binds1 (ps := ["numbers", "divisor"]) 2 1 (by simp) rfl (fun _ _ _ _ _ _ _ us its h1 h2 => match us, its, h1, h2 with | [_, _], [_], _, _ => ⟨_, rfl, rfl⟩)
  obtain ⟨u7_2, v7_2, b7_2⟩ := B7_2
  have F8 : FunD K "_law_cell" "_law_cell" (defArgs s__law_cell) (defBody s__law_cell) (defScope s__law_cell) [] [] f8 _ := ⟨⟨_, _, _, _, _, _, _, _, _, _, rfl, l8, c8, .inl ⟨rfl, rfl⟩, .inl rfl⟩, k8⟩
  have b8 := F8.bindsN (ps := ["script", "k"]) (fun _ _ _ _ _ _ us hl => match us, hl with | [_, _], _ => rfl)
  have F9 : FunD K "_law_row" "_law_row" (defArgs s__law_row) (defBody s__law_row) (defScope s__law_row) [] [] f9 _ := ⟨⟨_, _, _, _, _, _, _, _, _, _, rfl, l9, c9, .inl ⟨rfl, rfl⟩, .inl rfl⟩, k9⟩
  have b9 := F9.bindsN (ps := ["cell", "count", "base"]) (fun _ _ _ _ _ _ us hl => match us, hl with | [_, _, _], _ => rfl)
  have F10 : FunD K "_law_common" "_law_common" (defArgs s__law_common) (defBody s__law_common) (defScope s__law_common) [] [] f10 _ := ⟨⟨_, _, _, _, _, _, _, _, _, _, rfl, l10, c10, .inl ⟨rfl, rfl⟩, .inl rfl⟩, k10⟩
  have b10 := F10.bindsN (ps := ["one", "other"]) (fun _ _ _ _ _ _ us hl => match us, hl with | [_, _], _ => rfl)
  have F11 : FunD K "_law_lowest" "_law_lowest" (defArgs s__law_lowest) (defBody s__law_lowest) (defScope s__law_lowest) [] [] f11 _ := ⟨⟨_, _, _, _, _, _, _, _, _, _, rfl, l11, c11, .inl ⟨rfl, rfl⟩, .inl rfl⟩, k11⟩
  have b11 := F11.bindsN (ps := ["number", "divisor"]) (fun _ _ _ _ _ _ us hl => match us, hl with | [_, _], _ => rfl)
  have F12 : FunD K "_law_number" "_law_number" (defArgs s__law_number) (defBody s__law_number) (defScope s__law_number) [] [] f12 _ := ⟨⟨_, _, _, _, _, _, _, _, _, _, rfl, l12, c12, .inl ⟨rfl, rfl⟩, .inl rfl⟩, k12⟩
  have b12 := F12.bindsN (ps := ["cell", "k"]) (fun _ _ _ _ _ _ us hl => match us, hl with | [_, _], _ => rfl)
  have F13 : FunD K "_law_fraction" "_law_fraction" (defArgs s__law_fraction) (defBody s__law_fraction) (defScope s__law_fraction) [] [] f13 _ := ⟨⟨_, _, _, _, _, _, _, _, _, _, rfl, l13, c13, .inl ⟨rfl, rfl⟩, .inl rfl⟩, k13⟩
  have b13 := F13.bindsN (ps := ["cell", "k"]) (fun _ _ _ _ _ _ us hl => match us, hl with | [_, _], _ => rfl)
  have F14 : FunD K "_law_is" "_law_is" (defArgs s__law_is) (defBody s__law_is) (defScope s__law_is) [] [] f14 _ := ⟨⟨_, _, _, _, _, _, _, _, _, _, rfl, l14, c14, .inl ⟨rfl, rfl⟩, .inl rfl⟩, k14⟩
  have b14 := F14.bindsN (ps := ["actual", "due"]) (fun _ _ _ _ _ _ us hl => match us, hl with | [_, _], _ => rfl)
  have F15 : FunD K "_law_point" "_law_point" (defArgs s__law_point) (defBody s__law_point) (defScope s__law_point) [] [] f15 _ := ⟨⟨_, _, _, _, _, _, _, _, _, _, rfl, l15, c15, .inl ⟨rfl, rfl⟩, .inl rfl⟩, k15⟩
  have b15 := F15.bindsN (ps := ["cell", "count"]) (fun _ _ _ _ _ _ us hl => match us, hl with | [_, _], _ => rfl)
  have F16 : FunD K "_law_bent" "_law_bent" (defArgs s__law_bent) (defBody s__law_bent) (defScope s__law_bent) [] [] f16 _ := ⟨⟨_, _, _, _, _, _, _, _, _, _, rfl, l16, c16, .inl ⟨rfl, rfl⟩, .inl rfl⟩, k16⟩
  have b16 := F16.bindsN (ps := ["cell", "points", "count"]) (fun _ _ _ _ _ _ us hl => match us, hl with | [_, _, _], _ => rfl)
  have F17 : FunD K "_law_is_point" "_law_is_point" (defArgs s__law_is_point) (defBody s__law_is_point) (defScope s__law_is_point) [] [] f17 _ := ⟨⟨_, _, _, _, _, _, _, _, _, _, rfl, l17, c17, .inl ⟨rfl, rfl⟩, .inl rfl⟩, k17⟩
  have b17 := F17.bindsN (ps := ["value", "count"]) (fun _ _ _ _ _ _ us hl => match us, hl with | [_, _], _ => rfl)
  have F18 : FunD K "_law_told" "_law_told" (defArgs s__law_told) (defBody s__law_told) (defScope s__law_told) [] [] f18 _ := ⟨⟨_, _, _, _, _, _, _, _, _, _, rfl, l18, c18, .inl ⟨rfl, rfl⟩, .inl rfl⟩, k18⟩
  have b18 := F18.bindsN (ps := ["points", "count"]) (fun _ _ _ _ _ _ us hl => match us, hl with | [_, _], _ => rfl)
  have F19 : FunD K "law" "law" (defArgs s_law) (defBody s_law) (defScope s_law) [] [] fa _ := ⟨⟨_, _, _, _, _, _, _, _, _, _, rfl, l19, c19, .inl ⟨rfl, rfl⟩, .inl rfl⟩, k19⟩
  have b19 := F19.bindsN (ps := ["script"]) (fun _ _ _ _ _ _ us hl => match us, hl with | [_], _ => rfl)
  exact all_end { c_BoundError := c_BoundError, i_BoundError := i_BoundError, di_BoundError := _, g_BoundError := PySem.W.mg_of X G ga_BoundError, Fi_BoundError := Fi_BoundError, rd_BoundError := ⟨rd1_BoundError, rd2_BoundError⟩, iv_BoundError := iv_BoundError, ui_BoundError_3 := ui_BoundError_3, bi_BoundError_3 := bi_BoundError_3, vi_BoundError_3 := vi_BoundError_3, c_BadPoint := c_BadPoint, i_BadPoint := i_BadPoint, di_BadPoint := _, g_BadPoint := PySem.W.mg_of X G ga_BadPoint, Fi_BadPoint := Fi_BadPoint, E_BadPoint := ⟨⟨⟨_, _, _, _, _, _, _, _, _, _, _, _, _, _, _, xL_BadPoint, (by decide +kernel : PySem.HandSPX.refsVE [.type "ValueError", .type "Exception", .type "BaseException", .type "object"] = true)⟩, sa_BadPoint, eC_BadPoint, tC_BadPoint, kC_BadPoint⟩, nw_BadPoint, np_BadPoint, iC_BadPoint, tI_BadPoint⟩, R_BadPoint := ⟨⟨xg_BadPoint, xh_BadPoint, eC_BadPoint, hd_BadPoint⟩, cl_BadPoint, ha_BadPoint, ocG, ocT, hm_BadPoint⟩, ui_BadPoint_1 := ui_BadPoint_1, bi_BadPoint_1 := bi_BadPoint_1, vi_BadPoint_1 := vi_BadPoint_1, ui_BadPoint_2 := ui_BadPoint_2, bi_BadPoint_2 := bi_BadPoint_2, vi_BadPoint_2 := vi_BadPoint_2, kk_BadPoint_BadPoint := kk_BadPoint_BadPoint, kk_BadPoint_BadWeights := kk_BadPoint_BadWeights, kk_BadPoint_ValueError := kk_BadPoint_ValueError, xm_BadPoint_BoundError := PySem.W.exm_ref eC_BoundError hd_BoundError tC_BoundError sx_BadPoint_BoundError, c_BadWeights := c_BadWeights, i_BadWeights := i_BadWeights, di_BadWeights := _, g_BadWeights := PySem.W.mg_of X G ga_BadWeights, Fi_BadWeights := Fi_BadWeights, E_BadWeights := ⟨⟨⟨_, _, _, _, _, _, _, _, _, _, _, _, _, _, _, xL_BadWeights, (by decide +kernel : PySem.HandSPX.refsVE [.type "ValueError", .type "Exception", .type "BaseException", .type "object"] = true)⟩, sa_BadWeights, eC_BadWeights, tC_BadWeights, kC_BadWeights⟩, nw_BadWeights, np_BadWeights, iC_BadWeights, tI_BadWeights⟩, R_BadWeights := ⟨⟨xg_BadWeights, xh_BadWeights, eC_BadWeights, hd_BadWeights⟩, cl_BadWeights, ha_BadWeights, ocG, ocT, hm_BadWeights⟩, ui_BadWeights_1 := ui_BadWeights_1, bi_BadWeights_1 := bi_BadWeights_1, vi_BadWeights_1 := vi_BadWeights_1, ui_BadWeights_2 := ui_BadWeights_2, bi_BadWeights_2 := bi_BadWeights_2, vi_BadWeights_2 := vi_BadWeights_2, kk_BadWeights_BadPoint := kk_BadWeights_BadPoint, kk_BadWeights_BadWeights := kk_BadWeights_BadWeights, kk_BadWeights_ValueError := kk_BadWeights_ValueError, xm_BadWeights_BoundError := PySem.W.exm_ref eC_BoundError hd_BoundError tC_BoundError sx_BadWeights_BoundError, v_ValueError := vVE, a_is_whole := f1, d_is_whole := _, F_is_whole := F1, g_is_whole := PySem.W.mg_of X G a1, b_is_whole := b1, a_greatest_divisor := f2, d_greatest_divisor := _, F_greatest_divisor := F2, g_greatest_divisor := PySem.W.mg_of X G a2, b_greatest_divisor := b2, a_is_fraction := f3, d_is_fraction := _, F_is_fraction := F3, g_is_fraction := PySem.W.mg_of X G a3, b_is_fraction := b3, a_fraction := f4, d_fraction := _, F_fraction := F4, g_fraction := PySem.W.mg_of X G a4, u_fraction_1 := u4_1, b_fraction_1 := b4_1, v_fraction_1 := v4_1, u_fraction_2 := u4_2, b_fraction_2 := b4_2, v_fraction_2 := v4_2, a_is_point := f5, d_is_point := _, F_is_point := F5, g_is_point := PySem.W.mg_of X G a5, b_is_point := b5, a_check_points := f6, d_check_points := _, F_check_points := F6, g_check_points := PySem.W.mg_of X G a6, b_check_points := b6, a_point_of := f7, d_point_of := _, F_point_of := F7, g_point_of := PySem.W.mg_of X G a7, u_point_of_1 := u7_1, b_point_of_1 := b7_1, v_point_of_1 := v7_1, u_point_of_2 := u7_2, b_point_of_2 := b7_2, v_point_of_2 := v7_2, a__law_cell := f8, d__law_cell := _, F__law_cell := F8, g__law_cell := PySem.W.mg_of X G a8, b__law_cell := b8, a__law_row := f9, d__law_row := _, F__law_row := F9, g__law_row := PySem.W.mg_of X G a9, b__law_row := b9, a__law_common := f10, d__law_common := _, F__law_common := F10, g__law_common := PySem.W.mg_of X G a10, b__law_common := b10, a__law_lowest := f11, d__law_lowest := _, F__law_lowest := F11, g__law_lowest := PySem.W.mg_of X G a11, b__law_lowest := b11, a__law_number := f12, d__law_number := _, F__law_number := F12, g__law_number := PySem.W.mg_of X G a12, b__law_number := b12, a__law_fraction := f13, d__law_fraction := _, F__law_fraction := F13, g__law_fraction := PySem.W.mg_of X G a13, b__law_fraction := b13, a__law_is := f14, d__law_is := _, F__law_is := F14, g__law_is := PySem.W.mg_of X G a14, b__law_is := b14, a__law_point := f15, d__law_point := _, F__law_point := F15, g__law_point := PySem.W.mg_of X G a15, b__law_point := b15, a__law_bent := f16, d__law_bent := _, F__law_bent := F16, g__law_bent := PySem.W.mg_of X G a16, b__law_bent := b16, a__law_is_point := f17, d__law_is_point := _, F__law_is_point := F17, g__law_is_point := PySem.W.mg_of X G a17, b__law_is_point := b17, a__law_told := f18, d__law_told := _, F__law_told := F18, g__law_told := PySem.W.mg_of X G a18, b__law_told := b18, a_law := fa, d_law := _, F_law := F19, g_law := PySem.W.mg_of X G a19, b_law := b19, n_ValueError := PySem.W.mg_none_of X G z_ValueError, n_abs := PySem.W.mg_none_of X G z_abs, n_all := PySem.W.mg_none_of X G z_all, n_bool := PySem.W.mg_none_of X G z_bool, n_enumerate := PySem.W.mg_none_of X G z_enumerate, n_int := PySem.W.mg_none_of X G z_int, n_isinstance := PySem.W.mg_none_of X G z_isinstance, n_len := PySem.W.mg_none_of X G z_len, n_list := PySem.W.mg_none_of X G z_list, n_range := PySem.W.mg_none_of X G z_range, n_repr := PySem.W.mg_none_of X G z_repr, n_tuple := PySem.W.mg_none_of X G z_tuple, g_gcd := PySem.W.mg_of X G i_gcd }
end Tx
open PySem PySem.W PyProof.Rows
set_option maxHeartbeats 0 in
theorem PySem.Challenge.cw_stayswithin_k05_points_holds : PySem.Challenge.rw_stayswithin_k05_points.Holds := by
  w_on; o_law; k_head; (case hw => w_witness2)
  k_fill
  refine MV.law_of (l := PySem.Challenge.rw_stayswithin_k05_points) (n := 63) (k := 6) (x := "script") (m := Tx.m_law) rfl (by decide) rfl ⟨rfl, by decide, by decide⟩ (fun w h Y => PySem.W.kIn_of Y) ?F Tx.law_true
  case F =>
    intro w mg fa h KX G hmg
    refine' Tx.all_mk KX G hmg ?h0 ?h1 ?h2 ?h3 ?h4 ?h5 ?h6 ?h7 ?h8 ?h9 ?h10 ?h11 ?h12 ?h13 ?h14 ?h15 ?h16 ?h17 ?h18 ?h19 ?h20 ?h21 ?h22 ?h23 ?h24 ?h25 ?h26 ?h27 ?h28 ?h29 ?h30 ?h31 ?h32 ?h33 ?h34 ?h35 ?h36 ?h37 ?h38 ?h39 ?h40 ?h41 ?h42 ?h43 ?h44 ?h45 ?h46 ?h47 ?h48 ?h49 ?h50 ?h51 ?h52 ?h53 ?h54 ?h55 ?h56 ?h57 ?h58 ?h59 ?h60 ?h61 ?h62 ?h63 ?h64 ?h65 ?h66 ?h67 ?h68 ?h69 ?h70 ?h71 ?h72 ?h73 ?h74 ?h75 ?h76 ?h77 ?h78 ?h79 ?h80 ?h81 ?h82 ?h83 ?h84 ?h85 ?h86 ?h87 ?h88 ?h89 ?h90 ?h91 ?h92 ?h93 ?h94 ?h95 ?h96 ?h97 ?h98 ?h99 ?h100 ?h101 ?h102 ?h103 ?h104 ?h105 ?h106 ?h107 ?h108 ?h109 ?h110 ?h111 ?h112 ?h113 ?h114 ?h115 ?h116 ?h117 ?h118 ?h119 ?h120 ?h121 ?h122 ?h123 ?h124 ?h125 ?h126 ?h127 ?h128 ?h129 ?h130 ?h131 ?h132 ?h133 ?h134 ?h135 ?h136 ?h137 ?h138 ?h139 ?h140 ?h141 ?h142 ?h143 ?h144 ?h145 ?h146 ?h147 ?h148 ?h149 ?h150 ?h151 ?h152
    (case h0 => k_is); (case h1 => k_is); (case h2 => k_is); (case h3 => k_is); (case h4 => k_is); (case h5 => k_is); (case h6 => k_is); (case h7 => k_is); (case h8 => k_is); (case h9 => k_is); (case h10 => k_is); (case h11 => k_is); (case h12 => k_is); (case h13 => k_is); (case h14 => k_is); (case h15 => k_is); (case h16 => k_is); (case h17 => k_is); (case h18 => k_is); (case h19 => k_is); (case h20 => k_is); (case h21 => k_is); (case h22 => k_is); (case h23 => k_is); (case h24 => k_is); (case h25 => k_is); (case h26 => k_is); (case h27 => k_is); (case h28 => k_is); (case h29 => k_is); (case h30 => k_is); (case h31 => k_is); (case h32 => k_is); (case h33 => k_is); (case h34 => k_is); (case h35 => k_is); (case h36 => k_is); (case h37 => k_is); (case h38 => k_is); (case h39 => k_is); (case h40 => k_is); (case h41 => k_is); (case h42 => k_is); (case h43 => k_is); (case h44 => k_is); (case h45 => k_is); (case h46 => k_is); (case h47 => k_is); (case h48 => k_is); (case h49 => k_is); (case h50 => k_is); (case h51 => k_is); (case h52 => k_is); (case h53 => k_is); (case h54 => kit_is); (case h55 => kit_is); (case h56 => kit_is); (case h57 => k_is); (case h58 => kit_is); (case h59 => kit_is); (case h60 => kit_is); (case h61 => k_is); (case h62 => k_is); (case h63 => k_is); (case h64 => k_is); (case h65 => k_is); (case h66 => k_is); (case h67 => k_is); (case h68 => k_is); (case h69 => k_is); (case h70 => k_is); (case h71 => k_is); (case h72 => k_is); (case h73 => k_is); (case h74 => k_is); (case h75 => k_is); (case h76 => k_is); (case h77 => k_is); (case h78 => k_is); (case h79 => k_is); (case h80 => k_is); (case h81 => k_is); (case h82 => k_is); (case h83 => k_is); (case h84 => k_is); (case h85 => k_is); (case h86 => k_is); (case h87 => k_is); (case h88 => k_is); (case h89 => k_is); (case h90 => k_is); (case h91 => k_is); (case h92 => k_is); (case h93 => k_is); (case h94 => k_is); (case h95 => k_is); (case h96 => k_is); (case h97 => k_is); (case h98 => k_is); (case h99 => k_is); (case h100 => k_is); (case h101 => k_is); (case h102 => k_is); (case h103 => k_is); (case h104 => k_is); (case h105 => k_is); (case h106 => k_is); (case h107 => k_is); (case h108 => k_is); (case h109 => k_is); (case h110 => k_is); (case h111 => k_is); (case h112 => k_is); (case h113 => k_is); (case h114 => k_is); (case h115 => k_is); (case h116 => k_is); (case h117 => k_is); (case h118 => k_is); (case h119 => k_is); (case h120 => k_is); (case h121 => k_is); (case h122 => k_is); (case h123 => k_is); (case h124 => k_is); (case h125 => k_is); (case h126 => k_is); (case h127 => k_is); (case h128 => k_is); (case h129 => k_is); (case h130 => k_is); (case h131 => k_is); (case h132 => k_is); (case h133 => k_is); (case h134 => k_is); (case h135 => k_is); (case h136 => k_is); (case h137 => k_is); (case h138 => k_is); (case h139 => k_is); (case h140 => k_is); (case h141 => k_is); (case h142 => k_is); (case h143 => k_is); (case h144 => k_is); (case h145 => k_is); (case h146 => k_is); (case h147 => k_is); (case h148 => k_is); (case h149 => k_is); (case h150 => k_is); (case h151 => k_is); (case h152 => k_is)

