import PyProof.Rows.All
import Wide.All
import OpenK.AllK
import Wide.FinOn
import HandS.Base
import HandS.Call
import HandS.List
import HandS.Comp
import HandS.Iter
import HandS.Ends
import HandS.Words
import HandS.WordsList
import HandS.Exc
import HandS.ExcOwn
import HandS.Wide
import HandS.Gcd
import HandS.IsInst
import HandS.TupAny
import HandS.Walk
import HandS.Zip
import PyProof.ReprRoads
import HandS.Defaults
import PyProof.ReprBulk
import KE.GoesEnum
import HandS.ExcInit
import HandS.ExcIs
import HandS.ExcField
import HandS.FStr
import HandS.ClsMeth
import HandS.CallSlots
import KE.KExcIs
import HandS.Deep
import HandS.Star
import HandS.TupMul
import KE.DataCmp
import HandS.WordsDict
import KE.KRevSl
import HandS.IterVal
import PySem.Challenge.RW_stayswithin_k49_rows_drawn_back
set_option Elab.async false
set_option linter.all false
set_option maxRecDepth 100000
set_option maxHeartbeats 4000000
set_option maxRecDepth 100000
set_option maxHeartbeats 4000000
/-! Values as data: a def's body by a function over PyData. -/
namespace MV
open PySem PySem.Spec PyProof.Rows L2

abbrev D := PyData

/-! ### values as data: as in the hand layer, and objects of own classes whose fields do not change any more: .dict [(class and names of the fields, values of the fields)] -/
def obKey (n : Str) (fs : List Str) : D := .tuple (.str n :: fs.map .str)
def obD (n : Str) (fs : List Str) (ds : List D) : D := .dict [(obKey n fs, .list ds)]
mutual
inductive Dp (K : PySem.W.Frag) (H : Hp) : V → D → Prop
  | non : Dp K H .non .none
  | bl (b : Bool) : Dp K H (.bl b) (.bool b)
  | int (i : Int) : Dp K H (.int i) (.int i)
  | str (x : Str) : Dp K H (.str x) (.str x)
  | lst {a : Addr} {xs : List V} {ds : List D} : SqL K H a xs → DpAll K H xs ds → Dp K H (.ref a) (.list ds)
  | tup {a : Addr} {xs : List V} {ds : List D} : SqT K H a xs → DpAll K H xs ds → Dp K H (.ref a) (.tuple ds)
  | obj {a C dx : Addr} {n : Str} {fs : List (Str × V)} {ds : List D} : PySem.W.nsIn K mainGlobals n = some (some (.ref C)) → H a = some (.ins C dx fs) → DpAll K H (fs.map (·.2)) ds → Dp K H (.ref a) (.dict [(obKey n (fs.map (·.1)), .list ds)])
  | dic {a : Addr} {kvs : List (Str × V)} {ds : List D} : H a = some (.dK (kvs.map fun kv => (.inr kv.1, kv.2))) → DpAll K H (kvs.map (·.2)) ds → Dp K H (.ref a) (.dict [(.tuple (.none :: (kvs.map (·.1)).map .str), .list ds)])
inductive DpAll (K : PySem.W.Frag) (H : Hp) : List V → List D → Prop
  | nil : DpAll K H [] []
  | cons {v : V} {vs : List V} {d : D} {ds : List D} : Dp K H v d → DpAll K H vs ds → DpAll K H (v :: vs) (d :: ds)
end
mutual
/-- no object in it -/
def plainD : D → Bool
  | .none => true
  | .bool _ => true
  | .int _ => true
  | .str _ => true
  | .list ds => plainAll ds
  | .tuple ds => plainAll ds
  | .dict _ => false
def plainAll : List D → Bool
  | [] => true
  | d :: ds => plainD d && plainAll ds
end
mutual
theorem plain_lay : ∀ d : D, d.canLay0 = true → plainD d = true
  | .none, _ => rfl
  | .bool _, _ => rfl
  | .int _, _ => rfl
  | .str _, _ => rfl
  | .list ds, h => by rw [PyData.canLay0] at h; rw [plainD]; exact plain_lays ds h
  | .tuple ds, h => by rw [PyData.canLay0] at h; rw [plainD]; exact plain_lays ds h
  | .dict _, h => by cases h
theorem plain_lays : ∀ ds : List D, PyData.canLayAll0 ds = true → plainAll ds = true
  | [], _ => rfl
  | d :: ds, h => by
    rw [PyData.canLayAll0, Bool.and_eq_true] at h
    rw [plainAll, plain_lay d h.1, plain_lays ds h.2]
    rfl
end
mutual
theorem plain_nd : ∀ d : D, d.hasDict = false → plainD d = true
  | .none, _ => rfl
  | .bool _, _ => rfl
  | .int _, _ => rfl
  | .str _, _ => rfl
  | .list ds, h => by rw [PyData.hasDict] at h; rw [plainD]; exact plain_nds ds h
  | .tuple ds, h => by rw [PyData.hasDict] at h; rw [plainD]; exact plain_nds ds h
  | .dict _, h => by cases h
theorem plain_nds : ∀ ds : List D, PyData.hasDictAll ds = false → plainAll ds = true
  | [], _ => rfl
  | d :: ds, h => by
    rw [PyData.hasDictAll, Bool.or_eq_false_iff] at h
    rw [plainAll, plain_nd d h.1, plain_nds ds h.2]
    rfl
end
theorem plain_shaped {d : D} (h : SeqAt.shaped d = true) : plainD d = true := plain_lay d (SeqAt.canLay_of_shaped h)
mutual
theorem Dp.toL {K : PySem.W.Frag} {H : Hp} : ∀ (d : D) (v : V), Dp K H v d → plainD d = true → L2.Dp K H v d
  | .none, _, h, _ => by cases h; exact .non
  | .bool _, _, h, _ => by cases h; exact .bl _
  | .int _, _, h, _ => by cases h; exact .int _
  | .str _, _, h, _ => by cases h; exact .str _
  | .list ds, _, h, p => by
    cases h with
    | lst hs ha => exact .lst hs (DpAll.toL ds _ ha (by rw [plainD] at p; exact p))
  | .tuple ds, _, h, p => by
    cases h with
    | tup hs ha => exact .tup hs (DpAll.toL ds _ ha (by rw [plainD] at p; exact p))
  | .dict _, _, h, p => by cases p
theorem DpAll.toL {K : PySem.W.Frag} {H : Hp} : ∀ (ds : List D) (vs : List V), DpAll K H vs ds → plainAll ds = true → L2.DpAll K H vs ds
  | [], _, h, _ => by cases h; exact .nil
  | d :: ds, _, h, p => by
    rw [plainAll, Bool.and_eq_true] at p
    cases h with
    | cons h1 h2 => exact .cons (Dp.toL d _ h1 p.1) (DpAll.toL ds _ h2 p.2)
end
mutual
theorem Dp.ofL {K : PySem.W.Frag} {H : Hp} : ∀ (d : D) (v : V), L2.Dp K H v d → Dp K H v d
  | .none, _, h => by cases h; exact .non
  | .bool _, _, h => by cases h; exact .bl _
  | .int _, _, h => by cases h; exact .int _
  | .str _, _, h => by cases h; exact .str _
  | .list ds, _, h => by
    cases h with
    | lst hs ha => exact .lst hs (DpAll.ofL ds _ ha)
  | .tuple ds, _, h => by
    cases h with
    | tup hs ha => exact .tup hs (DpAll.ofL ds _ ha)
  | .dict _, _, h => by cases h
theorem DpAll.ofL {K : PySem.W.Frag} {H : Hp} : ∀ (ds : List D) (vs : List V), L2.DpAll K H vs ds → DpAll K H vs ds
  | [], _, h => by cases h; exact .nil
  | d :: ds, _, h => by
    cases h with
    | cons h1 h2 => exact .cons (Dp.ofL d _ h1) (DpAll.ofL ds _ h2)
end

/-! ### heaps -/
def Ex (H H' : Hp) : Prop := ∀ a o, H a = some o → H' a = some o
theorem Ex.refl (H : Hp) : Ex H H := fun _ _ h => h
theorem Ex.trans {H H1 H2 : Hp} (a : Ex H H1) (b : Ex H1 H2) : Ex H H2 := fun x o h => b x o (a x o h)
theorem Ex.new {H : Hp} {p : Addr} {o : HO} (h : H p = none) : Ex H (upd H p o) := fun a u e => by
  rw [upd_ne (ne_of_none e h)]
  exact e
theorem Ex.none {H H' : Hp} (e : Ex H H') {p : Addr} (h : H' p = none) : H p = none := by
  cases h1 : H p with
  | none => rfl
  | some o =>
    rw [e p o h1] at h
    cases h
theorem Ex.upd2 {H H' : Hp} (e : Ex H H') (p : Addr) (o : HO) : Ex (upd H p o) (upd H' p o) := fun a u h => by
  by_cases ha : a = p
  · subst ha
    rw [upd_same] at h
    cases h
    exact upd_same
  · rw [upd_ne ha] at h
    rw [upd_ne ha]
    exact e a u h
theorem Rd.ex {H H' : Hp} {a : Addr} {u : HO} (e : Ex H H') (h : Rd H a u) : Rd H' a u := by
  rcases h with h | ⟨o, h⟩
  · exact Or.inl (e a _ h)
  · exact Or.inr ⟨o, e a _ h⟩
theorem sql_ex {K : PySem.W.Frag} {H H' : Hp} {a : Addr} {xs : List V} (e : Ex H H') (h : SqL K H a xs) : SqL K H' a xs := by
  rcases h with h | h
  · exact Or.inl (Rd.ex e h)
  · exact Or.inr h
theorem sqt_ex {K : PySem.W.Frag} {H H' : Hp} {a : Addr} {xs : List V} (e : Ex H H') (h : SqT K H a xs) : SqT K H' a xs := by
  rcases h with h | h
  · exact Or.inl (Rd.ex e h)
  · exact Or.inr h
mutual
theorem dp_ex {K : PySem.W.Frag} {H H' : Hp} (e : Ex H H') : ∀ (d : D) (v : V), Dp K H v d → Dp K H' v d
  | .none, _, h => by cases h; exact .non
  | .bool b, _, h => by cases h; exact .bl b
  | .int i, _, h => by cases h; exact .int i
  | .str x, _, h => by cases h; exact .str x
  | .list ds, _, h => by
    cases h with
    | lst hs ha => exact .lst (sql_ex e hs) (dpa_ex e ds _ ha)
  | .tuple ds, _, h => by
    cases h with
    | tup hs ha => exact .tup (sqt_ex e hs) (dpa_ex e ds _ ha)
  | .dict [(_, .list ds)], _, h => by
    cases h with
    | obj h1 h2 ha => exact .obj h1 (e _ _ h2) (dpa_ex e ds _ ha)
    | dic h1 ha => exact .dic (e _ _ h1) (dpa_ex e ds _ ha)
  | .dict [], _, h => by cases h
  | .dict [(_, .none)], _, h => by cases h
  | .dict [(_, .bool _)], _, h => by cases h
  | .dict [(_, .int _)], _, h => by cases h
  | .dict [(_, .str _)], _, h => by cases h
  | .dict [(_, .tuple _)], _, h => by cases h
  | .dict [(_, .dict _)], _, h => by cases h
  | .dict (_ :: _ :: _), _, h => by cases h
theorem dpa_ex {K : PySem.W.Frag} {H H' : Hp} (e : Ex H H') : ∀ (ds : List D) (vs : List V), DpAll K H vs ds → DpAll K H' vs ds
  | [], _, h => by cases h; exact .nil
  | d :: ds, _, h => by
    cases h with
    | cons h1 h2 => exact .cons (dp_ex e d _ h1) (dpa_ex e ds _ h2)
end
section
variable {K : PySem.W.Frag} {H : Hp}
theorem dal_len : ∀ {vs : List V} {ds : List D}, DpAll K H vs ds → vs.length = ds.length
  | _, _, .nil => rfl
  | _, _, .cons _ t => congrArg (· + 1) (dal_len t)
theorem dal_app : ∀ {vs ws : List V} {ds es : List D}, DpAll K H vs ds → DpAll K H ws es → DpAll K H (vs ++ ws) (ds ++ es)
  | _, _, _, _, .nil, s => s
  | _, _, _, _, .cons r t, s => .cons r (dal_app t s)
theorem dal_get : ∀ {vs : List V} {ds : List D} {i : Nat} {d : D}, DpAll K H vs ds → ds[i]? = some d → ∃ v, vs[i]? = some v ∧ Dp K H v d
  | _, _, _, _, .nil, e => by simp at e
  | _, _, 0, _, .cons r _, e => by simp at e; subst e; exact ⟨_, rfl, r⟩
  | _, _, i + 1, d, .cons _ t, e => by
    obtain ⟨u, h1, h2⟩ := dal_get (i := i) (d := d) t (by simpa using e)
    exact ⟨u, by simpa using h1, h2⟩
theorem dal_get' : ∀ {vs : List V} {ds : List D} {i : Nat} {v : V}, DpAll K H vs ds → vs[i]? = some v → ∃ d, ds[i]? = some d ∧ Dp K H v d
  | _, _, _, _, .nil, e => by simp at e
  | _, _, 0, _, .cons r _, e => by simp at e; subst e; exact ⟨_, rfl, r⟩
  | _, _, i + 1, v, .cons _ t, e => by
    obtain ⟨u, h1, h2⟩ := dal_get' (i := i) (v := v) t (by simpa using e)
    exact ⟨u, by simpa using h1, h2⟩
theorem dal_set {v : V} {d : D} (r : Dp K H v d) : ∀ {vs : List V} {ds : List D} (i : Nat), DpAll K H vs ds → DpAll K H (vs.set i v) (ds.set i d)
  | _, _, _, .nil => .nil
  | _, _, 0, .cons _ t => .cons r t
  | _, _, i + 1, .cons q t => .cons q (dal_set r i t)
theorem dal_take : ∀ {vs : List V} {ds : List D} (n : Nat), DpAll K H vs ds → DpAll K H (vs.take n) (ds.take n)
  | _, _, 0, _ => .nil
  | _, _, _ + 1, .nil => .nil
  | _, _, n + 1, .cons r t => .cons r (dal_take n t)
theorem dal_drop : ∀ {vs : List V} {ds : List D} (n : Nat), DpAll K H vs ds → DpAll K H (vs.drop n) (ds.drop n)
  | _, _, 0, r => r
  | _, _, _ + 1, .nil => .nil
  | _, _, n + 1, .cons _ t => dal_drop n t
end

/-! ### what a step leaves: frozen part, whole -/
structure Adv (F H F' H' : Hp) : Prop where
  f : Ex F F'
  h : Ex H H'
  fh : Ex F' H'
  new : ∀ p, F p = none → H p ≠ none → F' p = none
theorem Adv.refl {F H : Hp} (e : Ex F H) : Adv F H F H := ⟨Ex.refl _, Ex.refl _, e, fun _ h _ => h⟩
theorem Adv.trans {F H F1 H1 F2 H2 : Hp} (a : Adv F H F1 H1) (b : Adv F1 H1 F2 H2) : Adv F H F2 H2 :=
  ⟨a.f.trans b.f, a.h.trans b.h, b.fh, fun p h1 h2 => b.new p (a.new p h1 h2) fun z => h2 (a.h.none z)⟩
/-- a new frozen object -/
theorem Adv.laid {F H : Hp} (e : Ex F H) {p : Addr} {o : HO} (hp : H p = none) : Adv F H (upd F p o) (upd H p o) := by
  have hf : F p = none := e.none hp
  refine ⟨Ex.new hf, Ex.new hp, e.upd2 p o, fun q h1 h2 => ?_⟩
  have hq : q ≠ p := fun z => h2 (z ▸ hp)
  rw [upd_ne hq]
  exact h1
/-- a new object that is not frozen yet -/
theorem Adv.kept {F H H' : Hp} (e : Ex F H) (h : Ex H H') : Adv F H F H' := ⟨Ex.refl _, h, e.trans h, fun _ h1 _ => h1⟩
/-- a new own list becomes frozen -/
theorem Adv.freeze {F H F' H' : Hp} (a : Adv F H F' H') {p : Addr} {o : HO} (h0 : H p = none) (h1 : F' p = none) (h2 : H' p = some o) : Adv F H (upd F' p o) H' := by
  refine ⟨fun x u h => ?_, a.h, fun x u h => ?_, fun q e1 e2 => ?_⟩
  · rw [upd_ne (ne_of_none (a.f x u h) h1)]
    exact a.f x u h
  · by_cases hx : x = p
    · subst hx
      rw [upd_same] at h
      cases h
      exact h2
    · rw [upd_ne hx] at h
      exact a.fh x u h
  · have hq : q ≠ p := fun z => e2 (z ▸ h0)
    rw [upd_ne hq]
    exact a.new q e1 e2

/-! ### slots -/
/-- a field of an object that is still written: data, or a list that is still written -/
inductive Fd where
  | dat (d : D)
  | own (ds : List D)
inductive Cell where
  | un
  | dat (d : D)
  | own (ds : List D)
  | rf (a : Addr)
  | ob (n : Str × Option Addr) (fs : List (Str × Fd))
abbrev Rho := List Cell
inductive FdAll (K : PySem.W.Frag) (H0 F H : Hp) : List (Str × V) → List (Str × Fd) → Prop
  | nil : FdAll K H0 F H [] []
  | dat {f : Str} {v : V} {d : D} {vs : List (Str × V)} {fs : List (Str × Fd)} : Dp K F v d → FdAll K H0 F H vs fs → FdAll K H0 F H ((f, v) :: vs) ((f, .dat d) :: fs)
  | own {f : Str} {q : Addr} {ws : List V} {ds : List D} {vs : List (Str × V)} {fs : List (Str × Fd)} : F q = none → H0 q = none → H q = some (.lst ws) → DpAll K F ws ds → FdAll K H0 F H vs fs → FdAll K H0 F H ((f, .ref q) :: vs) ((f, .own ds) :: fs)
/-- where the lists of the fields stand that are still written -/
def ownR : List (Str × V) → List (Str × Fd) → List Addr
  | (_, .ref q) :: vs, (_, .own _) :: fs => q :: ownR vs fs
  | _ :: vs, _ :: fs => ownR vs fs
  | _, _ => []
theorem ownR_dat {f : Str} {v : V} {d : D} {vs : List (Str × V)} {g : Str} {fs : List (Str × Fd)} : ownR ((f, v) :: vs) ((g, .dat d) :: fs) = ownR vs fs := by
  cases v <;> rfl
structure ObOk (K : PySem.W.Frag) (H0 F H : Hp) (σ : L2.St) (ρ : Rho) (i : Nat) (n : Str × Option Addr) (fs : List (Str × Fd)) : Prop where
  ex : ∃ (p C dx : Addr) (vs : List (Str × V)), σ[i]? = some (some (.ref p)) ∧ (PySem.W.nsIn K mainGlobals n.1 = some (some (.ref C)) ∧ ∀ a, n.2 = some a → p = a) ∧ F p = none ∧ H0 p = none ∧ H p = some (.ins C dx vs) ∧ FdAll K H0 F H vs fs ∧ (ownR vs fs).Nodup ∧
    ∀ r ∈ ownR vs fs, ∀ (j : Nat) es q, ρ[j]? = some (.own es) → σ[j]? = some (some (.ref q)) → r ≠ q
  one : ∀ (j : Nat) m gs, ρ[j]? = some (.ob m gs) → j = i
theorem FdAll.own_ex {K : PySem.W.Frag} {H0 F H : Hp} {vs : List (Str × V)} {fs : List (Str × Fd)} (h : FdAll K H0 F H vs fs) : ∀ r ∈ ownR vs fs, F r = none ∧ H0 r = none ∧ ∃ ws, H r = some (.lst ws) := by
  induction h with
  | nil => exact fun r hr => nomatch hr
  | dat h1 h2 ih =>
    intro r hr
    rw [ownR_dat] at hr
    exact ih r hr
  | own h1 h2 h3 h4 h5 ih =>
    intro r hr
    rcases List.mem_cons.mp hr with rfl | hr
    · exact ⟨h1, h2, _, h3⟩
    · exact ih r hr
theorem FdAll.go {K : PySem.W.Frag} {H0 F H H0' F' H' : Hp} {vs : List (Str × V)} {fs : List (Str × Fd)} (h : FdAll K H0 F H vs fs) (e : Ex F F') (g : ∀ r ∈ ownR vs fs, F' r = none ∧ H0' r = none ∧ H' r = H r) : FdAll K H0' F' H' vs fs := by
  induction h with
  | nil => exact .nil
  | dat h1 h2 ih =>
    refine .dat (dp_ex e _ _ h1) (ih fun r hr => g r ?_)
    rw [ownR_dat]
    exact hr
  | own h1 h2 h3 h4 h5 ih =>
    obtain ⟨a, b, c⟩ := g _ List.mem_cons_self
    exact .own a b (by rw [c]; exact h3) (dpa_ex e _ _ h4) (ih fun r hr => g r (List.mem_cons_of_mem _ hr))
/-- no own list of a slot stands there -/
def NotOwn (σ : L2.St) (ρ : Rho) (a : Addr) : Prop := ∀ (j : Nat) es, ρ[j]? = some (.own es) → σ[j]? = some (some (.ref a)) → False
theorem ObOk.go {K : PySem.W.Frag} {H0 F H H0' F' H' : Hp} {σ σ' : L2.St} {ρ ρ' : Rho} {i : Nat} {n : Str × Option Addr} {fs : List (Str × Fd)} (h : ObOk K H0 F H σ ρ i n fs) (hl : ∀ (j : Nat) es q, ρ[j]? = some (.own es) → σ[j]? = some (some (.ref q)) → ∃ ws, H q = some (.lst ws)) (hf : Ex F F')
    (hs : σ'[i]? = σ[i]?) (hg : ∀ a, H a ≠ none → F a = none → H0 a = none → NotOwn σ ρ a → F' a = none ∧ H0' a = none ∧ H' a = H a)
    (ho : ∀ (j : Nat) es q, ρ'[j]? = some (.own es) → σ'[j]? = some (some (.ref q)) → (∃ es', ρ[j]? = some (.own es') ∧ σ[j]? = some (some (.ref q))) ∨ H q = none) (h1 : ∀ (j : Nat) m gs, ρ'[j]? = some (.ob m gs) → ∃ m' gs', ρ[j]? = some (.ob m' gs')) : ObOk K H0' F' H' σ' ρ' i n fs := by
  obtain ⟨p, C, dx, vs, a1, a2, a3, a4, a5, a6, a7, a8⟩ := h.ex
  have np : NotOwn σ ρ p := fun j es g1 g2 => by
    obtain ⟨ws, e⟩ := hl j es p g1 g2
    rw [a5] at e
    cases e
  obtain ⟨b1, b2, b3⟩ := hg p (by rw [a5]; exact fun z => nomatch z) a3 a4 np
  refine ⟨⟨p, C, dx, vs, by rw [hs]; exact a1, a2, b1, b2, by rw [b3]; exact a5, a6.go hf fun r hr => ?_, a7, fun r hr j es q g1 g2 z => ?_⟩, fun j m gs hj => ?_⟩
  · obtain ⟨c1, c2, ws, c3⟩ := a6.own_ex r hr
    exact hg r (by rw [c3]; exact fun z => nomatch z) c1 c2 fun j es g1 g2 => a8 r hr j es r g1 g2 rfl
  · obtain ⟨_, _, ws, c3⟩ := a6.own_ex r hr
    rcases ho j es q g1 g2 with ⟨es', k1, k2⟩ | k
    · exact a8 r hr j es' q k1 k2 z
    · rw [z, k] at c3
      cases c3
  · obtain ⟨m', gs', hj'⟩ := h1 j m gs hj
    exact h.one j m' gs' hj'

structure EnvOk (K : PySem.W.Frag) (F0 H0 F H : Hp) (σ : L2.St) (ρ : Rho) : Prop where
  adv : Ex F0 F ∧ Ex H0 H ∧ Ex F H
  new : ∀ p, F0 p = none → H0 p ≠ none → F p = none
  len : ρ.length = σ.length
  dat : ∀ (i : Nat) d, ρ[i]? = some (.dat d) → ∃ v, σ[i]? = some (some v) ∧ Dp K F v d
  own : ∀ (i : Nat) ds, ρ[i]? = some (.own ds) → ∃ p vs, σ[i]? = some (some (.ref p)) ∧ F p = none ∧ H0 p = none ∧ H p = some (.lst vs) ∧ DpAll K F vs ds
  dist : ∀ (i j : Nat) ds es p, ρ[i]? = some (.own ds) → ρ[j]? = some (.own es) → σ[i]? = some (some (.ref p)) → σ[j]? = some (some (.ref p)) → i = j
  rf : ∀ (i : Nat) a, ρ[i]? = some (.rf a) → σ[i]? = some (some (.ref a))
  obs : ∀ (i : Nat) n fs, ρ[i]? = some (.ob n fs) → ObOk K H0 F H σ ρ i n fs
section
variable {K : PySem.W.Frag} {F0 H0 F H F' H' : Hp} {σ : L2.St} {ρ : Rho}
theorem EnvOk.lsts (e : EnvOk K F0 H0 F H σ ρ) : ∀ (j : Nat) es q, ρ[j]? = some (.own es) → σ[j]? = some (some (.ref q)) → ∃ ws, H q = some (.lst ws) := fun j es q h1 h2 => by
  obtain ⟨p, vs, g1, _, _, g4, _⟩ := e.own j es h1
  rw [h2] at g1
  cases g1
  exact ⟨vs, g4⟩
/-- the objects that are still written, behind a step -/
theorem EnvOk.obs_go (e : EnvOk K F0 H0 F H σ ρ) {H0' : Hp} {σ' : L2.St} {ρ' : Rho} (hf : Ex F F') (hc : ∀ (i : Nat) n fs, ρ'[i]? = some (.ob n fs) → ρ[i]? = some (.ob n fs) ∧ σ'[i]? = σ[i]?)
    (hg : ∀ a, H a ≠ none → F a = none → H0 a = none → NotOwn σ ρ a → F' a = none ∧ H0' a = none ∧ H' a = H a)
    (ho : ∀ (j : Nat) es q, ρ'[j]? = some (.own es) → σ'[j]? = some (some (.ref q)) → (∃ es', ρ[j]? = some (.own es') ∧ σ[j]? = some (some (.ref q))) ∨ H q = none) : ∀ (i : Nat) n fs, ρ'[i]? = some (.ob n fs) → ObOk K H0' F' H' σ' ρ' i n fs := fun i n fs hi => by
  obtain ⟨h1, h2⟩ := hc i n fs hi
  exact (e.obs i n fs h1).go e.lsts hf h2 hg ho fun j m gs hj => ⟨m, gs, (hc j m gs hj).1⟩
theorem Adv.keeps {F0 H0 : Hp} (a : Adv F0 H0 F H) {p : Addr} (h : H0 p ≠ none) : H p = H0 p := by
  cases hp : H0 p with
  | none => exact absurd hp h
  | some o => exact a.h p o hp
theorem EnvOk.toAdv (e : EnvOk K F0 H0 F H σ ρ) : Adv F0 H0 F H := ⟨e.adv.1, e.adv.2.1, e.adv.2.2, e.new⟩
theorem EnvOk.fh (e : EnvOk K F0 H0 F H σ ρ) : Ex F H := e.adv.2.2
theorem EnvOk.go (e : EnvOk K F0 H0 F H σ ρ) (a : Adv F H F' H') : EnvOk K F0 H0 F' H' σ ρ := by
  have t := e.toAdv.trans a
  refine ⟨⟨t.f, t.h, t.fh⟩, t.new, e.len, fun i d hi => ?_, fun i ds hi => ?_, e.dist, e.rf, e.obs_go a.f (fun i n fs h => ⟨h, rfl⟩) (fun p h1 h2 h3 _ => ⟨a.new p h2 h1, h3, a.keeps h1⟩) fun j es q h1 h2 => .inl ⟨es, h1, h2⟩⟩
  · obtain ⟨v, h1, h2⟩ := e.dat i d hi
    exact ⟨v, h1, dp_ex a.f d v h2⟩
  · obtain ⟨p, vs, h1, h2, h3, h4, h5⟩ := e.own i ds hi
    exact ⟨p, vs, h1, a.new p h2 (by rw [h4]; exact fun z => nomatch z), h3, a.h p _ h4, dpa_ex a.f ds vs h5⟩
theorem getElem?_set_cases {α : Type} {l : List α} {i j : Nat} {x y : α} (h : (l.set i x)[j]? = some y) : (j = i ∧ y = x ∧ i < l.length) ∨ (j ≠ i ∧ l[j]? = some y) := by
  by_cases hj : j = i
  · subst hj
    by_cases hl : j < l.length
    · rw [List.getElem?_set_self hl] at h
      exact .inl ⟨rfl, (Option.some.inj h).symm, hl⟩
    · rw [List.getElem?_eq_none (by simpa using hl)] at h
      cases h
  · rw [List.getElem?_set_ne (Ne.symm hj)] at h
    exact .inr ⟨hj, h⟩
theorem rf_set {σ : L2.St} {ρ : Rho} {i : Nat} {o : Option V} {c : Cell} (hc : ∀ a, c ≠ .rf a) (h : ∀ (i : Nat) a, ρ[i]? = some (.rf a) → σ[i]? = some (some (.ref a))) (j : Nat) (a : Addr) (hj : (ρ.set i c)[j]? = some (.rf a)) : (σ.set i o)[j]? = some (some (.ref a)) := by
  rcases getElem?_set_cases hj with ⟨_, hd, _⟩ | ⟨hne, hj⟩
  · exact absurd hd.symm (hc a)
  · rw [List.getElem?_set_ne (Ne.symm hne)]
    exact h j a hj
theorem rf_keep {σ : L2.St} {ρ : Rho} {i : Nat} {c : Cell} (hc : ∀ a, c ≠ .rf a) (h : ∀ (i : Nat) a, ρ[i]? = some (.rf a) → σ[i]? = some (some (.ref a))) (j : Nat) (a : Addr) (hj : (ρ.set i c)[j]? = some (.rf a)) : σ[j]? = some (some (.ref a)) := by
  rcases getElem?_set_cases hj with ⟨_, hd, _⟩ | ⟨hne, hj⟩
  · exact absurd hd.symm (hc a)
  · exact h j a hj
theorem set_old {i j : Nat} {c c' : Cell} {σ : L2.St} {ρ : Rho} {o : Option V} (h : (ρ.set i c)[j]? = some c') (hc : c' ≠ c) : ρ[j]? = some c' ∧ (σ.set i o)[j]? = σ[j]? := by
  rcases getElem?_set_cases h with ⟨_, hd, _⟩ | ⟨hne, hj⟩
  · exact absurd hd hc
  · exact ⟨hj, List.getElem?_set_ne (Ne.symm hne)⟩
theorem set_old' {i j : Nat} {c c' : Cell} {ρ : Rho} (h : (ρ.set i c)[j]? = some c') (hc : c' ≠ c) : ρ[j]? = some c' := by
  rcases getElem?_set_cases h with ⟨_, hd, _⟩ | ⟨hne, hj⟩
  · exact absurd hd hc
  · exact hj
theorem EnvOk.obs_set (e : EnvOk K F0 H0 F H σ ρ) {i : Nat} {c : Cell} {o : Option V} (h1 : ∀ n fs, c ≠ .ob n fs) (h2 : ∀ ds, c ≠ .own ds) : ∀ (j : Nat) n fs, (ρ.set i c)[j]? = some (.ob n fs) → ObOk K H0 F H (σ.set i o) (ρ.set i c) j n fs :=
  e.obs_go (Ex.refl F) (fun j n fs h => set_old h fun z => h1 n fs z.symm) (fun a _ h2 h3 _ => ⟨h2, h3, rfl⟩) fun j es q g1 g2 => by
    obtain ⟨k1, k2⟩ := set_old (σ := σ) (o := o) g1 fun z => h2 es z.symm
    rw [k2] at g2
    exact .inl ⟨es, k1, g2⟩
/-- a slot gets data -/
theorem EnvOk.setD (e : EnvOk K F0 H0 F H σ ρ) {i : Nat} {v : V} {d : D} (h : Dp K F v d) : EnvOk K F0 H0 F H (σ.set i (some v)) (ρ.set i (.dat d)) := by
  refine ⟨e.adv, e.new, by simpa using e.len, fun j d' hj => ?_, fun j ds hj => ?_, fun j k ds es p h1 h2 h3 h4 => ?_, rf_set (fun a z => nomatch z) e.rf, e.obs_set (fun _ _ z => nomatch z) (fun _ z => nomatch z)⟩
  · rcases getElem?_set_cases hj with ⟨rfl, hd, hl⟩ | ⟨hne, hj⟩
    · cases hd
      exact ⟨v, by rw [List.getElem?_set_self (by rw [← e.len]; exact hl)], h⟩
    · obtain ⟨w, h1, h2⟩ := e.dat j d' hj
      exact ⟨w, by rw [List.getElem?_set_ne (Ne.symm hne)]; exact h1, h2⟩
  · rcases getElem?_set_cases hj with ⟨rfl, hd, hl⟩ | ⟨hne, hj⟩
    · cases hd
    · obtain ⟨p, vs, h1, h2⟩ := e.own j ds hj
      exact ⟨p, vs, by rw [List.getElem?_set_ne (Ne.symm hne)]; exact h1, h2⟩
  · rcases getElem?_set_cases h1 with ⟨_, hd, _⟩ | ⟨n1, h1⟩
    · cases hd
    rcases getElem?_set_cases h2 with ⟨_, hd, _⟩ | ⟨n2, h2⟩
    · cases hd
    rw [List.getElem?_set_ne (Ne.symm n1)] at h3
    rw [List.getElem?_set_ne (Ne.symm n2)] at h4
    exact e.dist j k ds es p h1 h2 h3 h4
/-- a slot gets a new own list -/
theorem EnvOk.setO (e : EnvOk K F0 H0 F H σ ρ) {i : Nat} {p : Addr} {vs : List V} {ds : List D} (h0 : H0 p = none) (h1 : F p = none) (h2 : H p = some (.lst vs)) (h3 : DpAll K F vs ds)
    (hn : ∀ (j : Nat) es q, ρ[j]? = some (.own es) → σ[j]? = some (some (.ref q)) → q ≠ p) (hm : ∀ (j : Nat) n fs q C dx vs, ρ[j]? = some (.ob n fs) → σ[j]? = some (some (.ref q)) → H q = some (.ins C dx vs) → p ∉ ownR vs fs) : EnvOk K F0 H0 F H (σ.set i (some (.ref p))) (ρ.set i (.own ds)) := by
  refine ⟨e.adv, e.new, by simpa using e.len, fun j d' hj => ?_, fun j es hj => ?_, fun j k es fs q g1 g2 g3 g4 => ?_, rf_set (fun a z => nomatch z) e.rf, fun j n fs hj => ?_⟩
  · rcases getElem?_set_cases hj with ⟨rfl, hd, hl⟩ | ⟨hne, hj⟩
    · cases hd
    · obtain ⟨w, h1, h2⟩ := e.dat j d' hj
      exact ⟨w, by rw [List.getElem?_set_ne (Ne.symm hne)]; exact h1, h2⟩
  · rcases getElem?_set_cases hj with ⟨rfl, hd, hl⟩ | ⟨hne, hj⟩
    · cases hd
      exact ⟨p, vs, by rw [List.getElem?_set_self (by rw [← e.len]; exact hl)], h1, h0, h2, h3⟩
    · obtain ⟨q, ws, g1, g2⟩ := e.own j es hj
      exact ⟨q, ws, by rw [List.getElem?_set_ne (Ne.symm hne)]; exact g1, g2⟩
  · rcases getElem?_set_cases g1 with ⟨ej, _, l1⟩ | ⟨n1, u1⟩
    · rcases getElem?_set_cases g2 with ⟨ek, _, _⟩ | ⟨n2, u2⟩
      · exact ej.trans ek.symm
      · rw [ej, List.getElem?_set_self (by rw [← e.len]; exact l1)] at g3
        cases g3
        rw [List.getElem?_set_ne (Ne.symm n2)] at g4
        exact absurd rfl (hn k fs _ u2 g4)
    · rcases getElem?_set_cases g2 with ⟨ek, _, l2⟩ | ⟨n2, u2⟩
      · rw [ek, List.getElem?_set_self (by rw [← e.len]; exact l2)] at g4
        cases g4
        rw [List.getElem?_set_ne (Ne.symm n1)] at g3
        exact absurd rfl (hn j es _ u1 g3)
      · rw [List.getElem?_set_ne (Ne.symm n1)] at g3
        rw [List.getElem?_set_ne (Ne.symm n2)] at g4
        exact e.dist j k es fs q u1 u2 g3 g4
  · obtain ⟨k1, k2⟩ := set_old (σ := σ) (o := some (.ref p)) hj fun z => nomatch z
    have ob := e.obs j n fs k1
    obtain ⟨q, C, dx, ws, a1, a2, a3, a4, a5, a6, a7, a8⟩ := ob.ex
    refine ⟨⟨q, C, dx, ws, by rw [k2]; exact a1, a2, a3, a4, a5, a6, a7, fun r hr l es x g1 g2 z => ?_⟩, fun l m gs g => ob.one l m gs (set_old' g fun z => nomatch z)⟩
    rcases getElem?_set_cases g1 with ⟨rfl, hd, hl⟩ | ⟨hne, hj⟩
    · rw [List.getElem?_set_self (by rw [← e.len]; exact hl)] at g2
      cases g2
      exact hm j n fs q C dx ws k1 a1 a5 (z ▸ hr)
    · rw [List.getElem?_set_ne (Ne.symm hne)] at g2
      exact a8 r hr l es x hj g2 z
/-- the own list at slot i is written -/
theorem EnvOk.mutO (e : EnvOk K F0 H0 F H σ ρ) {i : Nat} {p : Addr} {ds es : List D} {ws : List V} (hi : ρ[i]? = some (.own ds)) (hp : σ[i]? = some (some (.ref p))) (h3 : DpAll K F ws es) :
    EnvOk K F0 H0 F (upd H p (.lst ws)) σ (ρ.set i (.own es)) := by
  obtain ⟨p', vs, g1, g2, g3, g4, g5⟩ := e.own i ds hi
  rw [hp] at g1
  cases g1
  refine ⟨⟨e.adv.1, fun x u h => ?_, fun x u h => ?_⟩, e.new, by simpa using e.len, fun j d' hj => ?_, fun j fs hj => ?_, fun j k fs gs q k1 k2 k3 k4 => ?_, rf_keep (fun a z => nomatch z) e.rf, e.obs_go (Ex.refl F) (fun j n fs hj => ⟨set_old' hj fun z => (nomatch z), rfl⟩) (fun a _ h2 h3 h4 => ⟨h2, h3, upd_ne fun z => h4 i ds hi (z ▸ hp)⟩) fun j fs q g1 g2 => ?_⟩
  · rw [upd_ne (ne_of_none h g3)]
    exact e.adv.2.1 x u h
  · rw [upd_ne (ne_of_none h g2)]
    exact e.adv.2.2 x u h
  · rcases getElem?_set_cases hj with ⟨rfl, hd, hl⟩ | ⟨hne, hj⟩
    · cases hd
    · exact e.dat j d' hj
  · rcases getElem?_set_cases hj with ⟨rfl, hd, hl⟩ | ⟨hne, hj⟩
    · cases hd
      exact ⟨p, ws, hp, g2, g3, upd_same, h3⟩
    · obtain ⟨q, xs, k1, k2, k3, k4, k5⟩ := e.own j fs hj
      refine ⟨q, xs, k1, k2, k3, ?_, k5⟩
      have hq : q ≠ p := fun z => by
        subst z
        exact hne (e.dist j i fs ds q hj hi k1 hp)
      rw [upd_ne hq]
      exact k4
  · have o1 : ∃ fs', ρ[j]? = some (.own fs') := by
      rcases getElem?_set_cases k1 with ⟨rfl, _, _⟩ | ⟨_, k1⟩
      · exact ⟨_, hi⟩
      · exact ⟨_, k1⟩
    have o2 : ∃ fs', ρ[k]? = some (.own fs') := by
      rcases getElem?_set_cases k2 with ⟨rfl, _, _⟩ | ⟨_, k2⟩
      · exact ⟨_, hi⟩
      · exact ⟨_, k2⟩
    obtain ⟨a1, o1⟩ := o1
    obtain ⟨a2, o2⟩ := o2
    exact e.dist j k a1 a2 q o1 o2 k3 k4
  · rcases getElem?_set_cases g1 with ⟨rfl, _, _⟩ | ⟨_, k1⟩
    · exact .inl ⟨_, hi, g2⟩
    · exact .inl ⟨_, k1, g2⟩
/-- the own list at slot i becomes data -/
theorem EnvOk.freeze (e : EnvOk K F0 H0 F H σ ρ) {i : Nat} {ds : List D} (hi : ρ[i]? = some (.own ds)) : ∃ p vs, σ[i]? = some (some (.ref p)) ∧ Dp K (upd F p (.lst vs)) (.ref p) (.list ds) ∧
    EnvOk K F0 H0 (upd F p (.lst vs)) H σ (ρ.set i (.dat (.list ds))) := by
  obtain ⟨p, vs, g1, g2, g3, g4, g5⟩ := e.own i ds hi
  have f : Ex F (upd F p (.lst vs)) := Ex.new g2
  have dp : Dp K (upd F p (.lst vs)) (.ref p) (.list ds) := .lst (SqL.of upd_same) (dpa_ex f ds vs g5)
  refine ⟨p, vs, g1, dp, ⟨e.adv.1.trans f, e.adv.2.1, fun x u h => ?_⟩, fun q h1 h2 => ?_, by simpa using e.len, fun j d' hj => ?_, fun j fs hj => ?_, fun j k fs gs q k1 k2 k3 k4 => ?_, rf_keep (fun a z => nomatch z) e.rf, e.obs_go f (fun j n fs hj => ⟨set_old' hj fun z => (nomatch z), rfl⟩) (fun a _ h2 h3 h4 => ⟨(upd_ne fun (z : a = p) => h4 i ds hi (by rw [z]; exact g1)).trans h2, h3, rfl⟩) fun j fs q k1 k2 => .inl ⟨fs, set_old' k1 fun z => (nomatch z), k2⟩⟩
  · by_cases hx : x = p
    · subst hx
      rw [upd_same] at h
      cases h
      exact g4
    · rw [upd_ne hx] at h
      exact e.adv.2.2 x u h
  · have hq : q ≠ p := fun z => h2 (z ▸ g3)
    rw [upd_ne hq]
    exact e.new q h1 h2
  · rcases getElem?_set_cases hj with ⟨rfl, hd, hl⟩ | ⟨hne, hj⟩
    · cases hd
      exact ⟨_, g1, dp⟩
    · obtain ⟨w, k1, k2⟩ := e.dat j d' hj
      exact ⟨w, k1, dp_ex f d' w k2⟩
  · rcases getElem?_set_cases hj with ⟨rfl, hd, hl⟩ | ⟨hne, hj⟩
    · cases hd
    · obtain ⟨q, xs, k1, k2, k3, k4, k5⟩ := e.own j fs hj
      have hq : q ≠ p := fun z => by
        subst z
        exact hne (e.dist j i fs ds q hj hi k1 g1)
      exact ⟨q, xs, k1, by rw [upd_ne hq]; exact k2, k3, k4, dpa_ex f fs xs k5⟩
  · rcases getElem?_set_cases k1 with ⟨_, hd, _⟩ | ⟨_, k1⟩
    · cases hd
    rcases getElem?_set_cases k2 with ⟨_, hd, _⟩ | ⟨_, k2⟩
    · cases hd
    exact e.dist j k fs gs q k1 k2 k3 k4
/-- slots forgotten -/
def wipeR (ρ : Rho) : List Nat → Rho
  | [] => ρ
  | v :: vs => (wipeR ρ vs).set v .un
theorem EnvOk.set1 (e : EnvOk K F0 H0 F H σ ρ) (i : Nat) : EnvOk K F0 H0 F H (σ.set i none) (ρ.set i .un) := by
  refine ⟨e.adv, e.new, by simpa using e.len, fun j d' hj => ?_, fun j es hj => ?_, fun j k es fs q g1 g2 g3 g4 => ?_, rf_set (fun a z => nomatch z) e.rf, e.obs_set (fun _ _ z => nomatch z) (fun _ z => nomatch z)⟩
  · rcases getElem?_set_cases hj with ⟨rfl, hd, hl⟩ | ⟨hne, hj⟩
    · cases hd
    · obtain ⟨w, h1, h2⟩ := e.dat j d' hj
      exact ⟨w, by rw [List.getElem?_set_ne (Ne.symm hne)]; exact h1, h2⟩
  · rcases getElem?_set_cases hj with ⟨rfl, hd, hl⟩ | ⟨hne, hj⟩
    · cases hd
    · obtain ⟨q, ws, g1, g2⟩ := e.own j es hj
      exact ⟨q, ws, by rw [List.getElem?_set_ne (Ne.symm hne)]; exact g1, g2⟩
  · rcases getElem?_set_cases g1 with ⟨_, hd, _⟩ | ⟨n1, g1⟩
    · cases hd
    rcases getElem?_set_cases g2 with ⟨_, hd, _⟩ | ⟨n2, g2⟩
    · cases hd
    rw [List.getElem?_set_ne (Ne.symm n1)] at g3
    rw [List.getElem?_set_ne (Ne.symm n2)] at g4
    exact e.dist j k es fs q g1 g2 g3 g4
theorem EnvOk.wipe (e : EnvOk K F0 H0 F H σ ρ) : ∀ vs : List Nat, EnvOk K F0 H0 F H (L2.wipe σ vs) (wipeR ρ vs)
  | [] => e
  | v :: vs => (EnvOk.wipe e vs).set1 v
theorem EnvOk.fresh_ob (e : EnvOk K F0 H0 F H σ ρ) {p : Addr} (hp : H p = none) {H' : Hp} (hh : Ex H H') : ∀ (j : Nat) n fs q C dx vs, ρ[j]? = some (.ob n fs) → σ[j]? = some (some (.ref q)) → H' q = some (.ins C dx vs) → p ∉ ownR vs fs := fun j n fs q C dx vs h1 h2 h3 hr => by
  obtain ⟨q', C', dx', ws, a1, a2, a3, a4, a5, a6, a7, a8⟩ := (e.obs j n fs h1).ex
  rw [h2] at a1
  cases a1
  rw [hh _ _ a5] at h3
  cases h3
  obtain ⟨_, _, ws, k⟩ := a6.own_ex p hr
  rw [hp] at k
  cases k
/-- an address that is new to the whole is none of the own ones -/
theorem EnvOk.fresh (e : EnvOk K F0 H0 F H σ ρ) {p : Addr} (hp : H p = none) : ∀ (j : Nat) es q, ρ[j]? = some (.own es) → σ[j]? = some (some (.ref q)) → q ≠ p := fun j es q h1 h2 z => by
  obtain ⟨q', vs, g1, _, _, g4, _⟩ := e.own j es h1
  rw [h2] at g1
  cases g1
  rw [z, hp] at g4
  cases g4
end

/-- data that is read: frozen, or an own list -/
def Tp (K : PySem.W.Frag) (F H : Hp) (v : V) (d : D) : Prop := Dp K F v d ∨ ∃ p vs ds, v = .ref p ∧ d = .list ds ∧ F p = none ∧ H p = some (.lst vs) ∧ DpAll K F vs ds
theorem Tp.go {K : PySem.W.Frag} {F H F' H' : Hp} {v : V} {d : D} (t : Tp K F H v d) (a : Adv F H F' H') : Tp K F' H' v d := by
  rcases t with t | ⟨p, vs, ds, h1, h2, h3, h4, h5⟩
  · exact .inl (dp_ex a.f d v t)
  · exact .inr ⟨p, vs, ds, h1, h2, a.new p h3 (by rw [h4]; exact fun z => nomatch z), a.h p _ h4, dpa_ex a.f ds vs h5⟩
theorem Tp.dp {K : PySem.W.Frag} {F H : Hp} {v : V} {d : D} (t : Tp K F H v d) (e : Ex F H) : Dp K H v d := by
  rcases t with t | ⟨p, vs, ds, h1, h2, h3, h4, h5⟩
  · exact dp_ex e d v t
  · subst h1 h2
    exact .lst (SqL.of h4) (dpa_ex e ds vs h5)
theorem Tp.list {K : PySem.W.Frag} {F H : Hp} {v : V} {ds : List D} (t : Tp K F H v (.list ds)) (e : Ex F H) : ∃ p vs, v = .ref p ∧ SqL K H p vs ∧ DpAll K F vs ds := by
  rcases t with t | ⟨p, vs, ds, h1, h2, h3, h4, h5⟩
  · cases t with
    | lst hs ha => exact ⟨_, _, rfl, sql_ex e hs, ha⟩
  · cases h2
    exact ⟨p, vs, h1, SqL.of h4, h5⟩
theorem Tp.tuple {K : PySem.W.Frag} {F H : Hp} {v : V} {ds : List D} (t : Tp K F H v (.tuple ds)) (e : Ex F H) : ∃ p vs, v = .ref p ∧ SqT K H p vs ∧ DpAll K F vs ds := by
  rcases t with t | ⟨p, vs, ds, h1, h2, h3, h4, h5⟩
  · cases t with
    | tup hs ha => exact ⟨_, _, rfl, sqt_ex e hs, ha⟩
  · cases h2
theorem Tp.int {K : PySem.W.Frag} {F H : Hp} {v : V} {i : Int} (t : Tp K F H v (.int i)) : v = .int i := by
  rcases t with t | ⟨p, vs, ds, h1, h2, h3, h4, h5⟩
  · cases t; rfl
  · cases h2
theorem Tp.bool {K : PySem.W.Frag} {F H : Hp} {v : V} {i : Bool} (t : Tp K F H v (.bool i)) : v = .bl i := by
  rcases t with t | ⟨p, vs, ds, h1, h2, h3, h4, h5⟩
  · cases t; rfl
  · cases h2
theorem Tp.str {K : PySem.W.Frag} {F H : Hp} {v : V} {i : Str} (t : Tp K F H v (.str i)) : v = .str i := by
  rcases t with t | ⟨p, vs, ds, h1, h2, h3, h4, h5⟩
  · cases t; rfl
  · cases h2
theorem Tp.none {K : PySem.W.Frag} {F H : Hp} {v : V} (t : Tp K F H v .none) : v = .non := by
  rcases t with t | ⟨p, vs, ds, h1, h2, h3, h4, h5⟩
  · cases t; rfl
  · cases h2
inductive TpAll (K : PySem.W.Frag) (F H : Hp) : List V → List D → Prop
  | nil : TpAll K F H [] []
  | cons {v : V} {vs : List V} {d : D} {ds : List D} : Tp K F H v d → TpAll K F H vs ds → TpAll K F H (v :: vs) (d :: ds)

/-! ### readings by functions over data -/
def tE (K : PySem.W.Frag) (F0 H0 : Hp) (m : Rho → Option D) : TE := fun σ H Q => ∃ ρ F d, EnvOk K F0 H0 F H σ ρ ∧ m ρ = some d ∧ ∀ v F' H', Adv F H F' H' → Dp K F' v d → Q v H'
def tT (K : PySem.W.Frag) (F0 H0 : Hp) (m : Rho → Option D) : TE := fun σ H Q => ∃ ρ F d, EnvOk K F0 H0 F H σ ρ ∧ m ρ = some d ∧ ∀ v F' H', Adv F H F' H' → Tp K F' H' v d → Q v H'
/-- a new list -/
def tO (K : PySem.W.Frag) (F0 H0 : Hp) (m : Rho → Option (List D)) : TE := fun σ H Q => ∃ ρ F ds, EnvOk K F0 H0 F H σ ρ ∧ m ρ = some ds ∧
  ∀ p vs F' H', Adv F H F' H' → H p = none → F' p = none → H' p = some (.lst vs) → DpAll K F' vs ds → Q (.ref p) H'
def tB (K : PySem.W.Frag) (F0 H0 : Hp) (m : Rho → Option Bool) : TT := fun σ H Q => ∃ ρ F b, EnvOk K F0 H0 F H σ ρ ∧ m ρ = some b ∧ ∀ F' H', Adv F H F' H' → Q b H'
/-- arguments: read alone; handed on -/
def tAT (K : PySem.W.Frag) (F0 H0 : Hp) (m : Rho → Option (List D)) : TA := fun σ H Q => ∃ ρ F ds, EnvOk K F0 H0 F H σ ρ ∧ m ρ = some ds ∧ ∀ vs F' H', Adv F H F' H' → TpAll K F' H' vs ds → Q vs H'
def tAE (K : PySem.W.Frag) (F0 H0 : Hp) (m : Rho → Option (List D)) : TA := fun σ H Q => ∃ ρ F ds, EnvOk K F0 H0 F H σ ρ ∧ m ρ = some ds ∧ ∀ vs F' H', Adv F H F' H' → DpAll K F' vs ds → Q vs H'

/-- an error that is raised: its class by name, its fields -/
structure Exn where
  tag : Str
  fs : List (Str × D)
def XAt (X : Cx) (F : Hp) (e : Exn) (cls : Value) (d : Option Addr) : Prop := ∃ (C dx : Addr) (vs : List (Str × V)), X.mg e.tag = some (.ref C) ∧ cls = .ref C ∧ d = some dx ∧ F dx = some (.xd vs) ∧ vs.map (·.1) = e.fs.map (·.1) ∧ DpAll X.K F (vs.map (·.2)) (e.fs.map (·.2))
inductive Res where
  | ex (e : Exn) (ρ : Rho)
  | nx (ρ : Rho)
  | rt (d : D)
  | bk (ρ : Rho)
  | ct (ρ : Rho)
  | ro (ds : List D)
  | rs (d : D) (ρ : Rho)
def noW : WX := fun _ _ _ _ => False
def Goes (X : Cx) (F0 H0 : Hp) (W : WX) (Dn : Ends) : Res → Prop
  | .ex e ρ => ∀ σ F H cls d, EnvOk X.K F0 H0 F H σ ρ → XAt X F e cls d → W cls d σ H
  | .nx ρ => ∀ σ F H, EnvOk X.K F0 H0 F H σ ρ → Dn.nx σ H
  | .rt d => ∀ v F H, Adv F0 H0 F H → Dp X.K F v d → Dn.rt v H
  | .bk ρ => ∀ σ F H, EnvOk X.K F0 H0 F H σ ρ → Dn.bk σ H
  | .ct ρ => ∀ σ F H, EnvOk X.K F0 H0 F H σ ρ → Dn.ct σ H
  | .ro ds => ∀ p vs F H, Adv F0 H0 F H → H0 p = none → F p = none → H p = some (.lst vs) → DpAll X.K F vs ds → Dn.rt (.ref p) H
  | .rs d ρ => ∀ v σ F H, EnvOk X.K F0 H0 F H σ ρ → Dp X.K F v d → Dn.rt v H
def tS (X : Cx) (F0 H0 : Hp) (W : WX) (m : Rho → Option Res) : TS := fun Dn σ H => ∃ ρ F r, EnvOk X.K F0 H0 F H σ ρ ∧ m ρ = some r ∧ Goes X F0 H0 W Dn r

structure ME (X : Cx) (e : Expr) (m : Rho → Option D) : Prop where
  ok : ∀ F0 H0, PE X e (tE X.K F0 H0 m)
structure MT (X : Cx) (e : Expr) (m : Rho → Option D) : Prop where
  ok : ∀ F0 H0, PE X e (tT X.K F0 H0 m)
structure MO (X : Cx) (e : Expr) (m : Rho → Option (List D)) : Prop where
  ok : ∀ F0 H0, PE X e (tO X.K F0 H0 m)
structure MB (X : Cx) (e : Expr) (m : Rho → Option Bool) : Prop where
  ok : ∀ F0 H0, PT X e (tB X.K F0 H0 m)
structure MAT (X : Cx) (es : List Expr) (m : Rho → Option (List D)) : Prop where
  ok : ∀ F0 H0, PA X es (tAT X.K F0 H0 m)
structure MAE (X : Cx) (es : List Expr) (m : Rho → Option (List D)) : Prop where
  ok : ∀ F0 H0, PA X es (tAE X.K F0 H0 m)
structure MS (X : Cx) (W : WX) (st : Stmt) (m : Rho → Option Res) : Prop where
  ok : ∀ F0 H0, PS X st (tS X F0 H0 W m)
structure MSs (X : Cx) (W : WX) (st : List Stmt) (m : Rho → Option Res) : Prop where
  ok : ∀ F0 H0, PSs X st (tS X F0 H0 W m)

theorem pe_weak {X : Cx} {e : Expr} {t t' : TE} (h : PE X e t) (w : ∀ σ H Q, t' σ H Q → t σ H Q) : PE X e t' := ⟨fun pins s σ H Q I q => h.run pins s σ H Q I (w σ H Q q)⟩
theorem pt_weak {X : Cx} {e : Expr} {t t' : TT} (h : PT X e t) (w : ∀ σ H Q, t' σ H Q → t σ H Q) : PT X e t' := ⟨fun pins s σ H Q I q => h.run pins s σ H Q I (w σ H Q q)⟩
theorem pa_weak {X : Cx} {e : List Expr} {t t' : TA} (h : PA X e t) (w : ∀ σ H Q, t' σ H Q → t σ H Q) : PA X e t' := ⟨fun pos pins s σ H Q I q => h.run pos pins s σ H Q I (w σ H Q q)⟩
theorem ps_weak {X : Cx} {e : Stmt} {t t' : TS} (h : PS X e t) (w : ∀ D σ H, t' D σ H → t D σ H) : PS X e t' := ⟨fun pins s σ H D I q => h.run pins s σ H D I (w D σ H q)⟩
theorem pss_weak {X : Cx} {e : List Stmt} {t t' : TS} (h : PSs X e t) (w : ∀ D σ H, t' D σ H → t D σ H) : PSs X e t' := ⟨fun pins s σ H D I q => h.run pins s σ H D I (w D σ H q)⟩

theorem ME.t {X : Cx} {e : Expr} {m : Rho → Option D} (h : ME X e m) : MT X e m := ⟨fun F0 H0 => pe_weak (h.ok F0 H0) fun σ H Q ⟨ρ, F, d, e1, e2, q⟩ => ⟨ρ, F, d, e1, e2, fun v F' H' a p => q v F' H' a (.inl p)⟩⟩
def mL (m : Rho → Option (List D)) : Rho → Option D := fun ρ => (m ρ).map PyData.list
theorem MO.e {X : Cx} {e : Expr} {m : Rho → Option (List D)} (h : MO X e m) : ME X e (mL m) := ⟨fun F0 H0 => pe_weak (h.ok F0 H0) fun σ H Q ⟨ρ, F, d, e1, e2, q⟩ => by
  unfold mL at e2
  cases hm : m ρ with
  | none => rw [hm] at e2; cases e2
  | some ds =>
    rw [hm] at e2
    cases e2
    refine ⟨ρ, F, ds, e1, hm, fun p vs F' H' a h0 h1 h2 h3 => q _ _ _ (a.freeze h0 h1 h2) (.lst (SqL.of upd_same) (dpa_ex (Ex.new h1) ds vs h3))⟩⟩
theorem MO.t {X : Cx} {e : Expr} {m : Rho → Option (List D)} (h : MO X e m) : MT X e (mL m) := h.e.t
end MV

set_option maxRecDepth 100000
set_option maxHeartbeats 4000000
namespace MV
open PySem PySem.Spec PyProof.Rows L2

/-! ### operations on data -/
def dAdd : D → D → Option D
  | .int i, .int j => some (.int (i + j))
  | .str a, .str b => if a.length + b.length ≤ 100000 then some (.str (a ++ b)) else none
  | .list a, .list b => if a.length + b.length ≤ 100000 then some (.list (a ++ b)) else none
  | .tuple a, .tuple b => if a.length + b.length ≤ 100000 then some (.tuple (a ++ b)) else none
  | _, _ => none
def dSub : D → D → Option D
  | .int i, .int j => some (.int (i - j))
  | _, _ => none
/-- the sizes for which the product is served -/
def mulOk (i j : Int) : Bool := decide (i.natAbs.log2 + j.natAbs.log2 < 1000000 ∨ i.natAbs < 2 ^ 64 ∨ j.natAbs < 2 ^ 64)
def divOk (j : Int) : Bool := decide (j ≠ 0 ∧ j.natAbs.log2 < 9000)
theorem mulOk_l {i j : Int} (h : i.natAbs < 2 ^ 64) : mulOk i j = true := decide_eq_true (.inr (.inl h))
theorem mulOk_r {i j : Int} (h : j.natAbs < 2 ^ 64) : mulOk i j = true := decide_eq_true (.inr (.inr h))
theorem log2_lt' {n a : Nat} (h0 : 0 < a) (h : n < 2 ^ a) : n.log2 < a := by
  by_cases hn : n = 0
  · subst hn
    rw [Nat.log2_zero]
    exact h0
  · exact (Nat.log2_lt hn).mpr h
theorem mulOk_n {i j : Int} {a b : Nat} (ha : i.natAbs < 2 ^ a) (hb : j.natAbs < 2 ^ b) (h0 : 0 < a) (h1 : 0 < b) (h : a + b ≤ 1000000) : mulOk i j = true :=
  decide_eq_true (.inl (by have x := log2_lt' h0 ha; have y := log2_lt' h1 hb; omega))
theorem divOk_n {j : Int} {b : Nat} (hj : j ≠ 0) (hb : j.natAbs < 2 ^ b) (h : b ≤ 9000) : divOk j = true :=
  decide_eq_true ⟨hj, Nat.lt_of_lt_of_le (log2_lt' (by
    cases b with
    | zero => exact absurd hb (by omega)
    | succ b => omega) hb) h⟩
def repOk (ds : List D) (k : Int) : Bool := decide (-(2 ^ 62) ≤ k ∧ k < 2 ^ 62 ∧ ds.length * k.toNat ≤ 100000)
def dMul : D → D → Option D
  | .int i, .int j => if mulOk i j = true then some (.int (i * j)) else none
  | .list ds, .int k => if repOk ds k = true then some (.list (List.replicate k.toNat ds).flatten) else none
  | _, _ => none
def dDiv : D → D → Option D
  | .int i, .int j => if divOk j = true then some (.int (i.fdiv j)) else none
  | _, _ => none
theorem dMul_rep {ds : List D} {k : Int} (h : repOk ds k = true) : dMul (.list ds) (.int k) = some (.list (List.replicate k.toNat ds).flatten) := if_pos h
theorem dMul_ok {i j : Int} (h : mulOk i j = true) : dMul (.int i) (.int j) = some (.int (i * j)) := if_pos h
theorem dDiv_ok {i j : Int} (h : divOk j = true) : dDiv (.int i) (.int j) = some (.int (i.fdiv j)) := if_pos h
def dMod : D → D → Option D
  | .int i, .int j => if j ≠ 0 then some (.int (i.fmod j)) else none
  | _, _ => none
def dPow : D → D → Option D
  | .int i, .int j => if 0 ≤ j ∧ j ≤ 1000 ∧ i.natAbs < 2 ^ 64 then some (.int (i ^ j.toNat)) else none
  | _, _ => none
theorem dMod_ok {i j : Int} (h : j ≠ 0) : dMod (.int i) (.int j) = some (.int (i.fmod j)) := if_pos h
def dNeg : D → Option D
  | .int i => some (.int (-i))
  | _ => none
def dLt : D → D → Option D
  | .int i, .int j => some (.bool (decide (i < j)))
  | _, _ => none
def dLe : D → D → Option D
  | .int i, .int j => some (.bool (decide (i ≤ j)))
  | _, _ => none
def dGt : D → D → Option D
  | .int i, .int j => some (.bool (decide (j < i)))
  | _, _ => none
def dGe : D → D → Option D
  | .int i, .int j => some (.bool (decide (j ≤ i)))
  | _, _ => none
def eqOk : D → D → Bool
  | .str _, .str _ => true
  | d, e => SeqAt.shaped d && SeqAt.shaped e
theorem eqOk_cases {d e : D} (h : eqOk d e = true) : (∃ x y, d = .str x ∧ e = .str y) ∨ (SeqAt.shaped d = true ∧ SeqAt.shaped e = true) := by
  unfold eqOk at h
  split at h
  · exact .inl ⟨_, _, rfl, rfl⟩
  · exact .inr (Bool.and_eq_true_iff.mp h)
def dEq : D → D → Option D := fun d e => if eqOk d e = true then some (.bool (PyData.eqv d e)) else none
def dNe : D → D → Option D := fun d e => if eqOk d e = true then some (.bool (!PyData.eqv d e)) else none
theorem dEq_ok {d e : D} (h : eqOk d e = true) : dEq d e = some (.bool (PyData.eqv d e)) := if_pos h
theorem dNe_ok {d e : D} (h : eqOk d e = true) : dNe d e = some (.bool (!PyData.eqv d e)) := if_pos h
def isNoneD : D → Bool
  | .none => true
  | _ => false
def dIs : D → D → Option D
  | d, .none => some (.bool (isNoneD d))
  | _, _ => none
def dIsNot : D → D → Option D
  | d, .none => some (.bool (!isNoneD d))
  | _, _ => none
def dIx : D → D → Option D
  | .list a, .int i => atI a i
  | .tuple a, .int i => atI a i
  | .str z, .int i => if z.length ≤ 100000 then (atI z.cps.toList i).map fun c => .str ⟨#[c]⟩ else none
  | _, _ => none
def m2 (g : D → D → Option D) (ma mb : Rho → Option D) : Rho → Option D := fun ρ => (ma ρ).bind fun x => (mb ρ).bind fun y => g x y
def m1 (g : D → Option D) (ma : Rho → Option D) : Rho → Option D := fun ρ => (ma ρ).bind g
def mC (d : D) : Rho → Option D := fun _ => some d
def mVar (i : Nat) : Rho → Option D := fun ρ => match ρ[i]? with
  | some (.dat d) => some d
  | _ => none
def mOwn (i : Nat) : Rho → Option D := fun ρ => match ρ[i]? with
  | some (.own ds) => some (.list ds)
  | some (.dat d) => some d
  | _ => none

def rD (K : PySem.W.Frag) (g : D → D → Option D) : R2 := fun x y H Q => ∃ F dx dy d, Ex F H ∧ Tp K F H x dx ∧ Tp K F H y dy ∧ g dx dy = some d ∧ ∀ v F' H', Adv F H F' H' → Dp K F' v d → Q v H'
structure OpD (X : Cx) (f : Value → Value → Sem Value) (g : D → D → Option D) : Prop where
  ok : OpR X f (rD X.K g)
def cD (K : PySem.W.Frag) (g : List D → Option D) : List V → Hp → VK → Prop := fun xs H Q => ∃ F ds d, Ex F H ∧ TpAll K F H xs ds ∧ g ds = some d ∧ ∀ v F' H', Adv F H F' H' → Dp K F' v d → Q v H'
structure FnD (X : Cx) (f : Value) (g : List D → Option D) : Prop where
  ok : CallR X f (cD X.K g)

theorem sz_of {n : Nat} (h : n ≤ 100000) : n ≤ sizeLine := Nat.le_trans h (by decide)
section
variable {X : Cx}
theorem op_fdivX : OpR X (binaryOp .FloorDiv) (rI (fun _ j => j ≠ 0 ∧ j.natAbs.log2 < 9000) fun i j => .int (i.fdiv j)) := opI fun _ _ _ _ _ _ _ hc q => floordiv_int hc.1 q (.inl (PyProof.noPylong_of_log2 hc.2))
theorem od_add : OpD X (binaryOp .Add) dAdd := by
  refine ⟨fun pins s σ H x y v u Q I rx ry h => ?_⟩
  obtain ⟨F, dx, dy, d, e, tx, ty, hg, q⟩ := h
  unfold dAdd at hg
  split at hg
  · cases hg
    rw [tx.int] at rx
    rw [ty.int] at ry
    exact op_add pins s σ H _ _ v u Q I rx ry ⟨_, _, rfl, rfl, q _ F H (Adv.refl e) (.int _)⟩
  · split at hg
    · cases hg
      rename_i hz
      rw [tx.str] at rx
      rw [ty.str] at ry
      exact op_add_str pins s σ H _ _ v u Q I rx ry ⟨_, _, rfl, rfl, sz_of hz, q _ F H (Adv.refl e) (.str _)⟩
    · cases hg
  · split at hg
    · cases hg
      rename_i hz
      obtain ⟨p1, vs1, e1, q1, a1⟩ := tx.list e
      obtain ⟨p2, vs2, e2, q2, a2⟩ := ty.list e
      subst e1 e2
      cases rx
      cases ry
      obtain ⟨its, r1, ⟨o1, n1, g1, c1, _, d1⟩, _⟩ := I.list q1
      obtain ⟨its2, r2, ⟨o2, n2, g2, c2, _, d2⟩, _⟩ := I.list q2
      have l1 := (dal_len a1)
      have l2 := (dal_len a2)
      have l3 := r1.length
      have l4 := r2.length
      obtain ⟨oc1, od1, dt1, sl1⟩ := o1
      obtain ⟨oc2, od2, dt2, sl2⟩ := o2
      simp only at c1 d1 c2 d2
      subst c1 d1 c2 d2
      have hz' := sz_of hz
      refine concat_meets ⟨_, g1, rfl⟩ ⟨_, g2, rfl⟩ noFill_list_add seq_list_add PySem.F.slot_list_add PySem.F.entry_list_add (PySem.F.args_list_add_2 _ _) (list_addW _ _ its.toArray its2.toArray n1 n2 od1 od2 sl1 sl2 (by rw [List.size_toArray, List.size_toArray]; omega)) ⟨g1, g2, ?_⟩
      have ea : its.toArray ++ its2.toArray = (its ++ its2).toArray := by simp
      rw [ea]
      have hn : H s.heap.objs.size = none := I.fresh
      refine ⟨.ref _, _, I.lnew (t' := s.toks) (r1.append r2) (by rw [List.length_append]; omega), rfl, q _ _ _ (Adv.laid e hn) (.lst (SqL.of upd_same) ?_)⟩
      exact dpa_ex (Ex.new (e.none hn)) _ _ (dal_app a1 a2)
    · cases hg
  · split at hg
    · cases hg
      rename_i hz
      obtain ⟨p1, vs1, e1, q1, a1⟩ := tx.tuple e
      obtain ⟨p2, vs2, e2, q2, a2⟩ := ty.tuple e
      subst e1 e2
      have l1 := (dal_len a1)
      have l2 := (dal_len a2)
      have hz' := sz_of hz
      refine op_catA pins s σ H _ _ v u Q I rx ry ⟨p1, p2, vs1, vs2, rfl, rfl, q1, q2, by omega, fun h0 => ?_, fun h0 h1 => ?_, fun h0 h1 p hp => ?_⟩
      · subst h0
        cases a1
        rcases ty with t | ⟨_, _, _, _, z, _⟩
        · exact q _ F H (Adv.refl e) t
        · cases z
      · subst h1
        cases a2
        rw [List.append_nil] at q
        rcases tx with t | ⟨_, _, _, _, z, _⟩
        · exact q _ F H (Adv.refl e) t
        · cases z
      · exact q _ _ _ (Adv.laid e hp) (.tup (SqT.of upd_same) (dpa_ex (Ex.new (e.none hp)) _ _ (dal_app a1 a2)))
    · cases hg
  · cases hg
theorem od_sub : OpD X (binaryOp .Sub) dSub := by
  refine ⟨fun pins s σ H x y v u Q I rx ry h => ?_⟩
  obtain ⟨F, dx, dy, d, e, tx, ty, hg, q⟩ := h
  unfold dSub at hg
  split at hg
  · cases hg
    rw [tx.int] at rx
    rw [ty.int] at ry
    exact op_sub pins s σ H _ _ v u Q I rx ry ⟨_, _, rfl, rfl, q _ F H (Adv.refl e) (.int _)⟩
  · cases hg
theorem dal_repB {K : PySem.W.Frag} {F : Hp} {vs : List V} {ds : List D} (a : DpAll K F vs ds) : ∀ n : Nat, DpAll K F (List.replicate n vs).flatten (List.replicate n ds).flatten
  | 0 => .nil
  | n + 1 => by
    rw [List.replicate_succ, List.replicate_succ, List.flatten_cons, List.flatten_cons]
    exact dal_app a (dal_repB a n)
theorem od_mul : OpD X (binaryOp .Mult) dMul := by
  refine ⟨fun pins s σ H x y v u Q I rx ry h => ?_⟩
  obtain ⟨F, dx, dy, d, e, tx, ty, hg, q⟩ := h
  unfold dMul at hg
  split at hg
  · split at hg
    · cases hg
      rename_i hc
      rw [tx.int] at rx
      rw [ty.int] at ry
      rcases of_decide_eq_true hc with hc | hc
      · exact op_mulW pins s σ H _ _ v u Q I rx ry ⟨_, _, rfl, rfl, hc, q _ F H (Adv.refl e) (.int _)⟩
      · exact op_mul pins s σ H _ _ v u Q I rx ry ⟨_, _, rfl, rfl, hc.imp (fun z => ⟨by omega, by omega⟩) (fun z => ⟨by omega, by omega⟩), q _ F H (Adv.refl e) (.int _)⟩
    · cases hg
  · rename_i ds k
    split at hg
    · cases hg
      rename_i hk
      obtain ⟨h1, h2, hz⟩ := of_decide_eq_true hk
      obtain ⟨p1, vs1, e1, q1, a1⟩ := tx.list e
      subst e1
      rw [ty.int] at ry
      cases rx
      obtain ⟨t, rfl⟩ := ry
      obtain ⟨its, r1, ⟨o1, n1, g1, c1, c2, d1⟩, _⟩ := I.list q1
      have l1 := dal_len a1
      have l3 := r1.length
      obtain ⟨oc1, od1, dt1, sl1⟩ := o1
      simp only at c1 c2 d1
      subst c1 c2 d1
      have hz' : its.toArray.size * k.toNat ≤ sizeLine := by
        rw [List.size_toArray, ← l3, l1]
        exact sz_of hz
      have hcap : ¬ its.toArray.size * k.toNat > (2 ^ 63 - 1) / 8 := by
        have : (sizeLine : Nat) ≤ (2 ^ 63 - 1) / 8 := by decide
        omega
      refine wpAny_binaryOp_repeat_ref (T := "list") (U := "int") (by decide) ⟨_, g1, rfl⟩ (fun s' => typeIs_int s' k t) noFill_list_mul PySem.F.fills_int_mul PySem.F.slot_int_rmul repeat_list PySem.F.slot_int_index.lookup
        (call_meets PySem.F.slot_int_rmul (typeIs_int s k t) PySem.F.entry_int_rmul (PySem.F.args_int_rmul_2 _ _) (lm_int_rmul_list_any k t p1 its.toArray n1 none sl1)
          ⟨g1, rfl, ⟨_, g1, rfl⟩, call_meets PySem.F.slot_list_mul ⟨_, g1, rfl⟩ PySem.F.entry_list_mul (PySem.F.args_list_mul_2 _ _)
            (lm_list_mul_any p1 its.toArray n1 none sl1 k t (by simp [Builtin.List.listFitsIndex]; omega) hcap (by simp [Builtin.List.listTooLong, sizeLine] at hz' ⊢; omega))
            ⟨g1, ?_⟩⟩)
      rw [listMul_foldl_if]
      have hn : H s.heap.objs.size = none := I.fresh
      refine ⟨.ref _, _, I.lnew (t' := s.toks) (r1.rep k.toNat) ?_, rfl, q _ _ _ (Adv.laid e hn) (.lst (SqL.of upd_same) ?_)⟩
      · rw [PyProof.Rows.lm_len_rep_flat, Nat.mul_comm, l1]
        exact sz_of hz
      · exact dpa_ex (Ex.new (e.none hn)) _ _ (dal_repB a1 _)
    · cases hg
  · cases hg
theorem od_div : OpD X (binaryOp .FloorDiv) dDiv := by
  refine ⟨fun pins s σ H x y v u Q I rx ry h => ?_⟩
  obtain ⟨F, dx, dy, d, e, tx, ty, hg, q⟩ := h
  unfold dDiv at hg
  split at hg
  · split at hg
    · cases hg
      rename_i hc
      rw [tx.int] at rx
      rw [ty.int] at ry
      exact op_fdivX pins s σ H _ _ v u Q I rx ry ⟨_, _, rfl, rfl, of_decide_eq_true hc, q _ F H (Adv.refl e) (.int _)⟩
    · cases hg
  · cases hg
theorem od_mod : OpD X (binaryOp .Mod) dMod := by
  refine ⟨fun pins s σ H x y v u Q I rx ry h => ?_⟩
  obtain ⟨F, dx, dy, d, e, tx, ty, hg, q⟩ := h
  unfold dMod at hg
  split at hg
  · split at hg
    · cases hg
      rename_i hc
      rw [tx.int] at rx
      rw [ty.int] at ry
      exact op_modN pins s σ H _ _ v u Q I rx ry ⟨_, _, rfl, rfl, hc, q _ F H (Adv.refl e) (.int _)⟩
    · cases hg
  · cases hg
theorem od_pow : OpD X (binaryOp .Pow) dPow := by
  refine ⟨fun pins s σ H x y v u Q I rx ry h => ?_⟩
  obtain ⟨F, dx, dy, d, e, tx, ty, hg, q⟩ := h
  unfold dPow at hg
  split at hg
  · split at hg
    · cases hg
      rename_i hc
      rw [tx.int] at rx
      rw [ty.int] at ry
      exact op_pow pins s σ H _ _ v u Q I rx ry ⟨_, _, rfl, rfl, ⟨hc.1, by omega, hc.2.2⟩, q _ F H (Adv.refl e) (.int _)⟩
    · cases hg
  · cases hg
theorem od_int {op : CmpOp} {c : Int → Int → Bool} {g : D → D → Option D} (h : OpR X (compareOp op) (rI0 fun i j => .bl (c i j))) (hg : ∀ x y d, g x y = some d → ∃ i j, x = .int i ∧ y = .int j ∧ d = .bool (c i j)) : OpD X (compareOp op) g := by
  refine ⟨fun pins s σ H x y v u Q I rx ry w => ?_⟩
  obtain ⟨F, dx, dy, d, e, tx, ty, hd, q⟩ := w
  obtain ⟨i, j, rfl, rfl, rfl⟩ := hg _ _ _ hd
  rw [tx.int] at rx
  rw [ty.int] at ry
  exact h pins s σ H _ _ v u Q I rx ry ⟨_, _, rfl, rfl, q _ F H (Adv.refl e) (.bl _)⟩
theorem od_lt : OpD X (compareOp .Lt) dLt := od_int op_lt fun x y d h => by
  unfold dLt at h
  split at h
  · cases h; exact ⟨_, _, rfl, rfl, rfl⟩
  · cases h
theorem od_le : OpD X (compareOp .LtE) dLe := od_int op_le fun x y d h => by
  unfold dLe at h
  split at h
  · cases h; exact ⟨_, _, rfl, rfl, rfl⟩
  · cases h
theorem od_gt : OpD X (compareOp .Gt) dGt := od_int op_gt fun x y d h => by
  unfold dGt at h
  split at h
  · cases h; exact ⟨_, _, rfl, rfl, rfl⟩
  · cases h
theorem od_ge : OpD X (compareOp .GtE) dGe := od_int op_ge fun x y d h => by
  unfold dGe at h
  split at h
  · cases h; exact ⟨_, _, rfl, rfl, rfl⟩
  · cases h
theorem od_eq (hu : X.A.units + 64 < cLine) : OpD X (compareOp .Eq) dEq := by
  refine ⟨fun pins s σ H x y v u Q I rx ry h => ?_⟩
  obtain ⟨F, dx, dy, d, e, tx, ty, hg, q⟩ := h
  unfold dEq at hg
  split at hg
  · cases hg
    rename_i hc
    rcases eqOk_cases hc with ⟨a, b, rfl, rfl⟩ | hc
    · rw [tx.str] at rx
      rw [ty.str] at ry
      exact op_eq pins s σ H _ _ v u Q I rx ry ⟨rfl, by rw [dec_str]; exact q _ F H (Adv.refl e) (by rw [PyData.eqv]; exact .bl _)⟩
    · exact (op_eqD hu) pins s σ H x y v u Q I rx ry ⟨dx, dy, Dp.toL _ _ (tx.dp e) (plain_shaped hc.1), Dp.toL _ _ (ty.dp e) (plain_shaped hc.2), hc.1, hc.2, q _ F H (Adv.refl e) (.bl _)⟩
  · cases hg
theorem od_ne (hu : X.A.units + 64 < cLine) : OpD X (compareOp .NotEq) dNe := by
  refine ⟨fun pins s σ H x y v u Q I rx ry h => ?_⟩
  obtain ⟨F, dx, dy, d, e, tx, ty, hg, q⟩ := h
  unfold dNe at hg
  split at hg
  · cases hg
    rename_i hc
    rcases eqOk_cases hc with ⟨a, b, rfl, rfl⟩ | hc
    · rw [tx.str] at rx
      rw [ty.str] at ry
      exact op_ne pins s σ H _ _ v u Q I rx ry ⟨rfl, by rw [dec_str]; exact q _ F H (Adv.refl e) (by rw [PyData.eqv]; exact .bl _)⟩
    · exact (op_neD hu) pins s σ H x y v u Q I rx ry ⟨dx, dy, Dp.toL _ _ (tx.dp e) (plain_shaped hc.1), Dp.toL _ _ (ty.dp e) (plain_shaped hc.2), hc.1, hc.2, q _ F H (Adv.refl e) (.bl _)⟩
  · cases hg
theorem isNone_of {K : PySem.W.Frag} {F H : Hp} {v : V} {d : D} (t : Tp K F H v d) : decide (v = .non) = isNoneD d := by
  rcases t with t | ⟨p, vs, ds, rfl, rfl, _⟩
  · cases t <;> rfl
  · rfl
theorem od_is : OpD X (compareOp .Is) dIs := by
  refine ⟨fun pins s σ H x y v u Q I rx ry h => ?_⟩
  obtain ⟨F, dx, dy, d, e, tx, ty, hg, q⟩ := h
  unfold dIs at hg
  split at hg
  · cases hg
    exact op_isN pins s σ H x y v u Q I rx ry ⟨ty.none, by rw [isNone_of tx]; exact q _ F H (Adv.refl e) (.bl _)⟩
  · cases hg
theorem od_isnot : OpD X (compareOp .IsNot) dIsNot := by
  refine ⟨fun pins s σ H x y v u Q I rx ry h => ?_⟩
  obtain ⟨F, dx, dy, d, e, tx, ty, hg, q⟩ := h
  unfold dIsNot at hg
  split at hg
  · cases hg
    exact op_notN pins s σ H x y v u Q I rx ry ⟨ty.none, by rw [isNone_of tx]; exact q _ F H (Adv.refl e) (.bl _)⟩
  · cases hg
theorem ixN_lt {n : Nat} {i : Int} {j : Nat} (h : ixN n i = some j) : j < n := by
  unfold ixN at h
  split at h
  · split at h
    · cases h; omega
    · cases h
  · split at h
    · cases h; omega
    · cases h
theorem dpa_atI {K : PySem.W.Frag} {F : Hp} {vs : List V} {ds : List D} {i : Int} {d : D} (a : DpAll K F vs ds) (h : atI ds i = some d) : ∃ v, atI vs i = some v ∧ Dp K F v d := by
  unfold atI at h ⊢
  cases hj : ixN ds.length i with
  | none => rw [hj] at h; cases h
  | some j =>
    rw [hj] at h
    obtain ⟨v, h1, h2⟩ := dal_get a h
    refine ⟨v, ?_, h2⟩
    rw [(dal_len a), hj]
    exact h1
structure IxD (X : Cx) : Prop where
  ok : IxR X (rD X.K dIx)
theorem ix_d : IxR X (rD X.K dIx) := by
  have big : IxR X (L2.rIx X.K) := ix_seq
  intro value slice pins s σ H x y v u Q I rx ry h
  refine big value slice pins s σ H x y v u Q I rx ry ?_
  obtain ⟨F, dx, dy, d, e, tx, ty, hg, q⟩ := h
  unfold dIx at hg
  split at hg
  · obtain ⟨p, vs, rfl, hs, a⟩ := tx.list e
    obtain ⟨w, h1, h2⟩ := dpa_atI a hg
    exact .inl ⟨p, vs, _, w, rfl, ty.int, hs, h1, q w F H (Adv.refl e) h2⟩
  · obtain ⟨p, vs, rfl, hs, a⟩ := tx.tuple e
    obtain ⟨w, h1, h2⟩ := dpa_atI a hg
    exact .inr (.inl ⟨p, vs, _, w, rfl, ty.int, hs, h1, q w F H (Adv.refl e) h2⟩)
  · split at hg
    · rename_i hz
      rename_i z i
      cases hc : atI z.cps.toList i with
      | none => rw [hc] at hg; cases hg
      | some c =>
        rw [hc] at hg
        cases hg
        exact .inr (.inr ⟨z, i, c, tx.str, ty.int, sz_of hz, hc, q _ F H (Adv.refl e) (.str _)⟩)
    · cases hg
  · cases hg
end

/-! ### expressions -/
section
variable {X : Cx} {a b e : Expr} {es : List Expr} {ma mb m : Rho → Option D} {pos : Pos}
theorem me_var (i : Nat) {x : Str} (hN : X.N[i]? = some x := by rfl) (hv : Vis X.env.scope x := by first | exact Or.inl rfl | exact Or.inr (Or.inl rfl) | exact Or.inr (Or.inr rfl)) (hd : (x == ("__debug__" : Str)) = false := by decide)
    (hcd : (x == ("__classdict__" : Str)) = false := by decide) : ME X (.Name x pos) (mVar i) := ⟨fun F0 H0 => pe_weak (pe_var hN hv hd hcd) fun σ H Q ⟨ρ, F, d, e1, e2, q⟩ => by
  unfold mVar at e2
  split at e2
  · cases e2
    rename_i hi
    obtain ⟨v, h1, h2⟩ := e1.dat i _ hi
    exact ⟨v, h1, q v F H (Adv.refl e1.fh) h2⟩
  · cases e2⟩
theorem mt_own (i : Nat) {x : Str} (hN : X.N[i]? = some x := by rfl) (hv : Vis X.env.scope x := by first | exact Or.inl rfl | exact Or.inr (Or.inl rfl) | exact Or.inr (Or.inr rfl)) (hd : (x == ("__debug__" : Str)) = false := by decide)
    (hcd : (x == ("__classdict__" : Str)) = false := by decide) : MT X (.Name x pos) (mOwn i) := ⟨fun F0 H0 => pe_weak (pe_var hN hv hd hcd) fun σ H Q ⟨ρ, F, d, e1, e2, q⟩ => by
  unfold mOwn at e2
  split at e2
  · cases e2
    rename_i hi
    obtain ⟨p, vs, h1, h2, h3, h4, h5⟩ := e1.own i _ hi
    exact ⟨_, h1, q _ F H (Adv.refl e1.fh) (.inr ⟨p, vs, _, rfl, rfl, h2, h4, h5⟩)⟩
  · cases e2
    rename_i hi
    obtain ⟨v, h1, h2⟩ := e1.dat i _ hi
    exact ⟨v, h1, q v F H (Adv.refl e1.fh) (.inl h2)⟩
  · cases e2⟩
theorem me_const {v : V} {d : D} (h : PE X e (tC v)) (hd : ∀ F : Hp, Dp X.K F v d) : ME X e (mC d) := ⟨fun F0 H0 => pe_weak h fun σ H Q ⟨ρ, F, d', e1, e2, q⟩ => by
  cases e2
  exact q v F H (Adv.refl e1.fh) (hd F)⟩
theorem me_int {i j} : ME X (.Constant (.int i) j pos) (mC (.int i)) := me_const pe_int fun _ => .int i
theorem me_bl {i j} : ME X (.Constant (.bool i) j pos) (mC (.bool i)) := me_const pe_bl fun _ => .bl i
theorem me_non {j} : ME X (.Constant .none j pos) (mC .none) := me_const pe_non fun _ => .non
theorem me_str {i j} : ME X (.Constant (.str i) j pos) (mC (.str i)) := me_const pe_str fun _ => .str i
theorem two_read {ma mb : Rho → Option D} {g : D → D → Option D} {F0 H0 : Hp} {σ : L2.St} {H : Hp} {Q : VK} (h : tE X.K F0 H0 (m2 g ma mb) σ H Q) : tOp (rD X.K g) (tT X.K F0 H0 ma) (tT X.K F0 H0 mb) σ H Q := by
  obtain ⟨ρ, F, d, e1, e2, q⟩ := h
  unfold m2 at e2
  cases hx : ma ρ with
  | none => rw [hx] at e2; cases e2
  | some x =>
    rw [hx] at e2
    cases hy : mb ρ with
    | none => simp [hy] at e2
    | some y =>
      have e3 : g x y = some d := by simpa [hy] using e2
      refine ⟨ρ, F, x, e1, hx, fun v1 F1 H1 a1 t1 => ⟨ρ, F1, y, e1.go a1, hy, fun v2 F2 H2 a2 t2 => ⟨F2, x, y, d, a2.fh, t1.go a2, t2, e3, fun v F3 H3 a3 p3 => q v F3 H3 ((a1.trans a2).trans a3) p3⟩⟩⟩
theorem me_bin {op : Operator} {g : D → D → Option D} (ho : OpD X (binaryOp op) g) (ha : MT X a ma) (hb : MT X b mb) : ME X (.BinOp a op b pos) (m2 g ma mb) :=
  ⟨fun F0 H0 => pe_weak (pe_op ho.ok (ha.ok F0 H0) (hb.ok F0 H0)) fun _ _ _ h => two_read h⟩
theorem me_cmp {op : CmpOp} {g : D → D → Option D} (ho : OpD X (compareOp op) g) (ha : MT X a ma) (hb : MT X b mb) (hm : behindInMarks op b = false := by first | exact nomark _ | rfl) : ME X (.Compare a [op] [b] pos) (m2 g ma mb) :=
  ⟨fun F0 H0 => pe_weak (pe_cmpR ho.ok (ha.ok F0 H0) (hb.ok F0 H0) hm) fun _ _ _ h => two_read h⟩
theorem me_ix (ha : MT X a ma) (hb : MT X b mb) (hs : PlainIx b := by exact fun _ _ => rfl) : ME X (.Subscript a b pos) (m2 dIx ma mb) :=
  ⟨fun F0 H0 => pe_weak (pe_ix ix_d (ha.ok F0 H0) (hb.ok F0 H0) hs) fun _ _ _ h => two_read h⟩
theorem me_neg (ha : MT X a ma) : ME X (.UnaryOp .USub a pos) (m1 dNeg ma) := ⟨fun F0 H0 => pe_weak (pe_un un_neg (ha.ok F0 H0)) fun σ H Q ⟨ρ, F, d, e1, e2, q⟩ => by
  unfold m1 at e2
  cases hx : ma ρ with
  | none => rw [hx] at e2; cases e2
  | some x =>
    rw [hx] at e2
    refine ⟨ρ, F, x, e1, hx, fun v1 F1 H1 a1 t1 => ?_⟩
    have e3 : dNeg x = some d := e2
    unfold dNeg at e3
    split at e3
    · cases e3
      exact ⟨_, t1.int, q _ F1 H1 a1 (.int _)⟩
    · cases e3⟩
/-! arguments, displays -/
def mNil : Rho → Option (List D) := fun _ => some []
def mCons (ma : Rho → Option D) (mr : Rho → Option (List D)) : Rho → Option (List D) := fun ρ => (ma ρ).bind fun x => (mr ρ).bind fun xs => some (x :: xs)
theorem mCons_some {ma : Rho → Option D} {mr : Rho → Option (List D)} {ρ : Rho} {ds : List D} (h : mCons ma mr ρ = some ds) : ∃ x xs, ma ρ = some x ∧ mr ρ = some xs ∧ ds = x :: xs := by
  unfold mCons at h
  cases hx : ma ρ with
  | none => rw [hx] at h; cases h
  | some x =>
    rw [hx] at h
    cases hy : mr ρ with
    | none => simp [hy] at h
    | some xs =>
      have e : x :: xs = ds := by simpa [hy] using h
      exact ⟨x, xs, rfl, rfl, e.symm⟩
theorem TpAll.go {K : PySem.W.Frag} {F H F' H' : Hp} (a : Adv F H F' H') : ∀ {vs : List V} {ds : List D}, TpAll K F H vs ds → TpAll K F' H' vs ds
  | _, _, .nil => .nil
  | _, _, .cons r t => .cons (r.go a) (TpAll.go a t)
theorem mat_nil : MAT X [] mNil := ⟨fun F0 H0 => pa_weak pa_nil fun σ H Q ⟨ρ, F, d, e1, e2, q⟩ => by
  cases e2
  exact q [] F H (Adv.refl e1.fh) .nil⟩
theorem mat_cons {mr : Rho → Option (List D)} (ha : MT X e ma) (hr : MAT X es mr) (hs : starEach (e :: es) X.env = (false, eval e X.env) :: starEach es X.env := by rfl) : MAT X (e :: es) (mCons ma mr) :=
  ⟨fun F0 H0 => pa_weak (pa_cons (ha.ok F0 H0) (hr.ok F0 H0) hs) fun σ H Q ⟨ρ, F, d, e1, e2, q⟩ => by
    obtain ⟨x, xs, hx, hxs, rfl⟩ := mCons_some e2
    exact ⟨ρ, F, x, e1, hx, fun v1 F1 H1 a1 t1 => ⟨ρ, F1, xs, e1.go a1, hxs, fun vs F2 H2 a2 t2 => q _ F2 H2 (a1.trans a2) (.cons (t1.go a2) t2)⟩⟩⟩
theorem mae_nil : MAE X [] mNil := ⟨fun F0 H0 => pa_weak pa_nil fun σ H Q ⟨ρ, F, d, e1, e2, q⟩ => by
  cases e2
  exact q [] F H (Adv.refl e1.fh) .nil⟩
theorem mae_cons {mr : Rho → Option (List D)} (ha : ME X e ma) (hr : MAE X es mr) (hs : starEach (e :: es) X.env = (false, eval e X.env) :: starEach es X.env := by rfl) : MAE X (e :: es) (mCons ma mr) :=
  ⟨fun F0 H0 => pa_weak (pa_cons (ha.ok F0 H0) (hr.ok F0 H0) hs) fun σ H Q ⟨ρ, F, d, e1, e2, q⟩ => by
    obtain ⟨x, xs, hx, hxs, rfl⟩ := mCons_some e2
    exact ⟨ρ, F, x, e1, hx, fun v1 F1 H1 a1 t1 => ⟨ρ, F1, xs, e1.go a1, hxs, fun vs F2 H2 a2 t2 => q _ F2 H2 (a1.trans a2) (.cons (dp_ex a2.f _ _ t1) t2)⟩⟩⟩
def mTup (mr : Rho → Option (List D)) : Rho → Option D := fun ρ => (mr ρ).bind fun ds => if ds.length ≤ 100000 then some (.tuple ds) else none
def mLst (mr : Rho → Option (List D)) : Rho → Option (List D) := fun ρ => (mr ρ).bind fun ds => if ds.length ≤ 100000 then some ds else none
theorem me_tup {k} {mr : Rho → Option (List D)} (h : MAE X es mr) : ME X (.Tuple es k pos) (mTup mr) := ⟨fun F0 H0 => pe_weak (pe_tup (h.ok F0 H0)) fun σ H Q ⟨ρ, F, d, e1, e2, q⟩ => by
  unfold mTup at e2
  cases hx : mr ρ with
  | none => rw [hx] at e2; cases e2
  | some ds =>
    rw [hx] at e2
    replace e2 : (if ds.length ≤ 100000 then some (PyData.tuple ds) else none) = some d := e2
    split at e2
    · cases e2
      rename_i hz
      refine ⟨ρ, F, ds, e1, hx, fun vs F1 H1 a1 t1 => ⟨sz_of (by rw [(dal_len t1)]; exact hz), fun p hp => q _ _ _ (a1.trans (Adv.laid a1.fh hp)) (.tup (SqT.of upd_same) (dpa_ex (Ex.new (a1.fh.none hp)) _ _ t1))⟩⟩
    · cases e2⟩
theorem mo_lst {mr : Rho → Option (List D)} (h : MAE X es mr) : MO X (.List es pos) (mLst mr) := ⟨fun F0 H0 => pe_weak (pe_lst (h.ok F0 H0)) fun σ H Q ⟨ρ, F, d, e1, e2, q⟩ => by
  unfold mLst at e2
  cases hx : mr ρ with
  | none => rw [hx] at e2; cases e2
  | some ds =>
    rw [hx] at e2
    replace e2 : (if ds.length ≤ 100000 then some ds else none) = some d := e2
    split at e2
    · cases e2
      rename_i hz
      refine ⟨ρ, F, d, e1, hx, fun vs F1 H1 a1 t1 => ⟨sz_of (by rw [(dal_len t1)]; exact hz), fun p hp => ?_⟩⟩
      exact q p vs F1 _ (a1.trans (Adv.kept a1.fh (Ex.new hp))) (a1.h.none hp) (a1.fh.none hp) upd_same t1
    · cases e2⟩
/-! tests -/
def asB : D → Option Bool
  | .bool b => some b
  | _ => none
def mAsB (m : Rho → Option D) : Rho → Option Bool := fun ρ => (m ρ).bind asB
theorem asB_some {d : D} {b : Bool} (h : asB d = some b) : d = .bool b := by
  unfold asB at h
  split at h
  · cases h; rfl
  · cases h
theorem mAsB_some {m : Rho → Option D} {ρ : Rho} {b : Bool} (h : mAsB m ρ = some b) : m ρ = some (.bool b) := by
  unfold mAsB at h
  cases hx : m ρ with
  | none => rw [hx] at h; cases h
  | some x =>
    rw [hx] at h
    rw [asB_some h]
theorem mb_val (h : MT X e m) (he : ∀ whole, isTrue e X.env whole = (do let v ← whole; standAt e.pos; holding [v] (truthy v)) := by intro _; rfl) : MB X e (mAsB m) :=
  ⟨fun F0 H0 => pt_weak (pt_val (h.ok F0 H0) he) fun σ H Q ⟨ρ, F, b, e1, e2, q⟩ => ⟨ρ, F, _, e1, mAsB_some e2, fun v F' H' a t => ⟨b, t.bool, q F' H' a⟩⟩⟩
theorem mb_cmp {op : CmpOp} {g : D → D → Option D} (ho : OpD X (compareOp op) g) (ha : MT X a ma) (hb : MT X b mb) (hm : behindInMarks op b = false := by first | exact nomark _ | rfl) : MB X (.Compare a [op] [b] pos) (mAsB (m2 g ma mb)) :=
  ⟨fun F0 H0 => pt_weak (pt_cmpR ho.ok (ha.ok F0 H0) (hb.ok F0 H0) hm) fun σ H Q ⟨ρ, F, b, e1, e2, q⟩ =>
    two_read (X := X) (F0 := F0) (H0 := H0) (Q := fun x H' => ∃ k, x = .bl k ∧ Q k H') ⟨ρ, F, _, e1, mAsB_some e2, fun v F' H' a t => ⟨b, (by cases t; rfl), q F' H' a⟩⟩⟩
/-- truth of data -/
def dTru : D → Option Bool
  | .none => some false
  | .bool b => some b
  | .int i => some (i != 0)
  | .list xs => some (!xs.isEmpty)
  | .tuple xs => some (!xs.isEmpty)
  | _ => none
def mTru (m : Rho → Option D) : Rho → Option Bool := fun ρ => (m ρ).bind dTru
theorem isEmpty_dp {K : PySem.W.Frag} {F : Hp} {vs : List V} {ds : List D} (a : DpAll K F vs ds) : ds.isEmpty = vs.isEmpty := by
  cases a <;> rfl
theorem mb_tru (h : MT X e m) (he : ∀ whole, isTrue e X.env whole = (do let v ← whole; standAt e.pos; holding [v] (truthy v)) := by intro _; rfl) : MB X e (mTru m) :=
  ⟨fun F0 H0 => pt_weak (pt_truth (h.ok F0 H0) he) fun σ H Q ⟨ρ, F, b, e1, e2, q⟩ => by
    unfold mTru at e2
    cases hx : m ρ with
    | none => rw [hx] at e2; cases e2
    | some x =>
      rw [hx] at e2
      replace e2 : dTru x = some b := e2
      refine ⟨ρ, F, x, e1, hx, fun v F' H' a t => ⟨b, ?_, q F' H' a⟩⟩
      unfold dTru at e2
      split at e2
      · cases e2; rw [t.none]; rfl
      · cases e2; rw [t.bool]; rfl
      · cases e2; rw [t.int]; rfl
      · cases e2
        obtain ⟨p, vs, rfl, hs, ha⟩ := t.list a.fh
        exact .inl ⟨vs, hs, by rw [isEmpty_dp ha]⟩
      · cases e2
        obtain ⟨p, vs, rfl, hs, ha⟩ := t.tuple a.fh
        exact .inr (.inl ⟨vs, hs, by rw [isEmpty_dp ha]⟩)
      · cases e2⟩
structure MW (X : Cx) (e : Expr) (m : Rho → Option Bool) : Prop where
  ok : ∀ F0 H0, PW X e (tB X.K F0 H0 m)
theorem MW.toB {m : Rho → Option Bool} (h : MW X e m) : MB X e m := ⟨fun F0 H0 => (h.ok F0 H0).pt⟩
theorem pw_weak {t t' : TT} (h : PW X e t) (w : ∀ σ H Q, t' σ H Q → t σ H Q) : PW X e t' := ⟨fun whole pins s σ H Q I q => h.run whole pins s σ H Q I (w σ H Q q)⟩
def mAnd (ma mb : Rho → Option Bool) : Rho → Option Bool := fun ρ => (ma ρ).bind fun a => if a = true then mb ρ else some false
def mOr (ma mb : Rho → Option Bool) : Rho → Option Bool := fun ρ => (ma ρ).bind fun a => if a = true then some true else mb ρ
def mNot (ma : Rho → Option Bool) : Rho → Option Bool := fun ρ => (ma ρ).map (!·)
theorem mw_and1 {ma : Rho → Option Bool} (h : MB X a ma) : MW X (.BoolOp .And [a] pos) ma := ⟨fun F0 H0 => pw_and1 (h.ok F0 H0)⟩
theorem mw_or1 {ma : Rho → Option Bool} (h : MB X a ma) : MW X (.BoolOp .Or [a] pos) ma := ⟨fun F0 H0 => pw_or1 (h.ok F0 H0)⟩
theorem mw_and {ma mb : Rho → Option Bool} (h : MB X a ma) (h2 : MW X (.BoolOp .And (b :: es) pos) mb) : MW X (.BoolOp .And (a :: b :: es) pos) (mAnd ma mb) :=
  ⟨fun F0 H0 => pw_weak (pw_and (h.ok F0 H0) (h2.ok F0 H0)) fun σ H Q ⟨ρ, F, c, e1, e2, q⟩ => by
    unfold mAnd at e2
    cases hx : ma ρ with
    | none => rw [hx] at e2; cases e2
    | some x =>
      rw [hx] at e2
      replace e2 : (if x = true then mb ρ else some false) = some c := e2
      refine ⟨ρ, F, x, e1, hx, fun F1 H1 a1 => ?_⟩
      cases x with
      | true => exact iteT ⟨ρ, F1, c, e1.go a1, e2, fun F2 H2 a2 => q F2 H2 (a1.trans a2)⟩
      | false =>
        cases e2
        exact iteF (q F1 H1 a1)⟩
theorem mw_or {ma mb : Rho → Option Bool} (h : MB X a ma) (h2 : MW X (.BoolOp .Or (b :: es) pos) mb) : MW X (.BoolOp .Or (a :: b :: es) pos) (mOr ma mb) :=
  ⟨fun F0 H0 => pw_weak (pw_or (h.ok F0 H0) (h2.ok F0 H0)) fun σ H Q ⟨ρ, F, c, e1, e2, q⟩ => by
    unfold mOr at e2
    cases hx : ma ρ with
    | none => rw [hx] at e2; cases e2
    | some x =>
      rw [hx] at e2
      replace e2 : (if x = true then some true else mb ρ) = some c := e2
      refine ⟨ρ, F, x, e1, hx, fun F1 H1 a1 => ?_⟩
      cases x with
      | true =>
        cases e2
        exact iteT (q F1 H1 a1)
      | false => exact iteF ⟨ρ, F1, c, e1.go a1, e2, fun F2 H2 a2 => q F2 H2 (a1.trans a2)⟩⟩
theorem mb_not {ma : Rho → Option Bool} (h : MB X a ma) : MB X (.UnaryOp .Not a pos) (mNot ma) :=
  ⟨fun F0 H0 => pt_weak (pt_not (h.ok F0 H0)) fun σ H Q ⟨ρ, F, c, e1, e2, q⟩ => by
    unfold mNot at e2
    cases hx : ma ρ with
    | none => rw [hx] at e2; cases e2
    | some x =>
      rw [hx] at e2
      cases e2
      exact ⟨ρ, F, x, e1, hx, q⟩⟩
/-! values by and, or, not -/
def mAndV (ma mb : Rho → Option D) : Rho → Option D := fun ρ => (mAsB ma ρ).bind fun a => if a = true then mb ρ else some (.bool false)
def mOrV (ma mb : Rho → Option D) : Rho → Option D := fun ρ => (mAsB ma ρ).bind fun a => if a = true then some (.bool true) else mb ρ
def mNotV (ma : Rho → Option D) : Rho → Option D := fun ρ => (mAsB ma ρ).map fun b => .bool (!b)
theorem me_one {op} (h : ME X a ma) : ME X (.BoolOp op [a] pos) ma := ⟨fun F0 H0 => pe_one (h.ok F0 H0)⟩
theorem me_and (h : ME X a ma) (h2 : ME X (.BoolOp .And (b :: es) pos) mb) : ME X (.BoolOp .And (a :: b :: es) pos) (mAndV ma mb) :=
  ⟨fun F0 H0 => pe_weak (pe_and (h.ok F0 H0) (h2.ok F0 H0)) fun σ H Q ⟨ρ, F, d, e1, e2, q⟩ => by
    unfold mAndV at e2
    cases hx : mAsB ma ρ with
    | none => rw [hx] at e2; cases e2
    | some x =>
      rw [hx] at e2
      replace e2 : (if x = true then mb ρ else some (.bool false)) = some d := e2
      refine ⟨ρ, F, _, e1, mAsB_some hx, fun v F1 H1 a1 t1 => ⟨x, (by cases t1; rfl), ?_⟩⟩
      cases x with
      | true => exact iteT ⟨ρ, F1, d, e1.go a1, e2, fun v F2 H2 a2 => q v F2 H2 (a1.trans a2)⟩
      | false =>
        cases e2
        exact iteF (q _ F1 H1 a1 (.bl _))⟩
theorem me_or (h : ME X a ma) (h2 : ME X (.BoolOp .Or (b :: es) pos) mb) : ME X (.BoolOp .Or (a :: b :: es) pos) (mOrV ma mb) :=
  ⟨fun F0 H0 => pe_weak (pe_or (h.ok F0 H0) (h2.ok F0 H0)) fun σ H Q ⟨ρ, F, d, e1, e2, q⟩ => by
    unfold mOrV at e2
    cases hx : mAsB ma ρ with
    | none => rw [hx] at e2; cases e2
    | some x =>
      rw [hx] at e2
      replace e2 : (if x = true then some (.bool true) else mb ρ) = some d := e2
      refine ⟨ρ, F, _, e1, mAsB_some hx, fun v F1 H1 a1 t1 => ⟨x, (by cases t1; rfl), ?_⟩⟩
      cases x with
      | true =>
        cases e2
        exact iteT (q _ F1 H1 a1 (.bl _))
      | false => exact iteF ⟨ρ, F1, d, e1.go a1, e2, fun v F2 H2 a2 => q v F2 H2 (a1.trans a2)⟩⟩
theorem me_not (h : ME X a ma) : ME X (.UnaryOp .Not a pos) (mNotV ma) :=
  ⟨fun F0 H0 => pe_weak (pe_not (h.ok F0 H0)) fun σ H Q ⟨ρ, F, d, e1, e2, q⟩ => by
    unfold mNotV at e2
    cases hx : mAsB ma ρ with
    | none => rw [hx] at e2; cases e2
    | some x =>
      rw [hx] at e2
      cases e2
      exact ⟨ρ, F, _, e1, mAsB_some hx, fun v F1 H1 a1 t1 => ⟨x, (by cases t1; rfl), q _ F1 H1 a1 (.bl _)⟩⟩⟩
def mIf (mt : Rho → Option Bool) (ma mb : Rho → Option D) : Rho → Option D := fun ρ => (mt ρ).bind fun c => if c = true then ma ρ else mb ρ
theorem me_if {c : Expr} {mt : Rho → Option Bool} (hc : MB X c mt) (ha : ME X a ma) (hb : ME X b mb) : ME X (.IfExp c a b pos) (mIf mt ma mb) :=
  ⟨fun F0 H0 => pe_weak (pe_ifExp (hc.ok F0 H0) (ha.ok F0 H0) (hb.ok F0 H0)) fun σ H Q ⟨ρ, F, d, e1, e2, q⟩ => by
    unfold mIf at e2
    cases hx : mt ρ with
    | none => rw [hx] at e2; cases e2
    | some x =>
      rw [hx] at e2
      replace e2 : (if x = true then ma ρ else mb ρ) = some d := e2
      refine ⟨ρ, F, x, e1, hx, fun F1 H1 a1 => ?_⟩
      cases x with
      | true => exact iteT ⟨ρ, F1, d, e1.go a1, e2, fun v F2 H2 a2 => q v F2 H2 (a1.trans a2)⟩
      | false => exact iteF ⟨ρ, F1, d, e1.go a1, e2, fun v F2 H2 a2 => q v F2 H2 (a1.trans a2)⟩⟩
end
end MV

set_option maxRecDepth 100000
set_option maxHeartbeats 4000000
namespace MV
open PySem PySem.Spec PyProof.Rows L2

/-! ### statements -/
def mSet (i : Nat) (m : Rho → Option D) : Rho → Option Res := fun ρ => (m ρ).map fun d => .nx (ρ.set i (.dat d))
def mSetO (i : Nat) (m : Rho → Option (List D)) : Rho → Option Res := fun ρ => (m ρ).map fun d => .nx (ρ.set i (.own d))
def mRet (m : Rho → Option D) : Rho → Option Res := fun ρ => (m ρ).map .rt
def mRetO (i : Nat) : Rho → Option Res := fun ρ => match ρ[i]? with
  | some (.own ds) => some (.rt (.list ds))
  | some (.dat d) => some (.rt d)
  | _ => none
def mSkip : Rho → Option Res := fun ρ => some (.nx ρ)
def mBrk : Rho → Option Res := fun ρ => some (.bk ρ)
def mCnt : Rho → Option Res := fun ρ => some (.ct ρ)
def thenR (r : Res) (k : Rho → Option Res) : Option Res := match r with
  | .nx ρ => k ρ
  | r => some r
def mSeq (a b : Rho → Option Res) : Rho → Option Res := fun ρ => (a ρ).bind fun r => thenR r b
def mIfS (c : Rho → Option Bool) (a b : Rho → Option Res) : Rho → Option Res := fun ρ => (c ρ).bind fun t => if t = true then a ρ else b ρ
def mDrop (m : Rho → Option D) : Rho → Option Res := fun ρ => (m ρ).map fun _ => .nx ρ
def mApp (i : Nat) (m : Rho → Option D) : Rho → Option Res := fun ρ => (m ρ).bind fun d => match ρ[i]? with
  | some (.own ds) => if ds.length < 100000 then some (.nx (ρ.set i (.own (ds ++ [d])))) else none
  | _ => none
def putCell (c : Option Cell) (k d : D) : Option (List D) := match c, k with
  | some (.own ds), .int z => (ixN ds.length z).map fun j => ds.set j d
  | _, _ => none
theorem putCell_some {c : Option Cell} {k d : D} {es : List D} (h : putCell c k d = some es) : ∃ ds z j, c = some (.own ds) ∧ k = .int z ∧ ixN ds.length z = some j ∧ es = ds.set j d := by
  unfold putCell at h
  split at h
  · rename_i ds z
    cases hj : ixN ds.length z with
    | none => rw [hj] at h; cases h
    | some j =>
      rw [hj] at h
      cases h
      exact ⟨ds, z, j, rfl, rfl, hj, rfl⟩
  · cases h
def mPut (i : Nat) (mi m : Rho → Option D) : Rho → Option Res := fun ρ => (m ρ).bind fun d => (mi ρ).bind fun k => (putCell ρ[i]? k d).map fun es => .nx (ρ.set i (.own es))
/-- the own list at slot i is no longer written -/
def mFrz (i : Nat) (m : Rho → Option Res) : Rho → Option Res := fun ρ => match ρ[i]? with
  | some (.own ds) => m (ρ.set i (.dat (.list ds)))
  | _ => none
def mPar (i j : Nat) (ma mb : Rho → Option D) : Rho → Option Res := fun ρ => (ma ρ).bind fun x => (mb ρ).bind fun y => some (.nx ((ρ.set i (.dat x)).set j (.dat y)))

section
variable {X : Cx} {W : WX} {e : Expr} {st : Stmt} {sts : List Stmt} {m ma mb : Rho → Option D} {pos pos' : Pos} {x : Str} {i : Nat}
theorem set_read {F0 H0 : Hp} {Dn : Ends} {σ : L2.St} {H : Hp} (h : tS X F0 H0 W (mSet i m) Dn σ H) : tAsg (tE X.K F0 H0 m) (gName i) Dn σ H := by
  obtain ⟨ρ, F, r, e1, e2, q⟩ := h
  unfold mSet at e2
  cases hx : m ρ with
  | none => rw [hx] at e2; cases e2
  | some d =>
    rw [hx] at e2
    cases e2
    exact ⟨ρ, F, d, e1, hx, fun v F' H' a p => q _ F' H' ((e1.go a).setD p)⟩
theorem setO_read {m : Rho → Option (List D)} {F0 H0 : Hp} {Dn : Ends} {σ : L2.St} {H : Hp} (h : tS X F0 H0 W (mSetO i m) Dn σ H) : tAsg (tO X.K F0 H0 m) (gName i) Dn σ H := by
  obtain ⟨ρ, F, r, e1, e2, q⟩ := h
  unfold mSetO at e2
  cases hx : m ρ with
  | none => rw [hx] at e2; cases e2
  | some d =>
    rw [hx] at e2
    cases e2
    refine ⟨ρ, F, d, e1, hx, fun p vs F' H' a h0 h1 h2 h3 => q _ F' H' ((e1.go a).setO (e1.adv.2.1.none h0) h1 h2 h3 (e1.fresh h0) (e1.fresh_ob h0 a.h))⟩
theorem ms_set (hN : X.N.Nodup) (he : ME X e m) (hi : X.N[i]? = some x := by rfl) (hx : Loc X.env.scope x := by first | exact Or.inl rfl | exact Or.inr rfl) (hs : swapsWith e (some (.Name x pos')) pos.line X.env = pure false := by rfl)
    (hf : X.fn x = true ∨ X.env.scope.names.lookup x = some .local := by first | exact .inl rfl | exact .inr rfl | assumption) : MS X W (.Assign [.Name x pos'] e pos) (mSet i m) :=
  ⟨fun F0 H0 => ps_weak (ps_set hN hi hx (he.ok F0 H0) hs hf) fun _ _ _ h => set_read h⟩
theorem ms_setO {m : Rho → Option (List D)} (hN : X.N.Nodup) (he : MO X e m) (hi : X.N[i]? = some x := by rfl) (hx : Loc X.env.scope x := by first | exact Or.inl rfl | exact Or.inr rfl) (hs : swapsWith e (some (.Name x pos')) pos.line X.env = pure false := by rfl)
    (hf : X.fn x = true ∨ X.env.scope.names.lookup x = some .local := by first | exact .inl rfl | exact .inr rfl | assumption) : MS X W (.Assign [.Name x pos'] e pos) (mSetO i m) :=
  ⟨fun F0 H0 => ps_weak (ps_set hN hi hx (he.ok F0 H0) hs hf) fun _ _ _ h => setO_read h⟩
theorem ms_ret (he : ME X e m) : MS X W (.Return (some e) pos) (mRet m) := ⟨fun F0 H0 => ps_weak (ps_ret (he.ok F0 H0)) fun Dn σ H ⟨ρ, F, r, e1, e2, q⟩ => by
  unfold mRet at e2
  cases hx : m ρ with
  | none => rw [hx] at e2; cases e2
  | some d =>
    rw [hx] at e2
    cases e2
    exact ⟨ρ, F, d, e1, hx, fun v F' H' a p => q v F' H' (e1.toAdv.trans a) p⟩⟩
theorem ms_retN : MS X W (.Return none pos) (mRet (mC .none)) := ⟨fun F0 H0 => ps_weak ps_retN fun Dn σ H ⟨ρ, F, r, e1, e2, q⟩ => by
  cases e2
  exact q _ F H e1.toAdv .non⟩
/-- return of a name that holds an own list -/
theorem ms_retO (i : Nat) (hN : X.N[i]? = some x := by rfl) (hv : Vis X.env.scope x := by first | exact Or.inl rfl | exact Or.inr (Or.inl rfl) | exact Or.inr (Or.inr rfl)) (hd : (x == ("__debug__" : Str)) = false := by decide)
    (hcd : (x == ("__classdict__" : Str)) = false := by decide) : MS X W (.Return (some (.Name x pos')) pos) (mRetO i) := ⟨fun F0 H0 => ps_weak (ps_ret (pe_var hN hv hd hcd)) fun Dn σ H ⟨ρ, F, r, e1, e2, q⟩ => by
  unfold mRetO at e2
  split at e2
  · cases e2
    rename_i hi
    obtain ⟨p, vs, h1, h2, h3⟩ := e1.freeze hi
    exact ⟨_, h1, q _ _ H h3.toAdv h2⟩
  · cases e2
    rename_i hi
    obtain ⟨v, h1, h2⟩ := e1.dat i _ hi
    exact ⟨v, h1, q v F H e1.toAdv h2⟩
  · cases e2⟩
theorem ms_pass : MS X W (.Pass pos) mSkip := ⟨fun F0 H0 => ps_weak ps_pass fun Dn σ H ⟨ρ, F, r, e1, e2, q⟩ => by
  cases e2
  exact q σ F H e1⟩
theorem ms_brk : MS X W (.Break pos) mBrk := ⟨fun F0 H0 => ps_weak ps_break fun Dn σ H ⟨ρ, F, r, e1, e2, q⟩ => by
  cases e2
  exact q σ F H e1⟩
theorem ms_cnt : MS X W (.Continue pos) mCnt := ⟨fun F0 H0 => ps_weak ps_continue fun Dn σ H ⟨ρ, F, r, e1, e2, q⟩ => by
  cases e2
  exact q σ F H e1⟩
theorem mss_nil : MSs X W [] mSkip := ⟨fun F0 H0 => pss_weak pss_nil fun Dn σ H ⟨ρ, F, r, e1, e2, q⟩ => by
  cases e2
  exact q σ F H e1⟩
theorem mss_one {m : Rho → Option Res} (h : MS X W st m) : MSs X W [st] m := ⟨fun F0 H0 => pss_one (h.ok F0 H0)⟩
theorem mss_cons {m k : Rho → Option Res} (h : MS X W st m) (h2 : MSs X W sts k) : MSs X W (st :: sts) (mSeq m k) :=
  ⟨fun F0 H0 => pss_weak (pss_cons (h.ok F0 H0) (h2.ok F0 H0)) fun Dn σ H ⟨ρ, F, r, e1, e2, q⟩ => by
    unfold mSeq at e2
    cases hx : m ρ with
    | none => rw [hx] at e2; cases e2
    | some r1 =>
      rw [hx] at e2
      replace e2 : thenR r1 k = some r := e2
      refine ⟨ρ, F, r1, e1, hx, ?_⟩
      cases r1 with
      | nx ρ1 => exact fun σ1 F1 H1 w => ⟨ρ1, F1, r, w, e2, q⟩
      | rt d => cases e2; exact q
      | ro ds => cases e2; exact q
      | rs d ρ1 => cases e2; exact q
      | bk ρ1 => cases e2; exact q
      | ct ρ1 => cases e2; exact q
      | ex e ρ1 => cases e2; exact q⟩
theorem mss_frz {m : Rho → Option Res} (i : Nat) (h : MSs X W sts m) : MSs X W sts (mFrz i m) :=
  ⟨fun F0 H0 => pss_weak (h.ok F0 H0) fun Dn σ H ⟨ρ, F, r, e1, e2, q⟩ => by
    unfold mFrz at e2
    split at e2
    · rename_i hi
      obtain ⟨p, vs, h1, h2, h3⟩ := e1.freeze hi
      exact ⟨_, _, r, h3, e2, q⟩
    · cases e2⟩
theorem ms_if {c : Expr} {a b : List Stmt} {mc : Rho → Option Bool} {m1 m2 : Rho → Option Res} (hc : MB X c mc) (ha : MSs X W a m1) (hb : MSs X W b m2) : MS X W (.If c a b pos) (mIfS mc m1 m2) :=
  ⟨fun F0 H0 => ps_weak (ps_if (hc.ok F0 H0) (ha.ok F0 H0) (hb.ok F0 H0)) fun Dn σ H ⟨ρ, F, r, e1, e2, q⟩ => by
    unfold mIfS at e2
    cases hx : mc ρ with
    | none => rw [hx] at e2; cases e2
    | some t =>
      rw [hx] at e2
      replace e2 : (if t = true then m1 ρ else m2 ρ) = some r := e2
      refine ⟨ρ, F, t, e1, hx, fun F1 H1 a1 => ?_⟩
      cases t with
      | true => exact iteT ⟨ρ, F1, r, e1.go a1, e2, q⟩
      | false => exact iteF ⟨ρ, F1, r, e1.go a1, e2, q⟩⟩
theorem ms_drop (he : ME X e m) (hs : swapsWith e none pos.line X.env = pure false := by rfl) : MS X W (.Expr e pos) (mDrop m) := ⟨fun F0 H0 => ps_weak (ps_expr (he.ok F0 H0) hs) fun Dn σ H ⟨ρ, F, r, e1, e2, q⟩ => by
  unfold mDrop at e2
  cases hx : m ρ with
  | none => rw [hx] at e2; cases e2
  | some d =>
    rw [hx] at e2
    cases e2
    exact ⟨ρ, F, d, e1, hx, fun v F' H' a p => q σ F' H' (e1.go a)⟩⟩
/-- name.append(e), the name's list an own one -/
theorem ms_app {apos cpos npos : Pos} (i : Nat) (he : ME X e m) (hN : X.N[i]? = some x := by rfl) (hv : Vis X.env.scope x := by first | exact Or.inl rfl | exact Or.inr (Or.inl rfl) | exact Or.inr (Or.inr rfl))
    (hd : (x == ("__debug__" : Str)) = false := by decide) (hcd : (x == ("__classdict__" : Str)) = false := by decide)
    (k1 : attributeBase (.Name x npos) "append" X.env (eval (.Name x npos) X.env) = eval (.Name x npos) X.env := by rfl)
    (k2 : ((backTo cpos (starEach [e] X.env)).all (fun x => !x.1) && (backToKw cpos (keywordEach [] X.env)).all (fun x => x.1.isSome) && decide (([e] : List Expr).length + ([] : List Keyword).length + (if ([] : List Keyword).isEmpty then 0 else 1) < 30)) = true := by rfl)
    (k3 : (apos.endLine == cpos.line) = true := by rfl) (k4 : starEach [e] X.env = (false, eval e X.env) :: starEach [] X.env := by rfl) (k5 : (backTo cpos (starEach [] X.env)).any (·.1) = false := by rfl)
    (hs : swapsWith (.Call (.Attribute (.Name x npos) "append" apos) [e] [] cpos) none pos.line X.env = pure false := by rfl) :
    MS X W (.Expr (.Call (.Attribute (.Name x npos) "append" apos) [e] [] cpos) pos) (mApp i m) :=
  ⟨fun F0 H0 => ps_weak (ps_expr (pe_bm PySem.F.plainAttrs_list PySem.F.slot_list_append PySem.F.type_list_append mt_append (pe_var hN hv hd hcd) (pa_cons (he.ok F0 H0) pa_nil k4) k1 k2 k3 k4 k5) hs) fun Dn σ H ⟨ρ, F, r, e1, e2, q⟩ => by
    unfold mApp at e2
    cases hx : m ρ with
    | none => rw [hx] at e2; cases e2
    | some d =>
      rw [hx] at e2
      change (match ρ[i]? with | some (.own ds) => if ds.length < 100000 then some (Res.nx (ρ.set i (.own (ds ++ [d])))) else none | _ => none) = some r at e2
      split at e2
      · rename_i ds hi
        split at e2
        · cases e2
          rename_i hz
          obtain ⟨p, vs, h1, h2, h3, h4, h5⟩ := e1.own i ds hi
          refine ⟨_, h1, .inl ⟨rfl, _, SqL.of h4⟩, ρ, F, d, e1, hx, fun v F' H' a pd => ?_⟩
          have g := e1.go a
          obtain ⟨p', vs', k1, k2, k3, k4, k5⟩ := g.own i ds hi
          rw [h1] at k1
          cases k1
          refine ⟨p, vs', v, rfl, rfl, k4, ?_, ?_⟩
          · rw [dal_len k5]
            exact Nat.lt_of_lt_of_le hz (by decide)
          · exact q σ F' _ (g.mutO hi h1 (dal_app k5 (.cons pd .nil)))
        · cases e2
      · cases e2⟩
/-- name[k] = e, the name's list an own one -/
theorem ms_put {npos spos : Pos} {k : Expr} {mk : Rho → Option D} (i : Nat) (he : ME X e m) (hk : ME X k mk) (hN : X.N[i]? = some x := by rfl) (hv : Vis X.env.scope x := by first | exact Or.inl rfl | exact Or.inr (Or.inl rfl) | exact Or.inr (Or.inr rfl))
    (hd : (x == ("__debug__" : Str)) = false := by decide) (hcd : (x == ("__classdict__" : Str)) = false := by decide)
    (ha : ∀ v, assign (.Subscript (.Name x npos) k spos) X.env v = (do
      let o1 ← holding [v] (eval (.Name x npos) X.env)
      let o2 ← holding [v, o1] (eval k X.env)
      standAt spos
      holding [v, o1, o2] (setItem o1 o2 v)
      release [v, o1, o2] []) := by intro _; rfl)
    (h0 : swapsWithSole [.Subscript (.Name x npos) k spos] e pos.line X.env = pure false := by rfl) (h1 : swappedStores [.Subscript (.Name x npos) k spos] e X.env = pure none := by rfl)
    (h2 : (assignEach [.Subscript (.Name x npos) k spos] X.env).map (·.2) = [assign (.Subscript (.Name x npos) k spos) X.env] := by rfl) :
    MS X W (.Assign [.Subscript (.Name x npos) k spos] e pos) (mPut i mk m) :=
  ⟨fun F0 H0 => ps_weak (ps_asg (he.ok F0 H0) (pg_sub (pe_var hN hv hd hcd) (hk.ok F0 H0) set_list ha) h0 h1 h2) fun Dn σ H ⟨ρ, F, r, e1, e2, q⟩ => by
    unfold mPut at e2
    cases hx : m ρ with
    | none => rw [hx] at e2; cases e2
    | some d =>
      rw [hx] at e2
      cases hy : mk ρ with
      | none => simp [hy] at e2
      | some k =>
        cases hp : putCell ρ[i]? k d with
        | none => simp [hy, hp] at e2
        | some es =>
          replace e2 : Res.nx (ρ.set i (.own es)) = r := by simpa [hy, hp] using e2
          subst e2
          obtain ⟨ds, z, j, hi, rfl, hj, rfl⟩ := putCell_some hp
          refine ⟨ρ, F, d, e1, hx, fun v F' H' a pd => ?_⟩
          have g := e1.go a
          obtain ⟨p, vs, h1, h2, h3, h4, h5⟩ := g.own i ds hi
          refine ⟨_, h1, ρ, F', _, g, hy, fun w F2 H2 a2 pz => ?_⟩
          cases pz
          have g2 := g.go a2
          obtain ⟨p', vs', k1, k2, k3, k4, k5⟩ := g2.own i ds hi
          rw [h1] at k1
          cases k1
          refine ⟨p, vs', z, j, rfl, rfl, k4, by rw [dal_len k5]; exact hj, ?_⟩
          exact q σ F2 _ (g2.mutO hi h1 (dal_set (dp_ex a2.f d v pd) j k5))⟩
/-- a, b = e1, e2 -/
theorem ms_par {y : Str} {a b : Expr} {j : Nat} {px py pt : Pos} {kt k2 pt2} (hc : X.calm = true) (hN : X.N.Nodup) (ha : ME X a ma) (hb : ME X b mb) (hi : X.N[i]? = some x := by rfl) (hj : X.N[j]? = some y := by rfl) (hij : i ≠ j := by decide)
    (hx : X.env.scope.names.lookup x = some .local := by rfl) (hy : X.env.scope.names.lookup y = some .local := by rfl)
    (hw : swappedStores [.Tuple [.Name x px, .Name y py] kt pt] (.Tuple [a, b] k2 pt2) X.env = pure (some [x, y]) := by rfl)
    (hs : swapsWithSole [.Tuple [.Name x px, .Name y py] kt pt] (.Tuple [a, b] k2 pt2) pos.line X.env = pure false := by rfl)
    (s1 : starEach (a :: [b]) X.env = (false, eval a X.env) :: starEach [b] X.env := by rfl) (s2 : starEach (b :: []) X.env = (false, eval b X.env) :: starEach [] X.env := by rfl) :
    MS X W (.Assign [.Tuple [.Name x px, .Name y py] kt pt] (.Tuple [a, b] k2 pt2) pos) (mPar i j ma mb) :=
  ⟨fun F0 H0 => ps_weak (ps_par hc hN hi hj hij hx hy (pa_cons (ha.ok F0 H0) (pa_cons (hb.ok F0 H0) pa_nil s2) s1) hw hs) fun Dn σ H ⟨ρ, F, r, e1, e2, q⟩ => by
    unfold mPar at e2
    cases h1 : ma ρ with
    | none => rw [h1] at e2; cases e2
    | some d1 =>
      rw [h1] at e2
      cases h2 : mb ρ with
      | none => simp [h2] at e2
      | some d2 =>
        replace e2 : Res.nx ((ρ.set i (.dat d1)).set j (.dat d2)) = r := by simpa [h2] using e2
        subst e2
        refine ⟨ρ, F, d1, e1, h1, fun v1 F1 H1 a1 p1 => ⟨ρ, F1, d2, e1.go a1, h2, fun v2 F2 H2 a2 p2 => ⟨v1, v2, rfl, ?_⟩⟩⟩
        exact q _ F2 H2 ((((e1.go a1).go a2).setD (dp_ex a2.f _ _ p1)).setD p2)⟩

/-! slots whose value no one asks for any more -/
def postR (vs : List Nat) : Res → Res
  | .nx ρ => .nx (wipeR ρ vs)
  | .bk ρ => .bk (wipeR ρ vs)
  | .ct ρ => .ct (wipeR ρ vs)
  | .rt d => .rt d
  | .ro ds => .ro ds
  | .rs d ρ => .rs d ρ
  | .ex e ρ => .ex e (wipeR ρ vs)
def mPost (vs : List Nat) (m : Rho → Option Res) : Rho → Option Res := fun ρ => (m ρ).map (postR vs)
section
variable {K : PySem.W.Frag} {F0 H0 F H : Hp} {σ : L2.St} {ρ : Rho}
theorem EnvOk.forget1 (e : EnvOk K F0 H0 F H σ ρ) (i : Nat) : EnvOk K F0 H0 F H σ (ρ.set i .un) := by
  refine ⟨e.adv, e.new, by simpa using e.len, fun j d' hj => ?_, fun j es hj => ?_, fun j k es fs q g1 g2 g3 g4 => ?_, rf_keep (fun a z => nomatch z) e.rf, e.obs_go (Ex.refl F) (fun j n fs h => ⟨set_old' h fun z => (nomatch z), rfl⟩) (fun a _ h2 h3 _ => ⟨h2, h3, rfl⟩) fun j es q g1 g2 => .inl ⟨es, set_old' g1 fun z => (nomatch z), g2⟩⟩
  · rcases getElem?_set_cases hj with ⟨rfl, hd, hl⟩ | ⟨hne, hj⟩
    · cases hd
    · exact e.dat j d' hj
  · rcases getElem?_set_cases hj with ⟨rfl, hd, hl⟩ | ⟨hne, hj⟩
    · cases hd
    · exact e.own j es hj
  · rcases getElem?_set_cases g1 with ⟨_, hd, _⟩ | ⟨n1, g1⟩
    · cases hd
    rcases getElem?_set_cases g2 with ⟨_, hd, _⟩ | ⟨n2, g2⟩
    · cases hd
    exact e.dist j k es fs q g1 g2 g3 g4
theorem EnvOk.forget (e : EnvOk K F0 H0 F H σ ρ) : ∀ vs : List Nat, EnvOk K F0 H0 F H σ (wipeR ρ vs)
  | [] => e
  | v :: vs => (EnvOk.forget e vs).forget1 v
end
theorem Goes.post {X : Cx} {W : WX} {F0 H0 : Hp} {Dn : Ends} {r : Res} (vs : List Nat) (h : Goes X F0 H0 W Dn (postR vs r)) : Goes X F0 H0 W Dn r := by
  cases r with
  | nx ρ => exact fun σ F H e => h σ F H (e.forget vs)
  | bk ρ => exact fun σ F H e => h σ F H (e.forget vs)
  | ct ρ => exact fun σ F H e => h σ F H (e.forget vs)
  | rt d => exact h
  | ro ds => exact h
  | rs d ρ => exact h
  | ex e ρ => exact fun σ F H cls d k x => h σ F H cls d (k.forget vs) x
theorem tS_post {X : Cx} {W : WX} {F0 H0 : Hp} {vs : List Nat} {m : Rho → Option Res} {Dn : Ends} {σ : L2.St} {H : Hp} (h : tS X F0 H0 W (mPost vs m) Dn σ H) : tS X F0 H0 W m Dn σ H := by
  obtain ⟨ρ, F, r, e1, e2, q⟩ := h
  unfold mPost at e2
  cases hx : m ρ with
  | none => rw [hx] at e2; cases e2
  | some r1 =>
    rw [hx] at e2
    cases e2
    exact ⟨ρ, F, r1, e1, hx, q.post vs⟩
theorem ms_post {X : Cx} {W : WX} {st : Stmt} {m : Rho → Option Res} (vs : List Nat) (h : MS X W st m) : MS X W st (mPost vs m) := ⟨fun F0 H0 => ps_weak (h.ok F0 H0) fun _ _ _ h => tS_post h⟩
theorem mss_post {X : Cx} {W : WX} {st : List Stmt} {m : Rho → Option Res} (vs : List Nat) (h : MSs X W st m) : MSs X W st (mPost vs m) := ⟨fun F0 H0 => pss_weak (h.ok F0 H0) fun _ _ _ h => tS_post h⟩

/-! ### targets -/
/-- after the target is stored: the slots `is` alone have changed -/
def tG (K : PySem.W.Frag) (F0 H0 : Hp) (ix : List Nat) (mg : D → Rho → Option Rho) : TG := fun v σ H Q => ∃ ρ F d ρ', EnvOk K F0 H0 F H σ ρ ∧ Dp K F v d ∧ mg d ρ = some ρ' ∧
  ∀ σ', EnvOk K F0 H0 F H σ' ρ' → σ'.length = σ.length → (∀ j, j ∉ ix → σ'[j]? = σ[j]?) → Q σ' H
structure MG (X : Cx) (t : Expr) (ix : List Nat) (mg : D → Rho → Option Rho) : Prop where
  ok : ∀ F0 H0, PG X t (tG X.K F0 H0 ix mg)
theorem pg_weak {t t' : TG} (h : PG X e t) (w : ∀ v σ H Q, t' v σ H Q → t v σ H Q) : PG X e t' := ⟨fun pins s σ H v u Q I r q => h.run pins s σ H v u Q I r (w v σ H Q q)⟩
def gSet (i : Nat) : D → Rho → Option Rho := fun d ρ => some (ρ.set i (.dat d))
theorem mg_name (i : Nat) (hN : X.N.Nodup) (hi : X.N[i]? = some x := by rfl) (hx : Loc X.env.scope x := by first | exact Or.inl rfl | exact Or.inr rfl) (hf : X.fn x = true ∨ X.env.scope.names.lookup x = some .local := by first | exact .inl rfl | exact .inr rfl | assumption) :
    MG X (.Name x pos) [i] (gSet i) := ⟨fun F0 H0 => pg_weak (pg_name hN hi hx hf) fun v σ H Q ⟨ρ, F, d, ρ', e1, pd, e2, q⟩ => by
  cases e2
  refine q _ (e1.setD pd) (List.length_set ..) fun j hj => List.getElem?_set_ne ?_
  exact fun z => hj (by simp [z])⟩
def tGs (K : PySem.W.Frag) (F0 H0 : Hp) (ix : List Nat) (mg : List D → Rho → Option Rho) : TGs := fun vs σ H Q => ∃ ρ F ds ρ', EnvOk K F0 H0 F H σ ρ ∧ DpAll K F vs ds ∧ mg ds ρ = some ρ' ∧
  ∀ σ', EnvOk K F0 H0 F H σ' ρ' → σ'.length = σ.length → (∀ j, j ∉ ix → σ'[j]? = σ[j]?) → Q σ' H
structure MGs (X : Cx) (ts : List Expr) (ix : List Nat) (mg : List D → Rho → Option Rho) : Prop where
  ok : ∀ F0 H0, PGs X ts (tGs X.K F0 H0 ix mg)
theorem pgs_weak {ts : List Expr} {t t' : TGs} (h : PGs X ts t) (w : ∀ v σ H Q, t' v σ H Q → t v σ H Q) : PGs X ts t' := ⟨fun pins s σ H v u Q I r q => h.run pins s σ H v u Q I r (w v σ H Q q)⟩
def gsNil : List D → Rho → Option Rho := fun ds ρ => match ds with
  | [] => some ρ
  | _ => none
def gsCons (g : D → Rho → Option Rho) (gs : List D → Rho → Option Rho) : List D → Rho → Option Rho := fun ds ρ => match ds with
  | d :: r => (g d ρ).bind fun ρ1 => gs r ρ1
  | [] => none
theorem mgs_nil : MGs X [] [] gsNil := ⟨fun F0 H0 => pgs_weak pgs_nil fun v σ H Q ⟨ρ, F, ds, ρ', e1, pd, e2, q⟩ => by
  unfold gsNil at e2
  split at e2
  · cases e2
    cases pd
    exact ⟨rfl, q σ e1 rfl fun _ _ => rfl⟩
  · cases e2⟩
theorem mgs_cons {es : List Expr} {i1 i2 : List Nat} {g : D → Rho → Option Rho} {gs : List D → Rho → Option Rho} (h : MG X e i1 g) (h2 : MGs X es i2 gs) (hs : (assignEach (e :: es) X.env).map (·.2) = assign e X.env :: (assignEach es X.env).map (·.2) := by rfl) :
    MGs X (e :: es) (i1 ++ i2) (gsCons g gs) := ⟨fun F0 H0 => pgs_weak (pgs_cons (h.ok F0 H0) (h2.ok F0 H0) hs) fun v σ H Q ⟨ρ, F, ds, ρ', e1, pd, e2, q⟩ => by
  unfold gsCons at e2
  split at e2
  · rename_i d r
    cases hg : g d ρ with
    | none => rw [hg] at e2; cases e2
    | some ρ1 =>
      rw [hg] at e2
      cases pd with
      | cons p1 p2 =>
        refine ⟨_, _, rfl, ρ, F, d, ρ1, e1, p1, hg, fun σ1 k1 l1 c1 => ⟨ρ1, F, r, ρ', k1, p2, e2, fun σ2 k2 l2 c2 => q σ2 k2 (l2.trans l1) fun j hj => ?_⟩⟩
        rw [List.mem_append, not_or] at hj
        rw [c2 j hj.2, c1 j hj.1]
  · cases e2⟩
def gTupD (gs : List D → Rho → Option Rho) : D → Rho → Option Rho := fun d ρ => match d with
  | .tuple ds => gs ds ρ
  | _ => none
theorem mg_tup {es : List Expr} {k : Nat} {ix : List Nat} {gs : List D → Rho → Option Rho} {n : Nat} (hc : X.calm = true) (h : MGs X es ix gs) (hl : ∀ ds ρ ρ', gs ds ρ = some ρ' → ds.length = n)
    (hn : (assignEach es X.env).length = n := by rfl) (hst : (assignEach es X.env).findIdx? (·.1) = none := by rfl) : MG X (.Tuple es k pos) ix (gTupD gs) :=
  ⟨fun F0 H0 => pg_weak (pg_tup hc (h.ok F0 H0) hn hst) fun v σ H Q ⟨ρ, F, d, ρ', e1, pd, e2, q⟩ => by
    unfold gTupD at e2
    split at e2
    · cases pd with
      | tup hs ha => exact ⟨_, _, rfl, sqt_ex e1.fh hs, (dal_len ha).trans (hl _ _ _ e2), ρ, F, _, ρ', e1, ha, e2, q⟩
    · cases e2⟩
theorem gs_len0 {ds : List D} {ρ ρ' : Rho} (h : gsNil ds ρ = some ρ') : ds.length = 0 := by
  unfold gsNil at h
  split at h
  · rfl
  · cases h
theorem gs_lenS {g : D → Rho → Option Rho} {gs : List D → Rho → Option Rho} {n : Nat} (hl : ∀ ds ρ ρ', gs ds ρ = some ρ' → ds.length = n) {ds : List D} {ρ ρ' : Rho} (h : gsCons g gs ds ρ = some ρ') : ds.length = n + 1 := by
  unfold gsCons at h
  split at h
  · rename_i d r
    cases hg : g d ρ with
    | none => rw [hg] at h; cases h
    | some ρ1 =>
      rw [hg] at h
      exact congrArg (· + 1) (hl _ _ _ h)
  · cases h
/-- target = e, the target a tuple -/
def mAsg (mg : D → Rho → Option Rho) (m : Rho → Option D) : Rho → Option Res := fun ρ => (m ρ).bind fun d => (mg d ρ).map .nx
theorem ms_asg {t : Expr} {ix : List Nat} {mg : D → Rho → Option Rho} (he : ME X e m) (hg : MG X t ix mg) (hs : swapsWithSole [t] e pos.line X.env = pure false := by rfl) (hw : swappedStores [t] e X.env = pure none := by rfl)
    (h1 : (assignEach [t] X.env).map (·.2) = [assign t X.env] := by rfl) : MS X W (.Assign [t] e pos) (mAsg mg m) :=
  ⟨fun F0 H0 => ps_weak (ps_asg (he.ok F0 H0) (hg.ok F0 H0) hs hw h1) fun Dn σ H ⟨ρ, F, r, e1, e2, q⟩ => by
    unfold mAsg at e2
    cases hx : m ρ with
    | none => rw [hx] at e2; cases e2
    | some d =>
      rw [hx] at e2
      cases hg : mg d ρ with
      | none => simp [hg] at e2
      | some ρ1 =>
        replace e2 : Res.nx ρ1 = r := by simpa [hg] using e2
        subst e2
        exact ⟨ρ, F, d, e1, hx, fun v F' H' a pd => ⟨ρ, F', d, ρ1, e1.go a, pd, hg, fun σ' k _ _ => q σ' F' H' k⟩⟩⟩
end
end MV

set_option maxRecDepth 100000
set_option maxHeartbeats 4000000
namespace MV
open PySem PySem.Spec PyProof.Rows L2

/-! ### what is walked -/
/-- the walk J yields the data ds, as long as B is part of the heap; the items stand in Fi -/
def Items (K : PySem.W.Frag) (J : It) (B Fi : Hp) (ds : List D) : Prop := ∃ (G : Hp → Prop) (Y : Nat → Hp → V → Hp → Prop), Walk J ds.length G Y ∧ (∀ H1, Ex B H1 → G H1) ∧
  ∀ (i : Nat) d F1 H1 x H2, ds[i]? = some d → Ex Fi F1 → Ex F1 H1 → G H1 → Y i H1 x H2 → ∃ F2, Adv F1 H1 F2 H2 ∧ Dp K F2 x d
def tI (K : PySem.W.Frag) (F0 H0 : Hp) (m : Rho → Option (List D)) : TI := fun σ H R => ∃ ρ F ds, EnvOk K F0 H0 F H σ ρ ∧ m ρ = some ds ∧ ∀ J F' H', Adv F H F' H' → Items K J F' F' ds → R J H'
def tIH (K : PySem.W.Frag) (F0 H0 : Hp) (m : Rho → Option (List D)) : TI := fun σ H R => ∃ ρ F ds, EnvOk K F0 H0 F H σ ρ ∧ m ρ = some ds ∧ ∀ J F' H', Adv F H F' H' → Items K J H' F' ds → R J H'
structure MI (X : Cx) (tg iter : Expr) (m : Rho → Option (List D)) : Prop where
  ok : ∀ F0 H0, PI X tg iter (tI X.K F0 H0 m)
structure MIH (X : Cx) (tg iter : Expr) (m : Rho → Option (List D)) : Prop where
  ok : ∀ F0 H0, PI X tg iter (tIH X.K F0 H0 m)
theorem pi_weak {X : Cx} {tg iter : Expr} {t t' : TI} (h : PI X tg iter t) (w : ∀ σ H R, t' σ H R → t σ H R) : PI X tg iter t' := ⟨fun pins s σ H R I q => h.run pins s σ H R I (w σ H R q)⟩
theorem Items.h {K : PySem.W.Frag} {J : It} {F H : Hp} {ds : List D} (h : Items K J F F ds) (e : Ex F H) : Items K J H F ds := by
  obtain ⟨G, Y, w, g, i⟩ := h
  exact ⟨G, Y, w, fun H1 e1 => g H1 (e.trans e1), i⟩
theorem MI.h {X : Cx} {tg iter : Expr} {m : Rho → Option (List D)} (h : MI X tg iter m) : MIH X tg iter m := ⟨fun F0 H0 => pi_weak (h.ok F0 H0) fun σ H R ⟨ρ, F, ds, e1, e2, q⟩ => ⟨ρ, F, ds, e1, e2, fun J F' H' a i => q J F' H' a (i.h a.fh)⟩⟩

theorem items_list {K : PySem.W.Frag} {p : Addr} {vs : List V} {ds : List D} {B F : Hp} (hs : SqL K B p vs) (a : DpAll K F vs ds) : Items K (Itl K p) B F ds := by
  refine ⟨_, _, by rw [← dal_len a]; exact walk_list, fun H1 e => sql_ex e hs, fun i d F1 H1 x H2 hd e1 e2 g y => ?_⟩
  obtain ⟨rfl, hx⟩ := y
  obtain ⟨v, h1, h2⟩ := dal_get a hd
  rw [hx] at h1
  cases h1
  exact ⟨F1, Adv.refl e2, dp_ex e1 d _ h2⟩
theorem items_tup {K : PySem.W.Frag} {p : Addr} {vs : List V} {ds : List D} {B F : Hp} (hs : SqT K B p vs) (a : DpAll K F vs ds) : Items K (Itt K p) B F ds := by
  refine ⟨_, _, by rw [← dal_len a]; exact walk_tup, fun H1 e => sqt_ex e hs, fun i d F1 H1 x H2 hd e1 e2 g y => ?_⟩
  obtain ⟨rfl, hx⟩ := y
  obtain ⟨v, h1, h2⟩ := dal_get a hd
  rw [hx] at h1
  cases h1
  exact ⟨F1, Adv.refl e2, dp_ex e1 d _ h2⟩
/-- lo, lo + 1, .. -/
def rangeD (lo hi : Int) : List D := (List.range (hi - lo).toNat).map fun (i : Nat) => .int (lo + (i : Int))
theorem items_range {K : PySem.W.Frag} {lo hi : Int} {B F : Hp} : Items K (Itr lo (hi - lo).toNat) B F (rangeD lo hi) := by
  have hl : (rangeD lo hi).length = (hi - lo).toNat := by unfold rangeD; rw [List.length_map, List.length_range]
  refine ⟨_, _, by rw [hl]; exact walk_range, fun H1 e => trivial, fun i d F1 H1 x H2 hd e1 e2 g y => ?_⟩
  obtain ⟨rfl, rfl⟩ := y
  have hi' : i < (hi - lo).toNat := by
    have := (List.getElem?_eq_some_iff.mp hd).1
    omega
  unfold rangeD at hd
  rw [List.getElem?_map, List.getElem?_range hi'] at hd
  cases hd
  exact ⟨F1, Adv.refl e2, .int _⟩

/-- a list or a tuple, whichever stands there -/
def seqOf : D → Option (List D)
  | .list ds => some ds
  | .tuple ds => some ds
  | _ => none
def mSeqOf (m : Rho → Option D) : Rho → Option (List D) := fun ρ => (m ρ).bind seqOf
def iSeq (K : PySem.W.Frag) (tl : TE) : TI := fun σ H R => tl σ H fun x H1 => ∃ a, x = .ref a ∧ ((∃ xs, SqL K H1 a xs ∧ R (Itl K a) H1) ∨ ∃ xs, SqT K H1 a xs ∧ R (Itt K a) H1)
section
variable {X : Cx} {W : WX} {tg e : Expr} {es : List Expr} {m : Rho → Option D} {p pos : Pos}
theorem pi_seq {tl : TE} (hl : PE X e tl) : PI X tg e (iSeq X.K tl) := by
  refine ⟨fun pins s σ H R I h => ?_⟩
  refine thn (hl.run pins s σ H _ I h) fun v s1 ⟨x, H1, I1, r1, a, e1, q1⟩ => ?_
  subst e1
  cases r1
  have fresh : ∀ b, b ∈ [s1.heap.objs.size] → FpOk X pins H1 b := fun b hb => by
    have hb' : b = s1.heap.objs.size := by simpa using hb
    subst hb'
    exact I1.fpOk (Nat.le_refl _) (I1.hok.fresh (Nat.le_refl _))
  rcases q1 with ⟨xs, hq, q⟩ | ⟨xs, hq, q⟩
  · obtain ⟨its, rv, pl, hz⟩ := I1.list hq
    exact wpAny_pyIter_list pl.isList ⟨s1.heap.objs.size, _, _, _, H1, rfl, I1.kept (t' := s1.toks) fun b o q => Heap.get?_push_of_some _ q, turn_list a _, ⟨_, Heap.get?_push_size _ rfl, rfl, rfl⟩, fresh, q⟩
  · obtain ⟨its, rv, pl, hz⟩ := I1.tuple hq
    exact wpAny_pyIter_tuple (show s1.heap.IsTuple a its.toArray from pl) ⟨s1.heap.objs.size, _, _, _, H1, rfl, I1.kept (t' := s1.toks) fun b o q => Heap.get?_push_of_some _ q, turn_tuple a _, ⟨_, Heap.get?_push_size _ rfl, rfl, rfl⟩, fresh, q⟩
theorem seqOf_some {d : D} {ds : List D} (h : seqOf d = some ds) : d = .list ds ∨ d = .tuple ds := by
  unfold seqOf at h
  split at h
  · cases h; exact .inl rfl
  · cases h; exact .inr rfl
  · cases h
theorem mi_seq (he : ME X e m) : MI X tg e (mSeqOf m) := ⟨fun F0 H0 => pi_weak (pi_seq (he.ok F0 H0)) fun σ H R ⟨ρ, F, ds, e1, e2, q⟩ => by
  unfold mSeqOf at e2
  cases hx : m ρ with
  | none => rw [hx] at e2; cases e2
  | some d =>
    rw [hx] at e2
    replace e2 : seqOf d = some ds := e2
    refine ⟨ρ, F, d, e1, hx, fun v F' H' a pd => ?_⟩
    rcases seqOf_some e2 with rfl | rfl
    · cases pd with
      | lst hs ha => exact ⟨_, rfl, .inl ⟨_, sql_ex a.fh hs, q _ F' H' a (items_list hs ha)⟩⟩
    · cases pd with
      | tup hs ha => exact ⟨_, rfl, .inr ⟨_, sqt_ex a.fh hs, q _ F' H' a (items_tup hs ha)⟩⟩⟩
theorem mih_seq (he : MT X e m) : MIH X tg e (mSeqOf m) := ⟨fun F0 H0 => pi_weak (pi_seq (he.ok F0 H0)) fun σ H R ⟨ρ, F, ds, e1, e2, q⟩ => by
  unfold mSeqOf at e2
  cases hx : m ρ with
  | none => rw [hx] at e2; cases e2
  | some d =>
    rw [hx] at e2
    replace e2 : seqOf d = some ds := e2
    refine ⟨ρ, F, d, e1, hx, fun v F' H' a pd => ?_⟩
    rcases seqOf_some e2 with rfl | rfl
    · obtain ⟨p, vs, rfl, hs, ha⟩ := pd.list a.fh
      exact ⟨_, rfl, .inl ⟨_, hs, q _ F' H' a (items_list hs ha)⟩⟩
    · obtain ⟨p, vs, rfl, hs, ha⟩ := pd.tuple a.fh
      exact ⟨_, rfl, .inr ⟨_, hs, q _ F' H' a (items_tup hs ha)⟩⟩⟩
def rngOk (j : Int) : Bool := decide (j.natAbs < 2 ^ 60)
theorem rngOk_i {j : Int} (h0 : -(2 ^ 59) ≤ j) (h1 : j < 2 ^ 59) : rngOk j = true := decide_eq_true (by omega)
def rng1 : List D → Option (List D)
  | [.int j] => if rngOk j = true then some (rangeD 0 j) else none
  | _ => none
def rng2 : List D → Option (List D)
  | [.int i, .int j] => if rngOk i = true ∧ rngOk j = true then some (rangeD i j) else none
  | _ => none
theorem rng1_ok {j : Int} (h : rngOk j = true) : rng1 [.int j] = some (rangeD 0 j) := if_pos h
theorem rng2_ok {i j : Int} (h : rngOk i = true) (h2 : rngOk j = true) : rng2 [.int i, .int j] = some (rangeD i j) := if_pos ⟨h, h2⟩
def mL2 (g : List D → Option (List D)) (m : Rho → Option (List D)) : Rho → Option (List D) := fun ρ => (m ρ).bind g
theorem mi_range1 {a : Expr} {ma : Rho → Option (List D)} (hm : X.mg "range" = none) (ha : MAT X [a] ma) (hg : Gl X "range" := by rfl) (hs : starEach [a] X.env = [(false, eval a X.env)] := by rfl) : MI X tg (.Call (.Name "range" p) [a] [] pos) (mL2 rng1 ma) :=
  ⟨fun F0 H0 => pi_weak (pi_range1 hg hm (ha.ok F0 H0) hs) fun σ H R ⟨ρ, F, ds, e1, e2, q⟩ => by
    unfold mL2 at e2
    cases hx : ma ρ with
    | none => rw [hx] at e2; cases e2
    | some d =>
      rw [hx] at e2
      replace e2 : rng1 d = some ds := e2
      refine ⟨ρ, F, d, e1, hx, fun v F' H' a pd => ?_⟩
      unfold rng1 at e2
      split at e2
      · split at e2
        · cases e2
          rename_i j hj
          replace hj := of_decide_eq_true hj
          cases pd with
          | cons t1 t2 =>
            cases t2
            refine ⟨j, by rw [t1.int], by omega, by omega, q _ F' H' a ?_⟩
            have h := items_range (K := X.K) (lo := 0) (hi := j) (B := F') (F := F')
            rw [show j - 0 = j by omega] at h
            exact h
        · cases e2
      · cases e2⟩
theorem mi_range2 {a b : Expr} {ma : Rho → Option (List D)} (hm : X.mg "range" = none) (ha : MAT X [a, b] ma) (hg : Gl X "range" := by rfl) (hs : starEach [a, b] X.env = [(false, eval a X.env), (false, eval b X.env)] := by rfl) (hs2 : starEach [b] X.env = [(false, eval b X.env)] := by rfl) :
    MI X tg (.Call (.Name "range" p) [a, b] [] pos) (mL2 rng2 ma) :=
  ⟨fun F0 H0 => pi_weak (pi_range2 hg hm (ha.ok F0 H0) hs hs2) fun σ H R ⟨ρ, F, ds, e1, e2, q⟩ => by
    unfold mL2 at e2
    cases hx : ma ρ with
    | none => rw [hx] at e2; cases e2
    | some d =>
      rw [hx] at e2
      replace e2 : rng2 d = some ds := e2
      refine ⟨ρ, F, d, e1, hx, fun v F' H' a pd => ?_⟩
      unfold rng2 at e2
      split at e2
      · split at e2
        · cases e2
          rename_i i j hj
          have hi := of_decide_eq_true hj.1
          have hk := of_decide_eq_true hj.2
          cases pd with
          | cons t1 t2 =>
            cases t2 with
            | cons t2 t3 =>
              cases t3
              exact ⟨i, j, by rw [t1.int, t2.int], ⟨by omega, by omega, by omega, by omega⟩, q _ F' H' a items_range⟩
        · cases e2
      · cases e2⟩

/-! ### for -/
def loopD (mg : D → Rho → Option Rho) (mb : Rho → Option Res) : List D → Rho → Option Res
  | [], ρ => some (.nx ρ)
  | d :: ds, ρ => (mg d ρ).bind fun ρ1 => (mb ρ1).bind fun r => match r with
    | .nx ρ2 => loopD mg mb ds ρ2
    | .ct ρ2 => loopD mg mb ds ρ2
    | .bk ρ2 => some (.nx ρ2)
    | .rt d => some (.rt d)
    | .ro es => some (.ro es)
    | .rs d ρ2 => some (.rs d ρ2)
    | .ex e ρ2 => some (.ex e ρ2)
def mFor (src : Rho → Option (List D)) (mg : D → Rho → Option Rho) (mb : Rho → Option Res) : Rho → Option Res := fun ρ => (src ρ).bind fun ds => loopD mg mb ds ρ
theorem EnvOk.rebase {K : PySem.W.Frag} {F0 H0 F1 F H : Hp} {σ : L2.St} {ρ : Rho} (e : EnvOk K F0 H0 F H σ ρ) (h1 : Ex F0 F1) (h2 : Ex F1 F) : EnvOk K F1 H0 F H σ ρ :=
  ⟨⟨h2, e.adv.2.1, e.adv.2.2⟩, fun p k1 k2 => e.new p (h1.none k1) k2, e.len, e.dat, e.own, e.dist, e.rf, e.obs⟩
theorem EnvOk.unbase {K : PySem.W.Frag} {F0 H0 F1 F H : Hp} {σ : L2.St} {ρ : Rho} (e : EnvOk K F1 H0 F H σ ρ) (h1 : Ex F0 F1) (hn : ∀ p, F0 p = none → H0 p ≠ none → F1 p = none) : EnvOk K F0 H0 F H σ ρ :=
  ⟨⟨h1.trans e.adv.1, e.adv.2.1, e.adv.2.2⟩, fun p k1 k2 => e.new p (hn p k1 k2) k2, e.len, e.dat, e.own, e.dist, e.rf, e.obs⟩
theorem ms_for {iter : Expr} {body : List Stmt} {src : Rho → Option (List D)} {ix : List Nat} {mg : D → Rho → Option Rho} {mb : Rho → Option Res} (hp : PassesOwn (model X.prog X.w) X.A X.env X.xe) (hc : X.calm = true)
    (hi : MI X tg iter src) (hg : MG X tg ix mg) (hb : MSs X W body mb) (hs : ∀ x, foldedSetIterable iter X.env x = pure x := by intro _; rfl) : MS X W (.For tg iter body [] pos) (mFor src mg mb) := by
  refine ⟨fun F0 H0 => ?_⟩
  -- the body is read over the frozen part as it stands when the walk begins; one reading serves every such part
  have body_any : PSs X body (fun Dn σ H => ∃ F1 : Hp, tS X F1 H0 W mb Dn σ H) := ⟨fun pins s σ H Dn I ⟨F1, h⟩ => (hb.ok F1 H0).run pins s σ H Dn I h⟩
  have targ_any : PG X tg (fun v σ H Q => ∃ F1 : Hp, tG X.K F1 H0 ix mg v σ H Q) := ⟨fun pins s σ H v u Q I r ⟨F1, h⟩ => (hg.ok F1 H0).run pins s σ H v u Q I r h⟩
  refine ps_weak (ps_for hp hc (hi.ok F0 H0) targ_any body_any hs) fun Dn σ H h => ?_
  obtain ⟨ρ, F, r, e1, e2, q⟩ := h
  unfold mFor at e2
  cases hx : src ρ with
  | none => rw [hx] at e2; cases e2
  | some ds =>
    rw [hx] at e2
    replace e2 : loopD mg mb ds ρ = some r := e2
    refine ⟨ρ, F, ds, e1, hx, fun J F' H' a it => ?_⟩
    have e1' := e1.go a
    obtain ⟨G, Y, w, hG, hY⟩ := it
    refine for_it (g := fun v σ H Q => ∃ F1 : Hp, tG X.K F1 H0 ix mg v σ H Q) (tb := fun Dn σ H => ∃ F1 : Hp, tS X F1 H0 W mb Dn σ H) (D := Dn) w (fun i σ H => ∃ ρi Fi, EnvOk X.K F' H0 Fi H σ ρi ∧ loopD mg mb (ds.drop i) ρi = some r) ⟨ρ, F', e1'.rebase e1'.adv.1 (Ex.refl _), by simpa using e2⟩ (fun i σ H _ ⟨ρi, Fi, k, _⟩ => hG H (k.adv.1.trans k.adv.2.2)) (fun i x σ H H2 hi ⟨ρi, Fi, k, kl⟩ y => ?_) (fun σ H ⟨ρi, Fi, k, kl⟩ => ?_)
    · have hd : ds[i]? = some ds[i] := List.getElem?_eq_getElem hi
      obtain ⟨F2, a2, pd⟩ := hY i ds[i] Fi H x H2 hd k.adv.1 k.adv.2.2 (hG H (k.adv.1.trans k.adv.2.2)) y
      rw [List.drop_eq_getElem_cons hi] at kl
      unfold loopD at kl
      cases hgm : mg ds[i] ρi with
      | none => rw [hgm] at kl; cases kl
      | some ρ1 =>
        rw [hgm] at kl
        cases hbm : mb ρ1 with
        | none => simp [hbm] at kl
        | some r1 =>
          have k2 := k.go a2
          refine ⟨F', ρi, F2, ds[i], ρ1, k2, pd, hgm, fun σ' k3 _ _ => ⟨F', ρ1, F2, r1, k3, hbm, ?_⟩⟩
          cases r1 with
          | nx ρ2 => exact fun σ4 F4 H4 k4 => ⟨ρ2, F4, k4, by simpa [hbm] using kl⟩
          | ct ρ2 => exact fun σ4 F4 H4 k4 => ⟨ρ2, F4, k4, by simpa [hbm] using kl⟩
          | bk ρ2 =>
            have kr : Res.nx ρ2 = r := by simpa [hbm] using kl
            subst kr
            exact fun σ4 F4 H4 k4 => q σ4 F4 H4 (k4.unbase e1'.adv.1 e1'.new)
          | ro es =>
            have kr : Res.ro es = r := by simpa [hbm] using kl
            subst kr
            exact fun p vs F4 H4 a4 z0 z1 z2 z3 => q p vs F4 H4 ⟨e1'.adv.1.trans a4.f, a4.h, a4.fh, fun p z1 z2 => a4.new p (e1'.new p z1 z2) z2⟩ z0 z1 z2 z3
          | rt d =>
            have kr : Res.rt d = r := by simpa [hbm] using kl
            subst kr
            exact fun v F4 H4 a4 pd4 => q v F4 H4 ⟨e1'.adv.1.trans a4.f, a4.h, a4.fh, fun p z1 z2 => a4.new p (e1'.new p z1 z2) z2⟩ pd4
          | rs d ρ2 =>
            have kr : Res.rs d ρ2 = r := by simpa [hbm] using kl
            subst kr
            exact fun v σ4 F4 H4 k4 pd => q v σ4 F4 H4 (k4.unbase e1'.adv.1 e1'.new) pd
          | ex e ρ2 =>
            have kr : Res.ex e ρ2 = r := by simpa [hbm] using kl
            subst kr
            exact fun σ4 F4 H4 cls d k4 x4 => q σ4 F4 H4 cls d (k4.unbase e1'.adv.1 e1'.new) x4
    · rw [List.drop_length] at kl
      unfold loopD at kl
      cases kl
      exact q σ Fi H (k.unbase e1'.adv.1 e1'.new)
end

/-! ### comprehensions -/
def compD (mg : D → Rho → Option Rho) (mt : Rho → Option Bool) (me : Rho → Option D) (ρ : Rho) : List D → Option (List D)
  | [] => some []
  | d :: ds => (mg d ρ).bind fun ρ1 => (mt ρ1).bind fun b => if b = true then (me ρ1).bind fun y => (compD mg mt me ρ ds).map (y :: ·) else compD mg mt me ρ ds
def mLc (src : Rho → Option (List D)) (mg : D → Rho → Option Rho) (mt : Rho → Option Bool) (me : Rho → Option D) (vs : List Nat) : Rho → Option (List D) := fun ρ => (src ρ).bind fun ds =>
  if ds.length < 100000 then compD mg mt me (wipeR ρ vs) ds else none
theorem wipe_get (σ : L2.St) (j : Nat) : ∀ vs : List Nat, (L2.wipe σ vs)[j]? = if j ∈ vs then (σ[j]?).map (fun _ => none) else σ[j]?
  | [] => by simp [L2.wipe]
  | v :: vs => by
    unfold L2.wipe
    by_cases hv : j = v
    · subst hv
      rw [if_pos (by simp)]
      by_cases hl : j < σ.length
      · rw [List.getElem?_set_self (by rw [L2.wipe_length]; exact hl), List.getElem?_eq_getElem hl]
        rfl
      · rw [List.getElem?_eq_none (by rw [List.length_set, L2.wipe_length]; omega), List.getElem?_eq_none (by omega)]
        rfl
    · rw [List.getElem?_set_ne (Ne.symm hv), wipe_get σ j vs]
      by_cases h : j ∈ vs
      · rw [if_pos h, if_pos (by simp [h])]
      · rw [if_neg h, if_neg (by simp [h, hv])]
theorem wipe_eq {σ σ' : L2.St} {vs ix : List Nat} (hl : σ'.length = (L2.wipe σ vs).length) (hx : ∀ i ∈ ix, i ∈ vs) (h : ∀ j, j ∉ ix → σ'[j]? = (L2.wipe σ vs)[j]?) : L2.wipe σ' vs = L2.wipe σ vs := by
  refine List.ext_getElem? fun j => ?_
  rw [wipe_get, wipe_get]
  rw [L2.wipe_length] at hl
  by_cases hj : j ∈ vs
  · rw [if_pos hj, if_pos hj]
    by_cases h1 : j < σ.length
    · rw [List.getElem?_eq_getElem h1, List.getElem?_eq_getElem (by omega)]
      rfl
    · rw [List.getElem?_eq_none (by omega), List.getElem?_eq_none (by omega)]
  · rw [if_neg hj, if_neg hj, h j (fun z => hj (hx j z)), wipe_get, if_neg hj]
/-- an untracked list, being filled, changes nothing of the rest -/
theorem Adv.fill {F H F' H' : Hp} (a : Adv F H F' H') {p : Addr} {o : HO} (h0 : H p = none) (h1 : F' p = none) : Adv F H F' (upd H' p o) :=
  ⟨a.f, fun x u h => by rw [upd_ne (ne_of_none h h0)]; exact a.h x u h, fun x u h => by rw [upd_ne (ne_of_none h h1)]; exact a.fh x u h, a.new⟩
structure MTs (X : Cx) (ifs : List Expr) (m : Rho → Option Bool) : Prop where
  ok : ∀ F0 H0, PTs X ifs (tB X.K F0 H0 m)
def mYes : Rho → Option Bool := fun _ => some true
theorem mts_nil {X : Cx} : MTs X [] mYes := ⟨fun F0 H0 => ⟨fun pins s σ H Q I ⟨ρ, F, b, e1, e2, q⟩ => by
  cases e2
  exact pts_nil.run pins s σ H Q I (q F H (Adv.refl e1.fh))⟩⟩
theorem mts_one {X : Cx} {c : Expr} {m : Rho → Option Bool} (h : MB X c m) : MTs X [c] m := ⟨fun F0 H0 => pts_one (h.ok F0 H0)⟩
section
variable {X : Cx} {W : WX} {elt tg iter : Expr} {ifs : List Expr} {scope : Scope} {own : List (Str × Nat)} {pos : Pos} {src : Rho → Option (List D)} {ix : List Nat} {mg : D → Rho → Option Rho} {mt : Rho → Option Bool} {me : Rho → Option D}
theorem lc_read {F0 H0 : Hp} {σ : L2.St} {H : Hp} {Q : VK} {vs : List Nat} (hx : ∀ i ∈ ix, i ∈ vs) (h : tO X.K F0 H0 (mLc src mg mt me vs) σ H Q) :
    tLc (tIH X.K F0 H0 src) (fun v σ H Q => tG X.K F0 H0 ix mg v σ H Q) (tB X.K F0 H0 mt) (tE X.K F0 H0 me) vs σ H Q := by
  obtain ⟨ρ, F, ys, e1, e2, q⟩ := h
  unfold mLc at e2
  cases hs : src ρ with
  | none => rw [hs] at e2; cases e2
  | some ds =>
    rw [hs] at e2
    replace e2 : (if ds.length < 100000 then compD mg mt me (wipeR ρ vs) ds else none) = some ys := e2
    split at e2
    · rename_i hz
      refine ⟨ρ, F, ds, e1, hs, fun J F1 H1 a1 it p hp => ?_⟩
      have g1 := e1.go a1
      obtain ⟨G, Y, w, hG, hY⟩ := it
      have hH : H p = none := a1.h.none hp
      refine lc_it w (fun i H2 => ∃ F2 acc zs rest, Adv F1 H1 F2 H2 ∧ H2 p = some (.lst acc) ∧ F2 p = none ∧ DpAll X.K F2 acc zs ∧ zs.length ≤ i ∧ compD mg mt me (wipeR ρ vs) (ds.drop i) = some rest ∧ zs ++ rest = ys)
        ⟨F1, [], [], ys, Adv.kept a1.fh (Ex.new hp), upd_same, a1.fh.none hp, .nil, Nat.zero_le _, by simpa using e2, rfl⟩ (fun i H2 _ ⟨F2, acc, zs, rest, a2, _⟩ => hG H2 a2.h) (fun i x H2 H3 hi ⟨F2, acc, zs, rest, a2, hD, hF, pa, hlen, hc, hy⟩ y => ?_) (fun H2 ⟨F2, acc, zs, rest, a2, hD, hF, pa, hlen, hc, hy⟩ => ?_)
      · have hd : ds[i]? = some ds[i] := List.getElem?_eq_getElem hi
        obtain ⟨F3, a3, pd⟩ := hY i ds[i] F2 H2 x H3 hd a2.f a2.fh (hG H2 a2.h) y
        have a13 := a2.trans a3
        have f3 : F3 p = none := a3.new p hF (by rw [hD]; exact fun z => nomatch z)
        have d3 : H3 p = some (.lst acc) := a3.h p _ hD
        rw [List.drop_eq_getElem_cons hi] at hc
        unfold compD at hc
        cases hgm : mg ds[i] (wipeR ρ vs) with
        | none => rw [hgm] at hc; cases hc
        | some ρ1 =>
          rw [hgm] at hc
          cases htm : mt ρ1 with
          | none => simp [htm] at hc
          | some b =>
            have g3 := (g1.go a13).wipe vs
            refine ⟨wipeR ρ vs, F3, ds[i], ρ1, g3, pd, hgm, fun σ4 g4 l4 c4 => ⟨wipe_eq l4 hx c4, ρ1, F3, b, g4, htm, fun F5 H5 a5 => ?_⟩⟩
            have f5 : F5 p = none := a5.new p f3 (by rw [d3]; exact fun z => nomatch z)
            have d5 : H5 p = some (.lst acc) := a5.h p _ d3
            cases b with
            | true =>
              cases hem : me ρ1 with
              | none => simp [htm, hem] at hc
              | some v =>
                cases hrm : compD mg mt me (wipeR ρ vs) (ds.drop (i + 1)) with
                | none => simp [htm, hem, hrm] at hc
                | some rest' =>
                  have hr : v :: rest' = rest := by simpa [htm, hem, hrm] using hc
                  subst hr
                  refine iteT ⟨ρ1, F5, v, g4.go a5, hem, fun u F6 H6 a6 pu => ?_⟩
                  have f6 : F6 p = none := a6.new p f5 (by rw [d5]; exact fun z => nomatch z)
                  have d6 : H6 p = some (.lst acc) := a6.h p _ d5
                  have l6 := dal_len pa
                  refine ⟨acc, d6, by rw [l6]; exact Nat.lt_of_le_of_lt hlen (Nat.lt_of_lt_of_le (Nat.lt_trans hi hz) (by decide)), F6, acc ++ [u], zs ++ [v], rest', ((a13.trans a5).trans a6).fill hp f6, upd_same, f6, ?_, by simp; omega, rfl, by rw [List.append_assoc]; exact hy⟩
                  exact dal_app (dpa_ex ((a3.f.trans a5.f).trans a6.f) _ _ pa) (.cons pu .nil)
            | false =>
              have hr : compD mg mt me (wipeR ρ vs) (ds.drop (i + 1)) = some rest := by simpa [htm] using hc
              exact iteF ⟨F5, acc, zs, rest, a13.trans a5, d5, f5, dpa_ex (a3.f.trans a5.f) _ _ pa, by omega, hr, hy⟩
      · rw [List.drop_length] at hc
        unfold compD at hc
        cases hc
        rw [List.append_nil] at hy
        subst hy
        exact q p acc F2 H2 (a1.trans a2) hH hF hD pa
    · cases e2
theorem mo_lc (hc : X.calm = true) (hN : X.N.Nodup) (hi : MIH X tg iter src) (ok : BlkOk X.N X.env.scope scope own)
    (hg : ∀ (s : Shared) (H : Hp) (C : Addr) (cl : List (Str × Addr)) (fp : List Addr), MG (X.blk s H scope (compEnvC scope cl C X.env) fp) tg ix mg)
    (ht : ∀ (s : Shared) (H : Hp) (C : Addr) (cl : List (Str × Addr)) (fp : List Addr), MTs (X.blk s H scope (compEnvC scope cl C X.env) fp) ifs mt)
    (he : ∀ (s : Shared) (H : Hp) (C : Addr) (cl : List (Str × Addr)) (fp : List Addr), ME (X.blk s H scope (compEnvC scope cl C X.env) fp) elt me)
    (hx : ∀ i ∈ ix, i ∈ own.map (·.2) := by decide) (hs : ∀ x, foldedSetIterable iter X.env x = pure x := by intro _; rfl) :
    MO X (.ListComp elt [⟨tg, iter, ifs, 0⟩] scope pos) (mLc src mg mt me (own.map (·.2))) :=
  ⟨fun F0 H0 => pe_weak (pe_lc hc hN (hi.ok F0 H0) ok (fun s H C cl fp => (hg s H C cl fp).ok F0 H0) (fun s H C cl fp => (ht s H C cl fp).ok F0 H0) (fun s H C cl fp => (he s H C cl fp).ok F0 H0) hs) fun σ H Q h => lc_read hx h⟩
/-- name = [..] on one line -/
theorem ms_setLc {i : Nat} {y : Str} {py spos : Pos} (hc : X.calm = true) (hN : X.N.Nodup) (hi : MIH X tg iter src) (ok : BlkOk X.N X.env.scope scope own)
    (hg : ∀ (s : Shared) (H : Hp) (C : Addr) (cl : List (Str × Addr)) (fp : List Addr), MG (X.blk s H scope (compEnvC scope cl C X.env) fp) tg ix mg)
    (ht : ∀ (s : Shared) (H : Hp) (C : Addr) (cl : List (Str × Addr)) (fp : List Addr), MTs (X.blk s H scope (compEnvC scope cl C X.env) fp) ifs mt)
    (he : ∀ (s : Shared) (H : Hp) (C : Addr) (cl : List (Str × Addr)) (fp : List Addr), ME (X.blk s H scope (compEnvC scope cl C X.env) fp) elt me)
    (hsw : swapsWith (.ListComp elt [⟨tg, iter, ifs, 0⟩] scope pos) (some (.Name y py)) spos.line X.env = pure true) (hyl : X.env.scope.names.lookup y = some .local := by rfl) (hy : X.N[i]? = some y := by rfl)
    (hx : ∀ i ∈ ix, i ∈ own.map (·.2) := by decide) (hs : ∀ x, foldedSetIterable iter X.env x = pure x := by intro _; rfl) :
    MS X W (.Assign [.Name y py] (.ListComp elt [⟨tg, iter, ifs, 0⟩] scope pos) spos) (mSet i (mL (mLc src mg mt me (own.map (·.2))))) :=
  ⟨fun F0 H0 => ps_weak (ps_setLc hc hN hy hyl hsw (hi.ok F0 H0) ok (fun s H C cl fp => (hg s H C cl fp).ok F0 H0) (fun s H C cl fp => (ht s H C cl fp).ok F0 H0) (fun s H C cl fp => (he s H C cl fp).ok F0 H0) hs) fun Dn σ H h => by
    obtain ⟨ρ, F, r, e1, e2, q⟩ := h
    unfold mSet mL at e2
    cases hm : mLc src mg mt me (own.map (·.2)) ρ with
    | none => rw [hm] at e2; cases e2
    | some ds =>
      rw [hm] at e2
      cases e2
      refine lc_read (X := X) (Q := fun x H1 => gName i x σ H1 Dn.nx) hx ⟨ρ, F, ds, e1, hm, fun p vs F' H' a h0 h1 h2 h3 => ?_⟩
      have a' := a.freeze h0 h1 h2
      exact q _ _ H' ((e1.go a').setD (.lst (SqL.of upd_same) (dpa_ex (Ex.new h1) ds vs h3)))⟩
/-- the same, the list an own one -/
theorem ms_setLcO {i : Nat} {y : Str} {py spos : Pos} (hc : X.calm = true) (hN : X.N.Nodup) (hi : MIH X tg iter src) (ok : BlkOk X.N X.env.scope scope own)
    (hg : ∀ (s : Shared) (H : Hp) (C : Addr) (cl : List (Str × Addr)) (fp : List Addr), MG (X.blk s H scope (compEnvC scope cl C X.env) fp) tg ix mg)
    (ht : ∀ (s : Shared) (H : Hp) (C : Addr) (cl : List (Str × Addr)) (fp : List Addr), MTs (X.blk s H scope (compEnvC scope cl C X.env) fp) ifs mt)
    (he : ∀ (s : Shared) (H : Hp) (C : Addr) (cl : List (Str × Addr)) (fp : List Addr), ME (X.blk s H scope (compEnvC scope cl C X.env) fp) elt me)
    (hsw : swapsWith (.ListComp elt [⟨tg, iter, ifs, 0⟩] scope pos) (some (.Name y py)) spos.line X.env = pure true) (hyl : X.env.scope.names.lookup y = some .local := by rfl) (hy : X.N[i]? = some y := by rfl)
    (hx : ∀ i ∈ ix, i ∈ own.map (·.2) := by decide) (hs : ∀ x, foldedSetIterable iter X.env x = pure x := by intro _; rfl) :
    MS X W (.Assign [.Name y py] (.ListComp elt [⟨tg, iter, ifs, 0⟩] scope pos) spos) (mSetO i (mLc src mg mt me (own.map (·.2)))) :=
  ⟨fun F0 H0 => ps_weak (ps_setLc hc hN hy hyl hsw (hi.ok F0 H0) ok (fun s H C cl fp => (hg s H C cl fp).ok F0 H0) (fun s H C cl fp => (ht s H C cl fp).ok F0 H0) (fun s H C cl fp => (he s H C cl fp).ok F0 H0) hs) fun Dn σ H h => by
    obtain ⟨ρ, F, r, e1, e2, q⟩ := h
    unfold mSetO at e2
    cases hm : mLc src mg mt me (own.map (·.2)) ρ with
    | none => rw [hm] at e2; cases e2
    | some ds =>
      rw [hm] at e2
      cases e2
      refine lc_read (X := X) (Q := fun x H1 => gName i x σ H1 Dn.nx) hx ⟨ρ, F, ds, e1, hm, fun p vs F' H' a h0 h1 h2 h3 => ?_⟩
      exact q _ F' H' ((e1.go a).setO (e1.adv.2.1.none h0) h1 h2 h3 (e1.fresh h0) (e1.fresh_ob h0 a.h))⟩
end
end MV

set_option maxRecDepth 100000
set_option maxHeartbeats 4000000
namespace MV
open PySem PySem.Spec PyProof.Rows L2

/-! ### what a def is worth: a function over data -/
def spM (K : PySem.W.Frag) (m : List D → Option D) (vs : List V) (H : Hp) (Q : VK) : Prop := ∃ F ds d, Ex F H ∧ DpAll K F vs ds ∧ m ds = some d ∧ ∀ v F' H', Adv F H F' H' → Dp K F' v d → Q v H'
structure FnG (P : Program) (w : World) (K : PySem.W.Frag) (mg : Str → Option Value) (base : Heap) (k : Nat) (f : Addr) (fd : FuncData) (ps : List Str) (m : List D → Option D) : Prop where
  len : ∀ ds d, m ds = some d → ds.length = ps.length
  run : ∀ (A : Around) (outer : List Env) (s : Shared) (H : Hp) (args : Args) (us : List Value) (vs : List V) (Q : VK), A.guards = some [] → Room k A → Env0 P w K mg base A outer s H →
    BindsTo s fd args (ps.zip us) → Vals vs us → spM K m vs H Q → codeAny (model P w) A (.call (.ref f) args) (CR CX0 outer P w H s Q E0) s
theorem FnG.mono {P : Program} {w : World} {K : PySem.W.Frag} {mg : Str → Option Value} {base : Heap} {j k : Nat} {f : Addr} {fd : FuncData} {ps : List Str} {m : List D → Option D} (F : FnG P w K mg base j f fd ps m) (h : j ≤ k) : FnG P w K mg base k f fd ps m :=
  ⟨F.len, fun A outer s H args us vs Q hg hr => F.run A outer s H args us vs Q hg (hr.mono h)⟩
/-- the same def by another function that is worth as much where it is asked -/
theorem FnG.imp {P : Program} {w : World} {K : PySem.W.Frag} {mg : Str → Option Value} {base : Heap} {k : Nat} {f : Addr} {fd : FuncData} {ps : List Str} {m m' : List D → Option D} (F : FnG P w K mg base k f fd ps m) (h : ∀ ds d, m' ds = some d → m ds = some d) : FnG P w K mg base k f fd ps m' :=
  ⟨fun ds d e => F.len ds d (h ds d e), fun A outer s H args us vs Q hg hr e0 hb r ⟨Fz, ds, d, e, pa, hm, q⟩ => F.run A outer s H args us vs Q hg hr e0 hb r ⟨Fz, ds, d, e, pa, h ds d hm, q⟩⟩
section
variable {X : Cx} {k : Nat} {f : Addr} {fd : FuncData} {ps : List Str} {mf : List D → Option D} {dvs : List V} {dus : List Value} {dds : List D} {x : Str} {p pos : Pos} {e : Expr} {es : List Expr} {ma : Rho → Option (List D)}
def tCallG (K : PySem.W.Frag) (mf : List D → Option D) (dvs : List V) (t : TA) : TE := fun σ H Q => t σ H fun vs H1 => spM K mf (vs ++ dvs) H1 Q
theorem run_fnG {pins : List (Addr × Obj)} {σ : L2.St} {H : Hp} {s : Shared} {Q : VK} {us : List Value} {vs : List V} (G : FnG X.prog X.w X.K X.mg X.base k f fd ps mf) (hG : X.A.guards = some []) (hr : Room k X.A) (hb : Binds X.K fd ps dus) (hd : Vals dvs dus)
    (I : L2.Inv X pins σ H s) (r : Vals vs us) (h : spM X.K mf (vs ++ dvs) H Q) : wpAny (model X.prog X.w) X.A (call (.ref f) us) (EP X pins σ Q) X.xe s := by
  have r2 := r.append hd
  have hl : (us ++ dus).length = ps.length := by
    obtain ⟨F, ds, d, _, pa, hm, _⟩ := h
    have l1 := G.len ds d hm
    have l2 := dal_len pa
    rw [← r2.length]
    omega
  have go := G.run X.A X.stack s H ⟨us, []⟩ (us ++ dus) (vs ++ dvs) Q hG hr I.env0 (hb s us I.kIn hl) r2 h
  refine wpAny_call (codeAny_mono go fun res s' hq => ?_)
  match res, hq with
  | .error e, hq => exact False.elim hq
  | .ok (.ret u), hq => exact I.after hq
  | .ok .next, hq => exact False.elim hq
  | .ok .brk, hq => exact False.elim hq
  | .ok .cont, hq => exact False.elim hq
theorem pe_callG {t : TA} (G : FnG X.prog X.w X.K X.mg X.base k f fd ps mf) (hG : X.A.guards = some []) (hr : Room k X.A) (hg : Gl X x) (hm : X.mg x = some (.ref f)) (hk : PySem.W.keepIn X.K (.ref f) = true) (hb : Binds X.K fd ps dus) (hd : Vals dvs dus)
    (ha : PA X (e :: es) t) (hdb : (x == ("__debug__" : Str)) = false := by decide) (he : starEach (e :: es) X.env = (false, eval e X.env) :: starEach es X.env := by rfl) (hpl : (backTo pos (starEach es X.env)).any (·.1) = false := by rfl) :
    PE X (.Call (.Name x p) (e :: es) [] pos) (tCallG X.K mf dvs t) := ⟨fun pins s σ H Q I h => by
  have args := thn (ha.run pos pins s σ H _ I h) fun us s1 ⟨vs, H1, I1, r, q⟩ => (⟨I1.kIn, run_fnG G hG hr hb hd I1 r q⟩ : X.K.In s1.heap ∧ wpAny (model X.prog X.w) X.A (call (.ref f) us) (EP X pins σ Q) X.xe s1)
  exact wpAny_Call_Name_kw (ld_glob I hg hm (PySem.W.callWith_K (h₀ := X.base) I.ok.mod.kin hk args he hpl) hdb)⟩
def mCall (mf : List D → Option D) (dds : List D) (ma : Rho → Option (List D)) : Rho → Option D := fun ρ => (ma ρ).bind fun ds => mf (ds ++ dds)
theorem me_call (G : FnG X.prog X.w X.K X.mg X.base k f fd ps mf) (hG : X.A.guards = some []) (hr : Room k X.A) (hm : X.mg x = some (.ref f)) (hk : PySem.W.keepIn X.K (.ref f) = true) (hb : Binds X.K fd ps dus) (hd : Vals dvs dus) (hdd : ∀ F : Hp, DpAll X.K F dvs dds)
    (ha : MAE X (e :: es) ma) (hg : Gl X x := by rfl) (hdb : (x == ("__debug__" : Str)) = false := by decide) (he : starEach (e :: es) X.env = (false, eval e X.env) :: starEach es X.env := by rfl) (hpl : (backTo pos (starEach es X.env)).any (·.1) = false := by rfl) :
    ME X (.Call (.Name x p) (e :: es) [] pos) (mCall mf dds ma) :=
  ⟨fun F0 H0 => pe_weak (pe_callG G hG hr hg hm hk hb hd (ha.ok F0 H0) hdb he hpl) fun σ H Q ⟨ρ, F, d, e1, e2, q⟩ => by
    unfold mCall at e2
    cases hx : ma ρ with
    | none => rw [hx] at e2; cases e2
    | some ds =>
      rw [hx] at e2
      exact ⟨ρ, F, ds, e1, hx, fun vs F1 H1 a1 pa => ⟨F1, ds ++ dds, d, a1.fh, dal_app pa (hdd F1), e2, fun v F2 H2 a2 pd => q v F2 H2 (a1.trans a2) pd⟩⟩⟩
theorem me_call0 (G : FnG X.prog X.w X.K X.mg X.base k f fd ps mf) (hG : X.A.guards = some []) (hr : Room k X.A) (hm : X.mg x = some (.ref f)) (hk : PySem.W.keepIn X.K (.ref f) = true) (hb : Binds X.K fd ps dus) (hd : Vals dvs dus) (hdd : ∀ F : Hp, DpAll X.K F dvs dds)
    (hg : Gl X x := by rfl) (hdb : (x == ("__debug__" : Str)) = false := by decide) : ME X (.Call (.Name x p) [] [] pos) (mCall mf dds mNil) :=
  ⟨fun F0 H0 => ⟨fun pins s σ H Q I ⟨ρ, F, d, e1, e2, q⟩ => by
    have run := run_fnG (us := []) (vs := []) (Q := Q) G hG hr hb hd I .nil ⟨F, dds, d, e1.fh, hdd F, e2, fun v F2 H2 a2 pd => q v F2 H2 a2 pd⟩
    exact wpAny_Call_Name_kw (ld_glob I hg hm (PySem.W.callWith_K0 I.kIn hk run) hdb)⟩⟩
end

/-- a def by its body's function -/
def runDef (n j : Nat) (body : Rho → Option Res) : List D → Option D := fun ds => if ds.length = n then (body (ds.map Cell.dat ++ List.replicate j Cell.un)).bind fun r => match r with
  | .rt d => some d
  | .nx _ => some .none
  | .ro es => some (.list es)
  | _ => none else none
theorem env_start {K : PySem.W.Frag} {F H : Hp} {N : List Str} {vs : List V} {ds : List D} (e : Ex F H) (pa : DpAll K F vs ds) (hl : vs.length ≤ N.length) : EnvOk K F H F H (start N vs) (ds.map Cell.dat ++ List.replicate (N.length - vs.length) Cell.un) := by
  have l := dal_len pa
  have cell : ∀ (i : Nat) c, (ds.map Cell.dat ++ List.replicate (N.length - vs.length) Cell.un)[i]? = some c → c = .un ∨ ∃ d, ds[i]? = some d ∧ c = .dat d := fun i c h => by
    by_cases hi : i < ds.length
    · rw [List.getElem?_append_left (by simpa using hi), List.getElem?_map, List.getElem?_eq_getElem hi] at h
      cases h
      exact .inr ⟨_, List.getElem?_eq_getElem hi, rfl⟩
    · rw [List.getElem?_append_right (by simpa using hi), List.getElem?_replicate] at h
      split at h
      · cases h; exact .inl rfl
      · cases h
  refine ⟨⟨Ex.refl _, Ex.refl _, e⟩, fun _ h _ => h, ?_, fun i d hi => ?_, fun i ys hi => ?_, fun i j ys zs p hi _ _ _ => ?_, fun i a hi => ?_, fun i n fs hi => ?_⟩
  · unfold L2.start
    simp [l]
  · rcases cell i _ hi with h | ⟨d', h, h2⟩
    · cases h
    · cases h2
      obtain ⟨v, h3, h4⟩ := dal_get pa h
      refine ⟨v, ?_, h4⟩
      unfold L2.start
      have hv := (List.getElem?_eq_some_iff.mp h3).1
      rw [List.getElem?_append_left (by simpa using hv), List.getElem?_map, h3]
      rfl
  · rcases cell i _ hi with h | ⟨d', h, h2⟩
    · cases h
    · cases h2
  · rcases cell i _ hi with h | ⟨d', h, h2⟩
    · cases h
    · cases h2
  · rcases cell i _ hi with h | ⟨d', h, h2⟩
    · cases h
    · cases h2
  · rcases cell i _ hi with h | ⟨d', h, h2⟩
    · cases h
    · cases h2
section
variable {P : Program} {w : World} {K : PySem.W.Frag} {mg : Str → Option Value} {base : Heap}
theorem fn_def {x qual : Str} {st : Stmt} {f : Addr} {fd : FuncData} {N ps : List Str} {k : Nat} {body : Rho → Option Res} {dvs : List V} {kws : List (Str × V)} (D0 : FunD K x qual (defArgs st) (defBody st) (defScope st) dvs kws f fd) (S : FnScope N ps (defScope st))
    (hbody : ∀ (cdv : Value) (A : Around) (outer : List Env) (s : Shared) (H : Hp), (A.deeper (envOfC qual (defScope st) s.heap.objs.size f cdv)).guards = some [] → Room k (A.deeper (envOfC qual (defScope st) s.heap.objs.size f cdv)) →
      MSs (cxOf CX0 P w K mg base N qual (defScope st) f cdv A outer s H E0).nox noW (defBody st) body) : FnG P w K mg base (k + 1) f fd ps (runDef ps.length (N.length - ps.length) body) := by
  obtain ⟨oc, od, dV, kV, doc, pm, an, cdv, ct, osl, rfl, lk, hcd, _, _⟩ := D0.ex
  have len : ∀ ds d, runDef ps.length (N.length - ps.length) body ds = some d → ds.length = ps.length := fun ds d h => by
    unfold runDef at h
    split at h
    · assumption
    · cases h
  refine ⟨len, fun A outer s H args us vs Q hG hr e0 hb r h => ?_⟩
  obtain ⟨F, ds, d, ex, pa, hm, q⟩ := h
  have hl := len ds d hm
  have hv := dal_len pa
  have base_kept : ∀ b o, base.get? b = some o → s.heap.get? b = some o := fun b o z => (e0.bs b o z).1
  have KX : K.In s.heap := e0.mod.kin.keeps base_kept
  have hkind : ∀ y ∈ ps.zip us, (defScope st).names.lookup y.1 = some .local ∨ ((defScope st).names.lookup y.1 = some .cell ∧ ((cellsFrom (s.heap.objs.size + 1) (defScope st).names []).lookup y.1).isSome = true) := fun y hy =>
    (S.par y.1 (List.of_mem_zip (a := y.1) (b := y.2) hy).1).imp id fun c => ⟨c, PySem.W.cellsFrom_some _ _ _ (.inl c)⟩
  refine codeAny_call_function hr.depth (KX _ _ lk) rfl S.co S.gen rfl (PySem.W.codeRec_of KX hcd) (hb _ _ _ _ (wpAny_newFunctionEnv_cells S.kind hkind fun env he s1 z => ?_))
  subst he
  refine ⟨(e0.mod.nolimit.keeps base_kept).keeps z.toInCall.keep, codeAny_func ?_⟩
  have ht := ((hbody cdv A outer s H hG (hr.deeper _)).ok F H).nox
  have I : L2.Inv (cxOf CX0 P w K mg base N qual (defScope st) f cdv A outer s H E0) [] (start N vs) H s1 := inv_start S hr.hd e0 (hv.trans hl) r z
  have hpl : ps.length ≤ N.length := by
    have h1 := congrArg List.length S.pre
    rw [List.length_take] at h1
    omega
  have start_ok := env_start (N := N) ex pa (by omega)
  rw [show N.length - vs.length = N.length - ps.length by omega] at start_ok
  unfold runDef at hm
  rw [if_pos hl] at hm
  cases hbd : body (ds.map Cell.dat ++ List.replicate (N.length - ps.length) Cell.un) with
  | none => rw [hbd] at hm; cases hm
  | some res =>
    rw [hbd] at hm
    have goal : tS (cxOf CX0 P w K mg base N qual (defScope st) f cdv A outer s H E0).nox F H noW body { nx := fun _ H' => Q .non H', rt := Q } (start N vs) H := by
      refine ⟨_, F, res, start_ok, hbd, ?_⟩
      cases res with
      | rt d' =>
        cases hm
        exact q
      | nx ρ' =>
        cases hm
        exact fun σ' F' H' e' => q .non F' H' e'.toAdv .non
      | bk ρ' => cases hm
      | ct ρ' => cases hm
      | ro es =>
        cases hm
        exact fun p vs F' H' a z0 z1 z2 z3 => q _ _ _ (a.freeze z0 z1 z2) (.lst (SqL.of upd_same) (dpa_ex (Ex.new z1) _ _ z3))
      | rs d ρ' => cases hm
      | ex e ρ' => cases hm
    refine wpAny_mono (ht.run [] s1 (start N vs) H _ I goal) (fun fl s' hs => ?_) fun _ _ z => z
    match fl, hs with
    | .ret u, ⟨v, σ', H', J, rv, z⟩ => exact ⟨v, H', J.os, J.bare, J.base, J.hok, rv, z⟩
    | .next, ⟨σ', H', J, z⟩ => exact ⟨V.non, H', J.os, J.bare, J.base, J.hok, rfl, z⟩
    | .brk, ⟨_, _, _, z⟩ => exact False.elim z
    | .cont, ⟨_, _, _, z⟩ => exact False.elim z
end

/-! ### built-in functions -/
section
variable {X : Cx} {x : Str} {p pos : Pos} {e : Expr} {es : List Expr} {ma : Rho → Option (List D)} {id T : String} {g : List D → Option D}
def mFn (g : List D → Option D) (ma : Rho → Option (List D)) : Rho → Option D := fun ρ => (ma ρ).bind g
theorem fn_read {F0 H0 : Hp} {σ : L2.St} {H : Hp} {Q : VK} (h : tE X.K F0 H0 (mFn g ma) σ H Q) : tCB (cD X.K g) (tAT X.K F0 H0 ma) σ H Q := by
  obtain ⟨ρ, F, d, e1, e2, q⟩ := h
  unfold mFn at e2
  cases hx : ma ρ with
  | none => rw [hx] at e2; cases e2
  | some ds =>
    rw [hx] at e2
    exact ⟨ρ, F, ds, e1, hx, fun vs F1 H1 a1 ta => ⟨F1, ds, d, a1.fh, ta, e2, fun v F2 H2 a2 pd => q v F2 H2 (a1.trans a2) pd⟩⟩
theorem me_fnB (hc : FnD X (.builtin id) g) (hm : X.mg x = none) (ha : MAT X (e :: es) ma) (hv : bootBuiltins x = some (.builtin id) := by decide +kernel) (hg : Gl X x := by rfl) (hn : x ≠ "__name__" := by decide) (hdb : (x == ("__debug__" : Str)) = false := by decide)
    (he : starEach (e :: es) X.env = (false, eval e X.env) :: starEach es X.env := by rfl) (hpl : (backTo pos (starEach es X.env)).any (·.1) = false := by rfl) : ME X (.Call (.Name x p) (e :: es) [] pos) (mFn g ma) :=
  ⟨fun F0 H0 => pe_weak (pe_callB hc.ok hg hm hv (ha.ok F0 H0) hn hdb he hpl) fun _ _ _ h => fn_read h⟩
theorem me_fnT (hc : FnD X (.type T) g) (hm : X.mg x = none) (ha : MAT X (e :: es) ma) (hv : bootBuiltins x = some (.type T) := by decide +kernel) (hg : Gl X x := by rfl) (hn : x ≠ "__name__" := by decide) (hdb : (x == ("__debug__" : Str)) = false := by decide)
    (he : starEach (e :: es) X.env = (false, eval e X.env) :: starEach es X.env := by rfl) (hpl : (backTo pos (starEach es X.env)).any (·.1) = false := by rfl) : ME X (.Call (.Name x p) (e :: es) [] pos) (mFn g ma) :=
  ⟨fun F0 H0 => pe_weak (pe_callTy hc.ok hg hm hv (ha.ok F0 H0) hn hdb he hpl) fun _ _ _ h => fn_read h⟩
/-- a built-in function that the module has by import -/
theorem me_fnM (hc : FnD X (.builtin id) g) (hm : X.mg x = some (.builtin id)) (ha : MAT X (e :: es) ma) (hg : Gl X x := by rfl) (hdb : (x == ("__debug__" : Str)) = false := by decide)
    (he : starEach (e :: es) X.env = (false, eval e X.env) :: starEach es X.env := by rfl) (hpl : (backTo pos (starEach es X.env)).any (·.1) = false := by rfl) : ME X (.Call (.Name x p) (e :: es) [] pos) (mFn g ma) :=
  ⟨fun F0 H0 => pe_weak (pe_callBfun hc.ok hg hm (ha.ok F0 H0) hdb he hpl) fun _ _ _ h => fn_read h⟩

def fLen : List D → Option D
  | [.list ds] => some (.int ds.length)
  | [.tuple ds] => some (.int ds.length)
  | [.str z] => if z.length ≤ 100000 then some (.int z.length) else none
  | _ => none
theorem tp1 {K : PySem.W.Frag} {F H : Hp} {vs : List V} {d : D} (t : TpAll K F H vs [d]) : ∃ v, vs = [v] ∧ Tp K F H v d := by
  cases t with
  | cons t1 t2 =>
    cases t2
    exact ⟨_, rfl, t1⟩
theorem tp2 {K : PySem.W.Frag} {F H : Hp} {vs : List V} {d d' : D} (t : TpAll K F H vs [d, d']) : ∃ v v', vs = [v, v'] ∧ Tp K F H v d ∧ Tp K F H v' d' := by
  cases t with
  | cons t1 t2 =>
    cases t2 with
    | cons t2 t3 =>
      cases t3
      exact ⟨_, _, rfl, t1, t2⟩
theorem fd_len : FnD X (.builtin "len") fLen := ⟨fun pins s σ H xs us Q I r h => by
  obtain ⟨F, ds, d, e, ta, hg, q⟩ := h
  unfold fLen at hg
  split at hg
  · cases hg
    obtain ⟨v, rfl, t⟩ := tp1 ta
    obtain ⟨p, vs, rfl, hs, pa⟩ := t.list e
    exact call_len_seq pins s σ H _ us Q I r ⟨p, vs, rfl, .inl hs, by rw [dal_len pa]; exact q _ F H (Adv.refl e) (.int _)⟩
  · cases hg
    obtain ⟨v, rfl, t⟩ := tp1 ta
    obtain ⟨p, vs, rfl, hs, pa⟩ := t.tuple e
    exact call_len_seq pins s σ H _ us Q I r ⟨p, vs, rfl, .inr hs, by rw [dal_len pa]; exact q _ F H (Adv.refl e) (.int _)⟩
  · split at hg
    · cases hg
      rename_i hz
      obtain ⟨v, rfl, t⟩ := tp1 ta
      exact call_len_str pins s σ H _ us Q I r ⟨_, by rw [t.str], sz_of hz, q _ F H (Adv.refl e) (.int _)⟩
    · cases hg
  · cases hg⟩
def fAbs : List D → Option D
  | [.int i] => some (.int (if i < 0 then -i else i))
  | _ => none
theorem fd_abs : FnD X (.builtin "abs") fAbs := ⟨fun pins s σ H xs us Q I r h => by
  obtain ⟨F, ds, d, e, ta, hg, q⟩ := h
  unfold fAbs at hg
  split at hg
  · cases hg
    obtain ⟨v, rfl, t⟩ := tp1 ta
    exact call_abs pins s σ H _ us Q I r ⟨_, by rw [t.int], q _ F H (Adv.refl e) (.int _)⟩
  · cases hg⟩
def fInt : List D → Option D
  | [.int i] => some (.int i)
  | [.bool b] => some (.int (if b then 1 else 0))
  | _ => none
theorem fd_int : FnD X (.type "int") fInt := ⟨fun pins s σ H xs us Q I r h => by
  obtain ⟨F, ds, d, e, ta, hg, q⟩ := h
  unfold fInt at hg
  split at hg
  · cases hg
    obtain ⟨v, rfl, t⟩ := tp1 ta
    exact call_int1 pins s σ H _ us Q I r (.inl ⟨_, by rw [t.int], q _ F H (Adv.refl e) (.int _)⟩)
  · cases hg
    obtain ⟨v, rfl, t⟩ := tp1 ta
    exact call_int1 pins s σ H _ us Q I r (.inr ⟨_, by rw [t.bool], q _ F H (Adv.refl e) (.int _)⟩)
  · cases hg⟩
def fGcd : List D → Option D
  | [.int i, .int j] => some (.int ((Nat.gcd i.natAbs j.natAbs : Nat) : Int))
  | _ => none
theorem fd_gcd : FnD X (.builtin "math.gcd") fGcd := ⟨fun pins s σ H xs us Q I r h => by
  obtain ⟨F, ds, d, e, ta, hg, q⟩ := h
  unfold fGcd at hg
  split at hg
  · cases hg
    obtain ⟨v, v', rfl, t, t'⟩ := tp2 ta
    exact cr_gcd pins s σ H _ us Q I r ⟨_, _, by rw [t.int, t'.int], q _ F H (Adv.refl e) (.int _)⟩
  · cases hg⟩
def lcmOk (i j : Int) : Bool := decide (i.natAbs.log2 < 6000 ∧ j.natAbs.log2 < 6000)
theorem lcmOk_n {i j : Int} (ha : i.natAbs < 2 ^ 6000) (hb : j.natAbs < 2 ^ 6000) : lcmOk i j = true := decide_eq_true ⟨log2_lt' (by decide) ha, log2_lt' (by decide) hb⟩
def fLcm : List D → Option D
  | [.int i, .int j] => if lcmOk i j = true then some (.int ((Nat.lcm i.natAbs j.natAbs : Nat) : Int)) else none
  | _ => none
theorem fLcm_ok {i j : Int} (h : lcmOk i j = true) : fLcm [.int i, .int j] = some (.int ((Nat.lcm i.natAbs j.natAbs : Nat) : Int)) := if_pos h
theorem log2_le_self' {n m : Nat} (h : n ≤ m) : n.log2 ≤ m.log2 := by
  by_cases h0 : n = 0
  · subst h0; rw [Nat.log2_zero]; exact Nat.zero_le _
  · rw [Nat.le_log2 (by omega)]
    exact Nat.le_trans (Nat.log2_self_le h0) h
theorem log2_max (a b : Nat) : (max a b).log2 ≤ max a.log2 b.log2 := by
  rcases Nat.le_total a b with h | h
  · rw [Nat.max_eq_right h]; exact Nat.le_max_right _ _
  · rw [Nat.max_eq_left h]; exact Nat.le_max_left _ _
theorem lcm_log {a b n : Nat} (ha : a.log2 < n) (hb : b.log2 < n) : (Nat.lcm a b).log2 < 2 * n := by
  have h1 : a < 2 ^ n := (by
    by_cases h0 : a = 0
    · subst h0; exact Nat.two_pow_pos n
    · exact (Nat.log2_lt h0).mp ha)
  have h2 : b < 2 ^ n := (by
    by_cases h0 : b = 0
    · subst h0; exact Nat.two_pow_pos n
    · exact (Nat.log2_lt h0).mp hb)
  have h3 : Nat.lcm a b ≤ a * b := Nat.div_le_self _ _
  by_cases h0 : Nat.lcm a b = 0
  · rw [h0, Nat.log2_zero]; omega
  · refine (Nat.log2_lt h0).mpr (Nat.lt_of_le_of_lt h3 ?_)
    rw [Nat.two_mul, Nat.pow_add]
    exact Nat.mul_lt_mul'' h1 h2
theorem fd_lcm : FnD X (.builtin "math.lcm") fLcm := ⟨fun pins s σ H xs us Q I r h => by
  obtain ⟨F, ds, d, e, ta, hg, q⟩ := h
  unfold fLcm at hg
  split at hg
  · split at hg
    · cases hg
      rename_i i j hz
      replace hz := of_decide_eq_true hz
      obtain ⟨v, v', rfl, t, t'⟩ := tp2 ta
      rw [t.int, t'.int] at r
      obtain ⟨u1, u2, rfl, r1, r2⟩ := vals2 r
      obtain ⟨t1, rfl⟩ := r1
      obtain ⟨t2, rfl⟩ := r2
      have one : (Nat.lcm 1 i.natAbs).lcm j.natAbs = Nat.lcm i.natAbs j.natAbs := by rw [Nat.lcm_one_left]
      have b1 := log2_max 1 i.natAbs
      have b2 := log2_max i.natAbs j.natAbs
      have b3 : Nat.log2 1 = 0 := by decide
      have b4 := lcm_log hz.1 hz.2
      have b5 : (12000 : Nat) ≤ bitsLine := by decide
      have g := PySem.W.mg_run_lcm i t1 j t2 (by omega) (by omega) (by rw [one]; show (Nat.lcm i.natAbs j.natAbs).log2 < bitsLine; omega)
      rw [one] at g
      exact call_function_meets PySem.W.MGF.kind_lcm PySem.W.MGF.plain_lcm PySem.W.MGF.entry_lcm (PySem.W.MGF.args_lcm _ _) g.meets ⟨.int _, H, I.tok _, ⟨_, rfl⟩, q _ F H (Adv.refl e) (.int _)⟩
    · cases hg
  · cases hg⟩
/-- a list of ints -/
def intsD : List D → Option (List Int)
  | [] => some []
  | .int i :: ds => (intsD ds).map (i :: ·)
  | _ => none
theorem ints_of_tp {K : PySem.W.Frag} {F : Hp} : ∀ {vs : List V} {ds : List D} {ns : List Int}, DpAll K F vs ds → intsD ds = some ns → vs = ns.map V.int
  | _, _, _, .nil, h => by cases h; rfl
  | _, .int i :: ds, ns, .cons r t, h => by
    unfold intsD at h
    cases hi : intsD ds with
    | none => rw [hi] at h; cases h
    | some ms =>
      rw [hi] at h
      cases h
      cases r
      rw [ints_of_tp t hi]
      rfl
  | _, .none :: _, _, .cons _ _, h => by cases h
  | _, .bool _ :: _, _, .cons _ _, h => by cases h
  | _, .str _ :: _, _, .cons _ _, h => by cases h
  | _, .list _ :: _, _, .cons _ _, h => by cases h
  | _, .tuple _ :: _, _, .cons _ _, h => by cases h
  | _, .dict _ :: _, _, .cons _ _, h => by cases h
def fSum : List D → Option D
  | [.list ds] => (intsD ds).map fun ns => .int ns.sum
  | _ => none
theorem fd_sum (hc : X.calm = true) : FnD X (.builtin "sum") fSum := ⟨fun pins s σ H xs us Q I r h => by
  obtain ⟨F, ds, d, e, ta, hg, q⟩ := h
  unfold fSum at hg
  split at hg
  · rename_i ds
    cases hn : intsD ds with
    | none => rw [hn] at hg; cases hg
    | some ns =>
      rw [hn] at hg
      cases hg
      obtain ⟨v, rfl, t⟩ := tp1 ta
      obtain ⟨p, vs, rfl, hs, pa⟩ := t.list e
      rw [ints_of_tp pa hn] at hs
      exact cr_sum hc pins s σ H _ us Q I r ⟨p, ns, rfl, hs, q _ F H (Adv.refl e) (.int _)⟩
  · cases hg⟩
def boolsD : List D → Option (List Bool)
  | [] => some []
  | .bool i :: ds => (boolsD ds).map (i :: ·)
  | _ => none
theorem bools_of_tp {K : PySem.W.Frag} {F : Hp} : ∀ {vs : List V} {ds : List D} {ns : List Bool}, DpAll K F vs ds → boolsD ds = some ns → vs = ns.map V.bl
  | _, _, _, .nil, h => by cases h; rfl
  | _, .bool i :: ds, ns, .cons r t, h => by
    unfold boolsD at h
    cases hi : boolsD ds with
    | none => rw [hi] at h; cases h
    | some ms =>
      rw [hi] at h
      cases h
      cases r
      rw [bools_of_tp t hi]
      rfl
  | _, .none :: _, _, .cons _ _, h => by cases h
  | _, .int _ :: _, _, .cons _ _, h => by cases h
  | _, .str _ :: _, _, .cons _ _, h => by cases h
  | _, .list _ :: _, _, .cons _ _, h => by cases h
  | _, .tuple _ :: _, _, .cons _ _, h => by cases h
  | _, .dict _ :: _, _, .cons _ _, h => by cases h
def fAll : List D → Option D
  | [.list ds] => (boolsD ds).map fun bs => .bool (bs.all (fun b => b))
  | _ => none
def fAny : List D → Option D
  | [.list ds] => (boolsD ds).map fun bs => .bool (bs.any (fun b => b))
  | _ => none
theorem fd_all (hc : X.calm = true) : FnD X (.builtin "all") fAll := ⟨fun pins s σ H xs us Q I r h => by
  obtain ⟨F, ds, d, e, ta, hg, q⟩ := h
  unfold fAll at hg
  split at hg
  · rename_i ds
    cases hn : boolsD ds with
    | none => rw [hn] at hg; cases hg
    | some ns =>
      rw [hn] at hg
      cases hg
      obtain ⟨v, rfl, t⟩ := tp1 ta
      obtain ⟨p, vs, rfl, hs, pa⟩ := t.list e
      rw [bools_of_tp pa hn] at hs
      exact cr_all hc pins s σ H _ us Q I r ⟨p, ns, rfl, hs, q _ F H (Adv.refl e) (.bl _)⟩
  · cases hg⟩
theorem fd_any (hc : X.calm = true) : FnD X (.builtin "any") fAny := ⟨fun pins s σ H xs us Q I r h => by
  obtain ⟨F, ds, d, e, ta, hg, q⟩ := h
  unfold fAny at hg
  split at hg
  · rename_i ds
    cases hn : boolsD ds with
    | none => rw [hn] at hg; cases hg
    | some ns =>
      rw [hn] at hg
      cases hg
      obtain ⟨v, rfl, t⟩ := tp1 ta
      obtain ⟨p, vs, rfl, hs, pa⟩ := t.list e
      rw [bools_of_tp pa hn] at hs
      exact cr_any hc pins s σ H _ us Q I r ⟨p, ns, rfl, hs, q _ F H (Adv.refl e) (.bl _)⟩
  · cases hg⟩
def fList : List D → Option D
  | [d] => (seqOf d).map .list
  | _ => none
def fTuple : List D → Option D
  | [d] => (seqOf d).map .tuple
  | _ => none
theorem fd_list : FnD X (.type "list") fList := ⟨fun pins s σ H xs us Q I r h => by
  obtain ⟨F, ds, d, e, ta, hg, q⟩ := h
  unfold fList at hg
  split at hg
  · rename_i d1
    cases hn : seqOf d1 with
    | none => rw [hn] at hg; cases hg
    | some es =>
      rw [hn] at hg
      cases hg
      obtain ⟨v, rfl, t⟩ := tp1 ta
      rcases seqOf_some hn with rfl | rfl
      · obtain ⟨p, vs, rfl, hs, pa⟩ := t.list e
        exact call_list_of pins s σ H _ us Q I r ⟨p, vs, rfl, .inl hs, fun l hl => q _ _ _ (Adv.laid e hl) (.lst (SqL.of upd_same) (dpa_ex (Ex.new (e.none hl)) _ _ pa))⟩
      · obtain ⟨p, vs, rfl, hs, pa⟩ := t.tuple e
        exact call_list_of pins s σ H _ us Q I r ⟨p, vs, rfl, .inr hs, fun l hl => q _ _ _ (Adv.laid e hl) (.lst (SqL.of upd_same) (dpa_ex (Ex.new (e.none hl)) _ _ pa))⟩
  · cases hg⟩
theorem fd_tuple : FnD X (.type "tuple") fTuple := ⟨fun pins s σ H xs us Q I r h => by
  obtain ⟨F, ds, d, e, ta, hg, q⟩ := h
  unfold fTuple at hg
  split at hg
  · rename_i d1
    cases hn : seqOf d1 with
    | none => rw [hn] at hg; cases hg
    | some es =>
      rw [hn] at hg
      cases hg
      obtain ⟨v, rfl, t⟩ := tp1 ta
      rcases seqOf_some hn with rfl | rfl
      · obtain ⟨p, vs, rfl, hs, pa⟩ := t.list e
        exact call_tuple_of pins s σ H _ us Q I r ⟨p, vs, rfl, .inl ⟨hs, fun l hl => q _ _ _ (Adv.laid e hl) (.tup (SqT.of upd_same) (dpa_ex (Ex.new (e.none hl)) _ _ pa))⟩⟩
      · rcases t with t | ⟨_, _, _, _, z, _⟩
        · cases t with
          | tup hs pa => exact call_tuple_of pins s σ H _ us Q I r ⟨_, _, rfl, .inr ⟨sqt_ex e hs, q _ F H (Adv.refl e) (.tup hs pa)⟩⟩
        · cases z
  · cases hg⟩
def maxZ : List Int → Option Int
  | [] => none
  | i :: is => match maxZ is with
    | none => some i
    | some j => some (if j > i then j else i)
theorem maxZ_le : ∀ {ns : List Int} {m : Int}, maxZ ns = some m → m ∈ ns ∧ ∀ y ∈ ns, y ≤ m
  | i :: is, m, h => by
    unfold maxZ at h
    cases hj : maxZ is with
    | none =>
      rw [hj] at h
      cases h
      cases is with
      | nil => exact ⟨List.mem_cons_self, fun y hy => by rw [List.mem_singleton.mp hy]; omega⟩
      | cons k ks =>
        unfold maxZ at hj
        split at hj <;> cases hj
    | some j =>
      rw [hj] at h
      cases h
      obtain ⟨h1, h2⟩ := maxZ_le hj
      by_cases c : j > i
      · rw [if_pos c]
        exact ⟨List.mem_cons_of_mem _ h1, fun y hy => by rcases List.mem_cons.mp hy with rfl | hy; omega; exact h2 y hy⟩
      · rw [if_neg c]
        exact ⟨List.mem_cons_self, fun y hy => by rcases List.mem_cons.mp hy with rfl | hy; omega; have := h2 y hy; omega⟩
def fMax : List D → Option D
  | [.int i, .int j] => some (.int (if j > i then j else i))
  | [.list ds] => (intsD ds).bind fun ns => (maxZ ns).map .int
  | _ => none
def fMin : List D → Option D
  | [.int i, .int j] => some (.int (if j < i then j else i))
  | _ => none
theorem fd_max (hc : X.calm = true) : FnD X (.builtin "max") fMax := ⟨fun pins s σ H xs us Q I r h => by
  obtain ⟨F, ds, d, e, ta, hg, q⟩ := h
  unfold fMax at hg
  split at hg
  · cases hg
    obtain ⟨v, v', rfl, t, t'⟩ := tp2 ta
    exact call_max2 hc pins s σ H _ us Q I r ⟨_, _, by rw [t.int, t'.int], q _ F H (Adv.refl e) (.int _)⟩
  · rename_i ds
    cases hn : intsD ds with
    | none => rw [hn] at hg; cases hg
    | some ns =>
      rw [hn] at hg
      simp only [Option.bind_some] at hg
      cases hm : maxZ ns with
      | none => rw [hm] at hg; cases hg
      | some z =>
        rw [hm] at hg
        cases hg
        obtain ⟨m1, m2⟩ := maxZ_le hm
        obtain ⟨v, rfl, t⟩ := tp1 ta
        obtain ⟨p, vs, rfl, hs, pa⟩ := t.list e
        rw [ints_of_tp pa hn] at hs
        refine cr_max hc pins s σ H _ us Q I r ⟨p, ns, rfl, hs, List.length_pos_of_mem m1, fun m hm1 hm2 => ?_⟩
        have : m = z := by have := m2 m hm1; have := hm2 z m1; omega
        subst this
        exact q _ F H (Adv.refl e) (.int _)
  · cases hg⟩
theorem fd_min (hc : X.calm = true) : FnD X (.builtin "min") fMin := ⟨fun pins s σ H xs us Q I r h => by
  obtain ⟨F, ds, d, e, ta, hg, q⟩ := h
  unfold fMin at hg
  split at hg
  · cases hg
    obtain ⟨v, v', rfl, t, t'⟩ := tp2 ta
    exact call_min2 hc pins s σ H _ us Q I r ⟨_, _, by rw [t.int, t'.int], q _ F H (Adv.refl e) (.int _)⟩
  · cases hg⟩
/-! repr: how long it may be is told by a plain count -/
mutual
def costD : D → Nat
  | .none => 4
  | .bool _ => 5
  | .int _ => 600
  | .str x => 10 * x.length + 2
  | .list xs => costAll xs + 4
  | .tuple xs => costAll xs + 4
  | .dict _ => 0
def costAll : List D → Nat
  | [] => 0
  | x :: xs => costD x + 2 + costAll xs
end
end
end MV

set_option maxRecDepth 100000
set_option maxHeartbeats 4000000
namespace MV
open PySem PySem.Spec PyProof.Rows L2

/-! ### repr -/
def reprOk (d : D) : Bool := decide (d.showable = true ∧ d.hasDict = false ∧ d.leavesShort 2000 = true ∧ d.bulk ≤ 2000 ∧ d.depth ≤ 60)
def fRepr : List D → Option D
  | [d] => if reprOk d = true then some (.str d.shown) else none
  | _ => none
/-- data that is shown and compared: what is asked of every part -/
def okD (d : D) : Prop := d.showable = true ∧ d.hasDict = false ∧ d.leavesShort 2000 = true ∧ d.canLay0 = true
theorem okD_int {i : Int} (h : i.natAbs < 2 ^ 1900) : okD (.int i) := by
  have l := log2_lt' (by decide) h
  refine ⟨decide_eq_true (by omega), rfl, decide_eq_true ?_, rfl⟩
  have hs := int_text_length_le (a := i) (k := 1900) (by decide) l
  show (Str.ofString (toString i)).length ≤ 2000
  rw [PySem.ofString_length]
  omega
theorem okD_bool (b : Bool) : okD (.bool b) := ⟨rfl, rfl, rfl, rfl⟩
theorem okD_none : okD .none := ⟨rfl, rfl, rfl, rfl⟩
theorem okAll : ∀ {ds : List D}, (∀ d ∈ ds, okD d) → PyData.showableAll ds = true ∧ PyData.hasDictAll ds = false ∧ PyData.leavesShortAll 2000 ds = true ∧ PyData.canLayAll0 ds = true
  | [], _ => ⟨rfl, rfl, rfl, rfl⟩
  | d :: ds, h => by
    obtain ⟨a1, a2, a3, a4⟩ := h d List.mem_cons_self
    obtain ⟨b1, b2, b3, b4⟩ := okAll fun x hx => h x (List.mem_cons_of_mem _ hx)
    simp only [PyData.showableAll, PyData.hasDictAll, PyData.leavesShortAll, PyData.canLayAll0, a1, a2, a3, a4, b1, b2, b3, b4, Bool.and_self, Bool.or_self, and_self]
theorem okD_tup {ds : List D} (h : ∀ d ∈ ds, okD d) : okD (.tuple ds) := by
  obtain ⟨b1, b2, b3, b4⟩ := okAll h
  simp only [okD, PyData.showable, PyData.hasDict, PyData.leavesShort, PyData.canLay0, b1, b2, b3, b4, and_self]
theorem okD_lst {ds : List D} (h : ∀ d ∈ ds, okD d) : okD (.list ds) := by
  obtain ⟨b1, b2, b3, b4⟩ := okAll h
  simp only [okD, PyData.showable, PyData.hasDict, PyData.leavesShort, PyData.canLay0, b1, b2, b3, b4, and_self]
theorem bulk_le {n : Nat} : ∀ {ds : List D}, (∀ d ∈ ds, d.bulk ≤ n) → PyData.bulkAll ds ≤ ds.length * (n + 1)
  | [], _ => Nat.zero_le _
  | d :: ds, h => by
    have h1 := h d List.mem_cons_self
    have h2 := bulk_le fun x hx => h x (List.mem_cons_of_mem _ hx)
    rw [PyData.bulkAll, List.length_cons, Nat.succ_mul]
    omega
theorem depth_le {n : Nat} : ∀ {ds : List D}, (∀ d ∈ ds, d.depth ≤ n) → PyData.depthAll ds ≤ n
  | [], _ => Nat.zero_le _
  | d :: ds, h => by
    have h1 := h d List.mem_cons_self
    have h2 := depth_le fun x hx => h x (List.mem_cons_of_mem _ hx)
    rw [PyData.depthAll]
    omega
theorem reprOk_of {d : D} (h : okD d) (hb : d.bulk ≤ 2000) (hd : d.depth ≤ 60) : reprOk d = true := decide_eq_true ⟨h.1, h.2.1, h.2.2.1, hb, hd⟩
theorem shaped_of {d : D} (h : okD d) (hd : d.depth ≤ 60) : SeqAt.shaped d = true := by
  unfold SeqAt.shaped
  rw [h.2.2.2, decide_eq_true (show d.depth ≤ 64 by omega)]
  rfl
theorem eqOk_of {d e : D} (h : okD d) (h2 : okD e) (hd : d.depth ≤ 60) (hd2 : e.depth ≤ 60) : eqOk d e = true := by
  have s1 := shaped_of h hd
  have s2 := shaped_of h2 hd2
  unfold eqOk
  split
  · rfl
  · rw [s1, s2]
    rfl
theorem eqv_self {d : D} (h : okD d) : PyData.eqv d d = true := SeqAt.eqv_refl d h.2.2.2
theorem eqv_str (x y : Str) : PyData.eqv (.str x) (.str y) = (x == y) := by rw [PyData.eqv]
theorem eqv_int (x y : Int) : PyData.eqv (.int x) (.int y) = (x == y) := by rw [PyData.eqv]
theorem eqv_bool (x y : Bool) : PyData.eqv (.bool x) (.bool y) = (x == y) := by rw [PyData.eqv]
theorem str_self (x : Str) : (x == x) = true := by simp
theorem eqOk_str (x y : Str) : eqOk (.str x) (.str y) = true := by
  cases h : eqOk (.str x) (.str y) with
  | true => rfl
  | false => cases h
theorem eqOk_int (x y : Int) : eqOk (.int x) (.int y) = true := by
  cases h : eqOk (.int x) (.int y) with
  | true => rfl
  | false => cases h
theorem eqOk_bool (x y : Bool) : eqOk (.bool x) (.bool y) = true := by
  cases h : eqOk (.bool x) (.bool y) with
  | true => rfl
  | false => cases h
theorem fRepr_ok {d : D} (h : reprOk d = true) : fRepr [d] = some (.str d.shown) := if_pos h
theorem shown_fits {d : D} (h1 : d.leavesShort 2000 = true) (h2 : d.bulk ≤ 2000) : d.shown.length ≤ sizeLine := by
  have h := PyData.shown_le_bulk 2000 (by decide) d h1
  have h3 : (2000 + 2) * d.bulk ≤ 2002 * 2000 := Nat.mul_le_mul_left _ h2
  have h4 : (5000000 : Nat) ≤ sizeLine := by decide
  omega
theorem fd_repr {X : Cx} (hG : X.A.guards = some []) (hu : X.A.units + 64 < cLine) : FnD X (.builtin "repr") fRepr := ⟨fun pins s σ H xs us Q I r h => by
  obtain ⟨F, ds, d, e, ta, hg, q⟩ := h
  unfold fRepr at hg
  split at hg
  · split at hg
    · cases hg
      rename_i d hc
      obtain ⟨c1, c2, c3, c4, c5⟩ := of_decide_eq_true hc
      obtain ⟨v, rfl, t⟩ := tp1 ta
      obtain ⟨u, rfl, ru⟩ := vals1 r
      have fits := shown_fits c3 c4
      have pd := t.dp e
      obtain ⟨as, rd⟩ := L2.Dp.reads I d v u (Dp.toL _ _ pd (plain_nd d c2)) ru
      cases rd with
      | none => exact PySem.P.repr_of_none ⟨.str _, H, I.tok _, ⟨_, rfl⟩, q _ F H (Adv.refl e) (.str _)⟩
      | bool b => exact PySem.P.repr_of_bool ⟨.str _, H, I.tok _, ⟨_, rfl⟩, q _ F H (Adv.refl e) (.str _)⟩
      | int i tk => exact PySem.P.repr_of_int (by simpa [PyData.showable] using c1) ⟨.str _, H, I.tok _, ⟨_, rfl⟩, q _ F H (Adv.refl e) (.str _)⟩
      | str z tk => exact PySem.P.repr_of_str ⟨.str _, H, I.tok _, ⟨_, rfl⟩, q _ F H (Adv.refl e) (.str _)⟩ fits
      | list h1 h2 h3 h4 =>
        exact repr_of_reads' (.list h1 h2 h3 h4) c1 (PyData.noDict_hsm c2) hG (by omega) (fun _ _ z => z) (fun h' u' tk hk => ⟨.str _, H, I.kept hk, ⟨_, rfl⟩, q _ F H (Adv.refl e) (.str _)⟩) fits
      | tuple h1 h2 h3 h4 =>
        exact repr_of_reads' (.tuple h1 h2 h3 h4) c1 (PyData.noDict_hsm c2) hG (by omega) (fun _ _ z => z) (fun h' u' tk hk => ⟨.str _, H, I.kept hk, ⟨_, rfl⟩, q _ F H (Adv.refl e) (.str _)⟩) fits
      | dict h1 h2 h3 h4 h5 => cases c2
    · cases hg
  · cases hg⟩

/-! ### isinstance against a built-in class -/
def tyName : D → String
  | .none => "NoneType"
  | .bool _ => "bool"
  | .int _ => "int"
  | .str _ => "str"
  | .list _ => "list"
  | .tuple _ => "tuple"
  | .dict _ => "dict"
def isOb : D → Bool
  | .dict _ => true
  | _ => false
theorem tyx_of {K : PySem.W.Frag} {H : Hp} {v : V} {d : D} (p : Dp K H v d) (hd : isOb d = false) : TyX K H v (.type (tyName d)) := by
  cases p with
  | obj h1 h2 h3 => cases hd
  | dic _ _ => cases hd
  | non => exact .base .non
  | bl b => exact .base (.bl b)
  | int i => exact .base (.int i)
  | str x => exact .base (.str x)
  | lst hs ha =>
    rcases hs with (h | ⟨o, h⟩) | ⟨o, its, n, hk, hc, _⟩
    · exact .base (.lst h)
    · exact .base (.frz h)
    · exact .kList hk hc
  | tup hs ha =>
    rcases hs with (h | ⟨o, h⟩) | ⟨o, its, n, hk, hc, _⟩
    · exact .base (.tup h)
    · exact .fTuple h
    · exact .kTuple hk hc
def isD (T : String) (d : D) : Option D := if isOb d = false then (kitB (tyName d) T).map .bool else none
section
variable {X : Cx} {x : Str} {T : String} {p pT pos : Pos} {e : Expr} {m : Rho → Option D} {xT : Str}
theorem me_isi (hm : X.mg x = none) (hmT : X.mg xT = none) (h : MT X e m) (hv : bootBuiltins x = some (.builtin "isinstance") := by decide +kernel) (hvT : bootBuiltins xT = some (.type T) := by decide +kernel) (hg : Gl X x := by rfl) (hgT : Gl X xT := by rfl)
    (hn : x ≠ "__name__" := by decide) (hdb : (x == ("__debug__" : Str)) = false := by decide) (hnT : xT ≠ "__name__" := by decide) (hdbT : (xT == ("__debug__" : Str)) = false := by decide)
    (s1 : starEach (e :: [.Name xT pT]) X.env = (false, eval e X.env) :: starEach [.Name xT pT] X.env := by rfl) (s2 : starEach (.Name xT pT :: []) X.env = (false, eval (.Name xT pT) X.env) :: starEach [] X.env := by rfl)
    (hpl : (backTo pos (starEach [.Name xT pT] X.env)).any (·.1) = false := by rfl) : ME X (.Call (.Name x p) [e, .Name xT pT] [] pos) (m1 (isD T) m) :=
  ⟨fun F0 H0 => pe_weak (pe_callB call_isi hg hm hv (pa_cons (h.ok F0 H0) (pa_cons (pe_bltn (v := .ty T) hgT hmT hvT rfl hnT hdbT) pa_nil s2) s1) hn hdb s1 hpl) fun σ H Q ⟨ρ, F, d, e1, e2, q⟩ => by
    unfold m1 at e2
    cases hx : m ρ with
    | none => rw [hx] at e2; cases e2
    | some d1 =>
      rw [hx] at e2
      replace e2 : isD T d1 = some d := e2
      refine ⟨ρ, F, d1, e1, hx, fun v F1 H1 a1 t => ?_⟩
      unfold isD at e2
      split at e2
      · rename_i hd
        cases hk : kitB (tyName d1) T with
        | none => rw [hk] at e2; cases e2
        | some b =>
          rw [hk] at e2
          cases e2
          exact ⟨v, .ty T, _, _, b, rfl, .ty T, tyx_of (t.dp a1.fh) hd, kit_ty hk, q _ F1 H1 a1 (.bl b)⟩
      · cases e2⟩
/-- a module's constant -/
theorem me_glob {u : Value} {v : V} {d : D} (hm : X.mg x = some u) (r : RelV v u) (hd : ∀ F : Hp, Dp X.K F v d) (hg : Gl X x := by rfl) (hdb : (x == ("__debug__" : Str)) = false := by decide) : ME X (.Name x pos) (mC d) :=
  me_const (pe_glob hg hm r hdb) hd
/-! ### slices -/
def cutD (ds : List D) (lo hi : Option Int) : List D := (ds.drop (HT.sIx ds.length 0 lo)).take (HT.sIx ds.length ds.length hi - HT.sIx ds.length 0 lo)
theorem dpa_cut {K : PySem.W.Frag} {F : Hp} {vs : List V} {ds : List D} (a : DpAll K F vs ds) (lo hi : Option Int) : DpAll K F (cutV vs lo hi) (cutD ds lo hi) := by
  unfold cutV cutD
  rw [dal_len a]
  exact dal_take _ (dal_drop _ a)
def dCut (lo hi : Option Int) : D → Option D
  | .list ds => some (.list (cutD ds lo hi))
  | .tuple ds => some (.tuple (cutD ds lo hi))
  | _ => none
def partD : Option D → Option (Option Int)
  | none => some none
  | some (.int i) => some (some i)
  | _ => none
structure MP (X : Cx) (e : Option Expr) (m : Rho → Option (Option Int)) : Prop where
  ok : ∀ F0 H0, PO X e (fun σ H Q => ∃ ρ F o, EnvOk X.K F0 H0 F H σ ρ ∧ m ρ = some o ∧ ∀ F' H', Adv F H F' H' → Q o H')
def mNoPart : Rho → Option (Option Int) := fun _ => some none
def mPart (m : Rho → Option D) : Rho → Option (Option Int) := fun ρ => (m ρ).bind fun d => partD (some d)
theorem po_weak {e : Option Expr} {t t' : TO} (h : PO X e t) (w : ∀ σ H Q, t' σ H Q → t σ H Q) : PO X e t' := ⟨fun pins s σ H Q I q => h.run pins s σ H Q I (w σ H Q q)⟩
theorem mp_none : MP X none mNoPart := ⟨fun F0 H0 => po_weak po_none fun σ H Q ⟨ρ, F, o, e1, e2, q⟩ => by
  cases e2
  exact q F H (Adv.refl e1.fh)⟩
theorem mp_some (h : MT X e m) : MP X (some e) (mPart m) := ⟨fun F0 H0 => po_weak (po_some (h.ok F0 H0)) fun σ H Q ⟨ρ, F, o, e1, e2, q⟩ => by
  unfold mPart at e2
  cases hx : m ρ with
  | none => rw [hx] at e2; cases e2
  | some d =>
    rw [hx] at e2
    replace e2 : partD (some d) = some o := e2
    refine ⟨ρ, F, d, e1, hx, fun v F1 H1 a1 t => ?_⟩
    unfold partD at e2
    split at e2
    · rename_i z
      cases z
    · rename_i i z
      cases z
      cases e2
      exact ⟨i, t.int, q F1 H1 a1⟩
    · cases e2⟩
def mCut (m : Rho → Option D) (ml mh : Rho → Option (Option Int)) : Rho → Option D := fun ρ => (m ρ).bind fun d => (ml ρ).bind fun lo => (mh ρ).bind fun hi => dCut lo hi d
theorem me_cut {lo hi : Option Expr} {ml mh : Rho → Option (Option Int)} {p2 : Pos} (h : MT X e m) (hl : MP X lo ml) (hh : MP X hi mh) : ME X (.Subscript e (.Slice lo hi none p2) pos) (mCut m ml mh) :=
  ⟨fun F0 H0 => pe_weak (pe_slice (sl_list.or sl_tupA) (h.ok F0 H0) (hl.ok F0 H0) (hh.ok F0 H0)) fun σ H Q ⟨ρ, F, d, e1, e2, q⟩ => by
    unfold mCut at e2
    cases hx : m ρ with
    | none => rw [hx] at e2; cases e2
    | some d1 =>
      rw [hx] at e2
      cases hy : ml ρ with
      | none => simp [hy] at e2
      | some lo1 =>
        cases hz : mh ρ with
        | none => simp [hy, hz] at e2
        | some hi1 =>
          replace e2 : dCut lo1 hi1 d1 = some d := by simpa [hy, hz] using e2
          refine ⟨ρ, F, d1, e1, hx, fun v F1 H1 a1 t1 => ⟨ρ, F1, lo1, e1.go a1, hy, fun F2 H2 a2 => ⟨ρ, F2, hi1, (e1.go a1).go a2, hz, fun F3 H3 a3 => ?_⟩⟩⟩
          have a13 := (a1.trans a2).trans a3
          have t := t1.go (a2.trans a3)
          unfold dCut at e2
          split at e2
          · cases e2
            obtain ⟨p, vs, rfl, hs, pa⟩ := t.list a3.fh
            exact .inl ⟨p, vs, rfl, hs, fun l hl => q _ _ _ (a13.trans (Adv.laid a3.fh hl)) (.lst (SqL.of upd_same) (dpa_ex (Ex.new (a3.fh.none hl)) _ _ (dpa_cut pa lo1 hi1)))⟩
          · cases e2
            rcases t with t | ⟨_, _, _, _, z, _⟩
            · cases t with
              | tup hs pa =>
                refine .inr ⟨_, _, rfl, sqt_ex a3.fh hs, fun hw => ?_, fun hw l hl => q _ _ _ (a13.trans (Adv.laid a3.fh hl)) (.tup (SqT.of upd_same) (dpa_ex (Ex.new (a3.fh.none hl)) _ _ (dpa_cut pa lo1 hi1)))⟩
                have l := dal_len pa
                rename_i ds a vs
                have whole : cutD ds lo1 hi1 = ds := by
                  unfold cutD
                  rw [← l, hw.1, hw.2, List.drop_zero, Nat.sub_zero, l, List.take_length]
                rw [whole] at q
                exact q _ F3 H3 a13 (.tup hs pa)
            · cases z
          · cases e2⟩
end

/-! ### the law's call -/
theorem ints_dp {K : PySem.W.Frag} {F : Hp} : ∀ ns : List Int, DpAll K F (ns.map V.int) (ns.map PyData.int)
  | [] => .nil
  | n :: ns => .cons (.int n) (ints_dp ns)
def OnlyScript (H : Hp) : Prop := ∀ b, H b = none ∨ ∃ o xs, H b = some (.frz o (.lst xs))
theorem top_call {P : Program} {w : World} {K : PySem.W.Frag} {mg mb : Str → Option Value} {k : Nat} {fa a : Addr} {fd : FuncData} {x : Str} {m : List D → Option D} {s₁ : Shared} {vs : List Value} {ns : List Int}
    (KX : K.In s₁.heap) (hns : s₁.heap.Ns mainGlobals mg) (hb : s₁.heap.Ns builtinsNs mb) (hbb : ∀ x : Str, x ≠ "__name__" → mb x = bootBuiltins x) (hlim : s₁.heap.NoLimit) (hgn : s₁.gens = #[])
    (ha : s₁.heap.get? a = some { cls := .type "list", data := .seq vs.toArray }) (hi : IntsAre vs ns) (hl : ns.length ≤ sizeLine) (hr : Room k callerA)
    (F : ∀ base : Heap, K.In base → base.Ns mainGlobals mg → FnG P w K mg base k fa fd [x] m) (hbind : ∀ (s : Shared) (u : Value), BindsTo s fd ⟨[u], []⟩ [(x, u)]) (hm : m [.list (ns.map PyData.int)] = some (.bool true)) :
    codeAny (model P w) callerA (.call (.ref fa) ⟨[.ref a], []⟩) (fun r s' => r = .ok (.ret (.bool true)) ∧ OldK s₁.heap s'.heap ∧ s'.os = s₁.os ∧ AllBare s'.gens) s₁ := by
  have rv := vals_ints hi
  have lenV := hi.length
  -- H tracks the script alone, or nothing where the script is one of the written part's own objects
  suffices core : ∀ H : Hp, OnlyScript H → SqL K H a (ns.map V.int) → HOk P w H s₁.heap → (∀ b, H b ≠ none → b = a ∧ K.lookup a = none) → codeAny (model P w) callerA (.call (.ref fa) ⟨[.ref a], []⟩) (fun r s' => r = .ok (.ret (.bool true)) ∧ OldK s₁.heap s'.heap ∧ s'.os = s₁.os ∧ AllBare s'.gens) s₁ by
    cases hk : K.lookup a with
    | some o =>
      have same := (KX a o hk).symm.trans ha
      cases same
      exact core (fun _ => none) (fun _ => .inl rfl) (.inr ⟨_, vs.toArray, _, hk, rfl, rfl, rfl, by simpa [lenV] using hl, by simpa using rv⟩) (fun b u z => nomatch z) (fun b z => absurd rfl z)
    | none =>
      let ob : Obj := { cls := .type "list", data := .seq vs.toArray }
      have at_a : ∀ b u, (if b = a then some (HO.frz ob (.lst (ns.map V.int))) else none) = some u → b = a ∧ u = .frz ob (.lst (ns.map V.int)) := fun b u z => by
        by_cases hba : b = a
        · rw [if_pos hba] at z
          exact ⟨hba, (Option.some.inj z).symm⟩
        · rw [if_neg hba] at z
          cases z
      refine core (fun b => if b = a then some (.frz ob (.lst (ns.map V.int))) else none) (fun b => ?_) (.inl (.inr ⟨ob, if_pos rfl⟩)) (fun b u z => ?_) (fun b z => ?_)
      · by_cases hba : b = a
        · exact .inr ⟨_, _, if_pos hba⟩
        · exact .inl (if_neg hba)
      · obtain ⟨rfl, rfl⟩ := at_a b u z
        exact ⟨ha, by rw [List.length_map]; exact hl, vs, _, rv, ha⟩
      · by_cases hba : b = a
        · exact ⟨hba, hk⟩
        · exact absurd (if_neg hba) z
  intro H hO hS hok hA
  -- what is kept when the script is put aside
  have dict_free : ∀ {b : Addr} {o : Obj} {es : Array DictEntry} {ep : Nat}, s₁.heap.get? b = some o → o.data = .dict es ep → H b = none := fun {b o es ep} e d => by
    cases q : H b with
    | none => rfl
    | some u =>
      have hba := (hA b (by rw [q]; exact fun z => nomatch z)).1
      rw [hba, ha] at e
      cases e
      cases d
  have ns_kept : ∀ {b : Addr} {g : Str → Option Value}, s₁.heap.Ns b g → (hidT s₁.heap H).Ns b g := fun {b g} ⟨o, es, ep, e, d, z⟩ => ⟨o, es, ep, hidT_get e (dict_free e d), d, z⟩
  have KB : K.In (hidT s₁.heap H) := fun b o e => hidT_get (KX b o e) (by
    cases q : H b with
    | none => rfl
    | some u =>
      obtain ⟨hba, hk⟩ := hA b (by rw [q]; exact fun z => nomatch z)
      rw [hba, hk] at e
      cases e)
  have M : Mod K mg (hidT s₁.heap H) := by
    obtain ⟨mc, l1, l2⟩ := hlim
    exact ⟨KB, ns_kept hns, ⟨mb, ns_kept hb, hbb⟩, mc, ns_kept l1, l2⟩
  have e0 : Env0 P w K mg (hidT s₁.heap H) callerA [] s₁ H :=
    { frames := rfl, mod := M, bs := fun b o e => of_hidT e, bsz := Nat.le_of_eq (hidT_size _ _), funs := trivial, frf := fun b z => absurd z List.not_mem_nil, hok := hok, bare := .of_eq hgn }
  have ask : spM K m [.ref a] H (fun v _ => v = .bl true) := ⟨H, [.list (ns.map PyData.int)], .bool true, Ex.refl H, .cons (.lst hS (ints_dp ns)) .nil, hm, fun v F' H' _ pd => by cases pd; rfl⟩
  refine codeAny_mono ((F _ KB (ns_kept hns)).run callerA [] s₁ H ⟨[.ref a], []⟩ [.ref a] [.ref a] _ rfl hr e0 (hbind s₁ (.ref a)) (.cons rfl .nil) ask) fun res s' h => ?_
  match res, h with
  | .error e, h => exact False.elim h
  | .ok .next, h => exact False.elim h
  | .ok .brk, h => exact False.elim h
  | .ok .cont, h => exact False.elim h
  | .ok (.ret u), ⟨v, H', os, bare, un, hok', ru, q⟩ =>
    replace q : v = .bl true := q
    subst q
    replace ru : u = Value.bool true := ru
    subst ru
    refine ⟨rfl, OldK.of_keep fun b o e => ?_, os, bare⟩
    rcases hO b with z | ⟨ob, xs, z⟩
    · exact un.keep b o e z (fun y => absurd y List.not_mem_nil) (fun y => absurd y List.not_mem_nil)
    · have now := (hok' b _ (un.frzs b ob _ z)).1
      have was := (hok b _ z).1
      rw [e] at was
      cases was
      exact now
/-- the goal that the head leaves -/
theorem law_of {l : PySem.W.OpenLaw} {n k : Nat} {q : Program} {loose : List Str} {XP : (Str → Option Value) → Heap → Prop} {YP : World → Heap → Prop} {d : DefRec} {K : Params → PySem.W.Frag} {m : List D → Option D} {x : Str}
    (hn : l.most = some n) (hn2 : n ≤ sizeLine) (hdf : d.params.defaults = []) (hr : Room k callerA) (hY : ∀ (w : World) (h : Heap), YP w h → (K w.params).In h)
    (F : ∀ (w : World) (mg : Str → Option Value) (fa : Addr) (h : Heap), (K w.params).In h → h.Ns mainGlobals mg → mg d.name = some (.ref fa) → ∃ fd : FuncData, (∀ (s : Shared) (u : Value), BindsTo s fd ⟨[u], []⟩ [(x, u)]) ∧
      ∀ base : Heap, (K w.params).In base → base.Ns mainGlobals mg → FnG l.prog w (K w.params) mg base k fa fd [x] m)
    (hm : ∀ ns : List Int, ns.length ≤ n → m [.list (ns.map PyData.int)] = some (.bool true)) : PySem.W.WalkO q loose XP YP l.row.toRowW d [] (fun f vs => PySem.call f vs) := by
  refine Att.attach_call hn hdf fun w s₀ s₁ mg mb fa o pm cd doc a vs ns G Y ho hd hcd hmg hobj hints hlen hg => ?_
  obtain ⟨fd, hb, hF⟩ := F w mg fa _ (hY w _ Y) G.T.g hmg
  exact top_call (hY w _ Y) G.T.g G.T.b G.T.builtins G.T.nolimit hg hobj hints (Nat.le_trans hlen hn2) hr hF hb (hm ns hlen)
end MV

set_option maxRecDepth 100000
set_option maxHeartbeats 4000000
/-! zip and enumerate over lists and tuples, mixed as they come -/
namespace MV
open PySem PySem.Spec PyProof.Rows L2

def SqB (K : PySem.W.Frag) (b : Bool) (H : Hp) (a : Addr) (xs : List V) : Prop := if b = true then SqT K H a xs else SqL K H a xs
def IterB (b : Bool) (h : Heap) (it l : Addr) (i : Nat) : Prop := if b = true then h.IsTupleIter it l i else h.IsListIter it l i
def IsB (b : Bool) (h : Heap) (l : Addr) (items : Array Value) : Prop := if b = true then h.IsTuple l items else h.IsList l items
def iterObj (b : Bool) (l : Addr) : Obj := if b = true then { cls := .type "tuple_iterator", data := .fields #[.ref l, .int 0 0] } else { cls := .type "list_iterator", data := .fields #[.ref l, .int 0 0] }
theorem sqB_ex {K : PySem.W.Frag} {b : Bool} {H H' : Hp} {a : Addr} {xs : List V} (e : Ex H H') (h : SqB K b H a xs) : SqB K b H' a xs := by
  cases b with
  | true => exact sqt_ex e h
  | false => exact sql_ex e h
theorem drawsB {prog : Program} {w : World} {A : Around} (hh : A.handled = none) (b : Bool) {it l : Addr} (hne : l ≠ it) (items : Array Value) :
    Draws prog w A it [it, l] items.size (fun i v => items[i]? = some v) (fun i h => IterB b h it l i ∧ IsB b h l items) := by
  cases b with
  | true => exact Draws.tuple hh it l hne items
  | false => exact Draws.list hh it l hne items
theorem beginsB (b : Bool) (l : Addr) (items : Array Value) : Begins (.ref l) (iterObj b l) (fun h => IsB b h l items) := by
  cases b with
  | true => exact begins_tuple l items
  | false => exact begins_list l items
theorem IterB.at {b : Bool} {h h' : Heap} {it l : Addr} {i : Nat} (x : IterB b h it l i) (k : ∀ o, h.get? it = some o → h'.get? it = some o) : IterB b h' it l i := by
  cases b with
  | true => exact Heap.IsTupleIter.at x k
  | false => exact Heap.IsListIter.at x k
theorem IterB.obj {b : Bool} {h : Heap} {it l : Addr} {i : Nat} (x : IterB b h it l i) : ∃ o, h.get? it = some o ∧ ∀ v, o.data ≠ .cell v := by
  cases b with
  | true =>
    obtain ⟨o, e, _, d⟩ := show h.IsTupleIter it l i from x
    exact ⟨o, e, fun v q => by rw [d] at q; cases q⟩
  | false =>
    obtain ⟨o, e, _, d⟩ := show h.IsListIter it l i from x
    exact ⟨o, e, fun v q => by rw [d] at q; cases q⟩
theorem iterB_new {b : Bool} {h : Heap} {it l : Addr} (e : h.get? it = some (iterObj b l)) : IterB b h it l 0 := by
  cases b with
  | true => exact ⟨_, e, rfl, rfl⟩
  | false => exact ⟨_, e, rfl, rfl⟩
theorem isB_lt {b : Bool} {h : Heap} {l : Addr} {items : Array Value} (x : IsB b h l items) : l < h.objs.size := by
  cases b with
  | true =>
    obtain ⟨o, e, _⟩ := show h.IsTuple l items from x
    exact Heap.lt_size e
  | false =>
    obtain ⟨o, e, _⟩ := show h.IsList l items from x
    exact Heap.lt_size e
section
variable {X : Cx} {pins : List (Addr × Obj)} {σ : L2.St} {H : Hp} {s : Shared}
theorem inv_seqB {b : Bool} {a : Addr} {xs : List V} (I : Inv X pins σ H s) (h : SqB X.K b H a xs) : ∃ its : List Value, Vals xs its ∧ IsB b s.heap a its.toArray := by
  cases b with
  | true =>
    obtain ⟨its, r, p, _⟩ := I.tuple h
    exact ⟨its, r, p⟩
  | false =>
    obtain ⟨its, r, p, _⟩ := I.list h
    exact ⟨its, r, p.isList⟩
theorem inv_injB {b : Bool} {a : Addr} {xs ys : List V} (I : Inv X pins σ H s) (h : SqB X.K b H a xs) (h' : SqB X.K b H a ys) : xs = ys := by
  cases b with
  | true => exact I.tuple_inj h h'
  | false => exact I.list_inj h h'
end
theorem vals_at {xs : List V} {its : List Value} (r : Vals xs its) {i : Nat} {u : Value} (h : its.toArray[i]? = some u) : ∃ x, xs[i]? = some x ∧ RelV x u := by
  have l := r.length
  have h' : its[i]? = some u := by simpa using h
  have hi := (List.getElem?_eq_some_iff.mp h').1
  obtain ⟨u2, e1, e2⟩ := r.get (i := i) (x := xs[i]'(by omega)) (List.getElem?_eq_getElem _)
  rw [h'] at e1
  cases e1
  exact ⟨_, List.getElem?_eq_getElem _, e2⟩

/-! ### zip of two -/
def Jz2 (K : PySem.W.Frag) (b c : Bool) (p q : Addr) : It :=
  ⟨fun i H => ∃ (xs ys : List V), SqB K b H p xs ∧ SqB K c H q ys ∧ i < xs.length ∧ i < ys.length,
   fun i H v H' => ∃ T x y, v = .ref T ∧ H T = none ∧ H' = upd H T (.tup [x, y]) ∧ (∀ xs, SqB K b H p xs → xs[i]? = some x) ∧ ∀ ys, SqB K c H q ys → ys[i]? = some y,
   fun i H => ∃ (xs ys : List V), SqB K b H p xs ∧ SqB K c H q ys ∧ i = min xs.length ys.length⟩
def tnZ2 (b c : Bool) (z TI TO i1 i2 p q : Addr) (i : Nat) (h : Heap) : Prop := IsZip h z TI TO .none ∧ IsTupOf2 h TI (.ref i1) (.ref i2) ∧ (∃ x y, IsTupOf2 h TO x y) ∧ IterB b h i1 p i ∧ IterB c h i2 q i
theorem turn_z2 {P : Program} {w : World} {K : PySem.W.Frag} {elts : List Expr} {kk : Nat} {tpos : Pos} {b c : Bool} {p q z TI TO i1 i2 : Addr} (D : ZipSep2 z TI TO i1 i2 [i1, p] [i2, q]) (n1 : p ≠ i1) (n2 : q ≠ i2) :
    Turn P w K (.Tuple elts kk tpos) (Jz2 K b c p q) [z, TI, TO, i1, i2] z (tnZ2 b c z TI TO i1 i2 p q) where
  mem := List.mem_cons_self ..
  obj := fun i h ⟨hz, hTI, ⟨_, _, hTO⟩, k1, k2⟩ a ha => by
    simp only [List.mem_cons, List.not_mem_nil, or_false] at ha
    rcases ha with rfl | rfl | rfl | rfl | rfl
    · exact ⟨_, hz, fun _ e => nomatch e⟩
    · exact ⟨_, hTI, fun _ e => nomatch e⟩
    · exact ⟨_, hTO, fun _ e => nomatch e⟩
    · exact k1.obj
    · exact k2.obj
  keep := fun i h h' ⟨hz, hTI, ⟨x, y, hTO⟩, k1, k2⟩ k => ⟨k _ (by simp) _ hz, k _ (by simp) _ hTI, ⟨x, y, k _ (by simp) _ hTO⟩, k1.at fun o => k _ (by simp) o, k2.at fun o => k _ (by simp) o⟩
  item := by
    intro X hP hw hK hc i pins s σ H E I hf st ⟨xs, ys, hx, hy, lx, ly⟩
    subst hP hw hK
    obtain ⟨us, ru, pu⟩ := inv_seqB I hx
    obtain ⟨vs, rv, pv⟩ := inv_seqB I hy
    obtain ⟨hz, hTI, hTO, k1, k2⟩ := st
    have lu := ru.length
    have lv := rv.length
    have W := WalksT.zipD2 D (drawsB (prog := X.prog) (w := X.w) (A := X.A.in1) (I.ok.hd hc) b n1 us.toArray) (drawsB (A := X.A.in1) (I.ok.hd hc) c n2 vs.toArray)
    refine W.item i s _ E (by simp only [List.size_toArray]; omega) ⟨hz, hTI, hTO, ⟨k1, pu⟩, ⟨k2, pv⟩⟩ fun T vals h1 tk ⟨u, v, eu, ev, evs⟩ hT tT mid k => ?_
    subst evs
    obtain ⟨x, ex, rx⟩ := vals_at ru eu
    obtain ⟨y, ey, ry⟩ := vals_at rv ev
    refine ⟨_, rfl, W.go elts kk tpos i T _ _ E mid fun h2 ⟨g1, g2, g3, g4, g5⟩ k' => ?_⟩
    have nT : T ∉ [z, TO, i1, i2] := W.apart i T _ mid
    have tT2 : h2.IsTuple T #[u, v] := tT.at fun o e => k' T o nT e
    obtain ⟨oT, eT, cT, nn, dT⟩ := tT2
    have new : ObjOk X.prog X.w (upd H T (.tup [x, y])) h2 T (.tup [x, y]) := ⟨by show 2 ≤ sizeLine; decide, [u, v], .cons rx (.cons ry .nil), ⟨oT, eT, cT, nn, dT⟩⟩
    have sub : ∀ {a : Addr}, a ∉ [z, TI, TO, i1, i2] → a ∉ [z, TO, i1, i2] := fun {a} h e => h (by
      simp only [List.mem_cons, List.not_mem_nil, or_false] at e ⊢
      rcases e with e | e | e | e <;> simp [e])
    have I1 : Inv X pins σ (upd H T (.tup [x, y])) { s with heap := h2, toks := tk } := I.turnedNew (ch := [z, TI, TO, i1, i2]) (fun a o ha e => k' a o (sub ha) (k a o (sub ha) e)) hf hT new
    refine ⟨.ref T, _, I1, rfl, ⟨T, x, y, rfl, I.hok.fresh hT, rfl, fun l hl => by rw [inv_injB I hl hx]; exact ex, fun l hl => by rw [inv_injB I hl hy]; exact ey⟩, ⟨g1, g2, g3, g4.1, g5.1⟩, fun a ha => ?_⟩
    have la : a < s.heap.objs.size := by
      simp only [List.mem_cons, List.not_mem_nil, or_false] at ha
      rcases ha with rfl | rfl | rfl | rfl | rfl
      · exact Heap.lt_size hz
      · exact Heap.lt_size hTI
      · obtain ⟨_, _, e⟩ := hTO
        exact Heap.lt_size e
      · obtain ⟨_, e, _⟩ := k1.obj
        exact Heap.lt_size e
      · obtain ⟨_, e, _⟩ := k2.obj
        exact Heap.lt_size e
    rw [upd_ne (Nat.ne_of_lt (Nat.lt_of_lt_of_le la hT))]
    exact (hf a ha).1
  done := by
    intro X hP hw hK hc i pins s σ H E I hf st ⟨xs, ys, hx, hy, hn⟩
    subst hP hw hK
    obtain ⟨us, ru, pu⟩ := inv_seqB I hx
    obtain ⟨vs, rv, pv⟩ := inv_seqB I hy
    obtain ⟨hz, hTI, hTO, k1, k2⟩ := st
    have lu := ru.length
    have lv := rv.length
    have W := WalksT.zipD2 D (drawsB (prog := X.prog) (w := X.w) (A := X.A.in1) (I.ok.hd hc) b n1 us.toArray) (drawsB (A := X.A.in1) (I.ok.hd hc) c n2 vs.toArray)
    have hi : i = min us.toArray.size vs.toArray.size := by simp only [List.size_toArray]; omega
    have st' : IsZip s.heap z TI TO .none ∧ IsTupOf2 s.heap TI (.ref i1) (.ref i2) ∧ (∃ x y, IsTupOf2 s.heap TO x y) ∧ (IterB b s.heap i1 p (min us.toArray.size vs.toArray.size) ∧ IsB b s.heap p us.toArray) ∧ IterB c s.heap i2 q (min us.toArray.size vs.toArray.size) ∧ IsB c s.heap q vs.toArray := by
      rw [← hi]
      exact ⟨hz, hTI, hTO, ⟨k1, pu⟩, ⟨k2, pv⟩⟩
    refine W.done s _ E st' fun h1 tk k => ⟨rfl, I.turnedL (t' := tk) (ch := [z, TI, TO, i1, i2]) (fun a o ha e => k a o (fun z => ha (by
      simp only [List.mem_cons, List.not_mem_nil, or_false] at z ⊢
      rcases z with z | z | z | z <;> simp [z])) e) hf⟩
  self := fun A i s Q E st h => wpAny_pyIter_zip st.1 h
theorem walk_z2 {K : PySem.W.Frag} {b c : Bool} {p q : Addr} {xs ys : List V} : Walk (Jz2 K b c p q) (min xs.length ys.length) (fun H => SqB K b H p xs ∧ SqB K c H q ys) (YPair (fun i => xs[i]?) (fun i => ys[i]?)) :=
  ⟨fun i H hi g => ⟨xs, ys, g.1, g.2, by omega, by omega⟩, fun H g => ⟨xs, ys, g.1, g.2, rfl⟩, fun i H v H' _ g ⟨T, x, y, e1, e2, e3, e4, e5⟩ => ⟨T, x, y, e1, e2, e3, e4 _ g.1, e5 _ g.2⟩⟩
/-- the pairs -/
def zipD (xs ys : List D) : List D := List.zipWith (fun x y => PyData.tuple [x, y]) xs ys
theorem zipD_get {xs ys : List D} {i : Nat} {d : D} (h : (zipD xs ys)[i]? = some d) : ∃ x y, xs[i]? = some x ∧ ys[i]? = some y ∧ d = .tuple [x, y] := by
  unfold zipD at h
  rw [List.getElem?_zipWith] at h
  split at h
  · rename_i a b ea eb
    cases h
    exact ⟨a, b, ea, eb, rfl⟩
  · cases h
theorem items_z2 {K : PySem.W.Frag} {b c : Bool} {p q : Addr} {vs us : List V} {ds es : List D} {B F : Hp} (h1 : SqB K b B p vs) (a1 : DpAll K F vs ds) (h2 : SqB K c B q us) (a2 : DpAll K F us es) : Items K (Jz2 K b c p q) B F (zipD ds es) := by
  have hl : (zipD ds es).length = min vs.length us.length := by
    unfold zipD
    rw [List.length_zipWith, dal_len a1, dal_len a2]
  refine ⟨fun H => SqB K b H p vs ∧ SqB K c H q us, YPair (fun i => vs[i]?) (fun i => us[i]?), by rw [hl]; exact walk_z2, fun H1 e => ⟨sqB_ex e h1, sqB_ex e h2⟩, fun i d F1 H1 x H2 hd e1 e2 g ⟨T, v, u, ex, eT, eH, ev, eu⟩ => ?_⟩
  replace ev : vs[i]? = some v := ev
  replace eu : us[i]? = some u := eu
  obtain ⟨d1, d2, k1, k2, rfl⟩ := zipD_get hd
  obtain ⟨v', m1, m2⟩ := dal_get a1 k1
  obtain ⟨u', m3, m4⟩ := dal_get a2 k2
  rw [ev] at m1
  cases m1
  rw [eu] at m3
  cases m3
  subst ex eH
  have f := Ex.new (H := F1) (o := HO.tup [v, u]) (e2.none eT)
  exact ⟨_, Adv.laid e2 eT, .tup (SqT.of upd_same) (.cons (dp_ex (e1.trans f) _ _ m2) (.cons (dp_ex (e1.trans f) _ _ m4) .nil))⟩
theorem iterObj_free (b : Bool) (l : Addr) : (iterObj b l).isFreed = false := (beginsB b l #[]).free
/-- what a sequence is: its kind, its items -/
def kindB : D → Option (Bool × List D)
  | .list ds => some (false, ds)
  | .tuple ds => some (true, ds)
  | _ => none
theorem kindB_seq {d : D} : (kindB d).map (·.2) = seqOf d := by cases d <;> rfl
theorem kindB_of {d : D} {ds : List D} (h : seqOf d = some ds) : ∃ b, kindB d = some (b, ds) := by
  rcases seqOf_some h with rfl | rfl
  · exact ⟨false, rfl⟩
  · exact ⟨true, rfl⟩
theorem dp_kind {K : PySem.W.Frag} {F H : Hp} {v : V} {d : D} {b : Bool} {ds : List D} (h : kindB d = some (b, ds)) (p : Dp K F v d) (e : Ex F H) : ∃ a vs, v = .ref a ∧ SqB K b F a vs ∧ DpAll K F vs ds := by
  cases p <;> cases h
  · rename_i hs ha
    exact ⟨_, _, rfl, hs, ha⟩
  · rename_i hs ha
    exact ⟨_, _, rfl, hs, ha⟩
theorem tp_kind {K : PySem.W.Frag} {F H : Hp} {v : V} {d : D} {b : Bool} {ds : List D} (h : kindB d = some (b, ds)) (p : Tp K F H v d) (e : Ex F H) : ∃ a vs, v = .ref a ∧ SqB K b H a vs ∧ DpAll K F vs ds := by
  cases d <;> cases h
  · obtain ⟨a, vs, e1, e2, e3⟩ := p.list e
    exact ⟨a, vs, e1, e2, e3⟩
  · obtain ⟨a, vs, e1, e2, e3⟩ := p.tuple e
    exact ⟨a, vs, e1, e2, e3⟩
section
variable {X : Cx} {e e2 : Expr} {ta : TA} {p pos tpos : Pos} {elts : List Expr} {kk : Nat}
def iZ2 (K : PySem.W.Frag) (ta : TA) : TI := fun σ H R => ta σ H fun vs H1 => ∃ a b c d xs ys, vs = [.ref a, .ref b] ∧ SqB K c H1 a xs ∧ SqB K d H1 b ys ∧ R (Jz2 K c d a b) H1
theorem pi_z2 (hg : Gl X "zip") (hm : X.mg "zip" = none) (ha : PA X [e, e2] ta) (hs : starEach [e, e2] X.env = (false, eval e X.env) :: starEach [e2] X.env) (hpl : (backTo pos (starEach [e2] X.env)).any (·.1) = false) :
    PI X (.Tuple elts kk tpos) (.Call (.Name "zip" p) [e, e2] [] pos) (iZ2 X.K ta) := by
  refine ⟨fun pins s σ H R I h => Call_ (ld_blt I hg hm PyProof.Rows.boot_zip (PyProof.Rows.callWith_type1 (thn (ha.run pos pins s σ H _ I h) fun us s1 ⟨vs, H1, I1, r1, a, b, c, d, xs, ys, ex, hx, hy, q⟩ => ?_) hs hpl))⟩
  subst ex
  obtain ⟨u1, u2, rfl, r1, r2⟩ := vals2 r1
  cases r1
  cases r2
  obtain ⟨i1, v1, p1⟩ := inv_seqB I1 hx
  obtain ⟨i2, v2, p2⟩ := inv_seqB I1 hy
  have la := isB_lt p1
  have lb := isB_lt p2
  refine zip_begins2 (beginsB c a i1.toArray) (beginsB d b i2.toArray) p1 p2 fun h' hz hTI hTO g1 g2 hsz hk => wpAny_pyIter_zip hz ?_
  have I2 : Inv X pins σ H1 { s1 with heap := h' } := I1.kept (t' := s1.toks) hk
  have S := zip_sep2 (N := s1.heap.objs.size) (fp1 := [a]) (fp2 := [b]) (by simpa using la) (by simpa using lb)
  refine ⟨s1.heap.objs.size + 4, [s1.heap.objs.size + 4, s1.heap.objs.size + 2, s1.heap.objs.size + 3, s1.heap.objs.size, s1.heap.objs.size + 1], _, _, H1, rfl, I2,
    turn_z2 S (Nat.ne_of_lt la) (Nat.ne_of_lt (Nat.lt_succ_of_lt lb)), ⟨hz, hTI, ⟨_, _, hTO⟩, iterB_new g1, iterB_new g2⟩, fun x hx => ?_, q⟩
  have le : s1.heap.objs.size ≤ x := by
    simp only [List.mem_cons, List.not_mem_nil, or_false] at hx
    rcases hx with rfl | rfl | rfl | rfl | rfl
    · exact Nat.le_add_right _ _
    · exact Nat.le_add_right _ _
    · exact Nat.le_add_right _ _
    · exact Nat.le_refl _
    · exact Nat.le_add_right _ _
  exact I1.fpOk le (I1.hok.fresh le)
def wZip : List D → Option (List D)
  | [x, y] => (seqOf x).bind fun xs => (seqOf y).map fun ys => zipD xs ys
  | _ => none
theorem wZip_some {ds es : List D} (h : wZip ds = some es) : ∃ x y xs ys, ds = [x, y] ∧ seqOf x = some xs ∧ seqOf y = some ys ∧ es = zipD xs ys := by
  unfold wZip at h
  split at h
  · rename_i x y
    cases hx : seqOf x with
    | none => rw [hx] at h; cases h
    | some xs =>
      cases hy : seqOf y with
      | none => simp [hx, hy] at h
      | some ys =>
        have h' : zipD xs ys = es := by simpa [hx, hy] using h
        exact ⟨x, y, xs, ys, rfl, hx, hy, h'.symm⟩
  · cases h
theorem mi_zip {ma : Rho → Option (List D)} (hm : X.mg "zip" = none) (ha : MAE X [e, e2] ma) (hg : Gl X "zip" := by rfl) (hs : starEach [e, e2] X.env = (false, eval e X.env) :: starEach [e2] X.env := by rfl) (hpl : (backTo pos (starEach [e2] X.env)).any (·.1) = false := by rfl) :
    MI X (.Tuple elts kk tpos) (.Call (.Name "zip" p) [e, e2] [] pos) (mL2 wZip ma) :=
  ⟨fun F0 H0 => pi_weak (pi_z2 hg hm (ha.ok F0 H0) hs hpl) fun σ H R ⟨ρ, F, es, e1, h2, q⟩ => by
    unfold mL2 at h2
    cases hx : ma ρ with
    | none => rw [hx] at h2; cases h2
    | some ds =>
      rw [hx] at h2
      replace h2 : wZip ds = some es := h2
      obtain ⟨x, y, xs, ys, rfl, hx1, hy1, rfl⟩ := wZip_some h2
      obtain ⟨b, kb⟩ := kindB_of hx1
      obtain ⟨c, kc⟩ := kindB_of hy1
      refine ⟨ρ, F, _, e1, hx, fun vs F1 H1 a1 pa => ?_⟩
      cases pa with
      | cons t1 t2 =>
        cases t2 with
        | cons t2 t3 =>
          cases t3
          obtain ⟨a, us, ea, sa, pa⟩ := dp_kind kb t1 a1.fh
          obtain ⟨a', us', ea', sa', pa'⟩ := dp_kind kc t2 a1.fh
          subst ea ea'
          exact ⟨a, a', b, c, us, us', rfl, sqB_ex a1.fh sa, sqB_ex a1.fh sa', q _ F1 H1 a1 (items_z2 sa pa sa' pa')⟩⟩
theorem mih_zip {ma : Rho → Option (List D)} (hm : X.mg "zip" = none) (ha : MAT X [e, e2] ma) (hg : Gl X "zip" := by rfl) (hs : starEach [e, e2] X.env = (false, eval e X.env) :: starEach [e2] X.env := by rfl) (hpl : (backTo pos (starEach [e2] X.env)).any (·.1) = false := by rfl) :
    MIH X (.Tuple elts kk tpos) (.Call (.Name "zip" p) [e, e2] [] pos) (mL2 wZip ma) :=
  ⟨fun F0 H0 => pi_weak (pi_z2 hg hm (ha.ok F0 H0) hs hpl) fun σ H R ⟨ρ, F, es, e1, h2, q⟩ => by
    unfold mL2 at h2
    cases hx : ma ρ with
    | none => rw [hx] at h2; cases h2
    | some ds =>
      rw [hx] at h2
      replace h2 : wZip ds = some es := h2
      obtain ⟨x, y, xs, ys, rfl, hx1, hy1, rfl⟩ := wZip_some h2
      obtain ⟨b, kb⟩ := kindB_of hx1
      obtain ⟨c, kc⟩ := kindB_of hy1
      refine ⟨ρ, F, _, e1, hx, fun vs F1 H1 a1 ta => ?_⟩
      obtain ⟨v, v', rfl, t1, t2⟩ := tp2 ta
      obtain ⟨a, us, ea, sa, pa⟩ := tp_kind kb t1 a1.fh
      obtain ⟨a', us', ea', sa', pa'⟩ := tp_kind kc t2 a1.fh
      subst ea ea'
      exact ⟨a, a', b, c, us, us', rfl, sa, sa', q _ F1 H1 a1 (items_z2 sa pa sa' pa')⟩⟩
end

/-! ### enumerate -/
set_option maxHeartbeats 4000000 in
theorem new_enum1 {v : Value} {o : Obj} {G : Heap → Prop} (B : Begins v o G) :
    Meets (Builtin.«enumerate.__new__» ⟨[.type "enumerate", v], []⟩) (fun _ R s => G s.heap ∧ R (.ok (.ret (.ref (s.heap.push o).objs.size)))
      { s with heap := (s.heap.push o).push { cls := .type "enumerate", data := .fields #[.none, .bool false, .ref s.heap.objs.size, rawInt 0, .none, .none] } }) :=
  .of_wp fun prog w A R s h => by
    obtain ⟨hp, g, d, tk, os⟩ := s; obtain ⟨h1, h⟩ := h
    have hsub := sub_enumerate
    have it : ∀ {A' : Around} {E : Value → Shared → Prop} {Q : Value → Shared → Prop}, Q (.ref hp.objs.size) ⟨hp.push o, g, d, tk, os⟩ → wpAny (model prog w) A' (pyIter v) Q E ⟨hp, g, d, tk, os⟩ := fun q => B.iter prog w _ _ ⟨hp, g, d, tk, os⟩ _ h1 q
    wp_walk using it
    refine wpAny_stack_any fun st => wpAny_pure ?_
    split
    · rename_i c _ _ _ _ _
      cases (c == Value.type "enumerate") <;> (wp_walk using it; exact ⟨_, rfl, h⟩)
    · wp_walk using it
      exact ⟨_, rfl, h⟩
theorem call_enum1 {prog : Program} {w : World} {A : Around} {E : Value → Shared → Prop} {s : Shared} {v : Value} {o : Obj} {G : Heap → Prop} {Q : Value → Shared → Prop} (B : Begins v o G) (h1 : G s.heap)
    (h : ∀ h', IsEnum h' (s.heap.objs.size + 1) s.heap.objs.size 0 .none → h'.get? s.heap.objs.size = some o → (∀ b u, s.heap.get? b = some u → h'.get? b = some u) → Q (.ref (s.heap.objs.size + 1)) { s with heap := h' }) :
    wpAny (model prog w) A (call (.type "enumerate") [v]) Q E s := by
  have sz : (s.heap.push o).objs.size = s.heap.objs.size + 1 := Heap.size_push ..
  have here := Heap.get?_push_size (s.heap.push o) (o := { cls := .type "enumerate", data := .fields #[.none, .bool false, .ref s.heap.objs.size, rawInt 0, .none, .none] }) rfl
  refine callType_new F.called_enumerate (by decide) (F.typeCall_enumerate_1 _) (F.newCall_enumerate_1 _) (fun obj => F.args_object_init_2 obj _) F.entry_enumerate_new (new_enum1 B) ⟨h1, ?_⟩
  rw [sz] at here
  show _ ∧ _
  rw [sz]
  exact ⟨⟨_, here, rfl⟩, h _ here (Heap.get?_push_of_some _ (Heap.get?_push_size _ B.free)) fun b u x => Heap.get?_push_of_some _ (Heap.get?_push_of_some _ x)⟩
def Jen (K : PySem.W.Frag) (b : Bool) (p : Addr) : It :=
  ⟨fun i H => ∃ xs, SqB K b H p xs ∧ i < xs.length, fun i H v H' => ∃ T y, v = .ref T ∧ H T = none ∧ H' = upd H T (.tup [.int (i : Int), y]) ∧ ∀ xs, SqB K b H p xs → xs[i]? = some y, fun i H => ∃ xs, SqB K b H p xs ∧ i = xs.length⟩
theorem turn_en {P : Program} {w : World} {K : PySem.W.Frag} {elts : List Expr} {kk : Nat} {tpos : Pos} {b : Bool} {p e it : Addr} (n1 : p ≠ it) (n2 : e ≠ it) (n3 : e ≠ p) :
    Turn P w K (.Tuple elts kk tpos) (Jen K b p) [e, it] e (fun i h => (∃ old, IsEnum h e it ((i : Nat) : Int) old) ∧ IterB b h it p i) where
  mem := List.mem_cons_self ..
  obj := fun i h ⟨⟨_, he⟩, k1⟩ a ha => by
    simp only [List.mem_cons, List.not_mem_nil, or_false] at ha
    rcases ha with rfl | rfl
    · exact ⟨_, he, fun _ e => nomatch e⟩
    · exact k1.obj
  keep := fun i h h' ⟨⟨x, he⟩, k1⟩ k => ⟨⟨x, k _ (by simp) _ he⟩, k1.at fun o => k _ (by simp) o⟩
  item := by
    intro X hP hw hK hc i pins s σ H E I hf st ⟨xs, hx, lx⟩
    subst hP hw hK
    obtain ⟨us, ru, pu⟩ := inv_seqB I hx
    obtain ⟨he, k1⟩ := st
    have lu := ru.length
    have W := WalksT.enumerateD (drawsB (prog := X.prog) (w := X.w) (A := X.A.in1) (I.ok.hd hc) b n1 us.toArray) e n2 (by simp [n2, n3]) (by simp)
    refine W.item i s _ E (by simp only [List.size_toArray]; omega) ⟨he, k1, pu⟩ fun T vals h1 tk ⟨t, u, eu, evs⟩ hT tT mid k => ?_
    subst evs
    obtain ⟨x, ex, rx⟩ := vals_at ru eu
    refine ⟨_, rfl, W.go elts kk tpos i T _ _ E mid fun h2 ⟨g1, g2, g3⟩ k' => ?_⟩
    have tT2 : h2.IsTuple T #[.int i t, u] := tT.at fun o z => k' T o (W.apart i T _ mid) z
    obtain ⟨oT, eT, cT, nn, dT⟩ := tT2
    have new : ObjOk X.prog X.w (upd H T (.tup [.int (i : Int), x])) h2 T (.tup [.int (i : Int), x]) := ⟨by show 2 ≤ sizeLine; decide, [.int i t, u], .cons ⟨_, rfl⟩ (.cons rx .nil), ⟨oT, eT, cT, nn, dT⟩⟩
    have I1 : Inv X pins σ (upd H T (.tup [.int (i : Int), x])) { s with heap := h2, toks := tk } := I.turnedNew (ch := [e, it]) (fun a o ha z => k' a o ha (k a o ha z)) hf hT new
    refine ⟨.ref T, _, I1, rfl, ⟨T, x, rfl, I.hok.fresh hT, rfl, fun l hl => by rw [inv_injB I hl hx]; exact ex⟩, ⟨g1, g2⟩, fun a ha => ?_⟩
    have la : a < s.heap.objs.size := by
      simp only [List.mem_cons, List.not_mem_nil, or_false] at ha
      rcases ha with rfl | rfl
      · obtain ⟨_, z⟩ := he
        exact Heap.lt_size z
      · obtain ⟨_, z, _⟩ := k1.obj
        exact Heap.lt_size z
    rw [upd_ne (Nat.ne_of_lt (Nat.lt_of_lt_of_le la hT))]
    exact (hf a ha).1
  done := by
    intro X hP hw hK hc i pins s σ H E I hf st ⟨xs, hx, hn⟩
    subst hP hw hK
    obtain ⟨us, ru, pu⟩ := inv_seqB I hx
    obtain ⟨he, k1⟩ := st
    have lu := ru.length
    have W := WalksT.enumerateD (drawsB (prog := X.prog) (w := X.w) (A := X.A.in1) (I.ok.hd hc) b n1 us.toArray) e n2 (by simp [n2, n3]) (by simp)
    have hi : i = us.toArray.size := by simp only [List.size_toArray]; omega
    have st' : (∃ old, IsEnum s.heap e it ((us.toArray.size : Nat) : Int) old) ∧ IterB b s.heap it p us.toArray.size ∧ IsB b s.heap p us.toArray := by
      rw [← hi]
      exact ⟨he, k1, pu⟩
    exact W.done s _ E st' fun h1 tk k => ⟨rfl, I.turnedL (t' := tk) (ch := [e, it]) (fun a o ha z => k a o ha z) hf⟩
  self := fun A i s Q E st h => wpAny_pyIter_enum st.1.choose_spec h
/-- the pairs of place and item -/
def enumFrom (n : Nat) : List D → List D
  | [] => []
  | x :: xs => .tuple [.int (n : Int), x] :: enumFrom (n + 1) xs
theorem enumFrom_len : ∀ (xs : List D) (n : Nat), (enumFrom n xs).length = xs.length
  | [], _ => rfl
  | x :: xs, n => congrArg (· + 1) (enumFrom_len xs (n + 1))
theorem enumFrom_get : ∀ (xs : List D) (n i : Nat) {d : D}, (enumFrom n xs)[i]? = some d → ∃ x, xs[i]? = some x ∧ d = .tuple [.int ((n + i : Nat) : Int), x]
  | [], _, _, _, h => by cases h
  | x :: xs, n, 0, d, h => by cases h; exact ⟨x, rfl, rfl⟩
  | x :: xs, n, i + 1, d, h => by
    obtain ⟨y, h1, h2⟩ := enumFrom_get xs (n + 1) i (d := d) (by simpa [enumFrom] using h)
    exact ⟨y, by simpa using h1, by rw [h2]; congr 4; omega⟩
theorem items_en {K : PySem.W.Frag} {b : Bool} {p : Addr} {vs : List V} {ds : List D} {B F : Hp} (h1 : SqB K b B p vs) (a1 : DpAll K F vs ds) : Items K (Jen K b p) B F (enumFrom 0 ds) := by
  have hl : (enumFrom 0 ds).length = vs.length := by rw [enumFrom_len, dal_len a1]
  refine ⟨fun H => SqB K b H p vs, YPair (fun i => some (.int (i : Int))) (fun i => vs[i]?), by
    rw [hl]
    exact ⟨fun i H hi g => ⟨vs, g, hi⟩, fun H g => ⟨vs, g, rfl⟩, fun i H v H' _ g ⟨T, y, e1, e2, e3, e4⟩ => ⟨T, _, y, e1, e2, e3, rfl, e4 _ g⟩⟩, fun H1 e => sqB_ex e h1, fun i d F1 H1 x H2 hd e1 e2 g ⟨T, v, u, ex, eT, eH, ev, eu⟩ => ?_⟩
  replace eu : vs[i]? = some u := eu
  obtain ⟨d1, k1, rfl⟩ := enumFrom_get _ _ _ hd
  obtain ⟨v', m1, m2⟩ := dal_get a1 k1
  rw [eu] at m1
  cases m1
  cases ev
  subst ex eH
  have f := Ex.new (H := F1) (o := HO.tup [.int (i : Int), u]) (e2.none eT)
  rw [Nat.zero_add]
  exact ⟨_, Adv.laid e2 eT, .tup (SqT.of upd_same) (.cons (.int _) (.cons (dp_ex (e1.trans f) _ _ m2) .nil))⟩
section
variable {X : Cx} {e : Expr} {ta : TA} {p pos tpos : Pos} {elts : List Expr} {kk : Nat}
def iEn (K : PySem.W.Frag) (ta : TA) : TI := fun σ H R => ta σ H fun vs H1 => ∃ a b xs, vs = [.ref a] ∧ SqB K b H1 a xs ∧ R (Jen K b a) H1
theorem pi_en (hg : Gl X "enumerate") (hm : X.mg "enumerate" = none) (ha : PA X [e] ta) (hs : starEach [e] X.env = [(false, eval e X.env)]) : PI X (.Tuple elts kk tpos) (.Call (.Name "enumerate" p) [e] [] pos) (iEn X.K ta) := by
  refine ⟨fun pins s σ H R I h => Call_ (ld_blt I hg hm boot_enumerate (PyProof.Rows.callWith_type1 (thn (ha.run pos pins s σ H _ I h) fun us s1 ⟨vs, H1, I1, r1, a, b, xs, ex, hx, q⟩ => ?_) hs rfl))⟩
  subst ex
  obtain ⟨u1, rfl, r2⟩ := vals1 r1
  obtain rfl : u1 = Value.ref a := r2
  obtain ⟨i1, v1, p1⟩ := inv_seqB I1 hx
  have la := isB_lt p1
  refine call_enum1 (G := fun h => IsB b h a i1.toArray) (beginsB b a i1.toArray) p1 fun h' he g1 hk => wpAny_pyIter_enum he ?_
  have I2 : Inv X pins σ H1 { s1 with heap := h' } := I1.kept (t' := s1.toks) hk
  refine ⟨s1.heap.objs.size + 1, [s1.heap.objs.size + 1, s1.heap.objs.size], _, _, H1, rfl, I2, turn_en (Nat.ne_of_lt la) (Nat.succ_ne_self _) (Nat.ne_of_gt (Nat.lt_succ_of_lt la)), ⟨⟨.none, he⟩, iterB_new g1⟩, fun x hx => ?_, q⟩
  have le : s1.heap.objs.size ≤ x := by
    simp only [List.mem_cons, List.not_mem_nil, or_false] at hx
    rcases hx with rfl | rfl
    · exact Nat.le_add_right _ _
    · exact Nat.le_refl _
  exact I1.fpOk le (I1.hok.fresh le)
def wEnumerate : List D → Option (List D)
  | [x] => (seqOf x).map (enumFrom 0)
  | _ => none
theorem wEnum_some {ds es : List D} (h : wEnumerate ds = some es) : ∃ x xs, ds = [x] ∧ seqOf x = some xs ∧ es = enumFrom 0 xs := by
  unfold wEnumerate at h
  split at h
  · rename_i x
    cases hx : seqOf x with
    | none => rw [hx] at h; cases h
    | some xs =>
      rw [hx] at h
      cases h
      exact ⟨x, xs, rfl, hx, rfl⟩
  · cases h
theorem mi_enumerate {ma : Rho → Option (List D)} (hm : X.mg "enumerate" = none) (ha : MAE X [e] ma) (hg : Gl X "enumerate" := by rfl) (hs : starEach [e] X.env = [(false, eval e X.env)] := by rfl) :
    MI X (.Tuple elts kk tpos) (.Call (.Name "enumerate" p) [e] [] pos) (mL2 wEnumerate ma) :=
  ⟨fun F0 H0 => pi_weak (pi_en hg hm (ha.ok F0 H0) hs) fun σ H R ⟨ρ, F, es, e1, h2, q⟩ => by
    unfold mL2 at h2
    cases hx : ma ρ with
    | none => rw [hx] at h2; cases h2
    | some ds =>
      rw [hx] at h2
      replace h2 : wEnumerate ds = some es := h2
      obtain ⟨x, xs, rfl, hx1, rfl⟩ := wEnum_some h2
      obtain ⟨b, kb⟩ := kindB_of hx1
      refine ⟨ρ, F, _, e1, hx, fun vs F1 H1 a1 pa => ?_⟩
      cases pa with
      | cons t1 t2 =>
        cases t2
        obtain ⟨a, us, ea, sa, pa⟩ := dp_kind kb t1 a1.fh
        subst ea
        exact ⟨a, b, us, rfl, sqB_ex a1.fh sa, q _ F1 H1 a1 (items_en sa pa)⟩⟩
theorem mih_enumerate {ma : Rho → Option (List D)} (hm : X.mg "enumerate" = none) (ha : MAT X [e] ma) (hg : Gl X "enumerate" := by rfl) (hs : starEach [e] X.env = [(false, eval e X.env)] := by rfl) :
    MIH X (.Tuple elts kk tpos) (.Call (.Name "enumerate" p) [e] [] pos) (mL2 wEnumerate ma) :=
  ⟨fun F0 H0 => pi_weak (pi_en hg hm (ha.ok F0 H0) hs) fun σ H R ⟨ρ, F, es, e1, h2, q⟩ => by
    unfold mL2 at h2
    cases hx : ma ρ with
    | none => rw [hx] at h2; cases h2
    | some ds =>
      rw [hx] at h2
      replace h2 : wEnumerate ds = some es := h2
      obtain ⟨x, xs, rfl, hx1, rfl⟩ := wEnum_some h2
      obtain ⟨b, kb⟩ := kindB_of hx1
      refine ⟨ρ, F, _, e1, hx, fun vs F1 H1 a1 ta => ?_⟩
      obtain ⟨v, rfl, t1⟩ := tp1 ta
      obtain ⟨a, us, ea, sa, pa⟩ := tp_kind kb t1 a1.fh
      subst ea
      exact ⟨a, b, us, rfl, sa, q _ F1 H1 a1 (items_en sa pa)⟩⟩
end
end MV

set_option maxRecDepth 100000
set_option maxHeartbeats 4000000
/-! how a mirror is worked out, one rule a construct -/
namespace MV
open PySem PySem.Spec PyProof.Rows L2
section
variable {ρ ρ1 ρ' : Rho} {m ma mb mc : Rho → Option D} {a b : Rho → Option Res} {r r1 r' : Res} {R : Option Res} {d d' x y : D} {ds es : List D} {i j : Nat} {c : Cell} {g2 : D → D → Option D} {g1 : D → Option D} {gl : List D → Option D} {mr : Rho → Option (List D)} {t u : Bool} {mt mu : Rho → Option Bool}
theorem run_ok {n k : Nat} {body : Rho → Option Res} (h : body (ds.map Cell.dat ++ List.replicate k Cell.un) = some (.rt d')) (hl : ds.length = n) (e : d' = d) : runDef n k body ds = some d := by
  subst e
  unfold runDef
  rw [if_pos hl, h]
  rfl
theorem run_ok1 {k : Nat} {body : Rho → Option Res} (h : body (.dat d :: List.replicate k Cell.un) = some (.rt d')) (e : d' = x) : runDef 1 k body [d] = some x := run_ok h rfl e
/-! slots -/
theorem set_0 {l : Rho} {c' : Cell} : (c' :: l).set 0 c = c :: l := rfl
theorem set_s {l l' : Rho} {c' : Cell} (h : l.set i c = l') : (c' :: l).set (i + 1) c = c' :: l' := by rw [List.set_cons_succ, h]
theorem wipe_0 : wipeR ρ [] = ρ := rfl
theorem wipe_s {vs : List Nat} (h : wipeR ρ vs = ρ1) (h2 : ρ1.set i .un = ρ') : wipeR ρ (i :: vs) = ρ' := by rw [wipeR, h, h2]
theorem var_0 {l : Rho} : mVar 0 (.dat d :: l) = some d := rfl
theorem var_s {l : Rho} (h : mVar i l = some d) : mVar (i + 1) (c :: l) = some d := by
  unfold mVar at h ⊢
  rw [List.getElem?_cons_succ]
  exact h
theorem own_0 {l : Rho} : mOwn 0 (.own ds :: l) = some (.list ds) := rfl
theorem own_0d {l : Rho} : mOwn 0 (.dat d :: l) = some d := rfl
theorem own_s {l : Rho} (h : mOwn i l = some d) : mOwn (i + 1) (c :: l) = some d := by
  unfold mOwn at h ⊢
  rw [List.getElem?_cons_succ]
  exact h
/-! statements -/
theorem seq_ok (h : a ρ = some r1) (h2 : thenR r1 b = R) : mSeq a b ρ = R := by
  unfold mSeq
  rw [h]
  exact h2
theorem then_nx (h : b ρ = R) : thenR (.nx ρ) b = R := h
theorem then_rt : thenR (.rt d) b = some (.rt d) := rfl
theorem then_bk : thenR (.bk ρ) b = some (.bk ρ) := rfl
theorem then_ct : thenR (.ct ρ) b = some (.ct ρ) := rfl
theorem st_set (h : m ρ = some d) (h2 : ρ.set i (.dat d) = ρ') : mSet i m ρ = some (.nx ρ') := by
  unfold mSet
  rw [h, ← h2]
  rfl
theorem st_setO (h : mr ρ = some ds) (h2 : ρ.set i (.own ds) = ρ') : mSetO i mr ρ = some (.nx ρ') := by
  unfold mSetO
  rw [h, ← h2]
  rfl
theorem st_ret (h : m ρ = some d) : mRet m ρ = some (.rt d) := by
  unfold mRet
  rw [h]
  rfl
theorem st_drop (h : m ρ = some d) : mDrop m ρ = some (.nx ρ) := by
  unfold mDrop
  rw [h]
  rfl
theorem retO_0 {l : Rho} : mRetO 0 (.own ds :: l) = some (.rt (.list ds)) := rfl
theorem retO_0d {l : Rho} : mRetO 0 (.dat d :: l) = some (.rt d) := rfl
theorem retO_s {l : Rho} (h : mRetO i l = some r) : mRetO (i + 1) (c :: l) = some r := by
  unfold mRetO at h ⊢
  rw [List.getElem?_cons_succ]
  exact h
theorem st_skip : mSkip ρ = some (.nx ρ) := rfl
theorem st_brk : mBrk ρ = some (.bk ρ) := rfl
theorem st_cnt : mCnt ρ = some (.ct ρ) := rfl
theorem st_if (h : mt ρ = some t) (h2 : (if t = true then a ρ else b ρ) = R) : mIfS mt a b ρ = R := by
  unfold mIfS
  rw [h]
  exact h2
theorem st_post {vs : List Nat} (h : a ρ = some r) (h2 : postR vs r = r') : mPost vs a ρ = some r' := by
  unfold mPost
  rw [h, ← h2]
  rfl
theorem post_nx {vs : List Nat} (h : wipeR ρ vs = ρ') : postR vs (.nx ρ) = .nx ρ' := by rw [← h]; rfl
theorem post_bk {vs : List Nat} (h : wipeR ρ vs = ρ') : postR vs (.bk ρ) = .bk ρ' := by rw [← h]; rfl
theorem post_ct {vs : List Nat} (h : wipeR ρ vs = ρ') : postR vs (.ct ρ) = .ct ρ' := by rw [← h]; rfl
theorem post_rt {vs : List Nat} : postR vs (.rt d) = .rt d := rfl
theorem app_at (h : m ρ = some d) (h2 : ρ[i]? = some (.own ds)) (h3 : ds.length < 100000) (h4 : ρ.set i (.own (ds ++ [d])) = ρ') : mApp i m ρ = some (.nx ρ') := by
  unfold mApp
  rw [h, h2, ← h4]
  show (if ds.length < 100000 then _ else _) = _
  rw [if_pos h3]
theorem get_0 {l : Rho} : (c :: l)[0]? = some c := rfl
theorem get_s {l : Rho} {c' : Cell} (h : l[i]? = some c) : (c' :: l)[i + 1]? = some c := by rw [List.getElem?_cons_succ, h]
theorem st_par (h : ma ρ = some x) (h2 : mb ρ = some y) (h3 : ρ.set i (.dat x) = ρ1) (h4 : ρ1.set j (.dat y) = ρ') : mPar i j ma mb ρ = some (.nx ρ') := by
  unfold mPar
  rw [h, Option.bind_some, h2, ← h4, ← h3]
  rfl
theorem st_asg {mg : D → Rho → Option Rho} (h : m ρ = some d) (h2 : mg d ρ = some ρ') : mAsg mg m ρ = some (.nx ρ') := by
  unfold mAsg
  rw [h, Option.bind_some, h2]
  rfl
theorem tg_set (h : ρ.set i (.dat d) = ρ') : gSet i d ρ = some ρ' := by rw [← h]; rfl
theorem tg_tup {gs : List D → Rho → Option Rho} (h : gs ds ρ = some ρ') : gTupD gs (.tuple ds) ρ = some ρ' := h
theorem tg_cons {g : D → Rho → Option Rho} {gs : List D → Rho → Option Rho} (h : g d ρ = some ρ1) (h2 : gs ds ρ1 = some ρ') : gsCons g gs (d :: ds) ρ = some ρ' := by
  show (g d ρ).bind _ = _
  rw [h]
  exact h2
theorem tg_nil : gsNil [] ρ = some ρ := rfl
theorem st_for {src : Rho → Option (List D)} {mg : D → Rho → Option Rho} {mb : Rho → Option Res} (h : src ρ = some ds) (h2 : loopD mg mb ds ρ = R) : mFor src mg mb ρ = R := by
  unfold mFor
  rw [h]
  exact h2
theorem st_frz (h : ρ[i]? = some (.own ds)) (h2 : ρ.set i (.dat (.list ds)) = ρ') (h3 : a ρ' = R) : mFrz i a ρ = R := by
  unfold mFrz
  rw [h]
  show a (ρ.set i (.dat (.list ds))) = R
  rw [h2, h3]
theorem put_at {z : Int} {n : Nat} (h : m ρ = some d) (h2 : ma ρ = some (.int z)) (h3 : ρ[i]? = some (.own ds)) (h4 : ixN ds.length z = some n) (h5 : ρ.set i (.own (ds.set n d)) = ρ') : mPut i ma m ρ = some (.nx ρ') := by
  unfold mPut
  have e : putCell (some (.own ds)) (.int z) d = some (ds.set n d) := by
    show (ixN ds.length z).map _ = _
    rw [h4]
    rfl
  rw [h, Option.bind_some, h2, Option.bind_some, h3, e, ← h5]
  rfl
/-! walks -/
theorem src_seq (h : m ρ = some d) (h2 : seqOf d = some ds) : mSeqOf m ρ = some ds := by
  unfold mSeqOf
  rw [h]
  exact h2
theorem seq_l : seqOf (.list ds) = some ds := rfl
theorem seq_t : seqOf (.tuple ds) = some ds := rfl
theorem src_2 {g : List D → Option (List D)} (h : mr ρ = some ds) (h2 : g ds = some es) : mL2 g mr ρ = some es := by
  unfold mL2
  rw [h]
  exact h2
theorem zip_ok {xs ys : List D} (h : seqOf x = some xs) (h2 : seqOf y = some ys) : wZip [x, y] = some (zipD xs ys) := by
  show (seqOf x).bind _ = _
  rw [h, Option.bind_some, h2]
  rfl
theorem enum_ok {xs : List D} (h : seqOf x = some xs) : wEnumerate [x] = some (enumFrom 0 xs) := by
  show (seqOf x).map _ = _
  rw [h]
  rfl
/-! expressions -/
theorem ex_2 (h : ma ρ = some x) (h2 : mb ρ = some y) (h3 : g2 x y = some d) : m2 g2 ma mb ρ = some d := by
  unfold m2
  rw [h, Option.bind_some, h2]
  exact h3
theorem ex_1 (h : ma ρ = some x) (h3 : g1 x = some d) : m1 g1 ma ρ = some d := by
  unfold m1
  rw [h]
  exact h3
theorem ex_c : mC d ρ = some d := rfl
theorem ex_fn (h : mr ρ = some ds) (h2 : gl ds = some d) : mFn gl mr ρ = some d := by
  unfold mFn
  rw [h]
  exact h2
theorem ex_call0 {mf : List D → Option D} (h : mr ρ = some ds) (h2 : mf ds = some d) : mCall mf [] mr ρ = some d := by
  unfold mCall
  rw [h]
  show mf (ds ++ []) = _
  rw [List.append_nil]
  exact h2
theorem ex_call {mf : List D → Option D} {dds : List D} (h : mr ρ = some ds) (h2 : mf (ds ++ dds) = some d) : mCall mf dds mr ρ = some d := by
  unfold mCall
  rw [h]
  exact h2
theorem ar_nil : mNil ρ = some [] := rfl
theorem ar_cons (h : ma ρ = some d) (h2 : mr ρ = some ds) : mCons ma mr ρ = some (d :: ds) := by
  unfold mCons
  rw [h, Option.bind_some, h2]
  rfl
theorem len_0 {n : Nat} : ([] : List D).length ≤ n := Nat.zero_le _
theorem len_s {n : Nat} (h : ds.length ≤ n) : (d :: ds).length ≤ n + 1 := Nat.succ_le_succ h
theorem ex_tup (h : mr ρ = some ds) (h2 : ds.length ≤ 100000) : mTup mr ρ = some (.tuple ds) := by
  unfold mTup
  rw [h]
  exact if_pos h2
theorem ex_lst (h : mr ρ = some ds) (h2 : ds.length ≤ 100000) : mLst mr ρ = some ds := by
  unfold mLst
  rw [h]
  exact if_pos h2
theorem ex_l (h : mr ρ = some ds) : mL mr ρ = some (.list ds) := by
  unfold mL
  rw [h]
  rfl
theorem bo_as (h : m ρ = some (.bool t)) : mAsB m ρ = some t := by
  unfold mAsB
  rw [h]
  rfl
theorem bo_tru (h : m ρ = some d) (h2 : dTru d = some t) : mTru m ρ = some t := by
  unfold mTru
  rw [h]
  exact h2
theorem bo_and (h : mt ρ = some t) (h2 : (if t = true then mu ρ else some false) = some u) : mAnd mt mu ρ = some u := by
  unfold mAnd
  rw [h]
  exact h2
theorem bo_or (h : mt ρ = some t) (h2 : (if t = true then some true else mu ρ) = some u) : mOr mt mu ρ = some u := by
  unfold mOr
  rw [h]
  exact h2
theorem bo_not (h : mt ρ = some t) (h2 : (!t) = u) : mNot mt ρ = some u := by
  unfold mNot
  rw [h, ← h2]
  rfl
theorem not_t : (!true) = false := rfl
theorem not_f : (!false) = true := rfl
theorem ex_and (h : mAsB ma ρ = some t) (h2 : (if t = true then mb ρ else some (.bool false)) = some d) : mAndV ma mb ρ = some d := by
  unfold mAndV
  rw [h]
  exact h2
theorem ex_or (h : mAsB ma ρ = some t) (h2 : (if t = true then some (.bool true) else mb ρ) = some d) : mOrV ma mb ρ = some d := by
  unfold mOrV
  rw [h]
  exact h2
theorem ex_not (h : mAsB ma ρ = some t) (h2 : (!t) = u) : mNotV ma ρ = some (.bool u) := by
  unfold mNotV
  rw [h, ← h2]
  rfl
theorem ex_if (h : mt ρ = some t) (h2 : (if t = true then ma ρ else mb ρ) = some d) : mIf mt ma mb ρ = some d := by
  unfold mIf
  rw [h]
  exact h2
theorem ite_t {α : Type} {x y z : α} (h : t = true) (h2 : x = z) : (if t = true then x else y) = z := by rw [if_pos h, h2]
theorem ite_f {α : Type} {x y z : α} (h : t = false) (h2 : y = z) : (if t = true then x else y) = z := by rw [h]; exact h2
theorem ite_tt {α : Type} {x y z : α} {inst : Decidable (true = true)} (h2 : x = z) : @ite α (true = true) inst x y = z := by rw [if_pos rfl, h2]
theorem ite_ff {α : Type} {x y z : α} {inst : Decidable (false = true)} (h2 : y = z) : @ite α (false = true) inst x y = z := by rw [if_neg Bool.false_ne_true, h2]
theorem ite_dt {α : Type} {x y z : α} {p : Prop} [Decidable p] (h : p) (h2 : x = z) : (if decide p = true then x else y) = z := by rw [if_pos (decide_eq_true h), h2]
theorem ite_df {α : Type} {x y z : α} {p : Prop} [Decidable p] (h : ¬ p) (h2 : y = z) : (if decide p = true then x else y) = z := by rw [if_neg (by simpa using h), h2]
theorem ite_et {α : Type} {x y z : α} {p q : Int} (h : p = q) (h2 : x = z) : (if (p == q) = true then x else y) = z := by rw [if_pos (by simpa using h), h2]
theorem ite_ef {α : Type} {x y z : α} {p q : Int} (h : p ≠ q) (h2 : y = z) : (if (p == q) = true then x else y) = z := by rw [if_neg (by simpa using h), h2]
/-! operations -/
section
variable {p q : Int}
theorem op_add' : dAdd (.int p) (.int q) = some (.int (p + q)) := rfl
theorem op_addL (h : ds.length + es.length ≤ 100000) : dAdd (.list ds) (.list es) = some (.list (ds ++ es)) := if_pos h
theorem op_addT (h : ds.length + es.length ≤ 100000) : dAdd (.tuple ds) (.tuple es) = some (.tuple (ds ++ es)) := if_pos h
theorem op_sub' : dSub (.int p) (.int q) = some (.int (p - q)) := rfl
theorem op_neg' : dNeg (.int p) = some (.int (-p)) := rfl
theorem op_lt' : dLt (.int p) (.int q) = some (.bool (decide (p < q))) := rfl
theorem op_le' : dLe (.int p) (.int q) = some (.bool (decide (p ≤ q))) := rfl
theorem op_gt' : dGt (.int p) (.int q) = some (.bool (decide (q < p))) := rfl
theorem op_ge' : dGe (.int p) (.int q) = some (.bool (decide (q ≤ p))) := rfl
theorem op_pow' (h : 0 ≤ q ∧ q ≤ 1000 ∧ p.natAbs < 2 ^ 64) : dPow (.int p) (.int q) = some (.int (p ^ q.toNat)) := if_pos h
theorem op_p18 : dPow (.int 10) (.int 18) = some (.int 1000000000000000000) := by
  rw [op_pow' (by decide)]
  rfl
theorem op_p9 : dPow (.int 10) (.int 9) = some (.int 1000000000) := by
  rw [op_pow' (by decide)]
  rfl
theorem op_p30 : dPow (.int 10) (.int 30) = some (.int 1000000000000000000000000000000) := by
  rw [op_pow' (by decide)]
  rfl
theorem op_eqI : dEq (.int p) (.int q) = some (.bool (p == q)) := by rw [dEq_ok (eqOk_int _ _), eqv_int]
theorem op_neI : dNe (.int p) (.int q) = some (.bool (!(p == q))) := by rw [dNe_ok (eqOk_int _ _), eqv_int]
theorem op_eqS {s z : Str} : dEq (.str s) (.str z) = some (.bool (s == z)) := by rw [dEq_ok (eqOk_str _ _), eqv_str]
theorem op_neS {s z : Str} : dNe (.str s) (.str z) = some (.bool (!(s == z))) := by rw [dNe_ok (eqOk_str _ _), eqv_str]
theorem op_eqSS {s : Str} : dEq (.str s) (.str s) = some (.bool true) := by rw [op_eqS, str_self]
theorem op_neSS {s : Str} : dNe (.str s) (.str s) = some (.bool false) := by rw [op_neS, str_self]; rfl
theorem op_eqB {s z : Bool} : dEq (.bool s) (.bool z) = some (.bool (s == z)) := by rw [dEq_ok (eqOk_bool _ _), eqv_bool]
theorem op_neB {s z : Bool} : dNe (.bool s) (.bool z) = some (.bool (!(s == z))) := by rw [dNe_ok (eqOk_bool _ _), eqv_bool]
theorem op_ixL (h : atI ds p = some d) : dIx (.list ds) (.int p) = some d := h
theorem op_ixT (h : atI ds p = some d) : dIx (.tuple ds) (.int p) = some d := h
theorem at_0 : atI (d :: ds) 0 = some d := atI_nat (j := 0) rfl
theorem atI_cons {k : Nat} : atI (d :: ds) ((k + 1 : Nat) : Int) = atI ds (k : Int) := by
  have nat : ∀ (l : List D) (n : Nat), atI l (n : Int) = l[n]? := fun l n => by
    cases h : l[n]? with
    | some v => exact atI_nat h
    | none =>
      unfold atI ixN
      rw [if_pos (by omega)]
      have := List.getElem?_eq_none_iff.mp h
      rw [if_neg (by omega)]
      rfl
  rw [nat, nat, List.getElem?_cons_succ]
theorem at_s {k : Nat} {z : Int} (e : z = ((k + 1 : Nat) : Int)) (h : atI ds (k : Int) = some d) : atI (d' :: ds) z = some d := by rw [e, atI_cons, h]
theorem at_map {α : Type} {f : α → D} {xs : List α} {k : Nat} {v : α} (h : xs[k]? = some v) : atI (xs.map f) (k : Int) = some (f v) := atI_nat (by rw [List.getElem?_map, h]; rfl)
theorem fn_len : fLen [.list ds] = some (.int ds.length) := rfl
theorem fn_lenT : fLen [.tuple ds] = some (.int ds.length) := rfl
theorem fn_int : fInt [.int p] = some (.int p) := rfl
theorem fn_intB : fInt [.bool t] = some (.int (if t then 1 else 0)) := rfl
theorem abs_at : (if p < 0 then -p else p) = (p.natAbs : Int) := by split <;> omega
theorem fn_abs : fAbs [.int p] = some (.int (p.natAbs : Int)) := by
  show some (PyData.int (if p < 0 then -p else p)) = _
  rw [abs_at]
theorem fn_gcd : fGcd [.int p, .int q] = some (.int ((Nat.gcd p.natAbs q.natAbs : Nat) : Int)) := rfl
theorem fn_tupL : fTuple [.list ds] = some (.tuple ds) := rfl
theorem fn_tupT : fTuple [.tuple ds] = some (.tuple ds) := rfl
theorem fn_lstL : fList [.list ds] = some (.list ds) := rfl
theorem fn_lstT : fList [.tuple ds] = some (.list ds) := rfl
theorem fn_sum {ns : List Int} (h : intsD ds = some ns) : fSum [.list ds] = some (.int ns.sum) := by
  show (intsD ds).map _ = _
  rw [h]
  rfl
end
/-! loops, comprehensions -/
theorem loop_nil {mg : D → Rho → Option Rho} {mb : Rho → Option Res} : loopD mg mb [] ρ = some (.nx ρ) := rfl
theorem loop_cons {mg : D → Rho → Option Rho} {mb : Rho → Option Res} (h1 : mg d ρ = some ρ1) (h2 : mb ρ1 = some (.nx ρ')) (h3 : loopD mg mb ds ρ' = R) : loopD mg mb (d :: ds) ρ = R := by
  rw [loopD, h1, Option.bind_some, h2]
  exact h3
theorem loop_ct {mg : D → Rho → Option Rho} {mb : Rho → Option Res} (h1 : mg d ρ = some ρ1) (h2 : mb ρ1 = some (.ct ρ')) (h3 : loopD mg mb ds ρ' = R) : loopD mg mb (d :: ds) ρ = R := by
  rw [loopD, h1, Option.bind_some, h2]
  exact h3
theorem loop_bk {mg : D → Rho → Option Rho} {mb : Rho → Option Res} (h1 : mg d ρ = some ρ1) (h2 : mb ρ1 = some (.bk ρ')) : loopD mg mb (d :: ds) ρ = some (.nx ρ') := by
  rw [loopD, h1, Option.bind_some, h2]
  rfl
theorem loop_rt {mg : D → Rho → Option Rho} {mb : Rho → Option Res} (h1 : mg d ρ = some ρ1) (h2 : mb ρ1 = some (.rt x)) : loopD mg mb (d :: ds) ρ = some (.rt x) := by
  rw [loopD, h1, Option.bind_some, h2]
  rfl
/-- a loop that goes through every item: the state is told by enc, and P holds of it -/
theorem loop_fold {α S : Type} {mg : D → Rho → Option Rho} {mb : Rho → Option Res} (g : α → D) (enc : S → Rho) (f : S → α → S) (P : S → Prop) : ∀ (xs : List α) (s : S), P s →
    (∀ s x, x ∈ xs → P s → P (f s x) ∧ ∃ ρ1, mg (g x) (enc s) = some ρ1 ∧ mb ρ1 = some (.nx (enc (f s x)))) → loopD mg mb (xs.map g) (enc s) = some (.nx (enc (xs.foldl f s))) ∧ P (xs.foldl f s)
  | [], s, h, _ => ⟨rfl, h⟩
  | x :: xs, s, h, w => by
    obtain ⟨h1, ρ1, h2, h3⟩ := w s x List.mem_cons_self h
    obtain ⟨k1, k2⟩ := loop_fold g enc f P xs (f s x) h1 fun s y hy => w s y (List.mem_cons_of_mem _ hy)
    exact ⟨loop_cons h2 h3 k1, k2⟩
/-- a loop that looks for the first item that is out -/
theorem loop_find {α : Type} {mg : D → Rho → Option Rho} {mb : Rho → Option Res} (g : α → D) (ρ : Rho) (ok : α → Bool) (out : α → D) : ∀ xs : List α,
    (∀ x, x ∈ xs → ∃ ρ1, mg (g x) ρ = some ρ1 ∧ mb ρ1 = some (if ok x = true then .nx ρ else .rt (out x))) → loopD mg mb (xs.map g) ρ = some (match xs.find? (fun x => !ok x) with | some x => .rt (out x) | none => .nx ρ)
  | [], _ => rfl
  | x :: xs, w => by
    obtain ⟨ρ1, h2, h3⟩ := w x List.mem_cons_self
    have ih := loop_find g ρ ok out xs fun y hy => w y (List.mem_cons_of_mem _ hy)
    cases hx : ok x with
    | true =>
      rw [hx] at h3
      rw [List.find?_cons, hx]
      exact loop_cons h2 h3 ih
    | false =>
      rw [hx] at h3
      rw [List.find?_cons, hx]
      exact loop_rt h2 h3
/-- one item of a comprehension -/
def CompEl (mg : D → Rho → Option Rho) (me : Rho → Option D) (ρ : Rho) (vs : List Nat) (d y : D) : Prop := ∃ ρ1, mg d (wipeR ρ vs) = some ρ1 ∧ me ρ1 = some y
theorem comp_el {mg : D → Rho → Option Rho} {me : Rho → Option D} {vs : List Nat} {ρ0 : Rho} {z : D} (h0 : wipeR ρ vs = ρ0) (h1 : mg d ρ0 = some ρ1) (h2 : me ρ1 = some y) (h3 : y = z) : CompEl mg me ρ vs d z := ⟨ρ1, by rw [h0]; exact h1, by rw [h2, h3]⟩
theorem comp_at {α : Type} {mg : D → Rho → Option Rho} {me : Rho → Option D} {vs : List Nat} {src : Rho → Option (List D)} (g f : α → D) (xs : List α) (hs : src ρ = some (xs.map g)) (hl : xs.length < 100000)
    (h : ∀ x ∈ xs, CompEl mg me ρ vs (g x) (f x)) : mLc src mg mYes me vs ρ = some (xs.map f) := by
  unfold mLc
  rw [hs, Option.bind_some, if_pos (by rw [List.length_map]; exact hl)]
  clear hl hs
  have step : ∀ ys : List α, (∀ y ∈ ys, y ∈ xs) → compD mg mYes me (wipeR ρ vs) (ys.map g) = some (ys.map f) := fun ys => by
    induction ys with
    | nil => exact fun _ => rfl
    | cons y ys ih2 =>
      intro hy
      obtain ⟨ρ2, k1, k2⟩ := h y (hy y List.mem_cons_self)
      have k3 := ih2 fun z hz => hy z (List.mem_cons_of_mem _ hz)
      simp only [List.map_cons, compD, mYes, k1, k2, k3, Option.bind_some, if_true, Option.map_some]
  exact step xs fun _ h => h
/-- with a test -/
def CompTs (mg : D → Rho → Option Rho) (mt : Rho → Option Bool) (me : Rho → Option D) (ρ : Rho) (vs : List Nat) (d : D) (b : Bool) (y : D) : Prop := ∃ ρ1, mg d (wipeR ρ vs) = some ρ1 ∧ mt ρ1 = some b ∧ (b = true → me ρ1 = some y)
theorem comp_if {α : Type} {mg : D → Rho → Option Rho} {mt : Rho → Option Bool} {me : Rho → Option D} {vs : List Nat} {src : Rho → Option (List D)} (g f : α → D) (ok : α → Bool) (xs : List α) (hs : src ρ = some (xs.map g)) (hl : xs.length < 100000)
    (h : ∀ x ∈ xs, CompTs mg mt me ρ vs (g x) (ok x) (f x)) : mLc src mg mt me vs ρ = some ((xs.filter ok).map f) := by
  unfold mLc
  rw [hs, Option.bind_some, if_pos (by rw [List.length_map]; exact hl)]
  clear hl hs
  have step : ∀ ys : List α, (∀ y ∈ ys, y ∈ xs) → compD mg mt me (wipeR ρ vs) (ys.map g) = some ((ys.filter ok).map f) := fun ys => by
    induction ys with
    | nil => exact fun _ => rfl
    | cons y ys ih2 =>
      intro hy
      obtain ⟨ρ2, k1, k2, k4⟩ := h y (hy y List.mem_cons_self)
      have k3 := ih2 fun z hz => hy z (List.mem_cons_of_mem _ hz)
      cases hb : ok y with
      | true => simp only [List.map_cons, compD, k1, k2, k3, k4 hb, hb, Option.bind_some, if_true, Option.map_some, List.filter_cons]
      | false => simp only [List.map_cons, compD, k1, k2, k3, hb, Option.bind_some, Bool.false_eq_true, if_false, List.filter_cons]
  exact step xs fun _ h => h
theorem rng_nat {n : Nat} (h : n < 2 ^ 59) : rng1 [.int (n : Int)] = some ((List.range n).map fun (k : Nat) => PyData.int (k : Int)) := by
  rw [rng1_ok (rngOk_i (by omega) (by omega))]
  unfold rangeD
  rw [show ((n : Int) - 0).toNat = n by omega]
  congr 1
  refine List.map_congr_left fun i _ => ?_
  rw [Int.zero_add]
theorem rng_int {z : Int} {n : Nat} (e : z = (n : Int)) (h : n < 2 ^ 59) : rng1 [.int z] = some ((List.range n).map fun (k : Nat) => PyData.int (k : Int)) := by rw [e, rng_nat h]
end
end MV
namespace MV
open PySem PySem.Spec PyProof.Rows L2
theorem eq_self {d : D} (h : okD d) (hd : d.depth ≤ 60) : dEq d d = some (.bool true) := by rw [dEq_ok (eqOk_of h h hd hd), eqv_self h]
theorem ne_self {d : D} (h : okD d) (hd : d.depth ≤ 60) : dNe d d = some (.bool false) := by rw [dNe_ok (eqOk_of h h hd hd), eqv_self h]; rfl
end MV
namespace MV
open PySem PySem.Spec PyProof.Rows L2
section
variable {ρ : Rho} {m : Rho → Option D} {d d' : D} {ml mh : Rho → Option (Option Int)} {lo hi : Option Int} {i : Int} {ds : List D}
theorem cut_ok (h : m ρ = some d) (h2 : ml ρ = some lo) (h3 : mh ρ = some hi) (h4 : dCut lo hi d = some d') : mCut m ml mh ρ = some d' := by
  unfold mCut
  rw [h, Option.bind_some, h2, Option.bind_some, h3]
  exact h4
theorem part_ok (h : m ρ = some (.int i)) : mPart m ρ = some (some i) := by
  unfold mPart
  rw [h]
  rfl
theorem part_no : mNoPart ρ = some none := rfl
theorem cut_l : dCut lo hi (.list ds) = some (.list (cutD ds lo hi)) := rfl
theorem cut_t : dCut lo hi (.tuple ds) = some (.tuple (cutD ds lo hi)) := rfl
theorem sIx_nat (n dflt : Nat) {k : Nat} (h : k ≤ n) : HT.sIx n dflt (some (k : Int)) = k := by
  unfold HT.sIx
  simp only
  split <;> omega
theorem cut_from (ds : List D) {k : Nat} (h : k ≤ ds.length) : cutD ds (some (k : Int)) none = ds.drop k := by
  unfold cutD
  rw [sIx_nat _ _ h]
  show (ds.drop k).take (ds.length - k) = _
  rw [← List.length_drop, List.take_length]
theorem cut_to (ds : List D) {k : Nat} (h : k ≤ ds.length) : cutD ds none (some (k : Int)) = ds.take k := by
  unfold cutD
  rw [sIx_nat _ _ h]
  show (ds.drop 0).take (k - 0) = _
  rw [List.drop_zero, Nat.sub_zero]
theorem at_neg1 {α : Type} (f : α → D) (xs : List α) (x : α) : atI ((xs ++ [x]).map f) (-1) = some (f x) := by
  unfold atI ixN
  rw [if_neg (by decide), if_pos (by rw [List.length_map, List.length_append]; simp; omega)]
  rw [List.length_map, List.length_append, List.length_singleton]
  show ((xs ++ [x]).map f)[(((xs.length + 1 : Nat) : Int) + -1).toNat]? = _
  rw [show (((xs.length + 1 : Nat) : Int) + -1).toNat = xs.length by omega]
  rw [List.getElem?_map, List.getElem?_append_right (Nat.le_refl _), Nat.sub_self]
  rfl
end
theorem some_rfl {α : Type} {x : α} : some x = some x := rfl
end MV

set_option maxRecDepth 100000
set_option maxHeartbeats 4000000
/-! Errors of the program's own classes: made, raised, caught. -/
namespace MV
open PySem PySem.Spec PyProof.Rows L2

/-! ### how such an error is made -/
/-- the first statement of a class -/
def clsInit : Stmt → Stmt
  | .ClassDef _ _ _ (s :: _) _ _ _ _ _ _ _ => s
  | s => s
/-- f(..) with f read off an own class by its name -/
theorem pe_clsfn {X : Cx} {CX : CXT} {k : Nat} {C fI : Addr} {fd : FuncData} {ps : List Str} {sp : Sp} {dvs : List V} {dus : List Value} {E : XK} {x m : Str} {p1 apos pos : Pos} {e : Expr} {es : List Expr} {t : TA} {pl : Sem Bool} {mc : Value}
    (hm : X.mg x = some (.ref C)) (rd : ClX.CRead X.K C mc) (hv : PySem.W.findCls X.K (.ref C) mc m = some (.val (.ref fI))) (hk : PySem.W.keepIn X.K (.ref fI) = true)
    (G : FnOk X.prog X.w X.K X.mg X.base CX k fI fd ps sp) (hr : Room k X.A) (hb : Binds X.K fd ps dus) (hd : Vals dvs dus) (hx : Passes CX X E) (ha : PA X (e :: es) t) (hg : Gl X x := by rfl) (hdb : (x == ("__debug__" : Str)) = false := by decide)
    (hst : starEach (e :: es) X.env = (false, eval e X.env) :: starEach es X.env := by rfl) (hpl : (backTo pos (starEach es X.env)).any (·.1) = false := by rfl)
    (ht : eval (.Call (.Attribute (.Name x p1) m apos) (e :: es) [] pos) X.env = (do
      let ov ← eval (.Name x p1) X.env
      standAt apos.atName
      let (f, first) ← holding [ov] (getMethod ov m pl)
      callWith pos f first (backTo pos (starEach (e :: es) X.env)) (backToKw pos (keywordEach [] X.env))) := by rfl) :
    PE X (.Call (.Attribute (.Name x p1) m apos) (e :: es) [] pos) (tCall sp dvs E t) := by
  refine ⟨fun pins s σ H Q I h => ?_⟩
  refine PySem.W.methodCall_KW (pl := pl) (ld_glob I hg hm ?_ hdb) ht
  refine PySem.W.method_cls I.kIn rd.ga (ClX.getcval_ok (v := V.ref fI) I rd ⟨hv, rfl⟩ fun s1 I1 => ?_)
  exact PySem.W.callWith_K (first := []) (h₀ := X.base) I1.ok.mod.kin hk (thn (ha.run pos pins s1 σ H _ I1 h) fun us s2 ⟨vs, H2, I2, r, q⟩ => ⟨I2.kIn, run_fn G hr hb hd hx I2 r q⟩) hst hpl

/-- a place that an f-string writes -/
def PlaceV (v : V) : Prop := v = .non ∨ (∃ i : Int, v = .int i ∧ i.natAbs.log2 < 1900) ∨ ∃ z : Str, v = .str z ∧ z.length ≤ 10000
/-- what the base class's __init__ does to the new error at a -/
def spB (K : PySem.W.Frag) : Sp := fun vs H Q _ => ∃ (a C : Addr) (w : Str) (pv : V), vs = [.ref a, .str w, pv] ∧ w.length ≤ 100 ∧ PlaceV pv ∧ OexC K C ∧ PySem.W.findIn K (.ref C) "word" = some none ∧ PySem.W.findIn K (.ref C) "place" = some none ∧
  H a = some (exo a C none) ∧ ∀ dx, H dx = none → dx ≠ a → Q .non (upd (upd (upd H dx (exd dx [("word", .str w)])) a (exo a C (some dx))) dx (exd dx [("place", pv), ("word", .str w)]))
theorem spB_len {K : PySem.W.Frag} : ∀ vs H Q E, spB K vs H Q E → vs.length = (["self", "word", "place"] : List Str).length := fun vs H Q E ⟨_, _, _, _, e, _⟩ => by
  subst e
  rfl
def tBI (K : PySem.W.Frag) (at' : Str) : TS := tSeq
    (tIfS (tTest (tOp (fun x y H Q => y = V.non ∧ Q (V.bl (decide (x = V.non))) H) (tVar 2) (tC V.non)))
      (tDrop (tVeI K (tCons (tVar 0) (tCons (tFmt (tVar 1)) tNil))))
      (tDrop (tVeI K (tCons (tVar 0) (tCons (fun σ H Q => tJs [tFmt (tVar 1), tC (V.str at'), tFmt (tVar 2)] Str.empty σ H fun out H1 => Q (V.str out) H1) tNil)))))
    (tSeq (tOst K "word" (tVar 0) (tVar 1)) (tOst K "place" (tVar 0) (tVar 2)))
theorem int_len {i : Int} (h : i.natAbs.log2 < 1900) : (Str.ofString (toString i)).length ≤ 2000 := by
  have e := int_text_length_le (k := 1900) (by decide) h
  rw [PySem.ofString_length]
  omega
theorem spB_pure {K : PySem.W.Frag} {vs : List V} {H : Hp} {Q : VK} {E : XK} {at' : Str} (hat : at'.length ≤ 100) (h : spB K vs H Q E) : tBI K at' { nx := fun _ H' => Q .non H', rt := Q } (L2.start ["self", "word", "place"] vs) H := by
  obtain ⟨a, C, w, pv, rfl, hw, hp, ox, h1, h2, ha, q⟩ := h
  have hs : L2.start ["self", "word", "place"] [V.ref a, .str w, pv] = [some (.ref a), some (.str w), some pv] := rfl
  rw [hs]
  have stores : ∀ {Dn : Ends}, Dn.nx = (fun _ H' => Q .non H') → tSeq (tOst K "word" (tVar 0) (tVar 1)) (tOst K "place" (tVar 0) (tVar 2)) Dn [some (.ref a), some (.str w), some pv] H := by
    intro Dn hD
    refine ⟨.str w, rfl, .ref a, rfl, a, C, rfl, ox, h1, .inl ⟨ha, fun dx n ne => ?_⟩⟩
    refine ⟨pv, rfl, .ref a, rfl, a, C, rfl, ox, h2, .inr ⟨dx, _, upd_same, by rw [upd_ne ne, upd_same], by show 1 ≤ 900; decide, ?_⟩⟩
    rw [hD]
    exact q dx n ne
  have hz : w.length ≤ sizeLine := Nat.le_trans hw (by decide)
  have call : ∀ {z : Str}, z.length ≤ sizeLine → ∀ {R : Prop}, R → ∃ (a' C' : Addr) (ws : List V), [V.ref a, .str z] = .ref a' :: ws ∧ ws.length ≤ 1000 ∧ OexC K C' ∧ H a' = some (exo a' C' none) ∧ R := fun {z} _ {R} r => ⟨a, C, [.str z], rfl, by show 1 ≤ 1000; decide, ox, ha, r⟩
  refine ⟨pv, rfl, rfl, _, rfl, ?_⟩
  by_cases hn : pv = .non
  · rw [decide_eq_true hn]
    refine iteT ?_
    refine ⟨.ref a, rfl, .str w, rfl, .inl ⟨w, rfl, hz, ?_⟩⟩
    exact call hz (stores rfl)
  · rw [decide_eq_false hn]
    refine iteF ?_
    have e1 : (Str.empty ++ w).length ≤ 200 := by
      rw [Str.length_append]
      have : Str.empty.length = 0 := rfl
      omega
    have e2 : (Str.empty ++ w ++ at').length ≤ 300 := by
      rw [Str.length_append]
      omega
    have line : ∀ {n : Nat}, n ≤ 20000 → n ≤ sizeLine := fun h => Nat.le_trans h (by decide)
    have last : ∀ z : Str, z.length ≤ 10000 → ∃ y, V.str z = .str y ∧ (Str.empty ++ w ++ at' ++ y).length ≤ sizeLine ∧ ∃ (a' C' : Addr) (ws : List V), [V.ref a, .str (Str.empty ++ w ++ at' ++ y)] = .ref a' :: ws ∧ ws.length ≤ 1000 ∧ OexC K C' ∧ H a' = some (exo a' C' none) ∧
        tSeq (tOst K "word" (tVar 0) (tVar 1)) (tOst K "place" (tVar 0) (tVar 2)) { nx := fun _ H' => Q .non H', rt := Q } [some (.ref a), some (.str w), some pv] H := fun z hz => by
      have l : (Str.empty ++ w ++ at' ++ z).length ≤ sizeLine := by
        rw [Str.length_append]
        exact line (by omega)
      exact ⟨z, rfl, l, call l (stores rfl)⟩
    refine ⟨.ref a, rfl, .str w, rfl, .inl ⟨w, rfl, hz, w, rfl, line (by omega), at', rfl, line (by omega), pv, rfl, ?_⟩⟩
    rcases hp with hp | ⟨i, rfl, hi⟩ | ⟨z, rfl, hl⟩
    · exact absurd hp hn
    · exact .inr ⟨i, rfl, by omega, last _ (Nat.le_trans (int_len hi) (by decide))⟩
    · exact .inl ⟨z, rfl, line (by omega), last z hl⟩

/-- .. with the place alone: the class's own __init__, its word fixed -/
def spC (K : PySem.W.Frag) (w : Str) : Sp := fun vs H Q E => ∃ (a : Addr) (pv : V), vs = [.ref a, pv] ∧ spB K [.ref a, .str w, pv] H Q E
theorem spC_len {K : PySem.W.Frag} {w : Str} : ∀ vs H Q E, spC K w vs H Q E → vs.length = (["self", "place"] : List Str).length := fun vs H Q E ⟨_, _, e, _⟩ => by
  subst e
  rfl
def noX : XK := fun _ _ _ => False
theorem spC_pure {K : PySem.W.Frag} {vs : List V} {H : Hp} {Q : VK} {E : XK} {w : Str} (h : spC K w vs H Q E) :
    tDrop (tCall (spB K) [] noX (tCons (tVar 0) (tCons (tC (.str w)) (tCons (tVar 1) tNil)))) { nx := fun _ H' => Q .non H', rt := Q } (L2.start ["self", "place"] vs) H := by
  obtain ⟨a, pv, rfl, a', C, w', pv', e, rest⟩ := h
  cases e
  exact ⟨.ref a, rfl, pv, rfl, a, C, w, pv, rfl, rest⟩

section
variable {X : Cx} {pins : List (Addr × Obj)} {σ : L2.St} {H : Hp} {s : Shared} {CX : CXT} {C fI : Addr} {k : Nat} {fd : FuncData} {ps : List Str} {sp : Sp} {dus us : List Value} {dvs vs : List V} {Q : XK}
/-- an own error class that is called, its arguments there -/
theorem run_err (T : OexC X.K C) (hI : PySem.W.findIn X.K (.ref C) "__init__" = some (some (.ref fI))) (hT : PySem.W.typeIn X.K (.ref fI) = some (.type "function")) (G : FnOk X.prog X.w X.K X.mg X.base CX k fI fd ps sp) (hr : Room (k + 1) X.A)
    (hb : Binds X.K fd ps dus) (hd : Vals dvs dus) (hx : Passes CX X noX) (I : L2.Inv X pins σ H s) (r : Vals vs us) (hz : vs.length ≤ 1000)
    (h : ∀ a, H a = none → sp (.ref a :: (vs ++ dvs)) (upd H a (exo a C none)) (fun v H2 => v = .non ∧ ∃ (d : Addr) (fs : List (Str × V)), H2 a = some (exo a C (some d)) ∧ H2 d = some (exd d fs) ∧ H d = none ∧ Q (.ref C) (some d) (upd (L2.del H2 a) d (.xd fs))) noX) :
    wpAny (model X.prog X.w) X.A (call (.ref C) us) (MkP X pins σ Q) X.xe s := by
  obtain ⟨n1, n2, n3, n4, n5, n6, n7, n8, n9, n10, m0, m1, m2, m3, m5, hC, hmro⟩ := T.cls
  obtain ⟨hp, gs, dr, tk, os⟩ := s
  have up1 : hp.objs.size ≤ hp.objs.size + 1 := Nat.le_add_right _ 1
  have spx := h (hp.objs.size + 1) (I.hok.fresh up1)
  have old : ∀ b o, hp.get? b = some o → ((hp.push (PySem.W.kdv_tup us)).push (PySem.HandSPX.excO C hp.objs.size)).get? b = some o := fun b o q => Heap.get?_push_of_some _ (Heap.get?_push_of_some _ q)
  have there : ((hp.push (PySem.W.kdv_tup us)).push (PySem.HandSPX.excO C hp.objs.size)).get? (hp.objs.size + 1) = some (PySem.HandSPX.excO C hp.objs.size) := by heap_get
  have J := I.laid (t' := tk) (a := hp.objs.size + 1) (o := exo (hp.objs.size + 1) C none) (h' := (hp.push (PySem.W.kdv_tup us)).push (PySem.HandSPX.excO C hp.objs.size)) old up1 (exo_ok there)
  have rr : Vals (V.ref (hp.objs.size + 1) :: (vs ++ dvs)) (Value.ref (hp.objs.size + 1) :: (us ++ dus)) := .cons rfl (r.append hd)
  have len1 : (Value.ref (hp.objs.size + 1) :: us ++ dus).length = ps.length := rr.length.symm.trans (G.len _ _ _ _ spx)
  have short : us.length ≤ sizeLine := by
    rw [← Paired.length r]
    exact Nat.le_trans hz (by decide)
  have go := G.run _ X.stack _ _ ⟨Value.ref (hp.objs.size + 1) :: us, []⟩ (Value.ref (hp.objs.size + 1) :: (us ++ dus)) _ _ noX (hr.make C us []) (J.env0.make C us []) (hb _ (Value.ref (hp.objs.size + 1) :: us) J.kIn len1) rr spx
  refine wpAny_call (PySem.HandSPX.call_own F.excBase_ValueError (fun Y => PySem.HandSPX.refsVE_contains Y n5 hmro) (I.kIn _ _ hC) (PySem.W.looks_findIn I.kIn hI) (fun self => PySem.W.bind_fn I.kIn self hT) short (codeAny_mono go fun res s' hq => ?_))
  match res, hq with
  | .error e, hq => exact hx pins σ _ _ e s' J hq
  | .ok (.ret u), hq =>
    obtain ⟨v, H2, os2, bare2, un2, hok2, rv, ev, d, fs, ea, ed, hd1, q2⟩ := hq
    subst ev
    obtain ⟨h2, g2, d2, t2, os'⟩ := s'
    exact ⟨rv, mk_end (raises_own T.exC T.tyC) I up1 old un2 hok2 os2 bare2 ea ed hd1 q2⟩
  | .ok .next, hq => exact False.elim hq
  | .ok .brk, hq => exact False.elim hq
  | .ok .cont, hq => exact False.elim hq
end

/-- an own error class at C, its __init__ at fI -/
structure ErrC (K : PySem.W.Frag) (C fI : Addr) : Prop where
  ox : OexC K C
  nw : PySem.W.findIn K (.ref C) "word" = some none
  np : PySem.W.findIn K (.ref C) "place" = some none
  iC : PySem.W.findIn K (.ref C) "__init__" = some (some (.ref fI))
  tI : PySem.W.typeIn K (.ref fI) = some (.type "function")
/-- what is made of an error class -/
structure MMk (X : Cx) (e : Expr) (m : Rho → Option Exn) : Prop where
  ok : ∀ F0 H0, PMk X e fun σ H Q => ∃ ρ F x, EnvOk X.K F0 H0 F H σ ρ ∧ m ρ = some x ∧ ∀ F' H' cls d, Adv F H F' H' → XAt X F' x cls d → Q cls d H'
def placeOk : D → Bool
  | .none => true
  | .int i => decide (i.natAbs.log2 < 1900)
  | .str z => decide (z.length ≤ 10000)
  | _ => false
theorem placeV_of {K : PySem.W.Frag} {F : Hp} {v : V} {d : D} (p : Dp K F v d) (h : placeOk d = true) : PlaceV v := by
  cases p with
  | non => exact .inl rfl
  | int i => exact .inr (.inl ⟨i, rfl, of_decide_eq_true h⟩)
  | str z => exact .inr (.inr ⟨z, rfl, of_decide_eq_true h⟩)
  | bl b => cases h
  | lst _ _ => cases h
  | tup _ _ => cases h
  | obj _ _ _ => cases h
  | dic _ _ => cases h
def errOf (w : Str) : List D → Option Exn
  | [p] => if placeOk p = true then some ⟨w, [("place", p), ("word", .str w)]⟩ else none
  | _ => none
def mErr (w : Str) (dds : List D) (ma : Rho → Option (List D)) : Rho → Option Exn := fun ρ => (ma ρ).bind fun ds => errOf w (ds ++ dds)
section
variable {X : Cx} {C fI : Addr} {k : Nat} {fd : FuncData} {dus : List Value} {dvs : List V} {dds : List D} {w : Str} {p pos : Pos} {e : Expr} {es : List Expr} {ma : Rho → Option (List D)} {CX : CXT}
theorem err_spec {F1 H1 : Hp} {vs : List V} {ds : List D} {x : Exn} {Q : XK} (T : ErrC X.K C fI) (hw : w.length ≤ 100) (hm : X.mg w = some (.ref C)) (e : Ex F1 H1) (pa : DpAll X.K F1 (vs ++ dvs) ds) (hx : errOf w ds = some x)
    (q : ∀ F' H' cls d, Adv F1 H1 F' H' → XAt X F' x cls d → Q cls d H') (a : Addr) (na : H1 a = none) :
    spC X.K w (.ref a :: (vs ++ dvs)) (upd H1 a (exo a C none)) (fun v H2 => v = .non ∧ ∃ (d : Addr) (fs : List (Str × V)), H2 a = some (exo a C (some d)) ∧ H2 d = some (exd d fs) ∧ H1 d = none ∧ Q (.ref C) (some d) (upd (L2.del H2 a) d (.xd fs))) noX := by
  unfold errOf at hx
  split at hx
  · rename_i pd
    split at hx
    · rename_i hp
      cases hx
      generalize hvv : vs ++ dvs = ws at pa
      cases pa with
      | @cons pv rest _ _ h1 h2 =>
        cases h2
        refine ⟨a, pv, rfl, a, C, w, pv, rfl, hw, placeV_of h1 hp, T.ox, T.nw, T.np, upd_same, fun dx n ne => ⟨rfl, dx, [("place", pv), ("word", .str w)], ?_, upd_same, ?_, ?_⟩⟩
        · rw [upd_ne (Ne.symm ne), upd_same]
        · rw [upd_ne ne] at n
          exact n
        · rw [upd_ne ne] at n
          have eh : upd (L2.del (upd (upd (upd (upd H1 a (exo a C none)) dx (exd dx [("word", .str w)])) a (exo a C (some dx))) dx (exd dx [("place", pv), ("word", .str w)])) a) dx (.xd [("place", pv), ("word", .str w)]) = upd H1 dx (.xd [("place", pv), ("word", .str w)]) := by
            funext b
            by_cases hb : b = dx
            · rw [hb, upd_same, upd_same]
            · rw [upd_ne hb, upd_ne hb]
              by_cases hb2 : b = a
              · rw [hb2, L2.del_same, na]
              · rw [L2.del_ne hb2, upd_ne hb, upd_ne hb2, upd_ne hb, upd_ne hb2]
          rw [eh]
          refine q (upd F1 dx (.xd [("place", pv), ("word", .str w)])) _ _ _ (Adv.laid e n) ⟨C, dx, _, hm, rfl, rfl, upd_same, rfl, ?_⟩
          exact .cons (dp_ex (Ex.new (e.none n)) _ _ h1) (.cons (.str _) .nil)
    · cases hx
  · cases hx
theorem mmk_err (T : ErrC X.K C fI) (G : FnOk X.prog X.w X.K X.mg X.base CX k fI fd ["self", "place"] (spC X.K w)) (hr : Room (k + 1) X.A) (hm : X.mg w = some (.ref C)) (hb : Binds X.K fd ["self", "place"] dus) (hd : Vals dvs dus) (hdd : ∀ F : Hp, DpAll X.K F dvs dds)
    (hx : Passes CX X noX) (ha : MAE X (e :: es) ma) (hw : w.length ≤ 100 := by decide) (hg : Gl X w := by rfl) (hdb : (w == ("__debug__" : Str)) = false := by decide)
    (hst : starEach (e :: es) X.env = (false, eval e X.env) :: starEach es X.env := by rfl) (hpl : (backTo pos (starEach es X.env)).any (·.1) = false := by rfl) : MMk X (.Call (.Name w p) (e :: es) [] pos) (mErr w dds ma) :=
  ⟨fun F0 H0 => by
    intro pins s σ H Q I ⟨ρ, F, x, e1, e2, q⟩
    unfold mErr at e2
    cases hma : ma ρ with
    | none => rw [hma] at e2; cases e2
    | some ds =>
      rw [hma] at e2
      replace e2 : errOf w (ds ++ dds) = some x := e2
      refine wpAny_Call_Name_kw (ld_glob I hg hm (PySem.W.callWith_K (h₀ := X.base) I.ok.mod.kin T.ox.kC (thn ((ha.ok F0 H0).run pos pins s σ H (fun vs H1 => ∃ F1, Adv F H F1 H1 ∧ DpAll X.K F1 vs ds) I ⟨ρ, F, ds, e1, hma, fun vs F1 H1 a1 pa => ⟨F1, a1, pa⟩⟩) fun us s1 ⟨vs, H1, I1, r, F1, a1, pa⟩ => ⟨I1.kIn, ?_⟩) hst hpl) hdb)
      have l : vs.length ≤ 1000 := by
        have e3 := dal_len pa
        unfold errOf at e2
        split at e2
        · rename_i heq
          have := congrArg List.length heq
          rw [List.length_append, List.length_singleton] at this
          omega
        · cases e2
      exact run_err T.ox T.iC T.tI G hr hb hd hx I1 r l (err_spec T hw hm a1.fh (dal_app pa (hdd F1)) e2 fun F' H' cls d a x => q F' H' cls d (a1.trans a) x)⟩
theorem mmk_err0 (T : ErrC X.K C fI) (G : FnOk X.prog X.w X.K X.mg X.base CX k fI fd ["self", "place"] (spC X.K w)) (hr : Room (k + 1) X.A) (hm : X.mg w = some (.ref C)) (hb : Binds X.K fd ["self", "place"] dus) (hd : Vals dvs dus) (hdd : ∀ F : Hp, DpAll X.K F dvs dds)
    (hx : Passes CX X noX) (hw : w.length ≤ 100 := by decide) (hg : Gl X w := by rfl) (hdb : (w == ("__debug__" : Str)) = false := by decide) : MMk X (.Call (.Name w p) [] [] pos) (mErr w dds mNil) :=
  ⟨fun F0 H0 => by
    intro pins s σ H Q I ⟨ρ, F, x, e1, e2, q⟩
    replace e2 : errOf w dds = some x := e2
    exact wpAny_Call_Name_kw (ld_glob I hg hm (PySem.W.callWith_K0 I.kIn T.ox.kC (run_err (us := []) (vs := []) T.ox T.iC T.tI G hr hb hd hx I .nil (Nat.zero_le _) (err_spec T hw hm e1.fh (hdd F) e2 fun F' H' cls d a x => q F' H' cls d a x))) hdb)⟩
def mRaise (m : Rho → Option Exn) : Rho → Option Res := fun ρ => (m ρ).map fun x => .ex x ρ
theorem ms_raise {W : WX} {m : Rho → Option Exn} (hc : X.calm = true) (tk : Takes X W) (h : MMk X e m) : MS X W (.Raise (some e) none pos) (mRaise m) :=
  ⟨fun F0 H0 => ps_weak (ps_raise hc tk (h.ok F0 H0)) fun Dn σ H ⟨ρ, F, r, e1, e2, q⟩ => by
    unfold mRaise at e2
    cases hx : m ρ with
    | none => rw [hx] at e2; cases e2
    | some x =>
      rw [hx] at e2
      cases e2
      exact ⟨ρ, F, x, e1, hx, fun F' H' cls d a xa => q σ F' H' cls d (e1.go a) xa⟩⟩
end

/-! ### defs that may raise -/
inductive Out where
  | ok (d : D)
  | er (e : Exn)
def XA (K : PySem.W.Frag) (mg : Str → Option Value) (F : Hp) (e : Exn) (cls : Value) (d : Option Addr) : Prop := ∃ (C dx : Addr) (vs : List (Str × V)), mg e.tag = some (.ref C) ∧ cls = .ref C ∧ d = some dx ∧ F dx = some (.xd vs) ∧ vs.map (·.1) = e.fs.map (·.1) ∧ DpAll K F (vs.map (·.2)) (e.fs.map (·.2))
theorem XA.go {K : PySem.W.Frag} {mg : Str → Option Value} {F F' : Hp} {e : Exn} {cls : Value} {d : Option Addr} (f : Ex F F') (h : XA K mg F e cls d) : XA K mg F' e cls d := by
  obtain ⟨C, dx, vs, h1, h2, h3, h4, h5, h6⟩ := h
  exact ⟨C, dx, vs, h1, h2, h3, f _ _ h4, h5, dpa_ex f _ _ h6⟩
def GoO (K : PySem.W.Frag) (mg : Str → Option Value) (F H : Hp) (Q : VK) (E : XK) : Out → Prop
  | .ok d => ∀ v F' H', Adv F H F' H' → Dp K F' v d → Q v H'
  | .er e => ∀ F' H' cls dd, Adv F H F' H' → XA K mg F' e cls dd → E cls dd H'
def spX (K : PySem.W.Frag) (mg : Str → Option Value) (m : List D → Option Out) (vs : List V) (H : Hp) (Q : VK) (E : XK) : Prop := ∃ F ds o, Ex F H ∧ DpAll K F vs ds ∧ m ds = some o ∧ GoO K mg F H Q E o
structure FnX (P : Program) (w : World) (K : PySem.W.Frag) (mg : Str → Option Value) (base : Heap) (k : Nat) (f : Addr) (fd : FuncData) (ps : List Str) (m : List D → Option Out) : Prop where
  len : ∀ ds d, m ds = some d → ds.length = ps.length
  run : ∀ (A : Around) (outer : List Env) (s : Shared) (H : Hp) (args : Args) (us : List Value) (vs : List V) (Q : VK) (E : XK), A.guards = some [] → Room k A → Env0 P w K mg base A outer s H →
    BindsTo s fd args (ps.zip us) → Vals vs us → spX K mg m vs H Q E → codeAny (model P w) A (.call (.ref f) args) (CR (L2.CX P w) outer P w H s Q E) s
def runDefX (n j : Nat) (body : Rho → Option Res) : List D → Option Out := fun ds => if ds.length = n then (body (ds.map Cell.dat ++ List.replicate j Cell.un)).bind fun r => match r with
  | .rt d => some (.ok d)
  | .nx _ => some (.ok .none)
  | .ro es => some (.ok (.list es))
  | .ex e _ => some (.er e)
  | _ => none else none
section
variable {P : Program} {w : World} {K : PySem.W.Frag} {mg : Str → Option Value} {base : Heap}
theorem fn_defX {x qual : Str} {st : Stmt} {f : Addr} {fd : FuncData} {N ps : List Str} {k : Nat} {body : Rho → Option Res} {dvs : List V} {kws : List (Str × V)} (D0 : FunD K x qual (defArgs st) (defBody st) (defScope st) dvs kws f fd) (S : FnScope N ps (defScope st))
    (hbody : ∀ (cdv : Value) (A : Around) (outer : List Env) (s : Shared) (H : Hp) (E : XK), (A.deeper (envOfC qual (defScope st) s.heap.objs.size f cdv)).guards = some [] → Room k (A.deeper (envOfC qual (defScope st) s.heap.objs.size f cdv)) →
      MSs (cxOf (L2.CX P w) P w K mg base N qual (defScope st) f cdv A outer s H E) (fun cls d _ H' => E cls d H') (defBody st) body) : FnX P w K mg base (k + 1) f fd ps (runDefX ps.length (N.length - ps.length) body) := by
  obtain ⟨oc, od, dV, kV, doc, pm, an, cdv, ct, osl, rfl, lk, hcd, _, _⟩ := D0.ex
  have len : ∀ ds d, runDefX ps.length (N.length - ps.length) body ds = some d → ds.length = ps.length := fun ds d h => by
    unfold runDefX at h
    split at h
    · assumption
    · cases h
  refine ⟨len, fun A outer s H args us vs Q E hG hr e0 hb r h => ?_⟩
  obtain ⟨F, ds, o, ex, pa, hm, q⟩ := h
  have hl := len ds o hm
  have hv := dal_len pa
  have base_kept : ∀ b o, base.get? b = some o → s.heap.get? b = some o := fun b o z => (e0.bs b o z).1
  have KX : K.In s.heap := e0.mod.kin.keeps base_kept
  have hkind : ∀ y ∈ ps.zip us, (defScope st).names.lookup y.1 = some .local ∨ ((defScope st).names.lookup y.1 = some .cell ∧ ((cellsFrom (s.heap.objs.size + 1) (defScope st).names []).lookup y.1).isSome = true) := fun y hy =>
    (S.par y.1 (List.of_mem_zip (a := y.1) (b := y.2) hy).1).imp id fun c => ⟨c, PySem.W.cellsFrom_some _ _ _ (.inl c)⟩
  refine codeAny_call_function hr.depth (KX _ _ lk) rfl S.co S.gen rfl (PySem.W.codeRec_of KX hcd) (hb _ _ _ _ (wpAny_newFunctionEnv_cells S.kind hkind fun env he s1 z => ?_))
  subst he
  refine ⟨(e0.mod.nolimit.keeps base_kept).keeps z.toInCall.keep, codeAny_func ?_⟩
  have ht := (hbody cdv A outer s H E hG (hr.deeper _)).ok F H
  have I : L2.Inv (cxOf (L2.CX P w) P w K mg base N qual (defScope st) f cdv A outer s H E) [] (start N vs) H s1 := inv_start S hr.hd e0 (hv.trans hl) r z
  have hpl : ps.length ≤ N.length := by
    have h1 := congrArg List.length S.pre
    rw [List.length_take] at h1
    omega
  have start_ok := env_start (N := N) ex pa (by omega)
  rw [show N.length - vs.length = N.length - ps.length by omega] at start_ok
  unfold runDefX at hm
  rw [if_pos hl] at hm
  cases hbd : body (ds.map Cell.dat ++ List.replicate (N.length - ps.length) Cell.un) with
  | none => rw [hbd] at hm; cases hm
  | some res =>
    rw [hbd] at hm
    have goal : tS (cxOf (L2.CX P w) P w K mg base N qual (defScope st) f cdv A outer s H E) F H (fun cls d _ H' => E cls d H') body { nx := fun _ H' => Q .non H', rt := Q } (start N vs) H := by
      refine ⟨_, F, res, start_ok, hbd, ?_⟩
      cases res with
      | rt d' =>
        cases hm
        exact q
      | nx ρ' =>
        cases hm
        exact fun σ' F' H' e' => q .non F' H' e'.toAdv .non
      | bk ρ' => cases hm
      | ct ρ' => cases hm
      | ro es =>
        cases hm
        exact fun p vs F' H' a z0 z1 z2 z3 => q _ _ _ (a.freeze z0 z1 z2) (.lst (SqL.of upd_same) (dpa_ex (Ex.new z1) _ _ z3))
      | rs d ρ' => cases hm
      | ex e ρ' =>
        cases hm
        exact fun σ' F' H' cls dd e' xa => q F' H' cls dd e'.toAdv xa
    refine wpAny_mono (ht.run [] s1 (start N vs) H _ I goal) (fun fl s' hs => ?_) fun _ _ z => z
    match fl, hs with
    | .ret u, ⟨v, σ', H', J, rv, z⟩ => exact ⟨v, H', J.os, J.bare, J.base, J.hok, rv, z⟩
    | .next, ⟨σ', H', J, z⟩ => exact ⟨V.non, H', J.os, J.bare, J.base, J.hok, rfl, z⟩
    | .brk, ⟨_, _, _, z⟩ => exact False.elim z
    | .cont, ⟨_, _, _, z⟩ => exact False.elim z
end

/-! expressions that may raise -/
def tX (X : Cx) (F0 H0 : Hp) (W : WX) (m : Rho → Option Out) : TE := fun σ H Q => ∃ ρ F o, EnvOk X.K F0 H0 F H σ ρ ∧ m ρ = some o ∧ GoO X.K X.mg F H Q (fun cls dd H' => W cls dd σ H') o
structure MX (X : Cx) (W : WX) (e : Expr) (m : Rho → Option Out) : Prop where
  ok : ∀ F0 H0, PE X e (tX X F0 H0 W m)
def mCallX (mf : List D → Option Out) (dds : List D) (ma : Rho → Option (List D)) : Rho → Option Out := fun ρ => (ma ρ).bind fun ds => mf (ds ++ dds)
def m2X (g : D → D → Option D) (ma : Rho → Option Out) (mb : Rho → Option D) : Rho → Option Out := fun ρ => (ma ρ).bind fun o => match o with
  | .ok x => (mb ρ).bind fun y => (g x y).map .ok
  | .er e => some (.er e)
def outS (k : D → Res) (ρ : Rho) : Out → Res
  | .ok d => k d
  | .er e => .ex e ρ
def mDropX (m : Rho → Option Out) : Rho → Option Res := fun ρ => (m ρ).map (outS (fun _ => .nx ρ) ρ)
def mSetX (i : Nat) (m : Rho → Option Out) : Rho → Option Res := fun ρ => (m ρ).map (outS (fun d => .nx (ρ.set i (.dat d))) ρ)
def mRetX (m : Rho → Option Out) : Rho → Option Res := fun ρ => (m ρ).map (outS .rt ρ)
def mIfX (m : Rho → Option Out) (a b : Rho → Option Res) : Rho → Option Res := fun ρ => (m ρ).bind fun o => match o with
  | .ok d => (asB d).bind fun t => if t = true then a ρ else b ρ
  | .er e => some (.ex e ρ)
section
variable {X : Cx} {W : WX} {k : Nat} {f : Addr} {fd : FuncData} {ps : List Str} {mf : List D → Option Out} {dvs : List V} {dus : List Value} {dds : List D} {x : Str} {p pos pos' : Pos} {e a b : Expr} {es : List Expr} {ma : Rho → Option (List D)} {m mo : Rho → Option Out} {mb : Rho → Option D} {i : Nat}
theorem mx_call (G : FnX X.prog X.w X.K X.mg X.base k f fd ps mf) (hG : X.A.guards = some []) (hr : Room k X.A) (tk : Takes X W) (hm : X.mg x = some (.ref f)) (hk : PySem.W.keepIn X.K (.ref f) = true) (hb : Binds X.K fd ps dus) (hd : Vals dvs dus) (hdd : ∀ F : Hp, DpAll X.K F dvs dds)
    (ha : MAE X (e :: es) ma) (hg : Gl X x := by rfl) (hdb : (x == ("__debug__" : Str)) = false := by decide) (hst : starEach (e :: es) X.env = (false, eval e X.env) :: starEach es X.env := by rfl) (hpl : (backTo pos (starEach es X.env)).any (·.1) = false := by rfl) :
    MX X W (.Call (.Name x p) (e :: es) [] pos) (mCallX mf dds ma) := ⟨fun F0 H0 => ⟨fun pins s σ H Q I ⟨ρ, F, o, e1, e2, q⟩ => by
  unfold mCallX at e2
  cases hx : ma ρ with
  | none => rw [hx] at e2; cases e2
  | some ds =>
    rw [hx] at e2
    replace e2 : mf (ds ++ dds) = some o := e2
    refine wpAny_Call_Name_kw (ld_glob I hg hm (PySem.W.callWith_K (h₀ := X.base) I.ok.mod.kin hk (thn ((ha.ok F0 H0).run pos pins s σ H (fun vs H1 => ∃ F1, Adv F H F1 H1 ∧ DpAll X.K F1 vs ds) I ⟨ρ, F, ds, e1, hx, fun vs F1 H1 a1 pa => ⟨F1, a1, pa⟩⟩) fun us s1 ⟨vs, H1, I1, r, F1, a1, pa⟩ => ⟨I1.kIn, ?_⟩) hst hpl) hdb)
    have r2 := r.append hd
    have pa2 := dal_app pa (hdd F1)
    have hl : (us ++ dus).length = ps.length := by
      have l1 := G.len _ _ e2
      have l2 := dal_len pa2
      rw [← r2.length]
      omega
    have sp : spX X.K X.mg mf (vs ++ dvs) H1 Q (WE W σ) := ⟨F1, ds ++ dds, o, a1.fh, pa2, e2, by
      cases o with
      | ok d => exact fun v F' H' a2 pd => q v F' H' (a1.trans a2) pd
      | er x => exact fun F' H' cls dd a2 xa => q F' H' cls dd (a1.trans a2) xa⟩
    refine wpAny_call (codeAny_mono (G.run X.A X.stack s1 H1 ⟨us, []⟩ (us ++ dus) (vs ++ dvs) Q (WE W σ) hG hr I1.env0 (hb s1 us I1.kIn hl) r2 sp) fun res s' hq => ?_)
    match res, hq with
    | .error er, hq => exact passAt tk σ pins H1 s1 er s' I1 hq
    | .ok (.ret u), hq => exact I1.after hq
    | .ok .next, hq => exact False.elim hq
    | .ok .brk, hq => exact False.elim hq
    | .ok .cont, hq => exact False.elim hq⟩⟩
theorem two_readX {g : D → D → Option D} {F0 H0 : Hp} {σ : L2.St} {H : Hp} {Q : VK} (h : tX X F0 H0 W (m2X g m mb) σ H Q) : tOp (rD X.K g) (tX X F0 H0 W m) (tT X.K F0 H0 mb) σ H Q := by
  obtain ⟨ρ, F, o, e1, e2, q⟩ := h
  unfold m2X at e2
  cases hx : m ρ with
  | none => rw [hx] at e2; cases e2
  | some o1 =>
    rw [hx] at e2
    refine ⟨ρ, F, o1, e1, hx, ?_⟩
    cases o1 with
    | er x =>
      cases e2
      exact q
    | ok dx =>
      replace e2 : ((mb ρ).bind fun y => (g dx y).map Out.ok) = some o := e2
      cases hy : mb ρ with
      | none => rw [hy] at e2; cases e2
      | some dy =>
        rw [hy] at e2
        cases hz : g dx dy with
        | none => simp [hz] at e2
        | some d =>
          replace e2 : Out.ok d = o := by simpa [hz] using e2
          subst e2
          exact fun v F1 H1 a1 p1 => ⟨ρ, F1, dy, e1.go a1, hy, fun v2 F2 H2 a2 t2 => ⟨F2, dx, dy, d, a2.fh, .inl (dp_ex a2.f _ _ p1), t2, hz, fun v3 F3 H3 a3 p3 => q v3 F3 H3 ((a1.trans a2).trans a3) p3⟩⟩
theorem mx_cmp {op : CmpOp} {g : D → D → Option D} (ho : OpD X (compareOp op) g) (ha : MX X W a m) (hb : MT X b mb) (hm : behindInMarks op b = false := by first | exact nomark _ | rfl) : MX X W (.Compare a [op] [b] pos) (m2X g m mb) :=
  ⟨fun F0 H0 => pe_weak (pe_cmpR ho.ok (ha.ok F0 H0) (hb.ok F0 H0) hm) fun _ _ _ h => two_readX h⟩
/-- a test that may raise -/
def GoB (K : PySem.W.Frag) (mg : Str → Option Value) (F H : Hp) (Q : Bool → Hp → Prop) (E : XK) : Out → Prop
  | .ok d => ∃ b, d = .bool b ∧ ∀ F' H', Adv F H F' H' → Q b H'
  | .er e => ∀ F' H' cls dd, Adv F H F' H' → XA K mg F' e cls dd → E cls dd H'
def tXB (X : Cx) (F0 H0 : Hp) (W : WX) (m : Rho → Option Out) : TT := fun σ H Q => ∃ ρ F o, EnvOk X.K F0 H0 F H σ ρ ∧ m ρ = some o ∧ GoB X.K X.mg F H Q (fun cls dd H' => W cls dd σ H') o
structure MXB (X : Cx) (W : WX) (e : Expr) (m : Rho → Option Out) : Prop where
  ok : ∀ F0 H0, PT X e (tXB X F0 H0 W m)
theorem goB_go {K : PySem.W.Frag} {mg : Str → Option Value} {F H : Hp} {Q : Bool → Hp → Prop} {E : XK} {o : Out} (h : GoB K mg F H Q E o) : GoO K mg F H (fun x H' => ∃ k, x = .bl k ∧ Q k H') E o := by
  cases o with
  | er e => exact h
  | ok d =>
    obtain ⟨b, rfl, q⟩ := h
    exact fun v F' H' a p => ⟨b, (by cases p; rfl), q F' H' a⟩
theorem mxb_cmp {op : CmpOp} {g : D → D → Option D} (ho : OpD X (compareOp op) g) (ha : MX X W a m) (hb : MT X b mb) (hm : behindInMarks op b = false := by first | exact nomark _ | rfl) : MXB X W (.Compare a [op] [b] pos) (m2X g m mb) :=
  ⟨fun F0 H0 => pt_weak (pt_cmpR ho.ok (ha.ok F0 H0) (hb.ok F0 H0) hm) fun σ H Q ⟨ρ, F, o, e1, e2, q⟩ => two_readX (F0 := F0) (H0 := H0) (Q := fun x H' => ∃ k, x = .bl k ∧ Q k H') ⟨ρ, F, o, e1, e2, goB_go q⟩⟩
theorem mxb_val (h : MX X W e m) (he : ∀ whole, isTrue e X.env whole = (do let v ← whole; standAt e.pos; holding [v] (truthy v)) := by intro _; rfl) : MXB X W e m :=
  ⟨fun F0 H0 => pt_weak (pt_val (h.ok F0 H0) he) fun σ H Q ⟨ρ, F, o, e1, e2, q⟩ => ⟨ρ, F, o, e1, e2, goB_go q⟩⟩
theorem ms_dropX (he : MX X W e m) (hs : swapsWith e none pos.line X.env = pure false := by rfl) : MS X W (.Expr e pos) (mDropX m) := ⟨fun F0 H0 => ps_weak (ps_expr (he.ok F0 H0) hs) fun Dn σ H ⟨ρ, F, r, e1, e2, q⟩ => by
  unfold mDropX at e2
  cases hx : m ρ with
  | none => rw [hx] at e2; cases e2
  | some o =>
    rw [hx] at e2
    cases e2
    refine ⟨ρ, F, o, e1, hx, ?_⟩
    cases o with
    | ok d => exact fun v F' H' a p => q σ F' H' (e1.go a)
    | er x => exact fun F' H' cls dd a xa => q σ F' H' cls dd (e1.go a) xa⟩
theorem ms_retX (he : MX X W e m) : MS X W (.Return (some e) pos) (mRetX m) := ⟨fun F0 H0 => ps_weak (ps_ret (he.ok F0 H0)) fun Dn σ H ⟨ρ, F, r, e1, e2, q⟩ => by
  unfold mRetX at e2
  cases hx : m ρ with
  | none => rw [hx] at e2; cases e2
  | some o =>
    rw [hx] at e2
    cases e2
    refine ⟨ρ, F, o, e1, hx, ?_⟩
    cases o with
    | ok d => exact fun v F' H' a p => q v F' H' (e1.toAdv.trans a) p
    | er x => exact fun F' H' cls dd a xa => q σ F' H' cls dd (e1.go a) xa⟩
theorem ms_setX (hN : X.N.Nodup) (he : MX X W e m) (hi : X.N[i]? = some x := by rfl) (hx : Loc X.env.scope x := by first | exact Or.inl rfl | exact Or.inr rfl) (hs : swapsWith e (some (.Name x pos')) pos.line X.env = pure false := by rfl)
    (hf : X.fn x = true ∨ X.env.scope.names.lookup x = some .local := by first | exact .inl rfl | exact .inr rfl | assumption) : MS X W (.Assign [.Name x pos'] e pos) (mSetX i m) :=
  ⟨fun F0 H0 => ps_weak (ps_set hN hi hx (he.ok F0 H0) hs hf) fun Dn σ H ⟨ρ, F, r, e1, e2, q⟩ => by
    unfold mSetX at e2
    cases hy : m ρ with
    | none => rw [hy] at e2; cases e2
    | some o =>
      rw [hy] at e2
      cases e2
      refine ⟨ρ, F, o, e1, hy, ?_⟩
      cases o with
      | ok d => exact fun v F' H' a p => q _ F' H' ((e1.go a).setD p)
      | er x => exact fun F' H' cls dd a xa => q σ F' H' cls dd (e1.go a) xa⟩
theorem ms_ifX {c : Expr} {sa sb : List Stmt} {m1 m2 : Rho → Option Res} (hc : MXB X W c m) (ha : MSs X W sa m1) (hb : MSs X W sb m2) : MS X W (.If c sa sb pos) (mIfX m m1 m2) :=
  ⟨fun F0 H0 => ps_weak (ps_if (hc.ok F0 H0) (ha.ok F0 H0) (hb.ok F0 H0)) fun Dn σ H ⟨ρ, F, r, e1, e2, q⟩ => by
    unfold mIfX at e2
    cases hx : m ρ with
    | none => rw [hx] at e2; cases e2
    | some o =>
      rw [hx] at e2
      refine ⟨ρ, F, o, e1, hx, ?_⟩
      cases o with
      | er x =>
        cases e2
        exact fun F' H' cls dd a xa => q σ F' H' cls dd (e1.go a) xa
      | ok d =>
        replace e2 : ((asB d).bind fun t => if t = true then m1 ρ else m2 ρ) = some r := e2
        cases ht : asB d with
        | none => rw [ht] at e2; cases e2
        | some t =>
          rw [ht] at e2
          replace e2 : (if t = true then m1 ρ else m2 ρ) = some r := e2
          refine ⟨t, asB_some ht, fun F1 H1 a1 => ?_⟩
          cases t with
          | true => exact iteT ⟨ρ, F1, r, e1.go a1, e2, q⟩
          | false => exact iteF ⟨ρ, F1, r, e1.go a1, e2, q⟩⟩
end

/-! ### try .. except C as e: what the suite reads of e -/
/-- what a class must have, so that a suite reads its errors -/
structure ErrR (K : PySem.W.Frag) (C : Addr) : Prop where
  xf : XfC K C
  cl : PySem.W.isClsIn K C = true
  ha : PySem.W.findIn K (.ref C) "__class__" = some (some (.builtin "object.__class__"))
  hn : PySem.W.specialIn K (.builtin "object.__class__") "__get__" = some (some (.builtin "getset_descriptor.__get__"))
  ht : PySem.W.takesIn K (.builtin "object.__class__") = some true
  hm : PySem.W.mroIn K C (.type "object") = some true
/-- a suite's place: X's, the error x at a (in slot i), its class, its dict -/
structure Su where
  X : Cx
  i : Nat
  a : Addr
  oe : Obj
  pn : List (Addr × Obj)
  x : Exn
  cls : Value
  dd : Option Addr
  hz : Zc cls dd oe
  hf : ∃ vs, oe.data = .fields vs
def Su.Y (S : Su) : Cx := S.X.suite S.a ((S.a, S.oe) :: S.pn)
structure SuP (S : Su) (F : Hp) (σ : L2.St) : Prop where
  sl : σ[S.i]? = some (some (.ref S.a))
  xa : XAt S.X F S.x S.cls S.dd
theorem SuP.go {S : Su} {F F' : Hp} {σ : L2.St} (p : SuP S F σ) (f : Ex F F') : SuP S F' σ := ⟨p.sl, XA.go f p.xa⟩
def qE (S : Su) (F0 H0 : Hp) (m : Rho → Option D) : TE := fun σ H Q => ∃ ρ F d, EnvOk S.X.K F0 H0 F H σ ρ ∧ SuP S F σ ∧ m ρ = some d ∧ ∀ v F' H', Adv F H F' H' → Dp S.X.K F' v d → Q v H'
def qB (S : Su) (F0 H0 : Hp) (m : Rho → Option Bool) : TT := fun σ H Q => ∃ ρ F b, EnvOk S.X.K F0 H0 F H σ ρ ∧ SuP S F σ ∧ m ρ = some b ∧ ∀ F' H', Adv F H F' H' → Q b H'
def qA (S : Su) (F0 H0 : Hp) (m : Rho → Option (List D)) : TA := fun σ H Q => ∃ ρ F ds, EnvOk S.X.K F0 H0 F H σ ρ ∧ SuP S F σ ∧ m ρ = some ds ∧ ∀ vs F' H', Adv F H F' H' → DpAll S.X.K F' vs ds → Q vs H'
def qS (S : Su) (F0 H0 : Hp) (m : Rho → Option Res) : TS := fun Dn σ H => ∃ ρ F r, EnvOk S.X.K F0 H0 F H σ ρ ∧ SuP S F σ ∧ m ρ = some r ∧ Goes S.X F0 H0 noW Dn r
structure QE (S : Su) (e : Expr) (m : Rho → Option D) : Prop where
  ok : ∀ F0 H0, PE S.Y e (qE S F0 H0 m)
structure QB (S : Su) (e : Expr) (m : Rho → Option Bool) : Prop where
  ok : ∀ F0 H0, PT S.Y e (qB S F0 H0 m)
structure QW (S : Su) (e : Expr) (m : Rho → Option Bool) : Prop where
  ok : ∀ F0 H0, PW S.Y e (qB S F0 H0 m)
structure QA (S : Su) (es : List Expr) (m : Rho → Option (List D)) : Prop where
  ok : ∀ F0 H0, PA S.Y es (qA S F0 H0 m)
structure QS (S : Su) (st : Stmt) (m : Rho → Option Res) : Prop where
  ok : ∀ F0 H0, PS S.Y st (qS S F0 H0 m)
structure QSs (S : Su) (st : List Stmt) (m : Rho → Option Res) : Prop where
  ok : ∀ F0 H0, PSs S.Y st (qS S F0 H0 m)
def mFld (x : Exn) (tags : List Str) (f : Str) : Rho → Option D := fun _ => if x.tag ∈ tags then x.fs.lookup f else none
/-- an answer by the error's class -/
def mIsE (x : Exn) (t : List (Str × Bool)) : Rho → Option Bool := fun _ => t.lookup x.tag
def mIsV (x : Exn) (t : List (Str × Bool)) : Rho → Option D := fun ρ => (mIsE x t ρ).map .bool
section
variable {S : Su} {e a b : Expr} {es : List Expr} {m ma mb : Rho → Option D} {n x xT f : Str} {p pT pT' pos : Pos}
theorem qe_me (h : ME S.Y e m) : QE S e m := ⟨fun F0 H0 => pe_weak (h.ok F0 H0) fun σ H Q ⟨ρ, F, d, e1, _, e2, q⟩ => ⟨ρ, F, d, e1, e2, q⟩⟩
theorem lookup_dp {K : PySem.W.Frag} {F : Hp} {f : Str} {d : D} : ∀ {vs : List (Str × V)} {fs : List (Str × D)}, vs.map (·.1) = fs.map (·.1) → DpAll K F (vs.map (·.2)) (fs.map (·.2)) → fs.lookup f = some d → ∃ v, vs.lookup f = some v ∧ Dp K F v d
  | [], [], _, _, h => by cases h
  | [], _ :: _, h, _, _ => by cases h
  | _ :: _, [], h, _, _ => by cases h
  | (g, v) :: vs, (g', d') :: fs, h, pa, hl => by
    injection h with h1 h2
    replace h1 : g = g' := h1
    subst h1
    cases pa with
    | cons r t =>
      by_cases hg : (f == g) = true
      · simp [List.lookup, hg] at hl ⊢
        subst hl
        exact r
      · have hg' : (f == g) = false := by simpa using hg
        simp only [List.lookup, hg'] at hl ⊢
        exact lookup_dp h2 t hl
theorem qe_fld {tags : List Str} (hT : ∀ t ∈ tags, ∀ C, S.X.mg t = some (.ref C) → XfC S.X.K C ∧ PySem.W.findIn S.X.K (.ref C) f = some none) (hN : S.Y.N[S.i]? = some n := by rfl) (hv : Vis S.Y.env.scope n := by first | exact Or.inl rfl | exact Or.inr (Or.inl rfl) | exact Or.inr (Or.inr rfl))
    (hd : (n == ("__debug__" : Str)) = false := by decide) (hcd : (n == ("__classdict__" : Str)) = false := by decide) (hb : attributeBase (.Name n p) f S.X.env (eval (.Name n p) S.X.env) = eval (.Name n p) S.X.env := by rfl) :
    QE S (.Attribute (.Name n p) f pos) (mFld S.x tags f) := ⟨fun F0 H0 => ⟨fun pins s σ H Q I ⟨ρ, F, d, e1, sp, e2, q⟩ => by
  unfold mFld at e2
  split at e2
  · rename_i ht
    obtain ⟨C, dx, vs, hm, hc, hdx, hF, hnm, hpa⟩ := sp.xa
    obtain ⟨T, hno⟩ := hT _ ht C hm
    obtain ⟨v, hl, pd⟩ := lookup_dp hnm hpa e2
    exact (pe_xf (X := S.X) T hno S.hz S.hf (pe_var hN hv hd hcd) hb).run pins s σ H Q I ⟨_, sp.sl, rfl, hc, dx, vs, v, hdx, e1.fh _ _ hF, hl, q v F H (Adv.refl e1.fh) pd⟩
  · cases e2⟩⟩
theorem call_isX {X : Cx} {a D : Addr} {dd : Option Addr} {oe : Obj} {pn : List (Addr × Obj)} {od : Option Obj} (T : ErrR X.K D) (hz : Zc (.ref D) dd oe) (hf : ∃ vs, oe.data = .fields vs) {pins : List (Addr × Obj)} {σ : L2.St} {H : Hp} {s : Shared} {us : List Value} {c : V} {cv : Value} {b : Bool} {Q : VK}
    (I : L2.Inv (X.suite a ((a, oe) :: pn)) pins σ H s) (hd : (match dd, od with | none, none => True | some d, some o => s.heap.get? d = some o | _, _ => False)) (r : Vals [.ref a, c] us) (hc : ∀ u, RelV c u → u = cv) (hk : PySem.W.kitOne X.K (.ref D) cv = some b) (q : Q (.bl b) H) :
    wpAny (model X.prog X.w) (X.suite a ((a, oe) :: pn)).A (call (.builtin "isinstance") us) (EP (X.suite a ((a, oe) :: pn)) pins σ Q) (X.suite a ((a, oe) :: pn)).xe s := by
  cases r with
  | cons r1 r2 =>
    cases r2 with
    | cons r2 r3 =>
      cases r3
      cases r1
      have hcv := hc _ r2
      subst hcv
      obtain ⟨hget, _⟩ := I.pin (a, oe) (List.mem_append_left _ List.mem_cons_self)
      obtain ⟨vs, hv⟩ := hf
      have J : PySem.W.InstAt s.heap a oe D od := by
        obtain ⟨oc, od', oda, osl⟩ := oe
        obtain ⟨k1, k2⟩ := hz
        dsimp only at k1 k2 hv
        subst k1 k2 hv
        refine ⟨hget, rfl, rfl, ?_⟩
        cases od' <;> cases od <;> first | trivial | exact hd | exact hd.elim
      exact PySem.W.kia_one (PySem.W.kitx_exc (od := od) T.cl T.xf.ga T.xf.gg T.xf.exC T.ha T.hn T.ht T.hm) I.kIn J hk (fun z => nomatch z) fun tk => ⟨.bl b, H, I.kept (t' := tk) fun _ _ z => z, rfl, q⟩
/-- isinstance(e, C), e the suite's error; C read as the class cv -/
theorem qe_isi {t : List (Str × Bool)} {c : V} {cv : Value} (hm : S.X.mg x = none) (hC : PE S.Y (.Name xT pT) (tC c)) (hc : ∀ u, RelV c u → u = cv) (hT : ∀ k bb, t.lookup k = some bb → ∀ C, S.X.mg k = some (.ref C) → ErrR S.X.K C ∧ PySem.W.kitOne S.X.K (.ref C) cv = some bb)
    (hvb : bootBuiltins x = some (.builtin "isinstance") := by decide +kernel) (hN : S.Y.N[S.i]? = some n := by rfl) (hv : Vis S.Y.env.scope n := by first | exact Or.inl rfl | exact Or.inr (Or.inl rfl) | exact Or.inr (Or.inr rfl))
    (hd : (n == ("__debug__" : Str)) = false := by decide) (hcd : (n == ("__classdict__" : Str)) = false := by decide) (hg : Gl S.Y x := by rfl) (hn : x ≠ "__name__" := by decide) (hdb : (x == ("__debug__" : Str)) = false := by decide)
    (s1 : starEach (.Name n p :: [.Name xT pT]) S.Y.env = (false, eval (.Name n p) S.Y.env) :: starEach [.Name xT pT] S.Y.env := by rfl) (s2 : starEach (.Name xT pT :: []) S.Y.env = (false, eval (.Name xT pT) S.Y.env) :: starEach [] S.Y.env := by rfl)
    (hpl : (backTo pos (starEach [.Name xT pT] S.Y.env)).any (·.1) = false := by rfl) : QE S (.Call (.Name x pT') [.Name n p, .Name xT pT] [] pos) (mIsV S.x t) :=
  ⟨fun F0 H0 => ⟨fun pins s σ H Q I ⟨ρ, F, d, e1, sp, e2, q⟩ => by
    replace e2 : (mIsE S.x t ρ).map PyData.bool = some d := e2
    cases hl : mIsE S.x t ρ with
    | none => rw [hl] at e2; cases e2
    | some bb =>
      rw [hl] at e2
      cases e2
      obtain ⟨C, dx, vs, hmg, hcc, hdx, hF, hnm, hpa⟩ := sp.xa
      obtain ⟨T, hk⟩ := hT _ _ hl C hmg
      have args : PA S.Y [.Name n p, .Name xT pT] (tCons (tVar S.i) (tCons (tC c) tNil)) := pa_cons (pe_var hN hv hd hcd) (pa_cons hC pa_nil s2) s1
      have hz' : Zc (.ref C) (some dx) S.oe := by
        have := S.hz
        rw [hcc, hdx] at this
        exact this
      refine wpAny_Call_Name_kw (ld_blt I hg hm hvb ?_ hn hdb)
      refine PyProof.Rows.callWith_builtin1 (thn (args.run pos pins s σ H (fun ws H1 => ws = [.ref S.a, c] ∧ H1 = H) I ⟨_, sp.sl, rfl, rfl⟩) fun us s1 ⟨ws, H1, I1, r, ew, eh⟩ => ?_) s1 hpl
      subst ew eh
      obtain ⟨mA, hns, _⟩ : ObjOk S.X.prog S.X.w H1 s1.heap dx (.xd vs) := I1.hok dx _ (e1.fh _ _ hF)
      obtain ⟨od, ho, _⟩ := lookIn_ns hns
      exact call_isX (X := S.X) (dd := some dx) (od := some od) T hz' S.hf I1 ho r hc hk (q _ F H1 (Adv.refl e1.fh) (.bl bb))⟩⟩
theorem qb_val (h : QE S e m) (he : ∀ whole, isTrue e S.Y.env whole = (do let v ← whole; standAt e.pos; holding [v] (truthy v)) := by intro _; rfl) : QB S e (mAsB m) :=
  ⟨fun F0 H0 => pt_weak (pt_val (h.ok F0 H0) he) fun σ H Q ⟨ρ, F, t, e1, sp, e2, q⟩ => ⟨ρ, F, _, e1, sp, mAsB_some e2, fun v F' H' adv pd => ⟨t, (by cases pd; rfl), q F' H' adv⟩⟩⟩
theorem qb_not {mt : Rho → Option Bool} (h : QB S a mt) : QB S (.UnaryOp .Not a pos) (mNot mt) :=
  ⟨fun F0 H0 => pt_weak (pt_not (h.ok F0 H0)) fun σ H Q ⟨ρ, F, t, e1, sp, e2, q⟩ => by
    unfold mNot at e2
    cases hx : mt ρ with
    | none => rw [hx] at e2; cases e2
    | some u =>
      rw [hx] at e2
      cases e2
      exact ⟨ρ, F, u, e1, sp, hx, q⟩⟩
theorem QW.toB {mt : Rho → Option Bool} (h : QW S e mt) : QB S e mt := ⟨fun F0 H0 => (h.ok F0 H0).pt⟩
theorem qw_or1 {mt : Rho → Option Bool} (h : QB S a mt) : QW S (.BoolOp .Or [a] pos) mt := ⟨fun F0 H0 => pw_or1 (h.ok F0 H0)⟩
theorem qw_or {m1 m2 : Rho → Option Bool} (h : QB S a m1) (h2 : QW S (.BoolOp .Or (b :: es) pos) m2) : QW S (.BoolOp .Or (a :: b :: es) pos) (mOr m1 m2) :=
  ⟨fun F0 H0 => pw_weak (pw_or (h.ok F0 H0) (h2.ok F0 H0)) fun σ H Q ⟨ρ, F, t, e1, sp, e2, q⟩ => by
    unfold mOr at e2
    cases hx : m1 ρ with
    | none => rw [hx] at e2; cases e2
    | some u =>
      rw [hx] at e2
      replace e2 : (if u = true then some true else m2 ρ) = some t := e2
      refine ⟨ρ, F, u, e1, sp, hx, fun F1 H1 a1 => ?_⟩
      cases u with
      | true =>
        cases e2
        exact iteT (q F1 H1 a1)
      | false => exact iteF ⟨ρ, F1, t, e1.go a1, sp.go a1.f, e2, fun F2 H2 a2 => q F2 H2 (a1.trans a2)⟩⟩
theorem qa_nil : QA S [] mNil := ⟨fun F0 H0 => pa_weak pa_nil fun σ H Q ⟨ρ, F, ds, e1, sp, e2, q⟩ => by
  cases e2
  exact q [] F H (Adv.refl e1.fh) .nil⟩
theorem qa_cons {mr : Rho → Option (List D)} (ha : QE S e ma) (hr : QA S es mr) (hs : starEach (e :: es) S.Y.env = (false, eval e S.Y.env) :: starEach es S.Y.env := by rfl) : QA S (e :: es) (mCons ma mr) :=
  ⟨fun F0 H0 => pa_weak (pa_cons (ha.ok F0 H0) (hr.ok F0 H0) hs) fun σ H Q ⟨ρ, F, ds, e1, sp, e2, q⟩ => by
    obtain ⟨d1, dr, h1, h2, rfl⟩ := mCons_some e2
    exact ⟨ρ, F, d1, e1, sp, h1, fun v1 F1 H1 a1 t1 => ⟨ρ, F1, dr, e1.go a1, sp.go a1.f, h2, fun vs F2 H2 a2 t2 => q _ F2 H2 (a1.trans a2) (.cons (dp_ex a2.f _ _ t1) t2)⟩⟩⟩
theorem qe_tup {k} {mr : Rho → Option (List D)} (h : QA S es mr) : QE S (.Tuple es k pos) (mTup mr) := ⟨fun F0 H0 => pe_weak (pe_tup (h.ok F0 H0)) fun σ H Q ⟨ρ, F, d, e1, sp, e2, q⟩ => by
  unfold mTup at e2
  cases hx : mr ρ with
  | none => rw [hx] at e2; cases e2
  | some ds =>
    rw [hx] at e2
    replace e2 : (if ds.length ≤ 100000 then some (PyData.tuple ds) else none) = some d := e2
    split at e2
    · cases e2
      rename_i hz
      exact ⟨ρ, F, ds, e1, sp, hx, fun vs F1 H1 a1 t1 => ⟨sz_of (by rw [(dal_len t1)]; exact hz), fun p hp => q _ _ _ (a1.trans (Adv.laid a1.fh hp)) (.tup (SqT.of upd_same) (dpa_ex (Ex.new (a1.fh.none hp)) _ _ t1))⟩⟩
    · cases e2⟩
theorem qs_ret (h : QE S e m) : QS S (.Return (some e) pos) (mRet m) := ⟨fun F0 H0 => ps_weak (ps_ret (h.ok F0 H0)) fun Dn σ H ⟨ρ, F, r, e1, sp, e2, q⟩ => by
  unfold mRet at e2
  cases hx : m ρ with
  | none => rw [hx] at e2; cases e2
  | some d =>
    rw [hx] at e2
    cases e2
    exact ⟨ρ, F, d, e1, sp, hx, fun v F' H' adv pd => q v F' H' (e1.toAdv.trans adv) pd⟩⟩
theorem qs_pass : QS S (.Pass pos) mSkip := ⟨fun F0 H0 => ps_weak ps_pass fun Dn σ H ⟨ρ, F, r, e1, sp, e2, q⟩ => by
  cases e2
  exact q σ F H e1⟩
theorem qss_nil : QSs S [] mSkip := ⟨fun F0 H0 => pss_weak pss_nil fun Dn σ H ⟨ρ, F, r, e1, sp, e2, q⟩ => by
  cases e2
  exact q σ F H e1⟩
theorem qss_one {st : Stmt} {mr : Rho → Option Res} (h : QS S st mr) : QSs S [st] mr := ⟨fun F0 H0 => pss_one (h.ok F0 H0)⟩
/-- if c: .., with a rest that may follow -/
def mGuard (mt : Rho → Option Bool) (m1 m2 : Rho → Option Res) : Rho → Option Res := fun ρ => (mt ρ).bind fun t => if t = true then m1 ρ else m2 ρ
/-- if c: return e; then the rest: the suite's form -/
theorem qss_guard {c : Expr} {rest : List Stmt} {pr : Pos} {mt : Rho → Option Bool} {m1 : Rho → Option D} {m2 : Rho → Option Res} (hc : QB S c mt) (h1 : QE S e m1) (h2 : QSs S rest m2) : QSs S (.If c [.Return (some e) pr] [] pos :: rest) (mGuard mt (mRet m1) m2) :=
  ⟨fun F0 H0 => pss_weak (pss_cons (ps_if (hc.ok F0 H0) (pss_one (ps_ret (h1.ok F0 H0))) pss_nil) (h2.ok F0 H0)) fun Dn σ H ⟨ρ, F, r, e1, sp, e2, q⟩ => by
    unfold mGuard at e2
    cases hx : mt ρ with
    | none => rw [hx] at e2; cases e2
    | some t =>
      rw [hx] at e2
      replace e2 : (if t = true then mRet m1 ρ else m2 ρ) = some r := e2
      refine ⟨ρ, F, t, e1, sp, hx, fun F1 H1 a1 => ?_⟩
      cases t with
      | true =>
        replace e2 : mRet m1 ρ = some r := e2
        unfold mRet at e2
        cases hy : m1 ρ with
        | none => rw [hy] at e2; cases e2
        | some d =>
          rw [hy] at e2
          cases e2
          exact iteT ⟨ρ, F1, d, e1.go a1, sp.go a1.f, hy, fun v F2 H2 a2 pd => q v F2 H2 ((e1.go a1).toAdv.trans a2) pd⟩
      | false => exact iteF ⟨ρ, F1, r, e1.go a1, sp.go a1.f, e2, q⟩⟩
end

theorem takes_no {X : Cx} (_ : ∀ e s, X.xe e s → False) : Takes X noW := fun u s' ⟨_, _, _, _, _, _, _, _, _, _, _, _, _, _, _, _, w⟩ => w.elim
theorem EnvOk.setU {K : PySem.W.Frag} {F0 H0 F H : Hp} {σ : L2.St} {ρ : Rho} (e : EnvOk K F0 H0 F H σ ρ) (i : Nat) (o : Option V) : EnvOk K F0 H0 F H (σ.set i o) (ρ.set i .un) := by
  have old : ∀ {j : Nat} {c : Cell}, (ρ.set i .un)[j]? = some c → c ≠ .un → ρ[j]? = some c ∧ (σ.set i o)[j]? = σ[j]? := fun {j c} h hc => by
    rcases getElem?_set_cases h with ⟨_, hd, _⟩ | ⟨hne, hj⟩
    · exact absurd hd hc
    · exact ⟨hj, List.getElem?_set_ne (Ne.symm hne)⟩
  refine ⟨e.adv, e.new, by simpa using e.len, fun j d hj => ?_, fun j ds hj => ?_, fun j k ds es p g1 g2 g3 g4 => ?_, fun j a hj => by
    obtain ⟨h1, h2⟩ := old hj (fun z => nomatch z)
    rw [h2]
    exact e.rf j a h1, e.obs_set (fun _ _ z => nomatch z) (fun _ z => nomatch z)⟩
  · obtain ⟨h1, h2⟩ := old hj (fun z => nomatch z)
    rw [h2]
    exact e.dat j d h1
  · obtain ⟨h1, h2⟩ := old hj (fun z => nomatch z)
    rw [h2]
    exact e.own j ds h1
  · obtain ⟨h1, h2⟩ := old g1 (fun z => nomatch z)
    obtain ⟨h3, h4⟩ := old g2 (fun z => nomatch z)
    rw [h2] at g3
    rw [h4] at g4
    exact e.dist j k ds es p h1 h3 g3 g4
def endS (i : Nat) : Res → Option Res
  | .ex _ _ => none
  | .rs _ _ => none
  | r => some (postR [i] r)
def mTry (i : Nat) (mb : Rho → Option Res) (exm : List (Str × Bool)) (msu : Exn → Rho → Option Res) : Rho → Option Res := fun ρ => (mb ρ).bind fun r => match r with
  | .ex e ρ1 => (exm.lookup e.tag).bind fun b => if b = true then (if i < ρ1.length then (msu e (ρ1.set i .un)).bind (endS i) else none) else some (.ex e ρ1)
  | r => some r
theorem ms_try {X : Cx} {W : WX} {x n : Str} {C : Addr} {i : Nat} {body suite : List Stmt} {b₀ : Stmt} {np pos pos' : Pos} {mb : Rho → Option Res} {exm : List (Str × Bool)} {msu : Exn → Rho → Option Res} (hN : X.N.Nodup) (hm : X.mg x = some (.ref C)) (tk : Takes X W)
    (hb : ∀ (W' : WX) (pn : List (Addr × Obj)) (xe : Value → Shared → Prop), Takes (X.tr pn xe) W' → PassesOwn (model X.prog X.w) X.A X.env xe → MSs (X.tr pn xe) W' body mb)
    (hsu : ∀ a oe pn y cls dd hz hf, QSs ⟨X, i, a, oe, pn, y, cls, dd, hz, hf⟩ (b₀ :: suite) (msu y))
    (hex : ∀ k bb, exm.lookup k = some bb → ∀ D, X.mg k = some (.ref D) → PySem.W.exmOne X.K (.ref D) (.ref C) = some bb) (hs : X.stack = X.env :: X.outer := by rfl) (hf : X.env.frame = some X.env.locals := by rfl) (hi : X.N[i]? = some n := by rfl) (hln : X.env.kindOf n = some .local := by rfl)
    (hg : Gl X x := by rfl) (hdb : (x == ("__debug__" : Str)) = false := by decide) : MS X W (.Try body [.ExceptHandler (some (.Name x np)) (some n) (b₀ :: suite) pos'] [] [] pos) (mTry i mb exm msu) := by
  refine ⟨fun F0 H0 => ?_⟩
  let dum : Value → Option Addr → Obj := fun c d => { cls := c, dict := d, data := .fields #[] }
  let su : Addr → Value → Option Addr → Exn → Su := fun a cls dd y => ⟨X, i, a, dum cls dd, [], y, cls, dd, ⟨rfl, rfl⟩, ⟨_, rfl⟩⟩
  refine ps_weak (ps_try_as (i := i) (c := .ref C) (Wout := W) (tb := fun W' => tS X F0 H0 W' mb) (ts := fun a cls dd Dn σ H => ∃ y, qS (su a cls dd y) F0 H0 (msu y) Dn σ H) hs hf hN hi hln ⟨hg, hdb, .inl hm⟩ tk
    (fun W' pn xe t p => (hb W' pn xe t p).ok F0 H0) fun a oe cls dd pn hz hfd => ⟨fun pins s σ H Dn I ⟨y, ρ, F, r, e1, sp, e2, q⟩ => ((hsu a oe pn y cls dd hz hfd).ok F0 H0).run pins s σ H Dn I ⟨ρ, F, r, e1, ⟨sp.sl, sp.xa⟩, e2, q⟩⟩) fun Dn σ H ⟨ρ, F, r, e1, e2, q⟩ => ?_
  unfold mTry at e2
  cases hx : mb ρ with
  | none => rw [hx] at e2; cases e2
  | some r1 =>
    rw [hx] at e2
    refine ⟨ρ, F, r1, e1, hx, ?_⟩
    cases r1 with
    | nx ρ1 => cases e2; exact q
    | rt d => cases e2; exact q
    | ro es => cases e2; exact q
    | rs d ρ1 => cases e2; exact q
    | bk ρ1 => cases e2; exact q
    | ct ρ1 => cases e2; exact q
    | ex y ρ1 =>
      replace e2 : ((exm.lookup y.tag).bind fun b => if b = true then (if i < ρ1.length then (msu y (ρ1.set i .un)).bind (endS i) else none) else some (.ex y ρ1)) = some r := e2
      intro σ1 F1 H1 cls dd k1 xa
      cases hl : exm.lookup y.tag with
      | none => rw [hl] at e2; cases e2
      | some bb =>
        rw [hl] at e2
        obtain ⟨D, dx, vs, hmg, hcl, hdx, hrest⟩ := id xa
        refine ⟨bb, by rw [hcl]; exact hex _ _ hl D hmg, fun hbb a na => ?_, fun hbb => ?_⟩
        · subst hbb
          replace e2 : (if i < ρ1.length then (msu y (ρ1.set i .un)).bind (endS i) else none) = some r := e2
          split at e2
          · rename_i hlen
            cases hsm : msu y (ρ1.set i .un) with
            | none => rw [hsm] at e2; cases e2
            | some r2 =>
              rw [hsm] at e2
              replace e2 : endS i r2 = some r := e2
              refine ⟨y, ρ1.set i .un, F1, r2, k1.setU i _, ⟨List.getElem?_set_self (by rw [← k1.len]; exact hlen), xa⟩, hsm, ?_⟩
              cases r2 with
              | ex _ _ => cases e2
              | rt d => cases e2; exact q
              | ro es => cases e2; exact q
              | rs d ρ2 => cases e2
              | nx ρ2 => cases e2; exact fun σ2 F2 H2 k2 => q _ F2 H2 (k2.setU i none)
              | bk ρ2 => cases e2; exact fun σ2 F2 H2 k2 => q _ F2 H2 (k2.setU i none)
              | ct ρ2 => cases e2; exact fun σ2 F2 H2 k2 => q _ F2 H2 (k2.setU i none)
          · cases e2
        · subst hbb
          cases e2
          exact q σ1 F1 H1 cls dd k1 xa
end MV

set_option maxRecDepth 100000
set_option maxHeartbeats 4000000
/-! how the mirrors of errors are worked out -/
namespace MV
open PySem PySem.Spec PyProof.Rows L2
section
variable {ρ ρ1 ρ2 ρ' : Rho} {m : Rho → Option Exn} {mo : Rho → Option Out} {mb : Rho → Option D} {a b : Rho → Option Res} {r r1 r2 : Res} {R : Option Res} {d x y : D} {ds dds : List D} {i : Nat} {g2 : D → D → Option D} {ma : Rho → Option (List D)} {e : Exn} {o o' : Out} {w f : Str} {t : Bool}
def outR : Res → Option Out
  | .rt d => some (.ok d)
  | .nx _ => some (.ok .none)
  | .ro es => some (.ok (.list es))
  | .ex e _ => some (.er e)
  | _ => none
theorem runX_ok {n k : Nat} {body : Rho → Option Res} (h : body (ds.map Cell.dat ++ List.replicate k Cell.un) = some r) (hl : ds.length = n) (e : outR r = some o) : runDefX n k body ds = some o := by
  unfold runDefX
  rw [if_pos hl, h]
  exact e
theorem then_ex : thenR (.ex e ρ) b = some (.ex e ρ) := rfl
theorem post_ex {vs : List Nat} (h : wipeR ρ vs = ρ') : postR vs (.ex e ρ) = .ex e ρ' := by
  rw [← h]
  rfl
theorem st_raise (h : m ρ = some e) : mRaise m ρ = some (.ex e ρ) := by
  unfold mRaise
  rw [h]
  rfl
theorem mk_err (h : ma ρ = some ds) (h2 : errOf w (ds ++ dds) = some e) : mErr w dds ma ρ = some e := by
  unfold mErr
  rw [h]
  exact h2
def errI (w : Str) (p : D) : Exn := ⟨w, [("place", p), ("word", .str w)]⟩
theorem err_int {k : Int} (h : k.natAbs.log2 < 1900) : errOf w ([.int k] ++ []) = some (errI w (.int k)) := if_pos (decide_eq_true h)
theorem err_non : errOf w ([] ++ [.none]) = some (errI w .none) := rfl
theorem loop_ex {mg : D → Rho → Option Rho} {mb : Rho → Option Res} (h1 : mg d ρ = some ρ1) (h2 : mb ρ1 = some (.ex e ρ2)) : loopD mg mb (d :: ds) ρ = some (.ex e ρ2) := by
  rw [loopD, h1, Option.bind_some, h2]
  rfl
def ifXR (a b : Rho → Option Res) (ρ : Rho) : Out → Option Res
  | .ok d => (asB d).bind fun t => if t = true then a ρ else b ρ
  | .er e => some (.ex e ρ)
theorem st_ifX (h : mo ρ = some o) (h2 : ifXR a b ρ o = R) : mIfX mo a b ρ = R := by
  rw [← h2]
  unfold mIfX
  rw [h]
  cases o <;> rfl
theorem ifX_ok (h : (if t = true then a ρ else b ρ) = R) : ifXR a b ρ (.ok (.bool t)) = R := h
theorem ifX_er : ifXR a b ρ (.er e) = some (.ex e ρ) := rfl
def m2R (g : D → D → Option D) (mb : Rho → Option D) (ρ : Rho) : Out → Option Out
  | .ok x => (mb ρ).bind fun y => (g x y).map .ok
  | .er e => some (.er e)
theorem ex_2X (h : mo ρ = some o) (h2 : m2R g2 mb ρ o = some o') : m2X g2 mo mb ρ = some o' := by
  rw [← h2]
  unfold m2X
  rw [h]
  cases o <;> rfl
theorem m2R_er : m2R g2 mb ρ (.er e) = some (.er e) := rfl
theorem m2R_ok (h : mb ρ = some y) (h2 : g2 x y = some d) : m2R g2 mb ρ (.ok x) = some (.ok d) := by
  show ((mb ρ).bind fun y => (g2 x y).map Out.ok) = some (Out.ok d)
  rw [h, Option.bind_some, h2]
  rfl
theorem ex_callX {mf : List D → Option Out} (h : ma ρ = some ds) (h2 : mf ds = some o) : mCallX mf [] ma ρ = some o := by
  unfold mCallX
  rw [h, Option.bind_some, List.append_nil]
  exact h2
def tryR (i : Nat) (exm : List (Str × Bool)) (msu : Exn → Rho → Option Res) : Res → Option Res
  | .ex e ρ1 => (exm.lookup e.tag).bind fun b => if b = true then (if i < ρ1.length then (msu e (ρ1.set i .un)).bind (endS i) else none) else some (.ex e ρ1)
  | r => some r
section
variable {exm : List (Str × Bool)} {msu : Exn → Rho → Option Res} {body : Rho → Option Res}
theorem st_try (h : body ρ = some r) (h2 : tryR i exm msu r = R) : mTry i body exm msu ρ = R := by
  rw [← h2]
  unfold mTry
  rw [h]
  cases r <;> rfl
theorem try_nx : tryR i exm msu (.nx ρ) = some (.nx ρ) := rfl
theorem try_rt : tryR i exm msu (.rt d) = some (.rt d) := rfl
theorem try_ex (h1 : exm.lookup e.tag = some true) (h2 : i < ρ.length) (h3 : ρ.set i .un = ρ1) (h4 : msu e ρ1 = some r) (h5 : endS i r = R) : tryR i exm msu (.ex e ρ) = R := by
  show ((exm.lookup e.tag).bind fun b => if b = true then (if i < ρ.length then (msu e (ρ.set i .un)).bind (endS i) else none) else some (.ex e ρ)) = R
  rw [h1, h3, Option.bind_some, if_pos rfl, if_pos h2, h4]
  exact h5
theorem end_rt : endS i (.rt d) = some (.rt d) := rfl
theorem end_nx (h : wipeR ρ [i] = ρ') : endS i (.nx ρ) = some (.nx ρ') := by
  rw [← h]
  rfl
end
theorem st_guard {mt : Rho → Option Bool} (h : mt ρ = some t) (h2 : (if t = true then a ρ else b ρ) = R) : mGuard mt a b ρ = R := by
  unfold mGuard
  rw [h]
  exact h2
theorem fld_ok {tags : List Str} (h : e.tag ∈ tags) (h2 : e.fs.lookup f = some d) : mFld e tags f ρ = some d := by
  unfold mFld
  rw [if_pos h, h2]
theorem isv_ok {tb : List (Str × Bool)} (h : tb.lookup e.tag = some t) : mIsV e tb ρ = some (.bool t) := by
  unfold mIsV mIsE
  rw [h]
  rfl
/-- a loop that raises at the first item that is out -/
theorem loop_raise {α : Type} {mg : D → Rho → Option Rho} {mb : Rho → Option Res} (g : α → D) (ρ : Rho) (ok : α → Bool) (out : α → Exn) : ∀ xs : List α,
    (∀ x, x ∈ xs → ∃ ρ1, mg (g x) ρ = some ρ1 ∧ (ok x = true → mb ρ1 = some (.nx ρ)) ∧ (ok x = false → ∃ ρ2, mb ρ1 = some (.ex (out x) ρ2))) →
    (xs.find? (fun x => !ok x) = none ∧ loopD mg mb (xs.map g) ρ = some (.nx ρ)) ∨ ∃ x ρ2, xs.find? (fun x => !ok x) = some x ∧ loopD mg mb (xs.map g) ρ = some (.ex (out x) ρ2)
  | [], _ => .inl ⟨rfl, rfl⟩
  | x :: xs, w => by
    obtain ⟨ρ1, h2, h3, h4⟩ := w x List.mem_cons_self
    have ih := loop_raise g ρ ok out xs fun y hy => w y (List.mem_cons_of_mem _ hy)
    cases hx : ok x with
    | true =>
      rw [List.find?_cons, hx]
      rcases ih with ⟨k1, k2⟩ | ⟨z, ρ2, k1, k2⟩
      · exact .inl ⟨k1, loop_cons h2 (h3 hx) k2⟩
      · exact .inr ⟨z, ρ2, k1, loop_cons h2 (h3 hx) k2⟩
    | false =>
      rw [List.find?_cons, hx]
      obtain ⟨ρ2, k⟩ := h4 hx
      exact .inr ⟨x, ρ2, rfl, loop_ex h2 k⟩
end
end MV

set_option maxRecDepth 100000
set_option maxHeartbeats 4000000
/-! while, op=, chains of comparisons, stars, in, comprehensions over two -/
namespace MV
open PySem PySem.Spec PyProof.Rows L2

section
variable {K : PySem.W.Frag} {δ : Addr} {F H F' H' F2 H2 F0 H0 : Hp} {σ σ' : L2.St} {ρ : Rho}
theorem upd_self {H : Hp} {a : Addr} {o : HO} (h : H a = some o) : upd H a o = H := by
  funext b
  by_cases hb : b = a
  · subst hb
    rw [upd_same, h]
  · rw [upd_ne hb]
theorem adv_upd {o2 : HO} (d : F δ = none) (h : H δ ≠ none) (a : Adv F H F' H') : Adv F (upd H δ o2) F' (upd H' δ o2) := by
  have f' : F' δ = none := a.new δ d h
  refine ⟨a.f, a.h.upd2 δ o2, fun x u e => ?_, fun p h1 h2 => ?_⟩
  · rw [upd_ne (ne_of_none e f')]
    exact a.fh x u e
  · by_cases hp : p = δ
    · rw [hp]; exact f'
    · rw [upd_ne hp] at h2
      exact a.new p h1 h2
theorem env_upd {o o2 : HO} (d : F δ = none) (e : EnvOk K F0 (upd H0 δ o) F H σ ρ) : EnvOk K F0 (upd H0 δ o2) F (upd H δ o2) σ ρ := by
  have nd : ∀ {p : Addr}, (upd H0 δ o) p = none → p ≠ δ := fun {p} h z => by
    subst z
    rw [upd_same] at h
    cases h
  refine ⟨⟨e.adv.1, ?_, fun x u h => ?_⟩, fun p h1 h2 => ?_, e.len, e.dat, fun i ds hi => ?_, e.dist, e.rf, e.obs_go (Ex.refl F) (fun j n fs h => ⟨h, rfl⟩) (fun a _ h2 h3 _ => ⟨h2, (by have n := nd h3; rw [upd_ne n] at h3; rw [upd_ne n]; exact h3), upd_ne (nd h3)⟩) fun j es q g1 g2 => .inl ⟨es, g1, g2⟩⟩
  · have h := Ex.upd2 e.adv.2.1 δ o2
    rw [upd_upd] at h
    exact h
  · rw [upd_ne (ne_of_none h d)]
    exact e.adv.2.2 x u h
  · by_cases hp : p = δ
    · rw [hp]; exact d
    · rw [upd_ne hp] at h2
      exact e.new p h1 (by rw [upd_ne hp]; exact h2)
  · obtain ⟨p, vs, h1, h2, h3, h4, h5⟩ := e.own i ds hi
    have n := nd h3
    exact ⟨p, vs, h1, h2, by rw [upd_ne n] at h3 ⊢; exact h3, by rw [upd_ne n]; exact h4, h5⟩
end
/-! ### while -/
def whileN (mt : Rho → Option Bool) (mb : Rho → Option Res) : Nat → Rho → Option Res
  | 0, _ => none
  | n + 1, ρ => (mt ρ).bind fun b => if b = true then (mb ρ).bind fun r => match r with
      | .nx ρ1 => whileN mt mb n ρ1
      | .ct ρ1 => whileN mt mb n ρ1
      | .bk ρ1 => some (.nx ρ1)
      | .rt d => some (.rt d)
      | .ro es => some (.ro es)
      | .rs d ρ1 => some (.rs d ρ1)
      | .ex e ρ1 => some (.ex e ρ1)
    else some (.nx ρ)
open Classical in
noncomputable def mWhile (mt : Rho → Option Bool) (mb : Rho → Option Res) : Rho → Option Res := fun ρ => if h : ∃ n, whileN mt mb n ρ ≠ none then whileN mt mb (Classical.choose h) ρ else none
theorem while_more {mt : Rho → Option Bool} {mb : Rho → Option Res} : ∀ (n k : Nat) (ρ : Rho) (r : Res), whileN mt mb n ρ = some r → whileN mt mb (n + k) ρ = some r
  | 0, _, _, _, h => by cases h
  | n + 1, k, ρ, r, h => by
    rw [show n + 1 + k = (n + k) + 1 by omega]
    unfold whileN at h ⊢
    cases hb : mt ρ with
    | none => rw [hb] at h; cases h
    | some b =>
      rw [hb] at h
      simp only [Option.bind_some] at h ⊢
      cases b with
      | false => exact h
      | true =>
        rw [if_pos rfl] at h ⊢
        cases hr : mb ρ with
        | none => rw [hr] at h; cases h
        | some r1 =>
          rw [hr] at h
          simp only [Option.bind_some] at h ⊢
          cases r1 with
          | nx ρ1 => exact while_more n k ρ1 r h
          | ct ρ1 => exact while_more n k ρ1 r h
          | bk ρ1 => exact h
          | rt d => exact h
          | ro es => exact h
          | rs d ρ1 => exact h
          | ex e ρ1 => exact h
theorem while_at {mt : Rho → Option Bool} {mb : Rho → Option Res} {n : Nat} {ρ : Rho} {r : Res} (h : whileN mt mb n ρ = some r) : mWhile mt mb ρ = some r := by
  have ex : ∃ n, whileN mt mb n ρ ≠ none := ⟨n, by rw [h]; exact fun z => nomatch z⟩
  unfold mWhile
  rw [dif_pos ex]
  have hc := Classical.choose_spec ex
  cases hk : whileN mt mb (Classical.choose ex) ρ with
  | none => exact absurd hk hc
  | some r2 =>
    have h1 := while_more n (Classical.choose ex) ρ r h
    have h2 := while_more (Classical.choose ex) n ρ r2 hk
    rw [Nat.add_comm] at h2
    rw [h1] at h2
    exact h2.symm
theorem while_get {mt : Rho → Option Bool} {mb : Rho → Option Res} {ρ : Rho} {r : Res} (h : mWhile mt mb ρ = some r) : ∃ n, whileN mt mb n ρ = some r := by
  unfold mWhile at h
  split at h
  · exact ⟨_, h⟩
  · cases h
section
variable {X : Cx} {W : WX} {pos : Pos}
theorem ms_while {c : Expr} {body : List Stmt} {mt : Rho → Option Bool} {mb : Rho → Option Res} (hp : PassesOwn (model X.prog X.w) X.A X.env X.xe) (hc : MB X c mt) (hb : MSs X W body mb) : MS X W (.While c body [] pos) (mWhile mt mb) :=
  ⟨fun F0 H0 => ps_weak (ps_while hp (hc.ok F0 H0) (hb.ok F0 H0)) fun Dn σ H ⟨ρ, F, r, e1, e2, q⟩ => by
    obtain ⟨n, hn⟩ := while_get e2
    refine ⟨fun m σ H => ∃ ρ F, EnvOk X.K F0 H0 F H σ ρ ∧ whileN mt mb m ρ = some r, ⟨n, ρ, F, e1, hn⟩, ?_⟩
    rintro m σ1 H1 ⟨ρ1, F1, k1, h1⟩
    cases m with
    | zero => cases h1
    | succ m =>
      unfold whileN at h1
      cases hb' : mt ρ1 with
      | none => rw [hb'] at h1; cases h1
      | some b =>
        rw [hb'] at h1
        simp only [Option.bind_some] at h1
        refine ⟨ρ1, F1, b, k1, hb', fun F2 H2 a2 => ?_⟩
        cases b with
        | false =>
          rw [if_neg Bool.false_ne_true] at h1 ⊢
          cases h1
          exact q σ1 F2 H2 (k1.go a2)
        | true =>
          rw [if_pos rfl] at h1 ⊢
          cases hr : mb ρ1 with
          | none => rw [hr] at h1; cases h1
          | some r1 =>
            rw [hr] at h1
            simp only [Option.bind_some] at h1
            refine ⟨fun σ H => ∃ ρ F, EnvOk X.K F0 H0 F H σ ρ ∧ whileN mt mb m ρ = some r, fun σ' H' w => ⟨m, Nat.lt_succ_self m, w⟩, ρ1, F2, r1, k1.go a2, hr, ?_⟩
            cases r1 with
            | nx ρ2 => exact fun σ4 F4 H4 k4 => ⟨ρ2, F4, k4, h1⟩
            | ct ρ2 => exact fun σ4 F4 H4 k4 => ⟨ρ2, F4, k4, h1⟩
            | bk ρ2 => cases h1; exact q
            | rt d => cases h1; exact q
            | ro es => cases h1; exact q
            | rs d ρ2 => cases h1; exact q
            | ex e ρ2 => cases h1; exact q⟩
/-! ### name op= e, of ints -/
def dAddI : D → D → Option D
  | .int i, .int j => some (.int (i + j))
  | _, _ => none
def mAug (i : Nat) (m : Rho → Option D) : Rho → Option Res := mSet i (m2 dAddI (mVar i) m)
theorem ms_aug {x : Str} {e : Expr} {m : Rho → Option D} {i : Nat} {pos' : Pos} (hN : X.N.Nodup) (he : ME X e m) (hi : X.N[i]? = some x := by rfl) (hx : Loc X.env.scope x := by first | exact Or.inl rfl | exact Or.inr rfl)
    (hf : X.fn x = true ∨ X.env.scope.names.lookup x = some .local := by first | exact .inl rfl | exact .inr rfl | assumption) : MS X W (.AugAssign (.Name x pos') .Add e pos) (mAug i m) :=
  ⟨fun F0 H0 => ps_weak (ps_aug hN hi hx (he.ok F0 H0) ip_add hf) fun Dn σ H ⟨ρ, F, r, e1, e2, q⟩ => by
    unfold mAug mSet m2 at e2
    cases hv : mVar i ρ with
    | none => simp [hv] at e2
    | some x =>
      cases hm : m ρ with
      | none => simp [hv, hm] at e2
      | some y =>
        replace e2 : (dAddI x y).map (fun d => Res.nx (ρ.set i (.dat d))) = some r := by simpa [hv, hm] using e2
        unfold mVar at hv
        split at hv
        · cases hv
          rename_i hi
          obtain ⟨v, h1, h2⟩ := e1.dat i _ hi
          refine ⟨v, h1, ρ, F, y, e1, hm, fun v2 F' H' a p => ?_⟩
          unfold dAddI at e2
          split at e2
          · cases e2
            cases h2
            cases p
            exact ⟨_, _, rfl, rfl, q _ F' H' ((e1.go a).setD (.int _))⟩
          · cases e2
        · cases hv⟩
/-! ### a op b op c -/
def mChain (g g' : D → D → Option D) (ma mb mc : Rho → Option D) : Rho → Option D := fun ρ => (ma ρ).bind fun x => (mb ρ).bind fun y => (g x y).bind fun z => (asB z).bind fun k => if k = true then (mc ρ).bind fun u => g' y u else some (.bool false)
theorem chain_read {g g' : D → D → Option D} {ma mb mc : Rho → Option D} {F0 H0 : Hp} {σ : L2.St} {H : Hp} {Q : VK} (h : tE X.K F0 H0 (mChain g g' ma mb mc) σ H Q) : tChain (rD X.K g) (rD X.K g') (tT X.K F0 H0 ma) (tT X.K F0 H0 mb) (tT X.K F0 H0 mc) σ H Q := by
  obtain ⟨ρ, F, d, e1, e2, q⟩ := h
  unfold mChain at e2
  cases hx : ma ρ with
  | none => rw [hx] at e2; cases e2
  | some x =>
    rw [hx] at e2
    simp only [Option.bind_some] at e2
    cases hy : mb ρ with
    | none => rw [hy] at e2; cases e2
    | some y =>
      rw [hy] at e2
      simp only [Option.bind_some] at e2
      cases hz : g x y with
      | none => rw [hz] at e2; cases e2
      | some z =>
        rw [hz] at e2
        simp only [Option.bind_some] at e2
        cases hk : asB z with
        | none => rw [hk] at e2; cases e2
        | some k =>
          rw [hk] at e2
          simp only [Option.bind_some] at e2
          refine ⟨ρ, F, x, e1, hx, fun v1 F1 H1 a1 t1 => ⟨ρ, F1, y, e1.go a1, hy, fun v2 F2 H2 a2 t2 => ⟨F2, x, y, z, a2.fh, t1.go a2, t2, hz, fun v F3 H3 a3 p3 => ?_⟩⟩⟩
          have ez := asB_some hk
          subst ez
          refine ⟨k, (by cases p3; rfl), ?_⟩
          cases k with
          | false =>
            rw [if_neg Bool.false_ne_true] at e2
            cases e2
            exact iteF (q _ F3 H3 ((a1.trans a2).trans a3) (.bl _))
          | true =>
            rw [if_pos rfl] at e2
            cases hu : mc ρ with
            | none => rw [hu] at e2; cases e2
            | some u =>
              rw [hu] at e2
              exact iteT ⟨ρ, F3, u, ((e1.go a1).go a2).go a3, hu, fun v4 F4 H4 a4 t4 => ⟨F4, y, u, d, a4.fh, (t2.go a3).go a4, t4, e2, fun v5 F5 H5 a5 p5 => q v5 F5 H5 ((((a1.trans a2).trans a3).trans a4).trans a5) p5⟩⟩
theorem me_chain {a b c : Expr} {op op' : CmpOp} {g g' : D → D → Option D} {ma mb mc : Rho → Option D} (ho : OpD X (compareOp op) g) (ho' : OpD X (compareOp op') g') (ha : MT X a ma) (hb : MT X b mb) (hc : MT X c mc)
    (hm : lastMarks [op, op'] [b, c] = false := by with_unfolding_all rfl) : ME X (.Compare a [op, op'] [b, c] pos) (mChain g g' ma mb mc) :=
  ⟨fun F0 H0 => pe_weak (pe_chain ho.ok ho'.ok (ha.ok F0 H0) (hb.ok F0 H0) (hc.ok F0 H0) hm) fun _ _ _ h => chain_read h⟩
/-! ### (*a, b) -/
def mStar (m : Rho → Option D) (mr : Rho → Option (List D)) : Rho → Option (List D) := fun ρ => (m ρ).bind fun d => (seqOf d).bind fun ds => (mr ρ).bind fun es => some (ds ++ es)
theorem mae_star {e : Expr} {es : List Expr} {p : Pos} {m : Rho → Option D} {mr : Rho → Option (List D)} (he : ME X e m) (hr : MAE X es mr) (hs : starEach (.Starred e p :: es) X.env = (true, eval e X.env) :: starEach es X.env := by rfl) : MAE X (.Starred e p :: es) (mStar m mr) :=
  ⟨fun F0 H0 => pa_weak (StX.pa_star (he.ok F0 H0) (hr.ok F0 H0) hs) fun σ H Q ⟨ρ, F, ds, e1, e2, q⟩ => by
    unfold mStar at e2
    cases hx : m ρ with
    | none => rw [hx] at e2; cases e2
    | some d =>
      rw [hx] at e2
      simp only [Option.bind_some] at e2
      cases hsq : seqOf d with
      | none => rw [hsq] at e2; cases e2
      | some xs =>
        rw [hsq] at e2
        simp only [Option.bind_some] at e2
        cases hy : mr ρ with
        | none => rw [hy] at e2; cases e2
        | some ys =>
          rw [hy] at e2
          cases e2
          refine ⟨ρ, F, d, e1, hx, fun v1 F1 H1 a1 p1 => ?_⟩
          have fin : ∀ {a : Addr} {vs : List V}, DpAll X.K F1 vs xs → tAE X.K F0 H0 mr σ H1 fun ws H2 => Q (vs ++ ws) H2 := fun {a vs} ha =>
            ⟨ρ, F1, ys, e1.go a1, hy, fun ws F2 H2 a2 pa => q _ F2 H2 (a1.trans a2) (dal_app (dpa_ex a2.f _ _ ha) pa)⟩
          rcases seqOf_some hsq with rfl | rfl
          · cases p1 with
            | @lst a vs _ hs ha => exact ⟨_, _, rfl, .inr (sql_ex a1.fh hs), fin (a := a) ha⟩
          · cases p1 with
            | @tup a vs _ hs ha => exact ⟨_, _, rfl, .inl (sqt_ex a1.fh hs), fin (a := a) ha⟩⟩
/-! ### n in [..], of ints -/
def inI (i : Int) : List D → Option Bool
  | [] => some false
  | .int j :: ds => (inI i ds).map fun b => (j == i) || b
  | _ => none
def dIn : D → D → Option D
  | .int i, .list ds => (inI i ds).map .bool
  | .int i, .tuple ds => (inI i ds).map .bool
  | _, _ => none
def dNotIn : D → D → Option D := fun x y => (dIn x y).bind fun z => (asB z).map fun b => .bool (!b)
theorem inI_v {K : PySem.W.Frag} {F : Hp} {i : Int} : ∀ {vs : List V} {ds : List D} {b : Bool}, DpAll K F vs ds → inI i ds = some b → vs.all flatV = true ∧ inV (.int i) vs = b
  | _, _, _, .nil, h => by cases h; exact ⟨rfl, rfl⟩
  | _, .int j :: ds, b, .cons r t, h => by
    unfold inI at h
    cases hi : inI i ds with
    | none => rw [hi] at h; cases h
    | some c =>
      rw [hi] at h
      cases h
      cases r
      obtain ⟨h1, h2⟩ := inI_v t hi
      refine ⟨by rw [List.all_cons, h1]; rfl, ?_⟩
      unfold inV at h2 ⊢
      rw [List.any_cons, h2]
      rfl
  | _, .none :: _, _, .cons _ _, h => by cases h
  | _, .bool _ :: _, _, .cons _ _, h => by cases h
  | _, .str _ :: _, _, .cons _ _, h => by cases h
  | _, .list _ :: _, _, .cons _ _, h => by cases h
  | _, .tuple _ :: _, _, .cons _ _, h => by cases h
  | _, .dict _ :: _, _, .cons _ _, h => by cases h
theorem in_some {x y d : D} (h : dIn x y = some d) : ∃ i ds b, x = .int i ∧ (y = .list ds ∨ y = .tuple ds) ∧ inI i ds = some b ∧ d = .bool b := by
  unfold dIn at h
  split at h
  · rename_i i ds
    cases hi : inI i ds with
    | none => rw [hi] at h; cases h
    | some b => rw [hi] at h; cases h; exact ⟨i, ds, b, rfl, .inl rfl, hi, rfl⟩
  · rename_i i ds
    cases hi : inI i ds with
    | none => rw [hi] at h; cases h
    | some b => rw [hi] at h; cases h; exact ⟨i, ds, b, rfl, .inr rfl, hi, rfl⟩
  · cases h
theorem in_core {F H : Hp} {x y : V} {dx dy d : D} {neg : Bool} {Q : VK} (e : Ex F H) (tx : Tp X.K F H x dx) (ty : Tp X.K F H y dy) (hg : dIn dx dy = some d) (q : ∀ b, d = .bool b → Q (.bl (if neg then !b else b)) H) : rIn X.K neg x y H Q := by
  obtain ⟨i, ds, b, rfl, hy, hi, rfl⟩ := in_some hg
  have hxi := tx.int
  subst hxi
  rcases hy with rfl | rfl
  · obtain ⟨p, vs, rfl, hs, pa⟩ := ty.list e
    obtain ⟨h1, h2⟩ := inI_v pa hi
    exact ⟨p, vs, rfl, .inl hs, rfl, h1, by rw [h2]; exact q b rfl⟩
  · obtain ⟨p, vs, rfl, hs, pa⟩ := ty.tuple e
    obtain ⟨h1, h2⟩ := inI_v pa hi
    exact ⟨p, vs, rfl, .inr hs, rfl, h1, by rw [h2]; exact q b rfl⟩
theorem od_in : OpD X (compareOp .In) dIn := by
  refine ⟨fun pins s σ H x y v u Q I rx ry h => ?_⟩
  obtain ⟨F, dx, dy, d, e, tx, ty, hg, q⟩ := h
  exact op_in_seq pins s σ H x y v u Q I rx ry (in_core (neg := false) e tx ty hg fun b hb => q _ F H (Adv.refl e) (by subst hb; exact .bl _))
theorem od_notin : OpD X (compareOp .NotIn) dNotIn := by
  refine ⟨fun pins s σ H x y v u Q I rx ry h => ?_⟩
  obtain ⟨F, dx, dy, d, e, tx, ty, hg, q⟩ := h
  unfold dNotIn at hg
  cases hz : dIn dx dy with
  | none => rw [hz] at hg; cases hg
  | some z =>
    rw [hz] at hg
    simp only [Option.bind_some] at hg
    refine op_notIn_seq pins s σ H x y v u Q I rx ry (in_core (neg := true) e tx ty hz fun b hb => ?_)
    subst hb
    cases hg
    exact q _ F H (Adv.refl e) (.bl _)
/-! x in a list, data of any depth -/
def dIn2 : D → D → Option D := fun x y => match dIn x y with
  | some d => some d
  | none => match y with
    | .list ds => if (SeqAt.shaped x && SeqAt.shaped (.list ds)) = true then some (.bool (ds.any fun z => PyData.eqv z x)) else none
    | _ => none
theorem room65 {k : Nat} {A : Around} (r : Room k A) : A.units + 65 < cLine := by have := r.un; omega
theorem od_in2 (hu : X.A.units + 65 < cLine) : OpD X (compareOp .In) dIn2 := by
  refine ⟨fun pins s σ H x y v u Q I rx ry h => ?_⟩
  obtain ⟨F, dx, dy, d, e, tx, ty, hg, q⟩ := h
  unfold dIn2 at hg
  cases hd : dIn dx dy with
  | some d' =>
    rw [hd] at hg
    exact od_in.ok pins s σ H x y v u Q I rx ry ⟨F, dx, dy, d, e, tx, ty, by rw [hd]; exact hg, q⟩
  | none =>
    rw [hd] at hg
    simp only at hg
    split at hg
    · split at hg
      · rename_i hc
        rw [Bool.and_eq_true] at hc
        cases hg
        exact op_inD hu pins s σ H x y v u Q I rx ry ⟨_, _, Dp.toL _ _ (tx.dp e) (plain_shaped hc.1), Dp.toL _ _ (ty.dp e) (plain_shaped hc.2), hc.1, hc.2, q _ F H (Adv.refl e) (.bl _)⟩
      · cases hg
    · cases hg
/-! ### list(..) as a new list -/
def mListO (m : Rho → Option D) : Rho → Option (List D) := fun ρ => (m ρ).bind seqOf
theorem mo_list {e : Expr} {p : Pos} {m : Rho → Option D} (hm : X.mg "list" = none) (he : MT X e m) (hg : Gl X "list" := by rfl) (hs : starEach [e] X.env = (false, eval e X.env) :: starEach [] X.env := by rfl)
    (hpl : (backTo pos (starEach [] X.env)).any (·.1) = false := by rfl) : MO X (.Call (.Name "list" p) [e] [] pos) (mListO m) :=
  ⟨fun F0 H0 => pe_weak (pe_callTy call_list_of hg hm (by decide +kernel) (pa_cons (he.ok F0 H0) pa_nil hs) (by decide) (by decide) hs hpl) fun σ H Q ⟨ρ, F, ds, e1, e2, q⟩ => by
    unfold mListO at e2
    cases hx : m ρ with
    | none => rw [hx] at e2; cases e2
    | some d =>
      rw [hx] at e2
      replace e2 : seqOf d = some ds := e2
      refine ⟨ρ, F, d, e1, hx, fun v F1 H1 a1 t => ?_⟩
      rcases seqOf_some e2 with rfl | rfl
      · obtain ⟨p, vs, rfl, hs, pa⟩ := t.list a1.fh
        exact ⟨p, vs, rfl, .inl hs, fun l hl => q l vs F1 _ (a1.trans (Adv.kept a1.fh (Ex.new hl))) (a1.h.none hl) (a1.fh.none hl) upd_same pa⟩
      · obtain ⟨p, vs, rfl, hs, pa⟩ := t.tuple a1.fh
        exact ⟨p, vs, rfl, .inr hs, fun l hl => q l vs F1 _ (a1.trans (Adv.kept a1.fh (Ex.new hl))) (a1.h.none hl) (a1.fh.none hl) upd_same pa⟩⟩
/-! ### [..] * n -/
def mRep (ml : Rho → Option (List D)) (mn : Rho → Option D) : Rho → Option (List D) := fun ρ => (ml ρ).bind fun ds => (mn ρ).bind fun n => match n with
  | .int k => if -(2 ^ 62) ≤ k ∧ k < 2 ^ 62 ∧ ds.length * k.toNat ≤ 100000 then some (List.replicate k.toNat ds).flatten else none
  | _ => none
theorem dal_rep {K : PySem.W.Frag} {F : Hp} {vs : List V} {ds : List D} (a : DpAll K F vs ds) : ∀ n : Nat, DpAll K F (List.replicate n vs).flatten (List.replicate n ds).flatten
  | 0 => .nil
  | n + 1 => by
    rw [List.replicate_succ, List.replicate_succ, List.flatten_cons, List.flatten_cons]
    exact dal_app a (dal_rep a n)
theorem mo_rep {a b : Expr} {ml : Rho → Option (List D)} {mn : Rho → Option D} (ha : MO X a ml) (hb : ME X b mn) : MO X (.BinOp a .Mult b pos) (mRep ml mn) :=
  ⟨fun F0 H0 => pe_weak (pe_op op_rep (ha.ok F0 H0) (hb.ok F0 H0)) fun σ H Q ⟨ρ, F, es, e1, e2, q⟩ => by
    unfold mRep at e2
    cases hx : ml ρ with
    | none => rw [hx] at e2; cases e2
    | some ds =>
      rw [hx] at e2
      simp only [Option.bind_some] at e2
      cases hy : mn ρ with
      | none => rw [hy] at e2; cases e2
      | some n =>
        rw [hy] at e2
        simp only [Option.bind_some] at e2
        split at e2
        · split at e2
          · cases e2
            rename_i k hk
            refine ⟨ρ, F, ds, e1, hx, fun p vs F1 H1 a1 h0 h1 h2 h3 => ⟨ρ, F1, .int k, e1.go a1, hy, fun v2 F2 H2 a2 p2 => ?_⟩⟩
            cases p2
            have d2 : H2 p = some (.lst vs) := a2.h p _ h2
            have l := dal_len h3
            refine ⟨p, k, vs, rfl, rfl, d2, by omega, by omega, sz_of (by rw [l]; exact hk.2.2), fun r hr => ?_⟩
            have a12 := a1.trans a2
            exact q r _ F2 _ (a12.trans (Adv.kept a12.fh (Ex.new hr))) (a12.h.none hr) (a12.fh.none hr) upd_same (dal_rep (dpa_ex a2.f _ _ h3) _)
          · cases e2
        · cases e2⟩
end

/-! ### [e for x in xs for y in ys] -/
def comp2D (mg : D → Rho → Option Rho) (src1 : Rho → Option (List D)) (mg1 : D → Rho → Option Rho) (me : Rho → Option D) (vs1 : List Nat) (ρ : Rho) : List D → Option (List D)
  | [] => some []
  | d :: ds => (mg d ρ).bind fun ρ1 => (src1 ρ1).bind fun es => (compD mg1 mYes me (wipeR ρ1 vs1) es).bind fun ys => (comp2D mg src1 mg1 me vs1 ρ ds).map (ys ++ ·)
def mLc2 (src : Rho → Option (List D)) (mg : D → Rho → Option Rho) (src1 : Rho → Option (List D)) (mg1 : D → Rho → Option Rho) (me : Rho → Option D) (vs vs1 : List Nat) : Rho → Option (List D) := fun ρ => (src ρ).bind fun ds =>
  (comp2D mg src1 mg1 me vs1 (wipeR ρ vs) ds).bind fun ys => if ys.length < 100000 then some ys else none
section
variable {X : Cx} {W : WX} {elt tg iter tg1 iter1 : Expr} {scope : Scope} {own : List (Str × Nat)} {pos : Pos} {src src1 : Rho → Option (List D)} {ix ix1 : List Nat} {mg mg1 : D → Rho → Option Rho} {me : Rho → Option D}
theorem pg_any {X : Cx} {t : Expr} {F0 : Hp} {ix : List Nat} {mg : D → Rho → Option Rho} (h : MG X t ix mg) : PG X t (fun v σ H Q => ∃ H0, tG X.K F0 H0 ix mg v σ H Q) := ⟨fun pins s2 σ H2 v u Q I r ⟨H1, z⟩ => (h.ok F0 H1).run pins s2 σ H2 v u Q I r z⟩
theorem pts_any {X : Cx} {ts : List Expr} {F0 : Hp} {m : Rho → Option Bool} (h : MTs X ts m) : PTs X ts (fun σ H Q => ∃ H0, tB X.K F0 H0 m σ H Q) := ⟨fun pins s2 σ H2 Q I ⟨H1, z⟩ => (h.ok F0 H1).run pins s2 σ H2 Q I z⟩
theorem pi_any {X : Cx} {tg e : Expr} {F0 : Hp} {m : Rho → Option (List D)} (h : MI X tg e m) : PI X tg e (fun σ H R => ∃ H0, tI X.K F0 H0 m σ H R) := ⟨fun pins s2 σ H2 R I ⟨H1, z⟩ => (h.ok F0 H1).run pins s2 σ H2 R I z⟩
theorem pe_any {X : Cx} {e : Expr} {F0 : Hp} {m : Rho → Option D} (h : ME X e m) : PE X e (fun σ H Q => ∃ H0, tE X.K F0 H0 m σ H Q) := ⟨fun pins s2 σ H2 Q I ⟨H1, z⟩ => (h.ok F0 H1).run pins s2 σ H2 Q I z⟩
theorem lc2_read {F0 H0 : Hp} {σ : L2.St} {H : Hp} {Q : VK} {vs vs1 : List Nat} (hx : ∀ i ∈ ix, i ∈ vs) (hx1 : ∀ i ∈ ix1, i ∈ vs1) (h : tO X.K F0 H0 (mLc2 src mg src1 mg1 me vs vs1) σ H Q) :
    tLc2 (tIH X.K F0 H0 src) (fun v σ H Q => ∃ H0, tG X.K F0 H0 ix mg v σ H Q) (fun σ H Q => ∃ H0, tB X.K F0 H0 mYes σ H Q) (fun σ H R => ∃ H0, tI X.K F0 H0 src1 σ H R) (fun v σ H Q => ∃ H0, tG X.K F0 H0 ix1 mg1 v σ H Q) (fun σ H Q => ∃ H0, tB X.K F0 H0 mYes σ H Q) (fun σ H Q => ∃ H0, tE X.K F0 H0 me σ H Q) vs vs1 σ H Q := by
  obtain ⟨ρ, F, ys, e1, e2, q⟩ := h
  unfold mLc2 at e2
  cases hs : src ρ with
  | none => rw [hs] at e2; cases e2
  | some ds =>
    rw [hs] at e2
    simp only [Option.bind_some] at e2
    cases hcd : comp2D mg src1 mg1 me vs1 (wipeR ρ vs) ds with
    | none => rw [hcd] at e2; cases e2
    | some ys' =>
      rw [hcd] at e2
      simp only [Option.bind_some] at e2
      split at e2
      · rename_i hz
        cases e2
        refine ⟨ρ, F, ds, e1, hs, fun J F1 H1 a1 it p hp => ?_⟩
        have g1 := e1.go a1
        obtain ⟨G, Y, w, hG, hY⟩ := it
        have hH : H p = none := a1.h.none hp
        have h0p : H0 p = none := g1.adv.2.1.none hp
        -- the slots beside the list at p
        have beside : ∀ {F2 H2 : Hp} {o : HO}, Adv F1 H1 F2 H2 → F2 p = none → H2 p = some o → EnvOk X.K F0 (upd H0 p o) F2 H2 σ ρ := fun {F2 H2 o} a f2 d2 => by
          have g2 := g1.go a
          refine ⟨⟨g2.adv.1, fun b u hb => ?_, g2.adv.2.2⟩, fun r z1 z2 => ?_, g2.len, g2.dat, fun i bs hi => ?_, g2.dist, g2.rf, g1.obs_go a.f (fun j n fs h => ⟨h, rfl⟩) (fun b z1 z2 z3 z4 => ⟨a.new b z2 z1, (upd_ne fun (z : b = p) => z1 (by rw [z]; exact hp)).trans z3, a.keeps z1⟩) fun j es q g1 g2 => .inl ⟨es, g1, g2⟩⟩
          · by_cases hbp : b = p
            · subst hbp
              rw [upd_same] at hb
              cases hb
              exact d2
            · rw [upd_ne hbp] at hb
              exact g2.adv.2.1 b u hb
          · by_cases hr : r = p
            · rw [hr]; exact f2
            · rw [upd_ne hr] at z2
              exact g2.new r z1 z2
          · obtain ⟨r, ws, k1, k2, k3, k4, k5⟩ := g2.own i bs hi
            obtain ⟨r', ws', m1, m2, m3, m4, m5⟩ := g1.own i bs hi
            rw [k1] at m1
            cases m1
            have hr : r ≠ p := fun z => by
              rw [z, hp] at m4
              cases m4
            exact ⟨r, ws, k1, k2, by rw [upd_ne hr]; exact k3, k4, k5⟩
        refine ⟨fun i m H2 => m = ds.length - i ∧ i ≤ ds.length ∧ ∃ F2 acc zs rest, Adv F1 H1 F2 H2 ∧ H2 p = some (.lst acc) ∧ F2 p = none ∧ DpAll X.K F2 acc zs ∧ comp2D mg src1 mg1 me vs1 (wipeR ρ vs) (ds.drop i) = some rest ∧ zs ++ rest = ys,
          ⟨ds.length, rfl, Nat.zero_le _, F1, [], [], ys, Adv.kept a1.fh (Ex.new hp), upd_same, a1.fh.none hp, .nil, by simpa using hcd, rfl⟩, ?_⟩
        rintro i m H2 ⟨rfl, hi, F2, acc, zs, rest, a2, hD, hF, pa, hc, hy⟩
        have gg := hG H2 a2.h
        by_cases hlt : i < ds.length
        · have hd : ds[i]? = some ds[i] := List.getElem?_eq_getElem hlt
          rw [List.drop_eq_getElem_cons hlt] at hc
          unfold comp2D at hc
          cases hgm : mg ds[i] (wipeR ρ vs) with
          | none => rw [hgm] at hc; cases hc
          | some ρ1 =>
            rw [hgm] at hc
            simp only [Option.bind_some] at hc
            cases hs1 : src1 ρ1 with
            | none => rw [hs1] at hc; cases hc
            | some es =>
              rw [hs1] at hc
              simp only [Option.bind_some] at hc
              cases hin : compD mg1 mYes me (wipeR ρ1 vs1) es with
              | none => rw [hin] at hc; cases hc
              | some us =>
                rw [hin] at hc
                simp only [Option.bind_some] at hc
                cases hrs : comp2D mg src1 mg1 me vs1 (wipeR ρ vs) (ds.drop (i + 1)) with
                | none => rw [hrs] at hc; cases hc
                | some rest' =>
                  rw [hrs] at hc
                  have hr : us ++ rest' = rest := by simpa using hc
                  subst hr
                  -- where the turn leads
                  let Nx : Hp → Prop := fun H2 => ∃ F2 acc zs rest, Adv F1 H1 F2 H2 ∧ H2 p = some (.lst acc) ∧ F2 p = none ∧ DpAll X.K F2 acc zs ∧ comp2D mg src1 mg1 me vs1 (wipeR ρ vs) (ds.drop (i + 1)) = some rest ∧ zs ++ rest = ys
                  refine .inr ⟨w.goes i H2 hlt gg, Nx, fun H' p' => ⟨ds.length - (i + 1), by omega, rfl, hlt, p'⟩, fun x H3 y0 => ?_⟩
                  have y := w.yields i H2 x H3 hlt gg y0
                  obtain ⟨F3, a3, pd⟩ := hY i ds[i] F2 H2 x H3 hd a2.f a2.fh gg y
                  have a13 := a2.trans a3
                  have f3 : F3 p = none := a3.new p hF (by rw [hD]; exact fun z => nomatch z)
                  have d3 : H3 p = some (.lst acc) := a3.h p _ hD
                  have g3 := (beside a13 f3 d3).wipe vs
                  refine ⟨_, wipeR ρ vs, F3, ds[i], ρ1, g3, pd, hgm, fun σ4 g4 l4 c4 => ⟨wipe_eq l4 hx c4, _, ρ1, F3, true, g4, rfl, fun F5 H5 a5 => iteT ?_⟩⟩
                  have f5 : F5 p = none := a5.new p f3 (by rw [d3]; exact fun z => nomatch z)
                  have d5 : H5 p = some (.lst acc) := a5.h p _ d3
                  have g5 := g4.go a5
                  refine ⟨_, ρ1, F5, es, g5, hs1, fun J1 F6 H6 a6 it1 => ?_⟩
                  obtain ⟨G1, Y1, w1, hG1, hY1⟩ := it1
                  have g6 := g5.go a6
                  have f6 : F6 p = none := a6.new p f5 (by rw [d5]; exact fun z => nomatch z)
                  have d6 : H6 p = some (.lst acc) := a6.h p _ d5
                  have a16 := (a13.trans a5).trans a6
                  have pa6 : DpAll X.K F6 acc zs := dpa_ex ((a3.f.trans a5.f).trans a6.f) _ _ pa
                  have pin : ∀ o : HO, (upd H6 p o) p ≠ none := fun o => by rw [upd_same]; exact fun z => nomatch z
                  have a17 : ∀ {F7 H7 : Hp} {o : HO}, Adv F6 (upd H6 p o) F7 H7 → Adv F1 H1 F7 H7 := fun {F7 H7 o} a => (a16.fill hp f6).trans a
                  refine ⟨fun j k H7 => k = es.length - j ∧ j ≤ es.length ∧ ∃ F7 acc7 zs7 rest7, Adv F6 (upd H6 p (.lst acc7)) F7 H7 ∧ DpAll X.K F7 acc7 zs7 ∧ compD mg1 mYes me (wipeR ρ1 vs1) (es.drop j) = some rest7 ∧ zs7 ++ rest7 = zs ++ us,
                    ⟨es.length, rfl, Nat.zero_le _, F6, acc, zs, us, by rw [upd_self d6]; exact Adv.refl a16.fh, pa6, by simpa using hin, rfl⟩, ?_⟩
                  rintro j k H7 ⟨rfl, hj, F7, acc7, zs7, rest7, a7, pa7, hc7, hy7⟩
                  have hF7 : F7 p = none := a7.new p f6 (pin _)
                  have hD7 : H7 p = some (.lst acc7) := a7.h p _ upd_same
                  have gg1 := hG1 H7 (a7.f.trans a7.fh)
                  have total : zs ++ (us ++ rest') = ys := hy
                  have len7 : zs7.length + rest7.length ≤ ys.length := by
                    have l1 := congrArg List.length hy7
                    have l2 := congrArg List.length total
                    simp only [List.length_append] at l1 l2
                    omega
                  by_cases hlt1 : j < es.length
                  · have hd1 : es[j]? = some es[j] := List.getElem?_eq_getElem hlt1
                    rw [List.drop_eq_getElem_cons hlt1] at hc7
                    unfold compD at hc7
                    cases hgm1 : mg1 es[j] (wipeR ρ1 vs1) with
                    | none => rw [hgm1] at hc7; cases hc7
                    | some ρ2 =>
                      have hyes : mYes ρ2 = some true := rfl
                      rw [hgm1] at hc7
                      simp only [Option.bind_some, hyes, if_true] at hc7
                      cases hem : me ρ2 with
                      | none => rw [hem] at hc7; cases hc7
                      | some v =>
                        rw [hem] at hc7
                        simp only [Option.bind_some] at hc7
                        cases hrm : compD mg1 mYes me (wipeR ρ1 vs1) (es.drop (j + 1)) with
                        | none => rw [hrm] at hc7; cases hc7
                        | some rest8 =>
                          rw [hrm] at hc7
                          have hr7 : v :: rest8 = rest7 := by simpa using hc7
                          subst hr7
                          let Nx1 : Hp → Prop := fun H7 => ∃ F7 acc7 zs7 rest7, Adv F6 (upd H6 p (.lst acc7)) F7 H7 ∧ DpAll X.K F7 acc7 zs7 ∧ compD mg1 mYes me (wipeR ρ1 vs1) (es.drop (j + 1)) = some rest7 ∧ zs7 ++ rest7 = zs ++ us
                          refine .inr ⟨w1.goes j H7 hlt1 gg1, Nx1, fun H' p' => ⟨es.length - (j + 1), by omega, rfl, hlt1, p'⟩, fun x1 H8 y1' => ?_⟩
                          have y1 := w1.yields j H7 x1 H8 hlt1 gg1 y1'
                          obtain ⟨F8, a8, pd8⟩ := hY1 j es[j] F7 H7 x1 H8 hd1 a7.f a7.fh gg1 y1
                          have a68 := a7.trans a8
                          have g8 := ((env_upd (o2 := .lst acc7) f6 g6).go a68).wipe vs1
                          refine ⟨_, wipeR ρ1 vs1, F8, es[j], ρ2, g8, pd8, hgm1, fun σ5 g9 l5 c5 => ⟨wipe_eq l5 hx1 c5, _, ρ2, F8, true, g9, rfl, fun F9 H9 a9 => iteT ?_⟩⟩
                          refine ⟨_, ρ2, F9, v, g9.go a9, hem, fun u F10 H10 a10 pu => ?_⟩
                          have a610 := (a68.trans a9).trans a10
                          have d10 : H10 p = some (.lst acc7) := a610.h p _ upd_same
                          have l7 := dal_len pa7
                          have hsz : acc7.length < sizeLine := by
                            rw [l7]
                            simp only [List.length_cons] at len7
                            exact Nat.lt_of_lt_of_le (by omega : zs7.length < 100000) (by decide)
                          refine ⟨acc7, d10, hsz, F10, acc7 ++ [u], zs7 ++ [v], rest8, ?_, dal_app (dpa_ex ((a8.f.trans a9.f).trans a10.f) _ _ pa7) (.cons pu .nil), hrm, by rw [List.append_assoc]; exact hy7⟩
                          have z := adv_upd (δ := p) (o2 := .lst (acc7 ++ [u])) f6 (pin _) a610
                          rw [upd_upd] at z
                          exact z
                  · have e : j = es.length := by omega
                    subst e
                    rw [List.drop_length] at hc7
                    unfold compD at hc7
                    cases hc7
                    rw [List.append_nil] at hy7
                    subst hy7
                    exact .inl ⟨w1.stops H7 gg1, F7, acc7, _, rest', a17 a7, hD7, hF7, pa7, hrs, by rw [List.append_assoc]; exact total⟩
        · have e : i = ds.length := by omega
          subst e
          rw [List.drop_length] at hc
          unfold comp2D at hc
          cases hc
          rw [List.append_nil] at hy
          subst hy
          exact .inl ⟨w.stops H2 gg, q p acc F2 H2 (a1.trans a2) hH hF hD pa⟩
      · cases e2
theorem mo_lc2 (hc : X.calm = true) (hN : X.N.Nodup) (hi : MIH X tg iter src) {vs1 : List Nat} (ok : BlkOk X.N X.env.scope scope own) (hv : ∀ i ∈ vs1, i ∈ own.map (·.2))
    (hg : ∀ (s : Shared) (H : Hp) (C : Addr) (cl : List (Str × Addr)) (fp : List Addr), MG (X.blk s H scope (compEnvC scope cl C X.env) fp) tg ix mg)
    (hi1 : ∀ (s : Shared) (H : Hp) (C : Addr) (cl : List (Str × Addr)) (fp : List Addr), MI (X.blk s H scope (compEnvC scope cl C X.env) fp) tg1 iter1 src1)
    (hg1 : ∀ (s : Shared) (H : Hp) (C : Addr) (cl : List (Str × Addr)) (fp : List Addr), MG (X.blk s H scope (compEnvC scope cl C X.env) fp) tg1 ix1 mg1)
    (he : ∀ (s : Shared) (H : Hp) (C : Addr) (cl : List (Str × Addr)) (fp : List Addr), ME (X.blk s H scope (compEnvC scope cl C X.env) fp) elt me)
    (hx : ∀ i ∈ ix, i ∈ own.map (·.2) := by decide) (hx1 : ∀ i ∈ ix1, i ∈ vs1 := by decide) (hs : ∀ x, foldedSetIterable iter X.env x = pure x := by intro _; rfl) (hs1 : ∀ env x, foldedSetIterable iter1 env x = pure x := by intro _ _; rfl) :
    MO X (.ListComp elt [⟨tg, iter, [], 0⟩, ⟨tg1, iter1, [], 0⟩] scope pos) (mLc2 src mg src1 mg1 me (own.map (·.2)) vs1) :=
  ⟨fun F0 H0 => pe_weak (pe_lc2 hc hN (hi.ok F0 H0) ok hv (fun s H C cl fp => pg_any (hg s H C cl fp))
      (fun s H C cl fp => pts_any mts_nil)
      (fun s H C cl fp => pi_any (hi1 s H C cl fp))
      (fun s H C cl fp => pg_any (hg1 s H C cl fp))
      (fun s H C cl fp => pts_any mts_nil)
      (fun s H C cl fp => pe_any (he s H C cl fp)) hs hs1) fun σ H Q h => lc2_read hx hx1 h⟩
/-- name = [..] on one line -/
theorem ms_setLc2 {i : Nat} {y : Str} {py spos : Pos} (hc : X.calm = true) (hN : X.N.Nodup) (hi : MIH X tg iter src) {vs1 : List Nat} (ok : BlkOk X.N X.env.scope scope own) (hv : ∀ i ∈ vs1, i ∈ own.map (·.2))
    (hg : ∀ (s : Shared) (H : Hp) (C : Addr) (cl : List (Str × Addr)) (fp : List Addr), MG (X.blk s H scope (compEnvC scope cl C X.env) fp) tg ix mg)
    (hi1 : ∀ (s : Shared) (H : Hp) (C : Addr) (cl : List (Str × Addr)) (fp : List Addr), MI (X.blk s H scope (compEnvC scope cl C X.env) fp) tg1 iter1 src1)
    (hg1 : ∀ (s : Shared) (H : Hp) (C : Addr) (cl : List (Str × Addr)) (fp : List Addr), MG (X.blk s H scope (compEnvC scope cl C X.env) fp) tg1 ix1 mg1)
    (he : ∀ (s : Shared) (H : Hp) (C : Addr) (cl : List (Str × Addr)) (fp : List Addr), ME (X.blk s H scope (compEnvC scope cl C X.env) fp) elt me)
    (hsw : swapsWith (.ListComp elt [⟨tg, iter, [], 0⟩, ⟨tg1, iter1, [], 0⟩] scope pos) (some (.Name y py)) spos.line X.env = pure true) (hyl : X.env.scope.names.lookup y = some .local := by rfl) (hy : X.N[i]? = some y := by rfl)
    (hx : ∀ i ∈ ix, i ∈ own.map (·.2) := by decide) (hx1 : ∀ i ∈ ix1, i ∈ vs1 := by decide) (hs : ∀ x, foldedSetIterable iter X.env x = pure x := by intro _; rfl) (hs1 : ∀ env x, foldedSetIterable iter1 env x = pure x := by intro _ _; rfl) :
    MS X W (.Assign [.Name y py] (.ListComp elt [⟨tg, iter, [], 0⟩, ⟨tg1, iter1, [], 0⟩] scope pos) spos) (mSet i (mL (mLc2 src mg src1 mg1 me (own.map (·.2)) vs1))) :=
  ⟨fun F0 H0 => ps_weak (ps_setLc2 hc hN hy hyl hsw (hi.ok F0 H0) ok hv (fun s H C cl fp => pg_any (hg s H C cl fp))
      (fun s H C cl fp => pts_any mts_nil)
      (fun s H C cl fp => pi_any (hi1 s H C cl fp))
      (fun s H C cl fp => pg_any (hg1 s H C cl fp))
      (fun s H C cl fp => pts_any mts_nil)
      (fun s H C cl fp => pe_any (he s H C cl fp)) hs hs1) fun Dn σ H h => by
    obtain ⟨ρ, F, r, e1, e2, q⟩ := h
    unfold mSet mL at e2
    cases hm : mLc2 src mg src1 mg1 me (own.map (·.2)) vs1 ρ with
    | none => rw [hm] at e2; cases e2
    | some ds =>
      rw [hm] at e2
      cases e2
      refine lc2_read (X := X) (Q := fun x H1 => gName i x σ H1 Dn.nx) hx hx1 ⟨ρ, F, ds, e1, hm, fun p vs F' H' a h0 h1 h2 h3 => ?_⟩
      exact q _ _ H' ((e1.go (a.freeze h0 h1 h2)).setD (.lst (SqL.of upd_same) (dpa_ex (Ex.new h1) ds vs h3)))⟩
end
end MV

set_option maxRecDepth 100000
set_option maxHeartbeats 4000000
/-! A list that several defs write: one that stands at δ; it is drawn from. What a def does is told by what holds behind it, whatever was drawn. -/
namespace MV
open PySem PySem.Spec PyProof.Rows L2

/-- the deck at δ -/
def Deck (K : PySem.W.Frag) (δ : Addr) (F H : Hp) : Prop := ∃ (a b c e : Int) (q : Addr) (ns : List Int), H δ = some (.lst [.int a, .int b, .int c, .ref q, .int e]) ∧ F δ = none ∧ 0 ≤ a ∧ 0 ≤ b ∧ 0 ≤ e ∧
  Dp K F (.ref q) (.list (ns.map .int))
section
variable {K : PySem.W.Frag} {δ : Addr} {F H F' H' F2 H2 F0 H0 : Hp}
theorem Deck.here (d : Deck K δ F H) : ∃ o, H δ = some o := by
  obtain ⟨a, b, c, e, q, ns, h, _⟩ := d
  exact ⟨_, h⟩
theorem Deck.thaw (d : Deck K δ F H) : F δ = none := by
  obtain ⟨a, b, c, e, q, ns, _, h, _⟩ := d
  exact h
theorem Deck.go (d : Deck K δ F H) (a : Adv F H F' H') : Deck K δ F' H' := by
  obtain ⟨x, y, z, e, q, ns, h1, h2, h3, h4, h5, h6⟩ := d
  exact ⟨x, y, z, e, q, ns, a.h _ _ h1, a.new δ h2 (by rw [h1]; exact fun z => nomatch z), h3, h4, h5, dp_ex a.f _ _ h6⟩
/-- what a step leaves that may have drawn -/
def AdvW (K : PySem.W.Frag) (δ : Addr) (F H F' H' : Hp) : Prop := (∃ o, Adv F (upd H δ o) F' H') ∧ Deck K δ F' H'
theorem AdvW.of (d : Deck K δ F H) (a : Adv F H F' H') : AdvW K δ F H F' H' := by
  obtain ⟨o, h⟩ := d.here
  exact ⟨⟨o, by rw [upd_self h]; exact a⟩, d.go a⟩
theorem AdvW.refl (d : Deck K δ F H) (e : Ex F H) : AdvW K δ F H F H := AdvW.of d (Adv.refl e)
theorem AdvW.f (a : AdvW K δ F H F' H') : Ex F F' := by
  obtain ⟨⟨o, h⟩, _⟩ := a
  exact h.f
theorem AdvW.fh (a : AdvW K δ F H F' H') : Ex F' H' := by
  obtain ⟨⟨o, h⟩, _⟩ := a
  exact h.fh
theorem AdvW.deck (a : AdvW K δ F H F' H') : Deck K δ F' H' := a.2
theorem AdvW.at (a : AdvW K δ F H F' H') {b : Addr} {u : HO} (hb : b ≠ δ) (h : H b = some u) : H' b = some u := by
  obtain ⟨⟨o, a⟩, _⟩ := a
  exact a.h b u (by rw [upd_ne hb]; exact h)
theorem AdvW.new (a : AdvW K δ F H F' H') {p : Addr} (h : F p = none) (h2 : H p ≠ none) : F' p = none := by
  obtain ⟨⟨o, a⟩, _⟩ := a
  refine a.new p h ?_
  by_cases hp : p = δ
  · subst hp
    rw [upd_same]
    exact fun z => nomatch z
  · rw [upd_ne hp]
    exact h2
theorem AdvW.trans (d : Deck K δ F H) (a : AdvW K δ F H F' H') (b : AdvW K δ F' H' F2 H2) : AdvW K δ F H F2 H2 := by
  obtain ⟨⟨o, a⟩, d1⟩ := a
  obtain ⟨⟨o2, b⟩, d2⟩ := b
  refine ⟨⟨o2, ?_⟩, d2⟩
  have h : upd (upd H δ o) δ o2 = upd H δ o2 := upd_upd
  have := adv_upd (o2 := o2) d.thaw (by rw [upd_same]; exact fun z => nomatch z) a
  rw [h] at this
  exact this.trans b
theorem AdvW.free (d : Deck K δ F H) (a : AdvW K δ F H F' H') {p : Addr} (h : H' p = none) : H p = none := by
  cases h1 : H p with
  | none => rfl
  | some o =>
    by_cases hp : p = δ
    · subst hp
      obtain ⟨o, k⟩ := a.2.here
      rw [h] at k
      cases k
    · rw [a.at hp h1] at h
      cases h
/-- the slots, and the deck -/
def EnvW (K : PySem.W.Frag) (δ : Addr) (F0 H0 F H : Hp) (σ : L2.St) (ρ : Rho) : Prop := (∃ o, EnvOk K F0 (upd H0 δ o) F H σ ρ) ∧ Deck K δ F H
variable {σ σ' : L2.St} {ρ : Rho}
theorem EnvW.deck (e : EnvW K δ F0 H0 F H σ ρ) : Deck K δ F H := e.2
theorem EnvW.fh (e : EnvW K δ F0 H0 F H σ ρ) : Ex F H := by
  obtain ⟨⟨o, e⟩, _⟩ := e
  exact e.fh
theorem EnvW.go (e : EnvW K δ F0 H0 F H σ ρ) (a : AdvW K δ F H F' H') : EnvW K δ F0 H0 F' H' σ ρ := by
  obtain ⟨⟨o, e⟩, d⟩ := e
  obtain ⟨⟨o2, a⟩, d2⟩ := a
  exact ⟨⟨o2, (env_upd d.thaw e).go a⟩, d2⟩
theorem EnvW.toAdv (e : EnvW K δ F0 H0 F H σ ρ) : AdvW K δ F0 H0 F H := by
  obtain ⟨⟨o, e⟩, d⟩ := e
  exact ⟨⟨o, e.toAdv⟩, d⟩
theorem EnvW.setD {i : Nat} {v : V} {d : D} (e : EnvW K δ F0 H0 F H σ ρ) (h : Dp K F v d) : EnvW K δ F0 H0 F H (σ.set i (some v)) (ρ.set i (.dat d)) := by
  obtain ⟨⟨o, e⟩, dk⟩ := e
  exact ⟨⟨o, e.setD h⟩, dk⟩
theorem EnvW.own (e : EnvW K δ F0 H0 F H σ ρ) {i : Nat} {ds : List D} (h : ρ[i]? = some (.own ds)) : ∃ p vs, σ[i]? = some (some (.ref p)) ∧ p ≠ δ ∧ F p = none ∧ H p = some (.lst vs) ∧ DpAll K F vs ds := by
  obtain ⟨⟨o, e⟩, dk⟩ := e
  obtain ⟨p, vs, h1, h2, h3, h4, h5⟩ := e.own i ds h
  refine ⟨p, vs, h1, fun z => ?_, h2, h4, h5⟩
  subst z
  rw [upd_same] at h3
  cases h3
theorem EnvW.dat (e : EnvW K δ F0 H0 F H σ ρ) {i : Nat} {d : D} (h : ρ[i]? = some (.dat d)) : ∃ v, σ[i]? = some (some v) ∧ Dp K F v d := by
  obtain ⟨⟨o, e⟩, dk⟩ := e
  exact e.dat i d h
theorem EnvW.rf (e : EnvW K δ F0 H0 F H σ ρ) {i : Nat} {a : Addr} (h : ρ[i]? = some (.rf a)) : σ[i]? = some (some (.ref a)) := by
  obtain ⟨⟨o, e⟩, dk⟩ := e
  exact e.rf i a h
theorem EnvW.setO (e : EnvW K δ F0 H0 F H σ ρ) (a : AdvW K δ F H F' H') {i : Nat} {p : Addr} {vs : List V} {ds : List D} (h0 : H p = none) (h1 : F' p = none) (h2 : H' p = some (.lst vs)) (h3 : DpAll K F' vs ds) :
    EnvW K δ F0 H0 F' H' (σ.set i (some (.ref p))) (ρ.set i (.own ds)) := by
  have old := e
  obtain ⟨⟨o', e'⟩, d'⟩ := e.go a
  have hd : p ≠ δ := fun z => by
    subst z
    obtain ⟨o, k⟩ := e.deck.here
    rw [h0] at k
    cases k
  refine ⟨⟨o', e'.setO ?_ h1 h2 h3 (fun j es q k1 k2 z => ?_) fun j n fs q C dx ws k1 k2 k3 hr => ?_⟩, d'⟩
  · rw [upd_ne hd]
    obtain ⟨⟨o, e⟩, _⟩ := e
    cases hh : H0 p with
    | none => rfl
    | some u =>
      rw [e.adv.2.1 p u (by rw [upd_ne hd]; exact hh)] at h0
      cases h0
  · obtain ⟨q', ws, g1, g2, g3, g4, g5⟩ := old.own (i := j) k1
    rw [k2] at g1
    cases g1
    rw [z, h0] at g4
    cases g4
  · obtain ⟨⟨o, e⟩, _⟩ := old
    obtain ⟨q', C', dx', ws', a1, a2, a3, a4, a5, a6, a7, a8⟩ := (e.obs j n fs k1).ex
    rw [k2] at a1
    cases a1
    have nq : q ≠ δ := fun z => by
      rw [z, upd_same] at a4
      cases a4
    rw [a.at nq a5] at k3
    cases k3
    obtain ⟨_, _, ls, k⟩ := a6.own_ex p hr
    rw [h0] at k
    cases k
theorem EnvW.mutO (e : EnvW K δ F0 H0 F H σ ρ) {i : Nat} {p : Addr} {ds es : List D} {ws : List V} (hi : ρ[i]? = some (.own ds)) (hp : σ[i]? = some (some (.ref p))) (h3 : DpAll K F ws es) :
    EnvW K δ F0 H0 F (upd H p (.lst ws)) σ (ρ.set i (.own es)) := by
  obtain ⟨q, vs, g1, g2, g3, g4, g5⟩ := e.own hi
  rw [hp] at g1
  cases g1
  obtain ⟨⟨o, e⟩, dk⟩ := e
  refine ⟨⟨o, e.mutO hi hp h3⟩, ?_⟩
  obtain ⟨x, y, z, w, q, ns, k1, k2⟩ := dk
  exact ⟨x, y, z, w, q, ns, by rw [upd_ne (Ne.symm g2)]; exact k1, k2⟩
theorem Deck.frz (dk : Deck K δ F H) {p : Addr} {o : HO} (n : p ≠ δ) (f : F p = none) : Deck K δ (upd F p o) H := by
  obtain ⟨x, y, z, w, q, ns, k1, k2, k3, k4, k5, k6⟩ := dk
  exact ⟨x, y, z, w, q, ns, k1, by rw [upd_ne (Ne.symm n)]; exact k2, k3, k4, k5, dp_ex (Ex.new f) _ _ k6⟩
theorem EnvW.freeze (e : EnvW K δ F0 H0 F H σ ρ) {i : Nat} {ds : List D} (hi : ρ[i]? = some (.own ds)) : ∃ p vs, σ[i]? = some (some (.ref p)) ∧ Dp K (upd F p (.lst vs)) (.ref p) (.list ds) ∧
    EnvW K δ F0 H0 (upd F p (.lst vs)) H σ (ρ.set i (.dat (.list ds))) := by
  obtain ⟨p', vs', g1, g2, g3, g4, g5⟩ := e.own hi
  obtain ⟨⟨o, e⟩, dk⟩ := e
  obtain ⟨p, vs, h1, h2, h3⟩ := e.freeze hi
  have hp : p = p' := by
    rw [h1] at g1
    exact V.ref.inj (Option.some.inj (Option.some.inj g1))
  exact ⟨p, vs, h1, h2, ⟨o, h3⟩, dk.frz (by rw [hp]; exact g2) (by rw [hp]; exact g3)⟩
theorem EnvW.wipe (e : EnvW K δ F0 H0 F H σ ρ) (vs : List Nat) : EnvW K δ F0 H0 F H (L2.wipe σ vs) (wipeR ρ vs) := by
  obtain ⟨⟨o, e⟩, dk⟩ := e
  exact ⟨⟨o, e.wipe vs⟩, dk⟩
theorem EnvW.forget (e : EnvW K δ F0 H0 F H σ ρ) (vs : List Nat) : EnvW K δ F0 H0 F H σ (wipeR ρ vs) := by
  obtain ⟨⟨o, e⟩, dk⟩ := e
  exact ⟨⟨o, e.forget vs⟩, dk⟩
theorem EnvW.rebase {F1 : Hp} (e : EnvW K δ F0 H0 F H σ ρ) (h1 : Ex F0 F1) (h2 : Ex F1 F) : EnvW K δ F1 H0 F H σ ρ := by
  obtain ⟨⟨o, e⟩, dk⟩ := e
  exact ⟨⟨o, e.rebase h1 h2⟩, dk⟩
/-- data that is read: frozen, or an own list other than the deck -/
def TpW (K : PySem.W.Frag) (δ : Addr) (F H : Hp) (v : V) (d : D) : Prop := Dp K F v d ∨ ∃ p vs ds, v = .ref p ∧ p ≠ δ ∧ d = .list ds ∧ F p = none ∧ H p = some (.lst vs) ∧ DpAll K F vs ds
theorem TpW.tp {v : V} {d : D} (t : TpW K δ F H v d) : Tp K F H v d := by
  rcases t with t | ⟨p, vs, ds, h1, h2, h3, h4, h5, h6⟩
  · exact .inl t
  · exact .inr ⟨p, vs, ds, h1, h3, h4, h5, h6⟩
theorem TpW.go {v : V} {d : D} (t : TpW K δ F H v d) (a : AdvW K δ F H F' H') : TpW K δ F' H' v d := by
  rcases t with t | ⟨p, vs, ds, h1, h2, h3, h4, h5, h6⟩
  · exact .inl (dp_ex a.f _ _ t)
  · exact .inr ⟨p, vs, ds, h1, h2, h3, a.new h4 (by rw [h5]; exact fun z => nomatch z), a.at h2 h5, dpa_ex a.f _ _ h6⟩
inductive TpWAll (K : PySem.W.Frag) (δ : Addr) (F H : Hp) : List V → List D → Prop
  | nil : TpWAll K δ F H [] []
  | cons {v : V} {vs : List V} {d : D} {ds : List D} : TpW K δ F H v d → TpWAll K δ F H vs ds → TpWAll K δ F H (v :: vs) (d :: ds)
theorem TpWAll.tp : ∀ {vs : List V} {ds : List D}, TpWAll K δ F H vs ds → TpAll K F H vs ds
  | _, _, .nil => .nil
  | _, _, .cons r t => .cons r.tp (TpWAll.tp t)
theorem TpWAll.go (a : AdvW K δ F H F' H') : ∀ {vs : List V} {ds : List D}, TpWAll K δ F H vs ds → TpWAll K δ F' H' vs ds
  | _, _, .nil => .nil
  | _, _, .cons r t => .cons (r.go a) (TpWAll.go a t)
end

/-! ### readings -/
abbrev Wp (α : Type) := Rho → (α → Prop) → Prop
def uE (K : PySem.W.Frag) (δ : Addr) (F0 H0 : Hp) (w : Wp D) : TE := fun σ H Q => ∃ ρ F A, EnvW K δ F0 H0 F H σ ρ ∧ w ρ A ∧ ∀ d, A d → ∀ v F' H', AdvW K δ F H F' H' → Dp K F' v d → Q v H'
def uT (K : PySem.W.Frag) (δ : Addr) (F0 H0 : Hp) (w : Wp D) : TE := fun σ H Q => ∃ ρ F A, EnvW K δ F0 H0 F H σ ρ ∧ w ρ A ∧ ∀ d, A d → ∀ v F' H', AdvW K δ F H F' H' → TpW K δ F' H' v d → Q v H'
def uO (K : PySem.W.Frag) (δ : Addr) (F0 H0 : Hp) (w : Wp (List D)) : TE := fun σ H Q => ∃ ρ F A, EnvW K δ F0 H0 F H σ ρ ∧ w ρ A ∧ ∀ ds, A ds →
  ∀ p vs F' H', AdvW K δ F H F' H' → H p = none → F' p = none → H' p = some (.lst vs) → DpAll K F' vs ds → Q (.ref p) H'
def uB (K : PySem.W.Frag) (δ : Addr) (F0 H0 : Hp) (w : Wp Bool) : TT := fun σ H Q => ∃ ρ F A, EnvW K δ F0 H0 F H σ ρ ∧ w ρ A ∧ ∀ b, A b → ∀ F' H', AdvW K δ F H F' H' → Q b H'
def uAT (K : PySem.W.Frag) (δ : Addr) (F0 H0 : Hp) (w : Wp (List D)) : TA := fun σ H Q => ∃ ρ F A, EnvW K δ F0 H0 F H σ ρ ∧ w ρ A ∧ ∀ ds, A ds → ∀ vs F' H', AdvW K δ F H F' H' → TpWAll K δ F' H' vs ds → Q vs H'
def uAE (K : PySem.W.Frag) (δ : Addr) (F0 H0 : Hp) (w : Wp (List D)) : TA := fun σ H Q => ∃ ρ F A, EnvW K δ F0 H0 F H σ ρ ∧ w ρ A ∧ ∀ ds, A ds → ∀ vs F' H', AdvW K δ F H F' H' → DpAll K F' vs ds → Q vs H'
def GoesW (X : Cx) (δ : Addr) (F0 H0 : Hp) (Dn : Ends) : Res → Prop
  | .ex _ _ => False
  | .rs _ _ => False
  | .nx ρ => ∀ σ F H, EnvW X.K δ F0 H0 F H σ ρ → Dn.nx σ H
  | .rt d => ∀ v F H, AdvW X.K δ F0 H0 F H → Dp X.K F v d → Dn.rt v H
  | .bk ρ => ∀ σ F H, EnvW X.K δ F0 H0 F H σ ρ → Dn.bk σ H
  | .ct ρ => ∀ σ F H, EnvW X.K δ F0 H0 F H σ ρ → Dn.ct σ H
  | .ro ds => ∀ p vs F H, AdvW X.K δ F0 H0 F H → H0 p = none → F p = none → H p = some (.lst vs) → DpAll X.K F vs ds → Dn.rt (.ref p) H
def uS (X : Cx) (δ : Addr) (F0 H0 : Hp) (w : Wp Res) : TS := fun Dn σ H => ∃ ρ F A, EnvW X.K δ F0 H0 F H σ ρ ∧ w ρ A ∧ ∀ r, A r → GoesW X δ F0 H0 Dn r

structure NE (X : Cx) (δ : Addr) (e : Expr) (w : Wp D) : Prop where
  ok : ∀ F0 H0, PE X e (uE X.K δ F0 H0 w)
structure NT (X : Cx) (δ : Addr) (e : Expr) (w : Wp D) : Prop where
  ok : ∀ F0 H0, PE X e (uT X.K δ F0 H0 w)
structure NO (X : Cx) (δ : Addr) (e : Expr) (w : Wp (List D)) : Prop where
  ok : ∀ F0 H0, PE X e (uO X.K δ F0 H0 w)
structure NB (X : Cx) (δ : Addr) (e : Expr) (w : Wp Bool) : Prop where
  ok : ∀ F0 H0, PT X e (uB X.K δ F0 H0 w)
structure NAT (X : Cx) (δ : Addr) (es : List Expr) (w : Wp (List D)) : Prop where
  ok : ∀ F0 H0, PA X es (uAT X.K δ F0 H0 w)
structure NAE (X : Cx) (δ : Addr) (es : List Expr) (w : Wp (List D)) : Prop where
  ok : ∀ F0 H0, PA X es (uAE X.K δ F0 H0 w)
structure NS (X : Cx) (δ : Addr) (st : Stmt) (w : Wp Res) : Prop where
  ok : ∀ F0 H0, PS X st (uS X δ F0 H0 w)
structure NSs (X : Cx) (δ : Addr) (st : List Stmt) (w : Wp Res) : Prop where
  ok : ∀ F0 H0, PSs X st (uS X δ F0 H0 w)

/-! ### what doesn't draw -/
def pW {α : Type} (m : Rho → Option α) : Wp α := fun ρ A => ∃ d, m ρ = some d ∧ A d
section
variable {X : Cx} {δ : Addr} {e : Expr} {es : List Expr} {m : Rho → Option D}
theorem ME.n (h : ME X e m) : NE X δ e (pW m) := ⟨fun F0 H0 => ⟨fun pins s σ H Q I ⟨ρ, F, A, e1, ⟨d, e2, e3⟩, q⟩ => by
  obtain ⟨⟨o, e1⟩, dk⟩ := e1
  exact (h.ok F0 (upd H0 δ o)).run pins s σ H Q I ⟨ρ, F, d, e1, e2, fun v F' H' a p => q d e3 v F' H' (AdvW.of dk a) p⟩⟩⟩
theorem NE.t {w : Wp D} (h : NE X δ e w) : NT X δ e w := ⟨fun F0 H0 => pe_weak (h.ok F0 H0) fun σ H Q ⟨ρ, F, A, e1, e2, q⟩ => ⟨ρ, F, A, e1, e2, fun d hd v F' H' a p => q d hd v F' H' a (.inl p)⟩⟩
theorem nt_own (i : Nat) {x : Str} {pos : Pos} (hN : X.N[i]? = some x := by rfl) (hv : Vis X.env.scope x := by first | exact Or.inl rfl | exact Or.inr (Or.inl rfl) | exact Or.inr (Or.inr rfl)) (hd : (x == ("__debug__" : Str)) = false := by decide)
    (hcd : (x == ("__classdict__" : Str)) = false := by decide) : NT X δ (.Name x pos) (pW (mOwn i)) := ⟨fun F0 H0 => pe_weak (pe_var hN hv hd hcd) fun σ H Q ⟨ρ, F, A, e1, ⟨d, e2, e3⟩, q⟩ => by
  unfold mOwn at e2
  split at e2
  · cases e2
    rename_i hi
    obtain ⟨p, vs, h1, h2, h3, h4, h5⟩ := e1.own hi
    exact ⟨_, h1, q _ e3 _ F H (AdvW.refl e1.deck e1.fh) (.inr ⟨p, vs, _, rfl, h2, rfl, h3, h4, h5⟩)⟩
  · cases e2
    rename_i hi
    obtain ⟨v, h1, h2⟩ := e1.dat hi
    exact ⟨v, h1, q _ e3 v F H (AdvW.refl e1.deck e1.fh) (.inl h2)⟩
  · cases e2⟩
theorem MO.n {m : Rho → Option (List D)} (h : MO X e m) : NO X δ e (pW m) := ⟨fun F0 H0 => ⟨fun pins s σ H Q I ⟨ρ, F, A, e1, ⟨d, e2, e3⟩, q⟩ => by
  obtain ⟨⟨o, e1⟩, dk⟩ := e1
  exact (h.ok F0 (upd H0 δ o)).run pins s σ H Q I ⟨ρ, F, d, e1, e2, fun p vs F' H' a h0 h1 h2 h3 => q d e3 p vs F' H' (AdvW.of dk a) h0 h1 h2 h3⟩⟩⟩
theorem MB.n {m : Rho → Option Bool} (h : MB X e m) : NB X δ e (pW m) := ⟨fun F0 H0 => ⟨fun pins s σ H Q I ⟨ρ, F, A, e1, ⟨d, e2, e3⟩, q⟩ => by
  obtain ⟨⟨o, e1⟩, dk⟩ := e1
  exact (h.ok F0 (upd H0 δ o)).run pins s σ H Q I ⟨ρ, F, d, e1, e2, fun F' H' a => q d e3 F' H' (AdvW.of dk a)⟩⟩⟩
theorem MAE.n {m : Rho → Option (List D)} (h : MAE X es m) : NAE X δ es (pW m) := ⟨fun F0 H0 => ⟨fun pos pins s σ H Q I ⟨ρ, F, A, e1, ⟨d, e2, e3⟩, q⟩ => by
  obtain ⟨⟨o, e1⟩, dk⟩ := e1
  exact (h.ok F0 (upd H0 δ o)).run pos pins s σ H Q I ⟨ρ, F, d, e1, e2, fun vs F' H' a p => q d e3 vs F' H' (AdvW.of dk a) p⟩⟩⟩
/-- no error leaves -/
theorem goesW_of {F0 H0 : Hp} {o : HO} {Dn : Ends} {r : Res} (h : GoesW X δ F0 H0 Dn r) {W : WX} (F1 : Hp) (H1 : Hp) (h1 : Deck X.K δ F0 (upd H0 δ o)) (n : ∃ u, H0 δ = some u) : Goes X F0 (upd H0 δ o) W Dn r := by
  have dk : ∀ {F H : Hp} {σ : L2.St} {ρ : Rho}, EnvOk X.K F0 (upd H0 δ o) F H σ ρ → EnvW X.K δ F0 H0 F H σ ρ := fun {F H σ ρ} e => ⟨⟨o, e⟩, h1.go e.toAdv⟩
  cases r with
  | nx ρ => exact fun σ F H e => h σ F H (dk e)
  | bk ρ => exact fun σ F H e => h σ F H (dk e)
  | ct ρ => exact fun σ F H e => h σ F H (dk e)
  | rt d => exact fun v F H a p => h v F H ⟨⟨o, a⟩, h1.go a⟩ p
  | ex e ρ => exact h.elim
  | rs d ρ => exact h.elim
  | ro ds => exact fun p vs F H a z0 z1 z2 z3 => h p vs F H ⟨⟨o, a⟩, h1.go a⟩ (by
      by_cases hp : p = δ
      · subst hp
        rw [upd_same] at z0
        cases z0
      · rw [upd_ne hp] at z0
        exact z0) z1 z2 z3
def wL (w : Wp (List D)) : Wp D := fun ρ A => w ρ fun ds => A (.list ds)
theorem AdvW.freeze {K : PySem.W.Frag} {F H F' H' : Hp} {p : Addr} {o : HO} (dk : Deck K δ F H) (a : AdvW K δ F H F' H') (h0 : H p = none) (h1 : F' p = none) (h2 : H' p = some o) : AdvW K δ F H (upd F' p o) H' := by
  have hd : p ≠ δ := fun z => by
    subst z
    obtain ⟨u, k⟩ := dk.here
    rw [h0] at k
    cases k
  obtain ⟨⟨u, a⟩, d⟩ := a
  exact ⟨⟨u, a.freeze (by rw [upd_ne hd]; exact h0) h1 h2⟩, d.frz hd h1⟩
end
theorem NO.e {X : Cx} {δ : Addr} {e : Expr} {w : Wp (List D)} (h : NO X δ e w) : NE X δ e (wL w) := ⟨fun F0 H0 => pe_weak (h.ok F0 H0) fun σ H Q ⟨ρ, F, A, e1, e2, q⟩ =>
  ⟨ρ, F, _, e1, e2, fun ds hd p vs F' H' a h0 h1 h2 h3 => q _ hd _ _ _ (a.freeze e1.deck h0 h1 h2) (.lst (SqL.of upd_same) (dpa_ex (Ex.new h1) ds vs h3))⟩⟩
end MV

set_option maxRecDepth 100000
set_option maxHeartbeats 4000000
namespace MV
open PySem PySem.Spec PyProof.Rows L2

/-! ### expressions that may draw -/
def wBin (g : D → D → Option D) (wa wb : Wp D) : Wp D := fun ρ A => wa ρ fun x => wb ρ fun y => ∃ d, g x y = some d ∧ A d
def wUn (g : D → Option D) (wa : Wp D) : Wp D := fun ρ A => wa ρ fun x => ∃ d, g x = some d ∧ A d
def wNil : Wp (List D) := fun ρ A => A []
def wCons (wa : Wp D) (wr : Wp (List D)) : Wp (List D) := fun ρ A => wa ρ fun x => wr ρ fun xs => A (x :: xs)
def wTup (wr : Wp (List D)) : Wp D := fun ρ A => wr ρ fun ds => ds.length ≤ 100000 ∧ A (.tuple ds)
def wLst (wr : Wp (List D)) : Wp (List D) := fun ρ A => wr ρ fun ds => ds.length ≤ 100000 ∧ A ds
def wFn (g : List D → Option D) (wa : Wp (List D)) : Wp D := fun ρ A => wa ρ fun ds => ∃ d, g ds = some d ∧ A d
def wCallG (mf : List D → Option D) (dds : List D) (wa : Wp (List D)) : Wp D := fun ρ A => wa ρ fun ds => ∃ d, mf (ds ++ dds) = some d ∧ A d
def wAsB (w : Wp D) : Wp Bool := fun ρ A => w ρ fun d => ∃ b, d = .bool b ∧ A b
def wTru (w : Wp D) : Wp Bool := fun ρ A => w ρ fun d => ∃ b, dTru d = some b ∧ A b
def wNot (w : Wp Bool) : Wp Bool := fun ρ A => w ρ fun b => A (!b)
def wAnd (wa wb : Wp Bool) : Wp Bool := fun ρ A => wa ρ fun a => if a = true then wb ρ A else A false
def wOr (wa wb : Wp Bool) : Wp Bool := fun ρ A => wa ρ fun a => if a = true then A true else wb ρ A
def wIf (wt : Wp Bool) (wa wb : Wp D) : Wp D := fun ρ A => wt ρ fun c => if c = true then wa ρ A else wb ρ A
def wAndV (wa wb : Wp D) : Wp D := fun ρ A => wa ρ fun d => ∃ b, d = .bool b ∧ (if b = true then wb ρ A else A (.bool false))
def wOrV (wa wb : Wp D) : Wp D := fun ρ A => wa ρ fun d => ∃ b, d = .bool b ∧ (if b = true then A (.bool true) else wb ρ A)
def wNotV (wa : Wp D) : Wp D := fun ρ A => wa ρ fun d => ∃ b, d = .bool b ∧ A (.bool !b)
section
variable {X : Cx} {δ : Addr} {a b e : Expr} {es : List Expr} {wa wb w : Wp D} {wr : Wp (List D)} {wt wu : Wp Bool} {pos p : Pos}
theorem bin_read {g : D → D → Option D} {F0 H0 : Hp} {σ : L2.St} {H : Hp} {Q : VK} (h : uE X.K δ F0 H0 (wBin g wa wb) σ H Q) : tOp (rD X.K g) (uT X.K δ F0 H0 wa) (uT X.K δ F0 H0 wb) σ H Q := by
  obtain ⟨ρ, F, A, e1, e2, q⟩ := h
  exact ⟨ρ, F, _, e1, e2, fun x hx v1 F1 H1 a1 t1 => ⟨ρ, F1, _, e1.go a1, hx, fun y ⟨d, hd, hA⟩ v2 F2 H2 a2 t2 => ⟨F2, x, y, d, a2.fh, (t1.go a2).tp, t2.tp, hd, fun v F3 H3 a3 p3 => q d hA v F3 H3 ((a1.trans e1.deck a2).trans e1.deck (AdvW.of a2.deck a3)) p3⟩⟩⟩
theorem ne_bin {op : Operator} {g : D → D → Option D} (ho : OpD X (binaryOp op) g) (ha : NT X δ a wa) (hb : NT X δ b wb) : NE X δ (.BinOp a op b pos) (wBin g wa wb) :=
  ⟨fun F0 H0 => pe_weak (pe_op ho.ok (ha.ok F0 H0) (hb.ok F0 H0)) fun _ _ _ h => bin_read h⟩
theorem ne_cmp {op : CmpOp} {g : D → D → Option D} (ho : OpD X (compareOp op) g) (ha : NT X δ a wa) (hb : NT X δ b wb) (hm : behindInMarks op b = false := by first | exact nomark _ | rfl) : NE X δ (.Compare a [op] [b] pos) (wBin g wa wb) :=
  ⟨fun F0 H0 => pe_weak (pe_cmpR ho.ok (ha.ok F0 H0) (hb.ok F0 H0) hm) fun _ _ _ h => bin_read h⟩
theorem ne_ix (ha : NT X δ a wa) (hb : NT X δ b wb) (hs : PlainIx b := by exact fun _ _ => rfl) : NE X δ (.Subscript a b pos) (wBin dIx wa wb) :=
  ⟨fun F0 H0 => pe_weak (pe_ix ix_d (ha.ok F0 H0) (hb.ok F0 H0) hs) fun _ _ _ h => bin_read h⟩
theorem ne_neg (ha : NT X δ a wa) : NE X δ (.UnaryOp .USub a pos) (wUn dNeg wa) := ⟨fun F0 H0 => pe_weak (pe_un un_neg (ha.ok F0 H0)) fun σ H Q ⟨ρ, F, A, e1, e2, q⟩ => by
  refine ⟨ρ, F, _, e1, e2, fun x ⟨d, hd, hA⟩ v1 F1 H1 a1 t1 => ?_⟩
  unfold dNeg at hd
  split at hd
  · cases hd
    exact ⟨_, t1.tp.int, q _ hA _ F1 H1 a1 (.int _)⟩
  · cases hd⟩
theorem nat_nil : NAT X δ [] wNil := ⟨fun F0 H0 => pa_weak pa_nil fun σ H Q ⟨ρ, F, A, e1, e2, q⟩ => q [] e2 [] F H (AdvW.refl e1.deck e1.fh) .nil⟩
theorem nat_cons (ha : NT X δ e wa) (hr : NAT X δ es wr) (hs : starEach (e :: es) X.env = (false, eval e X.env) :: starEach es X.env := by rfl) : NAT X δ (e :: es) (wCons wa wr) :=
  ⟨fun F0 H0 => pa_weak (pa_cons (ha.ok F0 H0) (hr.ok F0 H0) hs) fun σ H Q ⟨ρ, F, A, e1, e2, q⟩ =>
    ⟨ρ, F, _, e1, e2, fun x hx v1 F1 H1 a1 t1 => ⟨ρ, F1, _, e1.go a1, hx, fun xs hxs vs F2 H2 a2 t2 => q _ hxs _ F2 H2 (a1.trans e1.deck a2) (.cons (t1.go a2) t2)⟩⟩⟩
theorem nae_nil : NAE X δ [] wNil := ⟨fun F0 H0 => pa_weak pa_nil fun σ H Q ⟨ρ, F, A, e1, e2, q⟩ => q [] e2 [] F H (AdvW.refl e1.deck e1.fh) .nil⟩
theorem nae_cons (ha : NE X δ e wa) (hr : NAE X δ es wr) (hs : starEach (e :: es) X.env = (false, eval e X.env) :: starEach es X.env := by rfl) : NAE X δ (e :: es) (wCons wa wr) :=
  ⟨fun F0 H0 => pa_weak (pa_cons (ha.ok F0 H0) (hr.ok F0 H0) hs) fun σ H Q ⟨ρ, F, A, e1, e2, q⟩ =>
    ⟨ρ, F, _, e1, e2, fun x hx v1 F1 H1 a1 t1 => ⟨ρ, F1, _, e1.go a1, hx, fun xs hxs vs F2 H2 a2 t2 => q _ hxs _ F2 H2 (a1.trans e1.deck a2) (.cons (dp_ex a2.f _ _ t1) t2)⟩⟩⟩
theorem AdvW.laid {K : PySem.W.Frag} {F H F' H' : Hp} {p : Addr} {o : HO} (dk : Deck K δ F H) (a : AdvW K δ F H F' H') (hp : H' p = none) : AdvW K δ F H (upd F' p o) (upd H' p o) := a.trans dk (AdvW.of a.deck (Adv.laid a.fh hp))
theorem ne_tup {k} (h : NAE X δ es wr) : NE X δ (.Tuple es k pos) (wTup wr) := ⟨fun F0 H0 => pe_weak (pe_tup (h.ok F0 H0)) fun σ H Q ⟨ρ, F, A, e1, e2, q⟩ =>
  ⟨ρ, F, _, e1, e2, fun ds ⟨hz, hA⟩ vs F1 H1 a1 t1 => ⟨sz_of (by rw [dal_len t1]; exact hz), fun p hp => q _ hA _ _ _ (a1.laid e1.deck hp) (.tup (SqT.of upd_same) (dpa_ex (Ex.new (a1.fh.none hp)) _ _ t1))⟩⟩⟩
theorem AdvW.kept {K : PySem.W.Frag} {F H F' H' : Hp} {p : Addr} {o : HO} (dk : Deck K δ F H) (a : AdvW K δ F H F' H') (hp : H' p = none) : AdvW K δ F H F' (upd H' p o) := a.trans dk (AdvW.of a.deck (Adv.kept a.fh (Ex.new hp)))
theorem no_lst (h : NAE X δ es wr) : NO X δ (.List es pos) (wLst wr) := ⟨fun F0 H0 => pe_weak (pe_lst (h.ok F0 H0)) fun σ H Q ⟨ρ, F, A, e1, e2, q⟩ =>
  ⟨ρ, F, _, e1, e2, fun ds ⟨hz, hA⟩ vs F1 H1 a1 t1 => ⟨sz_of (by rw [dal_len t1]; exact hz), fun p hp => q _ hA p vs F1 _ (a1.kept e1.deck hp) (a1.free e1.deck hp) (a1.fh.none hp) upd_same t1⟩⟩⟩
theorem fnw_read {g : List D → Option D} {F0 H0 : Hp} {σ : L2.St} {H : Hp} {Q : VK} (h : uE X.K δ F0 H0 (wFn g wr) σ H Q) : tCB (cD X.K g) (uAT X.K δ F0 H0 wr) σ H Q := by
  obtain ⟨ρ, F, A, e1, e2, q⟩ := h
  exact ⟨ρ, F, _, e1, e2, fun ds ⟨d, hd, hA⟩ vs F1 H1 a1 ta => ⟨F1, ds, d, a1.fh, ta.tp, hd, fun v F2 H2 a2 pd => q d hA v F2 H2 (a1.trans e1.deck (AdvW.of a1.deck a2)) pd⟩⟩
theorem ne_fnB {x : Str} {id : String} {g : List D → Option D} (hc : FnD X (.builtin id) g) (hm : X.mg x = none) (ha : NAT X δ (e :: es) wr) (hv : bootBuiltins x = some (.builtin id) := by decide +kernel) (hg : Gl X x := by rfl) (hn : x ≠ "__name__" := by decide) (hdb : (x == ("__debug__" : Str)) = false := by decide)
    (he : starEach (e :: es) X.env = (false, eval e X.env) :: starEach es X.env := by rfl) (hpl : (backTo pos (starEach es X.env)).any (·.1) = false := by rfl) : NE X δ (.Call (.Name x p) (e :: es) [] pos) (wFn g wr) :=
  ⟨fun F0 H0 => pe_weak (pe_callB hc.ok hg hm hv (ha.ok F0 H0) hn hdb he hpl) fun _ _ _ h => fnw_read h⟩
theorem ne_fnT {x : Str} {T : String} {g : List D → Option D} (hc : FnD X (.type T) g) (hm : X.mg x = none) (ha : NAT X δ (e :: es) wr) (hv : bootBuiltins x = some (.type T) := by decide +kernel) (hg : Gl X x := by rfl) (hn : x ≠ "__name__" := by decide) (hdb : (x == ("__debug__" : Str)) = false := by decide)
    (he : starEach (e :: es) X.env = (false, eval e X.env) :: starEach es X.env := by rfl) (hpl : (backTo pos (starEach es X.env)).any (·.1) = false := by rfl) : NE X δ (.Call (.Name x p) (e :: es) [] pos) (wFn g wr) :=
  ⟨fun F0 H0 => pe_weak (pe_callTy hc.ok hg hm hv (ha.ok F0 H0) hn hdb he hpl) fun _ _ _ h => fnw_read h⟩
/-! tests -/
theorem nb_val (h : NT X δ e w) (he : ∀ whole, isTrue e X.env whole = (do let v ← whole; standAt e.pos; holding [v] (truthy v)) := by intro _; rfl) : NB X δ e (wAsB w) :=
  ⟨fun F0 H0 => pt_weak (pt_val (h.ok F0 H0) he) fun σ H Q ⟨ρ, F, A, e1, e2, q⟩ => ⟨ρ, F, _, e1, e2, fun d ⟨b, hb, hA⟩ v F' H' a t => ⟨b, by subst hb; exact t.tp.bool, q b hA F' H' a⟩⟩⟩
theorem nb_cmp {op : CmpOp} {g : D → D → Option D} (ho : OpD X (compareOp op) g) (ha : NT X δ a wa) (hb : NT X δ b wb) (hm : behindInMarks op b = false := by first | exact nomark _ | rfl) : NB X δ (.Compare a [op] [b] pos) (wAsB (wBin g wa wb)) :=
  ⟨fun F0 H0 => pt_weak (pt_cmpR ho.ok (ha.ok F0 H0) (hb.ok F0 H0) hm) fun σ H Q ⟨ρ, F, A, e1, e2, q⟩ =>
    bin_read (X := X) (F0 := F0) (H0 := H0) (Q := fun x H' => ∃ k, x = .bl k ∧ Q k H') ⟨ρ, F, _, e1, e2, fun d ⟨b, hb, hA⟩ v F' H' a t => ⟨b, (by subst hb; cases t; rfl), q b hA F' H' a⟩⟩⟩
theorem nb_tru (h : NT X δ e w) (he : ∀ whole, isTrue e X.env whole = (do let v ← whole; standAt e.pos; holding [v] (truthy v)) := by intro _; rfl) : NB X δ e (wTru w) :=
  ⟨fun F0 H0 => pt_weak (pt_truth (h.ok F0 H0) he) fun σ H Q ⟨ρ, F, A, e1, e2, q⟩ => ⟨ρ, F, _, e1, e2, fun x ⟨b, e2, hA⟩ v F' H' a t0 => by
    have t := t0.tp
    refine ⟨b, ?_, q b hA F' H' a⟩
    unfold dTru at e2
    split at e2
    · cases e2; rw [t.none]; rfl
    · cases e2; rw [t.bool]; rfl
    · cases e2; rw [t.int]; rfl
    · cases e2
      obtain ⟨p, vs, rfl, hs, ha⟩ := t.list a.fh
      exact .inl ⟨vs, hs, by rw [isEmpty_dp ha]⟩
    · cases e2
      obtain ⟨p, vs, rfl, hs, ha⟩ := t.tuple a.fh
      exact .inr (.inl ⟨vs, hs, by rw [isEmpty_dp ha]⟩)
    · cases e2⟩⟩
theorem nb_not (h : NB X δ a wt) : NB X δ (.UnaryOp .Not a pos) (wNot wt) := ⟨fun F0 H0 => pt_weak (pt_not (h.ok F0 H0)) fun σ H Q ⟨ρ, F, A, e1, e2, q⟩ => ⟨ρ, F, _, e1, e2, fun b hb F' H' a => q _ hb F' H' a⟩⟩
structure NW (X : Cx) (δ : Addr) (e : Expr) (w : Wp Bool) : Prop where
  ok : ∀ F0 H0, PW X e (uB X.K δ F0 H0 w)
theorem NW.toB (h : NW X δ e wt) : NB X δ e wt := ⟨fun F0 H0 => (h.ok F0 H0).pt⟩
theorem nw_and1 (h : NB X δ a wt) : NW X δ (.BoolOp .And [a] pos) wt := ⟨fun F0 H0 => pw_and1 (h.ok F0 H0)⟩
theorem nw_or1 (h : NB X δ a wt) : NW X δ (.BoolOp .Or [a] pos) wt := ⟨fun F0 H0 => pw_or1 (h.ok F0 H0)⟩
theorem nw_and (h : NB X δ a wt) (h2 : NW X δ (.BoolOp .And (b :: es) pos) wu) : NW X δ (.BoolOp .And (a :: b :: es) pos) (wAnd wt wu) :=
  ⟨fun F0 H0 => pw_weak (pw_and (h.ok F0 H0) (h2.ok F0 H0)) fun σ H Q ⟨ρ, F, A, e1, e2, q⟩ => ⟨ρ, F, _, e1, e2, fun x hx F1 H1 a1 => by
      cases x with
      | true => exact iteT ⟨ρ, F1, A, e1.go a1, (by simpa using hx), fun b hb F2 H2 a2 => q b hb F2 H2 (a1.trans e1.deck a2)⟩
      | false => exact iteF (q _ (by simpa using hx) F1 H1 a1)⟩⟩
theorem nw_or (h : NB X δ a wt) (h2 : NW X δ (.BoolOp .Or (b :: es) pos) wu) : NW X δ (.BoolOp .Or (a :: b :: es) pos) (wOr wt wu) :=
  ⟨fun F0 H0 => pw_weak (pw_or (h.ok F0 H0) (h2.ok F0 H0)) fun σ H Q ⟨ρ, F, A, e1, e2, q⟩ => ⟨ρ, F, _, e1, e2, fun x hx F1 H1 a1 => by
      cases x with
      | true => exact iteT (q _ (by simpa using hx) F1 H1 a1)
      | false => exact iteF ⟨ρ, F1, A, e1.go a1, (by simpa using hx), fun b hb F2 H2 a2 => q b hb F2 H2 (a1.trans e1.deck a2)⟩⟩⟩
theorem ne_if {c : Expr} (hc : NB X δ c wt) (ha : NE X δ a wa) (hb : NE X δ b wb) : NE X δ (.IfExp c a b pos) (wIf wt wa wb) :=
  ⟨fun F0 H0 => pe_weak (pe_ifExp (hc.ok F0 H0) (ha.ok F0 H0) (hb.ok F0 H0)) fun σ H Q ⟨ρ, F, A, e1, e2, q⟩ => ⟨ρ, F, _, e1, e2, fun x hx F1 H1 a1 => by
      cases x with
      | true => exact iteT ⟨ρ, F1, A, e1.go a1, (by simpa using hx), fun d hd v F2 H2 a2 => q d hd v F2 H2 (a1.trans e1.deck a2)⟩
      | false => exact iteF ⟨ρ, F1, A, e1.go a1, (by simpa using hx), fun d hd v F2 H2 a2 => q d hd v F2 H2 (a1.trans e1.deck a2)⟩⟩⟩
theorem ne_one {op} (h : NE X δ a wa) : NE X δ (.BoolOp op [a] pos) wa := ⟨fun F0 H0 => pe_one (h.ok F0 H0)⟩
theorem ne_and (h : NE X δ a wa) (h2 : NE X δ (.BoolOp .And (b :: es) pos) wb) : NE X δ (.BoolOp .And (a :: b :: es) pos) (wAndV wa wb) :=
  ⟨fun F0 H0 => pe_weak (pe_and (h.ok F0 H0) (h2.ok F0 H0)) fun σ H Q ⟨ρ, F, A, e1, e2, q⟩ => ⟨ρ, F, _, e1, e2, fun d ⟨x, hd, hx⟩ v F1 H1 a1 t1 => by
      subst hd
      refine ⟨x, (by cases t1; rfl), ?_⟩
      cases x with
      | true => exact iteT ⟨ρ, F1, A, e1.go a1, (by simpa using hx), fun d hd v F2 H2 a2 => q d hd v F2 H2 (a1.trans e1.deck a2)⟩
      | false => exact iteF (q _ (by simpa using hx) _ F1 H1 a1 (.bl _))⟩⟩
theorem ne_or (h : NE X δ a wa) (h2 : NE X δ (.BoolOp .Or (b :: es) pos) wb) : NE X δ (.BoolOp .Or (a :: b :: es) pos) (wOrV wa wb) :=
  ⟨fun F0 H0 => pe_weak (pe_or (h.ok F0 H0) (h2.ok F0 H0)) fun σ H Q ⟨ρ, F, A, e1, e2, q⟩ => ⟨ρ, F, _, e1, e2, fun d ⟨x, hd, hx⟩ v F1 H1 a1 t1 => by
      subst hd
      refine ⟨x, (by cases t1; rfl), ?_⟩
      cases x with
      | true => exact iteT (q _ (by simpa using hx) _ F1 H1 a1 (.bl _))
      | false => exact iteF ⟨ρ, F1, A, e1.go a1, (by simpa using hx), fun d hd v F2 H2 a2 => q d hd v F2 H2 (a1.trans e1.deck a2)⟩⟩⟩
theorem ne_not (h : NE X δ a wa) : NE X δ (.UnaryOp .Not a pos) (wNotV wa) :=
  ⟨fun F0 H0 => pe_weak (pe_not (h.ok F0 H0)) fun σ H Q ⟨ρ, F, A, e1, e2, q⟩ => ⟨ρ, F, _, e1, e2, fun d ⟨x, hd, hx⟩ v F1 H1 a1 t1 => by
      subst hd
      exact ⟨x, (by cases t1; rfl), q _ hx _ F1 H1 a1 (.bl _)⟩⟩⟩
/-! slices -/
structure NP (X : Cx) (δ : Addr) (e : Option Expr) (w : Wp (Option Int)) : Prop where
  ok : ∀ F0 H0, PO X e (fun σ H Q => ∃ ρ F A, EnvW X.K δ F0 H0 F H σ ρ ∧ w ρ A ∧ ∀ o, A o → ∀ F' H', AdvW X.K δ F H F' H' → Q o H')
def wNoPart : Wp (Option Int) := fun ρ A => A none
def wPart (w : Wp D) : Wp (Option Int) := fun ρ A => w ρ fun d => ∃ i, d = .int i ∧ A (some i)
theorem np_none : NP X δ none wNoPart := ⟨fun F0 H0 => po_weak po_none fun σ H Q ⟨ρ, F, A, e1, e2, q⟩ => q _ e2 F H (AdvW.refl e1.deck e1.fh)⟩
theorem np_some (h : NT X δ e w) : NP X δ (some e) (wPart w) := ⟨fun F0 H0 => po_weak (po_some (h.ok F0 H0)) fun σ H Q ⟨ρ, F, A, e1, e2, q⟩ =>
  ⟨ρ, F, _, e1, e2, fun d ⟨i, hd, hA⟩ v F1 H1 a1 t => ⟨i, by subst hd; exact t.tp.int, q _ hA F1 H1 a1⟩⟩⟩
def wCut (w : Wp D) (wl wh : Wp (Option Int)) : Wp D := fun ρ A => w ρ fun d => wl ρ fun lo => wh ρ fun hi => ∃ d', dCut lo hi d = some d' ∧ A d'
theorem ne_cut {lo hi : Option Expr} {wl wh : Wp (Option Int)} {p2 : Pos} (h : NT X δ e w) (hl : NP X δ lo wl) (hh : NP X δ hi wh) : NE X δ (.Subscript e (.Slice lo hi none p2) pos) (wCut w wl wh) :=
  ⟨fun F0 H0 => pe_weak (pe_slice (sl_list.or sl_tupA) (h.ok F0 H0) (hl.ok F0 H0) (hh.ok F0 H0)) fun σ H Q ⟨ρ, F, A, e1, e2, q⟩ =>
    ⟨ρ, F, _, e1, e2, fun d1 h1 v F1 H1 a1 t1 => ⟨ρ, F1, _, e1.go a1, h1, fun lo1 h2 F2 H2 a2 => ⟨ρ, F2, _, (e1.go a1).go a2, h2, fun hi1 ⟨d', hd, hA⟩ F3 H3 a3 => by
      have a12 := a1.trans e1.deck a2
      have a13 := a12.trans e1.deck a3
      have t := ((t1.go a2).go a3).tp
      unfold dCut at hd
      split at hd
      · cases hd
        obtain ⟨p, vs, rfl, hs, pa⟩ := t.list a3.fh
        exact .inl ⟨p, vs, rfl, hs, fun l hl => q _ hA _ _ _ (a13.laid e1.deck hl) (.lst (SqL.of upd_same) (dpa_ex (Ex.new (a3.fh.none hl)) _ _ (dpa_cut pa lo1 hi1)))⟩
      · cases hd
        rcases t with t | ⟨_, _, _, _, z, _⟩
        · cases t with
          | @tup _ vs _ hs pa =>
            refine .inr ⟨_, _, rfl, sqt_ex a3.fh hs, fun hw => ?_, fun hw l hl => q _ hA _ _ _ (a13.laid e1.deck hl) (.tup (SqT.of upd_same) (dpa_ex (Ex.new (a3.fh.none hl)) _ _ (dpa_cut pa lo1 hi1)))⟩
            have l := dal_len pa
            have whole : ∀ ds : List D, vs.length = ds.length → cutD ds lo1 hi1 = ds := fun ds l => by
              unfold cutD
              rw [← l, hw.1, hw.2, List.drop_zero, Nat.sub_zero, l, List.take_length]
            rw [whole _ l] at hA
            exact q _ hA _ F3 H3 a13 (.tup hs pa)
        · cases z
      · cases hd⟩⟩⟩⟩
/-! ### calls -/
section
variable {k : Nat} {f : Addr} {fd : FuncData} {ps : List Str} {mf : List D → Option D} {dvs : List V} {dus : List Value} {dds : List D} {x : Str}
theorem ne_callG (G : FnG X.prog X.w X.K X.mg X.base k f fd ps mf) (hG : X.A.guards = some []) (hr : Room k X.A) (hm : X.mg x = some (.ref f)) (hk : PySem.W.keepIn X.K (.ref f) = true) (hb : Binds X.K fd ps dus) (hd : Vals dvs dus) (hdd : ∀ F : Hp, DpAll X.K F dvs dds)
    (ha : NAE X δ (e :: es) wr) (hg : Gl X x := by rfl) (hdb : (x == ("__debug__" : Str)) = false := by decide) (he : starEach (e :: es) X.env = (false, eval e X.env) :: starEach es X.env := by rfl) (hpl : (backTo pos (starEach es X.env)).any (·.1) = false := by rfl) :
    NE X δ (.Call (.Name x p) (e :: es) [] pos) (wCallG mf dds wr) :=
  ⟨fun F0 H0 => pe_weak (pe_callG G hG hr hg hm hk hb hd (ha.ok F0 H0) hdb he hpl) fun σ H Q ⟨ρ, F, A, e1, e2, q⟩ =>
    ⟨ρ, F, _, e1, e2, fun ds ⟨d, hd', hA⟩ vs F1 H1 a1 pa => ⟨F1, ds ++ dds, d, a1.fh, dal_app pa (hdd F1), hd', fun v F2 H2 a2 pd => q d hA v F2 H2 (a1.trans e1.deck (AdvW.of a1.deck a2)) pd⟩⟩⟩
end
end

/-! ### defs that draw -/
def spW (K : PySem.W.Frag) (wf : Addr → List D → (D → Prop) → Prop) (vs : List V) (H : Hp) (Q : VK) : Prop := ∃ δ vs' F ds A, vs = .ref δ :: vs' ∧ Ex F H ∧ Deck K δ F H ∧ DpAll K F vs' ds ∧ wf δ ds A ∧ ∀ d, A d → ∀ v F' H', AdvW K δ F H F' H' → Dp K F' v d → Q v H'
structure FnW (P : Program) (w : World) (K : PySem.W.Frag) (mg : Str → Option Value) (base : Heap) (k : Nat) (f : Addr) (fd : FuncData) (ps : List Str) (wf : Addr → List D → (D → Prop) → Prop) : Prop where
  len : ∀ δ ds A, wf δ ds A → ds.length + 1 = ps.length
  run : ∀ (A : Around) (outer : List Env) (s : Shared) (H : Hp) (args : Args) (us : List Value) (vs : List V) (Q : VK), A.guards = some [] → Room k A → Env0 P w K mg base A outer s H →
    BindsTo s fd args (ps.zip us) → Vals vs us → spW K wf vs H Q → codeAny (model P w) A (.call (.ref f) args) (CR CX0 outer P w H s Q E0) s
/-- .. and hand out a new list -/
def spWO (K : PySem.W.Frag) (wf : Addr → List D → (List D → Prop) → Prop) (vs : List V) (H : Hp) (Q : VK) : Prop := ∃ δ vs' F ds A, vs = .ref δ :: vs' ∧ Ex F H ∧ Deck K δ F H ∧ DpAll K F vs' ds ∧ wf δ ds A ∧
  ∀ es, A es → ∀ p ws F' H', AdvW K δ F H F' H' → H p = none → F' p = none → H' p = some (.lst ws) → DpAll K F' ws es → Q (.ref p) H'
structure FnWO (P : Program) (w : World) (K : PySem.W.Frag) (mg : Str → Option Value) (base : Heap) (k : Nat) (f : Addr) (fd : FuncData) (ps : List Str) (wf : Addr → List D → (List D → Prop) → Prop) : Prop where
  len : ∀ δ ds A, wf δ ds A → ds.length + 1 = ps.length
  run : ∀ (A : Around) (outer : List Env) (s : Shared) (H : Hp) (args : Args) (us : List Value) (vs : List V) (Q : VK), A.guards = some [] → Room k A → Env0 P w K mg base A outer s H →
    BindsTo s fd args (ps.zip us) → Vals vs us → spWO K wf vs H Q → codeAny (model P w) A (.call (.ref f) args) (CR CX0 outer P w H s Q E0) s
/-- a def that hands out a new list, and draws nothing -/
def spMO (K : PySem.W.Frag) (m : List D → Option (List D)) (vs : List V) (H : Hp) (Q : VK) : Prop := ∃ F ds es, Ex F H ∧ DpAll K F vs ds ∧ m ds = some es ∧ ∀ p ws F' H', Adv F H F' H' → H p = none → F' p = none → H' p = some (.lst ws) → DpAll K F' ws es → Q (.ref p) H'
structure FnGO (P : Program) (w : World) (K : PySem.W.Frag) (mg : Str → Option Value) (base : Heap) (k : Nat) (f : Addr) (fd : FuncData) (ps : List Str) (m : List D → Option (List D)) : Prop where
  len : ∀ ds d, m ds = some d → ds.length = ps.length
  run : ∀ (A : Around) (outer : List Env) (s : Shared) (H : Hp) (args : Args) (us : List Value) (vs : List V) (Q : VK), A.guards = some [] → Room k A → Env0 P w K mg base A outer s H →
    BindsTo s fd args (ps.zip us) → Vals vs us → spMO K m vs H Q → codeAny (model P w) A (.call (.ref f) args) (CR CX0 outer P w H s Q E0) s
section
variable {X : Cx} {δ : Addr} {e : Expr} {es : List Expr} {wr : Wp (List D)} {pos p : Pos} {k : Nat} {f : Addr} {fd : FuncData} {ps : List Str} {dvs : List V} {dus : List Value} {dds : List D} {x : Str}
/-- a call, whatever is promised -/
def tCallS (sp : List V → Hp → VK → Prop) (dvs : List V) (t : TA) : TE := fun σ H Q => t σ H fun vs H1 => sp (vs ++ dvs) H1 Q
def RunsSp (X : Cx) (k : Nat) (f : Addr) (fd : FuncData) (ps : List Str) (sp : List V → Hp → VK → Prop) : Prop := (∀ vs H Q, sp vs H Q → vs.length = ps.length) ∧
  ∀ (A : Around) (outer : List Env) (s : Shared) (H : Hp) (args : Args) (us : List Value) (vs : List V) (Q : VK), A.guards = some [] → Room k A → Env0 X.prog X.w X.K X.mg X.base A outer s H →
    BindsTo s fd args (ps.zip us) → Vals vs us → sp vs H Q → codeAny (model X.prog X.w) A (.call (.ref f) args) (CR CX0 outer X.prog X.w H s Q E0) s
theorem run_sp {sp : List V → Hp → VK → Prop} {pins : List (Addr × Obj)} {σ : L2.St} {H : Hp} {s : Shared} {Q : VK} {us : List Value} {vs : List V} (G : RunsSp X k f fd ps sp) (hG : X.A.guards = some []) (hr : Room k X.A) (hb : Binds X.K fd ps dus) (hd : Vals dvs dus)
    (I : L2.Inv X pins σ H s) (r : Vals vs us) (h : sp (vs ++ dvs) H Q) : wpAny (model X.prog X.w) X.A (call (.ref f) us) (EP X pins σ Q) X.xe s := by
  have r2 := r.append hd
  have hl : (us ++ dus).length = ps.length := by rw [← r2.length]; exact G.1 _ _ _ h
  have go := G.2 X.A X.stack s H ⟨us, []⟩ (us ++ dus) (vs ++ dvs) Q hG hr I.env0 (hb s us I.kIn hl) r2 h
  refine wpAny_call (codeAny_mono go fun res s' hq => ?_)
  match res, hq with
  | .error e, hq => exact False.elim hq
  | .ok (.ret u), hq => exact I.after hq
  | .ok .next, hq => exact False.elim hq
  | .ok .brk, hq => exact False.elim hq
  | .ok .cont, hq => exact False.elim hq
theorem pe_callS' {sp : List V → Hp → VK → Prop} {t : TA} (G : RunsSp X k f fd ps sp) (hG : X.A.guards = some []) (hr : Room k X.A) (hg : Gl X x) (hm : X.mg x = some (.ref f)) (hk : PySem.W.keepIn X.K (.ref f) = true) (hb : Binds X.K fd ps dus) (hd : Vals dvs dus)
    (ha : PA X (e :: es) t) (hdb : (x == ("__debug__" : Str)) = false := by decide) (he : starEach (e :: es) X.env = (false, eval e X.env) :: starEach es X.env := by rfl) (hpl : (backTo pos (starEach es X.env)).any (·.1) = false := by rfl) :
    PE X (.Call (.Name x p) (e :: es) [] pos) (tCallS sp dvs t) := ⟨fun pins s σ H Q I h => by
  have args := thn (ha.run pos pins s σ H _ I h) fun us s1 ⟨vs, H1, I1, r, q⟩ => (⟨I1.kIn, run_sp G hG hr hb hd I1 r q⟩ : X.K.In s1.heap ∧ wpAny (model X.prog X.w) X.A (call (.ref f) us) (EP X pins σ Q) X.xe s1)
  exact wpAny_Call_Name_kw (ld_glob I hg hm (PySem.W.callWith_K (h₀ := X.base) I.ok.mod.kin hk args he hpl) hdb)⟩
theorem FnW.sp {wf : Addr → List D → (D → Prop) → Prop} (G : FnW X.prog X.w X.K X.mg X.base k f fd ps wf) : RunsSp X k f fd ps (spW X.K wf) :=
  ⟨fun vs H Q ⟨δ, vs', F, ds, A, e1, _, _, pa, hw, _⟩ => by rw [e1, List.length_cons, dal_len pa]; exact G.len δ ds A hw, G.run⟩
theorem FnWO.sp {wf : Addr → List D → (List D → Prop) → Prop} (G : FnWO X.prog X.w X.K X.mg X.base k f fd ps wf) : RunsSp X k f fd ps (spWO X.K wf) :=
  ⟨fun vs H Q ⟨δ, vs', F, ds, A, e1, _, _, pa, hw, _⟩ => by rw [e1, List.length_cons, dal_len pa]; exact G.len δ ds A hw, G.run⟩
theorem FnGO.sp {m : List D → Option (List D)} (G : FnGO X.prog X.w X.K X.mg X.base k f fd ps m) : RunsSp X k f fd ps (spMO X.K m) :=
  ⟨fun vs H Q ⟨F, ds, es, _, pa, hm, _⟩ => by rw [dal_len pa]; exact G.len ds es hm, G.run⟩
/-- the deck, and what is handed with it -/
def uAD (K : PySem.W.Frag) (δ : Addr) (F0 H0 : Hp) (w : Wp (List D)) : TA := fun σ H Q => ∃ ρ F A, EnvW K δ F0 H0 F H σ ρ ∧ w ρ A ∧ ∀ ds, A ds → ∀ vs F' H', AdvW K δ F H F' H' → DpAll K F' vs ds → Q (.ref δ :: vs) H'
structure NAD (X : Cx) (δ : Addr) (es : List Expr) (w : Wp (List D)) : Prop where
  ok : ∀ F0 H0, PA X es (uAD X.K δ F0 H0 w)
def wDk (i : Nat) (δ : Addr) (w : Wp (List D)) : Wp (List D) := fun ρ A => ρ[i]? = some (.rf δ) ∧ w ρ A
theorem nad (i : Nat) {y : Str} {py : Pos} (hr : NAE X δ es wr) (hN : X.N[i]? = some y := by rfl) (hv : Vis X.env.scope y := by first | exact Or.inl rfl | exact Or.inr (Or.inl rfl) | exact Or.inr (Or.inr rfl)) (hd : (y == ("__debug__" : Str)) = false := by decide)
    (hcd : (y == ("__classdict__" : Str)) = false := by decide) (hs : starEach (.Name y py :: es) X.env = (false, eval (.Name y py) X.env) :: starEach es X.env := by rfl) : NAD X δ (.Name y py :: es) (wDk i δ wr) :=
  ⟨fun F0 H0 => pa_weak (pa_cons (pe_var hN hv hd hcd) (hr.ok F0 H0) hs) fun σ H Q ⟨ρ, F, A, e1, ⟨e2, e3⟩, q⟩ => ⟨_, e1.rf e2, ρ, F, A, e1, e3, fun ds hds vs F' H' a pa => q ds hds vs F' H' a pa⟩⟩
def wCallW (wf : Addr → List D → (D → Prop) → Prop) (δ : Addr) (dds : List D) (wr : Wp (List D)) : Wp D := fun ρ A => wr ρ fun ds => wf δ (ds ++ dds) A
def wCallWO (wf : Addr → List D → (List D → Prop) → Prop) (δ : Addr) (dds : List D) (wr : Wp (List D)) : Wp (List D) := fun ρ A => wr ρ fun ds => wf δ (ds ++ dds) A
theorem ne_callW {wf : Addr → List D → (D → Prop) → Prop} (G : FnW X.prog X.w X.K X.mg X.base k f fd ps wf) (hG : X.A.guards = some []) (hr : Room k X.A) (hm : X.mg x = some (.ref f)) (hk : PySem.W.keepIn X.K (.ref f) = true) (hb : Binds X.K fd ps dus) (hd : Vals dvs dus) (hdd : ∀ F : Hp, DpAll X.K F dvs dds)
    (ha : NAD X δ (e :: es) wr) (hg : Gl X x := by rfl) (hdb : (x == ("__debug__" : Str)) = false := by decide) (he : starEach (e :: es) X.env = (false, eval e X.env) :: starEach es X.env := by rfl) (hpl : (backTo pos (starEach es X.env)).any (·.1) = false := by rfl) :
    NE X δ (.Call (.Name x p) (e :: es) [] pos) (wCallW wf δ dds wr) :=
  ⟨fun F0 H0 => pe_weak (pe_callS' G.sp hG hr hg hm hk hb hd (ha.ok F0 H0) hdb he hpl) fun σ H Q ⟨ρ, F, A, e1, e2, q⟩ =>
    ⟨ρ, F, _, e1, e2, fun ds hw vs F1 H1 a1 pa => ⟨δ, vs ++ dvs, F1, ds ++ dds, A, rfl, a1.fh, a1.deck, dal_app pa (hdd F1), hw, fun d hA v F2 H2 a2 pd => q d hA v F2 H2 (a1.trans e1.deck a2) pd⟩⟩⟩
theorem no_callW {wf : Addr → List D → (List D → Prop) → Prop} (G : FnWO X.prog X.w X.K X.mg X.base k f fd ps wf) (hG : X.A.guards = some []) (hr : Room k X.A) (hm : X.mg x = some (.ref f)) (hk : PySem.W.keepIn X.K (.ref f) = true) (hb : Binds X.K fd ps dus) (hd : Vals dvs dus) (hdd : ∀ F : Hp, DpAll X.K F dvs dds)
    (ha : NAD X δ (e :: es) wr) (hg : Gl X x := by rfl) (hdb : (x == ("__debug__" : Str)) = false := by decide) (he : starEach (e :: es) X.env = (false, eval e X.env) :: starEach es X.env := by rfl) (hpl : (backTo pos (starEach es X.env)).any (·.1) = false := by rfl) :
    NO X δ (.Call (.Name x p) (e :: es) [] pos) (wCallWO wf δ dds wr) :=
  ⟨fun F0 H0 => pe_weak (pe_callS' G.sp hG hr hg hm hk hb hd (ha.ok F0 H0) hdb he hpl) fun σ H Q ⟨ρ, F, A, e1, e2, q⟩ =>
    ⟨ρ, F, _, e1, e2, fun ds hw vs F1 H1 a1 pa => ⟨δ, vs ++ dvs, F1, ds ++ dds, A, rfl, a1.fh, a1.deck, dal_app pa (hdd F1), hw, fun es hA p ws F2 H2 a2 z0 z1 z2 z3 => q es hA p ws F2 H2 (a1.trans e1.deck a2) (a1.free e1.deck z0) z1 z2 z3⟩⟩⟩
def mCallO (mf : List D → Option (List D)) (dds : List D) (ma : Rho → Option (List D)) : Rho → Option (List D) := fun ρ => (ma ρ).bind fun ds => mf (ds ++ dds)
theorem mo_call {m : List D → Option (List D)} {ma : Rho → Option (List D)} (G : FnGO X.prog X.w X.K X.mg X.base k f fd ps m) (hG : X.A.guards = some []) (hr : Room k X.A) (hm : X.mg x = some (.ref f)) (hk : PySem.W.keepIn X.K (.ref f) = true) (hb : Binds X.K fd ps dus) (hd : Vals dvs dus) (hdd : ∀ F : Hp, DpAll X.K F dvs dds)
    (ha : MAE X (e :: es) ma) (hg : Gl X x := by rfl) (hdb : (x == ("__debug__" : Str)) = false := by decide) (he : starEach (e :: es) X.env = (false, eval e X.env) :: starEach es X.env := by rfl) (hpl : (backTo pos (starEach es X.env)).any (·.1) = false := by rfl) :
    MO X (.Call (.Name x p) (e :: es) [] pos) (mCallO m dds ma) :=
  ⟨fun F0 H0 => pe_weak (pe_callS' G.sp hG hr hg hm hk hb hd (ha.ok F0 H0) hdb he hpl) fun σ H Q ⟨ρ, F, d, e1, e2, q⟩ => by
    unfold mCallO at e2
    cases hx : ma ρ with
    | none => rw [hx] at e2; cases e2
    | some ds =>
      rw [hx] at e2
      exact ⟨ρ, F, ds, e1, hx, fun vs F1 H1 a1 pa => ⟨F1, ds ++ dds, d, a1.fh, dal_app pa (hdd F1), e2, fun p ws F2 H2 a2 z0 z1 z2 z3 => q p ws F2 H2 (a1.trans a2) (a1.h.none z0) z1 z2 z3⟩⟩⟩
end
end MV

set_option maxRecDepth 100000
set_option maxHeartbeats 4000000
namespace MV
open PySem PySem.Spec PyProof.Rows L2

/-! ### statements that may draw -/
def wSet (i : Nat) (w : Wp D) : Wp Res := fun ρ A => w ρ fun d => A (.nx (ρ.set i (.dat d)))
def wSetO (i : Nat) (w : Wp (List D)) : Wp Res := fun ρ A => w ρ fun ds => A (.nx (ρ.set i (.own ds)))
def wRet (w : Wp D) : Wp Res := fun ρ A => w ρ fun d => A (.rt d)
def wRetL (w : Wp (List D)) : Wp Res := fun ρ A => w ρ fun ds => A (.ro ds)
def wDrop (w : Wp D) : Wp Res := fun ρ A => w ρ fun _ => A (.nx ρ)
def wApp (i : Nat) (w : Wp D) : Wp Res := fun ρ A => ∃ ds, ρ[i]? = some (.own ds) ∧ w ρ fun d => ds.length < 100000 ∧ A (.nx (ρ.set i (.own (ds ++ [d]))))
def wPut (i : Nat) (wk w : Wp D) : Wp Res := fun ρ A => ∃ ds, ρ[i]? = some (.own ds) ∧ w ρ fun d => wk ρ fun k => ∃ z j, k = .int z ∧ ixN ds.length z = some j ∧ A (.nx (ρ.set i (.own (ds.set j d))))
def wAsg (mg : D → Rho → Option Rho) (w : Wp D) : Wp Res := fun ρ A => w ρ fun d => ∃ ρ1, mg d ρ = some ρ1 ∧ A (.nx ρ1)
def wPar (i j : Nat) (wa wb : Wp D) : Wp Res := fun ρ A => wa ρ fun x => wb ρ fun y => A (.nx ((ρ.set i (.dat x)).set j (.dat y)))
def thenW (b : Wp Res) (A : Res → Prop) : Res → Prop
  | .nx ρ => b ρ A
  | r => A r
def wSeq (a b : Wp Res) : Wp Res := fun ρ A => a ρ (thenW b A)
def wIfS (c : Wp Bool) (a b : Wp Res) : Wp Res := fun ρ A => c ρ fun t => if t = true then a ρ A else b ρ A
def wPost (vs : List Nat) (w : Wp Res) : Wp Res := fun ρ A => w ρ fun r => A (postR vs r)
def wFrz (i : Nat) (w : Wp Res) : Wp Res := fun ρ A => ∃ ds, ρ[i]? = some (.own ds) ∧ w (ρ.set i (.dat (.list ds))) A
section
variable {X : Cx} {W : WX} {δ : Addr} {e : Expr} {st : Stmt} {sts : List Stmt} {w wa wb wk : Wp D} {wl : Wp (List D)} {ws ws2 : Wp Res} {wt : Wp Bool} {pos pos' : Pos} {x : Str} {i : Nat}
theorem deck_over {K : PySem.W.Frag} {F0 F H F' H' : Hp} {o : HO} {σ σ' : L2.St} {ρ ρ' : Rho} {H0 : Hp} (dk : Deck K δ F H) (e : EnvOk K F0 (upd H0 δ o) F H σ ρ) (f : Ex F F') (h : Ex (upd H0 δ o) H') (n : F' δ = none) : Deck K δ F' H' := by
  obtain ⟨x, y, z, v, q, ns, k1, k2, k3, k4, k5, k6⟩ := dk
  have h1 : H δ = some o := e.adv.2.1 δ o upd_same
  have h2 : H' δ = some o := h δ o upd_same
  exact ⟨x, y, z, v, q, ns, by rw [h2, ← h1]; exact k1, n, k3, k4, k5, dp_ex f _ _ k6⟩
theorem goes_lift {F0 H0 F H : Hp} {o : HO} {Dn : Ends} {σ : L2.St} {ρ : Rho} {r : Res} (dk : Deck X.K δ F H) (e : EnvOk X.K F0 (upd H0 δ o) F H σ ρ) (h : GoesW X δ F0 H0 Dn r) : Goes X F (upd H0 δ o) W Dn r := by
  have hd : (upd H0 δ o) δ ≠ none := by rw [upd_same]; exact fun z => nomatch z
  have en : ∀ {σ' F' H' ρ'}, EnvOk X.K F (upd H0 δ o) F' H' σ' ρ' → EnvW X.K δ F0 H0 F' H' σ' ρ' := fun {σ' F' H' ρ'} e' => ⟨⟨o, e'.unbase e.adv.1 e.new⟩, deck_over (σ' := σ') (ρ' := ρ') dk e e'.adv.1 e'.adv.2.1 (e'.new δ dk.thaw hd)⟩
  have ad : ∀ {F' H'}, Adv F (upd H0 δ o) F' H' → AdvW X.K δ F0 H0 F' H' := fun {F' H'} a => ⟨⟨o, ⟨e.adv.1.trans a.f, a.h, a.fh, fun p z1 z2 => a.new p (e.new p z1 z2) z2⟩⟩, deck_over (σ' := σ) (ρ' := ρ) dk e a.f a.h (a.new δ dk.thaw hd)⟩
  cases r with
  | nx ρ => exact fun σ F H e => h σ F H (en e)
  | bk ρ => exact fun σ F H e => h σ F H (en e)
  | ct ρ => exact fun σ F H e => h σ F H (en e)
  | rt d => exact fun v F H a p => h v F H (ad a) p
  | ex e ρ => exact h.elim
  | rs d ρ => exact h.elim
  | ro ds => exact fun p vs F H a z0 z1 z2 z3 => h p vs F H (ad a) (by
      by_cases hp : p = δ
      · subst hp
        rw [upd_same] at z0
        cases z0
      · rw [upd_ne hp] at z0
        exact z0) z1 z2 z3
theorem MS.n {m : Rho → Option Res} (h : MS X W st m) : NS X δ st (pW m) := ⟨fun F0 H0 => ⟨fun pins s σ H Dn I ⟨ρ, F, A, e1, ⟨r, e2, e3⟩, q⟩ => by
  obtain ⟨⟨o, e1⟩, dk⟩ := e1
  exact (h.ok F (upd H0 δ o)).run pins s σ H Dn I ⟨ρ, F, r, e1.rebase e1.adv.1 (Ex.refl _), e2, goes_lift dk e1 (q r e3)⟩⟩⟩
theorem MSs.n {m : Rho → Option Res} (h : MSs X W sts m) : NSs X δ sts (pW m) := ⟨fun F0 H0 => ⟨fun pins s σ H Dn I ⟨ρ, F, A, e1, ⟨r, e2, e3⟩, q⟩ => by
  obtain ⟨⟨o, e1⟩, dk⟩ := e1
  exact (h.ok F (upd H0 δ o)).run pins s σ H Dn I ⟨ρ, F, r, e1.rebase e1.adv.1 (Ex.refl _), e2, goes_lift dk e1 (q r e3)⟩⟩⟩
theorem ns_set (hN : X.N.Nodup) (he : NE X δ e w) (hi : X.N[i]? = some x := by rfl) (hx : Loc X.env.scope x := by first | exact Or.inl rfl | exact Or.inr rfl) (hs : swapsWith e (some (.Name x pos')) pos.line X.env = pure false := by rfl)
    (hf : X.fn x = true ∨ X.env.scope.names.lookup x = some .local := by first | exact .inl rfl | exact .inr rfl | assumption) : NS X δ (.Assign [.Name x pos'] e pos) (wSet i w) :=
  ⟨fun F0 H0 => ps_weak (ps_set hN hi hx (he.ok F0 H0) hs hf) fun _ _ _ ⟨ρ, F, A, e1, e2, q⟩ => ⟨ρ, F, _, e1, e2, fun d hd v F' H' a p => q _ hd _ F' H' ((e1.go a).setD p)⟩⟩
theorem ns_setO (hN : X.N.Nodup) (he : NO X δ e wl) (hi : X.N[i]? = some x := by rfl) (hx : Loc X.env.scope x := by first | exact Or.inl rfl | exact Or.inr rfl) (hs : swapsWith e (some (.Name x pos')) pos.line X.env = pure false := by rfl)
    (hf : X.fn x = true ∨ X.env.scope.names.lookup x = some .local := by first | exact .inl rfl | exact .inr rfl | assumption) : NS X δ (.Assign [.Name x pos'] e pos) (wSetO i wl) :=
  ⟨fun F0 H0 => ps_weak (ps_set hN hi hx (he.ok F0 H0) hs hf) fun _ _ _ ⟨ρ, F, A, e1, e2, q⟩ => ⟨ρ, F, _, e1, e2, fun d hd p vs F' H' a h0 h1 h2 h3 => q _ hd _ F' H' (e1.setO a h0 h1 h2 h3)⟩⟩
theorem ns_ret (he : NE X δ e w) : NS X δ (.Return (some e) pos) (wRet w) := ⟨fun F0 H0 => ps_weak (ps_ret (he.ok F0 H0)) fun Dn σ H ⟨ρ, F, A, e1, e2, q⟩ => by
  refine ⟨ρ, F, _, e1, e2, fun d hd v F' H' a p => q _ hd v F' H' ?_ p⟩
  exact (e1.go a).toAdv⟩
theorem ns_retL (he : NO X δ e wl) : NS X δ (.Return (some e) pos) (wRetL wl) := ⟨fun F0 H0 => ps_weak (ps_ret (he.ok F0 H0)) fun Dn σ H ⟨ρ, F, A, e1, e2, q⟩ => by
  refine ⟨ρ, F, _, e1, e2, fun d hd p vs F' H' a h0 h1 h2 h3 => q _ hd p vs F' H' (e1.go a).toAdv ?_ h1 h2 h3⟩
  obtain ⟨⟨o, e1⟩, dk⟩ := e1
  by_cases hp : p = δ
  · subst hp
    obtain ⟨u, k⟩ := dk.here
    rw [h0] at k
    cases k
  · cases hh : H0 p with
    | none => rfl
    | some u =>
      rw [e1.adv.2.1 p u (by rw [upd_ne hp]; exact hh)] at h0
      cases h0⟩
/-- return of a name that holds an own list -/
def wRetO (i : Nat) : Wp Res := fun ρ A => ∃ ds, ρ[i]? = some (.own ds) ∧ A (.ro ds)
theorem ns_retO (i : Nat) (hN : X.N[i]? = some x := by rfl) (hv : Vis X.env.scope x := by first | exact Or.inl rfl | exact Or.inr (Or.inl rfl) | exact Or.inr (Or.inr rfl)) (hd : (x == ("__debug__" : Str)) = false := by decide)
    (hcd : (x == ("__classdict__" : Str)) = false := by decide) : NS X δ (.Return (some (.Name x pos')) pos) (wRetO i) := ⟨fun F0 H0 => ps_weak (ps_ret (pe_var hN hv hd hcd)) fun Dn σ H ⟨ρ, F, A, e1, ⟨ds, hi, hA⟩, q⟩ => by
  obtain ⟨p, vs, h1, h2, h3, h4, h5⟩ := e1.own hi
  refine ⟨_, h1, q _ hA p vs F H e1.toAdv ?_ h3 h4 h5⟩
  obtain ⟨⟨o, e1⟩, dk⟩ := e1
  obtain ⟨p', vs', k1, k2, k3, k4, k5⟩ := e1.own i ds hi
  rw [h1] at k1
  cases k1
  rw [upd_ne h2] at k3
  exact k3⟩
def mRetN (i : Nat) : Rho → Option Res := fun ρ => match ρ[i]? with
  | some (.own ds) => some (.ro ds)
  | _ => none
theorem ms_retN' (i : Nat) (hN : X.N[i]? = some x := by rfl) (hv : Vis X.env.scope x := by first | exact Or.inl rfl | exact Or.inr (Or.inl rfl) | exact Or.inr (Or.inr rfl)) (hd : (x == ("__debug__" : Str)) = false := by decide)
    (hcd : (x == ("__classdict__" : Str)) = false := by decide) : MS X W (.Return (some (.Name x pos')) pos) (mRetN i) := ⟨fun F0 H0 => ps_weak (ps_ret (pe_var hN hv hd hcd)) fun Dn σ H ⟨ρ, F, r, e1, e2, q⟩ => by
  unfold mRetN at e2
  split at e2
  · cases e2
    rename_i hi
    obtain ⟨p, vs, h1, h2, h3, h4, h5⟩ := e1.own i _ hi
    exact ⟨_, h1, q p vs F H e1.toAdv h3 h2 h4 h5⟩
  · cases e2⟩
def mRetL (m : Rho → Option (List D)) : Rho → Option Res := fun ρ => (m ρ).map .ro
theorem ms_retL {m : Rho → Option (List D)} (he : MO X e m) : MS X W (.Return (some e) pos) (mRetL m) := ⟨fun F0 H0 => ps_weak (ps_ret (he.ok F0 H0)) fun Dn σ H ⟨ρ, F, r, e1, e2, q⟩ => by
  unfold mRetL at e2
  cases hx : m ρ with
  | none => rw [hx] at e2; cases e2
  | some d =>
    rw [hx] at e2
    cases e2
    exact ⟨ρ, F, d, e1, hx, fun p vs F' H' a h0 h1 h2 h3 => q p vs F' H' (e1.toAdv.trans a) (e1.adv.2.1.none h0) h1 h2 h3⟩⟩
theorem ns_drop (he : NE X δ e w) (hs : swapsWith e none pos.line X.env = pure false := by rfl) : NS X δ (.Expr e pos) (wDrop w) := ⟨fun F0 H0 => ps_weak (ps_expr (he.ok F0 H0) hs) fun Dn σ H ⟨ρ, F, A, e1, e2, q⟩ =>
  ⟨ρ, F, _, e1, e2, fun d hd v F' H' a p => q _ hd σ F' H' (e1.go a)⟩⟩
theorem nss_nil : NSs X δ [] (pW mSkip) := MSs.n (W := noW) mss_nil
theorem nss_one (h : NS X δ st ws) : NSs X δ [st] ws := ⟨fun F0 H0 => pss_one (h.ok F0 H0)⟩
theorem nss_cons (h : NS X δ st ws) (h2 : NSs X δ sts ws2) : NSs X δ (st :: sts) (wSeq ws ws2) :=
  ⟨fun F0 H0 => pss_weak (pss_cons (h.ok F0 H0) (h2.ok F0 H0)) fun Dn σ H ⟨ρ, F, A, e1, e2, q⟩ => ⟨ρ, F, _, e1, e2, fun r hr => by
      cases r with
      | nx ρ1 => exact fun σ1 F1 H1 w => ⟨ρ1, F1, A, w, hr, q⟩
      | rt d => exact q _ hr
      | bk ρ1 => exact q _ hr
      | ct ρ1 => exact q _ hr
      | ex e ρ1 => exact q _ hr
      | rs d ρ1 => exact q _ hr
      | ro ds => exact q _ hr⟩⟩
theorem ns_if {c : Expr} {a b : List Stmt} (hc : NB X δ c wt) (ha : NSs X δ a ws) (hb : NSs X δ b ws2) : NS X δ (.If c a b pos) (wIfS wt ws ws2) :=
  ⟨fun F0 H0 => ps_weak (ps_if (hc.ok F0 H0) (ha.ok F0 H0) (hb.ok F0 H0)) fun Dn σ H ⟨ρ, F, A, e1, e2, q⟩ => ⟨ρ, F, _, e1, e2, fun t ht F1 H1 a1 => by
      cases t with
      | true => exact iteT ⟨ρ, F1, A, e1.go a1, (by simpa using ht), q⟩
      | false => exact iteF ⟨ρ, F1, A, e1.go a1, (by simpa using ht), q⟩⟩⟩
theorem nss_frz (i : Nat) (h : NSs X δ sts ws) : NSs X δ sts (wFrz i ws) :=
  ⟨fun F0 H0 => pss_weak (h.ok F0 H0) fun Dn σ H ⟨ρ, F, A, e1, ⟨ds, hi, hw⟩, q⟩ => by
    obtain ⟨p, vs, h1, h2, h3⟩ := e1.freeze hi
    exact ⟨_, _, A, h3, hw, q⟩⟩
theorem GoesW.post {F0 H0 : Hp} {Dn : Ends} {r : Res} (vs : List Nat) (h : GoesW X δ F0 H0 Dn (postR vs r)) : GoesW X δ F0 H0 Dn r := by
  cases r with
  | nx ρ => exact fun σ F H e => h σ F H (e.forget vs)
  | bk ρ => exact fun σ F H e => h σ F H (e.forget vs)
  | ct ρ => exact fun σ F H e => h σ F H (e.forget vs)
  | rt d => exact h
  | ro ds => exact h
  | ex e ρ => exact h.elim
  | rs d ρ => exact h.elim
theorem ns_post (vs : List Nat) (h : NS X δ st ws) : NS X δ st (wPost vs ws) := ⟨fun F0 H0 => ps_weak (h.ok F0 H0) fun _ _ _ ⟨ρ, F, A, e1, e2, q⟩ => ⟨ρ, F, _, e1, e2, fun r hr => (q _ hr).post vs⟩⟩
theorem nss_post (vs : List Nat) (h : NSs X δ sts ws) : NSs X δ sts (wPost vs ws) := ⟨fun F0 H0 => pss_weak (h.ok F0 H0) fun _ _ _ ⟨ρ, F, A, e1, e2, q⟩ => ⟨ρ, F, _, e1, e2, fun r hr => (q _ hr).post vs⟩⟩
/-- name.append(e), the name's list an own one -/
theorem ns_app {apos cpos npos : Pos} (i : Nat) (he : NE X δ e w) (hN : X.N[i]? = some x := by rfl) (hv : Vis X.env.scope x := by first | exact Or.inl rfl | exact Or.inr (Or.inl rfl) | exact Or.inr (Or.inr rfl))
    (hd : (x == ("__debug__" : Str)) = false := by decide) (hcd : (x == ("__classdict__" : Str)) = false := by decide)
    (k1 : attributeBase (.Name x npos) "append" X.env (eval (.Name x npos) X.env) = eval (.Name x npos) X.env := by rfl)
    (k2 : ((backTo cpos (starEach [e] X.env)).all (fun x => !x.1) && (backToKw cpos (keywordEach [] X.env)).all (fun x => x.1.isSome) && decide (([e] : List Expr).length + ([] : List Keyword).length + (if ([] : List Keyword).isEmpty then 0 else 1) < 30)) = true := by rfl)
    (k3 : (apos.endLine == cpos.line) = true := by rfl) (k4 : starEach [e] X.env = (false, eval e X.env) :: starEach [] X.env := by rfl) (k5 : (backTo cpos (starEach [] X.env)).any (·.1) = false := by rfl)
    (hs : swapsWith (.Call (.Attribute (.Name x npos) "append" apos) [e] [] cpos) none pos.line X.env = pure false := by rfl) :
    NS X δ (.Expr (.Call (.Attribute (.Name x npos) "append" apos) [e] [] cpos) pos) (wApp i w) :=
  ⟨fun F0 H0 => ps_weak (ps_expr (pe_bm PySem.F.plainAttrs_list PySem.F.slot_list_append PySem.F.type_list_append mt_append (pe_var hN hv hd hcd) (pa_cons (he.ok F0 H0) pa_nil k4) k1 k2 k3 k4 k5) hs) fun Dn σ H ⟨ρ, F, A, e1, e2, q⟩ => by
    obtain ⟨ds, hi, e2⟩ := e2
    obtain ⟨p, vs, h1, hpd, h3, h4, h5⟩ := e1.own hi
    refine ⟨_, h1, .inl ⟨rfl, _, SqL.of h4⟩, ρ, F, _, e1, e2, fun d ⟨hz, hA⟩ v F' H' a pd => ?_⟩
    have g := e1.go a
    obtain ⟨p', vs', k1, k2, k3, k4, k5⟩ := g.own hi
    rw [h1] at k1
    cases k1
    refine ⟨p, vs', v, rfl, rfl, k4, ?_, ?_⟩
    · rw [dal_len k5]
      exact Nat.lt_of_lt_of_le hz (by decide)
    · exact q _ hA σ F' _ (g.mutO hi h1 (dal_app k5 (.cons pd .nil)))⟩
/-- name[k] = e, the name's list an own one -/
theorem ns_put {npos spos : Pos} {k : Expr} (i : Nat) (he : NE X δ e w) (hk : NE X δ k wk) (hN : X.N[i]? = some x := by rfl) (hv : Vis X.env.scope x := by first | exact Or.inl rfl | exact Or.inr (Or.inl rfl) | exact Or.inr (Or.inr rfl))
    (hd : (x == ("__debug__" : Str)) = false := by decide) (hcd : (x == ("__classdict__" : Str)) = false := by decide)
    (ha : ∀ v, assign (.Subscript (.Name x npos) k spos) X.env v = (do
      let o1 ← holding [v] (eval (.Name x npos) X.env)
      let o2 ← holding [v, o1] (eval k X.env)
      standAt spos
      holding [v, o1, o2] (setItem o1 o2 v)
      release [v, o1, o2] []) := by intro _; rfl)
    (h0 : swapsWithSole [.Subscript (.Name x npos) k spos] e pos.line X.env = pure false := by rfl) (h1 : swappedStores [.Subscript (.Name x npos) k spos] e X.env = pure none := by rfl)
    (h2 : (assignEach [.Subscript (.Name x npos) k spos] X.env).map (·.2) = [assign (.Subscript (.Name x npos) k spos) X.env] := by rfl) :
    NS X δ (.Assign [.Subscript (.Name x npos) k spos] e pos) (wPut i wk w) :=
  ⟨fun F0 H0 => ps_weak (ps_asg (he.ok F0 H0) (pg_sub (pe_var hN hv hd hcd) (hk.ok F0 H0) set_list ha) h0 h1 h2) fun Dn σ H ⟨ρ, F, A, e1, e2, q⟩ => by
    obtain ⟨ds, hi, e2⟩ := e2
    refine ⟨ρ, F, _, e1, e2, fun d hk v F' H' a pd => ?_⟩
    have g := e1.go a
    obtain ⟨p, vs, h1, hpd, h3, h4, h5⟩ := g.own hi
    refine ⟨_, h1, ρ, F', _, g, hk, fun k ⟨z, j, hz, hj, hA⟩ w F2 H2 a2 pz => ?_⟩
    subst hz
    cases pz
    have g2 := g.go a2
    obtain ⟨p', vs', k1, k2, k3, k4, k5⟩ := g2.own hi
    rw [h1] at k1
    cases k1
    refine ⟨p, vs', z, j, rfl, rfl, k4, by rw [dal_len k5]; exact hj, ?_⟩
    exact q _ hA σ F2 _ (g2.mutO hi h1 (dal_set (dp_ex a2.f d v pd) j k5))⟩
/-- a, b = e1, e2 -/
theorem ns_par {y : Str} {a b : Expr} {j : Nat} {px py pt : Pos} {kt k2 pt2} (hc : X.calm = true) (hN : X.N.Nodup) (ha : NE X δ a wa) (hb : NE X δ b wb) (hi : X.N[i]? = some x := by rfl) (hj : X.N[j]? = some y := by rfl) (hij : i ≠ j := by decide)
    (hx : X.env.scope.names.lookup x = some .local := by rfl) (hy : X.env.scope.names.lookup y = some .local := by rfl)
    (hw : swappedStores [.Tuple [.Name x px, .Name y py] kt pt] (.Tuple [a, b] k2 pt2) X.env = pure (some [x, y]) := by rfl)
    (hs : swapsWithSole [.Tuple [.Name x px, .Name y py] kt pt] (.Tuple [a, b] k2 pt2) pos.line X.env = pure false := by rfl)
    (s1 : starEach (a :: [b]) X.env = (false, eval a X.env) :: starEach [b] X.env := by rfl) (s2 : starEach (b :: []) X.env = (false, eval b X.env) :: starEach [] X.env := by rfl) :
    NS X δ (.Assign [.Tuple [.Name x px, .Name y py] kt pt] (.Tuple [a, b] k2 pt2) pos) (wPar i j wa wb) :=
  ⟨fun F0 H0 => ps_weak (ps_par hc hN hi hj hij hx hy (pa_cons (ha.ok F0 H0) (pa_cons (hb.ok F0 H0) pa_nil s2) s1) hw hs) fun Dn σ H ⟨ρ, F, A, e1, e2, q⟩ =>
    ⟨ρ, F, _, e1, e2, fun d1 h1 v1 F1 H1 a1 p1 => ⟨ρ, F1, _, e1.go a1, h1, fun d2 hA v2 F2 H2 a2 p2 => ⟨v1, v2, rfl, q _ hA _ F2 H2 ((((e1.go a1).go a2).setD (dp_ex a2.f _ _ p1)).setD p2)⟩⟩⟩⟩
/-- targets -/
def tGw (K : PySem.W.Frag) (δ : Addr) (F0 H0 : Hp) (ix : List Nat) (mg : D → Rho → Option Rho) : TG := fun v σ H Q => ∃ ρ F d ρ', EnvW K δ F0 H0 F H σ ρ ∧ Dp K F v d ∧ mg d ρ = some ρ' ∧
  ∀ σ', EnvW K δ F0 H0 F H σ' ρ' → σ'.length = σ.length → (∀ j, j ∉ ix → σ'[j]? = σ[j]?) → Q σ' H
theorem MG.n {t : Expr} {ix : List Nat} {mg : D → Rho → Option Rho} (h : MG X t ix mg) (F0 H0 : Hp) : PG X t (tGw X.K δ F0 H0 ix mg) := ⟨fun pins s σ H v u Q I r ⟨ρ, F, d, ρ', e1, pd, e2, q⟩ => by
  obtain ⟨⟨o, e1⟩, dk⟩ := e1
  exact (h.ok F0 (upd H0 δ o)).run pins s σ H v u Q I r ⟨ρ, F, d, ρ', e1, pd, e2, fun σ' k1 k2 k3 => q σ' ⟨⟨o, k1⟩, dk⟩ k2 k3⟩⟩
theorem ns_asg {t : Expr} {ix : List Nat} {mg : D → Rho → Option Rho} (he : NE X δ e w) (hg : MG X t ix mg) (hs : swapsWithSole [t] e pos.line X.env = pure false := by rfl) (hw : swappedStores [t] e X.env = pure none := by rfl)
    (h1 : (assignEach [t] X.env).map (·.2) = [assign t X.env] := by rfl) : NS X δ (.Assign [t] e pos) (wAsg mg w) :=
  ⟨fun F0 H0 => ps_weak (ps_asg (he.ok F0 H0) (hg.n F0 H0) hs hw h1) fun Dn σ H ⟨ρ, F, A, e1, e2, q⟩ =>
    ⟨ρ, F, _, e1, e2, fun d ⟨ρ1, hg, hA⟩ v F' H' a pd => ⟨ρ, F', d, ρ1, e1.go a, pd, hg, fun σ' k _ _ => q _ hA σ' F' H' k⟩⟩⟩
end
end MV

set_option maxRecDepth 100000
set_option maxHeartbeats 4000000
namespace MV
open PySem PySem.Spec PyProof.Rows L2

/-! ### what is walked -/
def ItemsW (K : PySem.W.Frag) (δ : Addr) (J : It) (F H : Hp) (ds : List D) : Prop := ∃ (G : Hp → Prop) (Y : Nat → Hp → V → Hp → Prop), Walk J ds.length G Y ∧ (∀ F1 H1, AdvW K δ F H F1 H1 → G H1) ∧
  ∀ (i : Nat) d F1 H1 x H2, ds[i]? = some d → AdvW K δ F H F1 H1 → G H1 → Y i H1 x H2 → ∃ F2, Adv F1 H1 F2 H2 ∧ Dp K F2 x d
theorem Items.w {K : PySem.W.Frag} {δ : Addr} {J : It} {F H : Hp} {ds : List D} (h : Items K J F F ds) : ItemsW K δ J F H ds := by
  obtain ⟨G, Y, w, g, i⟩ := h
  exact ⟨G, Y, w, fun F1 H1 a => g H1 (a.f.trans a.fh), fun k d F1 H1 x H2 hd a gg y => i k d F1 H1 x H2 hd a.f a.fh gg y⟩
def uI (K : PySem.W.Frag) (δ : Addr) (F0 H0 : Hp) (w : Wp (List D)) : TI := fun σ H R => ∃ ρ F A, EnvW K δ F0 H0 F H σ ρ ∧ w ρ A ∧ ∀ ds, A ds → ∀ J F' H', AdvW K δ F H F' H' → Items K J F' F' ds → R J H'
def uIH (K : PySem.W.Frag) (δ : Addr) (F0 H0 : Hp) (w : Wp (List D)) : TI := fun σ H R => ∃ ρ F A, EnvW K δ F0 H0 F H σ ρ ∧ w ρ A ∧ ∀ ds, A ds → ∀ J F' H', AdvW K δ F H F' H' → ItemsW K δ J F' H' ds → R J H'
structure NI (X : Cx) (δ : Addr) (tg iter : Expr) (w : Wp (List D)) : Prop where
  ok : ∀ F0 H0, PI X tg iter (uI X.K δ F0 H0 w)
structure NIH (X : Cx) (δ : Addr) (tg iter : Expr) (w : Wp (List D)) : Prop where
  ok : ∀ F0 H0, PI X tg iter (uIH X.K δ F0 H0 w)
def wSeqOf (w : Wp D) : Wp (List D) := fun ρ A => w ρ fun d => ∃ ds, seqOf d = some ds ∧ A ds
def wL2 (g : List D → Option (List D)) (w : Wp (List D)) : Wp (List D) := fun ρ A => w ρ fun d => ∃ ds, g d = some ds ∧ A ds
section
variable {X : Cx} {δ : Addr} {tg e : Expr} {w : Wp D} {p pos : Pos}
theorem MI.n {m : Rho → Option (List D)} (h : MI X tg e m) : NI X δ tg e (pW m) := ⟨fun F0 H0 => ⟨fun pins s σ H R I ⟨ρ, F, A, e1, ⟨d, e2, e3⟩, q⟩ => by
  obtain ⟨⟨o, e1⟩, dk⟩ := e1
  exact (h.ok F0 (upd H0 δ o)).run pins s σ H R I ⟨ρ, F, d, e1, e2, fun J F' H' a it => q d e3 J F' H' (AdvW.of dk a) it⟩⟩⟩
theorem NI.h {w : Wp (List D)} (h : NI X δ tg e w) : NIH X δ tg e w := ⟨fun F0 H0 => pi_weak (h.ok F0 H0) fun σ H R ⟨ρ, F, A, e1, e2, q⟩ => ⟨ρ, F, A, e1, e2, fun ds hd J F' H' a it => q ds hd J F' H' a it.w⟩⟩
theorem ni_seq (he : NE X δ e w) : NI X δ tg e (wSeqOf w) := ⟨fun F0 H0 => pi_weak (pi_seq (he.ok F0 H0)) fun σ H R ⟨ρ, F, A, e1, e2, q⟩ => ⟨ρ, F, _, e1, e2, fun d ⟨ds, hs, hA⟩ v F' H' a pd => by
    rcases seqOf_some hs with rfl | rfl
    · cases pd with
      | lst hs ha => exact ⟨_, rfl, .inl ⟨_, sql_ex a.fh hs, q _ hA _ F' H' a (items_list hs ha)⟩⟩
    · cases pd with
      | tup hs ha => exact ⟨_, rfl, .inr ⟨_, sqt_ex a.fh hs, q _ hA _ F' H' a (items_tup hs ha)⟩⟩⟩⟩
theorem items_listW {K : PySem.W.Frag} {p : Addr} {vs : List V} {ds : List D} {F H : Hp} (hd : p ≠ δ) (h : H p = some (.lst vs)) (a : DpAll K F vs ds) : ItemsW K δ (Itl K p) F H ds := by
  refine ⟨_, _, by rw [← dal_len a]; exact walk_list, fun F1 H1 e => SqL.of (e.at hd h), fun i d F1 H1 x H2 hd e1 g y => ?_⟩
  obtain ⟨rfl, hx⟩ := y
  obtain ⟨v, h1, h2⟩ := dal_get a hd
  rw [hx] at h1
  cases h1
  exact ⟨F1, Adv.refl e1.fh, dp_ex e1.f d _ h2⟩
theorem items_listF {K : PySem.W.Frag} {p : Addr} {vs : List V} {ds : List D} {F H : Hp} (hs : SqL K F p vs) (a : DpAll K F vs ds) : ItemsW K δ (Itl K p) F H ds := (items_list hs a).w
theorem items_tupF {K : PySem.W.Frag} {p : Addr} {vs : List V} {ds : List D} {F H : Hp} (hs : SqT K F p vs) (a : DpAll K F vs ds) : ItemsW K δ (Itt K p) F H ds := (items_tup hs a).w
theorem nih_seq (he : NT X δ e w) : NIH X δ tg e (wSeqOf w) := ⟨fun F0 H0 => pi_weak (pi_seq (he.ok F0 H0)) fun σ H R ⟨ρ, F, A, e1, e2, q⟩ => ⟨ρ, F, _, e1, e2, fun d ⟨ds, hs, hA⟩ v F' H' a pd => by
    rcases pd with pd | ⟨p, vs, ds', rfl, hp, rfl, hF, hH, ha⟩
    · rcases seqOf_some hs with rfl | rfl
      · cases pd with
        | lst hs ha => exact ⟨_, rfl, .inl ⟨_, sql_ex a.fh hs, q _ hA _ F' H' a (items_listF hs ha)⟩⟩
      · cases pd with
        | tup hs ha => exact ⟨_, rfl, .inr ⟨_, sqt_ex a.fh hs, q _ hA _ F' H' a (items_tupF hs ha)⟩⟩
    · rcases seqOf_some hs with z | z
      · cases z
        exact ⟨_, rfl, .inl ⟨_, SqL.of hH, q _ hA _ F' H' a (items_listW hp hH ha)⟩⟩
      · cases z⟩⟩
theorem ni_range1 {a : Expr} {wr : Wp (List D)} (hm : X.mg "range" = none) (ha : NAT X δ [a] wr) (hg : Gl X "range" := by rfl) (hs : starEach [a] X.env = [(false, eval a X.env)] := by rfl) : NI X δ tg (.Call (.Name "range" p) [a] [] pos) (wL2 rng1 wr) :=
  ⟨fun F0 H0 => pi_weak (pi_range1 hg hm (ha.ok F0 H0) hs) fun σ H R ⟨ρ, F, A, e1, e2, q⟩ => ⟨ρ, F, _, e1, e2, fun d hE v F' H' a pd0 => by
      obtain ⟨ds, hr, hA⟩ := hE
      have pd := pd0.tp
      unfold rng1 at hr
      split at hr
      · split at hr
        · cases hr
          rename_i j hj
          replace hj := of_decide_eq_true hj
          cases pd with
          | cons t1 t2 =>
            cases t2
            refine ⟨j, by rw [t1.int], by omega, by omega, q _ hA _ F' H' a ?_⟩
            have h := items_range (K := X.K) (lo := 0) (hi := j) (B := F') (F := F')
            rw [show j - 0 = j by omega] at h
            exact h
        · cases hr
      · cases hr⟩⟩
theorem ni_range2 {a b : Expr} {wr : Wp (List D)} (hm : X.mg "range" = none) (ha : NAT X δ [a, b] wr) (hg : Gl X "range" := by rfl) (hs : starEach [a, b] X.env = [(false, eval a X.env), (false, eval b X.env)] := by rfl) (hs2 : starEach [b] X.env = [(false, eval b X.env)] := by rfl) :
    NI X δ tg (.Call (.Name "range" p) [a, b] [] pos) (wL2 rng2 wr) :=
  ⟨fun F0 H0 => pi_weak (pi_range2 hg hm (ha.ok F0 H0) hs hs2) fun σ H R ⟨ρ, F, A, e1, e2, q⟩ => ⟨ρ, F, _, e1, e2, fun d hE v F' H' a pd0 => by
      obtain ⟨ds, hr, hA⟩ := hE
      have pd := pd0.tp
      unfold rng2 at hr
      split at hr
      · split at hr
        · cases hr
          rename_i i j hj
          have hi := of_decide_eq_true hj.1
          have hk := of_decide_eq_true hj.2
          cases pd with
          | cons t1 t2 =>
            cases t2 with
            | cons t2 t3 =>
              cases t3
              exact ⟨i, j, by rw [t1.int, t2.int], ⟨by omega, by omega, by omega, by omega⟩, q _ hA _ F' H' a items_range⟩
        · cases hr
      · cases hr⟩⟩
end

/-! ### for -/
def wLoop (mg : D → Rho → Option Rho) (wb : Wp Res) : List D → Wp Res
  | [], ρ, A => A (.nx ρ)
  | d :: ds, ρ, A => ∃ ρ1, mg d ρ = some ρ1 ∧ wb ρ1 fun r => match r with
    | .nx ρ2 => wLoop mg wb ds ρ2 A
    | .ct ρ2 => wLoop mg wb ds ρ2 A
    | .bk ρ2 => A (.nx ρ2)
    | .rt d => A (.rt d)
    | .ro es => A (.ro es)
    | .ex _ _ => False
    | .rs _ _ => False
def wFor (src : Wp (List D)) (mg : D → Rho → Option Rho) (wb : Wp Res) : Wp Res := fun ρ A => src ρ fun ds => wLoop mg wb ds ρ A
section
variable {X : Cx} {δ : Addr} {tg iter : Expr} {pos : Pos}
theorem ns_for {body : List Stmt} {src : Wp (List D)} {ix : List Nat} {mg : D → Rho → Option Rho} {wb : Wp Res} (hp : PassesOwn (model X.prog X.w) X.A X.env X.xe) (hc : X.calm = true)
    (hi : NI X δ tg iter src) (hg : MG X tg ix mg) (hb : NSs X δ body wb) (hs : ∀ x, foldedSetIterable iter X.env x = pure x := by intro _; rfl) : NS X δ (.For tg iter body [] pos) (wFor src mg wb) := by
  refine ⟨fun F0 H0 => ?_⟩
  have body_any : PSs X body (fun Dn σ H => ∃ F1 : Hp, uS X δ F1 H0 wb Dn σ H) := ⟨fun pins s σ H Dn I ⟨F1, h⟩ => (hb.ok F1 H0).run pins s σ H Dn I h⟩
  have targ_any : PG X tg (fun v σ H Q => ∃ F1 : Hp, tGw X.K δ F1 H0 ix mg v σ H Q) := ⟨fun pins s σ H v u Q I r ⟨F1, h⟩ => (hg.n F1 H0).run pins s σ H v u Q I r h⟩
  refine ps_weak (ps_for hp hc (hi.ok F0 H0) targ_any body_any hs) fun Dn σ H h => ?_
  obtain ⟨ρ, F, A, e1, e2, q⟩ := h
  refine ⟨ρ, F, _, e1, e2, fun ds hA J F' H' a it => ?_⟩
  have e1' := e1.go a
  obtain ⟨G, Y, w, hG, hY⟩ := it
  have f01 : Ex F0 F' := e1'.toAdv.f
  have un : ∀ {F2 H2 σ2 ρ2}, EnvW X.K δ F' H0 F2 H2 σ2 ρ2 → EnvW X.K δ F0 H0 F2 H2 σ2 ρ2 := fun {F2 H2 σ2 ρ2} e => by
    obtain ⟨⟨o, e⟩, dk⟩ := e
    obtain ⟨⟨o', e'⟩, dk'⟩ := e1'
    refine ⟨⟨o, e.unbase f01 fun p z1 z2 => ?_⟩, dk⟩
    by_cases hp : p = δ
    · rw [hp]; exact dk'.thaw
    · rw [upd_ne hp] at z2
      exact e'.new p z1 (by rw [upd_ne hp]; exact z2)
  have unA : ∀ {F2 H2}, AdvW X.K δ F' H0 F2 H2 → AdvW X.K δ F0 H0 F2 H2 := fun {F2 H2} e => by
    obtain ⟨⟨o, e⟩, dk⟩ := e
    obtain ⟨⟨o', e'⟩, dk'⟩ := e1'
    refine ⟨⟨o, ⟨f01.trans e.f, e.h, e.fh, fun p z1 z2 => ?_⟩⟩, dk⟩
    by_cases hp : p = δ
    · rw [hp]; exact dk.thaw
    · rw [upd_ne hp] at z2
      exact e.new p (e'.new p z1 (by rw [upd_ne hp]; exact z2)) (by rw [upd_ne hp]; exact z2)
  refine for_it (g := fun v σ H Q => ∃ F1 : Hp, tGw X.K δ F1 H0 ix mg v σ H Q) (tb := fun Dn σ H => ∃ F1 : Hp, uS X δ F1 H0 wb Dn σ H) (D := Dn) w (fun i σ H => ∃ ρi Fi, EnvW X.K δ F' H0 Fi H σ ρi ∧ wLoop mg wb (ds.drop i) ρi A)
    ⟨ρ, F', e1'.rebase f01 (Ex.refl _), by simpa using hA⟩ (fun i σ H _ ⟨ρi, Fi, k, _⟩ => hG H (k.toAdv.f.trans k.fh)) (fun i x σ H H2 hi ⟨ρi, Fi, k, kl⟩ y => ?_) (fun σ H ⟨ρi, Fi, k, kl⟩ => ?_)
  · have hd : ds[i]? = some ds[i] := List.getElem?_eq_getElem hi
    have kf : Ex F' Fi := k.toAdv.f
    obtain ⟨F2, a2, pd⟩ := hY i ds[i] Fi H x H2 hd kf k.fh (hG H (kf.trans k.fh)) y
    rw [List.drop_eq_getElem_cons hi] at kl
    obtain ⟨ρ1, hgm, hbm⟩ := kl
    have k2 := k.go (AdvW.of k.deck a2)
    refine ⟨F', ρi, F2, ds[i], ρ1, k2, pd, hgm, fun σ' k3 _ _ => ⟨F', ρ1, F2, _, k3, hbm, fun r1 hr => ?_⟩⟩
    cases r1 with
    | nx ρ2 => exact fun σ4 F4 H4 k4 => ⟨ρ2, F4, k4, hr⟩
    | ct ρ2 => exact fun σ4 F4 H4 k4 => ⟨ρ2, F4, k4, hr⟩
    | bk ρ2 => exact fun σ4 F4 H4 k4 => q _ hr σ4 F4 H4 (un k4)
    | rt d => exact fun v F4 H4 a4 pd4 => q _ hr v F4 H4 (unA a4) pd4
    | ex e ρ2 => exact hr.elim
    | rs d ρ2 => exact hr.elim
    | ro es => exact fun p vs F4 H4 a4 z0 z1 z2 z3 => q _ hr p vs F4 H4 (unA a4) z0 z1 z2 z3
  · rw [List.drop_length] at kl
    exact q _ kl σ Fi H (un k)
end

/-! ### comprehensions -/
def wComp (mg : D → Rho → Option Rho) (wt : Wp Bool) (we : Wp D) (ρ : Rho) : List D → (List D → Prop) → Prop
  | [], A => A []
  | d :: ds, A => ∃ ρ1, mg d ρ = some ρ1 ∧ wt ρ1 fun b => if b = true then we ρ1 fun y => wComp mg wt we ρ ds fun ys => A (y :: ys) else wComp mg wt we ρ ds A
def wLc (src : Wp (List D)) (mg : D → Rho → Option Rho) (wt : Wp Bool) (we : Wp D) (vs : List Nat) : Wp (List D) := fun ρ A => src ρ fun ds => ds.length < 100000 ∧ wComp mg wt we (wipeR ρ vs) ds A
structure NTs (X : Cx) (δ : Addr) (ifs : List Expr) (w : Wp Bool) : Prop where
  ok : ∀ F0 H0, PTs X ifs (uB X.K δ F0 H0 w)
def wYes : Wp Bool := fun _ A => A true
theorem nts_nil {X : Cx} {δ : Addr} : NTs X δ [] wYes := ⟨fun F0 H0 => ⟨fun pins s σ H Q I ⟨ρ, F, A, e1, e2, q⟩ => pts_nil.run pins s σ H Q I (q _ e2 F H (AdvW.refl e1.deck e1.fh))⟩⟩
theorem nts_one {X : Cx} {δ : Addr} {c : Expr} {w : Wp Bool} (h : NB X δ c w) : NTs X δ [c] w := ⟨fun F0 H0 => pts_one (h.ok F0 H0)⟩
section
variable {X : Cx} {δ : Addr} {elt tg iter : Expr} {ifs : List Expr} {scope : Scope} {own : List (Str × Nat)} {pos : Pos} {src : Wp (List D)} {ix : List Nat} {mg : D → Rho → Option Rho} {wt : Wp Bool} {we : Wp D}
theorem lcw_read {F0 H0 : Hp} {σ : L2.St} {H : Hp} {Q : VK} {vs : List Nat} (hx : ∀ i ∈ ix, i ∈ vs) (h : uO X.K δ F0 H0 (wLc src mg wt we vs) σ H Q) :
    tLc (uIH X.K δ F0 H0 src) (fun v σ H Q => tGw X.K δ F0 H0 ix mg v σ H Q) (uB X.K δ F0 H0 wt) (uE X.K δ F0 H0 we) vs σ H Q := by
  obtain ⟨ρ, F, A, e1, e2, q⟩ := h
  refine ⟨ρ, F, _, e1, e2, fun ds ⟨hz, hc⟩ J F1 H1 a1 it p hp => ?_⟩
  have g1 := e1.go a1
  have dk1 := g1.deck
  obtain ⟨G, Y, w, hG, hY⟩ := it
  have hH : H p = none := a1.free e1.deck hp
  have pd : p ≠ δ := fun z => by
    subst z
    obtain ⟨u, k⟩ := dk1.here
    rw [hp] at k
    cases k
  have fill : ∀ {F' H' : Hp} {o : HO}, AdvW X.K δ F1 H1 F' H' → F' p = none → AdvW X.K δ F1 H1 F' (upd H' p o) := fun {F' H' o} a h1 => by
    obtain ⟨⟨u, a⟩, d⟩ := a
    refine ⟨⟨u, a.fill (by rw [upd_ne pd]; exact hp) h1⟩, ?_⟩
    obtain ⟨x, y, z, v, q, ns, k1, k2⟩ := d
    exact ⟨x, y, z, v, q, ns, by rw [upd_ne (Ne.symm pd)]; exact k1, k2⟩
  refine lc_it w (fun i H2 => ∃ F2 acc zs, AdvW X.K δ F1 H1 F2 H2 ∧ H2 p = some (.lst acc) ∧ F2 p = none ∧ DpAll X.K F2 acc zs ∧ zs.length ≤ i ∧ wComp mg wt we (wipeR ρ vs) (ds.drop i) fun rest => A (zs ++ rest))
    ⟨F1, [], [], fill (AdvW.refl dk1 g1.fh) (g1.fh.none hp), upd_same, g1.fh.none hp, .nil, Nat.zero_le _, by simpa using hc⟩ (fun i H2 _ ⟨F2, acc, zs, a2, _⟩ => hG F2 H2 a2) (fun i x H2 H3 hi ⟨F2, acc, zs, a2, hD, hF, pa, hlen, hc⟩ y => ?_) (fun H2 ⟨F2, acc, zs, a2, hD, hF, pa, hlen, hc⟩ => ?_)
  · have hd : ds[i]? = some ds[i] := List.getElem?_eq_getElem hi
    obtain ⟨F3, a3, pdd⟩ := hY i ds[i] F2 H2 x H3 hd a2 (hG F2 H2 a2) y
    have a3w : AdvW X.K δ F2 H2 F3 H3 := AdvW.of a2.deck a3
    have a13 := a2.trans dk1 a3w
    have f3 : F3 p = none := a3.new p hF (by rw [hD]; exact fun z => nomatch z)
    have d3 : H3 p = some (.lst acc) := a3.h p _ hD
    rw [List.drop_eq_getElem_cons hi] at hc
    obtain ⟨ρ1, hgm, htm⟩ := hc
    have g3 := (g1.go a13).wipe vs
    refine ⟨wipeR ρ vs, F3, ds[i], ρ1, g3, pdd, hgm, fun σ4 g4 l4 c4 => ⟨wipe_eq l4 hx c4, ρ1, F3, _, g4, htm, fun b hb F5 H5 a5 => ?_⟩⟩
    have f5 : F5 p = none := a5.new f3 (by rw [d3]; exact fun z => nomatch z)
    have d5 : H5 p = some (.lst acc) := a5.at pd d3
    cases b with
    | true =>
      refine iteT ⟨ρ1, F5, _, g4.go a5, (by simpa using hb), fun v hv u F6 H6 a6 pu => ?_⟩
      have f6 : F6 p = none := a6.new f5 (by rw [d5]; exact fun z => nomatch z)
      have d6 : H6 p = some (.lst acc) := a6.at pd d5
      have l6 := dal_len pa
      refine ⟨acc, d6, by rw [l6]; exact Nat.lt_of_le_of_lt hlen (Nat.lt_of_lt_of_le (Nat.lt_trans hi hz) (by decide)), F6, acc ++ [u], zs ++ [v], fill ((a13.trans dk1 a5).trans dk1 a6) f6, upd_same, f6, ?_, by simp; omega, ?_⟩
      · exact dal_app (dpa_ex ((a3.f.trans a5.f).trans a6.f) _ _ pa) (.cons pu .nil)
      · have e : (fun rest => A (zs ++ [v] ++ rest)) = fun ys => A (zs ++ v :: ys) := by
          funext ys
          rw [List.append_assoc]
          rfl
        rw [e]
        exact hv
    | false => exact iteF ⟨F5, acc, zs, a13.trans dk1 a5, d5, f5, dpa_ex (a3.f.trans a5.f) _ _ pa, by omega, (by simpa using hb)⟩
  · rw [List.drop_length] at hc
    have hA : A (zs ++ []) := hc
    rw [List.append_nil] at hA
    exact q _ hA p acc F2 H2 (a1.trans e1.deck a2) hH hF hD pa
theorem no_lc (hc : X.calm = true) (hN : X.N.Nodup) (hi : NIH X δ tg iter src) (ok : BlkOk X.N X.env.scope scope own)
    (hg : ∀ (s : Shared) (H : Hp) (C : Addr) (cl : List (Str × Addr)) (fp : List Addr), MG (X.blk s H scope (compEnvC scope cl C X.env) fp) tg ix mg)
    (ht : ∀ (s : Shared) (H : Hp) (C : Addr) (cl : List (Str × Addr)) (fp : List Addr), NTs (X.blk s H scope (compEnvC scope cl C X.env) fp) δ ifs wt)
    (he : ∀ (s : Shared) (H : Hp) (C : Addr) (cl : List (Str × Addr)) (fp : List Addr), NE (X.blk s H scope (compEnvC scope cl C X.env) fp) δ elt we)
    (hx : ∀ i ∈ ix, i ∈ own.map (·.2) := by decide) (hs : ∀ x, foldedSetIterable iter X.env x = pure x := by intro _; rfl) :
    NO X δ (.ListComp elt [⟨tg, iter, ifs, 0⟩] scope pos) (wLc src mg wt we (own.map (·.2))) :=
  ⟨fun F0 H0 => pe_weak (pe_lc hc hN (hi.ok F0 H0) ok (fun s H C cl fp => (hg s H C cl fp).n F0 H0) (fun s H C cl fp => (ht s H C cl fp).ok F0 H0) (fun s H C cl fp => (he s H C cl fp).ok F0 H0) hs) fun σ H Q h => lcw_read hx h⟩
/-- name = [..] on one line -/
theorem ns_setLc {i : Nat} {y : Str} {py spos : Pos} (hc : X.calm = true) (hN : X.N.Nodup) (hi : NIH X δ tg iter src) (ok : BlkOk X.N X.env.scope scope own)
    (hg : ∀ (s : Shared) (H : Hp) (C : Addr) (cl : List (Str × Addr)) (fp : List Addr), MG (X.blk s H scope (compEnvC scope cl C X.env) fp) tg ix mg)
    (ht : ∀ (s : Shared) (H : Hp) (C : Addr) (cl : List (Str × Addr)) (fp : List Addr), NTs (X.blk s H scope (compEnvC scope cl C X.env) fp) δ ifs wt)
    (he : ∀ (s : Shared) (H : Hp) (C : Addr) (cl : List (Str × Addr)) (fp : List Addr), NE (X.blk s H scope (compEnvC scope cl C X.env) fp) δ elt we)
    (hsw : swapsWith (.ListComp elt [⟨tg, iter, ifs, 0⟩] scope pos) (some (.Name y py)) spos.line X.env = pure true) (hyl : X.env.scope.names.lookup y = some .local := by rfl) (hy : X.N[i]? = some y := by rfl)
    (hx : ∀ i ∈ ix, i ∈ own.map (·.2) := by decide) (hs : ∀ x, foldedSetIterable iter X.env x = pure x := by intro _; rfl) :
    NS X δ (.Assign [.Name y py] (.ListComp elt [⟨tg, iter, ifs, 0⟩] scope pos) spos) (wSet i (wL (wLc src mg wt we (own.map (·.2))))) :=
  ⟨fun F0 H0 => ps_weak (ps_setLc hc hN hy hyl hsw (hi.ok F0 H0) ok (fun s H C cl fp => (hg s H C cl fp).n F0 H0) (fun s H C cl fp => (ht s H C cl fp).ok F0 H0) (fun s H C cl fp => (he s H C cl fp).ok F0 H0) hs) fun Dn σ H ⟨ρ, F, A, e1, e2, q⟩ =>
    lcw_read (X := X) (Q := fun x H1 => gName i x σ H1 Dn.nx) hx ⟨ρ, F, _, e1, e2, fun ds hA p vs F' H' a h0 h1 h2 h3 =>
      q _ hA _ _ H' ((e1.go (a.freeze e1.deck h0 h1 h2)).setD (.lst (SqL.of upd_same) (dpa_ex (Ex.new h1) ds vs h3)))⟩⟩
/-- the same, the list an own one -/
theorem ns_setLcO {i : Nat} {y : Str} {py spos : Pos} (hc : X.calm = true) (hN : X.N.Nodup) (hi : NIH X δ tg iter src) (ok : BlkOk X.N X.env.scope scope own)
    (hg : ∀ (s : Shared) (H : Hp) (C : Addr) (cl : List (Str × Addr)) (fp : List Addr), MG (X.blk s H scope (compEnvC scope cl C X.env) fp) tg ix mg)
    (ht : ∀ (s : Shared) (H : Hp) (C : Addr) (cl : List (Str × Addr)) (fp : List Addr), NTs (X.blk s H scope (compEnvC scope cl C X.env) fp) δ ifs wt)
    (he : ∀ (s : Shared) (H : Hp) (C : Addr) (cl : List (Str × Addr)) (fp : List Addr), NE (X.blk s H scope (compEnvC scope cl C X.env) fp) δ elt we)
    (hsw : swapsWith (.ListComp elt [⟨tg, iter, ifs, 0⟩] scope pos) (some (.Name y py)) spos.line X.env = pure true) (hyl : X.env.scope.names.lookup y = some .local := by rfl) (hy : X.N[i]? = some y := by rfl)
    (hx : ∀ i ∈ ix, i ∈ own.map (·.2) := by decide) (hs : ∀ x, foldedSetIterable iter X.env x = pure x := by intro _; rfl) :
    NS X δ (.Assign [.Name y py] (.ListComp elt [⟨tg, iter, ifs, 0⟩] scope pos) spos) (wSetO i (wLc src mg wt we (own.map (·.2)))) :=
  ⟨fun F0 H0 => ps_weak (ps_setLc hc hN hy hyl hsw (hi.ok F0 H0) ok (fun s H C cl fp => (hg s H C cl fp).n F0 H0) (fun s H C cl fp => (ht s H C cl fp).ok F0 H0) (fun s H C cl fp => (he s H C cl fp).ok F0 H0) hs) fun Dn σ H ⟨ρ, F, A, e1, e2, q⟩ =>
    lcw_read (X := X) (Q := fun x H1 => gName i x σ H1 Dn.nx) hx ⟨ρ, F, _, e1, e2, fun ds hA p vs F' H' a h0 h1 h2 h3 => q _ hA _ F' H' (e1.setO a h0 h1 h2 h3)⟩⟩
end
end MV

set_option maxRecDepth 100000
set_option maxHeartbeats 4000000
namespace MV
open PySem PySem.Spec PyProof.Rows L2

/-! ### defs that draw, by their bodies -/
def endW (A : D → Prop) : Res → Prop
  | .rt d => A d
  | .nx _ => A .none
  | .ro es => A (.list es)
  | _ => False
def endWO (A : List D → Prop) : Res → Prop
  | .ro es => A es
  | _ => False
def runW (n j : Nat) (body : Addr → Wp Res) : Addr → List D → (D → Prop) → Prop := fun δ ds A => ds.length + 1 = n ∧ body δ (.rf δ :: (ds.map Cell.dat ++ List.replicate j Cell.un)) (endW A)
def runWO (n j : Nat) (body : Addr → Wp Res) : Addr → List D → (List D → Prop) → Prop := fun δ ds A => ds.length + 1 = n ∧ body δ (.rf δ :: (ds.map Cell.dat ++ List.replicate j Cell.un)) (endWO A)
def runDefO (n j : Nat) (body : Rho → Option Res) : List D → Option (List D) := fun ds => if ds.length = n then (body (ds.map Cell.dat ++ List.replicate j Cell.un)).bind fun r => match r with
  | .ro es => some es
  | _ => none else none
theorem env_startW {K : PySem.W.Frag} {F H : Hp} {N : List Str} {δ : Addr} {vs : List V} {ds : List D} (e : Ex F H) (pa : DpAll K F vs ds) (hl : vs.length + 1 ≤ N.length) :
    EnvOk K F H F H (start N (.ref δ :: vs)) (.rf δ :: (ds.map Cell.dat ++ List.replicate (N.length - (vs.length + 1)) Cell.un)) := by
  have l := dal_len pa
  have cell : ∀ (i : Nat) c, (ds.map Cell.dat ++ List.replicate (N.length - (vs.length + 1)) Cell.un)[i]? = some c → c = .un ∨ ∃ d, ds[i]? = some d ∧ c = .dat d := fun i c h => by
    by_cases hi : i < ds.length
    · rw [List.getElem?_append_left (by simpa using hi), List.getElem?_map, List.getElem?_eq_getElem hi] at h
      cases h
      exact .inr ⟨_, List.getElem?_eq_getElem hi, rfl⟩
    · rw [List.getElem?_append_right (by simpa using hi), List.getElem?_replicate] at h
      split at h
      · cases h; exact .inl rfl
      · cases h
  refine ⟨⟨Ex.refl _, Ex.refl _, e⟩, fun _ h _ => h, ?_, fun i d hi => ?_, fun i ys hi => ?_, fun i j ys zs p hi _ _ _ => ?_, fun i a hi => ?_, fun i n fs hi => ?_⟩
  · unfold L2.start
    simp [l]
  · cases i with
    | zero => cases hi
    | succ i =>
      rw [List.getElem?_cons_succ] at hi
      rcases cell i _ hi with h | ⟨d', h, h2⟩
      · cases h
      · cases h2
        obtain ⟨v, h3, h4⟩ := dal_get pa h
        refine ⟨v, ?_, h4⟩
        unfold L2.start
        have hv := (List.getElem?_eq_some_iff.mp h3).1
        rw [List.getElem?_append_left (by simpa using hv), List.getElem?_map, List.getElem?_cons_succ, h3]
        rfl
  · cases i with
    | zero => cases hi
    | succ i =>
      rw [List.getElem?_cons_succ] at hi
      rcases cell i _ hi with h | ⟨d', h, h2⟩
      · cases h
      · cases h2
  · cases i with
    | zero => cases hi
    | succ i =>
      rw [List.getElem?_cons_succ] at hi
      rcases cell i _ hi with h | ⟨d', h, h2⟩
      · cases h
      · cases h2
  · cases i with
    | zero =>
      cases hi
      rfl
    | succ i =>
      rw [List.getElem?_cons_succ] at hi
      rcases cell i _ hi with h | ⟨d', h, h2⟩
      · cases h
      · cases h2
  · cases i with
    | zero => cases hi
    | succ i =>
      rw [List.getElem?_cons_succ] at hi
      rcases cell i _ hi with h | ⟨d', h, h2⟩
      · cases h
      · cases h2
section
variable {P : Program} {w : World} {K : PySem.W.Frag} {mg : Str → Option Value} {base : Heap}
/-- a def by whatever its body's reading promises -/
theorem fn_sp {x qual : Str} {st : Stmt} {f : Addr} {fd : FuncData} {N ps : List Str} {k : Nat} {dvs : List V} {kws : List (Str × V)} {sp : List V → Hp → VK → Prop} (D0 : FunD K x qual (defArgs st) (defBody st) (defScope st) dvs kws f fd) (S : FnScope N ps (defScope st))
    (hl : ∀ vs H Q, sp vs H Q → vs.length = ps.length)
    (hbody : ∀ (cdv : Value) (A : Around) (outer : List Env) (s : Shared) (H : Hp), (A.deeper (envOfC qual (defScope st) s.heap.objs.size f cdv)).guards = some [] → Room k (A.deeper (envOfC qual (defScope st) s.heap.objs.size f cdv)) → ∀ vs Q, sp vs H Q →
      ∃ t : TS, PSs (cxOf CX0 P w K mg base N qual (defScope st) f cdv A outer s H E0).nox (defBody st) t ∧ t { nx := fun _ H' => Q .non H', rt := Q } (start N vs) H) :
    ∀ (A : Around) (outer : List Env) (s : Shared) (H : Hp) (args : Args) (us : List Value) (vs : List V) (Q : VK), A.guards = some [] → Room (k + 1) A → Env0 P w K mg base A outer s H →
    BindsTo s fd args (ps.zip us) → Vals vs us → sp vs H Q → codeAny (model P w) A (.call (.ref f) args) (CR CX0 outer P w H s Q E0) s := by
  obtain ⟨oc, od, dV, kV, doc, pm, an, cdv, ct, osl, rfl, lk, hcd, _, _⟩ := D0.ex
  intro A outer s H args us vs Q hG hr e0 hb r h
  have hv := hl vs H Q h
  have base_kept : ∀ b o, base.get? b = some o → s.heap.get? b = some o := fun b o z => (e0.bs b o z).1
  have KX : K.In s.heap := e0.mod.kin.keeps base_kept
  have hkind : ∀ y ∈ ps.zip us, (defScope st).names.lookup y.1 = some .local ∨ ((defScope st).names.lookup y.1 = some .cell ∧ ((cellsFrom (s.heap.objs.size + 1) (defScope st).names []).lookup y.1).isSome = true) := fun y hy =>
    (S.par y.1 (List.of_mem_zip (a := y.1) (b := y.2) hy).1).imp id fun c => ⟨c, PySem.W.cellsFrom_some _ _ _ (.inl c)⟩
  refine codeAny_call_function hr.depth (KX _ _ lk) rfl S.co S.gen rfl (PySem.W.codeRec_of KX hcd) (hb _ _ _ _ (wpAny_newFunctionEnv_cells S.kind hkind fun env he s1 z => ?_))
  subst he
  refine ⟨(e0.mod.nolimit.keeps base_kept).keeps z.toInCall.keep, codeAny_func ?_⟩
  obtain ⟨t, ht0, goal⟩ := hbody cdv A outer s H hG (hr.deeper _) vs Q h
  have ht := ht0.nox
  have I : L2.Inv (cxOf CX0 P w K mg base N qual (defScope st) f cdv A outer s H E0) [] (start N vs) H s1 := inv_start S hr.hd e0 hv r z
  refine wpAny_mono (ht.run [] s1 (start N vs) H _ I goal) (fun fl s' hs => ?_) fun _ _ z => z
  match fl, hs with
  | .ret u, ⟨v, σ', H', J, rv, z⟩ => exact ⟨v, H', J.os, J.bare, J.base, J.hok, rv, z⟩
  | .next, ⟨σ', H', J, z⟩ => exact ⟨V.non, H', J.os, J.bare, J.base, J.hok, rfl, z⟩
  | .brk, ⟨_, _, _, z⟩ => exact False.elim z
  | .cont, ⟨_, _, _, z⟩ => exact False.elim z
theorem pre_le {N ps : List Str} {sc : Scope} (S : FnScope N ps sc) : ps.length ≤ N.length := by
  have h1 := congrArg List.length S.pre
  rw [List.length_take] at h1
  omega
theorem startW {N : List Str} {δ : Addr} {F H : Hp} {vs : List V} {ds : List D} (e : Ex F H) (dk : Deck K δ F H) (pa : DpAll K F vs ds) {n : Nat} (hn : ds.length + 1 = n) (hl : n ≤ N.length) :
    EnvW K δ F H F H (start N (.ref δ :: vs)) (.rf δ :: (ds.map Cell.dat ++ List.replicate (N.length - n) Cell.un)) := by
  have l := dal_len pa
  obtain ⟨o, ho⟩ := dk.here
  have h := env_startW (N := N) (δ := δ) e pa (by omega)
  rw [show N.length - (vs.length + 1) = N.length - n by omega] at h
  exact ⟨⟨o, by rw [upd_self ho]; exact h⟩, dk⟩
theorem fn_defW {x qual : Str} {st : Stmt} {f : Addr} {fd : FuncData} {N ps : List Str} {k : Nat} {body : Addr → Wp Res} {dvs : List V} {kws : List (Str × V)} (D0 : FunD K x qual (defArgs st) (defBody st) (defScope st) dvs kws f fd) (S : FnScope N ps (defScope st))
    (hbody : ∀ (cdv : Value) (A : Around) (outer : List Env) (s : Shared) (H : Hp) (δ : Addr), (A.deeper (envOfC qual (defScope st) s.heap.objs.size f cdv)).guards = some [] → Room k (A.deeper (envOfC qual (defScope st) s.heap.objs.size f cdv)) →
      NSs (cxOf CX0 P w K mg base N qual (defScope st) f cdv A outer s H E0).nox δ (defBody st) (body δ)) : FnW P w K mg base (k + 1) f fd ps (runW ps.length (N.length - ps.length) body) := by
  refine ⟨fun δ ds A h => h.1, fn_sp D0 S (fun vs H Q ⟨δ, vs', F, ds, A, e1, _, _, pa, hw, _⟩ => by rw [e1, List.length_cons, dal_len pa]; exact hw.1) fun cdv A outer s H hG hr vs Q h => ?_⟩
  obtain ⟨δ, vs', F, ds, A', rfl, ex, dk, pa, hw, q⟩ := h
  refine ⟨_, (hbody cdv A outer s H δ hG hr).ok F H, _, F, _, startW ex dk pa hw.1 (pre_le S), hw.2, fun r hr => ?_⟩
  cases r with
  | rt d => exact fun v F' H' a p => q d hr v F' H' a p
  | nx ρ => exact fun σ F' H' e => q _ hr _ F' H' e.toAdv .non
  | ro es => exact fun p ws F' H' a z0 z1 z2 z3 => q _ hr _ _ _ (a.freeze dk z0 z1 z2) (.lst (SqL.of upd_same) (dpa_ex (Ex.new z1) _ _ z3))
  | bk ρ => exact hr.elim
  | ct ρ => exact hr.elim
  | ex e ρ => exact hr.elim
  | rs d ρ => exact hr.elim
theorem fn_defWO {x qual : Str} {st : Stmt} {f : Addr} {fd : FuncData} {N ps : List Str} {k : Nat} {body : Addr → Wp Res} {dvs : List V} {kws : List (Str × V)} (D0 : FunD K x qual (defArgs st) (defBody st) (defScope st) dvs kws f fd) (S : FnScope N ps (defScope st))
    (hbody : ∀ (cdv : Value) (A : Around) (outer : List Env) (s : Shared) (H : Hp) (δ : Addr), (A.deeper (envOfC qual (defScope st) s.heap.objs.size f cdv)).guards = some [] → Room k (A.deeper (envOfC qual (defScope st) s.heap.objs.size f cdv)) →
      NSs (cxOf CX0 P w K mg base N qual (defScope st) f cdv A outer s H E0).nox δ (defBody st) (body δ)) : FnWO P w K mg base (k + 1) f fd ps (runWO ps.length (N.length - ps.length) body) := by
  refine ⟨fun δ ds A h => h.1, fn_sp D0 S (fun vs H Q ⟨δ, vs', F, ds, A, e1, _, _, pa, hw, _⟩ => by rw [e1, List.length_cons, dal_len pa]; exact hw.1) fun cdv A outer s H hG hr vs Q h => ?_⟩
  obtain ⟨δ, vs', F, ds, A', rfl, ex, dk, pa, hw, q⟩ := h
  refine ⟨_, (hbody cdv A outer s H δ hG hr).ok F H, _, F, _, startW ex dk pa hw.1 (pre_le S), hw.2, fun r hr => ?_⟩
  cases r with
  | ro es => exact fun p ws F' H' a z0 z1 z2 z3 => q _ hr p ws F' H' a z0 z1 z2 z3
  | rt d => exact hr.elim
  | nx ρ => exact hr.elim
  | bk ρ => exact hr.elim
  | ct ρ => exact hr.elim
  | ex e ρ => exact hr.elim
  | rs d ρ => exact hr.elim
theorem fn_defO {x qual : Str} {st : Stmt} {f : Addr} {fd : FuncData} {N ps : List Str} {k : Nat} {body : Rho → Option Res} {dvs : List V} {kws : List (Str × V)} (D0 : FunD K x qual (defArgs st) (defBody st) (defScope st) dvs kws f fd) (S : FnScope N ps (defScope st))
    (hbody : ∀ (cdv : Value) (A : Around) (outer : List Env) (s : Shared) (H : Hp), (A.deeper (envOfC qual (defScope st) s.heap.objs.size f cdv)).guards = some [] → Room k (A.deeper (envOfC qual (defScope st) s.heap.objs.size f cdv)) →
      MSs (cxOf CX0 P w K mg base N qual (defScope st) f cdv A outer s H E0).nox noW (defBody st) body) : FnGO P w K mg base (k + 1) f fd ps (runDefO ps.length (N.length - ps.length) body) := by
  have len : ∀ ds d, runDefO ps.length (N.length - ps.length) body ds = some d → ds.length = ps.length := fun ds d h => by
    unfold runDefO at h
    split at h
    · assumption
    · cases h
  refine ⟨len, fn_sp D0 S (fun vs H Q ⟨F, ds, es, _, pa, hm, _⟩ => by rw [dal_len pa]; exact len ds es hm) fun cdv A outer s H hG hr vs Q h => ?_⟩
  obtain ⟨F, ds, es, ex, pa, hm, q⟩ := h
  have hl := len ds es hm
  have l := dal_len pa
  have start_ok := env_start (N := N) ex pa (by have := pre_le S; omega)
  rw [show N.length - vs.length = N.length - ps.length by omega] at start_ok
  unfold runDefO at hm
  rw [if_pos hl] at hm
  cases hbd : body (ds.map Cell.dat ++ List.replicate (N.length - ps.length) Cell.un) with
  | none => rw [hbd] at hm; cases hm
  | some res =>
    rw [hbd] at hm
    refine ⟨_, (hbody cdv A outer s H hG hr).ok F H, _, F, res, start_ok, hbd, ?_⟩
    cases res with
    | ro es' =>
      cases hm
      exact fun p ws F' H' a z0 z1 z2 z3 => q p ws F' H' a z0 z1 z2 z3
    | rt d => cases hm
    | nx ρ => cases hm
    | bk ρ => cases hm
    | ct ρ => cases hm
    | ex e ρ => cases hm
    | rs d ρ => cases hm
end

/-! ### the deck is made -/
def deckD (ds : List D) : Prop := ∃ (a b c e : Int) (ns : List Int), ds = [.int a, .int b, .int c, .list (ns.map .int), .int e] ∧ 0 ≤ a ∧ 0 ≤ b ∧ 0 ≤ e
theorem Deck.of {K : PySem.W.Frag} {p : Addr} {F H : Hp} {vs : List V} {ds : List D} (h : H p = some (.lst vs)) (f : F p = none) (pa : DpAll K F vs ds) (d : deckD ds) : Deck K p F H := by
  obtain ⟨a, b, c, e, ns, rfl, h1, h2, h3⟩ := d
  cases pa with
  | cons p1 pa => cases pa with
    | cons p2 pa => cases pa with
      | cons p3 pa => cases pa with
        | cons p4 pa => cases pa with
          | cons p5 pa =>
            cases pa
            cases p1
            cases p2
            cases p3
            cases p5
            cases p4 with
            | @lst q xs _ hs ha => exact ⟨a, b, c, e, q, ns, h, f, h1, h2, h3, .lst hs ha⟩
open Classical in
noncomputable def mDeck (i : Nat) (m : Rho → Option Res) (w : Addr → Wp Res) : Rho → Option Res := fun ρ => (m ρ).bind fun r => match r with
  | .nx ρ1 => if (∃ ds, ρ1[i]? = some (.own ds) ∧ deckD ds ∧ ∀ δ, w δ (ρ1.set i (.rf δ)) fun r => r = .rt (.bool true)) then some (.rt (.bool true)) else none
  | _ => none
theorem deck_ok {i : Nat} {m : Rho → Option Res} {w : Addr → Wp Res} {ρ ρ1 : Rho} {ds : List D} (h : m ρ = some (.nx ρ1)) (h1 : ρ1[i]? = some (.own ds)) (h2 : deckD ds) (h3 : ∀ δ, w δ (ρ1.set i (.rf δ)) fun r => r = .rt (.bool true)) : mDeck i m w ρ = some (.rt (.bool true)) := by
  unfold mDeck
  rw [h]
  exact if_pos ⟨ds, h1, h2, h3⟩
theorem mss_deck {X : Cx} {W : WX} {st : Stmt} {sts : List Stmt} {i : Nat} {m : Rho → Option Res} {w : Addr → Wp Res} (h : MS X W st m) (h2 : ∀ δ, NSs X δ sts (w δ)) : MSs X W (st :: sts) (mDeck i m w) :=
  ⟨fun F0 H0 => by
    have any : PSs X sts (fun Dn σ H => ∃ δ F1, uS X δ F1 H0 (w δ) Dn σ H) := ⟨fun pins s σ H Dn I ⟨δ, F1, z⟩ => ((h2 δ).ok F1 H0).run pins s σ H Dn I z⟩
    refine pss_weak (pss_cons (h.ok F0 H0) any) fun Dn σ H ⟨ρ, F, r, e1, e2, q⟩ => ?_
    unfold mDeck at e2
    cases hx : m ρ with
    | none => rw [hx] at e2; cases e2
    | some r1 =>
      rw [hx] at e2
      cases r1 with
      | rt d => cases e2
      | ro d => cases e2
      | bk ρ => cases e2
      | ct ρ => cases e2
      | ex e ρ => cases e2
      | rs d ρ => cases e2
      | nx ρ1 =>
        simp only [Option.bind_some] at e2
        split at e2
        · rename_i hw
          cases e2
          obtain ⟨ds, hi, hd, hw⟩ := hw
          refine ⟨ρ, F, .nx ρ1, e1, hx, fun σ1 F1 H1 k1 => ?_⟩
          obtain ⟨p, vs, g1, g2, g3, g4, g5⟩ := k1.own i ds hi
          have li : i < ρ1.length := (List.getElem?_eq_some_iff.mp hi).1
          have ev : EnvOk X.K F1 (upd H0 p (.lst vs)) F1 H1 σ1 (ρ1.set i (.rf p)) := by
            have old : ∀ {j : Nat} {c : Cell}, (ρ1.set i (.rf p))[j]? = some c → c ≠ .rf p → ρ1[j]? = some c ∧ j ≠ i := fun {j c} h hc => by
              rcases getElem?_set_cases h with ⟨_, hd, _⟩ | ⟨hne, hj⟩
              · exact absurd hd hc
              · exact ⟨hj, hne⟩
            refine ⟨⟨Ex.refl _, fun b u hb => ?_, k1.adv.2.2⟩, fun _ z _ => z, by simpa using k1.len, fun j d hj => ?_, fun j es hj => ?_, fun j l es fs q z1 z2 z3 z4 => ?_, fun j a hj => ?_, k1.obs_go (Ex.refl F1) (fun j n fs hj => ⟨(old hj fun z => nomatch z).1, rfl⟩) (fun a _ z2 z3 z4 => ⟨z2, (upd_ne fun (z : a = p) => z4 i ds hi (by rw [z]; exact g1)).trans z3, rfl⟩) fun j es q z1 z2 => .inl ⟨es, (old z1 fun z => nomatch z).1, z2⟩⟩
            · by_cases hbp : b = p
              · subst hbp
                rw [upd_same] at hb
                cases hb
                exact g4
              · rw [upd_ne hbp] at hb
                exact k1.adv.2.1 b u hb
            · exact k1.dat j d (old hj fun z => nomatch z).1
            · obtain ⟨hj, hne⟩ := old hj fun z => nomatch z
              obtain ⟨q, ws, m1, m2, m3, m4, m5⟩ := k1.own j es hj
              have hq : q ≠ p := fun z => hne (k1.dist j i es ds p hj hi (z ▸ m1) g1)
              exact ⟨q, ws, m1, m2, by rw [upd_ne hq]; exact m3, m4, m5⟩
            · exact k1.dist j l es fs q (old z1 fun z => nomatch z).1 (old z2 fun z => nomatch z).1 z3 z4
            · rcases getElem?_set_cases hj with ⟨rfl, hd, _⟩ | ⟨hne, hj⟩
              · cases hd
                exact g1
              · exact k1.rf j a hj
          refine ⟨p, F1, _, F1, _, ⟨⟨.lst vs, ev⟩, Deck.of g4 g2 g5 hd⟩, hw p, fun r hr => ?_⟩
          subst hr
          intro v F' H' a pd
          obtain ⟨⟨o2, a⟩, dk⟩ := a
          refine q v F' H' ⟨k1.adv.1.trans a.f, (Ex.new g3).trans a.h, a.fh, fun x z1 z2 => a.new x (k1.new x z1 z2) ?_⟩ pd
          have hx : x ≠ p := fun z => z2 (z ▸ g3)
          rw [upd_ne hx]
          exact z2
        · cases e2⟩

/-! ### what is drawn: a number below the bound -/
def w_draw : Addr → List D → (D → Prop) → Prop := fun _ ds A => ∃ b, ds = [.int b] ∧ 0 < b ∧ b < 2 ^ 64 ∧ ∀ v, 0 ≤ v → v < b → A (.int v)
/-- a state of the deck, as an own list -/
def dkL (a b c e : Int) (ns : List Int) : List D := [.int a, .int b, .int c, .list (ns.map .int), .int e]
/-! statements about an own list in the first slot that stands at δ -/
def tD (X : Cx) (δ : Addr) (F0 H0 : Hp) (m : Rho → Option Res) : TS := fun Dn σ H => ∃ ρ F ρ', EnvOk X.K F0 H0 F H σ ρ ∧ σ[0]? = some (some (.ref δ)) ∧ m ρ = some (.nx ρ') ∧
  ∀ σ' F' H', EnvOk X.K F0 H0 F' H' σ' ρ' → σ'[0]? = some (some (.ref δ)) → Dn.nx σ' H'
structure DS (X : Cx) (δ : Addr) (st : Stmt) (m : Rho → Option Res) : Prop where
  ok : ∀ F0 H0, PS X st (tD X δ F0 H0 m)
structure DSs (X : Cx) (δ : Addr) (st : List Stmt) (m : Rho → Option Res) : Prop where
  ok : ∀ F0 H0, PSs X st (tD X δ F0 H0 m)
section
variable {X : Cx} {δ : Addr} {e : Expr} {st : Stmt} {sts : List Stmt} {m : Rho → Option D} {m1 m2 : Rho → Option Res} {pos pos' : Pos} {x : Str} {i : Nat}
theorem ds_set (hN : X.N.Nodup) (he : ME X e m) (hi0 : i ≠ 0 := by decide) (hi : X.N[i]? = some x := by rfl) (hx : Loc X.env.scope x := by first | exact Or.inl rfl | exact Or.inr rfl) (hs : swapsWith e (some (.Name x pos')) pos.line X.env = pure false := by rfl)
    (hf : X.fn x = true ∨ X.env.scope.names.lookup x = some .local := by first | exact .inl rfl | exact .inr rfl | assumption) : DS X δ (.Assign [.Name x pos'] e pos) (mSet i m) :=
  ⟨fun F0 H0 => ps_weak (ps_set hN hi hx (he.ok F0 H0) hs hf) fun Dn σ H ⟨ρ, F, ρ', e1, e0, e2, q⟩ => by
    unfold mSet at e2
    cases hx : m ρ with
    | none => rw [hx] at e2; cases e2
    | some d =>
      rw [hx] at e2
      cases e2
      exact ⟨ρ, F, d, e1, hx, fun v F' H' a p => q _ F' H' ((e1.go a).setD p) (by rw [List.getElem?_set_ne hi0]; exact e0)⟩⟩
theorem ds_put {npos spos : Pos} {k : Expr} {mk : Rho → Option D} (i : Nat) (he : ME X e m) (hk : ME X k mk) (hN : X.N[i]? = some x := by rfl) (hv : Vis X.env.scope x := by first | exact Or.inl rfl | exact Or.inr (Or.inl rfl) | exact Or.inr (Or.inr rfl))
    (hd : (x == ("__debug__" : Str)) = false := by decide) (hcd : (x == ("__classdict__" : Str)) = false := by decide)
    (ha : ∀ v, assign (.Subscript (.Name x npos) k spos) X.env v = (do
      let o1 ← holding [v] (eval (.Name x npos) X.env)
      let o2 ← holding [v, o1] (eval k X.env)
      standAt spos
      holding [v, o1, o2] (setItem o1 o2 v)
      release [v, o1, o2] []) := by intro _; rfl)
    (h0 : swapsWithSole [.Subscript (.Name x npos) k spos] e pos.line X.env = pure false := by rfl) (h1 : swappedStores [.Subscript (.Name x npos) k spos] e X.env = pure none := by rfl)
    (h2 : (assignEach [.Subscript (.Name x npos) k spos] X.env).map (·.2) = [assign (.Subscript (.Name x npos) k spos) X.env] := by rfl) :
    DS X δ (.Assign [.Subscript (.Name x npos) k spos] e pos) (mPut i mk m) :=
  ⟨fun F0 H0 => ps_weak (ps_asg (he.ok F0 H0) (pg_sub (pe_var hN hv hd hcd) (hk.ok F0 H0) set_list ha) h0 h1 h2) fun Dn σ H ⟨ρ, F, ρ', e1, e0, e2, q⟩ => by
    unfold mPut at e2
    cases hx : m ρ with
    | none => rw [hx] at e2; cases e2
    | some d =>
      rw [hx] at e2
      cases hy : mk ρ with
      | none => simp [hy] at e2
      | some k =>
        cases hp : putCell ρ[i]? k d with
        | none => simp [hy, hp] at e2
        | some es =>
          replace e2 : Res.nx (ρ.set i (.own es)) = .nx ρ' := by simpa [hy, hp] using e2
          cases e2
          obtain ⟨ds, z, j, hi, rfl, hj, rfl⟩ := putCell_some hp
          refine ⟨ρ, F, d, e1, hx, fun v F' H' a pd => ?_⟩
          have g := e1.go a
          obtain ⟨p, vs, h1, h2, h3, h4, h5⟩ := g.own i ds hi
          refine ⟨_, h1, ρ, F', _, g, hy, fun w F2 H2 a2 pz => ?_⟩
          cases pz
          have g2 := g.go a2
          obtain ⟨p', vs', k1, k2, k3, k4, k5⟩ := g2.own i ds hi
          rw [h1] at k1
          cases k1
          refine ⟨p, vs', z, j, rfl, rfl, k4, by rw [dal_len k5]; exact hj, ?_⟩
          exact q σ F2 _ (g2.mutO hi h1 (dal_set (dp_ex a2.f d v pd) j k5)) e0⟩
theorem dss_nil : DSs X δ [] mSkip := ⟨fun F0 H0 => pss_weak pss_nil fun Dn σ H ⟨ρ, F, r, e1, e0, e2, q⟩ => by
  cases e2
  exact q σ F H e1 e0⟩
theorem dss_one (h : DS X δ st m1) : DSs X δ [st] m1 := ⟨fun F0 H0 => pss_one (h.ok F0 H0)⟩
theorem dss_cons (h : DS X δ st m1) (h2 : DSs X δ sts m2) : DSs X δ (st :: sts) (mSeq m1 m2) :=
  ⟨fun F0 H0 => pss_weak (pss_cons (h.ok F0 H0) (h2.ok F0 H0)) fun Dn σ H ⟨ρ, F, r, e1, e0, e2, q⟩ => by
    unfold mSeq at e2
    cases hx : m1 ρ with
    | none => rw [hx] at e2; cases e2
    | some r1 =>
      rw [hx] at e2
      replace e2 : thenR r1 m2 = some (.nx r) := e2
      cases r1 with
      | nx ρ1 => exact ⟨ρ, F, ρ1, e1, e0, hx, fun σ1 F1 H1 w w0 => ⟨ρ1, F1, r, w, w0, e2, q⟩⟩
      | rt d => cases e2
      | ro ds => cases e2
      | bk ρ1 => cases e2
      | ct ρ1 => cases e2
      | ex e ρ1 => cases e2
      | rs d ρ1 => cases e2⟩
theorem ds_if {c : Expr} {a b : List Stmt} {mc : Rho → Option Bool} (hc : MB X c mc) (ha : DSs X δ a m1) (hb : DSs X δ b m2) : DS X δ (.If c a b pos) (mIfS mc m1 m2) :=
  ⟨fun F0 H0 => ps_weak (ps_if (hc.ok F0 H0) (ha.ok F0 H0) (hb.ok F0 H0)) fun Dn σ H ⟨ρ, F, r, e1, e0, e2, q⟩ => by
    unfold mIfS at e2
    cases hx : mc ρ with
    | none => rw [hx] at e2; cases e2
    | some t =>
      rw [hx] at e2
      replace e2 : (if t = true then m1 ρ else m2 ρ) = some (.nx r) := e2
      refine ⟨ρ, F, t, e1, hx, fun F1 H1 a1 => ?_⟩
      cases t with
      | true => exact iteT ⟨ρ, F1, r, e1.go a1, e0, e2, q⟩
      | false => exact iteF ⟨ρ, F1, r, e1.go a1, e0, e2, q⟩⟩
theorem ds_post (vs : List Nat) (h : DS X δ st m1) : DS X δ st (mPost vs m1) := ⟨fun F0 H0 => ps_weak (h.ok F0 H0) fun Dn σ H ⟨ρ, F, r, e1, e0, e2, q⟩ => by
  unfold mPost at e2
  cases hx : m1 ρ with
  | none => rw [hx] at e2; cases e2
  | some r1 =>
    rw [hx] at e2
    cases r1 with
    | nx ρ1 => cases e2; exact ⟨ρ, F, ρ1, e1, e0, hx, fun σ' F' H' k k0 => q σ' F' H' (k.forget vs) k0⟩
    | rt d => cases e2
    | ro ds => cases e2
    | bk ρ1 => cases e2
    | ct ρ1 => cases e2
    | ex e ρ1 => cases e2
    | rs d ρ1 => cases e2⟩
end
theorem fn_draw {P : Program} {w : World} {K : PySem.W.Frag} {mg : Str → Option Value} {base : Heap} {x qual : Str} {st : Stmt} {f : Addr} {fd : FuncData} {N ps : List Str} {dvs : List V} {kws : List (Str × V)} {m1 m2 m3 : Rho → Option Res} {j : Nat} {s1 s2 s3 : Stmt} {y : Str} {yp rp : Pos}
    (D0 : FunD K x qual (defArgs st) (defBody st) (defScope st) dvs kws f fd) (S : FnScope N ps (defScope st)) (hps : ps.length = 2) (hN : N.length = 4) (hbody : defBody st = [s1, s2, s3, .Return (some (.Name y yp)) rp])
    (h : ∀ (cdv : Value) (A : Around) (outer : List Env) (s : Shared) (H : Hp), (A.deeper (envOfC qual (defScope st) s.heap.objs.size f cdv)).guards = some [] → Room 0 (A.deeper (envOfC qual (defScope st) s.heap.objs.size f cdv)) →
      ∀ δ, DS (cxOf CX0 P w K mg base N qual (defScope st) f cdv A outer s H E0).nox δ s1 m1 ∧ DS (cxOf CX0 P w K mg base N qual (defScope st) f cdv A outer s H E0).nox δ s2 m2 ∧ DS (cxOf CX0 P w K mg base N qual (defScope st) f cdv A outer s H E0).nox δ s3 m3 ∧
      PE (cxOf CX0 P w K mg base N qual (defScope st) f cdv A outer s H E0).nox (.Name y yp) (tVar j))
    (hm : ∀ (a b c e bd : Int) (ns : List Int), 0 ≤ a → 0 ≤ b → 0 ≤ e → 0 < bd → bd < 2 ^ 64 → ∃ ρ1 ρ2 ρ3 v a' b' c' e', m1 [.own (dkL a b c e ns), .dat (.int bd), .un, .un] = some (.nx ρ1) ∧ m2 ρ1 = some (.nx ρ2) ∧ m3 ρ2 = some (.nx ρ3) ∧
      ρ3[0]? = some (.own (dkL a' b' c' e' ns)) ∧ 0 ≤ a' ∧ 0 ≤ b' ∧ 0 ≤ e' ∧ ρ3[j]? = some (.dat (.int v)) ∧ 0 ≤ v ∧ v < bd) : FnW P w K mg base 1 f fd ps w_draw := by
  refine ⟨fun δ ds A ⟨b, e, _⟩ => by rw [e, hps]; rfl, fn_sp (k := 0) D0 S (fun vs H Q ⟨δ, vs', F, ds, A, e1, _, _, pa, ⟨b, e2, _⟩, _⟩ => by rw [e1, List.length_cons, dal_len pa, e2, hps]; rfl) fun cdv A outer s H hG hr vs Q h0 => ?_⟩
  obtain ⟨δ, vs', F, ds, A', rfl, ex, dk, pa, ⟨bd, rfl, hb0, hb1, hA⟩, q⟩ := h0
  obtain ⟨t1, t2, t3, t4⟩ := h cdv A outer s H hG hr δ
  cases pa with
  | cons pb pa =>
    cases pa
    cases pb
    obtain ⟨a, b, c, e, qq, ns, k1, k2, k3, k4, k5, k6⟩ := id dk
    obtain ⟨ρ1, ρ2, ρ3, v, a', b', c', e', r1, r2, r3, r4, r5, r6, r7, r8, r9, r10⟩ := hm a b c e bd ns k3 k4 k5 hb0 hb1
    -- the heap without the deck
    let Hd : Hp := L2.del H δ
    have exd : Ex Hd H := fun x u hx => by
      by_cases hxd : x = δ
      · subst hxd
        rw [show Hd x = none from L2.del_same] at hx
        cases hx
      · rwa [show Hd x = H x from L2.del_ne hxd] at hx
    have e0 : EnvOk K F Hd F H (start N [.ref δ, .int bd]) [.own (dkL a b c e ns), .dat (.int bd), .un, .un] := by
      have hst : start N [V.ref δ, .int bd] = [some (.ref δ), some (.int bd), none, none] := by
        unfold L2.start
        rw [hN]
        rfl
      rw [hst]
      refine ⟨⟨Ex.refl _, exd, ex⟩, fun _ z _ => z, rfl, fun i d hi => ?_, fun i es hi => ?_, fun i l es fs p z1 z2 z3 z4 => ?_, fun i l hi => ?_, fun i n fs hi => by
        match i, hi with
        | 0, hi => cases hi
        | 1, hi => cases hi
        | 2, hi => cases hi
        | 3, hi => cases hi
        | i + 4, hi => cases hi⟩
      · match i, hi with
        | 0, hi => cases hi
        | 1, hi => cases hi; exact ⟨_, rfl, .int bd⟩
        | 2, hi => cases hi
        | 3, hi => cases hi
        | i + 4, hi => cases hi
      · match i, hi with
        | 0, hi =>
          cases hi
          exact ⟨δ, _, rfl, k2, L2.del_same, k1, .cons (.int _) (.cons (.int _) (.cons (.int _) (.cons k6 (.cons (.int _) .nil))))⟩
        | 1, hi => cases hi
        | 2, hi => cases hi
        | 3, hi => cases hi
        | i + 4, hi => cases hi
      · have h0 : ∀ {i : Nat} {es : List D}, ([.own (dkL a b c e ns), .dat (.int bd), .un, .un] : Rho)[i]? = some (.own es) → i = 0 := fun {i es} hi => by
          match i, hi with
          | 0, hi => rfl
          | 1, hi => cases hi
          | 2, hi => cases hi
          | 3, hi => cases hi
          | i + 4, hi => cases hi
        rw [h0 z1, h0 z2]
      · match i, hi with
        | 0, hi => cases hi
        | 1, hi => cases hi
        | 2, hi => cases hi
        | 3, hi => cases hi
        | i + 4, hi => cases hi
    rw [hbody]
    refine ⟨_, pss_cons (t1.ok F Hd) (pss_cons (t2.ok F Hd) (pss_cons (t3.ok F Hd) (pss_one (ps_ret t4)))), _, F, _, e0, ?_, r1, fun σ1 F1 H1 e1 b1 => ⟨_, F1, _, e1, b1, r2, fun σ2 F2 H2 e2 b2 => ⟨_, F2, _, e2, b2, r3, fun σ3 F3 H3 e3 b3 => ?_⟩⟩⟩
    · unfold L2.start
      rw [hN]
      rfl
    obtain ⟨p, ws, z1, z2, z3, z4, z5⟩ := e3.own 0 _ r4
    obtain ⟨u, y1, y2⟩ := e3.dat j _ r8
    cases y2
    rw [b3] at z1
    cases z1
    refine ⟨_, y1, q (.int v) (hA v r9 r10) _ F3 H3 ⟨⟨.lst ws, ?_⟩, Deck.of z4 z2 z5 ⟨a', b', c', e', ns, rfl, r5, r6, r7⟩⟩ (.int v)⟩
    refine ⟨e3.adv.1, fun x u hx => ?_, e3.adv.2.2, fun x h1 h2 => ?_⟩
    · by_cases hxd : x = δ
      · subst hxd
        rw [upd_same] at hx
        cases hx
        exact z4
      · rw [upd_ne hxd] at hx
        exact e3.adv.2.1 x u (by rw [show Hd x = H x from L2.del_ne hxd]; exact hx)
    · by_cases hxd : x = δ
      · rw [hxd]; exact z2
      · rw [upd_ne hxd] at h2
        exact e3.new x h1 (by rw [show Hd x = H x from L2.del_ne hxd]; exact h2)
end MV

set_option maxRecDepth 100000
set_option maxHeartbeats 4000000
namespace MV
open PySem PySem.Spec PyProof.Rows L2
def dk_m1 : Rho → Option Res :=
    (mPost [2] (mIfS (mAnd (mAsB (m2 dEq (m2 dIx (mOwn 0) (mC (.int 0))) (mC (.int 0)))) (mAsB (m2 dLt (m2 dIx (mOwn 0) (mC (.int 1))) (mFn fLen (mCons (m2 dIx (mOwn 0) (mC (.int 3))) mNil))))) (mSeq (mPut 0 (mC (.int 0)) (mFn fAbs (mCons (m2 dIx (m2 dIx (mOwn 0) (mC (.int 3))) (m2 dIx (mOwn 0) (mC (.int 1)))) mNil)))
    (mPut 0 (mC (.int 1)) (m2 dAdd (m2 dIx (mOwn 0) (mC (.int 1))) (mC (.int 1))))) (mPost [2] (mIfS (mAsB (m2 dEq (m2 dIx (mOwn 0) (mC (.int 0))) (mC (.int 0)))) (mSeq (mPut 0 (mC (.int 4)) (m2 dAdd (m2 dIx (mOwn 0) (mC (.int 4))) (mC (.int 1))))
    (mSeq (mSet 2 (m2 dMod (mFn fInt (mCons (m2 dAdd (m2 dAdd (m2 dMul (m2 dIx (mOwn 0) (mC (.int 2))) (mC (.int 48271))) (m2 dMul (m2 dIx (mOwn 0) (mC (.int 4))) (mC (.int 69621)))) (mC (.int 12345))) mNil)) (mC (.int 2147483647))))
    (mSeq (mSet 2 (m2 dMod (mFn fInt (mCons (m2 dAdd (m2 dAdd (m2 dMul (mVar 2) (mVar 2)) (m2 dMul (mC (.int 16807)) (m2 dIx (mOwn 0) (mC (.int 4))))) (mC (.int 7))) mNil)) (mC (.int 998244353))))
    (mSeq (mSet 2 (m2 dMod (mFn fInt (mCons (m2 dAdd (m2 dAdd (m2 dMul (mVar 2) (mVar 2)) (m2 dMul (mC (.int 48271)) (m2 dIx (mOwn 0) (mC (.int 4))))) (m2 dIx (mOwn 0) (mC (.int 2)))) mNil)) (mC (.int 2147483629))))
    (mPost [2] (mPut 0 (mC (.int 0)) (m2 dDiv (mVar 2) (mC (.int 13))))))))) mSkip))))
def dk_m2 : Rho → Option Res :=
    (mSet 3 (m2 dMod (mFn fInt (mCons (m2 dIx (mOwn 0) (mC (.int 0))) mNil)) (mVar 1)))
def dk_m3 : Rho → Option Res :=
    (mPost [1] (mPut 0 (mC (.int 0)) (m2 dDiv (m2 dIx (mOwn 0) (mC (.int 0))) (mVar 1))))
theorem fmod_lt {a b : Int} (h : 0 < b) : 0 ≤ a.fmod b ∧ a.fmod b < b := by
  rw [Int.fmod_eq_emod_of_nonneg _ (by omega)]
  exact ⟨Int.emod_nonneg _ (by omega), Int.emod_lt_of_pos _ h⟩
theorem fdiv_nn {a b : Int} (h : 0 ≤ a) (h2 : 0 < b) : 0 ≤ a.fdiv b := Int.fdiv_nonneg h (by omega)
theorem at_1 {d0 d1 : D} {ds : List D} : atI (d0 :: d1 :: ds) 1 = some d1 := atI_nat (j := 1) rfl
theorem at_2 {d0 d1 d2 : D} {ds : List D} : atI (d0 :: d1 :: d2 :: ds) 2 = some d2 := atI_nat (j := 2) rfl
theorem at_3 {d0 d1 d2 d3 : D} {ds : List D} : atI (d0 :: d1 :: d2 :: d3 :: ds) 3 = some d3 := atI_nat (j := 3) rfl
theorem at_4 {d0 d1 d2 d3 d4 : D} {ds : List D} : atI (d0 :: d1 :: d2 :: d3 :: d4 :: ds) 4 = some d4 := atI_nat (j := 4) rfl
section
variable {ρ ρ' : Rho} {m : Rho → Option D} {d d0 d1 d2 d3 d4 : D} {i : Nat}
theorem pt_0 (h : m ρ = some d) (h3 : ρ[i]? = some (.own [d0, d1, d2, d3, d4])) (h5 : ρ.set i (.own [d, d1, d2, d3, d4]) = ρ') : mPut i (mC (.int 0)) m ρ = some (.nx ρ') := put_at h rfl h3 rfl h5
theorem pt_1 (h : m ρ = some d) (h3 : ρ[i]? = some (.own [d0, d1, d2, d3, d4])) (h5 : ρ.set i (.own [d0, d, d2, d3, d4]) = ρ') : mPut i (mC (.int 1)) m ρ = some (.nx ρ') := put_at h rfl h3 rfl h5
theorem pt_4 (h : m ρ = some d) (h3 : ρ[i]? = some (.own [d0, d1, d2, d3, d4])) (h5 : ρ.set i (.own [d0, d1, d2, d3, d]) = ρ') : mPut i (mC (.int 4)) m ρ = some (.nx ρ') := put_at h rfl h3 rfl h5
end
theorem val_eq {α : Type} {x : Option α} {r r' : α} (h : x = some r) (e : r = r') : x = some r' := by rw [h, e]
theorem natAbs_fmod {a b : Int} (h : 0 < b) (h2 : b < 2 ^ 64) : (a.fmod b).natAbs < 2 ^ 64 := by
  have := fmod_lt (a := a) h
  omega
theorem dk_2 {a b c e bd : Int} {ns : List Int} (h0 : 0 < bd) : dk_m2 [.own (dkL a b c e ns), .dat (.int bd), .un, .un] = some (.nx [.own (dkL a b c e ns), .dat (.int bd), .un, .dat (.int (a.fmod bd))]) := by
  unfold dk_m2 dkL
  (repeat (first | (with_reducible first | apply MV.seq_ok | apply MV.then_nx | apply MV.then_rt | apply MV.ar_cons | apply MV.ar_nil | apply MV.ex_c | apply MV.var_0 | apply MV.var_s | apply MV.own_0 | apply MV.own_0d | apply MV.own_s | apply MV.ex_2 | apply MV.ex_call0 | apply MV.ex_fn | apply MV.st_set | apply MV.set_0 | apply MV.set_s | apply MV.st_post | apply MV.post_nx | apply MV.post_rt | apply MV.wipe_0 | apply MV.wipe_s | apply MV.op_add' | apply MV.op_sub' | (apply MV.dMul_ok; rotate_left) | (apply MV.dDiv_ok; rotate_left) | (apply MV.dMod_ok; rotate_left) | apply MV.op_ixL | apply MV.op_ixT | apply MV.at_0 | apply MV.fn_int | apply MV.fn_abs | apply MV.fn_len | apply MV.fn_lenT | apply MV.fn_tupL | apply MV.fn_tupT | apply MV.fn_lstL | apply MV.fn_lstT | apply MV.ex_tup | apply MV.ex_lst | apply MV.ex_l | apply MV.len_0 | apply MV.len_s | apply MV.st_ret | apply MV.retO_0 | apply MV.retO_0d | apply MV.retO_s | apply MV.st_if | apply MV.ite_tt | apply MV.ite_ff | apply MV.bo_as | apply MV.bo_tru | apply MV.bo_and | apply MV.bo_or | apply MV.bo_not | apply MV.not_t | apply MV.not_f | apply MV.ex_and | apply MV.ex_or | apply MV.ex_not | apply MV.ex_if | apply MV.st_skip | apply MV.st_drop | apply MV.st_brk | apply MV.st_cnt | apply MV.st_setO | apply MV.app_at | apply MV.get_0 | apply MV.get_s | apply MV.st_par | apply MV.st_asg | apply MV.tg_set | apply MV.tg_tup | apply MV.tg_cons | apply MV.tg_nil | apply MV.st_for | apply MV.st_frz | apply MV.put_at | apply MV.src_seq | apply MV.src_2 | apply MV.seq_l | apply MV.seq_t | apply MV.zip_ok | apply MV.enum_ok | apply MV.ex_1 | apply MV.ex_call | apply MV.op_neg' | apply MV.op_lt' | apply MV.op_le' | apply MV.op_gt' | apply MV.op_ge' | apply MV.op_p18 | apply MV.op_p9 | apply MV.op_p30 | apply MV.op_eqI | apply MV.op_neI | apply MV.op_eqSS | apply MV.op_neSS | apply MV.op_eqS | apply MV.op_neS | apply MV.op_eqB | apply MV.op_neB | apply MV.fn_gcd | apply MV.fn_intB | apply MV.post_bk | apply MV.post_ct | apply MV.then_bk | apply MV.then_ct | apply MV.cut_ok | apply MV.part_ok | apply MV.part_no | apply MV.then_ex | apply MV.post_ex | apply MV.st_raise | apply MV.mk_err | apply MV.err_int | apply MV.err_non | apply MV.st_ifX | apply MV.ifX_ok | apply MV.ifX_er | apply MV.ex_2X | apply MV.m2R_er | apply MV.m2R_ok | apply MV.ex_callX | apply MV.st_try | apply MV.try_nx | apply MV.try_rt | apply MV.try_ex | apply MV.end_rt | apply MV.end_nx | apply MV.st_guard | apply MV.fld_ok | apply MV.isv_ok | apply MV.n_pw | apply MV.n_seq | apply MV.n_then | apply MV.n_then_rt | apply MV.n_then_ro | apply MV.n_set | apply MV.n_setO | apply MV.n_eq | apply MV.n_post | apply MV.n_ifS | apply MV.n_callW | apply MV.n_dk | apply MV.n_cons | apply MV.n_nil | apply MV.n_bin | apply MV.n_asB | apply MV.n_isB | apply MV.n_isI | apply MV.n_ret | apply MV.n_retL | apply MV.n_retO | apply MV.n_app | apply MV.n_put | apply MV.n_asg | apply MV.n_tup | apply MV.n_lst | apply MV.n_l | apply MV.n_fn | apply MV.n_callG0 | apply MV.n_callG | apply MV.n_callWO | apply MV.n_tru | apply MV.n_not | apply MV.n_and | apply MV.n_or | apply MV.n_if | apply MV.n_andV | apply MV.n_orV | apply MV.n_notV | apply MV.n_tt | apply MV.n_ff | apply MV.n_noPart | apply MV.n_part | apply MV.n_cut | apply MV.n_drop | apply MV.n_frz | apply MV.n_end | apply MV.n_endo | apply MV.n_endO | apply MV.n_for | apply MV.n_lc | apply MV.n_yes | apply MV.n_seqOf | apply MV.n_l2 | apply MV.n_un | apply MV.post_ro | apply MV.n_len | apply MV.n_len' | apply MV.n_ex | apply MV.st_retL | apply MV.ex_callO0 | apply MV.ex_callO | apply MV.ex_star | apply MV.ex_listO | apply MV.ex_rep | apply MV.st_aug | apply MV.st_retN | apply MV.ex_chain | apply MV.bind_ok | apply MV.op_inL | apply MV.op_notinL | apply MV.op_isNN | apply MV.op_isIN | apply MV.op_isTN | apply MV.op_isLN | apply MV.op_ntNN | apply MV.op_ntIN | apply MV.op_ntTN | apply MV.op_ntLN | apply MV.some_rfl) | (refine MV.ite_t (by assumption) ?_) | (refine MV.ite_f (by assumption) ?_) | (exact (by assumption : _ = true)) | (refine MV.ite_dt (by omega) ?_) | (refine MV.ite_df (by omega) ?_) | (refine MV.ite_et (by omega) ?_) | (refine MV.ite_ef (by omega) ?_) | (refine MV.n_dt (by omega) ?_) | (refine MV.n_df (by omega) ?_) | (refine MV.n_et (by omega) ?_) | (refine MV.n_ef (by omega) ?_)))
  · omega
theorem dk_3 {a b c e bd v : Int} {ns : List Int} (h0 : 0 < bd) (h1 : bd < 2 ^ 64) : dk_m3 [.own (dkL a b c e ns), .dat (.int bd), .un, .dat (.int v)] = some (.nx [.own (dkL (a.fdiv bd) b c e ns), .un, .un, .dat (.int v)]) := by
  unfold dk_m3 dkL
  apply val_eq
  (repeat (first | (with_reducible apply pt_0) | (with_reducible apply pt_1) | (with_reducible apply pt_4) | (with_reducible apply at_1 <;> first | omega | skip) | (with_reducible apply at_2 <;> first | omega | skip) | (with_reducible apply at_3 <;> first | omega | skip) | (with_reducible apply at_4 <;> first | omega | skip) | (with_reducible first | apply MV.seq_ok | apply MV.then_nx | apply MV.then_rt | apply MV.ar_cons | apply MV.ar_nil | apply MV.ex_c | apply MV.var_0 | apply MV.var_s | apply MV.own_0 | apply MV.own_0d | apply MV.own_s | apply MV.ex_2 | apply MV.ex_call0 | apply MV.ex_fn | apply MV.st_set | apply MV.set_0 | apply MV.set_s | apply MV.st_post | apply MV.post_nx | apply MV.post_rt | apply MV.wipe_0 | apply MV.wipe_s | apply MV.op_add' | apply MV.op_sub' | (apply MV.dMul_ok; rotate_left) | (apply MV.dDiv_ok; rotate_left) | (apply MV.dMod_ok; rotate_left) | apply MV.op_ixL | apply MV.op_ixT | apply MV.at_0 | apply MV.fn_int | apply MV.fn_abs | apply MV.fn_len | apply MV.fn_lenT | apply MV.fn_tupL | apply MV.fn_tupT | apply MV.fn_lstL | apply MV.fn_lstT | apply MV.ex_tup | apply MV.ex_lst | apply MV.ex_l | apply MV.len_0 | apply MV.len_s | apply MV.st_ret | apply MV.retO_0 | apply MV.retO_0d | apply MV.retO_s | apply MV.st_if | apply MV.ite_tt | apply MV.ite_ff | apply MV.bo_as | apply MV.bo_tru | apply MV.bo_and | apply MV.bo_or | apply MV.bo_not | apply MV.not_t | apply MV.not_f | apply MV.ex_and | apply MV.ex_or | apply MV.ex_not | apply MV.ex_if | apply MV.st_skip | apply MV.st_drop | apply MV.st_brk | apply MV.st_cnt | apply MV.st_setO | apply MV.app_at | apply MV.get_0 | apply MV.get_s | apply MV.st_par | apply MV.st_asg | apply MV.tg_set | apply MV.tg_tup | apply MV.tg_cons | apply MV.tg_nil | apply MV.st_for | apply MV.st_frz | apply MV.put_at | apply MV.src_seq | apply MV.src_2 | apply MV.seq_l | apply MV.seq_t | apply MV.zip_ok | apply MV.enum_ok | apply MV.ex_1 | apply MV.ex_call | apply MV.op_neg' | apply MV.op_lt' | apply MV.op_le' | apply MV.op_gt' | apply MV.op_ge' | apply MV.op_p18 | apply MV.op_p9 | apply MV.op_p30 | apply MV.op_eqI | apply MV.op_neI | apply MV.op_eqSS | apply MV.op_neSS | apply MV.op_eqS | apply MV.op_neS | apply MV.op_eqB | apply MV.op_neB | apply MV.fn_gcd | apply MV.fn_intB | apply MV.post_bk | apply MV.post_ct | apply MV.then_bk | apply MV.then_ct | apply MV.cut_ok | apply MV.part_ok | apply MV.part_no | apply MV.then_ex | apply MV.post_ex | apply MV.st_raise | apply MV.mk_err | apply MV.err_int | apply MV.err_non | apply MV.st_ifX | apply MV.ifX_ok | apply MV.ifX_er | apply MV.ex_2X | apply MV.m2R_er | apply MV.m2R_ok | apply MV.ex_callX | apply MV.st_try | apply MV.try_nx | apply MV.try_rt | apply MV.try_ex | apply MV.end_rt | apply MV.end_nx | apply MV.st_guard | apply MV.fld_ok | apply MV.isv_ok | apply MV.n_pw | apply MV.n_seq | apply MV.n_then | apply MV.n_then_rt | apply MV.n_then_ro | apply MV.n_set | apply MV.n_setO | apply MV.n_eq | apply MV.n_post | apply MV.n_ifS | apply MV.n_callW | apply MV.n_dk | apply MV.n_cons | apply MV.n_nil | apply MV.n_bin | apply MV.n_asB | apply MV.n_isB | apply MV.n_isI | apply MV.n_ret | apply MV.n_retL | apply MV.n_retO | apply MV.n_app | apply MV.n_put | apply MV.n_asg | apply MV.n_tup | apply MV.n_lst | apply MV.n_l | apply MV.n_fn | apply MV.n_callG0 | apply MV.n_callG | apply MV.n_callWO | apply MV.n_tru | apply MV.n_not | apply MV.n_and | apply MV.n_or | apply MV.n_if | apply MV.n_andV | apply MV.n_orV | apply MV.n_notV | apply MV.n_tt | apply MV.n_ff | apply MV.n_noPart | apply MV.n_part | apply MV.n_cut | apply MV.n_drop | apply MV.n_frz | apply MV.n_end | apply MV.n_endo | apply MV.n_endO | apply MV.n_for | apply MV.n_lc | apply MV.n_yes | apply MV.n_seqOf | apply MV.n_l2 | apply MV.n_un | apply MV.post_ro | apply MV.n_len | apply MV.n_len' | apply MV.n_ex | apply MV.st_retL | apply MV.ex_callO0 | apply MV.ex_callO | apply MV.ex_star | apply MV.ex_listO | apply MV.ex_rep | apply MV.st_aug | apply MV.st_retN | apply MV.ex_chain | apply MV.bind_ok | apply MV.op_inL | apply MV.op_notinL | apply MV.op_isNN | apply MV.op_isIN | apply MV.op_isTN | apply MV.op_isLN | apply MV.op_ntNN | apply MV.op_ntIN | apply MV.op_ntTN | apply MV.op_ntLN | apply MV.some_rfl) | (refine MV.ite_t (by assumption) ?_) | (refine MV.ite_f (by assumption) ?_) | (exact (by assumption : _ = true)) | (refine MV.ite_dt (by omega) ?_) | (refine MV.ite_df (by omega) ?_) | (refine MV.ite_et (by omega) ?_) | (refine MV.ite_ef (by omega) ?_) | (refine MV.n_dt (by omega) ?_) | (refine MV.n_df (by omega) ?_) | (refine MV.n_et (by omega) ?_) | (refine MV.n_ef (by omega) ?_)))
  all_goals first | rfl | exact divOk_n (b := 64) (by omega) (by omega) (by decide) | skip
theorem nsAt {ns : List Int} {b : Int} (h0 : 0 ≤ b) (h1 : b < ns.length) : ∃ v : Int, atI (ns.map PyData.int) b = some (.int v) := by
  obtain ⟨n, rfl⟩ := Int.eq_ofNat_of_zero_le h0
  have hn : n < ns.length := by omega
  exact ⟨ns[n], at_map (List.getElem?_eq_getElem hn)⟩
theorem dk_1a {b c e bd : Int} {ns : List Int} (h0 : 0 ≤ b) (h1 : b < ns.length) : ∃ a', 0 ≤ a' ∧ dk_m1 [.own (dkL 0 b c e ns), .dat (.int bd), .un, .un] = some (.nx [.own (dkL a' (b + 1) c e ns), .dat (.int bd), .un, .un]) := by
  obtain ⟨v, hv⟩ := nsAt h0 h1
  have h1' : b < ((ns.map PyData.int).length : Int) := by rw [List.length_map]; exact h1
  refine ⟨(v.natAbs : Int), by omega, ?_⟩
  unfold dk_m1 dkL
  apply val_eq
  (repeat (first | (with_reducible apply pt_0) | (with_reducible apply pt_1) | (with_reducible apply pt_4) | (with_reducible apply at_1 <;> first | omega | skip) | (with_reducible apply at_2 <;> first | omega | skip) | (with_reducible apply at_3 <;> first | omega | skip) | (with_reducible apply at_4 <;> first | omega | skip) | (with_reducible apply hv <;> first | omega | skip) | (with_reducible first | apply MV.seq_ok | apply MV.then_nx | apply MV.then_rt | apply MV.ar_cons | apply MV.ar_nil | apply MV.ex_c | apply MV.var_0 | apply MV.var_s | apply MV.own_0 | apply MV.own_0d | apply MV.own_s | apply MV.ex_2 | apply MV.ex_call0 | apply MV.ex_fn | apply MV.st_set | apply MV.set_0 | apply MV.set_s | apply MV.st_post | apply MV.post_nx | apply MV.post_rt | apply MV.wipe_0 | apply MV.wipe_s | apply MV.op_add' | apply MV.op_sub' | (apply MV.dMul_ok; rotate_left) | (apply MV.dDiv_ok; rotate_left) | (apply MV.dMod_ok; rotate_left) | apply MV.op_ixL | apply MV.op_ixT | apply MV.at_0 | apply MV.fn_int | apply MV.fn_abs | apply MV.fn_len | apply MV.fn_lenT | apply MV.fn_tupL | apply MV.fn_tupT | apply MV.fn_lstL | apply MV.fn_lstT | apply MV.ex_tup | apply MV.ex_lst | apply MV.ex_l | apply MV.len_0 | apply MV.len_s | apply MV.st_ret | apply MV.retO_0 | apply MV.retO_0d | apply MV.retO_s | apply MV.st_if | apply MV.ite_tt | apply MV.ite_ff | apply MV.bo_as | apply MV.bo_tru | apply MV.bo_and | apply MV.bo_or | apply MV.bo_not | apply MV.not_t | apply MV.not_f | apply MV.ex_and | apply MV.ex_or | apply MV.ex_not | apply MV.ex_if | apply MV.st_skip | apply MV.st_drop | apply MV.st_brk | apply MV.st_cnt | apply MV.st_setO | apply MV.app_at | apply MV.get_0 | apply MV.get_s | apply MV.st_par | apply MV.st_asg | apply MV.tg_set | apply MV.tg_tup | apply MV.tg_cons | apply MV.tg_nil | apply MV.st_for | apply MV.st_frz | apply MV.put_at | apply MV.src_seq | apply MV.src_2 | apply MV.seq_l | apply MV.seq_t | apply MV.zip_ok | apply MV.enum_ok | apply MV.ex_1 | apply MV.ex_call | apply MV.op_neg' | apply MV.op_lt' | apply MV.op_le' | apply MV.op_gt' | apply MV.op_ge' | apply MV.op_p18 | apply MV.op_p9 | apply MV.op_p30 | apply MV.op_eqI | apply MV.op_neI | apply MV.op_eqSS | apply MV.op_neSS | apply MV.op_eqS | apply MV.op_neS | apply MV.op_eqB | apply MV.op_neB | apply MV.fn_gcd | apply MV.fn_intB | apply MV.post_bk | apply MV.post_ct | apply MV.then_bk | apply MV.then_ct | apply MV.cut_ok | apply MV.part_ok | apply MV.part_no | apply MV.then_ex | apply MV.post_ex | apply MV.st_raise | apply MV.mk_err | apply MV.err_int | apply MV.err_non | apply MV.st_ifX | apply MV.ifX_ok | apply MV.ifX_er | apply MV.ex_2X | apply MV.m2R_er | apply MV.m2R_ok | apply MV.ex_callX | apply MV.st_try | apply MV.try_nx | apply MV.try_rt | apply MV.try_ex | apply MV.end_rt | apply MV.end_nx | apply MV.st_guard | apply MV.fld_ok | apply MV.isv_ok | apply MV.n_pw | apply MV.n_seq | apply MV.n_then | apply MV.n_then_rt | apply MV.n_then_ro | apply MV.n_set | apply MV.n_setO | apply MV.n_eq | apply MV.n_post | apply MV.n_ifS | apply MV.n_callW | apply MV.n_dk | apply MV.n_cons | apply MV.n_nil | apply MV.n_bin | apply MV.n_asB | apply MV.n_isB | apply MV.n_isI | apply MV.n_ret | apply MV.n_retL | apply MV.n_retO | apply MV.n_app | apply MV.n_put | apply MV.n_asg | apply MV.n_tup | apply MV.n_lst | apply MV.n_l | apply MV.n_fn | apply MV.n_callG0 | apply MV.n_callG | apply MV.n_callWO | apply MV.n_tru | apply MV.n_not | apply MV.n_and | apply MV.n_or | apply MV.n_if | apply MV.n_andV | apply MV.n_orV | apply MV.n_notV | apply MV.n_tt | apply MV.n_ff | apply MV.n_noPart | apply MV.n_part | apply MV.n_cut | apply MV.n_drop | apply MV.n_frz | apply MV.n_end | apply MV.n_endo | apply MV.n_endO | apply MV.n_for | apply MV.n_lc | apply MV.n_yes | apply MV.n_seqOf | apply MV.n_l2 | apply MV.n_un | apply MV.post_ro | apply MV.n_len | apply MV.n_len' | apply MV.n_ex | apply MV.st_retL | apply MV.ex_callO0 | apply MV.ex_callO | apply MV.ex_star | apply MV.ex_listO | apply MV.ex_rep | apply MV.st_aug | apply MV.st_retN | apply MV.ex_chain | apply MV.bind_ok | apply MV.op_inL | apply MV.op_notinL | apply MV.op_isNN | apply MV.op_isIN | apply MV.op_isTN | apply MV.op_isLN | apply MV.op_ntNN | apply MV.op_ntIN | apply MV.op_ntTN | apply MV.op_ntLN | apply MV.some_rfl) | (refine MV.ite_t (by assumption) ?_) | (refine MV.ite_f (by assumption) ?_) | (exact (by assumption : _ = true)) | (refine MV.ite_dt (by omega) ?_) | (refine MV.ite_df (by omega) ?_) | (refine MV.ite_et (by omega) ?_) | (refine MV.ite_ef (by omega) ?_) | (refine MV.n_dt (by omega) ?_) | (refine MV.n_df (by omega) ?_) | (refine MV.n_et (by omega) ?_) | (refine MV.n_ef (by omega) ?_)))
  all_goals first | rfl | (simp only [List.length_map]; omega) | skip
theorem dk_1b {b c e bd : Int} {ns : List Int} (h0 : 0 ≤ b) (h1 : ¬ b < ns.length) (he : 0 ≤ e) : ∃ a', 0 ≤ a' ∧ dk_m1 [.own (dkL 0 b c e ns), .dat (.int bd), .un, .un] = some (.nx [.own (dkL a' b c (e + 1) ns), .dat (.int bd), .un, .un]) := by
  have h1' : ¬ b < ((ns.map PyData.int).length : Int) := by rw [List.length_map]; exact h1
  refine ⟨?a, ?nn, ?_⟩
  case a => exact (((((((c * 48271 + (e + 1) * 69621 + 12345).fmod 2147483647) * ((c * 48271 + (e + 1) * 69621 + 12345).fmod 2147483647) + 16807 * (e + 1) + 7).fmod 998244353) * (((c * 48271 + (e + 1) * 69621 + 12345).fmod 2147483647) * ((c * 48271 + (e + 1) * 69621 + 12345).fmod 2147483647) + 16807 * (e + 1) + 7).fmod 998244353 + 48271 * (e + 1) + c).fmod 2147483629).fdiv 13)
  case nn => exact fdiv_nn (fmod_lt (by decide)).1 (by decide)
  unfold dk_m1 dkL
  apply val_eq
  (repeat (first | (with_reducible apply pt_0) | (with_reducible apply pt_1) | (with_reducible apply pt_4) | (with_reducible apply at_1 <;> first | omega | skip) | (with_reducible apply at_2 <;> first | omega | skip) | (with_reducible apply at_3 <;> first | omega | skip) | (with_reducible apply at_4 <;> first | omega | skip) | (with_reducible first | apply MV.seq_ok | apply MV.then_nx | apply MV.then_rt | apply MV.ar_cons | apply MV.ar_nil | apply MV.ex_c | apply MV.var_0 | apply MV.var_s | apply MV.own_0 | apply MV.own_0d | apply MV.own_s | apply MV.ex_2 | apply MV.ex_call0 | apply MV.ex_fn | apply MV.st_set | apply MV.set_0 | apply MV.set_s | apply MV.st_post | apply MV.post_nx | apply MV.post_rt | apply MV.wipe_0 | apply MV.wipe_s | apply MV.op_add' | apply MV.op_sub' | (apply MV.dMul_ok; rotate_left) | (apply MV.dDiv_ok; rotate_left) | (apply MV.dMod_ok; rotate_left) | apply MV.op_ixL | apply MV.op_ixT | apply MV.at_0 | apply MV.fn_int | apply MV.fn_abs | apply MV.fn_len | apply MV.fn_lenT | apply MV.fn_tupL | apply MV.fn_tupT | apply MV.fn_lstL | apply MV.fn_lstT | apply MV.ex_tup | apply MV.ex_lst | apply MV.ex_l | apply MV.len_0 | apply MV.len_s | apply MV.st_ret | apply MV.retO_0 | apply MV.retO_0d | apply MV.retO_s | apply MV.st_if | apply MV.ite_tt | apply MV.ite_ff | apply MV.bo_as | apply MV.bo_tru | apply MV.bo_and | apply MV.bo_or | apply MV.bo_not | apply MV.not_t | apply MV.not_f | apply MV.ex_and | apply MV.ex_or | apply MV.ex_not | apply MV.ex_if | apply MV.st_skip | apply MV.st_drop | apply MV.st_brk | apply MV.st_cnt | apply MV.st_setO | apply MV.app_at | apply MV.get_0 | apply MV.get_s | apply MV.st_par | apply MV.st_asg | apply MV.tg_set | apply MV.tg_tup | apply MV.tg_cons | apply MV.tg_nil | apply MV.st_for | apply MV.st_frz | apply MV.put_at | apply MV.src_seq | apply MV.src_2 | apply MV.seq_l | apply MV.seq_t | apply MV.zip_ok | apply MV.enum_ok | apply MV.ex_1 | apply MV.ex_call | apply MV.op_neg' | apply MV.op_lt' | apply MV.op_le' | apply MV.op_gt' | apply MV.op_ge' | apply MV.op_p18 | apply MV.op_p9 | apply MV.op_p30 | apply MV.op_eqI | apply MV.op_neI | apply MV.op_eqSS | apply MV.op_neSS | apply MV.op_eqS | apply MV.op_neS | apply MV.op_eqB | apply MV.op_neB | apply MV.fn_gcd | apply MV.fn_intB | apply MV.post_bk | apply MV.post_ct | apply MV.then_bk | apply MV.then_ct | apply MV.cut_ok | apply MV.part_ok | apply MV.part_no | apply MV.then_ex | apply MV.post_ex | apply MV.st_raise | apply MV.mk_err | apply MV.err_int | apply MV.err_non | apply MV.st_ifX | apply MV.ifX_ok | apply MV.ifX_er | apply MV.ex_2X | apply MV.m2R_er | apply MV.m2R_ok | apply MV.ex_callX | apply MV.st_try | apply MV.try_nx | apply MV.try_rt | apply MV.try_ex | apply MV.end_rt | apply MV.end_nx | apply MV.st_guard | apply MV.fld_ok | apply MV.isv_ok | apply MV.n_pw | apply MV.n_seq | apply MV.n_then | apply MV.n_then_rt | apply MV.n_then_ro | apply MV.n_set | apply MV.n_setO | apply MV.n_eq | apply MV.n_post | apply MV.n_ifS | apply MV.n_callW | apply MV.n_dk | apply MV.n_cons | apply MV.n_nil | apply MV.n_bin | apply MV.n_asB | apply MV.n_isB | apply MV.n_isI | apply MV.n_ret | apply MV.n_retL | apply MV.n_retO | apply MV.n_app | apply MV.n_put | apply MV.n_asg | apply MV.n_tup | apply MV.n_lst | apply MV.n_l | apply MV.n_fn | apply MV.n_callG0 | apply MV.n_callG | apply MV.n_callWO | apply MV.n_tru | apply MV.n_not | apply MV.n_and | apply MV.n_or | apply MV.n_if | apply MV.n_andV | apply MV.n_orV | apply MV.n_notV | apply MV.n_tt | apply MV.n_ff | apply MV.n_noPart | apply MV.n_part | apply MV.n_cut | apply MV.n_drop | apply MV.n_frz | apply MV.n_end | apply MV.n_endo | apply MV.n_endO | apply MV.n_for | apply MV.n_lc | apply MV.n_yes | apply MV.n_seqOf | apply MV.n_l2 | apply MV.n_un | apply MV.post_ro | apply MV.n_len | apply MV.n_len' | apply MV.n_ex | apply MV.st_retL | apply MV.ex_callO0 | apply MV.ex_callO | apply MV.ex_star | apply MV.ex_listO | apply MV.ex_rep | apply MV.st_aug | apply MV.st_retN | apply MV.ex_chain | apply MV.bind_ok | apply MV.op_inL | apply MV.op_notinL | apply MV.op_isNN | apply MV.op_isIN | apply MV.op_isTN | apply MV.op_isLN | apply MV.op_ntNN | apply MV.op_ntIN | apply MV.op_ntTN | apply MV.op_ntLN | apply MV.some_rfl) | (refine MV.ite_t (by assumption) ?_) | (refine MV.ite_f (by assumption) ?_) | (exact (by assumption : _ = true)) | (refine MV.ite_dt (by omega) ?_) | (refine MV.ite_df (by omega) ?_) | (refine MV.ite_et (by omega) ?_) | (refine MV.ite_ef (by omega) ?_) | (refine MV.n_dt (by omega) ?_) | (refine MV.n_df (by omega) ?_) | (refine MV.n_et (by omega) ?_) | (refine MV.n_ef (by omega) ?_)))
  all_goals first | rfl | (simp only [List.length_map]; omega) | exact mulOk_r (by decide) | exact mulOk_l (by decide) | exact mulOk_l (natAbs_fmod (by decide) (by decide)) | exact divOk_n (b := 64) (by omega) (by omega) (by decide) | decide | skip
theorem dk_1c {a b c e bd : Int} {ns : List Int} (ha : a ≠ 0) : dk_m1 [.own (dkL a b c e ns), .dat (.int bd), .un, .un] = some (.nx [.own (dkL a b c e ns), .dat (.int bd), .un, .un]) := by
  unfold dk_m1 dkL
  apply val_eq
  (repeat (first | (with_reducible apply pt_0) | (with_reducible apply pt_1) | (with_reducible apply pt_4) | (with_reducible apply at_1 <;> first | omega | skip) | (with_reducible apply at_2 <;> first | omega | skip) | (with_reducible apply at_3 <;> first | omega | skip) | (with_reducible apply at_4 <;> first | omega | skip) | (with_reducible first | apply MV.seq_ok | apply MV.then_nx | apply MV.then_rt | apply MV.ar_cons | apply MV.ar_nil | apply MV.ex_c | apply MV.var_0 | apply MV.var_s | apply MV.own_0 | apply MV.own_0d | apply MV.own_s | apply MV.ex_2 | apply MV.ex_call0 | apply MV.ex_fn | apply MV.st_set | apply MV.set_0 | apply MV.set_s | apply MV.st_post | apply MV.post_nx | apply MV.post_rt | apply MV.wipe_0 | apply MV.wipe_s | apply MV.op_add' | apply MV.op_sub' | (apply MV.dMul_ok; rotate_left) | (apply MV.dDiv_ok; rotate_left) | (apply MV.dMod_ok; rotate_left) | apply MV.op_ixL | apply MV.op_ixT | apply MV.at_0 | apply MV.fn_int | apply MV.fn_abs | apply MV.fn_len | apply MV.fn_lenT | apply MV.fn_tupL | apply MV.fn_tupT | apply MV.fn_lstL | apply MV.fn_lstT | apply MV.ex_tup | apply MV.ex_lst | apply MV.ex_l | apply MV.len_0 | apply MV.len_s | apply MV.st_ret | apply MV.retO_0 | apply MV.retO_0d | apply MV.retO_s | apply MV.st_if | apply MV.ite_tt | apply MV.ite_ff | apply MV.bo_as | apply MV.bo_tru | apply MV.bo_and | apply MV.bo_or | apply MV.bo_not | apply MV.not_t | apply MV.not_f | apply MV.ex_and | apply MV.ex_or | apply MV.ex_not | apply MV.ex_if | apply MV.st_skip | apply MV.st_drop | apply MV.st_brk | apply MV.st_cnt | apply MV.st_setO | apply MV.app_at | apply MV.get_0 | apply MV.get_s | apply MV.st_par | apply MV.st_asg | apply MV.tg_set | apply MV.tg_tup | apply MV.tg_cons | apply MV.tg_nil | apply MV.st_for | apply MV.st_frz | apply MV.put_at | apply MV.src_seq | apply MV.src_2 | apply MV.seq_l | apply MV.seq_t | apply MV.zip_ok | apply MV.enum_ok | apply MV.ex_1 | apply MV.ex_call | apply MV.op_neg' | apply MV.op_lt' | apply MV.op_le' | apply MV.op_gt' | apply MV.op_ge' | apply MV.op_p18 | apply MV.op_p9 | apply MV.op_p30 | apply MV.op_eqI | apply MV.op_neI | apply MV.op_eqSS | apply MV.op_neSS | apply MV.op_eqS | apply MV.op_neS | apply MV.op_eqB | apply MV.op_neB | apply MV.fn_gcd | apply MV.fn_intB | apply MV.post_bk | apply MV.post_ct | apply MV.then_bk | apply MV.then_ct | apply MV.cut_ok | apply MV.part_ok | apply MV.part_no | apply MV.then_ex | apply MV.post_ex | apply MV.st_raise | apply MV.mk_err | apply MV.err_int | apply MV.err_non | apply MV.st_ifX | apply MV.ifX_ok | apply MV.ifX_er | apply MV.ex_2X | apply MV.m2R_er | apply MV.m2R_ok | apply MV.ex_callX | apply MV.st_try | apply MV.try_nx | apply MV.try_rt | apply MV.try_ex | apply MV.end_rt | apply MV.end_nx | apply MV.st_guard | apply MV.fld_ok | apply MV.isv_ok | apply MV.n_pw | apply MV.n_seq | apply MV.n_then | apply MV.n_then_rt | apply MV.n_then_ro | apply MV.n_set | apply MV.n_setO | apply MV.n_eq | apply MV.n_post | apply MV.n_ifS | apply MV.n_callW | apply MV.n_dk | apply MV.n_cons | apply MV.n_nil | apply MV.n_bin | apply MV.n_asB | apply MV.n_isB | apply MV.n_isI | apply MV.n_ret | apply MV.n_retL | apply MV.n_retO | apply MV.n_app | apply MV.n_put | apply MV.n_asg | apply MV.n_tup | apply MV.n_lst | apply MV.n_l | apply MV.n_fn | apply MV.n_callG0 | apply MV.n_callG | apply MV.n_callWO | apply MV.n_tru | apply MV.n_not | apply MV.n_and | apply MV.n_or | apply MV.n_if | apply MV.n_andV | apply MV.n_orV | apply MV.n_notV | apply MV.n_tt | apply MV.n_ff | apply MV.n_noPart | apply MV.n_part | apply MV.n_cut | apply MV.n_drop | apply MV.n_frz | apply MV.n_end | apply MV.n_endo | apply MV.n_endO | apply MV.n_for | apply MV.n_lc | apply MV.n_yes | apply MV.n_seqOf | apply MV.n_l2 | apply MV.n_un | apply MV.post_ro | apply MV.n_len | apply MV.n_len' | apply MV.n_ex | apply MV.st_retL | apply MV.ex_callO0 | apply MV.ex_callO | apply MV.ex_star | apply MV.ex_listO | apply MV.ex_rep | apply MV.st_aug | apply MV.st_retN | apply MV.ex_chain | apply MV.bind_ok | apply MV.op_inL | apply MV.op_notinL | apply MV.op_isNN | apply MV.op_isIN | apply MV.op_isTN | apply MV.op_isLN | apply MV.op_ntNN | apply MV.op_ntIN | apply MV.op_ntTN | apply MV.op_ntLN | apply MV.some_rfl) | (refine MV.ite_t (by assumption) ?_) | (refine MV.ite_f (by assumption) ?_) | (exact (by assumption : _ = true)) | (refine MV.ite_dt (by omega) ?_) | (refine MV.ite_df (by omega) ?_) | (refine MV.ite_et (by omega) ?_) | (refine MV.ite_ef (by omega) ?_) | (refine MV.n_dt (by omega) ?_) | (refine MV.n_df (by omega) ?_) | (refine MV.n_et (by omega) ?_) | (refine MV.n_ef (by omega) ?_)))
  all_goals first | rfl | skip
theorem draw_tail {a b c e bd : Int} {ns : List Int} (h0 : 0 < bd) (h1 : bd < 2 ^ 64) (h : ∃ a' b' c' e' : Int, 0 ≤ a' ∧ 0 ≤ b' ∧ 0 ≤ e' ∧ dk_m1 [.own (dkL a b c e ns), .dat (.int bd), .un, .un] = some (.nx [.own (dkL a' b' c' e' ns), .dat (.int bd), .un, .un])) : ∃ ρ1 ρ2 ρ3 v a' b' c' e', dk_m1 [.own (dkL a b c e ns), .dat (.int bd), .un, .un] = some (.nx ρ1) ∧ dk_m2 ρ1 = some (.nx ρ2) ∧ dk_m3 ρ2 = some (.nx ρ3) ∧
      ρ3[0]? = some (.own (dkL a' b' c' e' ns)) ∧ 0 ≤ a' ∧ 0 ≤ b' ∧ 0 ≤ e' ∧ ρ3[3]? = some (.dat (.int v)) ∧ 0 ≤ v ∧ v < bd := by
  obtain ⟨a', b', c', e', h1', h2', h3', h⟩ := h
  exact ⟨_, _, _, a'.fmod bd, a'.fdiv bd, b', c', e', h, dk_2 h0, dk_3 h0 h1, rfl, fdiv_nn h1' h0, h2', h3', rfl, (fmod_lt h0).1, (fmod_lt h0).2⟩
theorem draw_hm (a b c e bd : Int) (ns : List Int) (ha : 0 ≤ a) (hb : 0 ≤ b) (he : 0 ≤ e) (h0 : 0 < bd) (h1 : bd < 2 ^ 64) : ∃ ρ1 ρ2 ρ3 v a' b' c' e', dk_m1 [.own (dkL a b c e ns), .dat (.int bd), .un, .un] = some (.nx ρ1) ∧ dk_m2 ρ1 = some (.nx ρ2) ∧ dk_m3 ρ2 = some (.nx ρ3) ∧
      ρ3[0]? = some (.own (dkL a' b' c' e' ns)) ∧ 0 ≤ a' ∧ 0 ≤ b' ∧ 0 ≤ e' ∧ ρ3[3]? = some (.dat (.int v)) ∧ 0 ≤ v ∧ v < bd := by
  refine draw_tail h0 h1 ?_
  by_cases ha0 : a = 0
  · subst ha0
    by_cases hl : b < ns.length
    · obtain ⟨a', k1, k2⟩ := dk_1a (c := c) (e := e) (bd := bd) hb hl
      exact ⟨_, _, _, _, k1, by omega, he, k2⟩
    · obtain ⟨a', k1, k2⟩ := dk_1b (c := c) (e := e) (bd := bd) hb hl he
      exact ⟨_, _, _, _, k1, hb, by omega, k2⟩
  · exact ⟨_, _, _, _, ha, hb, he, dk_1c ha0⟩
/-- the deck's def, as it is printed -/
def dk_lp : Rho → Option Res := (mPost [2] (mSet 1 (m2 dMod (mFn fInt (mCons (m2 dAdd (m2 dMul (mVar 1) (mC (.int 48271))) (mVar 2)) mNil)) (mC (.int 2147483647)))))
def dk_b : Rho → Option Res := (mSeq (mSet 1 (mC (.int 7)))
    (mSeq (mPost [2] (mFor (mSeqOf (mVar 0)) (gSet 2) dk_lp))
    (mRetL (mLst (mCons (mC (.int 0)) (mCons (mC (.int 0)) (mCons (mVar 1) (mCons (mFn fList (mCons (mVar 0) mNil)) (mCons (mC (.int 0)) mNil)))))))))
theorem st_retL {ρ : Rho} {m : Rho → Option (List D)} {ds : List D} (h : m ρ = some ds) : mRetL m ρ = some (.ro ds) := by
  unfold mRetL
  rw [h]
  rfl
theorem deck_at (ns : List Int) (hn : ns.length < 100000) : ∃ c, runDefO 1 2 dk_b [.list (ns.map .int)] = some (dkL 0 0 c 0 ns) := by
  have lp : ∀ (xs : List Int) (c : Int), ∃ c', loopD (gSet 2) dk_lp (xs.map PyData.int) [.dat (.list (ns.map .int)), .dat (.int c), .un] = some (.nx [.dat (.list (ns.map .int)), .dat (.int c'), .un]) := by
    intro xs
    induction xs with
    | nil => exact fun c => ⟨c, rfl⟩
    | cons x xs ih =>
      intro c
      obtain ⟨c', h⟩ := ih ((c * 48271 + x).fmod 2147483647)
      refine ⟨c', loop_cons (ρ1 := [.dat (.list (ns.map .int)), .dat (.int c), .dat (.int x)]) rfl ?_ h⟩
      unfold dk_lp
      apply val_eq
      (repeat (first | (with_reducible first | apply MV.seq_ok | apply MV.then_nx | apply MV.then_rt | apply MV.ar_cons | apply MV.ar_nil | apply MV.ex_c | apply MV.var_0 | apply MV.var_s | apply MV.own_0 | apply MV.own_0d | apply MV.own_s | apply MV.ex_2 | apply MV.ex_call0 | apply MV.ex_fn | apply MV.st_set | apply MV.set_0 | apply MV.set_s | apply MV.st_post | apply MV.post_nx | apply MV.post_rt | apply MV.wipe_0 | apply MV.wipe_s | apply MV.op_add' | apply MV.op_sub' | (apply MV.dMul_ok; rotate_left) | (apply MV.dDiv_ok; rotate_left) | (apply MV.dMod_ok; rotate_left) | apply MV.op_ixL | apply MV.op_ixT | apply MV.at_0 | apply MV.fn_int | apply MV.fn_abs | apply MV.fn_len | apply MV.fn_lenT | apply MV.fn_tupL | apply MV.fn_tupT | apply MV.fn_lstL | apply MV.fn_lstT | apply MV.ex_tup | apply MV.ex_lst | apply MV.ex_l | apply MV.len_0 | apply MV.len_s | apply MV.st_ret | apply MV.retO_0 | apply MV.retO_0d | apply MV.retO_s | apply MV.st_if | apply MV.ite_tt | apply MV.ite_ff | apply MV.bo_as | apply MV.bo_tru | apply MV.bo_and | apply MV.bo_or | apply MV.bo_not | apply MV.not_t | apply MV.not_f | apply MV.ex_and | apply MV.ex_or | apply MV.ex_not | apply MV.ex_if | apply MV.st_skip | apply MV.st_drop | apply MV.st_brk | apply MV.st_cnt | apply MV.st_setO | apply MV.app_at | apply MV.get_0 | apply MV.get_s | apply MV.st_par | apply MV.st_asg | apply MV.tg_set | apply MV.tg_tup | apply MV.tg_cons | apply MV.tg_nil | apply MV.st_for | apply MV.st_frz | apply MV.put_at | apply MV.src_seq | apply MV.src_2 | apply MV.seq_l | apply MV.seq_t | apply MV.zip_ok | apply MV.enum_ok | apply MV.ex_1 | apply MV.ex_call | apply MV.op_neg' | apply MV.op_lt' | apply MV.op_le' | apply MV.op_gt' | apply MV.op_ge' | apply MV.op_p18 | apply MV.op_p9 | apply MV.op_p30 | apply MV.op_eqI | apply MV.op_neI | apply MV.op_eqSS | apply MV.op_neSS | apply MV.op_eqS | apply MV.op_neS | apply MV.op_eqB | apply MV.op_neB | apply MV.fn_gcd | apply MV.fn_intB | apply MV.post_bk | apply MV.post_ct | apply MV.then_bk | apply MV.then_ct | apply MV.cut_ok | apply MV.part_ok | apply MV.part_no | apply MV.then_ex | apply MV.post_ex | apply MV.st_raise | apply MV.mk_err | apply MV.err_int | apply MV.err_non | apply MV.st_ifX | apply MV.ifX_ok | apply MV.ifX_er | apply MV.ex_2X | apply MV.m2R_er | apply MV.m2R_ok | apply MV.ex_callX | apply MV.st_try | apply MV.try_nx | apply MV.try_rt | apply MV.try_ex | apply MV.end_rt | apply MV.end_nx | apply MV.st_guard | apply MV.fld_ok | apply MV.isv_ok | apply MV.n_pw | apply MV.n_seq | apply MV.n_then | apply MV.n_then_rt | apply MV.n_then_ro | apply MV.n_set | apply MV.n_setO | apply MV.n_eq | apply MV.n_post | apply MV.n_ifS | apply MV.n_callW | apply MV.n_dk | apply MV.n_cons | apply MV.n_nil | apply MV.n_bin | apply MV.n_asB | apply MV.n_isB | apply MV.n_isI | apply MV.n_ret | apply MV.n_retL | apply MV.n_retO | apply MV.n_app | apply MV.n_put | apply MV.n_asg | apply MV.n_tup | apply MV.n_lst | apply MV.n_l | apply MV.n_fn | apply MV.n_callG0 | apply MV.n_callG | apply MV.n_callWO | apply MV.n_tru | apply MV.n_not | apply MV.n_and | apply MV.n_or | apply MV.n_if | apply MV.n_andV | apply MV.n_orV | apply MV.n_notV | apply MV.n_tt | apply MV.n_ff | apply MV.n_noPart | apply MV.n_part | apply MV.n_cut | apply MV.n_drop | apply MV.n_frz | apply MV.n_end | apply MV.n_endo | apply MV.n_endO | apply MV.n_for | apply MV.n_lc | apply MV.n_yes | apply MV.n_seqOf | apply MV.n_l2 | apply MV.n_un | apply MV.post_ro | apply MV.n_len | apply MV.n_len' | apply MV.n_ex | apply MV.st_retL | apply MV.ex_callO0 | apply MV.ex_callO | apply MV.ex_star | apply MV.ex_listO | apply MV.ex_rep | apply MV.st_aug | apply MV.st_retN | apply MV.ex_chain | apply MV.bind_ok | apply MV.op_inL | apply MV.op_notinL | apply MV.op_isNN | apply MV.op_isIN | apply MV.op_isTN | apply MV.op_isLN | apply MV.op_ntNN | apply MV.op_ntIN | apply MV.op_ntTN | apply MV.op_ntLN | apply MV.some_rfl) | (refine MV.ite_t (by assumption) ?_) | (refine MV.ite_f (by assumption) ?_) | (exact (by assumption : _ = true)) | (refine MV.ite_dt (by omega) ?_) | (refine MV.ite_df (by omega) ?_) | (refine MV.ite_et (by omega) ?_) | (refine MV.ite_ef (by omega) ?_) | (refine MV.n_dt (by omega) ?_) | (refine MV.n_df (by omega) ?_) | (refine MV.n_et (by omega) ?_) | (refine MV.n_ef (by omega) ?_)))
      all_goals first | rfl | exact mulOk_r (by decide) | decide | skip
  obtain ⟨c', h⟩ := lp ns 7
  refine ⟨c', ?_⟩
  unfold runDefO
  rw [if_pos (show [PyData.list (ns.map PyData.int)].length = 1 from rfl)]
  have hb : dk_b ([PyData.list (ns.map .int)].map Cell.dat ++ List.replicate 2 Cell.un) = some (.ro (dkL 0 0 c' 0 ns)) := by
    unfold dk_b
    simp only [List.map_cons, List.map_nil, List.replicate, List.cons_append, List.nil_append]
    apply val_eq
    (repeat (first | (with_reducible apply h <;> first | omega | skip) | (with_reducible apply st_retL) | (with_reducible first | apply MV.seq_ok | apply MV.then_nx | apply MV.then_rt | apply MV.ar_cons | apply MV.ar_nil | apply MV.ex_c | apply MV.var_0 | apply MV.var_s | apply MV.own_0 | apply MV.own_0d | apply MV.own_s | apply MV.ex_2 | apply MV.ex_call0 | apply MV.ex_fn | apply MV.st_set | apply MV.set_0 | apply MV.set_s | apply MV.st_post | apply MV.post_nx | apply MV.post_rt | apply MV.wipe_0 | apply MV.wipe_s | apply MV.op_add' | apply MV.op_sub' | (apply MV.dMul_ok; rotate_left) | (apply MV.dDiv_ok; rotate_left) | (apply MV.dMod_ok; rotate_left) | apply MV.op_ixL | apply MV.op_ixT | apply MV.at_0 | apply MV.fn_int | apply MV.fn_abs | apply MV.fn_len | apply MV.fn_lenT | apply MV.fn_tupL | apply MV.fn_tupT | apply MV.fn_lstL | apply MV.fn_lstT | apply MV.ex_tup | apply MV.ex_lst | apply MV.ex_l | apply MV.len_0 | apply MV.len_s | apply MV.st_ret | apply MV.retO_0 | apply MV.retO_0d | apply MV.retO_s | apply MV.st_if | apply MV.ite_tt | apply MV.ite_ff | apply MV.bo_as | apply MV.bo_tru | apply MV.bo_and | apply MV.bo_or | apply MV.bo_not | apply MV.not_t | apply MV.not_f | apply MV.ex_and | apply MV.ex_or | apply MV.ex_not | apply MV.ex_if | apply MV.st_skip | apply MV.st_drop | apply MV.st_brk | apply MV.st_cnt | apply MV.st_setO | apply MV.app_at | apply MV.get_0 | apply MV.get_s | apply MV.st_par | apply MV.st_asg | apply MV.tg_set | apply MV.tg_tup | apply MV.tg_cons | apply MV.tg_nil | apply MV.st_for | apply MV.st_frz | apply MV.put_at | apply MV.src_seq | apply MV.src_2 | apply MV.seq_l | apply MV.seq_t | apply MV.zip_ok | apply MV.enum_ok | apply MV.ex_1 | apply MV.ex_call | apply MV.op_neg' | apply MV.op_lt' | apply MV.op_le' | apply MV.op_gt' | apply MV.op_ge' | apply MV.op_p18 | apply MV.op_p9 | apply MV.op_p30 | apply MV.op_eqI | apply MV.op_neI | apply MV.op_eqSS | apply MV.op_neSS | apply MV.op_eqS | apply MV.op_neS | apply MV.op_eqB | apply MV.op_neB | apply MV.fn_gcd | apply MV.fn_intB | apply MV.post_bk | apply MV.post_ct | apply MV.then_bk | apply MV.then_ct | apply MV.cut_ok | apply MV.part_ok | apply MV.part_no | apply MV.then_ex | apply MV.post_ex | apply MV.st_raise | apply MV.mk_err | apply MV.err_int | apply MV.err_non | apply MV.st_ifX | apply MV.ifX_ok | apply MV.ifX_er | apply MV.ex_2X | apply MV.m2R_er | apply MV.m2R_ok | apply MV.ex_callX | apply MV.st_try | apply MV.try_nx | apply MV.try_rt | apply MV.try_ex | apply MV.end_rt | apply MV.end_nx | apply MV.st_guard | apply MV.fld_ok | apply MV.isv_ok | apply MV.n_pw | apply MV.n_seq | apply MV.n_then | apply MV.n_then_rt | apply MV.n_then_ro | apply MV.n_set | apply MV.n_setO | apply MV.n_eq | apply MV.n_post | apply MV.n_ifS | apply MV.n_callW | apply MV.n_dk | apply MV.n_cons | apply MV.n_nil | apply MV.n_bin | apply MV.n_asB | apply MV.n_isB | apply MV.n_isI | apply MV.n_ret | apply MV.n_retL | apply MV.n_retO | apply MV.n_app | apply MV.n_put | apply MV.n_asg | apply MV.n_tup | apply MV.n_lst | apply MV.n_l | apply MV.n_fn | apply MV.n_callG0 | apply MV.n_callG | apply MV.n_callWO | apply MV.n_tru | apply MV.n_not | apply MV.n_and | apply MV.n_or | apply MV.n_if | apply MV.n_andV | apply MV.n_orV | apply MV.n_notV | apply MV.n_tt | apply MV.n_ff | apply MV.n_noPart | apply MV.n_part | apply MV.n_cut | apply MV.n_drop | apply MV.n_frz | apply MV.n_end | apply MV.n_endo | apply MV.n_endO | apply MV.n_for | apply MV.n_lc | apply MV.n_yes | apply MV.n_seqOf | apply MV.n_l2 | apply MV.n_un | apply MV.post_ro | apply MV.n_len | apply MV.n_len' | apply MV.n_ex | apply MV.st_retL | apply MV.ex_callO0 | apply MV.ex_callO | apply MV.ex_star | apply MV.ex_listO | apply MV.ex_rep | apply MV.st_aug | apply MV.st_retN | apply MV.ex_chain | apply MV.bind_ok | apply MV.op_inL | apply MV.op_notinL | apply MV.op_isNN | apply MV.op_isIN | apply MV.op_isTN | apply MV.op_isLN | apply MV.op_ntNN | apply MV.op_ntIN | apply MV.op_ntTN | apply MV.op_ntLN | apply MV.some_rfl) | (refine MV.ite_t (by assumption) ?_) | (refine MV.ite_f (by assumption) ?_) | (exact (by assumption : _ = true)) | (refine MV.ite_dt (by omega) ?_) | (refine MV.ite_df (by omega) ?_) | (refine MV.ite_et (by omega) ?_) | (refine MV.ite_ef (by omega) ?_) | (refine MV.n_dt (by omega) ?_) | (refine MV.n_df (by omega) ?_) | (refine MV.n_et (by omega) ?_) | (refine MV.n_ef (by omega) ?_)))
    all_goals first | rfl | decide | skip
  rw [hb]
  rfl
end MV

set_option maxRecDepth 100000
set_option maxHeartbeats 4000000
/-! how what is drawn is worked out, one rule a construct -/
namespace MV
open PySem PySem.Spec PyProof.Rows L2
section
variable {α β : Type} {ρ ρ1 ρ' : Rho} {m : Rho → Option α} {A : α → Prop} {AD : D → Prop} {AL : List D → Prop} {AB : Bool → Prop} {AR : Res → Prop} {AO : Option Int → Prop} {w wa wb wk : Wp D} {wr wl : Wp (List D)} {wt wu : Wp Bool} {ws ws2 : Wp Res} {wo wo2 : Wp (Option Int)} {d d' x y : D} {ds es : List D} {i j : Nat} {δ : Addr} {b t : Bool} {mg : D → Rho → Option Rho} {vs : List Nat} {P Q : Prop} {r r' : Res}
theorem n_pw {a : α} (h : m ρ = some a) (h2 : A a) : pW m ρ A := ⟨a, h, h2⟩
theorem n_ex {x : Option α} {a : α} {P : α → Prop} (h : x = some a) (h2 : P a) : ∃ a, x = some a ∧ P a := ⟨a, h, h2⟩
theorem n_eq {x a : α} {P : α → Prop} (h : x = a) (h2 : P a) : ∃ a, x = a ∧ P a := ⟨a, h, h2⟩
theorem n_isB {P : Bool → Prop} (h : P b) : ∃ c, PyData.bool b = PyData.bool c ∧ P c := ⟨b, rfl, h⟩
theorem n_isI {z : Int} {P : Int → Prop} (h : P z) : ∃ c, PyData.int z = PyData.int c ∧ P c := ⟨z, rfl, h⟩
theorem n_len (h : ds.length ≤ 100000) (h2 : P) : ds.length ≤ 100000 ∧ P := ⟨h, h2⟩
theorem n_len' (h : ds.length < 100000) (h2 : P) : ds.length < 100000 ∧ P := ⟨h, h2⟩
theorem n_bin {g : D → D → Option D} (h : wa ρ fun x => wb ρ fun y => ∃ d, g x y = some d ∧ AD d) : wBin g wa wb ρ AD := h
theorem n_un {g : D → Option D} (h : wa ρ fun x => ∃ d, g x = some d ∧ AD d) : wUn g wa ρ AD := h
theorem n_nil (h : AL []) : wNil ρ AL := h
theorem n_cons (h : wa ρ fun x => wr ρ fun xs => AL (x :: xs)) : wCons wa wr ρ AL := h
theorem n_tup (h : wr ρ fun ds => ds.length ≤ 100000 ∧ AD (.tuple ds)) : wTup wr ρ AD := h
theorem n_lst (h : wr ρ fun ds => ds.length ≤ 100000 ∧ AL ds) : wLst wr ρ AL := h
theorem n_l (h : wr ρ fun ds => AD (.list ds)) : wL wr ρ AD := h
theorem n_fn {g : List D → Option D} (h : wr ρ fun ds => ∃ d, g ds = some d ∧ AD d) : wFn g wr ρ AD := h
theorem n_callG {mf : List D → Option D} {dds : List D} (h : wr ρ fun ds => ∃ d, mf (ds ++ dds) = some d ∧ AD d) : wCallG mf dds wr ρ AD := h
theorem n_callG0 {mf : List D → Option D} (h : wr ρ fun ds => ∃ d, mf ds = some d ∧ AD d) : wCallG mf [] wr ρ AD := by
  have e : (fun ds => ∃ d, mf (ds ++ []) = some d ∧ AD d) = fun ds => ∃ d, mf ds = some d ∧ AD d := by
    funext ds
    rw [List.append_nil]
  unfold wCallG
  rw [e]
  exact h
theorem n_callW {wf : Addr → List D → (D → Prop) → Prop} {dds : List D} (h : wr ρ fun ds => wf δ (ds ++ dds) AD) : wCallW wf δ dds wr ρ AD := h
theorem n_callWO {wf : Addr → List D → (List D → Prop) → Prop} {dds : List D} (h : wr ρ fun ds => wf δ (ds ++ dds) AL) : wCallWO wf δ dds wr ρ AL := h
theorem n_dk (h : ρ[i]? = some (.rf δ)) (h2 : wr ρ AL) : wDk i δ wr ρ AL := ⟨h, h2⟩
theorem n_asB (h : w ρ fun d => ∃ b, d = .bool b ∧ AB b) : wAsB w ρ AB := h
theorem n_tru (h : w ρ fun d => ∃ b, dTru d = some b ∧ AB b) : wTru w ρ AB := h
theorem n_not (h : wt ρ fun b => AB (!b)) : wNot wt ρ AB := h
theorem n_and (h : wt ρ fun a => if a = true then wu ρ AB else AB false) : wAnd wt wu ρ AB := h
theorem n_or (h : wt ρ fun a => if a = true then AB true else wu ρ AB) : wOr wt wu ρ AB := h
theorem n_if (h : wt ρ fun c => if c = true then wa ρ AD else wb ρ AD) : wIf wt wa wb ρ AD := h
theorem n_andV (h : wa ρ fun d => ∃ b, d = .bool b ∧ (if b = true then wb ρ AD else AD (.bool false))) : wAndV wa wb ρ AD := h
theorem n_orV (h : wa ρ fun d => ∃ b, d = .bool b ∧ (if b = true then AD (.bool true) else wb ρ AD)) : wOrV wa wb ρ AD := h
theorem n_notV (h : wa ρ fun d => ∃ b, d = .bool b ∧ AD (.bool !b)) : wNotV wa ρ AD := h
theorem n_tt {p q : Prop} {inst : Decidable (true = true)} (h : p) : @ite Prop (true = true) inst p q := by rw [if_pos rfl]; exact h
theorem n_ff {p q : Prop} {inst : Decidable (false = true)} (h : q) : @ite Prop (false = true) inst p q := by rw [if_neg Bool.false_ne_true]; exact h
theorem n_dt {p q R : Prop} [Decidable R] (h0 : R) (h : p) : if decide R = true then p else q := by rw [if_pos (decide_eq_true h0)]; exact h
theorem n_df {p q R : Prop} [Decidable R] (h0 : ¬ R) (h : q) : if decide R = true then p else q := by rw [if_neg (by simpa using h0)]; exact h
theorem n_ds {p q R : Prop} [Decidable R] (h : R → p) (h2 : ¬ R → q) : if decide R = true then p else q := by
  by_cases hr : R
  · exact n_dt hr (h hr)
  · exact n_df hr (h2 hr)
theorem n_et {p q : Prop} {k l : Int} (h0 : k = l) (h : p) : if (k == l) = true then p else q := by rw [if_pos (by simpa using h0)]; exact h
theorem n_ef {p q : Prop} {k l : Int} (h0 : k ≠ l) (h : q) : if (k == l) = true then p else q := by rw [if_neg (by simpa using h0)]; exact h
theorem n_es {p q : Prop} {k l : Int} (h : k = l → p) (h2 : k ≠ l → q) : if (k == l) = true then p else q := by
  by_cases hr : k = l
  · exact n_et hr (h hr)
  · exact n_ef hr (h2 hr)
theorem n_bs {p q : Prop} (h : b = true → p) (h2 : b = false → q) : if b = true then p else q := by
  cases b
  · exact n_ff (h2 rfl)
  · exact n_tt (h rfl)
theorem n_noPart (h : AO none) : wNoPart ρ AO := h
theorem n_part (h : w ρ fun d => ∃ i, d = .int i ∧ AO (some i)) : wPart w ρ AO := h
theorem n_cut (h : w ρ fun d => wo ρ fun lo => wo2 ρ fun hi => ∃ d', dCut lo hi d = some d' ∧ AD d') : wCut w wo wo2 ρ AD := h
/-! statements -/
theorem n_set (h : w ρ fun d => ∃ ρ', ρ.set i (.dat d) = ρ' ∧ AR (.nx ρ')) : wSet i w ρ AR := by
  have e : (fun d => AR (.nx (ρ.set i (.dat d)))) = fun d => ∃ ρ', ρ.set i (.dat d) = ρ' ∧ AR (.nx ρ') := by
    funext d
    exact propext ⟨fun z => ⟨_, rfl, z⟩, fun ⟨_, e, z⟩ => e ▸ z⟩
  unfold wSet
  rw [e]
  exact h
theorem n_setO (h : wl ρ fun ds => ∃ ρ', ρ.set i (.own ds) = ρ' ∧ AR (.nx ρ')) : wSetO i wl ρ AR := by
  have e : (fun d => AR (.nx (ρ.set i (.own d)))) = fun d => ∃ ρ', ρ.set i (.own d) = ρ' ∧ AR (.nx ρ') := by
    funext d
    exact propext ⟨fun z => ⟨_, rfl, z⟩, fun ⟨_, e, z⟩ => e ▸ z⟩
  unfold wSetO
  rw [e]
  exact h
theorem n_ret (h : w ρ fun d => AR (.rt d)) : wRet w ρ AR := h
theorem n_retL (h : wl ρ fun ds => AR (.ro ds)) : wRetL wl ρ AR := h
theorem n_retO (h : ρ[i]? = some (.own ds)) (h2 : AR (.ro ds)) : wRetO i ρ AR := ⟨ds, h, h2⟩
theorem n_drop (h : w ρ fun _ => AR (.nx ρ)) : wDrop w ρ AR := h
theorem n_app (h0 : ρ[i]? = some (.own ds)) (h : w ρ fun d => ds.length < 100000 ∧ ∃ ρ', ρ.set i (.own (ds ++ [d])) = ρ' ∧ AR (.nx ρ')) : wApp i w ρ AR := by
  refine ⟨ds, h0, ?_⟩
  have e : (fun d => ds.length < 100000 ∧ AR (.nx (ρ.set i (.own (ds ++ [d]))))) = fun d => ds.length < 100000 ∧ ∃ ρ', ρ.set i (.own (ds ++ [d])) = ρ' ∧ AR (.nx ρ') := by
    funext d
    exact propext ⟨fun z => ⟨z.1, _, rfl, z.2⟩, fun ⟨z0, _, e, z⟩ => ⟨z0, e ▸ z⟩⟩
  rw [e]
  exact h
theorem n_put (h0 : ρ[i]? = some (.own ds)) (h : w ρ fun d => wk ρ fun k => ∃ z j, k = .int z ∧ ixN ds.length z = some j ∧ ∃ ρ', ρ.set i (.own (ds.set j d)) = ρ' ∧ AR (.nx ρ')) : wPut i wk w ρ AR := by
  refine ⟨ds, h0, ?_⟩
  have e : (fun d => wk ρ fun k => ∃ z j, k = .int z ∧ ixN ds.length z = some j ∧ AR (.nx (ρ.set i (.own (ds.set j d))))) = fun d => wk ρ fun k => ∃ z j, k = .int z ∧ ixN ds.length z = some j ∧ ∃ ρ', ρ.set i (.own (ds.set j d)) = ρ' ∧ AR (.nx ρ') := by
    funext d
    congr 1
    funext k
    exact propext ⟨fun ⟨z, j, a, b, c⟩ => ⟨z, j, a, b, _, rfl, c⟩, fun ⟨z, j, a, b, _, e, c⟩ => ⟨z, j, a, b, e ▸ c⟩⟩
  rw [e]
  exact h
theorem n_at {n : Nat} {P : Nat → Prop} {k : Nat} (hk : k < n) (h : P k) : ∃ z j, PyData.int (k : Int) = PyData.int z ∧ ixN n z = some j ∧ P j := by
  refine ⟨(k : Int), k, rfl, ?_, h⟩
  unfold ixN
  rw [if_pos (by omega), if_pos (by omega)]
  simp
theorem n_asg (h : w ρ fun d => ∃ ρ1, mg d ρ = some ρ1 ∧ AR (.nx ρ1)) : wAsg mg w ρ AR := h
theorem n_seq (h : ws ρ (thenW ws2 AR)) : wSeq ws ws2 ρ AR := h
theorem n_then (h : ws ρ AR) : thenW ws AR (.nx ρ) := h
theorem n_then_rt (h : AR (.rt d)) : thenW ws AR (.rt d) := h
theorem n_then_ro (h : AR (.ro ds)) : thenW ws AR (.ro ds) := h
theorem n_ifS (h : wt ρ fun t => if t = true then ws ρ AR else ws2 ρ AR) : wIfS wt ws ws2 ρ AR := h
theorem n_post (h : ws ρ fun r => ∃ r', postR vs r = r' ∧ AR r') : wPost vs ws ρ AR := by
  have e : (fun r => AR (postR vs r)) = fun r => ∃ r', postR vs r = r' ∧ AR r' := by
    funext d
    exact propext ⟨fun z => ⟨_, rfl, z⟩, fun ⟨_, e, z⟩ => e ▸ z⟩
  unfold wPost
  rw [e]
  exact h
theorem n_frz (h : ρ[i]? = some (.own ds)) (h1 : ρ.set i (.dat (.list ds)) = ρ') (h2 : ws ρ' AR) : wFrz i ws ρ AR := ⟨ds, h, by rw [h1]; exact h2⟩
theorem n_end (h : AD d) : endW AD (.rt d) := h
theorem n_endo (h : AD (.list ds)) : endW AD (.ro ds) := h
theorem n_endO (h : AL ds) : endWO AL (.ro ds) := h
theorem post_ro : postR vs (.ro ds) = .ro ds := rfl
theorem n_for {src : Wp (List D)} (h : src ρ fun ds => wLoop mg ws ds ρ AR) : wFor src mg ws ρ AR := h
theorem n_lc {src : Wp (List D)} (h : src ρ fun ds => ds.length < 100000 ∧ wComp mg wt w (wipeR ρ vs) ds AL) : wLc src mg wt w vs ρ AL := h
theorem n_yes (h : AB true) : wYes ρ AB := h
theorem n_seqOf (h : w ρ fun d => ∃ ds, seqOf d = some ds ∧ AL ds) : wSeqOf w ρ AL := h
theorem n_l2 {g : List D → Option (List D)} (h : wr ρ fun d => ∃ ds, g d = some ds ∧ AL ds) : wL2 g wr ρ AL := h
theorem n_draw {k : Int} (h0 : 0 < k) (h1 : k < 2 ^ 64) (h : ∀ v : Int, 0 ≤ v → v < k → AD (.int v)) : w_draw δ ([.int k] ++ []) AD := ⟨k, rfl, h0, h1, h⟩
theorem n_run {n k : Nat} {body : Addr → Wp Res} (hl : ds.length + 1 = n) (h : body δ (.rf δ :: (ds.map Cell.dat ++ List.replicate k Cell.un)) (endW AD)) : runW n k body δ ds AD := ⟨hl, h⟩
theorem n_runO {n k : Nat} {body : Addr → Wp Res} (hl : ds.length + 1 = n) (h : body δ (.rf δ :: (ds.map Cell.dat ++ List.replicate k Cell.un)) (endWO AL)) : runWO n k body δ ds AL := ⟨hl, h⟩
end
/-! the rest of what doesn't draw -/
section
variable {ρ ρ' : Rho} {m ma mb mc : Rho → Option D} {mr : Rho → Option (List D)} {d x y z : D} {ds es : List D} {i : Nat} {g g' : D → D → Option D} {k : Bool}
theorem ex_callO0 {mf : List D → Option (List D)} (h : mr ρ = some ds) (h2 : mf ds = some es) : mCallO mf [] mr ρ = some es := by
  unfold mCallO
  rw [h, Option.bind_some, List.append_nil]
  exact h2
theorem ex_callO {mf : List D → Option (List D)} {dds : List D} (h : mr ρ = some ds) (h2 : mf (ds ++ dds) = some es) : mCallO mf dds mr ρ = some es := by
  unfold mCallO
  rw [h]
  exact h2
theorem ex_star (h : m ρ = some d) (h1 : seqOf d = some ds) (h2 : mr ρ = some es) : mStar m mr ρ = some (ds ++ es) := by
  unfold mStar
  rw [h, Option.bind_some, h1, Option.bind_some, h2]
  rfl
theorem ex_listO (h : m ρ = some d) (h1 : seqOf d = some ds) : mListO m ρ = some ds := by
  unfold mListO
  rw [h]
  exact h1
theorem ex_rep {z : Int} (h : mr ρ = some ds) (h1 : m ρ = some (.int z)) (h2 : -(2 ^ 62) ≤ z ∧ z < 2 ^ 62 ∧ ds.length * z.toNat ≤ 100000) : mRep mr m ρ = some (List.replicate z.toNat ds).flatten := by
  unfold mRep
  rw [h, Option.bind_some, h1, Option.bind_some]
  exact if_pos h2
theorem st_aug {p q : Int} (h : mVar i ρ = some (.int p)) (h1 : m ρ = some (.int q)) (h2 : ρ.set i (.dat (.int (p + q))) = ρ') : mAug i m ρ = some (.nx ρ') := by
  unfold mAug mSet m2
  rw [h, Option.bind_some, h1, ← h2]
  rfl
theorem st_retN (h : ρ[i]? = some (.own ds)) : mRetN i ρ = some (.ro ds) := by
  unfold mRetN
  rw [h]
def chainR (g' : D → D → Option D) (mc : Rho → Option D) (y : D) (ρ : Rho) : Bool → Option D
  | true => (mc ρ).bind fun u => g' y u
  | false => some (.bool false)
theorem ex_chain (h : ma ρ = some x) (h1 : mb ρ = some y) (h2 : g x y = some (.bool k)) (h3 : (if k = true then (mc ρ).bind fun u => g' y u else some (.bool false)) = some d) : mChain g g' ma mb mc ρ = some d := by
  unfold mChain
  rw [h, Option.bind_some, h1, Option.bind_some, h2]
  exact h3
theorem bind_ok {α β : Type} {x : Option α} {a : α} {f : α → Option β} {b : β} (h : x = some a) (h2 : f a = some b) : x.bind f = some b := by
  rw [h]
  exact h2
theorem op_inL {p : Int} {b : Bool} (h : inI p ds = some b) : dIn (.int p) (.list ds) = some (.bool b) := by
  show (inI p ds).map PyData.bool = _
  rw [h]
  rfl
theorem op_notinL {p : Int} {b : Bool} (h : inI p ds = some b) : dNotIn (.int p) (.list ds) = some (.bool !b) := by
  unfold dNotIn
  rw [op_inL h]
  rfl
theorem op_isNN : dIs .none .none = some (.bool true) := rfl
theorem op_isIN {p : Int} : dIs (.int p) .none = some (.bool false) := rfl
theorem op_isTN : dIs (.tuple ds) .none = some (.bool false) := rfl
theorem op_isLN : dIs (.list ds) .none = some (.bool false) := rfl
theorem op_ntNN : dIsNot .none .none = some (.bool false) := rfl
theorem op_ntIN {p : Int} : dIsNot (.int p) .none = some (.bool true) := rfl
theorem op_ntTN : dIsNot (.tuple ds) .none = some (.bool true) := rfl
theorem op_ntLN : dIsNot (.list ds) .none = some (.bool true) := rfl
theorem inI_map (p : Int) : ∀ ns : List Int, inI p (ns.map PyData.int) = some (decide (p ∈ ns))
  | [] => by simp [inI]
  | n :: ns => by
    have i := inI_map p ns
    rw [List.map_cons, inI, i]
    by_cases h : n = p
    · subst h; simp
    · have h' : ¬ p = n := fun e => h e.symm
      simp [h, h']
end
/-- w tells P of what it yields -/
def Tells {α : Type} (w : (α → Prop) → Prop) (P : α → Prop) : Prop := ∀ A : α → Prop, (∀ a, P a → A a) → w A
theorem Tells.use {α : Type} {w : (α → Prop) → Prop} {P A : α → Prop} (h : Tells w P) (k : ∀ a, P a → A a) : w A := h A k
/-- a comprehension: each item yields something of which P holds -/
theorem comp_tells {β : Type} {mg : D → Rho → Option Rho} {we : Wp D} {ρ : Rho} {enc : β → D} {P : D → β → Prop} : ∀ (ds : List D) (A : List D → Prop), (∀ d ∈ ds, ∀ A : D → Prop, (∀ b, P d b → A (enc b)) → ∃ ρ1, mg d ρ = some ρ1 ∧ we ρ1 A) →
    (∀ bs : List β, bs.length = ds.length → (∀ (i : Nat) (d : D) (b : β), ds[i]? = some d → bs[i]? = some b → P d b) → A (bs.map enc)) → wComp mg wYes we ρ ds A
  | [], A, _, k => k [] rfl fun i d b h => by simp at h
  | d :: ds, A, h, k => by
    obtain ⟨ρ1, h1, h2⟩ := h d List.mem_cons_self (fun y => wComp mg wYes we ρ ds fun ys => A (y :: ys)) fun b hb =>
      comp_tells ds _ (fun d' hd' => h d' (List.mem_cons_of_mem _ hd')) fun bs hl hP => k (b :: bs) (by simp [hl]) fun i d' b' hd hb' => by
        cases i with
        | zero =>
          simp at hd hb'
          subst hd hb'
          exact hb
        | succ i => exact hP i d' b' (by simpa using hd) (by simpa using hb')
    exact ⟨ρ1, h1, by simpa [wYes] using h2⟩
/-- a loop: an invariant by the turn -/
theorem loop_inv {mg : D → Rho → Option Rho} {wb : Wp Res} (I : Nat → Rho → Prop) {A : Res → Prop} : ∀ (ds : List D) (n : Nat) (ρ : Rho), I n ρ →
    (∀ (i : Nat) (d : D) (ρ : Rho), ds[i]? = some d → I (n + i) ρ → ∃ ρ1, mg d ρ = some ρ1 ∧ ∀ A : Res → Prop, (∀ ρ2, I (n + i + 1) ρ2 → A (.nx ρ2)) → wb ρ1 A) → (∀ ρ, I (n + ds.length) ρ → A (.nx ρ)) → wLoop mg wb ds ρ A
  | [], n, ρ, h, _, k => k ρ (by simpa using h)
  | d :: ds, n, ρ, h, w, k => by
    obtain ⟨ρ1, h1, h2⟩ := w 0 d ρ rfl (by simpa using h)
    refine ⟨ρ1, h1, h2 _ fun ρ2 h3 => loop_inv I ds (n + 1) ρ2 h3 (fun i d' ρ' hd hI => ?_) fun ρ' hI => k ρ' (by rw [List.length_cons, show n + (ds.length + 1) = n + 1 + ds.length by omega]; exact hI)⟩
    have := w (i + 1) d' ρ' (by simpa using hd) (by rw [show n + (i + 1) = n + 1 + i by omega]; exact hI)
    rw [show n + (i + 1) + 1 = n + 1 + i + 1 by omega] at this
    exact this
end MV

set_option maxRecDepth 100000
set_option maxHeartbeats 4000000
namespace MV
open PySem PySem.Spec PyProof.Rows L2
/-! ### a list lent to a def: the result holds no references -/
def isSc : D → Bool
  | .none => true
  | .bool _ => true
  | .int _ => true
  | .str _ => true
  | _ => false
theorem dp_sc {K : PySem.W.Frag} {F F' : Hp} {v : V} {d : D} (h : isSc d = true) (r : Dp K F v d) : Dp K F' v d := by
  cases r <;> first | exact .non | exact .bl _ | exact .int _ | exact .str _ | cases h
theorem tpAll_dp {K : PySem.W.Frag} {F H : Hp} (e : Ex F H) : ∀ {vs : List V} {ds : List D}, TpAll K F H vs ds → DpAll K H vs ds
  | _, _, .nil => .nil
  | _, _, .cons t r => .cons (t.dp e) (tpAll_dp e r)
def mCallL (mf : List D → Option D) (dds : List D) (ma : Rho → Option (List D)) : Rho → Option D := fun ρ => (ma ρ).bind fun ds => (mf (ds ++ dds)).bind fun d => if isSc d = true then some d else none
section
variable {X : Cx} {k : Nat} {f : Addr} {fd : FuncData} {ps : List Str} {mf : List D → Option D} {dvs : List V} {dus : List Value} {dds : List D} {x : Str} {p pos : Pos} {e : Expr} {es : List Expr} {ma : Rho → Option (List D)}
theorem me_callL (G : FnG X.prog X.w X.K X.mg X.base k f fd ps mf) (hG : X.A.guards = some []) (hr : Room k X.A) (hm : X.mg x = some (.ref f)) (hk : PySem.W.keepIn X.K (.ref f) = true) (hb : Binds X.K fd ps dus) (hd : Vals dvs dus) (hdd : ∀ F : Hp, DpAll X.K F dvs dds)
    (ha : MAT X (e :: es) ma) (hg : Gl X x := by rfl) (hdb : (x == ("__debug__" : Str)) = false := by decide) (he : starEach (e :: es) X.env = (false, eval e X.env) :: starEach es X.env := by rfl) (hpl : (backTo pos (starEach es X.env)).any (·.1) = false := by rfl) :
    ME X (.Call (.Name x p) (e :: es) [] pos) (mCallL mf dds ma) :=
  ⟨fun F0 H0 => pe_weak (pe_callG G hG hr hg hm hk hb hd (ha.ok F0 H0) hdb he hpl) fun σ H Q ⟨ρ, F, d, e1, e2, q⟩ => by
    unfold mCallL at e2
    cases hx : ma ρ with
    | none => rw [hx] at e2; cases e2
    | some ds =>
      rw [hx] at e2
      simp only [Option.bind_some] at e2
      cases hy : mf (ds ++ dds) with
      | none => rw [hy] at e2; cases e2
      | some d' =>
        rw [hy] at e2
        simp only [Option.bind_some] at e2
        split at e2
        · cases e2
          rename_i hs
          exact ⟨ρ, F, ds, e1, hx, fun vs F1 H1 a1 pa => ⟨H1, ds ++ dds, d, Ex.refl _, dal_app (tpAll_dp a1.fh pa) (hdd H1), hy, fun v F2 H2 a2 pd => q v F1 H2 (a1.trans (Adv.kept a1.fh a2.h)) (dp_sc hs pd)⟩⟩
        · cases e2⟩
end
theorem ex_callL {ma : Rho → Option (List D)} {mf : List D → Option D} {dds ds : List D} {d : D} {ρ : Rho} (h : ma ρ = some ds) (h2 : mf (ds ++ dds) = some d) (h3 : isSc d = true) : mCallL mf dds ma ρ = some d := by
  unfold mCallL
  rw [h, Option.bind_some, h2, Option.bind_some, if_pos h3]
theorem tuple_mul1 (l : Addr) (items : Array Value) (n : Nat) (dd : Option Addr) (sl : Array (Option Value)) (u : Tok) :
    Meets (Builtin.«tuple.__mul__» ⟨[.ref l, .int 1 u], []⟩) (fun _ R s => s.heap.get? l = some { cls := .type "tuple", dict := dd, data := .seq items n, slots := sl } ∧ R (.ok (.ret (Value.ref l))) s) :=
  .of_wp fun pr wo ar R s0 both => by
    obtain ⟨heap0, gens0, dr0, toks0, os0⟩ := s0
    obtain ⟨there, h⟩ := both
    have f1 := AutoSeq1.idx_int
    have isTwo : (items.isEmpty || (1 : Int) == 1) = true := by simp
    wp_walk using wpAny_loadPart' there
    repeat (first
      | (refine wpAny_ite_false (decide_eq_false (by decide)) ?_; wp_walk using wpAny_loadPart' there)
      | (refine wpAny_ite_true (decide_eq_true (by rw [isTwo])) ?_; wp_walk using wpAny_loadPart' there))
    exact ⟨_, rfl, h⟩
theorem tuple_mul0 (l : Addr) (items : Array Value) (n : Nat) (dd : Option Addr) (sl : Array (Option Value)) (u : Tok) (hi : items.isEmpty = false) :
    Meets (Builtin.«tuple.__mul__» ⟨[.ref l, .int 0 u], []⟩) (fun _ R s => s.heap.get? l = some { cls := .type "tuple", dict := dd, data := .seq items n, slots := sl } ∧
      R (.ok (.ret (Value.ref s.heap.objs.size))) { s with heap := s.heap.push { cls := Value.type "tuple", data := Data.seq #[] }, toks := s.toks }) :=
  .of_wp fun pr wo ar R s0 both => by
    obtain ⟨heap0, gens0, dr0, toks0, os0⟩ := s0
    obtain ⟨there, h⟩ := both
    have f1 := AutoSeq1.idx_int
    have isTwo : (items.isEmpty || (0 : Int) == 1) = false := by rw [hi]; rfl
    have isNone : (decide ((0 : Int) ≤ 0) || items.isEmpty) = true := by simp
    wp_walk using wpAny_loadPart' there
    repeat (first
      | (refine wpAny_ite_false (decide_eq_false (by decide)) ?_; wp_walk using wpAny_loadPart' there)
      | (refine wpAny_ite_false (decide_eq_false (by rw [isTwo]; exact Bool.false_ne_true)) ?_; wp_walk using wpAny_loadPart' there)
      | (refine wpAny_ite_true (decide_eq_true (by rw [isNone])) ?_; wp_walk using wpAny_loadPart' there))
    exact ⟨_, rfl, h⟩
/-! a tuple times a number from 0 on -/
def dRepT : D → D → Option D
  | .tuple ds, .int k => if (decide (0 ≤ k ∧ k ≤ 1000 ∧ ds.length ≤ 1000) && !ds.isEmpty) = true then some (.tuple (List.replicate k.toNat ds).flatten) else none
  | _, _ => none
section
variable {X : Cx}
theorem od_repT : OpD X (binaryOp .Mult) dRepT := by
  refine ⟨fun pins s σ H x y v u Q I rx ry h => ?_⟩
  obtain ⟨F, dx, dy, d, e, tx, ty, hg, q⟩ := h
  unfold dRepT at hg
  split at hg
  · rename_i ds k
    split at hg
    · cases hg
      rename_i hk
      rw [Bool.and_eq_true] at hk
      obtain ⟨h0, h1, hz⟩ := of_decide_eq_true hk.1
      have hne : ds ≠ [] := fun z => by subst z; simp at hk
      rw [ty.int] at ry
      have dt : Dp X.K F x (.tuple ds) := by
        rcases tx with t | ⟨_, _, _, _, z, _⟩
        · exact t
        · cases z
      obtain ⟨p, vs, hx, hs, pa⟩ := tx.tuple e
      subst hx
      have l1 := dal_len pa
      have hv : vs ≠ [] := fun z => by
        subst z
        cases pa
        exact hne rfl
      by_cases k2 : 2 ≤ k
      · exact op_repT pins s σ H _ _ v u Q I rx ry ⟨p, k, vs, rfl, rfl, hs, hv, k2, h1, by omega, fun r hr => q _ _ _ (Adv.laid e hr) (.tup (SqT.of upd_same) (dpa_ex (Ex.new (e.none hr)) _ _ (dal_repB pa _)))⟩
      · cases rx
        obtain ⟨t, rfl⟩ := ry
        obtain ⟨its, r, ⟨⟨cls, dd, data, sl⟩, ho, hc, n, hd⟩, hs2⟩ := I.tuple hs
        simp only at hc hd
        subst hc hd
        have hle : its.length = vs.length := r.length.symm
        have full : its.toArray.isEmpty = false := by
          cases its with
          | nil => exact absurd (List.eq_nil_of_length_eq_zero hle.symm) hv
          | cons a b => rfl
        by_cases k1 : k = 1
        · subst k1
          refine wpAny_binaryOp_repeat_ref (T := "tuple") (U := "int") (by decide) ⟨_, ho, rfl⟩ (fun s' => typeIs_int s' 1 t) noFill_tuple_mul PySem.F.fills_int_mul PySem.F.slot_int_rmul repeat_tuple PySem.F.slot_int_index.lookup
            (call_meets PySem.F.slot_int_rmul (typeIs_int s 1 t) PySem.F.entry_int_rmul (PySem.F.args_int_rmul_2 _ _) (int_rmul_tuple 1 t p its.toArray n dd sl)
              ⟨ho, rfl, ⟨_, ho, rfl⟩, call_meets PySem.F.slot_tuple_mul ⟨_, ho, rfl⟩ PySem.F.entry_tuple_mul (PySem.F.args_tuple_mul_2 _ _) (tuple_mul1 p its.toArray n dd sl t) ⟨ho, ?_⟩⟩)
          refine ⟨.ref p, H, I, rfl, q _ F H (Adv.refl e) ?_⟩
          have ed : (List.replicate (1 : Int).toNat ds).flatten = ds := by
            show (List.replicate 1 ds).flatten = ds
            simp
          rw [ed]
          exact dt
        · have k0 : k = 0 := by omega
          subst k0
          refine wpAny_binaryOp_repeat_ref (T := "tuple") (U := "int") (by decide) ⟨_, ho, rfl⟩ (fun s' => typeIs_int s' 0 t) noFill_tuple_mul PySem.F.fills_int_mul PySem.F.slot_int_rmul repeat_tuple PySem.F.slot_int_index.lookup
            (call_meets PySem.F.slot_int_rmul (typeIs_int s 0 t) PySem.F.entry_int_rmul (PySem.F.args_int_rmul_2 _ _) (int_rmul_tuple 0 t p its.toArray n dd sl)
              ⟨ho, rfl, ⟨_, ho, rfl⟩, call_meets PySem.F.slot_tuple_mul ⟨_, ho, rfl⟩ PySem.F.entry_tuple_mul (PySem.F.args_tuple_mul_2 _ _) (tuple_mul0 p its.toArray n dd sl t full) ⟨ho, ?_⟩⟩)
          have hn : H s.heap.objs.size = none := I.hok.fresh (Nat.le_refl _)
          refine ⟨.ref s.heap.objs.size, _, I.laid (t' := s.toks) (o := .tup []) (fun b ob z => Heap.get?_push_of_some _ z) (Nat.le_refl _) ?_, rfl, q _ _ _ (Adv.laid e hn) (.tup (SqT.of upd_same) .nil)⟩
          exact ⟨Nat.zero_le _, [], .nil, IsTup.new _ _⟩
    · cases hg
  · cases hg
end
theorem op_repT' {ds : List D} {k : Int} (h : (decide (0 ≤ k ∧ k ≤ 1000 ∧ ds.length ≤ 1000) && !ds.isEmpty) = true) : dRepT (.tuple ds) (.int k) = some (.tuple (List.replicate k.toNat ds).flatten) := if_pos h
/-! a def that may raise, where it does not -/
def okOf (m : List D → Option Out) : List D → Option D := fun ds => (m ds).bind fun o => match o with
  | .ok d => some d
  | .er _ => none
theorem okOf_some {m : List D → Option Out} {ds : List D} {d : D} (h : okOf m ds = some d) : m ds = some (.ok d) := by
  unfold okOf at h
  cases hm : m ds with
  | none => rw [hm] at h; cases h
  | some o =>
    rw [hm] at h
    cases o with
    | ok x => cases h; rfl
    | er x => cases h
theorem okOf_ok {m : List D → Option Out} {ds : List D} {d : D} (h : m ds = some (.ok d)) : okOf m ds = some d := by
  unfold okOf
  rw [h]
  rfl
theorem FnX.toG {P : Program} {w : World} {K : PySem.W.Frag} {mg : Str → Option Value} {base : Heap} {k : Nat} {f : Addr} {fd : FuncData} {ps : List Str} {m : List D → Option Out} (F : FnX P w K mg base k f fd ps m) : FnG P w K mg base k f fd ps (okOf m) :=
  ⟨fun ds d h => F.len ds _ (okOf_some h), fun A outer s H args us vs Q hg hr he hb hv ⟨Fz, ds, d, e, pa, hm, q⟩ =>
    codeAny_mono (F.run A outer s H args us vs Q E0 hg hr he hb hv ⟨Fz, ds, .ok d, e, pa, okOf_some hm, q⟩) fun r s' h => by
      cases r with
      | ok fl => cases fl <;> exact h
      | error u =>
        obtain ⟨_, _, _, _, _, _, _, _, _, _, _, _, z⟩ := h
        exact z.elim⟩
/-! x >= y, data of any depth -/
def geOk (x y : D) : Bool := SeqAt.shaped x && (PySem.W.alike x y && (!isNoneD x && SeqAt.shaped y))
def dGe2 : D → D → Option D := fun x y => match dGe x y with
  | some d => some d
  | none => if geOk x y = true then some (.bool (!PySem.W.dataLt x y)) else none
section
variable {X : Cx}
theorem od_ge2 (hu : X.A.units + 65 < cLine) : OpD X (compareOp .GtE) dGe2 := by
  refine ⟨fun pins s σ H x y v u Q I rx ry h => ?_⟩
  obtain ⟨F, dx, dy, d, e, tx, ty, hg, q⟩ := h
  unfold dGe2 at hg
  cases hd : dGe dx dy with
  | some d' =>
    rw [hd] at hg
    exact od_ge.ok pins s σ H x y v u Q I rx ry ⟨F, dx, dy, d, e, tx, ty, by rw [hd]; exact hg, q⟩
  | none =>
    rw [hd] at hg
    simp only at hg
    split at hg
    · rename_i hc
      unfold geOk at hc
      rw [Bool.and_eq_true, Bool.and_eq_true, Bool.and_eq_true] at hc
      obtain ⟨c1, c2, c3, c4⟩ := hc
      cases hg
      obtain ⟨as, r1⟩ := L2.Dp.reads I dx x v (Dp.toL _ _ (tx.dp e) (plain_shaped c1)) rx
      obtain ⟨bs, r2⟩ := L2.Dp.reads I dy y u (Dp.toL _ _ (ty.dp e) (plain_shaped c4)) ry
      have dl : dx.depth ≤ 64 := by
        unfold SeqAt.shaped at c1
        rw [Bool.and_eq_true] at c1
        exact of_decide_eq_true c1.2
      refine PySem.W.ge_data r1 r2 c2 (fun z => ?_) (by omega) ⟨.bl _, H, I, rfl, q _ F H (Adv.refl e) (.bl _)⟩
      subst z
      cases c3
    · cases hg
end
end MV

set_option maxRecDepth 100000
set_option maxHeartbeats 4000000
/-! objects of own classes: fields that are read, methods, __init__, C(..) -/
namespace MV
open PySem PySem.Spec PyProof.Rows L2

/-! ### fields of objects that are no longer written -/
def fldIn (f : Str) : List D → List D → Option D
  | .str g :: ns, d :: ds => if g = f then some d else fldIn f ns ds
  | _, _ => none
def dFld (n f : Str) : D → Option D
  | .dict [(.tuple (.str k :: ns), .list ds)] => if k = n then fldIn f ns ds else none
  | _ => none
theorem fldIn_hd {f : Str} {ns ds : List D} {d : D} : fldIn f (.str f :: ns) (d :: ds) = some d := if_pos rfl
theorem fldIn_tl {f g : Str} {ns ds : List D} {d : D} {r : Option D} (h : ¬ g = f) (k : fldIn f ns ds = r) : fldIn f (.str g :: ns) (d :: ds) = r := (if_neg h).trans k
theorem dFld_ob {n f : Str} {fs : List Str} {ds : List D} {r : Option D} (h : fldIn f (fs.map .str) ds = r) : dFld n f (obD n fs ds) = r := (if_pos rfl).trans h
def noFld (m : Str) : List D → Bool
  | [] => true
  | .str g :: ns => if g = m then false else noFld m ns
  | _ => false
/-- an object of the class n, without a field m -/
def obIs (n m : Str) : D → Bool
  | .dict [(.tuple (.str k :: ns), .list _)] => decide (k = n) && noFld m ns
  | _ => false
section
variable {K : PySem.W.Frag} {F H : Hp}
theorem fld_look {f : Str} {d : D} : ∀ (fs : List (Str × V)) (ds : List D), DpAll K F (fs.map (·.2)) ds → fldIn f ((fs.map (·.1)).map .str) ds = some d → ∃ v, fs.lookup f = some v ∧ Dp K F v d
  | [], ds, h, e => by
    cases h
    cases e
  | (g, v) :: fs, ds, h, e => by
    cases h with
    | @cons _ _ d1 ds1 h1 h2 =>
      change (if g = f then some d1 else fldIn f ((fs.map (·.1)).map .str) ds1) = some d at e
      by_cases hg : g = f
      · subst hg
        rw [if_pos rfl] at e
        cases e
        refine ⟨v, ?_, h1⟩
        rw [List.lookup_cons, show (g == g) = true from beq_iff_eq.mpr rfl]
      · rw [if_neg hg] at e
        obtain ⟨w, k1, k2⟩ := fld_look fs ds1 h2 e
        refine ⟨w, ?_, k2⟩
        rw [List.lookup_cons, show (f == g) = false from beq_eq_false_iff_ne.mpr fun z => hg z.symm]
        exact k1
theorem noFld_look {m : Str} : ∀ fs : List (Str × V), noFld m ((fs.map (·.1)).map .str) = true → fs.lookup m = none
  | [], _ => rfl
  | (g, v) :: fs, h => by
    change (if g = m then false else noFld m ((fs.map (·.1)).map .str)) = true at h
    by_cases hg : g = m
    · rw [if_pos hg] at h
      cases h
    · rw [if_neg hg] at h
      rw [List.lookup_cons, show (m == g) = false from beq_eq_false_iff_ne.mpr fun z => hg z.symm]
      exact noFld_look fs h
theorem dp_fld {n f : Str} {C : Addr} {v : V} {d x : D} (hn : PySem.W.nsIn K mainGlobals n = some (some (.ref C))) (p : Dp K F v d) (h : dFld n f d = some x) : ∃ a dx fs w, v = .ref a ∧ F a = some (.ins C dx fs) ∧ fs.lookup f = some w ∧ Dp K F w x := by
  cases p with
  | @obj a C' dx n' fs ds h1 h2 h3 =>
    change (if n' = n then fldIn f ((fs.map (·.1)).map .str) ds else none) = some x at h
    by_cases hk : n' = n
    · subst hk
      rw [if_pos rfl] at h
      rw [hn] at h1
      cases h1
      obtain ⟨w, k1, k2⟩ := fld_look fs ds h3 h
      exact ⟨a, dx, fs, w, rfl, h2, k1, k2⟩
    · rw [if_neg hk] at h
      cases h
  | dic _ _ => cases h
  | non => cases h
  | bl b => cases h
  | int i => cases h
  | str s => cases h
  | lst _ _ => cases h
  | tup _ _ => cases h
theorem dp_ob {n m : Str} {C : Addr} {v : V} {d : D} (hn : PySem.W.nsIn K mainGlobals n = some (some (.ref C))) (p : Dp K F v d) (h : obIs n m d = true) : ∃ a dx fs, v = .ref a ∧ F a = some (.ins C dx fs) ∧ fs.lookup m = none := by
  cases p with
  | @obj a C' dx n' fs ds h1 h2 h3 =>
    change (decide (n' = n) && noFld m ((fs.map (·.1)).map .str)) = true at h
    rw [Bool.and_eq_true] at h
    obtain ⟨k1, k2⟩ := h
    have hk := of_decide_eq_true k1
    subst hk
    rw [hn] at h1
    cases h1
    exact ⟨a, dx, fs, rfl, h2, noFld_look fs k2⟩
  | dic _ _ => cases h
  | non => cases h
  | bl b => cases h
  | int i => cases h
  | str s => cases h
  | lst _ _ => cases h
  | tup _ _ => cases h
end
/-- fields that are being set, in order -/
def putFd (f : Str) (x : Fd) : List (Str × Fd) → List (Str × Fd)
  | [] => [(f, x)]
  | (g, y) :: r => if g = f then (g, x) :: r else (g, y) :: putFd f x r
def getFd (f : Str) : List (Str × Fd) → Option Fd
  | [] => none
  | (g, y) :: r => if g = f then some y else getFd f r
section
variable {X : Cx} {W : WX} {e o : Expr} {es : List Expr} {m mo : Rho → Option D} {ma : Rho → Option (List D)} {pos apos p : Pos} {n f mm x : Str} {C fA : Addr} {k : Nat} {fd : FuncData} {ps : List Str} {dvs : List V} {dus : List Value} {dds : List D} {mf : List D → Option D}
theorem me_fld (hn : PySem.W.nsIn X.K mainGlobals n = some (some (.ref C))) (c : Cls X.K C) (na : NoAttr X.K C f) (h : ME X o m) (hb : attributeBase o f X.env (eval o X.env) = eval o X.env := by rfl) : ME X (.Attribute o f pos) (m1 (dFld n f) m) :=
  ⟨fun F0 H0 => pe_weak (pe_fld (h.ok F0 H0) hb) fun σ H Q ⟨ρ, F, d, e1, e2, q⟩ => by
    unfold m1 at e2
    cases hx : m ρ with
    | none => rw [hx] at e2; cases e2
    | some d1 =>
      rw [hx] at e2
      refine ⟨ρ, F, d1, e1, hx, fun v F1 H1 a1 t => ?_⟩
      obtain ⟨a, dx, fs, w, rfl, k1, k2, k3⟩ := dp_fld hn t e2
      exact ⟨a, C, dx, fs, w, rfl, a1.fh _ _ k1, c, na, k2, q w F1 H1 a1 k3⟩⟩
/-! a method that is called -/
def tMethS (C : Addr) (m : Str) (sp : List V → Hp → VK → Prop) (dvs : List V) (ta : TE) (t : TA) : TE := fun σ H Q => ta σ H fun x H1 => ∃ a dx fs, x = .ref a ∧ H1 a = some (.ins C dx fs) ∧ fs.lookup m = none ∧ t σ H1 fun vs H2 => sp (x :: (vs ++ dvs)) H2 Q
theorem pe_methS {sp : List V → Hp → VK → Prop} {ta : TE} {t : TA} {pl : Sem Bool} (he : PE X o ta) (c : Cls X.K C) (hm : Meth X.K C mm fA) (G : RunsSp X k fA fd ps sp) (hG : X.A.guards = some []) (hr : Room k X.A) (hb : Binds X.K fd ps dus) (hd : Vals dvs dus) (ha : PA X (e :: es) t)
    (hst : starEach (e :: es) X.env = (false, eval e X.env) :: starEach es X.env := by rfl) (hpl : (backTo pos (starEach es X.env)).any (·.1) = false := by rfl)
    (ht : eval (.Call (.Attribute o mm apos) (e :: es) [] pos) X.env = (do
      let ov ← eval o X.env
      standAt apos.atName
      let (f, first) ← holding [ov] (getMethod ov mm pl)
      callWith pos f first (backTo pos (starEach (e :: es) X.env)) (backToKw pos (keywordEach [] X.env))) := by rfl) :
    PE X (.Call (.Attribute o mm apos) (e :: es) [] pos) (tMethS C mm sp dvs ta t) := by
  refine ⟨fun pins s σ H Q I h => ?_⟩
  refine PySem.W.methodCall_KW (pl := pl) (thn (he.run pins s σ H _ I h) fun u s1 ⟨x, H1, I1, rx, a, dx, fs, ex, ea, l, q⟩ => ?_) ht
  subst ex
  obtain rfl : u = Value.ref a := rx
  refine getmeth_ok I1 ea c hm l ?_
  refine PySem.W.callWith_K (first := [.ref a]) (h₀ := X.base) I.ok.mod.kin hm.kp (thn (ha.run pos pins s1 σ H1 _ I1 q) fun us s2 ⟨vs, H2, I2, r, q2⟩ => ⟨I2.kIn, ?_⟩) hst hpl
  exact run_sp (us := .ref a :: us) (vs := .ref a :: vs) G hG hr hb hd I2 (.cons rfl r) q2
theorem pe_methS0 {sp : List V → Hp → VK → Prop} {ta : TE} {pl : Sem Bool} (he : PE X o ta) (c : Cls X.K C) (hm : Meth X.K C mm fA) (G : RunsSp X k fA fd ps sp) (hG : X.A.guards = some []) (hr : Room k X.A) (hb : Binds X.K fd ps dus) (hd : Vals dvs dus)
    (ht : eval (.Call (.Attribute o mm apos) [] [] pos) X.env = (do
      let ov ← eval o X.env
      standAt apos.atName
      let (f, first) ← holding [ov] (getMethod ov mm pl)
      callWith pos f first (backTo pos (starEach [] X.env)) (backToKw pos (keywordEach [] X.env))) := by rfl) :
    PE X (.Call (.Attribute o mm apos) [] [] pos) (tMethS C mm sp dvs ta tNil) := by
  refine ⟨fun pins s σ H Q I h => ?_⟩
  refine PySem.W.methodCall_KW (pl := pl) (thn (he.run pins s σ H _ I h) fun u s1 ⟨x, H1, I1, rx, a, dx, fs, ex, ea, l, q⟩ => ?_) ht
  subst ex
  obtain rfl : u = Value.ref a := rx
  refine getmeth_ok I1 ea c hm l ?_
  exact PySem.W.callWith_K0 (first := [.ref a]) I1.kIn hm.kp (run_sp (us := [.ref a]) (vs := [.ref a]) G hG hr hb hd I1 (.cons rfl .nil) q)
def mMeth (n m : Str) (mf : List D → Option D) (dds : List D) (mo : Rho → Option D) (ma : Rho → Option (List D)) : Rho → Option D := fun ρ => (mo ρ).bind fun o => if obIs n m o = true then (ma ρ).bind fun ds => mf (o :: (ds ++ dds)) else none
theorem FnG.sp (G : FnG X.prog X.w X.K X.mg X.base k fA fd ps mf) : RunsSp X k fA fd ps (spM X.K mf) := ⟨fun vs H Q ⟨F, ds, d, _, pa, hm, _⟩ => by rw [dal_len pa]; exact G.len ds d hm, G.run⟩
theorem meth_read {F0 H0 : Hp} {σ : L2.St} {H : Hp} {Q : VK} (hn : PySem.W.nsIn X.K mainGlobals n = some (some (.ref C))) (hdd : ∀ F : Hp, DpAll X.K F dvs dds) {t : TA} (h : tE X.K F0 H0 (mMeth n mm mf dds mo ma) σ H Q)
    (ht : ∀ σ H Q, tAE X.K F0 H0 ma σ H Q → t σ H Q) : tMethS C mm (spM X.K mf) dvs (tE X.K F0 H0 mo) t σ H Q := by
  obtain ⟨ρ, F, d, e1, e2, q⟩ := h
  unfold mMeth at e2
  cases hx : mo ρ with
  | none => rw [hx] at e2; cases e2
  | some d1 =>
    rw [hx] at e2
    simp only [Option.bind_some] at e2
    split at e2
    · rename_i ho
      refine ⟨ρ, F, d1, e1, hx, fun v F1 H1 a1 t1 => ?_⟩
      obtain ⟨a, dx, fs, rfl, k1, k2⟩ := dp_ob hn t1 ho
      refine ⟨a, dx, fs, rfl, a1.fh _ _ k1, k2, ht _ _ _ ?_⟩
      cases hy : ma ρ with
      | none => rw [hy] at e2; cases e2
      | some ds =>
        rw [hy] at e2
        exact ⟨ρ, F1, ds, e1.go a1, hy, fun vs F2 H2 a2 pa => ⟨F2, d1 :: (ds ++ dds), d, a2.fh, .cons (dp_ex a2.f _ _ t1) (dal_app pa (hdd F2)), e2, fun w F3 H3 a3 pd => q w F3 H3 ((a1.trans a2).trans a3) pd⟩⟩
    · cases e2
theorem me_meth {pl : Sem Bool} (hn : PySem.W.nsIn X.K mainGlobals n = some (some (.ref C))) (c : Cls X.K C) (hm : Meth X.K C mm fA) (G : FnG X.prog X.w X.K X.mg X.base k fA fd ps mf) (hG : X.A.guards = some []) (hr : Room k X.A) (hb : Binds X.K fd ps dus) (hd : Vals dvs dus) (hdd : ∀ F : Hp, DpAll X.K F dvs dds)
    (ho : ME X o mo) (ha : MAE X (e :: es) ma) (hst : starEach (e :: es) X.env = (false, eval e X.env) :: starEach es X.env := by rfl) (hpl : (backTo pos (starEach es X.env)).any (·.1) = false := by rfl)
    (ht : eval (.Call (.Attribute o mm apos) (e :: es) [] pos) X.env = (do
      let ov ← eval o X.env
      standAt apos.atName
      let (f, first) ← holding [ov] (getMethod ov mm pl)
      callWith pos f first (backTo pos (starEach (e :: es) X.env)) (backToKw pos (keywordEach [] X.env))) := by rfl) : ME X (.Call (.Attribute o mm apos) (e :: es) [] pos) (mMeth n mm mf dds mo ma) :=
  ⟨fun F0 H0 => pe_weak (pe_methS (pl := pl) (ho.ok F0 H0) c hm G.sp hG hr hb hd (ha.ok F0 H0) hst hpl ht) fun _ _ _ h => meth_read hn hdd h fun _ _ _ h => h⟩
theorem me_meth0 {pl : Sem Bool} (hn : PySem.W.nsIn X.K mainGlobals n = some (some (.ref C))) (c : Cls X.K C) (hm : Meth X.K C mm fA) (G : FnG X.prog X.w X.K X.mg X.base k fA fd ps mf) (hG : X.A.guards = some []) (hr : Room k X.A) (hb : Binds X.K fd ps dus) (hd : Vals dvs dus) (hdd : ∀ F : Hp, DpAll X.K F dvs dds)
    (ho : ME X o mo) 
    (ht : eval (.Call (.Attribute o mm apos) [] [] pos) X.env = (do
      let ov ← eval o X.env
      standAt apos.atName
      let (f, first) ← holding [ov] (getMethod ov mm pl)
      callWith pos f first (backTo pos (starEach [] X.env)) (backToKw pos (keywordEach [] X.env))) := by rfl) : ME X (.Call (.Attribute o mm apos) [] [] pos) (mMeth n mm mf dds mo mNil) :=
  ⟨fun F0 H0 => pe_weak (pe_methS0 (pl := pl) (ho.ok F0 H0) c hm G.sp hG hr hb hd ht) fun _ _ _ h => meth_read hn hdd h fun σ H Q ⟨ρ, F, ds, e1, e2, q⟩ => by
    cases e2
    exact q [] F H (Adv.refl e1.fh) .nil⟩
end
end MV

set_option maxRecDepth 100000
set_option maxHeartbeats 4000000
/-! objects that are still written: __init__, fields that are set and read -/
namespace MV
open PySem PySem.Spec PyProof.Rows L2

section
variable {K : PySem.W.Frag} {F0 H0 F H F' H' : Hp} {σ : L2.St} {ρ : Rho} {vs : List (Str × V)} {fs : List (Str × Fd)} {f : Str}
def notOwnFd : Option Fd → Bool
  | some (.own _) => false
  | _ => true
theorem FdAll.putD {v : V} {d : D} (h : FdAll K H0 F H vs fs) (p : Dp K F v d) (hf : notOwnFd (getFd f fs) = true) : FdAll K H0 F H (putF f v vs) (putFd f (.dat d) fs) ∧ ownR (putF f v vs) (putFd f (.dat d) fs) = ownR vs fs := by
  induction h with
  | nil => exact ⟨.dat p .nil, by cases v <;> rfl⟩
  | @dat g w x vs fs h1 h2 ih =>
    show FdAll K H0 F H (if g = f then (g, v) :: vs else (g, w) :: putF f v vs) (if g = f then (g, Fd.dat d) :: fs else (g, Fd.dat x) :: putFd f (.dat d) fs) ∧ ownR (if g = f then (g, v) :: vs else (g, w) :: putF f v vs) (if g = f then (g, Fd.dat d) :: fs else (g, Fd.dat x) :: putFd f (.dat d) fs) = _
    by_cases hg : g = f
    · rw [if_pos hg, if_pos hg]
      exact ⟨.dat p h2, by rw [ownR_dat, ownR_dat]⟩
    · rw [if_neg hg, if_neg hg]
      change notOwnFd (if g = f then some (Fd.dat x) else getFd f fs) = true at hf
      rw [if_neg hg] at hf
      obtain ⟨i1, i2⟩ := ih hf
      exact ⟨.dat h1 i1, by rw [ownR_dat, ownR_dat, i2]⟩
  | @own g q ws ds vs fs h1 h2 h3 h4 h5 ih =>
    show FdAll K H0 F H (if g = f then (g, v) :: vs else (g, .ref q) :: putF f v vs) (if g = f then (g, Fd.dat d) :: fs else (g, Fd.own ds) :: putFd f (.dat d) fs) ∧ ownR (if g = f then (g, v) :: vs else (g, .ref q) :: putF f v vs) (if g = f then (g, Fd.dat d) :: fs else (g, Fd.own ds) :: putFd f (.dat d) fs) = _
    change notOwnFd (if g = f then some (Fd.own ds) else getFd f fs) = true at hf
    by_cases hg : g = f
    · rw [if_pos hg] at hf
      cases hf
    · rw [if_neg hg] at hf
      rw [if_neg hg, if_neg hg]
      obtain ⟨i1, i2⟩ := ih hf
      exact ⟨.own h1 h2 h3 h4 i1, by show q :: ownR _ _ = q :: ownR _ _; rw [i2]⟩
theorem FdAll.putO {q : Addr} {ws : List V} {ds : List D} (h : FdAll K H0 F H vs fs) (a1 : F q = none) (a2 : H0 q = none) (a3 : H q = some (.lst ws)) (a4 : DpAll K F ws ds) (hf : (getFd f fs).isNone = true) :
    FdAll K H0 F H (putF f (.ref q) vs) (putFd f (.own ds) fs) ∧ ownR (putF f (.ref q) vs) (putFd f (.own ds) fs) = ownR vs fs ++ [q] := by
  induction h with
  | nil => exact ⟨.own a1 a2 a3 a4 .nil, rfl⟩
  | @dat g w x vs fs h1 h2 ih =>
    show FdAll K H0 F H (if g = f then (g, V.ref q) :: vs else (g, w) :: putF f (.ref q) vs) (if g = f then (g, Fd.own ds) :: fs else (g, Fd.dat x) :: putFd f (.own ds) fs) ∧ ownR (if g = f then (g, V.ref q) :: vs else (g, w) :: putF f (.ref q) vs) (if g = f then (g, Fd.own ds) :: fs else (g, Fd.dat x) :: putFd f (.own ds) fs) = _
    change (if g = f then some (Fd.dat x) else getFd f fs).isNone = true at hf
    by_cases hg : g = f
    · rw [if_pos hg] at hf
      cases hf
    · rw [if_neg hg] at hf
      rw [if_neg hg, if_neg hg]
      obtain ⟨i1, i2⟩ := ih hf
      exact ⟨.dat h1 i1, by rw [ownR_dat, ownR_dat, i2]⟩
  | @own g r us es vs fs h1 h2 h3 h4 h5 ih =>
    show FdAll K H0 F H (if g = f then (g, V.ref q) :: vs else (g, .ref r) :: putF f (.ref q) vs) (if g = f then (g, Fd.own ds) :: fs else (g, Fd.own es) :: putFd f (.own ds) fs) ∧ ownR (if g = f then (g, V.ref q) :: vs else (g, .ref r) :: putF f (.ref q) vs) (if g = f then (g, Fd.own ds) :: fs else (g, Fd.own es) :: putFd f (.own ds) fs) = _
    change (if g = f then some (Fd.own es) else getFd f fs).isNone = true at hf
    by_cases hg : g = f
    · rw [if_pos hg] at hf
      cases hf
    · rw [if_neg hg] at hf
      rw [if_neg hg, if_neg hg]
      obtain ⟨i1, i2⟩ := ih hf
      exact ⟨.own h1 h2 h3 h4 i1, by show r :: ownR _ _ = r :: ownR _ _ ++ [q]; rw [i2]; rfl⟩
theorem FdAll.lenE (h : FdAll K H0 F H vs fs) : vs.length = fs.length := by
  induction h with
  | nil => rfl
  | dat _ _ ih => rw [List.length_cons, List.length_cons, ih]
  | own _ _ _ _ _ ih => rw [List.length_cons, List.length_cons, ih]
theorem FdAll.getD {d : D} (h : FdAll K H0 F H vs fs) (hg : getFd f fs = some (.dat d)) : ∃ v, vs.lookup f = some v ∧ Dp K F v d := by
  induction h with
  | nil => cases hg
  | @dat g w x vs fs h1 h2 ih =>
    change (if g = f then some (Fd.dat x) else getFd f fs) = some (.dat d) at hg
    by_cases e : g = f
    · subst e
      rw [if_pos rfl] at hg
      cases hg
      exact ⟨w, by rw [List.lookup_cons, show (g == g) = true from beq_iff_eq.mpr rfl], h1⟩
    · rw [if_neg e] at hg
      obtain ⟨v, k1, k2⟩ := ih hg
      exact ⟨v, by rw [List.lookup_cons, show (f == g) = false from beq_eq_false_iff_ne.mpr fun z => e z.symm]; exact k1, k2⟩
  | @own g q ws ds vs fs h1 h2 h3 h4 h5 ih =>
    change (if g = f then some (Fd.own ds) else getFd f fs) = some (.dat d) at hg
    by_cases e : g = f
    · rw [if_pos e] at hg
      cases hg
    · rw [if_neg e] at hg
      obtain ⟨v, k1, k2⟩ := ih hg
      exact ⟨v, by rw [List.lookup_cons, show (f == g) = false from beq_eq_false_iff_ne.mpr fun z => e z.symm]; exact k1, k2⟩
theorem FdAll.getO {ds : List D} (h : FdAll K H0 F H vs fs) (hg : getFd f fs = some (.own ds)) : ∃ q ws, vs.lookup f = some (.ref q) ∧ q ∈ ownR vs fs ∧ F q = none ∧ H0 q = none ∧ H q = some (.lst ws) ∧ DpAll K F ws ds := by
  induction h with
  | nil => cases hg
  | @dat g w x vs fs h1 h2 ih =>
    change (if g = f then some (Fd.dat x) else getFd f fs) = some (.own ds) at hg
    by_cases e : g = f
    · rw [if_pos e] at hg
      cases hg
    · rw [if_neg e] at hg
      obtain ⟨q, ws, k1, k2⟩ := ih hg
      exact ⟨q, ws, by rw [List.lookup_cons, show (f == g) = false from beq_eq_false_iff_ne.mpr fun z => e z.symm]; exact k1, by rw [ownR_dat]; exact k2⟩
  | @own g q ws es vs fs h1 h2 h3 h4 h5 ih =>
    change (if g = f then some (Fd.own es) else getFd f fs) = some (.own ds) at hg
    by_cases e : g = f
    · subst e
      rw [if_pos rfl] at hg
      cases hg
      exact ⟨q, ws, by rw [List.lookup_cons, show (g == g) = true from beq_iff_eq.mpr rfl], List.mem_cons_self, h1, h2, h3, h4⟩
    · rw [if_neg e] at hg
      obtain ⟨q', ws', k1, k2, k3⟩ := ih hg
      exact ⟨q', ws', by rw [List.lookup_cons, show (f == g) = false from beq_eq_false_iff_ne.mpr fun z => e z.symm]; exact k1, List.mem_cons_of_mem _ k2, k3⟩
/-- the list of a field is written -/
theorem FdAll.mut {q : Addr} {us : List V} {ds es : List D} (h : FdAll K H0 F H vs fs) (nd : (ownR vs fs).Nodup) (hg : getFd f fs = some (.own ds)) (hq : vs.lookup f = some (.ref q)) (pa : DpAll K F us es) :
    FdAll K H0 F (upd H q (.lst us)) vs (putFd f (.own es) fs) ∧ ownR vs (putFd f (.own es) fs) = ownR vs fs := by
  have keep : ∀ {vs : List (Str × V)} {fs : List (Str × Fd)}, FdAll K H0 F H vs fs → q ∉ ownR vs fs → FdAll K H0 F (upd H q (.lst us)) vs fs := fun h hn => h.go (Ex.refl F) fun r hr => by
    obtain ⟨a, b, c⟩ := h.own_ex r hr
    exact ⟨a, b, upd_ne fun (z : r = q) => hn (z ▸ hr)⟩
  induction h with
  | nil => cases hg
  | @dat g w x vs fs h1 h2 ih =>
    show FdAll K H0 F (upd H q (.lst us)) _ (if g = f then (g, Fd.own es) :: fs else (g, Fd.dat x) :: putFd f (.own es) fs) ∧ ownR _ (if g = f then (g, Fd.own es) :: fs else (g, Fd.dat x) :: putFd f (.own es) fs) = _
    change (if g = f then some (Fd.dat x) else getFd f fs) = some (.own ds) at hg
    by_cases e : g = f
    · rw [if_pos e] at hg
      cases hg
    · rw [if_neg e] at hg
      rw [if_neg e]
      rw [List.lookup_cons, show (f == g) = false from beq_eq_false_iff_ne.mpr fun z => e z.symm] at hq
      rw [ownR_dat] at nd
      obtain ⟨i1, i2⟩ := ih nd hg hq
      exact ⟨.dat h1 i1, by rw [ownR_dat, ownR_dat, i2]⟩
  | @own g r ws ds' vs fs h1 h2 h3 h4 h5 ih =>
    show FdAll K H0 F (upd H q (.lst us)) _ (if g = f then (g, Fd.own es) :: fs else (g, Fd.own ds') :: putFd f (.own es) fs) ∧ ownR _ (if g = f then (g, Fd.own es) :: fs else (g, Fd.own ds') :: putFd f (.own es) fs) = _
    change (if g = f then some (Fd.own ds') else getFd f fs) = some (.own ds) at hg
    have nd2 : r ∉ ownR vs fs ∧ (ownR vs fs).Nodup := List.nodup_cons.mp nd
    by_cases e : g = f
    · subst e
      rw [if_pos rfl]
      rw [List.lookup_cons, show (g == g) = true from beq_iff_eq.mpr rfl] at hq
      cases hq
      exact ⟨.own h1 h2 upd_same pa (keep h5 nd2.1), rfl⟩
    · rw [if_neg e] at hg
      rw [if_neg e]
      rw [List.lookup_cons, show (f == g) = false from beq_eq_false_iff_ne.mpr fun z => e z.symm] at hq
      obtain ⟨i1, i2⟩ := ih nd2.2 hg hq
      have hr : r ≠ q := fun z => by
        obtain ⟨q', ws', k1, k2, _⟩ := h5.getO hg
        change List.lookup f vs = some (.ref q) at hq
        rw [hq] at k1
        cases k1
        exact nd2.1 (z ▸ k2)
      exact ⟨.own h1 h2 (by rw [upd_ne hr]; exact h3) h4 i1, by show r :: ownR _ _ = r :: ownR _ _; rw [i2]⟩
/-- the object of a slot is written -/
theorem EnvOk.mutOb (e : EnvOk K F0 H0 F H σ ρ) {i : Nat} {n : Str × Option Addr} {p C dx : Addr} {vs' : List (Str × V)} {fs' : List (Str × Fd)} (hi : ρ[i]? = some (.ob n fs)) (hp : σ[i]? = some (some (.ref p))) (ho : H p = some (.ins C dx vs))
    (hfd : FdAll K H0 F (upd H p (.ins C dx vs')) vs' fs') (hnd : (ownR vs' fs').Nodup) (hdis : ∀ r ∈ ownR vs' fs', ∀ (j : Nat) es q, ρ[j]? = some (.own es) → σ[j]? = some (some (.ref q)) → r ≠ q) :
    EnvOk K F0 H0 F (upd H p (.ins C dx vs')) σ (ρ.set i (.ob n fs')) := by
  obtain ⟨p', C', dx', vs0, a1, a2, a3, a4, a5, a6, a7, a8⟩ := (e.obs i n fs hi).ex
  rw [hp] at a1
  cases a1
  rw [ho] at a5
  cases a5
  have np : ∀ (j : Nat) es q, ρ[j]? = some (.own es) → σ[j]? = some (some (.ref q)) → q ≠ p := fun j es q h1 h2 z => by
    obtain ⟨ws, k⟩ := e.lsts j es q h1 h2
    rw [z, ho] at k
    cases k
  refine ⟨⟨e.adv.1, fun x u h => ?_, fun x u h => ?_⟩, e.new, by simpa using e.len, fun j d hj => e.dat j d (set_old' hj fun z => nomatch z), fun j es hj => ?_, fun j k es gs q k1 k2 k3 k4 => e.dist j k es gs q (set_old' k1 fun z => nomatch z) (set_old' k2 fun z => nomatch z) k3 k4, fun j a hj => e.rf j a (set_old' hj fun z => nomatch z), fun j m gs hj => ?_⟩
  · rw [upd_ne (ne_of_none h a4)]
    exact e.adv.2.1 x u h
  · rw [upd_ne (ne_of_none h a3)]
    exact e.adv.2.2 x u h
  · have hj' := set_old' hj fun z => nomatch z
    obtain ⟨q, ws, k1, k2, k3, k4, k5⟩ := e.own j es hj'
    exact ⟨q, ws, k1, k2, k3, by rw [upd_ne (np j es q hj' k1)]; exact k4, k5⟩
  · rcases getElem?_set_cases hj with ⟨rfl, hd, _⟩ | ⟨hne, hj⟩
    · cases hd
      refine ⟨⟨p, C, dx, vs', hp, a2, a3, a4, upd_same, hfd, hnd, fun r hr l es q g1 g2 => hdis r hr l es q (set_old' g1 fun z => nomatch z) g2⟩, fun l m' gs' hl => ?_⟩
      rcases getElem?_set_cases hl with ⟨rfl, _, _⟩ | ⟨_, hl⟩
      · rfl
      · exact (e.obs j n fs hi).one l m' gs' hl
    · exact absurd ((e.obs i n fs hi).one j m gs hj) hne
end
def obAt (ρ : Rho) (i : Nat) : Option ((Str × Option Addr) × List (Str × Fd)) := match ρ[i]? with
  | some (.ob n fs) => some (n, fs)
  | _ => none
theorem obAt_some {ρ : Rho} {i : Nat} {n : Str × Option Addr} {fs : List (Str × Fd)} (h : obAt ρ i = some (n, fs)) : ρ[i]? = some (.ob n fs) := by
  unfold obAt at h
  split at h
  · cases h
    assumption
  · cases h
/-- self.f = e -/
def mFldD (i : Nat) (n f : Str) (m : Rho → Option D) : Rho → Option Res := fun ρ => (m ρ).bind fun d => (obAt ρ i).bind fun o => if o.1.1 = n ∧ notOwnFd (getFd f o.2) = true ∧ o.2.length < 100 then some (.nx (ρ.set i (.ob o.1 (putFd f (.dat d) o.2)))) else none
/-- self.f = a new list -/
def mFldO (i : Nat) (n f : Str) (m : Rho → Option (List D)) : Rho → Option Res := fun ρ => (m ρ).bind fun ds => (obAt ρ i).bind fun o => if o.1.1 = n ∧ (getFd f o.2).isNone = true ∧ o.2.length < 100 then some (.nx (ρ.set i (.ob o.1 (putFd f (.own ds) o.2)))) else none
def mGetD (i : Nat) (n f : Str) : Rho → Option D := fun ρ => (obAt ρ i).bind fun o => if o.1.1 = n then (getFd f o.2).bind fun x => match x with
  | .dat d => some d
  | .own _ => none else none
def mGetO (i : Nat) (n f : Str) : Rho → Option D := fun ρ => (obAt ρ i).bind fun o => if o.1.1 = n then (getFd f o.2).map fun x => match x with
  | .dat d => d
  | .own ds => .list ds else none
section
variable {X : Cx} {W : WX} {e o : Expr} {m : Rho → Option D} {pos pos' npos apos : Pos} {n f x : Str} {C : Addr} {i : Nat}
theorem ms_fldD (hn : PySem.W.nsIn X.K mainGlobals n = some (some (.ref C))) (c : Cls X.K C) (na : NoAttr X.K C f) (i : Nat) (h : ME X e m) (hN : X.N[i]? = some x := by rfl) (hv : Vis X.env.scope x := by first | exact Or.inl rfl | exact Or.inr (Or.inl rfl) | exact Or.inr (Or.inr rfl))
    (hd : (x == ("__debug__" : Str)) = false := by decide) (hcd : (x == ("__classdict__" : Str)) = false := by decide) (hs : swapsWith e (some (.Attribute (.Name x npos) f apos)) pos.line X.env = pure false := by rfl) : MS X W (.Assign [.Attribute (.Name x npos) f apos] e pos) (mFldD i n f m) :=
  ⟨fun F0 H0 => ps_weak (ps_fld (pe_var hN hv hd hcd) (h.ok F0 H0) hs) fun Dn σ H ⟨ρ, F, r, e1, e2, q⟩ => by
    unfold mFldD at e2
    cases hx : m ρ with
    | none => rw [hx] at e2; cases e2
    | some d =>
      rw [hx] at e2
      cases hy : obAt ρ i with
      | none => simp [hy] at e2
      | some o =>
        simp only [hy, Option.bind_some] at e2
        split at e2
        · rename_i hc
          obtain ⟨c1, c2, c3⟩ := hc
          cases e2
          obtain ⟨n', fs⟩ := o
          simp only at c1 c2 c3 q ⊢
          subst c1
          have hi := obAt_some hy
          refine ⟨ρ, F, d, e1, hx, fun v F1 H1 a1 pd => ?_⟩
          have g := e1.go a1
          obtain ⟨p, C', dx, vs, b1, b2, b3, b4, b5, b6, b7, b8⟩ := (g.obs i _ fs hi).ex
          have bc := b2.1
          rw [hn] at bc
          cases bc
          have l := b6.lenE
          refine ⟨_, b1, p, C, dx, vs, rfl, b5, c, na, by omega, q σ F1 _ ?_⟩
          obtain ⟨k1, k2⟩ := b6.putD (f := f) pd c2
          refine g.mutOb hi b1 b5 (k1.go (Ex.refl F1) fun r hr => ?_) (by rw [k2]; exact b7) (by rw [k2]; exact b8)
          obtain ⟨z1, z2, ws, z3⟩ := k1.own_ex r hr
          exact ⟨z1, z2, upd_ne fun (z : r = p) => by rw [z, b5] at z3; cases z3⟩
        · cases e2⟩
theorem ms_fldO {m : Rho → Option (List D)} (hn : PySem.W.nsIn X.K mainGlobals n = some (some (.ref C))) (c : Cls X.K C) (na : NoAttr X.K C f) (i : Nat) (h : MO X e m) (hN : X.N[i]? = some x := by rfl) (hv : Vis X.env.scope x := by first | exact Or.inl rfl | exact Or.inr (Or.inl rfl) | exact Or.inr (Or.inr rfl))
    (hd : (x == ("__debug__" : Str)) = false := by decide) (hcd : (x == ("__classdict__" : Str)) = false := by decide) (hs : swapsWith e (some (.Attribute (.Name x npos) f apos)) pos.line X.env = pure false := by rfl) : MS X W (.Assign [.Attribute (.Name x npos) f apos] e pos) (mFldO i n f m) :=
  ⟨fun F0 H0 => ps_weak (ps_fld (pe_var hN hv hd hcd) (h.ok F0 H0) hs) fun Dn σ H ⟨ρ, F, r, e1, e2, q⟩ => by
    unfold mFldO at e2
    cases hx : m ρ with
    | none => rw [hx] at e2; cases e2
    | some d =>
      rw [hx] at e2
      cases hy : obAt ρ i with
      | none => simp [hy] at e2
      | some o =>
        simp only [hy, Option.bind_some] at e2
        split at e2
        · rename_i hc
          obtain ⟨c1, c2, c3⟩ := hc
          cases e2
          obtain ⟨n', fs⟩ := o
          simp only at c1 c2 c3 q ⊢
          subst c1
          have hi := obAt_some hy
          refine ⟨ρ, F, d, e1, hx, fun p2 ws F1 H1 a1 h0 h1 h2 h3 => ?_⟩
          have g := e1.go a1
          have h00 : H0 p2 = none := e1.adv.2.1.none h0
          obtain ⟨p, C', dx, vs, b1, b2, b3, b4, b5, b6, b7, b8⟩ := (g.obs i _ fs hi).ex
          have bc := b2.1
          rw [hn] at bc
          cases bc
          have l := b6.lenE
          have fr := e1.fresh_ob h0 a1.h i _ fs p C dx vs hi b1 b5
          refine ⟨_, b1, p, C, dx, vs, rfl, b5, c, na, by omega, q σ F1 _ ?_⟩
          obtain ⟨k1, k2⟩ := b6.putO (f := f) h1 h00 h2 h3 c2
          refine g.mutOb hi b1 b5 (k1.go (Ex.refl F1) fun r hr => ?_) (by rw [k2]; exact List.nodup_append.mpr ⟨b7, List.nodup_cons.mpr ⟨List.not_mem_nil, List.nodup_nil⟩, fun a ha b hb z => fr (by rw [← List.mem_singleton.mp hb, ← z]; exact ha)⟩) (by
            rw [k2]
            intro r hr j es x' z1 z2
            rcases List.mem_append.mp hr with hr | hr
            · exact b8 r hr j es x' z1 z2
            · rw [List.mem_singleton.mp hr]
              exact (e1.fresh h0 j es x' z1 z2).symm)
          obtain ⟨z1, z2, ws', z3⟩ := k1.own_ex r hr
          exact ⟨z1, z2, upd_ne fun (z : r = p) => by rw [z, b5] at z3; cases z3⟩
        · cases e2⟩
theorem me_getD (hn : PySem.W.nsIn X.K mainGlobals n = some (some (.ref C))) (c : Cls X.K C) (na : NoAttr X.K C f) (i : Nat) (hN : X.N[i]? = some x := by rfl) (hv : Vis X.env.scope x := by first | exact Or.inl rfl | exact Or.inr (Or.inl rfl) | exact Or.inr (Or.inr rfl))
    (hd : (x == ("__debug__" : Str)) = false := by decide) (hcd : (x == ("__classdict__" : Str)) = false := by decide) (hb : attributeBase (.Name x npos) f X.env (eval (.Name x npos) X.env) = eval (.Name x npos) X.env := by rfl) : ME X (.Attribute (.Name x npos) f apos) (mGetD i n f) :=
  ⟨fun F0 H0 => pe_weak (pe_fld (pe_var hN hv hd hcd) hb) fun σ H Q ⟨ρ, F, d, e1, e2, q⟩ => by
    unfold mGetD at e2
    cases hy : obAt ρ i with
    | none => simp [hy] at e2
    | some o =>
      simp only [hy, Option.bind_some] at e2
      split at e2
      · rename_i c1
        cases hg : getFd f o.2 with
        | none => simp [hg] at e2
        | some fd =>
          simp only [hg, Option.bind_some] at e2
          cases fd with
          | own ds => cases e2
          | dat d' =>
            cases e2
            obtain ⟨n', fs⟩ := o
            simp only at c1 hg
            subst c1
            obtain ⟨p, C', dx, vs, b1, b2, b3, b4, b5, b6, b7, b8⟩ := (e1.obs i _ fs (obAt_some hy)).ex
            have bc := b2.1
            rw [hn] at bc
            cases bc
            obtain ⟨v, k1, k2⟩ := b6.getD hg
            exact ⟨_, b1, p, C, dx, vs, v, rfl, b5, c, na, k1, q v F H (Adv.refl e1.fh) k2⟩
      · cases e2⟩
theorem mt_getO (hn : PySem.W.nsIn X.K mainGlobals n = some (some (.ref C))) (c : Cls X.K C) (na : NoAttr X.K C f) (i : Nat) (hN : X.N[i]? = some x := by rfl) (hv : Vis X.env.scope x := by first | exact Or.inl rfl | exact Or.inr (Or.inl rfl) | exact Or.inr (Or.inr rfl))
    (hd : (x == ("__debug__" : Str)) = false := by decide) (hcd : (x == ("__classdict__" : Str)) = false := by decide) (hb : attributeBase (.Name x npos) f X.env (eval (.Name x npos) X.env) = eval (.Name x npos) X.env := by rfl) : MT X (.Attribute (.Name x npos) f apos) (mGetO i n f) :=
  ⟨fun F0 H0 => pe_weak (pe_fld (pe_var hN hv hd hcd) hb) fun σ H Q ⟨ρ, F, d, e1, e2, q⟩ => by
    unfold mGetO at e2
    cases hy : obAt ρ i with
    | none => simp [hy] at e2
    | some o =>
      simp only [hy, Option.bind_some] at e2
      split at e2
      · rename_i c1
        cases hg : getFd f o.2 with
        | none => simp [hg] at e2
        | some fd =>
          simp only [hg, Option.map_some, Option.some.injEq] at e2
          obtain ⟨n', fs⟩ := o
          simp only at c1 hg
          subst c1
          obtain ⟨p, C', dx, vs, b1, b2, b3, b4, b5, b6, b7, b8⟩ := (e1.obs i _ fs (obAt_some hy)).ex
          have bc := b2.1
          rw [hn] at bc
          cases bc
          cases fd with
          | own ds =>
            subst e2
            obtain ⟨r, ws, k1, k2, k3, k4, k5, k6⟩ := b6.getO hg
            exact ⟨_, b1, p, C, dx, vs, _, rfl, b5, c, na, k1, q _ F H (Adv.refl e1.fh) (.inr ⟨r, ws, ds, rfl, rfl, k3, k5, k6⟩)⟩
          | dat d' =>
            subst e2
            obtain ⟨v, k1, k2⟩ := b6.getD hg
            exact ⟨_, b1, p, C, dx, vs, v, rfl, b5, c, na, k1, q v F H (Adv.refl e1.fh) (.inl k2)⟩
      · cases e2⟩
end
end MV

set_option maxRecDepth 100000
set_option maxHeartbeats 4000000
/-! __init__ of own classes, C(..) -/
namespace MV
open PySem PySem.Spec PyProof.Rows L2

inductive OutI where
  | ok (fs : List (Str × Fd))
  | er (e : Exn)
def GoI (K : PySem.W.Frag) (mg : Str → Option Value) (F H : Hp) (p C : Addr) (Q : VK) (E : XK) : OutI → Prop
  | .ok fs => ∀ dx' vs F' H', Adv F (L2.del H p) F' H' → F' p = none → H' p = some (.ins C dx' vs) → FdAll K (L2.del H p) F' H' vs fs → (ownR vs fs).Nodup → Q .non H'
  | .er e => ∀ F' H' cls dd, Adv F (L2.del H p) F' H' → XA K mg F' e cls dd → E cls dd H'
def spI (K : PySem.W.Frag) (mg : Str → Option Value) (n : Str) (m : List D → Option OutI) (vs : List V) (H : Hp) (Q : VK) (E : XK) : Prop :=
  ∃ p C dx vs' F ds o, vs = .ref p :: vs' ∧ PySem.W.nsIn K mainGlobals n = some (some (.ref C)) ∧ H p = some (.ins C dx []) ∧ F p = none ∧ Ex F H ∧ DpAll K F vs' ds ∧ m ds = some o ∧ GoI K mg F H p C Q E o
structure FnI (P : Program) (w : World) (K : PySem.W.Frag) (mg : Str → Option Value) (base : Heap) (k : Nat) (f : Addr) (fd : FuncData) (ps : List Str) (n : Str) (m : List D → Option OutI) : Prop where
  len : ∀ ds d, m ds = some d → ds.length + 1 = ps.length
  run : ∀ (A : Around) (outer : List Env) (s : Shared) (H : Hp) (args : Args) (us : List Value) (vs : List V) (Q : VK) (E : XK), A.guards = some [] → Room k A → Env0 P w K mg base A outer s H →
    BindsTo s fd args (ps.zip us) → Vals vs us → spI K mg n m vs H Q E → codeAny (model P w) A (.call (.ref f) args) (CR (L2.CX P w) outer P w H s Q E) s
def endI (n : Str) (p : Addr) : Res → Option OutI
  | .nx ρ => (obAt ρ 0).bind fun o => if o.1 = (n, some p) then some (.ok o.2) else none
  | .ex e _ => some (.er e)
  | _ => none
def startCells (n : Str) (j : Nat) (p : Addr) (ds : List D) : Rho := .ob (n, some p) [] :: (ds.map Cell.dat ++ List.replicate j Cell.un)
open Classical in
noncomputable def runDefI (n : Str) (np j : Nat) (body : Rho → Option Res) : List D → Option OutI := fun ds => if h : ∃ o, ds.length + 1 = np ∧ ∀ p, (body (startCells n j p ds)).bind (endI n p) = some o then some h.choose else none
theorem runI_spec {n : Str} {np j : Nat} {body : Rho → Option Res} {ds : List D} {o : OutI} (h : runDefI n np j body ds = some o) : ds.length + 1 = np ∧ ∀ p, (body (startCells n j p ds)).bind (endI n p) = some o := by
  unfold runDefI at h
  split at h
  · rename_i hx
    cases h
    exact hx.choose_spec
  · cases h
theorem runI_ok {n : Str} {np j : Nat} {body : Rho → Option Res} {ds : List D} {o : OutI} (hl : ds.length + 1 = np) (h : ∀ p, ∃ r, body (startCells n j p ds) = some r ∧ endI n p r = some o) : runDefI n np j body ds = some o := by
  have hx : ∃ o, ds.length + 1 = np ∧ ∀ p, (body (startCells n j p ds)).bind (endI n p) = some o := ⟨o, hl, fun p => by
    obtain ⟨r, h1, h2⟩ := h p
    rw [h1]
    exact h2⟩
  unfold runDefI
  rw [dif_pos hx]
  have k := hx.choose_spec.2 0
  obtain ⟨r, h1, h2⟩ := h 0
  rw [h1] at k
  change endI n 0 r = _ at k
  rw [h2] at k
  exact congrArg some (Option.some.inj k).symm
section
variable {P : Program} {w : World} {K : PySem.W.Frag} {mg : Str → Option Value} {base : Heap}
/-- a def that may raise by whatever its body's reading promises -/
theorem fn_spE {x qual : Str} {st : Stmt} {f : Addr} {fd : FuncData} {N ps : List Str} {k : Nat} {dvs : List V} {kws : List (Str × V)} {sp : List V → Hp → VK → XK → Prop} (D0 : FunD K x qual (defArgs st) (defBody st) (defScope st) dvs kws f fd) (S : FnScope N ps (defScope st))
    (hl : ∀ vs H Q E, sp vs H Q E → vs.length = ps.length)
    (hbody : ∀ (cdv : Value) (A : Around) (outer : List Env) (s : Shared) (H : Hp) (E : XK), (A.deeper (envOfC qual (defScope st) s.heap.objs.size f cdv)).guards = some [] → Room k (A.deeper (envOfC qual (defScope st) s.heap.objs.size f cdv)) → ∀ vs Q, sp vs H Q E →
      ∃ t : TS, PSs (cxOf (L2.CX P w) P w K mg base N qual (defScope st) f cdv A outer s H E) (defBody st) t ∧ t { nx := fun _ H' => Q .non H', rt := Q } (start N vs) H) :
    ∀ (A : Around) (outer : List Env) (s : Shared) (H : Hp) (args : Args) (us : List Value) (vs : List V) (Q : VK) (E : XK), A.guards = some [] → Room (k + 1) A → Env0 P w K mg base A outer s H →
    BindsTo s fd args (ps.zip us) → Vals vs us → sp vs H Q E → codeAny (model P w) A (.call (.ref f) args) (CR (L2.CX P w) outer P w H s Q E) s := by
  obtain ⟨oc, od, dV, kV, doc, pm, an, cdv, ct, osl, rfl, lk, hcd, _, _⟩ := D0.ex
  intro A outer s H args us vs Q E hG hr e0 hb r h
  have hv := hl vs H Q E h
  have base_kept : ∀ b o, base.get? b = some o → s.heap.get? b = some o := fun b o z => (e0.bs b o z).1
  have KX : K.In s.heap := e0.mod.kin.keeps base_kept
  have hkind : ∀ y ∈ ps.zip us, (defScope st).names.lookup y.1 = some .local ∨ ((defScope st).names.lookup y.1 = some .cell ∧ ((cellsFrom (s.heap.objs.size + 1) (defScope st).names []).lookup y.1).isSome = true) := fun y hy =>
    (S.par y.1 (List.of_mem_zip (a := y.1) (b := y.2) hy).1).imp id fun c => ⟨c, PySem.W.cellsFrom_some _ _ _ (.inl c)⟩
  refine codeAny_call_function hr.depth (KX _ _ lk) rfl S.co S.gen rfl (PySem.W.codeRec_of KX hcd) (hb _ _ _ _ (wpAny_newFunctionEnv_cells S.kind hkind fun env he s1 z => ?_))
  subst he
  refine ⟨(e0.mod.nolimit.keeps base_kept).keeps z.toInCall.keep, codeAny_func ?_⟩
  obtain ⟨t, ht, goal⟩ := hbody cdv A outer s H E hG (hr.deeper _) vs Q h
  have I : L2.Inv (cxOf (L2.CX P w) P w K mg base N qual (defScope st) f cdv A outer s H E) [] (start N vs) H s1 := inv_start S hr.hd e0 hv r z
  refine wpAny_mono (ht.run [] s1 (start N vs) H _ I goal) (fun fl s' hs => ?_) fun _ _ z => z
  match fl, hs with
  | .ret u, ⟨v, σ', H', J, rv, z⟩ => exact ⟨v, H', J.os, J.bare, J.base, J.hok, rv, z⟩
  | .next, ⟨σ', H', J, z⟩ => exact ⟨V.non, H', J.os, J.bare, J.base, J.hok, rfl, z⟩
  | .brk, ⟨_, _, _, z⟩ => exact False.elim z
  | .cont, ⟨_, _, _, z⟩ => exact False.elim z
theorem ex_del {F H : Hp} {p : Addr} (e : Ex F H) (f : F p = none) : Ex F (L2.del H p) := fun x u h => by
  rw [L2.del_ne (ne_of_none h f)]
  exact e x u h
theorem del_ex {H : Hp} {p : Addr} : Ex (L2.del H p) H := fun x u h => by
  by_cases hx : x = p
  · subst hx
    rw [L2.del_same] at h
    cases h
  · rwa [L2.del_ne hx] at h
theorem startI {F H : Hp} {N : List Str} {p C dx : Addr} {n : Str} {vs : List V} {ds : List D} (hn : PySem.W.nsIn K mainGlobals n = some (some (.ref C))) (hp : H p = some (.ins C dx [])) (hf : F p = none) (e : Ex F H) (pa : DpAll K F vs ds) (hl : vs.length + 1 ≤ N.length) :
    EnvOk K F (L2.del H p) F H (start N (.ref p :: vs)) (startCells n (N.length - (vs.length + 1)) p ds) := by
  have l := dal_len pa
  have cell : ∀ (i : Nat) c, (ds.map Cell.dat ++ List.replicate (N.length - (vs.length + 1)) Cell.un)[i]? = some c → c = .un ∨ ∃ d, ds[i]? = some d ∧ c = .dat d := fun i c h => by
    by_cases hi : i < ds.length
    · rw [List.getElem?_append_left (by simpa using hi), List.getElem?_map, List.getElem?_eq_getElem hi] at h
      cases h
      exact .inr ⟨_, List.getElem?_eq_getElem hi, rfl⟩
    · rw [List.getElem?_append_right (by simpa using hi), List.getElem?_replicate] at h
      split at h
      · cases h; exact .inl rfl
      · cases h
  have noOwn : ∀ (i : Nat) es, (startCells n (N.length - (vs.length + 1)) p ds)[i]? = some (.own es) → False := fun i es hi => by
    unfold startCells at hi
    cases i with
    | zero => cases hi
    | succ i =>
      rw [List.getElem?_cons_succ] at hi
      rcases cell i _ hi with h | ⟨d', h, h2⟩
      · cases h
      · cases h2
  have ob0 : ∀ (i : Nat) m gs, (startCells n (N.length - (vs.length + 1)) p ds)[i]? = some (.ob m gs) → i = 0 ∧ m = (n, some p) ∧ gs = [] := fun i m gs hi => by
    unfold startCells at hi
    cases i with
    | zero => cases hi; exact ⟨rfl, rfl, rfl⟩
    | succ i =>
      rw [List.getElem?_cons_succ] at hi
      rcases cell i _ hi with h | ⟨d', h, h2⟩
      · cases h
      · cases h2
  refine ⟨⟨Ex.refl _, del_ex, e⟩, fun _ h _ => h, ?_, fun i d hi => ?_, fun i ys hi => (noOwn i ys hi).elim, fun i j ys zs p hi _ _ _ => (noOwn i ys hi).elim, fun i a hi => ?_, fun i m gs hi => ?_⟩
  · unfold L2.start startCells
    simp [l]
  · unfold startCells at hi
    cases i with
    | zero => cases hi
    | succ i =>
      rw [List.getElem?_cons_succ] at hi
      rcases cell i _ hi with h | ⟨d', h, h2⟩
      · cases h
      · cases h2
        obtain ⟨v, h3, h4⟩ := dal_get pa h
        refine ⟨v, ?_, h4⟩
        unfold L2.start
        have hv := (List.getElem?_eq_some_iff.mp h3).1
        rw [List.getElem?_append_left (by simpa using hv), List.getElem?_map, List.getElem?_cons_succ, h3]
        rfl
  · unfold startCells at hi
    cases i with
    | zero => cases hi
    | succ i =>
      rw [List.getElem?_cons_succ] at hi
      rcases cell i _ hi with h | ⟨d', h, h2⟩
      · cases h
      · cases h2
  · obtain ⟨rfl, rfl, rfl⟩ := ob0 i m gs hi
    refine ⟨⟨p, C, dx, [], ?_, ⟨hn, fun a z => Option.some.inj z⟩, hf, L2.del_same, hp, .nil, List.nodup_nil, fun r hr => nomatch hr⟩, fun j m' gs' hj => (ob0 j m' gs' hj).1⟩
    unfold L2.start
    rfl
theorem fn_defI {x qual : Str} {st : Stmt} {f : Addr} {fd : FuncData} {N ps : List Str} {k : Nat} {n : Str} {body : Rho → Option Res} {dvs : List V} {kws : List (Str × V)} (D0 : FunD K x qual (defArgs st) (defBody st) (defScope st) dvs kws f fd) (S : FnScope N ps (defScope st))
    (hbody : ∀ (cdv : Value) (A : Around) (outer : List Env) (s : Shared) (H : Hp) (E : XK), (A.deeper (envOfC qual (defScope st) s.heap.objs.size f cdv)).guards = some [] → Room k (A.deeper (envOfC qual (defScope st) s.heap.objs.size f cdv)) →
      MSs (cxOf (L2.CX P w) P w K mg base N qual (defScope st) f cdv A outer s H E) (fun cls d _ H' => E cls d H') (defBody st) body) : FnI P w K mg base (k + 1) f fd ps n (runDefI n ps.length (N.length - ps.length) body) := by
  have len : ∀ ds d, runDefI n ps.length (N.length - ps.length) body ds = some d → ds.length + 1 = ps.length := fun ds d h => (runI_spec h).1
  refine ⟨len, fn_spE D0 S (fun vs H Q E ⟨p, C, dx, vs', F, ds, o, e1, _, _, _, _, pa, hm, _⟩ => by rw [e1, List.length_cons, dal_len pa]; exact len ds o hm) fun cdv A outer s H E hG hr vs Q h => ?_⟩
  obtain ⟨p, C, dx, vs', F, ds, o, rfl, hn, hp, hf, ex, pa, hm, q⟩ := h
  have hl := len ds o hm
  have hv := dal_len pa
  have le := pre_le S
  have st0 := startI (N := N) hn hp hf ex pa (by omega)
  rw [show N.length - (vs'.length + 1) = N.length - ps.length by omega] at st0
  have hm2 := (runI_spec hm).2 p
  cases hbd : body (startCells n (N.length - ps.length) p ds) with
  | none => rw [hbd] at hm2; cases hm2
  | some res =>
    rw [hbd] at hm2
    change endI n p res = some o at hm2
    refine ⟨_, (hbody cdv A outer s H E hG hr).ok F (L2.del H p), _, F, res, st0, hbd, ?_⟩
    cases res with
    | nx ρ' =>
      change ((obAt ρ' 0).bind fun o => if o.1 = (n, some p) then some (OutI.ok o.2) else none) = some o at hm2
      cases hy : obAt ρ' 0 with
      | none => rw [hy] at hm2; cases hm2
      | some b =>
        rw [hy] at hm2
        simp only [Option.bind_some] at hm2
        split at hm2
        · rename_i c1
          cases hm2
          obtain ⟨tg, fs⟩ := b
          simp only at c1 q
          subst c1
          refine fun σ' F' H' e' => ?_
          have hi := obAt_some hy
          obtain ⟨p', C', dx', vs2, b1, b2, b3, b4, b5, b6, b7, b8⟩ := (e'.obs 0 _ fs hi).ex
          have bc : PySem.W.nsIn K mainGlobals n = some (some (.ref C')) := b2.1
          rw [hn] at bc
          cases bc
          have hpp : p' = p := b2.2 p rfl
          subst hpp
          exact q dx' vs2 F' H' e'.toAdv b3 b5 b6 b7
        · cases hm2
    | ex e ρ' =>
      cases hm2
      exact fun σ' F' H' cls dd e' xa => q F' H' cls dd e'.toAdv xa
    | rt d => cases hm2
    | bk ρ' => cases hm2
    | ct ρ' => cases hm2
    | ro es => cases hm2
    | rs d ρ => cases hm2
end
/-! ### C(..) -/
def GoM (K : PySem.W.Frag) (mg : Str → Option Value) (F H : Hp) (C : Addr) (Q : VK) (E : XK) : OutI → Prop
  | .ok fs => ∀ x dx vs F' H', Adv F H F' H' → H x = none → F' x = none → H' x = some (.ins C dx vs) → FdAll K H F' H' vs fs → (ownR vs fs).Nodup → Q (.ref x) H'
  | .er e => ∀ F' H' cls dd, Adv F H F' H' → XA K mg F' e cls dd → E cls dd H'
def spMk (K : PySem.W.Frag) (mg : Str → Option Value) (C : Addr) (m : List D → Option OutI) (vs : List V) (H : Hp) (Q : VK) (E : XK) : Prop := ∃ F ds o, Ex F H ∧ DpAll K F vs ds ∧ m ds = some o ∧ GoM K mg F H C Q E o
section
variable {X : Cx} {W : WX} {e : Expr} {es : List Expr} {ma : Rho → Option (List D)} {pos pos' p : Pos} {n x : Str} {C fA : Addr} {k : Nat} {fd : FuncData} {ps : List Str} {dvs : List V} {dus : List Value} {dds : List D} {mI : List D → Option OutI} {i : Nat}
theorem spI_of {H : Hp} {vs : List V} {y dy : Addr} {Q : VK} {E : XK} (hn : PySem.W.nsIn X.K mainGlobals n = some (some (.ref C))) (hx : H y = none) (hd : H dy = none) (hxy : dy ≠ y) (h : spMk X.K X.mg C mI vs H Q E) :
    spI X.K X.mg n mI (.ref y :: vs) (upd (upd H dy (.own y)) y (.ins C dy [])) (fun v H2 => v = .non ∧ Q (.ref y) H2) E := by
  obtain ⟨F, ds, o, ex, pa, hm, q⟩ := h
  have fy : F y = none := ex.none hx
  have de : L2.del (upd (upd H dy (.own y)) y (.ins C dy [])) y = upd H dy (.own y) := by
    funext b
    by_cases hb : b = y
    · rw [hb, L2.del_same, upd_ne (Ne.symm hxy), hx]
    · rw [L2.del_ne hb, upd_ne hb]
  have e1 : Ex H (upd H dy (.own y)) := Ex.new hd
  have e2 : Ex (upd H dy (.own y)) (upd (upd H dy (.own y)) y (.ins C dy [])) := Ex.new (by rw [upd_ne (Ne.symm hxy)]; exact hx)
  have adv : ∀ {F' H' : Hp}, Adv F (L2.del (upd (upd H dy (.own y)) y (.ins C dy [])) y) F' H' → Adv F H F' H' := fun a => by
    rw [de] at a
    refine ⟨a.f, e1.trans a.h, a.fh, fun q h1 h2 => a.new q h1 ?_⟩
    rw [upd_ne fun (z : q = dy) => h2 (by rw [z]; exact hd)]
    exact h2
  refine ⟨y, C, dy, vs, F, ds, o, rfl, hn, upd_same, fy, ex.trans (e1.trans e2), pa, hm, ?_⟩
  cases o with
  | ok fs =>
    refine fun dx' ws F' H' a hf ho fdl nd => ⟨rfl, q y dx' ws F' H' (adv a) hx hf ho (fdl.go (Ex.refl F') fun r hr => ?_) nd⟩
    obtain ⟨z1, z2, us, z3⟩ := fdl.own_ex r hr
    rw [de] at z2
    refine ⟨z1, ?_, rfl⟩
    by_cases hr : r = dy
    · rw [hr, upd_same] at z2
      cases z2
    · rwa [upd_ne hr] at z2
  | er x => exact fun F' H' cls dd a xa => q F' H' cls dd (adv a) xa
theorem run_makeI {pins : List (Addr × Obj)} {σ : L2.St} {H : Hp} {s : Shared} {Q : VK} {us : List Value} {vs : List V} {E : XK} (M : Mk X.K C fA) (G : FnI X.prog X.w X.K X.mg X.base k fA fd ps n mI) (hn : PySem.W.nsIn X.K mainGlobals n = some (some (.ref C))) (hG : X.A.guards = some []) (hr : Room (k + 1) X.A)
    (hb : Binds X.K fd ps dus) (hd : Vals dvs dus) (hx : ∀ (pins : List (Addr × Obj)) (H : Hp) (s : Shared) (er : Value) (s' : Shared), L2.Inv X pins σ H s → L2.CX X.prog X.w X.stack H s E er s' → X.xe er s') (I : L2.Inv X pins σ H s) (r : Vals vs us) (h : spMk X.K X.mg C mI (vs ++ dvs) H Q E) :
    wpAny (model X.prog X.w) X.A (call (.ref C) us) (EP X pins σ Q) X.xe s := by
  have hq := spI_of (y := s.heap.objs.size + 1) (dy := s.heap.objs.size) hn (I.hok.fresh (Nat.le_succ _)) (I.hok.fresh (Nat.le_refl _)) (Nat.ne_of_lt (Nat.lt_succ_self _)) h
  have I2 := Inv.made (C := C) I
  have r2 : Vals (V.ref (s.heap.objs.size + 1) :: (vs ++ dvs)) (Value.ref (s.heap.objs.size + 1) :: (us ++ dus)) := .cons rfl (r.append hd)
  have hl : (Value.ref (s.heap.objs.size + 1) :: us ++ dus).length = ps.length := by
    have e := r2.length
    obtain ⟨F, ds, o, _, pa, hm, _⟩ := h
    have l1 := G.len ds o hm
    have l2 := dal_len pa
    rw [List.cons_append, ← e, List.length_cons, l2, l1]
  refine wpAny_call (make_map (f := fA) I.kIn M.makes M.init (beq_iff_eq.mp M.fn) (codeAny_mono (G.run _ X.stack _ _ ⟨Value.ref (s.heap.objs.size + 1) :: us, []⟩ (Value.ref (s.heap.objs.size + 1) :: (us ++ dus)) _ _ E hG (hr.make C us [])
    (I2.env0.make C us []) (hb _ (Value.ref (s.heap.objs.size + 1) :: us) I2.kIn hl) r2 hq) fun res s' hq' => ?_))
  match res, hq' with
  | .error er, hq' => exact hx pins _ _ er s' I2 hq'
  | .ok (.ret u), hq' =>
    obtain ⟨v, H', I3, rv, ev, q3⟩ := I2.after hq'
    subst ev
    exact ⟨rv, ⟨V.ref (s.heap.objs.size + 1), H', I3, rfl, q3⟩⟩
  | .ok .next, hq' => exact False.elim hq'
  | .ok .brk, hq' => exact False.elim hq'
  | .ok .cont, hq' => exact False.elim hq'
end
end MV

set_option maxRecDepth 100000
set_option maxHeartbeats 4000000
/-! C(..) as an expression, and as what a slot gets -/
namespace MV
open PySem PySem.Spec PyProof.Rows L2

def allDat : List (Str × Fd) → Option (List D)
  | [] => some []
  | (_, .dat d) :: r => (allDat r).map (d :: ·)
  | _ => none
def outI (n : Str) : OutI → Option Out
  | .ok fs => (allDat fs).map fun ds => .ok (obD n (fs.map (·.1)) ds)
  | .er e => some (.er e)
def mMakeX (n : Str) (mI : List D → Option OutI) (dds : List D) (ma : Rho → Option (List D)) : Rho → Option Out := fun ρ => (ma ρ).bind fun ds => (mI (ds ++ dds)).bind (outI n)
def okO : Out → Option D
  | .ok d => some d
  | .er _ => none
def mMake (n : Str) (mI : List D → Option OutI) (dds : List D) (ma : Rho → Option (List D)) : Rho → Option D := fun ρ => (mMakeX n mI dds ma ρ).bind okO
section
variable {K : PySem.W.Frag} {F0 H0 F H F' H' : Hp} {σ : L2.St} {ρ : Rho} {vs : List (Str × V)} {fs : List (Str × Fd)} {f : Str}
theorem FdAll.names (h : FdAll K H0 F H vs fs) : vs.map (·.1) = fs.map (·.1) := by
  induction h with
  | nil => rfl
  | dat _ _ ih => rw [List.map_cons, List.map_cons, ih]
  | own _ _ _ _ _ ih => rw [List.map_cons, List.map_cons, ih]
theorem FdAll.all {ds : List D} (h : FdAll K H0 F H vs fs) (hd : allDat fs = some ds) : DpAll K F (vs.map (·.2)) ds := by
  induction h generalizing ds with
  | nil => cases hd; exact .nil
  | @dat g w x vs fs h1 h2 ih =>
    change (allDat fs).map (x :: ·) = some ds at hd
    cases ha : allDat fs with
    | none => rw [ha] at hd; cases hd
    | some es =>
      rw [ha] at hd
      cases hd
      exact .cons h1 (ih ha)
  | own _ _ _ _ _ _ => cases hd
theorem FdAll.frozen {n : Str} {x C dx : Addr} {ds : List D} (hn : PySem.W.nsIn K mainGlobals n = some (some (.ref C))) (fx : F x = none) (h : FdAll K H0 F H vs fs) (hd : allDat fs = some ds) : Dp K (upd F x (.ins C dx vs)) (.ref x) (obD n (fs.map (·.1)) ds) := by
  rw [← h.names]
  exact .obj hn upd_same (dpa_ex (Ex.new fx) _ _ (h.all hd))
end
section
variable {X : Cx} {W : WX} {e : Expr} {es : List Expr} {ma : Rho → Option (List D)} {pos pos' p : Pos} {n x : Str} {C fA : Addr} {k : Nat} {fd : FuncData} {ps : List Str} {dvs : List V} {dus : List Value} {dds : List D} {mI : List D → Option OutI} {i : Nat}
/-- a call of the class: the reading -/
def tMk (X : Cx) (C : Addr) (mI : List D → Option OutI) (dds : List D) (E : L2.St → XK) (F0 H0 : Hp) (ma : Rho → Option (List D)) : TE := fun σ H Q => ∃ ρ F ds o, EnvOk X.K F0 H0 F H σ ρ ∧ ma ρ = some ds ∧ mI (ds ++ dds) = some o ∧ GoM X.K X.mg F H C Q (E σ) o
theorem pe_mk {E : L2.St → XK} (M : Mk X.K C fA) (G : FnI X.prog X.w X.K X.mg X.base k fA fd ps n mI) (hn : PySem.W.nsIn X.K mainGlobals n = some (some (.ref C))) (hG : X.A.guards = some []) (hr : Room (k + 1) X.A) (hm : X.mg x = some (.ref C)) (hb : Binds X.K fd ps dus) (hd : Vals dvs dus) (hdd : ∀ F : Hp, DpAll X.K F dvs dds)
    (hx : ∀ (σ : L2.St) (pins : List (Addr × Obj)) (H : Hp) (s : Shared) (er : Value) (s' : Shared), L2.Inv X pins σ H s → L2.CX X.prog X.w X.stack H s (E σ) er s' → X.xe er s')
    (ha : MAE X (e :: es) ma) (hg : Gl X x := by rfl) (hdb : (x == ("__debug__" : Str)) = false := by decide) (hst : starEach (e :: es) X.env = (false, eval e X.env) :: starEach es X.env := by rfl) (hpl : (backTo pos (starEach es X.env)).any (·.1) = false := by rfl) :
    ∀ F0 H0, PE X (.Call (.Name x p) (e :: es) [] pos) (tMk X C mI dds E F0 H0 ma) := fun F0 H0 => ⟨fun pins s σ H Q I ⟨ρ, F, ds, o, e1, hy, e2, q⟩ => by
  refine wpAny_Call_Name_kw (ld_glob I hg hm (PySem.W.callWith_K (h₀ := X.base) I.ok.mod.kin M.kp (thn ((ha.ok F0 H0).run pos pins s σ H (fun vs H1 => ∃ F1, Adv F H F1 H1 ∧ DpAll X.K F1 vs ds) I ⟨ρ, F, ds, e1, hy, fun vs F1 H1 a1 pa => ⟨F1, a1, pa⟩⟩) fun us s1 ⟨vs, H1, I1, r, F1, a1, pa⟩ => ⟨I1.kIn, ?_⟩) hst hpl) hdb)
  refine run_makeI M G hn hG hr hb hd (hx σ) I1 r (E := E σ) ⟨F1, ds ++ dds, o, a1.fh, dal_app pa (hdd F1), e2, ?_⟩
  cases o with
  | ok fs => exact fun y dx ws F' H' a2 h0 hf ho fdl nd => q y dx ws F' H' (a1.trans a2) (a1.h.none h0) hf ho (fdl.go (Ex.refl F') fun r hr => by
      obtain ⟨z1, z2, us, z3⟩ := fdl.own_ex r hr
      exact ⟨z1, a1.h.none z2, rfl⟩) nd
  | er x => exact fun F' H' cls dd a2 xa => q F' H' cls dd (a1.trans a2) xa⟩
theorem mx_make (M : Mk X.K C fA) (G : FnI X.prog X.w X.K X.mg X.base k fA fd ps n mI) (hn : PySem.W.nsIn X.K mainGlobals n = some (some (.ref C))) (hG : X.A.guards = some []) (hr : Room (k + 1) X.A) (tk : Takes X W) (hm : X.mg x = some (.ref C)) (hb : Binds X.K fd ps dus) (hd : Vals dvs dus) (hdd : ∀ F : Hp, DpAll X.K F dvs dds)
    (ha : MAE X (e :: es) ma) (hg : Gl X x := by rfl) (hdb : (x == ("__debug__" : Str)) = false := by decide) (hst : starEach (e :: es) X.env = (false, eval e X.env) :: starEach es X.env := by rfl) (hpl : (backTo pos (starEach es X.env)).any (·.1) = false := by rfl) :
    MX X W (.Call (.Name x p) (e :: es) [] pos) (mMakeX n mI dds ma) := ⟨fun F0 H0 => pe_weak (pe_mk (E := fun σ => WE W σ) M G hn hG hr hm hb hd hdd (fun σ pins H s er s' I h => passAt tk σ pins H s er s' I h) ha hg hdb hst hpl F0 H0) fun σ H Q ⟨ρ, F, o, e1, e2, q⟩ => by
  unfold mMakeX at e2
  cases hy : ma ρ with
  | none => rw [hy] at e2; cases e2
  | some ds =>
    rw [hy] at e2
    simp only [Option.bind_some] at e2
    cases hz : mI (ds ++ dds) with
    | none => rw [hz] at e2; cases e2
    | some b =>
      rw [hz] at e2
      change outI n b = some o at e2
      refine ⟨ρ, F, ds, b, e1, hy, hz, ?_⟩
      cases b with
      | er x => cases e2; exact q
      | ok fs =>
        change (allDat fs).map (fun ds => Out.ok (obD n (fs.map (·.1)) ds)) = some o at e2
        cases ha : allDat fs with
        | none => rw [ha] at e2; cases e2
        | some us =>
          rw [ha] at e2
          cases e2
          exact fun y dx ws F' H' a h0 hf ho fdl nd => q _ _ _ (a.freeze h0 hf ho) (fdl.frozen hn hf ha)⟩
theorem me_make (M : Mk X.K C fA) (G : FnI X.prog X.w X.K X.mg X.base k fA fd ps n mI) (hn : PySem.W.nsIn X.K mainGlobals n = some (some (.ref C))) (hG : X.A.guards = some []) (hr : Room (k + 1) X.A) (hm : X.mg x = some (.ref C)) (hb : Binds X.K fd ps dus) (hd : Vals dvs dus) (hdd : ∀ F : Hp, DpAll X.K F dvs dds)
    (ha : MAE X (e :: es) ma) (hg : Gl X x := by rfl) (hdb : (x == ("__debug__" : Str)) = false := by decide) (hst : starEach (e :: es) X.env = (false, eval e X.env) :: starEach es X.env := by rfl) (hpl : (backTo pos (starEach es X.env)).any (·.1) = false := by rfl) :
    ME X (.Call (.Name x p) (e :: es) [] pos) (mMake n mI dds ma) := ⟨fun F0 H0 => pe_weak (pe_mk (E := fun _ _ _ _ => False) M G hn hG hr hm hb hd hdd (fun σ pins H s er s' I h => by
      obtain ⟨_, _, _, _, _, _, _, _, _, _, _, _, z⟩ := h
      exact z.elim) ha hg hdb hst hpl F0 H0) fun σ H Q ⟨ρ, F, d, e1, e2, q⟩ => by
  unfold mMake mMakeX at e2
  cases hy : ma ρ with
  | none => rw [hy] at e2; cases e2
  | some ds =>
    rw [hy] at e2
    simp only [Option.bind_some] at e2
    cases hz : mI (ds ++ dds) with
    | none => rw [hz] at e2; cases e2
    | some b =>
      rw [hz] at e2
      change (outI n b).bind okO = some d at e2
      refine ⟨ρ, F, ds, b, e1, hy, hz, ?_⟩
      cases b with
      | er x => cases e2
      | ok fs =>
        change ((allDat fs).map (fun ds => Out.ok (obD n (fs.map (·.1)) ds))).bind okO = some d at e2
        cases ha : allDat fs with
        | none => rw [ha] at e2; cases e2
        | some us =>
          rw [ha] at e2
          cases e2
          exact fun y dx ws F' H' a h0 hf ho fdl nd => q _ _ _ (a.freeze h0 hf ho) (fdl.frozen hn hf ha)⟩
/-! x = C(..), the object still to be written -/
def noOb : Rho → Bool
  | [] => true
  | .ob _ _ :: _ => false
  | _ :: r => noOb r
theorem noOb_at : ∀ {ρ : Rho}, noOb ρ = true → ∀ (j : Nat) m gs, ρ[j]? = some (.ob m gs) → False
  | [], _, j, m, gs, hj => by simp at hj
  | c :: r, h, j, m, gs, hj => by
    have hc : (∀ m gs, c ≠ .ob m gs) ∧ noOb r = true := by
      cases c with
      | ob m gs => cases h
      | un => exact ⟨fun _ _ z => (nomatch z), h⟩
      | dat d => exact ⟨fun _ _ z => (nomatch z), h⟩
      | own d => exact ⟨fun _ _ z => (nomatch z), h⟩
      | rf d => exact ⟨fun _ _ z => (nomatch z), h⟩
    cases j with
    | zero =>
      cases hj
      exact hc.1 _ _ rfl
    | succ j =>
      rw [List.getElem?_cons_succ] at hj
      exact noOb_at hc.2 j m gs hj
theorem EnvOk.setOb {K : PySem.W.Frag} {F0 H0 F H F' H' : Hp} {σ : L2.St} {ρ : Rho} {y dx : Addr} {vs : List (Str × V)} {fs : List (Str × Fd)} (hn : PySem.W.nsIn K mainGlobals n = some (some (.ref C))) (e : EnvOk K F0 H0 F H σ ρ) (a : Adv F H F' H') (h0 : H y = none) (hf : F' y = none) (ho : H' y = some (.ins C dx vs))
    (fdl : FdAll K H F' H' vs fs) (nd : (ownR vs fs).Nodup) (hno : noOb (ρ.set i .un) = true) : EnvOk K F0 H0 F' H' (σ.set i (some (.ref y))) (ρ.set i (.ob (n, none) fs)) := by
  have g := e.go a
  have h00 : H0 y = none := e.adv.2.1.none h0
  have no : ∀ (j : Nat) m gs, j ≠ i → ρ[j]? = some (.ob m gs) → False := fun j m gs hj h => noOb_at hno j m gs (by rw [List.getElem?_set_ne (Ne.symm hj)]; exact h)
  refine ⟨g.adv, g.new, by simpa using g.len, fun j d hj => ?_, fun j es hj => ?_, fun j k es gs q k1 k2 k3 k4 => ?_, rf_set (fun a z => nomatch z) g.rf, fun j m gs hj => ?_⟩
  · obtain ⟨k1, k2⟩ := set_old (σ := σ) (o := some (.ref y)) hj fun z => nomatch z
    rw [k2]
    exact g.dat j d k1
  · obtain ⟨k1, k2⟩ := set_old (σ := σ) (o := some (.ref y)) hj fun z => nomatch z
    rw [k2]
    exact g.own j es k1
  · obtain ⟨m1, m2⟩ := set_old (σ := σ) (o := some (.ref y)) k1 fun z => nomatch z
    obtain ⟨m3, m4⟩ := set_old (σ := σ) (o := some (.ref y)) k2 fun z => nomatch z
    rw [m2] at k3
    rw [m4] at k4
    exact g.dist j k es gs q m1 m3 k3 k4
  · rcases getElem?_set_cases hj with ⟨rfl, hd, hl⟩ | ⟨hne, hj⟩
    · cases hd
      refine ⟨⟨y, C, dx, vs, by rw [List.getElem?_set_self (by rw [← e.len]; exact hl)], ⟨hn, fun _ z => nomatch z⟩, hf, h00, ho, fdl.go (Ex.refl F') fun r hr => ?_, nd, fun r hr l es q g1 g2 z => ?_⟩, fun l m' gs' hl2 => ?_⟩
      · obtain ⟨z1, z2, _⟩ := fdl.own_ex r hr
        exact ⟨z1, e.adv.2.1.none z2, rfl⟩
      · obtain ⟨z1, z2, _⟩ := fdl.own_ex r hr
        obtain ⟨k1, k2⟩ := set_old (σ := σ) (o := some (.ref y)) g1 fun z => nomatch z
        rw [k2] at g2
        obtain ⟨ws, k⟩ := e.lsts l es q k1 g2
        rw [← z, z2] at k
        cases k
      · rcases getElem?_set_cases hl2 with ⟨rfl, _, _⟩ | ⟨hne, hl2⟩
        · rfl
        · exact (no l m' gs' hne hl2).elim
    · exact (no j m gs hne hj).elim
def mSetOb (i : Nat) (n : Str) (mI : List D → Option OutI) (dds : List D) (ma : Rho → Option (List D)) : Rho → Option Res := fun ρ => (ma ρ).bind fun ds => (mI (ds ++ dds)).bind fun o => match o with
  | .ok fs => if noOb (ρ.set i .un) = true then some (.nx (ρ.set i (.ob (n, none) fs))) else none
  | .er _ => none
theorem ms_setOb {y : Str} {p2 : Pos} (hN : X.N.Nodup) (M : Mk X.K C fA) (G : FnI X.prog X.w X.K X.mg X.base k fA fd ps n mI) (hn : PySem.W.nsIn X.K mainGlobals n = some (some (.ref C))) (hG : X.A.guards = some []) (hr : Room (k + 1) X.A) (hm : X.mg x = some (.ref C)) (hb : Binds X.K fd ps dus) (hd : Vals dvs dus) (hdd : ∀ F : Hp, DpAll X.K F dvs dds)
    (ha : MAE X (e :: es) ma) (hi : X.N[i]? = some y := by rfl) (hx : Loc X.env.scope y := by first | exact Or.inl rfl | exact Or.inr rfl) (hs : swapsWith (.Call (.Name x p) (e :: es) [] pos) (some (.Name y p2)) pos'.line X.env = pure false := by rfl)
    (hf : X.fn y = true ∨ X.env.scope.names.lookup y = some .local := by first | exact .inl rfl | exact .inr rfl | assumption)
    (hg : Gl X x := by rfl) (hdb : (x == ("__debug__" : Str)) = false := by decide) (hst : starEach (e :: es) X.env = (false, eval e X.env) :: starEach es X.env := by rfl) (hpl : (backTo pos (starEach es X.env)).any (·.1) = false := by rfl) :
    MS X W (.Assign [.Name y p2] (.Call (.Name x p) (e :: es) [] pos) pos') (mSetOb i n mI dds ma) := ⟨fun F0 H0 => ps_weak (ps_set hN hi hx (pe_mk (E := fun _ _ _ _ => False) M G hn hG hr hm hb hd hdd (fun σ pins H s er s' I h => by
      obtain ⟨_, _, _, _, _, _, _, _, _, _, _, _, z⟩ := h
      exact z.elim) ha hg hdb hst hpl F0 H0) hs hf) fun Dn σ H ⟨ρ, F, r, e1, e2, q⟩ => by
  unfold mSetOb at e2
  cases hy : ma ρ with
  | none => rw [hy] at e2; cases e2
  | some ds =>
    rw [hy] at e2
    simp only [Option.bind_some] at e2
    cases hz : mI (ds ++ dds) with
    | none => rw [hz] at e2; cases e2
    | some b =>
      rw [hz] at e2
      simp only [Option.bind_some] at e2
      cases b with
      | er x => cases e2
      | ok fs =>
        simp only at e2
        split at e2
        · rename_i hno
          cases e2
          exact ⟨ρ, F, ds, _, e1, hy, hz, fun y' dx ws F' H' a h0 hf' ho fdl nd => q _ F' H' (EnvOk.setOb hn e1 a h0 hf' ho fdl nd hno)⟩
        · cases e2⟩
end
end MV

set_option maxRecDepth 100000
set_option maxHeartbeats 4000000
/-! rules for objects -/
namespace MV
open PySem PySem.Spec PyProof.Rows L2
def neS (g f : Str) : Bool := decide (g ≠ f)
def newName (f : Str) : List Str → Bool
  | [] => true
  | g :: r => neS g f && newName f r
section
variable {ρ ρ' : Rho} {m mo : Rho → Option D} {ma : Rho → Option (List D)} {d o : D} {ds dds : List D} {i : Nat} {n f : Str} {op : Option Addr} {fs : List (Str × Fd)} {x y : Fd} {g : Str} {r : List (Str × Fd)}
theorem neS_ne {g f : Str} (h : neS g f = true) : ¬ g = f := of_decide_eq_true h
theorem new_get : ∀ {fs : List (Str × Fd)}, newName f (fs.map (·.1)) = true → getFd f fs = none
  | [], _ => rfl
  | (g, y) :: r, h => by
    change (neS g f && newName f (r.map (·.1))) = true at h
    rw [Bool.and_eq_true] at h
    show (if g = f then some y else getFd f r) = none
    rw [if_neg (neS_ne h.1)]
    exact new_get h.2
theorem new_put : ∀ {fs : List (Str × Fd)}, newName f (fs.map (·.1)) = true → putFd f x fs = fs ++ [(f, x)]
  | [], _ => rfl
  | (g, y) :: r, h => by
    change (neS g f && newName f (r.map (·.1))) = true at h
    rw [Bool.and_eq_true] at h
    show (if g = f then (g, x) :: r else (g, y) :: putFd f x r) = _
    rw [if_neg (neS_ne h.1), new_put h.2]
    rfl
theorem st_fldN (h : m ρ = some d) (hi : ρ[i]? = some (.ob (n, op) fs)) (hn : newName f (fs.map (·.1)) = true) (hl : fs.length < 100) {fs' : List (Str × Fd)} (ha : fs ++ [(f, .dat d)] = fs') (h2 : ρ.set i (.ob (n, op) fs') = ρ') : mFldD i n f m ρ = some (.nx ρ') := by
  unfold mFldD obAt
  rw [h, hi]
  show (if n = n ∧ notOwnFd (getFd f fs) = true ∧ fs.length < 100 then some (Res.nx (ρ.set i (.ob (n, op) (putFd f (.dat d) fs)))) else none) = _
  rw [if_pos ⟨rfl, by rw [new_get hn]; rfl, hl⟩, new_put hn, ha, h2]
theorem st_fldON {m : Rho → Option (List D)} (h : m ρ = some ds) (hi : ρ[i]? = some (.ob (n, op) fs)) (hn : newName f (fs.map (·.1)) = true) (hl : fs.length < 100) {fs' : List (Str × Fd)} (ha : fs ++ [(f, .own ds)] = fs') (h2 : ρ.set i (.ob (n, op) fs') = ρ') : mFldO i n f m ρ = some (.nx ρ') := by
  unfold mFldO obAt
  rw [h, hi]
  show (if n = n ∧ (getFd f fs).isNone = true ∧ fs.length < 100 then some (Res.nx (ρ.set i (.ob (n, op) (putFd f (.own ds) fs)))) else none) = _
  rw [if_pos ⟨rfl, by rw [new_get hn]; rfl, hl⟩, new_put hn, ha, h2]
theorem sn_0 {α : Type} {a : α} : [] ++ [a] = [a] := rfl
theorem sn_s {α : Type} {a b : α} {l l' : List α} (h : l ++ [a] = l') : (b :: l) ++ [a] = b :: l' := congrArg (b :: ·) h
theorem gf_hd : getFd f ((f, x) :: r) = some x := if_pos rfl
theorem gf_tl (h : neS g f = true) (k : getFd f r = some x) : getFd f ((g, y) :: r) = some x := (if_neg (neS_ne h)).trans k
theorem ge_dat (hi : ρ[i]? = some (.ob (n, op) fs)) (hg : getFd f fs = some (.dat d)) : mGetD i n f ρ = some d := by
  unfold mGetD obAt
  rw [hi]
  show (if n = n then (getFd f fs).bind _ else none) = _
  rw [if_pos rfl, hg]
  rfl
theorem ge_own (hi : ρ[i]? = some (.ob (n, op) fs)) (hg : getFd f fs = some (.own ds)) : mGetO i n f ρ = some (.list ds) := by
  unfold mGetO obAt
  rw [hi]
  show (if n = n then (getFd f fs).map _ else none) = _
  rw [if_pos rfl, hg]
  rfl
theorem ge_ownD (hi : ρ[i]? = some (.ob (n, op) fs)) (hg : getFd f fs = some (.dat d)) : mGetO i n f ρ = some d := by
  unfold mGetO obAt
  rw [hi]
  show (if n = n then (getFd f fs).map _ else none) = _
  rw [if_pos rfl, hg]
  rfl
theorem ex_meth {mm : Str} {mf : List D → Option D} (h : mo ρ = some o) (h2 : obIs n mm o = true) (h3 : ma ρ = some ds) (h4 : mf (o :: (ds ++ dds)) = some d) : mMeth n mm mf dds mo ma ρ = some d := by
  unfold mMeth
  rw [h, Option.bind_some, if_pos h2, h3]
  exact h4
theorem ex_meth1 {mm : Str} {mf : List D → Option D} (h : mo ρ = some o) (h2 : obIs n mm o = true) (h3 : ma ρ = some ds) (h4 : mf (o :: ds) = some d) : mMeth n mm mf [] mo ma ρ = some d :=
  ex_meth h h2 h3 (by rw [List.append_nil]; exact h4)
theorem ex_make {mI : List D → Option OutI} {us : List D} (h : ma ρ = some ds) (h2 : mI (ds ++ dds) = some (.ok fs)) (h3 : allDat fs = some us) (h4 : obD n (fs.map (·.1)) us = d) : mMake n mI dds ma ρ = some d := by
  unfold mMake mMakeX
  rw [h, Option.bind_some, h2, Option.bind_some]
  show ((allDat fs).map _).bind okO = _
  rw [h3, ← h4]
  rfl
theorem runI_go {np j : Nat} {body : Rho → Option Res} {fs : List (Str × Fd)} (hl : ds.length + 1 = np) (h : ∀ p, ∃ ρ, body (startCells n j p ds) = some (.nx ρ) ∧ ρ[0]? = some (.ob (n, some p) fs)) : runDefI n np j body ds = some (.ok fs) :=
  runI_ok hl fun p => by
    obtain ⟨ρ, h1, h2⟩ := h p
    refine ⟨_, h1, ?_⟩
    show (obAt ρ 0).bind _ = _
    unfold obAt
    rw [h2]
    exact if_pos rfl
theorem runI_er {np j : Nat} {body : Rho → Option Res} {e : Exn} (hl : ds.length + 1 = np) (h : ∀ p, ∃ ρ, body (startCells n j p ds) = some (.ex e ρ)) : runDefI n np j body ds = some (.er e) :=
  runI_ok hl fun p => by
    obtain ⟨ρ, h1⟩ := h p
    exact ⟨_, h1, rfl⟩
end
/-! list(..) of what is drawn -/
def wListO (w : Wp D) : Wp (List D) := fun ρ A => w ρ fun d => ∃ ds, seqOf d = some ds ∧ A ds
theorem n_listO {ρ : Rho} {w : Wp D} {AL : List D → Prop} (h : w ρ fun d => ∃ ds, seqOf d = some ds ∧ AL ds) : wListO w ρ AL := h
theorem no_list {X : Cx} {δ : Addr} {e : Expr} {p pos : Pos} {w : Wp D} (hm : X.mg "list" = none) (he : NT X δ e w) (hg : Gl X "list" := by rfl) (hs : starEach [e] X.env = (false, eval e X.env) :: starEach [] X.env := by rfl)
    (hpl : (backTo pos (starEach [] X.env)).any (·.1) = false := by rfl) : NO X δ (.Call (.Name "list" p) [e] [] pos) (wListO w) :=
  ⟨fun F0 H0 => pe_weak (pe_callTy call_list_of hg hm (by decide +kernel) (pa_cons (he.ok F0 H0) pa_nil hs) (by decide) (by decide) hs hpl) fun σ H Q ⟨ρ, F, A, e1, e2, q⟩ =>
    ⟨ρ, F, _, e1, e2, fun d ⟨ds, hd, hA⟩ v F1 H1 a1 t => by
      rcases seqOf_some hd with rfl | rfl
      · obtain ⟨p, vs, rfl, hs, pa⟩ := t.tp.list a1.fh
        exact ⟨p, vs, rfl, .inl hs, fun l hl => q ds hA l vs F1 _ (a1.kept e1.deck hl) (a1.free e1.deck hl) (a1.fh.none hl) upd_same pa⟩
      · obtain ⟨p, vs, rfl, hs, pa⟩ := t.tp.tuple a1.fh
        exact ⟨p, vs, rfl, .inr hs, fun l hl => q ds hA l vs F1 _ (a1.kept e1.deck hl) (a1.free e1.deck hl) (a1.fh.none hl) upd_same pa⟩⟩⟩
end MV

set_option maxRecDepth 100000
set_option maxHeartbeats 4000000
/-! an own list lent to a def that draws -/
namespace MV
open PySem PySem.Spec PyProof.Rows L2
mutual
/-- tuples and single values alone -/
def tupD : D → Bool
  | .tuple ds => tupAll ds
  | .none => true
  | .bool _ => true
  | .int _ => true
  | .str _ => true
  | _ => false
def tupAll : List D → Bool
  | [] => true
  | d :: ds => tupD d && tupAll ds
end
/-- a list that may be lent: it begins with something that is no int -/
def headV : V → Bool
  | .int _ => false
  | _ => true
def lendB : D → Bool
  | .list (.int _ :: _) => false
  | .list [] => false
  | _ => true
section
variable {K : PySem.W.Frag} {δ : Addr} {F H F' H' : Hp}
/-- the heap with the lent lists frozen -/
theorem lend_heap (e : Ex F H) (hδ : F δ = none) : ∀ {vs : List V} {ds : List D}, TpWAll K δ F H vs ds → (∀ d ∈ ds, lendB d = true) →
    ∃ FC : Hp, Ex F FC ∧ Ex FC H ∧ FC δ = none ∧ (∀ a, F a = none → ∀ o, FC a = some o → ∃ x xs, o = .lst (x :: xs) ∧ headV x = true) ∧ DpAll K FC vs ds
  | _, _, .nil, _ => ⟨F, Ex.refl _, e, hδ, fun a h o h2 => by rw [h] at h2; (cases h2), .nil⟩
  | _, _, .cons t r, hl => by
    obtain ⟨FC, h1, h2, h3, h4, h5⟩ := lend_heap e hδ r fun d hd => hl d (List.mem_cons_of_mem _ hd)
    have hd := hl _ List.mem_cons_self
    rcases t with t | ⟨p, vs, ds, rfl, hp, rfl, k1, k2, k3⟩
    · exact ⟨FC, h1, h2, h3, h4, .cons (dp_ex h1 _ _ t) h5⟩
    · have up : Ex FC (upd FC p (.lst vs)) := fun a o ha => by
        by_cases hap : a = p
        · subst hap
          have := h2 _ _ ha
          rw [k2] at this
          rw [upd_same]
          exact this
        · rw [upd_ne hap]
          exact ha
      refine ⟨upd FC p (.lst vs), h1.trans up, fun a o ha => ?_, by rw [upd_ne (Ne.symm hp)]; exact h3, fun a ha o ho => ?_, .cons (.lst ?_ (dpa_ex (h1.trans up) _ _ k3)) (dpa_ex up _ _ h5)⟩
      · by_cases hap : a = p
        · subst hap
          rw [upd_same] at ha
          rw [k2]
          exact ha
        · rw [upd_ne hap] at ha
          exact h2 _ _ ha
      · by_cases hap : a = p
        · subst hap
          rw [upd_same] at ho
          obtain ⟨x, xs, rfl, hx⟩ : ∃ x xs, vs = x :: xs ∧ headV x = true := by
            cases k3 with
            | nil => cases hd
            | @cons x xs d ds q1 q2 => exact ⟨x, xs, rfl, by cases q1 <;> first | rfl | cases hd⟩
          exact ⟨x, xs, (Option.some.inj ho).symm, hx⟩
        · rw [upd_ne hap] at ho
          exact h4 a ha o ho
      · exact SqL.of (by rw [upd_same])
/-- what stays frozen behind the call -/
noncomputable def back (F FC F' : Hp) : Hp := fun a => match F a with
  | some o => some o
  | none => match FC a with
    | some _ => none
    | none => F' a
variable {FC : Hp}
theorem back_old {a : Addr} {o : HO} (h : F a = some o) : back F FC F' a = some o := by
  unfold back
  rw [h]
theorem back_new {a : Addr} {o : HO} (h : F' a = some o) (e : Ex F F') (hn : F a = none → FC a = none) : back F FC F' a = some o := by
  cases hf : F a with
  | some o2 =>
    rw [back_old hf, ← h, e _ _ hf]
  | none =>
    unfold back
    rw [hf, hn hf]
    exact h
theorem back_in (e : Ex F F') : Ex (back F FC F') F' := fun a o h => by
  cases hf : F a with
  | some o2 =>
    rw [back_old hf] at h
    rw [← h]
    exact e _ _ hf
  | none =>
    unfold back at h
    rw [hf] at h
    cases hg : FC a with
    | none => rw [hg] at h; exact h
    | some o2 => rw [hg] at h; cases h
theorem back_non {a : Addr} (h : F a = none) (h2 : FC a = none → F' a = none) : back F FC F' a = none := by
  unfold back
  rw [h]
  cases hc : FC a with
  | none => exact h2 hc
  | some _ => rfl
def Lent (F FC : Hp) : Prop := ∀ a, F a = none → ∀ o, FC a = some o → ∃ x xs, o = .lst (x :: xs) ∧ headV x = true
theorem Lent.no (l : Lent F FC) (e : Ex FC F') {a : Addr} {o : HO} (h : F' a = some o) (hn : ∀ x xs, o = .lst (x :: xs) → headV x = false) : F a = none → FC a = none := fun hf => by
  cases hc : FC a with
  | none => rfl
  | some u =>
    obtain ⟨x, xs, rfl, hx⟩ := l a hf u hc
    have z := e _ _ hc
    rw [h] at z
    rw [hn x xs (Option.some.inj z)] at hx
    cases hx
mutual
theorem back_dp (l : Lent F FC) (e1 : Ex FC F') (e : Ex F F') : ∀ (d : D) (v : V), Dp K F' v d → tupD d = true → Dp K (back F FC F') v d
  | .none, _, h, _ => by cases h; exact .non
  | .bool b, _, h, _ => by cases h; exact .bl b
  | .int i, _, h, _ => by cases h; exact .int i
  | .str x, _, h, _ => by cases h; exact .str x
  | .list ds, _, h, t => by cases t
  | .tuple ds, _, h, t => by
    cases h with
    | tup hs ha =>
      refine .tup ?_ (back_dpa l e1 e ds _ ha (by rw [tupD] at t; exact t))
      rcases hs with hs | hs
      · refine Or.inl ?_
        rcases hs with hs | ⟨o, hs⟩
        · exact Or.inl (back_new hs e (l.no e1 hs fun x xs z => by cases z))
        · exact Or.inr ⟨o, back_new hs e (l.no e1 hs fun x xs z => by cases z)⟩
      · exact Or.inr hs
  | .dict _, _, h, t => by cases t
theorem back_dpa (l : Lent F FC) (e1 : Ex FC F') (e : Ex F F') : ∀ (ds : List D) (vs : List V), DpAll K F' vs ds → tupAll ds = true → DpAll K (back F FC F') vs ds
  | [], _, h, _ => by cases h; exact .nil
  | d :: ds, _, h, t => by
    rw [tupAll, Bool.and_eq_true] at t
    cases h with
    | cons h1 h2 => exact .cons (back_dp l e1 e d _ h1 t.1) (back_dpa l e1 e ds _ h2 t.2)
end
theorem ints_any {G : Hp} : ∀ {ns : List Int} {vs : List V}, DpAll K F' vs (ns.map .int) → DpAll K G vs (ns.map .int)
  | [], _, h => by cases h; exact .nil
  | n :: ns, _, h => by
    cases h with
    | cons h1 h2 =>
      cases h1
      exact .cons (.int n) (ints_any h2)
theorem lend_back (e : Ex F H) (h1 : Ex F FC) (l : Lent F FC) (hδ : FC δ = none) (fδ : F δ = none) (hH : H δ ≠ none) (a : AdvW K δ FC H F' H') : AdvW K δ F H (back F FC F') H' := by
  have e2 : Ex F F' := h1.trans a.f
  have ef := a.f
  have fh := a.fh
  have dk' := a.deck
  obtain ⟨⟨o, a⟩, _⟩ := a
  refine ⟨⟨o, ⟨fun x u hx => back_old hx, a.h, (back_in e2).trans fh, fun p hp hq => back_non hp fun hc => a.new p hc hq⟩⟩, ?_⟩
  obtain ⟨x, y, z, w, q, ns, k1, k2, k3, k4, k5, k6⟩ := dk'
  refine ⟨x, y, z, w, q, ns, k1, back_non fδ fun _ => k2, k3, k4, k5, ?_⟩
  cases k6 with
  | lst hs ha =>
    rename_i xs
    refine .lst ?_ (ints_any ha)
    have hv : ∀ x ys, HO.lst xs = .lst (x :: ys) → headV x = false := fun x ys z => by
      cases z
      cases ns with
      | nil => cases ha
      | cons n ns =>
        cases ha with
        | cons q1 q2 => cases q1; rfl
    rcases hs with hs | hs
    · refine Or.inl ?_
      rcases hs with hs | ⟨o, hs⟩
      · exact Or.inl (back_new hs e2 (l.no ef hs hv))
      · exact Or.inr ⟨o, back_new hs e2 (l.no ef hs fun x xs z => by cases z)⟩
    · exact Or.inr hs
end
theorem Deck.more {K : PySem.W.Frag} {δ : Addr} {F FC H : Hp} (d : Deck K δ F H) (e : Ex F FC) (h : FC δ = none) : Deck K δ FC H := by
  obtain ⟨x, y, z, w, q, ns, k1, k2, k3, k4, k5, k6⟩ := d
  exact ⟨x, y, z, w, q, ns, k1, h, k3, k4, k5, dp_ex e _ _ k6⟩
def wCallWL (i : Nat) (wf : Addr → List D → (D → Prop) → Prop) (δ : Addr) (dds : List D) (wr : Wp (List D)) : Wp D := fun ρ A => ρ[i]? = some (.rf δ) ∧ wr ρ fun ds => (∀ d ∈ ds, lendB d = true) ∧ wf δ (ds ++ dds) fun d => tupD d = true ∧ A d
section
variable {X : Cx} {δ : Addr} {es : List Expr} {wr : Wp (List D)} {pos p : Pos} {k : Nat} {f : Addr} {fd : FuncData} {ps : List Str} {dvs : List V} {dus : List Value} {dds : List D} {x : Str}
theorem ne_callWL {wf : Addr → List D → (D → Prop) → Prop} (G : FnW X.prog X.w X.K X.mg X.base k f fd ps wf) (hG : X.A.guards = some []) (hr : Room k X.A) (hm : X.mg x = some (.ref f)) (hk : PySem.W.keepIn X.K (.ref f) = true) (hb : Binds X.K fd ps dus) (hd : Vals dvs dus) (hdd : ∀ F : Hp, DpAll X.K F dvs dds)
    (i : Nat) {y : Str} {py : Pos} (ha : NAT X δ es wr) (hN : X.N[i]? = some y := by rfl) (hv : Vis X.env.scope y := by first | exact Or.inl rfl | exact Or.inr (Or.inl rfl) | exact Or.inr (Or.inr rfl)) (hde : (y == ("__debug__" : Str)) = false := by decide)
    (hcd : (y == ("__classdict__" : Str)) = false := by decide) (hs : starEach (.Name y py :: es) X.env = (false, eval (.Name y py) X.env) :: starEach es X.env := by rfl)
    (hg : Gl X x := by rfl) (hdb : (x == ("__debug__" : Str)) = false := by decide) (hpl : (backTo pos (starEach es X.env)).any (·.1) = false := by rfl) :
    NE X δ (.Call (.Name x p) (.Name y py :: es) [] pos) (wCallWL i wf δ dds wr) :=
  ⟨fun F0 H0 => pe_weak (pe_callS' G.sp hG hr hg hm hk hb hd (pa_cons (pe_var hN hv hde hcd) (ha.ok F0 H0) hs) hdb hs hpl) fun σ H Q ⟨ρ, F, A, e1, ⟨e2, e3⟩, q⟩ =>
    ⟨_, e1.rf e2, ρ, F, _, e1, e3, fun ds ⟨hl, hw⟩ vs F1 H1 a1 pa => by
      obtain ⟨FC, c1, c2, c3, c4, c5⟩ := lend_heap a1.fh a1.deck.thaw pa hl
      obtain ⟨o, ho⟩ := a1.deck.here
      exact ⟨δ, vs ++ dvs, FC, ds ++ dds, _, rfl, c2, a1.deck.more c1 c3, dal_app c5 (hdd FC), hw, fun d ⟨ht, hA⟩ v F2 H2 a2 pd =>
        q d hA v (back F1 FC F2) H2 (a1.trans e1.deck (lend_back a1.fh c1 c4 c3 a1.deck.thaw (by rw [ho]; exact fun z => nomatch z) a2)) (back_dp c4 a2.f (c1.trans a2.f) d v pd ht)⟩⟩⟩
theorem n_callWL {i : Nat} {wf : Addr → List D → (D → Prop) → Prop} {ρ : Rho} {A : D → Prop} (h : ρ[i]? = some (.rf δ)) (h2 : wr ρ fun ds => (∀ d ∈ ds, lendB d = true) ∧ wf δ (ds ++ dds) fun d => tupD d = true ∧ A d) : wCallWL i wf δ dds wr ρ A := ⟨h, h2⟩
end
end MV

set_option maxRecDepth 100000
set_option maxHeartbeats 4000000
/-! a method that hands out a new list -/
namespace MV
open PySem PySem.Spec PyProof.Rows L2
section
variable {X : Cx} {W : WX} {e o : Expr} {es : List Expr} {mo : Rho → Option D} {ma : Rho → Option (List D)} {pos apos p : Pos} {n f mm x : Str} {C fA : Addr} {k : Nat} {fd : FuncData} {ps : List Str} {dvs : List V} {dus : List Value} {dds : List D} {mf : List D → Option (List D)}
def mMethO (n m : Str) (mf : List D → Option (List D)) (dds : List D) (mo : Rho → Option D) (ma : Rho → Option (List D)) : Rho → Option (List D) := fun ρ => (mo ρ).bind fun o => if obIs n m o = true then (ma ρ).bind fun ds => mf (o :: (ds ++ dds)) else none
theorem mo_meth {pl : Sem Bool} (hn : PySem.W.nsIn X.K mainGlobals n = some (some (.ref C))) (c : Cls X.K C) (hm : Meth X.K C mm fA) (G : FnGO X.prog X.w X.K X.mg X.base k fA fd ps mf) (hG : X.A.guards = some []) (hr : Room k X.A) (hb : Binds X.K fd ps dus) (hd : Vals dvs dus) (hdd : ∀ F : Hp, DpAll X.K F dvs dds)
    (ho : ME X o mo) (ha : MAE X (e :: es) ma) (hst : starEach (e :: es) X.env = (false, eval e X.env) :: starEach es X.env := by rfl) (hpl : (backTo pos (starEach es X.env)).any (·.1) = false := by rfl)
    (ht : eval (.Call (.Attribute o mm apos) (e :: es) [] pos) X.env = (do
      let ov ← eval o X.env
      standAt apos.atName
      let (f, first) ← holding [ov] (getMethod ov mm pl)
      callWith pos f first (backTo pos (starEach (e :: es) X.env)) (backToKw pos (keywordEach [] X.env))) := by rfl) : MO X (.Call (.Attribute o mm apos) (e :: es) [] pos) (mMethO n mm mf dds mo ma) :=
  ⟨fun F0 H0 => pe_weak (pe_methS (pl := pl) (ho.ok F0 H0) c hm G.sp hG hr hb hd (ha.ok F0 H0) hst hpl ht) fun σ H Q h => by
    obtain ⟨ρ, F, d, e1, e2, q⟩ := h
    unfold mMethO at e2
    cases hx : mo ρ with
    | none => rw [hx] at e2; cases e2
    | some d1 =>
      rw [hx] at e2
      simp only [Option.bind_some] at e2
      split at e2
      · rename_i ho
        refine ⟨ρ, F, d1, e1, hx, fun v F1 H1 a1 t1 => ?_⟩
        obtain ⟨a, dx, fs, rfl, k1, k2⟩ := dp_ob hn t1 ho
        refine ⟨a, dx, fs, rfl, a1.fh _ _ k1, k2, ?_⟩
        cases hy : ma ρ with
        | none => rw [hy] at e2; cases e2
        | some ds =>
          rw [hy] at e2
          exact ⟨ρ, F1, ds, e1.go a1, hy, fun vs F2 H2 a2 pa => ⟨F2, d1 :: (ds ++ dds), d, a2.fh, .cons (dp_ex a2.f _ _ t1) (dal_app pa (hdd F2)), e2, fun p ws F3 H3 a3 z0 z1 z2 z3 => q p ws F3 H3 ((a1.trans a2).trans a3) (a1.h.none (a2.h.none z0)) z1 z2 z3⟩⟩
      · cases e2⟩
theorem ex_methO {ρ : Rho} {d : D} {ds es : List D} (h : mo ρ = some d) (h1 : obIs n mm d = true) (h2 : ma ρ = some ds) (h3 : mf (d :: ds) = some es) : mMethO n mm mf [] mo ma ρ = some es := by
  unfold mMethO
  rw [h, Option.bind_some, if_pos h1, h2, Option.bind_some, List.append_nil, h3]
end

/-! ### dicts with texts as keys: made, read -/
theorem room1 {k : Nat} {A : Around} (r : Room k A) : A.units + 1 < cLine := by have := r.un; omega
def dicD (ks : List Str) (ds : List D) : D := .dict [(.tuple (.none :: ks.map .str), .list ds)]
def dKey (k : Str) : D → Option D
  | .dict [(.tuple (.none :: ks), .list ds)] => fldIn k ks ds
  | _ => none
theorem dKey_ok {k : Str} {ks : List Str} {ds : List D} {r : Option D} (h : fldIn k (ks.map .str) ds = r) : dKey k (dicD ks ds) = r := h
section
variable {K : PySem.W.Frag} {F H : Hp}
def kvK (kvs : List (Str × V)) : List (Key × V) := kvs.map fun kv => (.inr kv.1, kv.2)
theorem key_look {k : Str} {d : D} : ∀ (kvs : List (Str × V)) (ds : List D), DpAll K F (kvs.map (·.2)) ds → fldIn k ((kvs.map (·.1)).map .str) ds = some d → ∃ v, valV (kvK kvs) (.inr k) = some v ∧ Dp K F v d
  | [], ds, h, e => by
    cases h
    cases e
  | (g, v) :: kvs, ds, h, e => by
    cases h with
    | @cons _ _ d1 ds1 h1 h2 =>
      change (if g = k then some d1 else fldIn k ((kvs.map (·.1)).map .str) ds1) = some d at e
      by_cases hg : g = k
      · subst hg
        rw [if_pos rfl] at e
        cases e
        exact ⟨v, valV_pos rfl, h1⟩
      · rw [if_neg hg] at e
        obtain ⟨w, k1, k2⟩ := key_look kvs ds1 h2 e
        refine ⟨w, ?_, k2⟩
        exact (valV_neg (p := ((.inr g : Key), v)) (fun z => hg (Sum.inr.inj z))).trans k1
theorem dp_key {k : Str} {v : V} {d x : D} (p : Dp K F v d) (h : dKey k d = some x) : ∃ a kvs w, v = .ref a ∧ F a = some (.dK (kvK kvs)) ∧ valV (kvK kvs) (.inr k) = some w ∧ Dp K F w x := by
  cases p with
  | @dic a kvs ds h1 h2 =>
    obtain ⟨w, k1, k2⟩ := key_look kvs ds h2 h
    exact ⟨a, kvs, w, rfl, h1, k1, k2⟩
  | obj _ _ _ => cases h
  | non => cases h
  | bl b => cases h
  | int i => cases h
  | str s => cases h
  | lst _ _ => cases h
  | tup _ _ => cases h
theorem merge_app : ∀ (more kvs : List (Key × V)), ((kvs ++ more).map (·.1)).Nodup → mergeK kvs more = kvs ++ more
  | [], kvs, _ => (List.append_nil kvs).symm
  | q :: more, kvs, h => by
    have hn : valV kvs q.1 = none := by
      cases hv : valV kvs q.1 with
      | none => rfl
      | some v =>
        have m := valV_in hv
        rw [List.map_append, List.map_cons] at h
        exact absurd rfl ((List.nodup_append.mp h).2.2 _ m _ List.mem_cons_self)
    show mergeK (putK kvs q.1 q.2) more = _
    rw [putK_new _ hn, merge_app more (kvs ++ [(q.1, q.2)]) (by rw [List.append_assoc]; exact h), List.append_assoc]
    rfl
end
section
variable {X : Cx} {o e : Expr} {m : Rho → Option D} {ma : Rho → Option (List D)} {pos pos' : Pos} {k : Str} {ks : List Str} {keys : List (Option Expr)} {values : List Expr} {j : Option Str}
structure MPP (X : Cx) (pos : Pos) (keys : List (Option Expr)) (values : List Expr) (ks : List Str) (ma : Rho → Option (List D)) : Prop where
  ok : ∀ F0 H0, ∃ trs, PPs X pos keys values trs ∧ ∀ σ H (Q : List (V × V) → Hp → Prop), (∃ ρ F ds, EnvOk X.K F0 H0 F H σ ρ ∧ ma ρ = some ds ∧ ∀ vs F' H', Adv F H F' H' → DpAll X.K F' vs ds → vs.length = ks.length → Q (List.zipWith (fun k v => (V.str k, v)) ks vs) H') → tPairs trs σ H Q
theorem mpp_nil : MPP X pos [] [] [] mNil := ⟨fun F0 H0 => ⟨[], pps_nil, fun σ H Q ⟨ρ, F, ds, e1, e2, q⟩ => by
  cases e2
  exact q [] F H (Adv.refl e1.fh) .nil rfl⟩⟩
theorem mpp_cons (hv : ME X e m) (hr : MPP X pos keys values ks ma) {j} : MPP X pos (some (.Constant (.str k) j pos') :: keys) (e :: values) (k :: ks) (mCons m ma) := ⟨fun F0 H0 => by
  obtain ⟨trs, t1, t2⟩ := hr.ok F0 H0
  refine ⟨(tC (.str k), tE X.K F0 H0 m) :: trs, pps_cons pe_str (hv.ok F0 H0) t1, fun σ H Q ⟨ρ, F, ds, e1, e2, q⟩ => ?_⟩
  unfold mCons at e2
  cases hx : m ρ with
  | none => rw [hx] at e2; cases e2
  | some d =>
    rw [hx] at e2
    cases hy : ma ρ with
    | none => rw [hy] at e2; cases e2
    | some es =>
      rw [hy] at e2
      cases e2
      show tE X.K F0 H0 m σ H fun y H2 => tPairs trs σ H2 fun ps H3 => Q ((V.str k, y) :: ps) H3
      refine ⟨ρ, F, d, e1, hx, fun v F1 H1 a1 p1 => t2 _ _ _ ⟨ρ, F1, es, e1.go a1, hy, fun vs F2 H2 a2 pa l => ?_⟩⟩
      exact q (v :: vs) F2 H2 (a1.trans a2) (.cons (dp_ex a2.f _ _ p1) pa) (by rw [List.length_cons, List.length_cons, l])⟩
def mDic (ks : List Str) (ma : Rho → Option (List D)) : Rho → Option D := fun ρ => (ma ρ).map (dicD ks)
theorem me_dic (h : MPP X pos keys values ks ma) (hall : keys.all (·.isSome) = true := by rfl) (hl : keys.length = values.length := by rfl) (h0 : keys ≠ [] := by exact fun z => nomatch z) (h15 : keys.length ≤ 15 := by decide) (hk : ks.Nodup := by decide +kernel) (hks : ks.length ≤ 15 := by decide) :
    ME X (.Dict keys values pos) (mDic ks ma) := ⟨fun F0 H0 => by
  obtain ⟨trs, t1, t2⟩ := h.ok F0 H0
  refine pe_weak (pe_disp t1 hall hl h0 h15) fun σ H Q ⟨ρ, F, d, e1, e2, q⟩ => fun p hp => ?_
  unfold mDic at e2
  cases hx : ma ρ with
  | none => rw [hx] at e2; cases e2
  | some ds =>
    rw [hx] at e2
    cases e2
    refine t2 _ _ _ ⟨ρ, F, ds, e1.go (Adv.kept e1.fh (Ex.new hp)), hx, fun vs F1 H1 a1 pa l => ?_⟩
    have p1 : H1 p = some (.dK []) := a1.h _ _ upd_same
    have fp : F p = none := e1.fh.none hp
    have f1 : F1 p = none := a1.new p fp (by rw [upd_same]; exact fun z => nomatch z)
    have hz : (List.zipWith (fun k v => ((Sum.inr k : Key), v)) ks vs) = kvK (List.zip ks vs) := by
      unfold kvK
      rw [List.zip, List.map_zipWith]
    have hz1 : (List.zip ks vs).map (·.1) = ks := by
      rw [List.map_fst_zip]
      omega
    have hz2 : (List.zip ks vs).map (·.2) = vs := by
      rw [List.map_snd_zip]
      omega
    refine ⟨p1, kvK (List.zip ks vs), ?_, ?_, ?_⟩
    · unfold kvK
      rw [List.map_map, List.zip, List.map_zipWith]
      rfl
    · unfold kvK
      rw [List.length_map, List.length_zip, l]
      omega
    · have hm : mergeK [] (kvK (List.zip ks vs)) = kvK (List.zip ks vs) := by
        refine (merge_app _ [] ?_).trans (List.nil_append _)
        rw [List.nil_append]
        unfold kvK
        rw [List.map_map]
        have : (List.zip ks vs).map ((fun x : Key × V => x.1) ∘ fun kv : Str × V => ((Sum.inr kv.1 : Key), kv.2)) = ks.map fun k => (Sum.inr k : Key) := by
          conv => rhs; rw [← hz1]
          rw [List.map_map]
          rfl
        rw [this]
        exact List.pairwise_map.mpr (hk.imp fun h z => h (Sum.inr.inj z))
      rw [hm]
      refine q _ (upd F1 p (.dK (kvK (List.zip ks vs)))) _ ⟨?_, fun a u hu => ?_, a1.fh.upd2 p _, fun r h1 h2 => ?_⟩ ?_
      · exact a1.f.trans (Ex.new f1)
      · rw [upd_ne (ne_of_none hu hp)]
        exact a1.h _ _ (by rw [upd_ne (ne_of_none hu hp)]; exact hu)
      · have hr : r ≠ p := fun z => h2 (z ▸ hp)
        rw [upd_ne hr]
        exact a1.new r h1 (by rw [upd_ne hr]; exact h2)
      · have pd : Dp X.K (upd F1 p (.dK (kvK (List.zip ks vs)))) (.ref p) (.dict [(.tuple (.none :: ((List.zip ks vs).map (·.1)).map .str), .list ds)]) := .dic upd_same (dpa_ex (Ex.new f1) ds _ (by rw [hz2]; exact pa))
        rw [hz1] at pd
        exact pd⟩
theorem me_key (h : ME X o m) (hu : X.A.units + 1 < cLine) {j} (hs : NoSl (.Constant (.str k) j pos') := by exact fun _ _ => rfl) : ME X (.Subscript o (.Constant (.str k) j pos') pos) (m1 (dKey k) m) :=
  ⟨fun F0 H0 => pe_weak (pe_dget hu (h.ok F0 H0) pe_str hs) fun σ H Q ⟨ρ, F, d, e1, e2, q⟩ => by
    unfold m1 at e2
    cases hx : m ρ with
    | none => rw [hx] at e2; cases e2
    | some d1 =>
      rw [hx] at e2
      refine ⟨ρ, F, d1, e1, hx, fun v F1 H1 a1 t => ?_⟩
      obtain ⟨a, kvs, w, rfl, k1, k2, k3⟩ := dp_key t e2
      exact ⟨a, w, rfl, by rw [← k2]; exact DGet.k (k := (.inr k : Key)) (a1.fh _ _ k1), q w F1 H1 a1 k3⟩⟩
theorem ex_dic {ρ : Rho} {ds : List D} (h : ma ρ = some ds) : mDic ks ma ρ = some (dicD ks ds) := by
  unfold mDic
  rw [h]
  rfl
end
end MV

set_option maxRecDepth 100000
set_option maxHeartbeats 4000000
/-! t[::-1]; suites that compare -/
namespace MV
open PySem PySem.Spec PyProof.Rows L2 HT
section
variable {prog : Program} {w : World} {A : Around} {E : Value → Shared → Prop} {s : Shared}
theorem rev_applied {sl : Addr} {vk : Value} {n : Nat} {Q : Int × Int × Nat → Shared → Prop} (hs : s.heap.IsSliceOf sl .none .none vk) (pk : IsPart vk (some (-1)))
    (h : Q ((n : Int) - 1, -1, n) s) : wpAny (model prog w) A (Builtin.Slice.sliceApplied (.ref sl) (pure (n : Int))) Q E s := by
  obtain ⟨os, hos, hcs, hds⟩ := id hs
  unfold Builtin.Slice.sliceApplied Builtin.Slice.sliceFields
  refine wpAny_bind (wpAny_bind (wpAny_field hos hds (x := .none) rfl (wpAny_bind (wpAny_field hos hds (x := .none) rfl (wpAny_bind (wpAny_field hos hds (x := vk) rfl (wpAny_pure ?_)))))))
  refine wpAny_bind (slicePart_ pk ?_)
  show wpAny _ _ (if ((-1 : Int) == 0) = true then _ else _) _ _ s
  rw [if_neg (by decide)]
  refine wpAny_bind (slicePart_none (wpAny_bind (slicePart_none (wpAny_bind (wpAny_pure ?_)))))
  show wpAny _ _ (match Builtin.Slice.sliceAdjust none none (-1) (n : Int) with | (lo, hi) => pure (lo, (-1 : Int), Builtin.Slice.slicePlaces lo hi (-1))) _ _ s
  have e : Builtin.Slice.sliceAdjust none none (-1) (n : Int) = ((n : Int) - 1, -1) := rfl
  rw [e]
  show wpAny _ _ (pure ((n : Int) - 1, (-1 : Int), Builtin.Slice.slicePlaces ((n : Int) - 1) (-1) (-1))) _ _ s
  have e2 : Builtin.Slice.slicePlaces ((n : Int) - 1) (-1) (-1) = n := by
    unfold Builtin.Slice.slicePlaces
    have h1 : ¬ ((-1 : Int) > 0) := by decide
    simp only [h1, if_false]
    split
    · rw [show (- -1 : Int) = 1 by decide, Int.ediv_one]
      omega
    · omega
  rw [e2]
  exact wpAny_pure h
theorem fm_congr {α β : Type} {f g : α → Option β} : ∀ {l : List α}, (∀ x ∈ l, f x = g x) → l.filterMap f = l.filterMap g
  | [], _ => rfl
  | x :: l, h => by
    rw [List.filterMap_cons, List.filterMap_cons, h x List.mem_cons_self, fm_congr fun y hy => h y (List.mem_cons_of_mem _ hy)]
theorem rev_pick (xs : Array Value) : ((List.range xs.size).filterMap fun (m : Nat) => xs[((xs.size : Int) - 1 + (m : Int) * (-1)).toNat]?).toArray = xs.toList.reverse.toArray := by
  have e : (List.range xs.size).filterMap (fun (m : Nat) => xs[((xs.size : Int) - 1 + (m : Int) * (-1)).toNat]?) = ((List.range xs.size).map fun k => xs.size - 1 - k).filterMap (xs[·]?) := by
    rw [List.filterMap_map]
    refine fm_congr fun m hm => ?_
    have := List.mem_range.mp hm
    show xs[_]? = xs[_]?
    rw [show ((xs.size : Int) - 1 + (m : Int) * (-1)).toNat = xs.size - 1 - m by omega]
  rw [e, PySem.W.krv_range, List.filterMap_reverse, PySem.W.krv_all]
theorem getItem_rev {t sl : Addr} {items : Array Value} {vk : Value} {Q : Value → Shared → Prop} (ht : IsTup s.heap t items) (hs : s.heap.IsSliceOf sl .none .none vk) (pk : IsPart vk (some (-1)))
    (h : Q (.ref s.heap.objs.size) { s with heap := s.heap.push { cls := .type "tuple", data := .seq items.toList.reverse.toArray } })
    (hsz : items.size ≤ sizeLine) : wpAny (model prog w) A (getItem (.ref t) (.ref sl)) Q E s := by
  have htake : sizeOk (.seq items.toList.reverse.toArray) := by
    show items.toList.reverse.toArray.size ≤ sizeLine
    rw [List.size_toArray, List.length_reverse, Array.length_toList]
    omega
  obtain ⟨os, hos, hcs, hds⟩ := id hs
  have hTs : s.TypeIs (.ref sl) "slice" := ⟨os, hos, hcs⟩
  unfold getItem
  try with_reducible refine wpAny_holding ?_
  first | refine wpAny_bind (wpAny_pure ?_) | skip
  refine wpAny_bind (wpAny_sequenceKey ht.typeIs (by decide) ?_)
  refine wpAny_bind (wpAny_callSpecial?_slot (name := Str.ofString "__getitem__") ht.typeIs PyProof.Rows.slot_tuple_getitem
    (wpAny_call_entry PyProof.Rows.slot_tuple_getitem ht.typeIs entry_tuple_getitem ?_ (args_tuple_getitem _ _)))
  show wpAny _ _ (Builtin.Tuple.tupleItemsOf (.ref t) >>= _) _ _ s
  refine wpAny_bind (tupleItemsOf_ ht ?_)
  refine wpAny_bind (wpAny_typeOf hTs ?_)
  rw [if_pos (by decide)]
  refine wpAny_bind (rev_applied hs pk ?_)
  have hno : ¬ ((((items.size : Int) - 1) == 0 && (-1 : Int) == 1 && items.size == items.size) = true) := by
    intro q
    rw [Bool.and_eq_true, Bool.and_eq_true] at q
    exact absurd (eq_of_beq q.1.2) (by decide)
  show wpAny _ _ (if (((items.size : Int) - 1) == 0 && (-1 : Int) == 1 && items.size == items.size) = true then _ else _) _ _ s
  rw [if_neg hno, rev_pick]
  first
    | exact wpAny_bind (m := Builtin.Tuple.tupleExact _) (wpAny_newObj_type (wpAny_pure ⟨_, rfl, wpAny_pure h⟩) htake)
    | exact wpAny_bind (m := Builtin.Tuple.tupleExact _) (wpAny_newObj_type (wpAny_bind (wpAny_pure (wpAny_pure ⟨_, rfl, wpAny_pure h⟩))) htake)
    | exact wpAny_bind (wpAny_bind (m := Builtin.Tuple.tupleExact _) (wpAny_newObj_type (wpAny_pure (wpAny_pure ⟨_, rfl, wpAny_pure h⟩)) htake))
    | exact wpAny_bind (wpAny_bind (m := Builtin.Tuple.tupleExact _) (wpAny_newObj_type (wpAny_pure ⟨_, rfl, wpAny_pure h⟩) htake))
end
def dRev : D → Option D
  | .tuple ds => some (.tuple ds.reverse)
  | _ => none
theorem dal_rev {K : PySem.W.Frag} {F : Hp} : ∀ {vs : List V} {ds : List D}, DpAll K F vs ds → DpAll K F vs.reverse ds.reverse
  | _, _, .nil => .nil
  | _, _, .cons r t => by
    rw [List.reverse_cons, List.reverse_cons]
    exact dal_app (dal_rev t) (.cons r .nil)
theorem vals_rev : ∀ {xs : List V} {us : List Value}, Vals xs us → Vals xs.reverse us.reverse
  | _, _, .nil => .nil
  | _, _, .cons r t => by
    rw [List.reverse_cons, List.reverse_cons]
    exact (vals_rev t).append (.cons r .nil)
section
variable {X : Cx} {e : Expr} {m : Rho → Option D} {pos p2 p3 p4 : Pos}
theorem me_rev {j} (h : ME X e m) : ME X (.Subscript e (.Slice none none (some (.UnaryOp .USub (.Constant (.int 1) j p3) p4)) p2) pos) (m1 dRev m) :=
  ⟨fun F0 H0 => ⟨fun pins s σ H Q I ⟨ρ, F, d, e1, e2, q⟩ => by
    unfold m1 at e2
    cases hx : m ρ with
    | none => rw [hx] at e2; cases e2
    | some d1 =>
      rw [hx] at e2
      refine Subscript_ (thn ((h.ok F0 H0).run pins s σ H (fun v H1 => ∃ F1, Adv F H F1 H1 ∧ Dp X.K F1 v d1) I ⟨ρ, F, d1, e1, hx, fun v F1 H1 a1 t1 => ⟨F1, a1, t1⟩⟩) fun v s1 ⟨x, H1, I1, r1, F1, a1, t1⟩ => ?_)
      cases t1 with
      | @tup a xs ds hs ha =>
        cases e2
        refine wpAny_Slice ?_
        rw [evalPart_none]
        refine wpAny_pure ?_
        refine wpAny_pure ?_
        rw [evalPart_some]
        refine thn (((me_neg (ME.t me_int)).ok F0 H0).run pins s1 σ H1 (fun v H2 => ∃ F2, Adv F1 H1 F2 H2 ∧ Dp X.K F2 v (.int (-1))) I1 ⟨ρ, F1, .int (-1), e1.go a1, rfl, fun v F2 H2 a2 t2 => ⟨F2, a2, t2⟩⟩) fun vk s2 ⟨y, H2, I2, r2, F2, a2, t2⟩ => ?_
        cases t2
        obtain ⟨tk, rfl⟩ := r2
        have I4 : L2.Inv X pins σ H2 { s2 with heap := s2.heap.push { cls := .type "slice", data := .fields #[.none, .none, .int (-1) tk] } } := I2.kept (t' := s2.toks) fun b ob q => Heap.get?_push_of_some _ q
        cases r1
        have hs2 : SqT X.K H2 a xs := sqt_ex (a2.f.trans a2.fh) hs
        obtain ⟨its, r, ht, hz⟩ := I4.tuple hs2
        refine tail_any (ops := [.ref a, .ref s2.heap.objs.size]) ht.typeIs PyProof.Rows.slot_tuple_getitem.lookup ?_ (by with_unfolding_all rfl)
        refine getItem_rev ht (Heap.IsSliceOf.new ..) (IsPart.int _ _) ?_ (by rw [List.size_toArray]; rw [← r.length]; exact hz)
        rw [List.toList_toArray]
        have hn := I4.hok.fresh (Nat.le_refl _)
        refine ⟨.ref _, upd H2 _ (.tup xs.reverse), I4.laid (t' := s2.toks) (o := .tup xs.reverse) (fun b ob q => Heap.get?_push_of_some _ q) (Nat.le_refl _) ?_, rfl, ?_⟩
        · exact ⟨by rw [List.length_reverse]; exact hz, _, vals_rev r, IsTup.new _ _⟩
        · exact q _ _ _ ((a1.trans a2).trans (Adv.laid a2.fh hn)) (.tup (SqT.of upd_same) (dpa_ex (Ex.new (a2.fh.none hn)) _ _ (dal_rev (dpa_ex a2.f _ _ ha))))
      | _ => cases e2⟩⟩
end
section
variable {S : Su} {a b : Expr} {ma mb : Rho → Option D} {pos : Pos}
theorem qb_cmp {op : CmpOp} {g : D → D → Option D} (ho : OpD S.Y (compareOp op) g) (ha : QE S a ma) (hb : ME S.Y b mb) (hm : behindInMarks op b = false := by first | exact nomark _ | rfl) : QB S (.Compare a [op] [b] pos) (mAsB (m2 g ma mb)) :=
  ⟨fun F0 H0 => pt_weak (pt_cmpR ho.ok (ha.ok F0 H0) ((ME.t hb).ok F0 H0) hm) fun σ H Q ⟨ρ, F, t, e1, sp, e2, q⟩ => by
    have e3 := mAsB_some e2
    unfold m2 at e3
    cases hx : ma ρ with
    | none => rw [hx] at e3; cases e3
    | some x =>
      rw [hx] at e3
      cases hy : mb ρ with
      | none => simp [hy] at e3
      | some y =>
        have e4 : g x y = some (.bool t) := by simpa [hy] using e3
        exact ⟨ρ, F, x, e1, sp, hx, fun v1 F1 H1 a1 t1 => ⟨ρ, F1, y, e1.go a1, hy, fun v2 F2 H2 a2 t2 => ⟨F2, x, y, _, a2.fh, .inl (dp_ex a2.f _ _ t1), t2, e4, fun v F3 H3 a3 p3 => ⟨t, (by cases p3; rfl), q F3 H3 ((a1.trans a2).trans a3)⟩⟩⟩⟩⟩
end
end MV

set_option maxRecDepth 100000
set_option maxHeartbeats 4000000
namespace MV
open PySem PySem.Spec PyProof.Rows L2

/-! ### pairs = zip(a, b), walked once in the statement behind it -/
def keepZ (H : Hp) (N : Nat) (c : Bool) (a : Addr) (d : Bool) (b : Addr) : Hp :=
  upd (upd (upd (upd (upd H N (.ext fun h => IterB c h N a 0)) (N + 1) (.ext fun h => IterB d h (N + 1) b 0)) (N + 2) (.ext fun h => IsTupOf2 h (N + 2) (.ref N) (.ref (N + 1)))) (N + 3) (.ext fun h => ∃ x y, IsTupOf2 h (N + 3) x y)) (N + 4) (.ext fun h => IsZip h (N + 4) (N + 2) (N + 3) .none)
theorem keepZ_old {H : Hp} {N x : Nat} {c d : Bool} {a b : Addr} (h : x < N ∨ N + 5 ≤ x) : keepZ H N c a d b x = H x := by
  have h' : x ≠ N ∧ x ≠ N + 1 ∧ x ≠ N + 2 ∧ x ≠ N + 3 ∧ x ≠ N + 4 := by
    omega
  unfold keepZ
  rw [upd_ne h'.2.2.2.2, upd_ne h'.2.2.2.1, upd_ne h'.2.2.1, upd_ne h'.2.1, upd_ne h'.1]
def tZipK (X : Cx) (ta : TA) : TE := fun σ H Q => ta σ H fun vs H1 => ∃ a b c d xs ys, vs = [.ref a, .ref b] ∧ SqB X.K c H1 a xs ∧ SqB X.K d H1 b ys ∧
  ∀ N : Nat, X.s_0.heap.objs.size ≤ N → (∀ x, N ≤ x → H1 x = none) → a < N → b < N → Q (.ref (N + 4)) (keepZ H1 N c a d b)
section
variable {X : Cx} {e e2 : Expr} {ta : TA} {p pos tpos : Pos} {elts : List Expr} {kk : Nat}
theorem pe_zipK (hg : Gl X "zip") (hm : X.mg "zip" = none) (ha : PA X [e, e2] ta) (hs : starEach [e, e2] X.env = (false, eval e X.env) :: starEach [e2] X.env) (hpl : (backTo pos (starEach [e2] X.env)).any (·.1) = false) :
    PE X (.Call (.Name "zip" p) [e, e2] [] pos) (tZipK X ta) := by
  refine ⟨fun pins s σ H Q I h => Call_ (ld_blt I hg hm PyProof.Rows.boot_zip (PyProof.Rows.callWith_type1 (thn (ha.run pos pins s σ H _ I h) fun us s1 ⟨vs, H1, I1, r1, a, b, c, d, xs, ys, ex, hx, hy, q⟩ => ?_) hs hpl))⟩
  subst ex
  obtain ⟨u1, u2, rfl, r1, r2⟩ := vals2 r1
  cases r1
  cases r2
  obtain ⟨i1, v1, p1⟩ := inv_seqB I1 hx
  obtain ⟨i2, v2, p2⟩ := inv_seqB I1 hy
  have la := isB_lt p1
  have lb := isB_lt p2
  refine zip_begins2 (beginsB c a i1.toArray) (beginsB d b i2.toArray) p1 p2 fun h' hz hTI hTO g1 g2 hsz hk => ?_
  generalize hN : s1.heap.objs.size = N at *
  have hn : ∀ x, N ≤ x → H1 x = none := fun x hx => I1.hok.fresh (by rw [hN]; exact hx)
  have old : ∀ {x o}, H1 x = some o → keepZ H1 N c a d b x = some o := fun {x o} h => by
    rw [keepZ_old (.inl (Nat.lt_of_not_le fun z => by rw [hn x z] at h; cases h))]
    exact h
  have u : Un X.fs [] H1 (keepZ H1 N c a d b) s1.heap h' := ⟨fun b o e _ _ _ => hk b o e, fun b o e _ _ _ => ⟨o.slots, hk b o e⟩, fun b o e z _ => by
      rw [keepZ_old (.inl (by rw [← hN]; exact Heap.lt_size e))]; exact z, fun b o e _ => ⟨o, hk b o e⟩, fun b xs z => old z, fun b o u z => old z, fun b ps z => ⟨#[], by rw [old z]; simp⟩⟩
  have ok : HOk X.prog X.w (keepZ H1 N c a d b) h' := fun x o hx => by
    have look : H1 x = some o ∨ ((x = N ∧ o = .ext fun h => IterB c h N a 0) ∨ (x = N + 1 ∧ o = .ext fun h => IterB d h (N + 1) b 0) ∨ (x = N + 2 ∧ o = .ext fun h => IsTupOf2 h (N + 2) (.ref N) (.ref (N + 1))) ∨ (x = N + 3 ∧ o = .ext fun h => ∃ x y, IsTupOf2 h (N + 3) x y) ∨ (x = N + 4 ∧ o = .ext fun h => IsZip h (N + 4) (N + 2) (N + 3) .none)) := by
      unfold keepZ upd at hx
      split at hx
      · rename_i z
        cases hx
        exact .inr (.inr (.inr (.inr (.inr ⟨z, rfl⟩))))
      split at hx
      · rename_i z
        cases hx
        exact .inr (.inr (.inr (.inr (.inl ⟨z, rfl⟩))))
      split at hx
      · rename_i z
        cases hx
        exact .inr (.inr (.inr (.inl ⟨z, rfl⟩)))
      split at hx
      · rename_i z
        cases hx
        exact .inr (.inr (.inl ⟨z, rfl⟩))
      split at hx
      · rename_i z
        cases hx
        exact .inr (.inl ⟨z, rfl⟩)
      exact .inl hx
    rcases look with hx | ⟨rfl, rfl⟩ | ⟨rfl, rfl⟩ | ⟨rfl, rfl⟩ | ⟨rfl, rfl⟩ | ⟨rfl, rfl⟩
    · exact (I1.hok x o hx).stay (fun b u _ q => hk b u q) (fun b q => old q) fun b xs q => old q
    · exact ⟨iterB_new g1, ⟨_, g1⟩, fun h1 h2 k1 k => k1.at fun o => k o⟩
    · exact ⟨iterB_new g2, ⟨_, g2⟩, fun h1 h2 k1 k => k1.at fun o => k o⟩
    · exact ⟨hTI, ⟨_, hTI⟩, fun h1 h2 k1 k => k _ k1⟩
    · exact ⟨⟨_, _, hTO⟩, ⟨_, hTO⟩, fun h1 h2 ⟨x, y, k1⟩ k => ⟨x, y, k _ k1⟩⟩
    · exact ⟨hz, ⟨_, hz⟩, fun h1 h2 k1 k => k _ k1⟩
  exact ⟨.ref (N + 4), _, I1.un (t' := s1.toks) u ok, rfl, q N (by rw [← hN]; exact I1.sz) hn la lb⟩
theorem fp_of {pins : List (Addr × Obj)} {σ : L2.St} {H Hb : Hp} {s : Shared} {a : Addr} (I : Inv X pins σ H s) {u : HO} (h : H a = some u) (hn : X.s_0.heap.objs.size ≤ a) (hb : Hb a = none) : FpOk X pins Hb a := by
  refine ⟨hb, fun z => ?_, fun z => ?_, .inr hn, fun x c e z => ?_, fun p hp z => ?_⟩
  · rw [z, I.free] at h
    cases h
  · obtain ⟨_, o, ho, _⟩ := I.ok.funs.mem z
    exact absurd (Nat.lt_of_lt_of_le (Heap.lt_size ho) hn) (Nat.lt_irrefl _)
  · have q := I.freeC x c e
    rw [z, h] at q
    cases q
  · have q := (I.pin p hp).2.1
    rw [z, h] at q
    cases q
theorem inv_dropU {pins : List (Addr × Obj)} {σ : L2.St} {H : Hp} {s : Shared} {a : Addr} {φ : Heap → Prop} (I : Inv X pins σ (upd H a (.ext φ)) s) (h : H a = none) : Inv X pins σ H s := by
  have := ItX.inv_drop I upd_same
  rwa [ItX.dropH_upd h] at this
/-- the walk over the kept zip -/
def iKept (X : Cx) (i : Nat) : TI := fun σ H R => ∃ (N : Nat) (a b : Addr) (c d : Bool) (Hb : Hp), σ[i]? = some (some (.ref (N + 4))) ∧ H = keepZ Hb N c a d b ∧ X.s_0.heap.objs.size ≤ N ∧ (∀ x, N ≤ x → Hb x = none) ∧ a < N ∧ b < N ∧ R (Jz2 X.K c d a b) Hb
theorem pi_kept {x : Str} {i : Nat} (hN : X.N[i]? = some x) (hv : Vis X.env.scope x) (hd : (x == ("__debug__" : Str)) = false := by decide) (hcd : (x == ("__classdict__" : Str)) = false := by decide) :
    PI X (.Tuple elts kk tpos) (.Name x pos) (iKept X i) := by
  refine ⟨fun pins s σ H R I ⟨N, a, b, c, d, Hb, hs, hH, h0, hn, la, lb, q⟩ => ?_⟩
  refine thn ((pe_var hN hv hd hcd).run pins s σ H (fun v H1 => v = .ref (N + 4) ∧ H1 = H) I ⟨_, hs, rfl, rfl⟩) fun v s1 ⟨x1, H1, I1, r1, e1, e2⟩ => ?_
  subst e1 e2
  cases r1
  subst hH
  have g0 : keepZ Hb N c a d b N = some (.ext fun h => IterB c h N a 0) := by
    unfold keepZ
    rw [upd_ne (show (N : Nat) ≠ N + 4 by omega), upd_ne (show (N : Nat) ≠ N + 3 by omega), upd_ne (show (N : Nat) ≠ N + 2 by omega), upd_ne (show (N : Nat) ≠ N + 1 by omega), upd_same]
  have g1 : keepZ Hb N c a d b (N + 1) = some (.ext fun h => IterB d h (N + 1) b 0) := by
    unfold keepZ
    rw [upd_ne (show (N + 1 : Nat) ≠ N + 4 by omega), upd_ne (show (N + 1 : Nat) ≠ N + 3 by omega), upd_ne (show (N + 1 : Nat) ≠ N + 2 by omega), upd_same]
  have g2 : keepZ Hb N c a d b (N + 2) = some (.ext fun h => IsTupOf2 h (N + 2) (.ref N) (.ref (N + 1))) := by
    unfold keepZ
    rw [upd_ne (show (N + 2 : Nat) ≠ N + 4 by omega), upd_ne (show (N + 2 : Nat) ≠ N + 3 by omega), upd_same]
  have g3 : keepZ Hb N c a d b (N + 3) = some (.ext fun h => ∃ x y, IsTupOf2 h (N + 3) x y) := by
    unfold keepZ
    rw [upd_ne (show (N + 3 : Nat) ≠ N + 4 by omega), upd_same]
  have g4 : keepZ Hb N c a d b (N + 4) = some (.ext fun h => IsZip h (N + 4) (N + 2) (N + 3) .none) := upd_same
  have k0 := (I1.hok _ _ g0).1
  have k1 := (I1.hok _ _ g1).1
  have k2 := (I1.hok _ _ g2).1
  have k3 := (I1.hok _ _ g3).1
  have k4 := (I1.hok _ _ g4).1
  have I2 : Inv X pins σ Hb s1 := by
    have n0 : ∀ {H : Hp} {o : HO} {x y : Nat}, H y = none → y ≠ x → upd H x o y = none := fun h1 h2 => by rw [upd_ne h2]; exact h1
    refine inv_dropU (inv_dropU (inv_dropU (inv_dropU (inv_dropU I1 ?_) ?_) ?_) ?_) (hn _ (Nat.le_refl _))
    · exact n0 (n0 (n0 (n0 (hn _ (by omega)) (by omega)) (by omega)) (by omega)) (by omega)
    · exact n0 (n0 (n0 (hn _ (by omega)) (by omega)) (by omega)) (by omega)
    · exact n0 (n0 (hn _ (by omega)) (by omega)) (by omega)
    · exact n0 (hn _ (by omega)) (by omega)
  have S := zip_sep2 (N := N) (fp1 := [a]) (fp2 := [b]) (by simpa using la) (by simpa using lb)
  refine wpAny_pyIter_zip k4 ⟨N + 4, [N + 4, N + 2, N + 3, N, N + 1], _, _, Hb, rfl, I2, turn_z2 S (Nat.ne_of_lt la) (Nat.ne_of_lt (Nat.lt_succ_of_lt lb)), ⟨k4, k2, k3, k0, k1⟩, fun x hx => ?_, q⟩
  simp only [List.mem_cons, List.not_mem_nil, or_false] at hx
  rcases hx with rfl | rfl | rfl | rfl | rfl
  · exact fp_of I1 g4 (Nat.le_trans h0 (Nat.le_add_right _ _)) (hn _ (Nat.le_add_right _ _))
  · exact fp_of I1 g2 (Nat.le_trans h0 (Nat.le_add_right _ _)) (hn _ (Nat.le_add_right _ _))
  · exact fp_of I1 g3 (Nat.le_trans h0 (Nat.le_add_right _ _)) (hn _ (Nat.le_add_right _ _))
  · exact fp_of I1 g0 h0 (hn _ (Nat.le_refl _))
  · exact fp_of I1 g1 (Nat.le_trans h0 (Nat.le_add_right _ _)) (hn _ (Nat.le_add_right _ _))
end
section
variable {X : Cx} {ix : List Nat} {mg : D → Rho → Option Rho} {mt : Rho → Option Bool} {me : Rho → Option D}
/-- what stands behind the iterable of a comprehension -/
theorem lc_body {F0 H0 : Hp} {σ : L2.St} {H F : Hp} {ρ : Rho} {ds ys : List D} {Q : VK} {vs : List Nat} (hx : ∀ i ∈ ix, i ∈ vs) (e1 : EnvOk X.K F0 H0 F H σ ρ) (hz : ds.length < 100000) (e2 : compD mg mt me (wipeR ρ vs) ds = some ys)
    (q : ∀ p vs F' H', Adv F H F' H' → H p = none → F' p = none → H' p = some (.lst vs) → DpAll X.K F' vs ys → Q (.ref p) H') {J : It} {F1 H1 : Hp} (a1 : Adv F H F1 H1) (it : Items X.K J H1 F1 ds) :
    tLc (fun _ _ R => R J H1) (fun v σ H Q => tG X.K F0 H0 ix mg v σ H Q) (tB X.K F0 H0 mt) (tE X.K F0 H0 me) vs σ H Q := by
  refine fun p hp => ?_
  have g1 := e1.go a1
  obtain ⟨G, Y, w, hG, hY⟩ := it
  have hH : H p = none := a1.h.none hp
  refine lc_it w (fun i H2 => ∃ F2 acc zs rest, Adv F1 H1 F2 H2 ∧ H2 p = some (.lst acc) ∧ F2 p = none ∧ DpAll X.K F2 acc zs ∧ zs.length ≤ i ∧ compD mg mt me (wipeR ρ vs) (ds.drop i) = some rest ∧ zs ++ rest = ys)
    ⟨F1, [], [], ys, Adv.kept a1.fh (Ex.new hp), upd_same, a1.fh.none hp, .nil, Nat.zero_le _, by simpa using e2, rfl⟩ (fun i H2 _ ⟨F2, acc, zs, rest, a2, _⟩ => hG H2 a2.h) (fun i x H2 H3 hi ⟨F2, acc, zs, rest, a2, hD, hF, pa, hlen, hc, hy⟩ y => ?_) (fun H2 ⟨F2, acc, zs, rest, a2, hD, hF, pa, hlen, hc, hy⟩ => ?_)
  · have hd : ds[i]? = some ds[i] := List.getElem?_eq_getElem hi
    obtain ⟨F3, a3, pd⟩ := hY i ds[i] F2 H2 x H3 hd a2.f a2.fh (hG H2 a2.h) y
    have a13 := a2.trans a3
    have f3 : F3 p = none := a3.new p hF (by rw [hD]; exact fun z => nomatch z)
    have d3 : H3 p = some (.lst acc) := a3.h p _ hD
    rw [List.drop_eq_getElem_cons hi] at hc
    unfold compD at hc
    cases hgm : mg ds[i] (wipeR ρ vs) with
    | none => rw [hgm] at hc; cases hc
    | some ρ1 =>
      rw [hgm] at hc
      cases htm : mt ρ1 with
      | none => simp [htm] at hc
      | some b =>
        have g3 := (g1.go a13).wipe vs
        refine ⟨wipeR ρ vs, F3, ds[i], ρ1, g3, pd, hgm, fun σ4 g4 l4 c4 => ⟨wipe_eq l4 hx c4, ρ1, F3, b, g4, htm, fun F5 H5 a5 => ?_⟩⟩
        have f5 : F5 p = none := a5.new p f3 (by rw [d3]; exact fun z => nomatch z)
        have d5 : H5 p = some (.lst acc) := a5.h p _ d3
        cases b with
        | true =>
          cases hem : me ρ1 with
          | none => simp [htm, hem] at hc
          | some v =>
            cases hrm : compD mg mt me (wipeR ρ vs) (ds.drop (i + 1)) with
            | none => simp [htm, hem, hrm] at hc
            | some rest' =>
              have hr : v :: rest' = rest := by simpa [htm, hem, hrm] using hc
              subst hr
              refine iteT ⟨ρ1, F5, v, g4.go a5, hem, fun u F6 H6 a6 pu => ?_⟩
              have f6 : F6 p = none := a6.new p f5 (by rw [d5]; exact fun z => nomatch z)
              have d6 : H6 p = some (.lst acc) := a6.h p _ d5
              have l6 := dal_len pa
              refine ⟨acc, d6, by rw [l6]; exact Nat.lt_of_le_of_lt hlen (Nat.lt_of_lt_of_le (Nat.lt_trans hi hz) (by decide)), F6, acc ++ [u], zs ++ [v], rest', ((a13.trans a5).trans a6).fill hp f6, upd_same, f6, ?_, by simp; omega, rfl, by rw [List.append_assoc]; exact hy⟩
              exact dal_app (dpa_ex ((a3.f.trans a5.f).trans a6.f) _ _ pa) (.cons pu .nil)
        | false =>
          have hr : compD mg mt me (wipeR ρ vs) (ds.drop (i + 1)) = some rest := by simpa [htm] using hc
          exact iteF ⟨F5, acc, zs, rest, a13.trans a5, d5, f5, dpa_ex (a3.f.trans a5.f) _ _ pa, by omega, hr, hy⟩
  · rw [List.drop_length] at hc
    unfold compD at hc
    cases hc
    rw [List.append_nil] at hy
    subst hy
    exact q p acc F2 H2 (a1.trans a2) hH hF hD pa
def mZipRet (i : Nat) (ma : Rho → Option (List D)) (mg : D → Rho → Option Rho) (mt : Rho → Option Bool) (me : Rho → Option D) (vs : List Nat) : Rho → Option Res := fun ρ => ρ[i]?.bind fun _ => (mL2 wZip ma ρ).bind fun ds => (mLc (fun _ => some ds) mg mt me vs (ρ.set i .un)).bind fun ys => some (.rt (.tuple ys))
end
section
variable {X : Cx} {W : WX} {e e2 elt : Expr} {elts : List Expr} {ifs : List Expr} {scope : Scope} {own : List (Str × Nat)} {kk : Nat} {p pos zpos tpos spos rpos cpos py py2 tp : Pos} {y : Str} {ix : List Nat} {mg : D → Rho → Option Rho} {mt : Rho → Option Bool} {me : Rho → Option D} {ma : Rho → Option (List D)}
theorem mss_zipRet (i : Nat) (hm : X.mg "zip" = none) (hmt : X.mg "tuple" = none) (hc : X.calm = true) (hN : X.N.Nodup) (ha : MAE X [e, e2] ma) (ok : BlkOk X.N X.env.scope scope own)
    (hg : ∀ (s : Shared) (H : Hp) (C : Addr) (cl : List (Str × Addr)) (fp : List Addr), MG (X.blk s H scope (compEnvC scope cl C X.env) fp) (.Tuple elts kk tpos) ix mg)
    (ht : ∀ (s : Shared) (H : Hp) (C : Addr) (cl : List (Str × Addr)) (fp : List Addr), MTs (X.blk s H scope (compEnvC scope cl C X.env) fp) ifs mt)
    (he : ∀ (s : Shared) (H : Hp) (C : Addr) (cl : List (Str × Addr)) (fp : List Addr), ME (X.blk s H scope (compEnvC scope cl C X.env) fp) elt me)
    (hy : X.N[i]? = some y := by rfl) (hyl : Loc X.env.scope y := by first | exact Or.inl rfl | exact Or.inr rfl) (hv : Vis X.env.scope y := by first | exact Or.inl rfl | exact Or.inr (Or.inl rfl) | exact Or.inr (Or.inr rfl))
    (hd : (y == ("__debug__" : Str)) = false := by decide) (hcd : (y == ("__classdict__" : Str)) = false := by decide)
    (hsw : swapsWith (.Call (.Name "zip" p) [e, e2] [] zpos) (some (.Name y py)) spos.line X.env = pure false := by rfl)
    (hf : X.fn y = true ∨ X.env.scope.names.lookup y = some .local := by first | exact .inl rfl | exact .inr rfl | assumption)
    (gz : Gl X "zip" := by rfl) (gt : Gl X "tuple" := by rfl) (hs : starEach [e, e2] X.env = (false, eval e X.env) :: starEach [e2] X.env := by rfl) (hpl : (backTo zpos (starEach [e2] X.env)).any (·.1) = false := by rfl)
    (hx : ∀ i ∈ ix, i ∈ own.map (·.2) := by decide) (hfo : ∀ x, foldedSetIterable (.Name y py2) X.env x = pure x := by intro _; rfl)
    (hs2 : starEach [.ListComp elt [⟨.Tuple elts kk tpos, .Name y py2, ifs, 0⟩] scope pos] X.env = (false, eval (.ListComp elt [⟨.Tuple elts kk tpos, .Name y py2, ifs, 0⟩] scope pos) X.env) :: starEach [] X.env := by rfl) (hpl2 : (backTo cpos (starEach [] X.env)).any (·.1) = false := by rfl) :
    MSs X W [.Assign [.Name y py] (.Call (.Name "zip" p) [e, e2] [] zpos) spos, .Return (some (.Call (.Name "tuple" tp) [.ListComp elt [⟨.Tuple elts kk tpos, .Name y py2, ifs, 0⟩] scope pos] [] cpos)) rpos] (mZipRet i ma mg mt me (own.map (·.2))) :=
  ⟨fun F0 H0 => pss_weak (pss_cons (ps_set hN hy hyl (pe_zipK gz hm (ha.ok F0 H0) hs hpl) hsw hf)
    (pss_one (ps_ret (pe_callTy fd_tuple.ok gt hmt (by decide +kernel) (pa_cons (pe_lc (g := fun v σ H Q => tG X.K F0 H0 ix mg v σ H Q) (tt := tB X.K F0 H0 mt) (te := tE X.K F0 H0 me) hc hN (pi_kept hy hv hd hcd) ok (fun s H C cl fp => (hg s H C cl fp).ok F0 H0) (fun s H C cl fp => (ht s H C cl fp).ok F0 H0) (fun s H C cl fp => (he s H C cl fp).ok F0 H0) hfo) pa_nil) (by decide) (by decide) hs2 hpl2))))
    fun Dn σ H ⟨ρ, F, r, e1, h2, q⟩ => by
      unfold mZipRet mL2 at h2
      cases hc0 : ρ[i]? with
      | none => rw [hc0] at h2; cases h2
      | some c0 =>
      rw [hc0] at h2
      cases hm1 : ma ρ with
      | none => simp [hm1] at h2
      | some ds =>
        cases hz : wZip ds with
        | none => simp [hm1, hz] at h2
        | some es =>
          simp only [hm1, hz, Option.bind_some] at h2
          cases hl : mLc (fun _ => some es) mg mt me (own.map (·.2)) (ρ.set i .un) with
          | none => simp [hl] at h2
          | some ys =>
            simp only [hl, Option.bind_some] at h2
            cases h2
            obtain ⟨x, y', xs, ys', rfl, hx1, hy1, rfl⟩ := wZip_some hz
            obtain ⟨b, kb⟩ := kindB_of hx1
            obtain ⟨c, kc⟩ := kindB_of hy1
            refine ⟨ρ, F, _, e1, hm1, fun vs F1 H1 a1 pa => ?_⟩
            cases pa with
            | cons t1 t2 =>
              cases t2 with
              | cons t2 t3 =>
                cases t3
                obtain ⟨a, us, ea, sa, pa⟩ := dp_kind kb t1 a1.fh
                obtain ⟨a', us', ea', sa', pa'⟩ := dp_kind kc t2 a1.fh
                subst ea ea'
                refine ⟨a, a', b, c, us, us', rfl, sqB_ex a1.fh sa, sqB_ex a1.fh sa', fun N hN hn la lb => ?_⟩
                have hlt : i < σ.length := by
                  rw [← e1.len]
                  exact (List.getElem?_eq_some_iff.mp hc0).1
                refine ⟨N, a, a', b, c, H1, List.getElem?_set_self hlt, rfl, hN, hn, la, lb, ?_⟩
                unfold mLc at hl
                replace hl : (if (zipD xs ys').length < 100000 then compD mg mt me (wipeR (ρ.set i .un) (own.map (·.2))) (zipD xs ys') else none) = some ys := hl
                split at hl
                · rename_i hzl
                  refine lc_body (Q := fun x H1 => cD X.K fTuple [x] H1 Dn.rt) hx ((e1.go a1).setU i (some (.ref (N + 4)))) hzl hl (fun p vs F' H' a h0 h1 h2 h3 => ?_) (Adv.refl a1.fh) ((items_z2 sa pa sa' pa').h a1.fh)
                  have a' := a.freeze h0 h1 h2
                  have pd : Dp X.K (upd F' p (.lst vs)) (.ref p) (.list ys) := .lst (SqL.of upd_same) (dpa_ex (Ex.new h1) _ _ h3)
                  exact ⟨_, [.list ys], .tuple ys, a'.fh, .cons (.inl pd) .nil, rfl, fun v F2 H2 a2 pd2 => q v F2 H2 (e1.toAdv.trans (a1.trans (a'.trans a2))) pd2⟩
                · cases hl⟩
end
/-- name.extend([..]), the name's list an own one -/
def mExt (i : Nat) (m : Rho → Option (List D)) : Rho → Option Res := fun ρ => (m ρ).bind fun d => match ρ[i]? with
  | some (.own ds) => if ds.length + d.length < 100000 then some (.nx (ρ.set i (.own (ds ++ d)))) else none
  | _ => none
section
variable {X : Cx} {W : WX} {x : Str} {e : Expr} {pos : Pos}
theorem ms_ext {apos cpos npos : Pos} (i : Nat) {m : Rho → Option (List D)} (he : MO X e m) (hN : X.N[i]? = some x := by rfl) (hv : Vis X.env.scope x := by first | exact Or.inl rfl | exact Or.inr (Or.inl rfl) | exact Or.inr (Or.inr rfl))
    (hd : (x == ("__debug__" : Str)) = false := by decide) (hcd : (x == ("__classdict__" : Str)) = false := by decide)
    (k1 : attributeBase (.Name x npos) "extend" X.env (eval (.Name x npos) X.env) = eval (.Name x npos) X.env := by rfl)
    (k2 : ((backTo cpos (starEach [e] X.env)).all (fun x => !x.1) && (backToKw cpos (keywordEach [] X.env)).all (fun x => x.1.isSome) && decide (([e] : List Expr).length + ([] : List Keyword).length + (if ([] : List Keyword).isEmpty then 0 else 1) < 30)) = true := by rfl)
    (k3 : (apos.endLine == cpos.line) = true := by rfl) (k4 : starEach [e] X.env = (false, eval e X.env) :: starEach [] X.env := by rfl) (k5 : (backTo cpos (starEach [] X.env)).any (·.1) = false := by rfl)
    (hs : swapsWith (.Call (.Attribute (.Name x npos) "extend" apos) [e] [] cpos) none pos.line X.env = pure false := by rfl) :
    MS X W (.Expr (.Call (.Attribute (.Name x npos) "extend" apos) [e] [] cpos) pos) (mExt i m) :=
  ⟨fun F0 H0 => ps_weak (ps_expr (pe_bm PySem.F.plainAttrs_list PySem.F.slot_list_extend PySem.F.type_list_extend mt_extend (pe_var hN hv hd hcd) (pa_cons (he.ok F0 H0) pa_nil k4) k1 k2 k3 k4 k5) hs) fun Dn σ H ⟨ρ, F, r, e1, e2, q⟩ => by
    unfold mExt at e2
    cases hx : m ρ with
    | none => rw [hx] at e2; cases e2
    | some d =>
      rw [hx] at e2
      change (match ρ[i]? with | some (.own ds) => if ds.length + d.length < 100000 then some (Res.nx (ρ.set i (.own (ds ++ d)))) else none | _ => none) = some r at e2
      split at e2
      · rename_i ds hi
        split at e2
        · cases e2
          rename_i hz
          obtain ⟨p, vs, h1, h2, h3, h4, h5⟩ := e1.own i ds hi
          refine ⟨_, h1, .inl ⟨rfl, _, SqL.of h4⟩, ρ, F, d, e1, hx, fun p2 vs2 F' H' a g0 g1 g2 g3 => ?_⟩
          have g := e1.go a
          obtain ⟨p', vs', k1, k2, k3, k4, k5⟩ := g.own i ds hi
          rw [h1] at k1
          cases k1
          refine ⟨p, p2, vs', vs2, rfl, rfl, k4, g2, ?_, ?_⟩
          · rw [dal_len k5, dal_len g3]
            exact Nat.le_trans (Nat.le_of_lt hz) (by decide)
          · exact q σ F' _ (g.mutO hi h1 (dal_app k5 g3))
        · cases e2
      · cases e2⟩
end
section
variable {ρ ρ' : Rho} {i : Nat} {ds d : List D} {mr : Rho → Option (List D)}
theorem ext_at (h : mr ρ = some d) (h2 : ρ[i]? = some (.own ds)) (h3 : ds.length + d.length < 100000) (h4 : ρ.set i (.own (ds ++ d)) = ρ') : mExt i mr ρ = some (.nx ρ') := by
  unfold mExt
  rw [h, h2, ← h4]
  show (if ds.length + d.length < 100000 then _ else _) = _
  rw [if_pos h3]
end
end MV

namespace Tx
open PySem PySem.Spec PyProof.Rows L2 MV
def topS (i : Nat) : Stmt := PySem.Challenge.pw_stayswithin_k49_rows_drawn_back.main.body.getD i (.Pass ⟨0, 0, 0, 0⟩)
abbrev s_is_whole : Stmt := topS 3
abbrev N_is_whole : List Str := ["value"]
theorem sc_is_whole : FnScope ["value"] ["value"] (defScope s_is_whole) := ⟨rfl, rfl, rfl, by decide +kernel, rfl, by decide +kernel, by decide +kernel⟩
abbrev s_greatest_divisor : Stmt := topS 4
abbrev N_greatest_divisor : List Str := ["first", "second"]
theorem sc_greatest_divisor : FnScope ["first", "second"] ["first", "second"] (defScope s_greatest_divisor) := ⟨rfl, rfl, rfl, by decide +kernel, rfl, by decide +kernel, by decide +kernel⟩
abbrev s_times_columns : Stmt := topS 6
abbrev N_times_columns : List Str := ["numbers", "matrix", "width", "column", "number", "line"]
theorem sc_times_columns : FnScope ["numbers", "matrix", "width", "column", "number", "line"] ["numbers", "matrix", "width"] (defScope s_times_columns) := ⟨rfl, rfl, rfl, by decide +kernel, rfl, by decide +kernel, by decide +kernel⟩
abbrev s_worst_disturbance : Stmt := topS 7
abbrev N_worst_disturbance : List Str := ["machine", "numbers", "shares", "pairs", "share", "least", "greatest"]
theorem sc_worst_disturbance : FnScope ["machine", "numbers", "shares", "pairs", "share", "least", "greatest"] ["machine", "numbers"] (defScope s_worst_disturbance) := ⟨rfl, rfl, rfl, by decide +kernel, rfl, by decide +kernel, by decide +kernel⟩
abbrev s_divided_row : Stmt := topS 9
abbrev N_divided_row : List Str := ["numbers", "bound", "shared", "number"]
theorem sc_divided_row : FnScope ["numbers", "bound", "shared", "number"] ["numbers", "bound"] (defScope s_divided_row) := ⟨rfl, rfl, rfl, by decide +kernel, rfl, by decide +kernel, by decide +kernel⟩
abbrev s_drawn_back : Stmt := topS 8
abbrev N_drawn_back : List Str := ["machine", "row", "numbers", "bound", "before", "shares", "added_most", "share", "part"]
theorem sc_drawn_back : FnScope ["machine", "row", "numbers", "bound", "before", "shares", "added_most", "share", "part"] ["machine", "row"] (defScope s_drawn_back) := ⟨rfl, rfl, rfl, by decide +kernel, rfl, by decide +kernel, by decide +kernel⟩
abbrev s_is_number : Stmt := topS 15
abbrev N_is_number : List Str := ["value", "least", "greatest"]
theorem sc_is_number : FnScope ["value", "least", "greatest"] ["value", "least", "greatest"] (defScope s_is_number) := ⟨rfl, rfl, rfl, by decide +kernel, rfl, by decide +kernel, by decide +kernel⟩
abbrev s_are_numbers : Stmt := topS 16
abbrev N_are_numbers : List Str := ["value", "count", "number"]
theorem sc_are_numbers : FnScope ["value", "count", "number"] ["value", "count"] (defScope s_are_numbers) := ⟨rfl, rfl, rfl, by decide +kernel, rfl, by decide +kernel, by decide +kernel⟩
abbrev s_are_pairs : Stmt := topS 17
abbrev N_are_pairs : List Str := ["value", "count", "pair"]
theorem sc_are_pairs : FnScope ["value", "count", "pair"] ["value", "count"] (defScope s_are_pairs) := ⟨rfl, rfl, rfl, by decide +kernel, rfl, by decide +kernel, by decide +kernel⟩
abbrev s_width_of : Stmt := topS 24
abbrev N_width_of : List Str := ["matrix"]
theorem sc_width_of : FnScope ["matrix"] ["matrix"] (defScope s_width_of) := ⟨rfl, rfl, rfl, by decide +kernel, rfl, by decide +kernel, by decide +kernel⟩
abbrev s_is_matrix : Stmt := topS 25
abbrev N_is_matrix : List Str := ["value", "height", "width", "row"]
theorem sc_is_matrix : FnScope ["value", "height", "width", "row"] ["value", "height", "width"] (defScope s_is_matrix) := ⟨rfl, rfl, rfl, by decide +kernel, rfl, by decide +kernel, by decide +kernel⟩
abbrev s_Machine_init : Stmt := inClass (topS 23) 0
abbrev N_Machine_init : List Str := ["self", "a", "b", "e", "divisor", "input_limits", "disturbance_limits"]
theorem sc_Machine_init : FnScope ["self", "a", "b", "e", "divisor", "input_limits", "disturbance_limits"] ["self", "a", "b", "e", "divisor", "input_limits", "disturbance_limits"] (defScope s_Machine_init) := ⟨rfl, rfl, rfl, by decide +kernel, rfl, by decide +kernel, by decide +kernel⟩
abbrev s__law_draw : Stmt := topS 27
abbrev N__law_draw : List Str := ["script", "k", "below", "cell", "turn", "number"]
theorem sc__law_draw : FnScope ["script", "k", "below", "cell", "turn", "number"] ["script", "k", "below"] (defScope s__law_draw) := ⟨rfl, rfl, rfl, by decide +kernel, rfl, by decide +kernel, by decide +kernel⟩
abbrev s__law_divisor : Stmt := topS 28
abbrev N__law_divisor : List Str := ["one", "other", "turn"]
theorem sc__law_divisor : FnScope ["one", "other", "turn"] ["one", "other"] (defScope s__law_divisor) := ⟨rfl, rfl, rfl, by decide +kernel, rfl, by decide +kernel, by decide +kernel⟩
abbrev s__law_fr : Stmt := topS 29
abbrev N__law_fr : List Str := ["number", "below", "size"]
theorem sc__law_fr : FnScope ["number", "below", "size"] ["number", "below"] (defScope s__law_fr) := ⟨rfl, rfl, rfl, by decide +kernel, rfl, by decide +kernel, by decide +kernel⟩
abbrev s__law_add : Stmt := topS 30
abbrev N__law_add : List Str := ["one", "other"]
theorem sc__law_add : FnScope ["one", "other"] ["one", "other"] (defScope s__law_add) := ⟨rfl, rfl, rfl, by decide +kernel, rfl, by decide +kernel, by decide +kernel⟩
abbrev s__law_times : Stmt := topS 31
abbrev N__law_times : List Str := ["one", "other"]
theorem sc__law_times : FnScope ["one", "other"] ["one", "other"] (defScope s__law_times) := ⟨rfl, rfl, rfl, by decide +kernel, rfl, by decide +kernel, by decide +kernel⟩
abbrev s__law_less : Stmt := topS 32
abbrev N__law_less : List Str := ["one", "other"]
theorem sc__law_less : FnScope ["one", "other"] ["one", "other"] (defScope s__law_less) := ⟨rfl, rfl, rfl, by decide +kernel, rfl, by decide +kernel, by decide +kernel⟩
abbrev s__law_dot : Stmt := topS 33
abbrev N__law_dot : List Str := ["numbers", "point", "total", "k"]
theorem sc__law_dot : FnScope ["numbers", "point", "total", "k"] ["numbers", "point"] (defScope s__law_dot) := ⟨rfl, rfl, rfl, by decide +kernel, rfl, by decide +kernel, by decide +kernel⟩
abbrev s__law_next : Stmt := topS 34
abbrev N__law_next : List Str := ["parts", "state", "inputs", "disturbance", "found", "k", "total"]
theorem sc__law_next : FnScope ["parts", "state", "inputs", "disturbance", "found", "k", "total"] ["parts", "state", "inputs", "disturbance"] (defScope s__law_next) := ⟨rfl, rfl, rfl, by decide +kernel, rfl, by decide +kernel, by decide +kernel⟩
abbrev s__law_meets : Stmt := topS 35
abbrev N__law_meets : List Str := ["row", "point"]
theorem sc__law_meets : FnScope ["row", "point"] ["row", "point"] (defScope s__law_meets) := ⟨rfl, rfl, rfl, by decide +kernel, rfl, by decide +kernel, by decide +kernel⟩
abbrev s__law_corners : Stmt := topS 36
abbrev N__law_corners : List Str := ["box", "found", "low", "high", "ends", "longer", "corner", "end"]
theorem sc__law_corners : FnScope ["box", "found", "low", "high", "ends", "longer", "corner", "end"] ["box"] (defScope s__law_corners) := ⟨rfl, rfl, rfl, by decide +kernel, rfl, by decide +kernel, by decide +kernel⟩
abbrev s__law_matrix : Stmt := topS 37
abbrev N__law_matrix : List Str := ["script", "k", "high", "wide", "most", "rows", "row", "place"]
theorem sc__law_matrix : FnScope ["script", "k", "high", "wide", "most", "rows", "row", "place"] ["script", "k", "high", "wide", "most"] (defScope s__law_matrix) := ⟨rfl, rfl, rfl, by decide +kernel, rfl, by decide +kernel, by decide +kernel⟩
abbrev s__law_box : Stmt := topS 38
abbrev N__law_box : List Str := ["script", "k", "count", "box", "j", "low"]
theorem sc__law_box : FnScope ["script", "k", "count", "box", "j", "low"] ["script", "k", "count"] (defScope s__law_box) := ⟨rfl, rfl, rfl, by decide +kernel, rfl, by decide +kernel, by decide +kernel⟩
abbrev s__law_parts : Stmt := topS 39
abbrev N__law_parts : List Str := ["script", "k", "states", "inputs", "most", "pushes"]
theorem sc__law_parts : FnScope ["script", "k", "states", "inputs", "most", "pushes"] ["script", "k", "states", "inputs", "most"] (defScope s__law_parts) := ⟨rfl, rfl, rfl, by decide +kernel, rfl, by decide +kernel, by decide +kernel⟩
abbrev s__law_machine : Stmt := topS 40
abbrev N__law_machine : List Str := ["parts"]
theorem sc__law_machine : FnScope ["parts"] ["parts"] (defScope s__law_machine) := ⟨rfl, rfl, rfl, by decide +kernel, rfl, by decide +kernel, by decide +kernel⟩
abbrev s__law_point : Stmt := topS 41
abbrev N__law_point : List Str := ["script", "k", "states", "most", "point", "place", "number"]
theorem sc__law_point : FnScope ["script", "k", "states", "most", "point", "place", "number"] ["script", "k", "states", "most"] (defScope s__law_point) := ⟨rfl, rfl, rfl, by decide +kernel, rfl, by decide +kernel, by decide +kernel⟩
abbrev s__law_pushes : Stmt := topS 42
abbrev N__law_pushes : List Str := ["parts", "numbers", "found", "place", "k"]
theorem sc__law_pushes : FnScope ["parts", "numbers", "found", "place", "k"] ["parts", "numbers"] (defScope s__law_pushes) := ⟨rfl, rfl, rfl, by decide +kernel, rfl, by decide +kernel, by decide +kernel⟩
abbrev s__law_back : Stmt := topS 43
abbrev N__law_back : List Str := ["parts", "row", "numbers", "bound", "before", "place", "pushes", "most", "size", "number", "corner", "k"]
theorem sc__law_back : FnScope ["parts", "row", "numbers", "bound", "before", "place", "pushes", "most", "size", "number", "corner", "k"] ["parts", "row"] (defScope s__law_back) := ⟨rfl, rfl, rfl, by decide +kernel, rfl, by decide +kernel, by decide +kernel⟩
abbrev s_law : Stmt := topS 44
abbrev N_law : List Str := ["script", "states", "parts", "machine", "row", "before", "k", "state", "nexts", "corner", "number", "point"]
theorem sc_law : FnScope ["script", "states", "parts", "machine", "row", "before", "k", "state", "nexts", "corner", "number", "point"] ["script"] (defScope s_law) := ⟨rfl, rfl, rfl, by decide +kernel, rfl, by decide +kernel, by decide +kernel⟩
abbrev si_BoundError : Stmt := clsInit (topS 11)
theorem sci_BoundError : FnScope ["self", "word", "place"] ["self", "word", "place"] (defScope si_BoundError) := ⟨rfl, rfl, rfl, by decide +kernel, rfl, by decide +kernel, by decide +kernel⟩
abbrev si_BadMachine : Stmt := clsInit (topS 12)
theorem sci_BadMachine : FnScope ["self", "place"] ["self", "place"] (defScope si_BadMachine) := ⟨rfl, rfl, rfl, by decide +kernel, rfl, by decide +kernel, by decide +kernel⟩
def errTags : List Str := [Str.ofString "BadMachine"]
structure Txt (K : PySem.W.Frag) (mg : Str → Option Value) where
  c_BoundError : Addr
  c_BadMachine : Addr
  c_Machine : Addr
  g_Machine : mg "Machine" = some (.ref c_Machine)
  ns_Machine : PySem.W.nsIn K mainGlobals (Str.ofString "Machine") = some (some (.ref c_Machine))
  cl_Machine : Cls K c_Machine
  na_Machine_matrix_a : NoAttr K c_Machine (Str.ofString "matrix_a")
  na_Machine_matrix_b : NoAttr K c_Machine (Str.ofString "matrix_b")
  na_Machine_matrix_e : NoAttr K c_Machine (Str.ofString "matrix_e")
  na_Machine_divisor : NoAttr K c_Machine (Str.ofString "divisor")
  na_Machine_input_limits : NoAttr K c_Machine (Str.ofString "input_limits")
  na_Machine_disturbance_limits : NoAttr K c_Machine (Str.ofString "disturbance_limits")
  na_Machine_states : NoAttr K c_Machine (Str.ofString "states")
  na_Machine_inputs : NoAttr K c_Machine (Str.ofString "inputs")
  na_Machine_disturbances : NoAttr K c_Machine (Str.ofString "disturbances")
  i_BoundError : Addr
  di_BoundError : FuncData
  g_BoundError : mg "BoundError" = some (.ref c_BoundError)
  Fi_BoundError : FunD K "__init__" "BoundError.__init__" (defArgs si_BoundError) (defBody si_BoundError) (defScope si_BoundError) [V.non] [] i_BoundError di_BoundError
  rd_BoundError : ClX.CRead K c_BoundError (.type "type")
  iv_BoundError : PySem.W.findCls K (.ref c_BoundError) (.type "type") "__init__" = some (.val (.ref i_BoundError))
  ui_BoundError_3 : List Value
  bi_BoundError_3 : Binds K di_BoundError ["self", "word", "place"] ui_BoundError_3
  vi_BoundError_3 : Vals [] ui_BoundError_3
  i_BadMachine : Addr
  di_BadMachine : FuncData
  g_BadMachine : mg "BadMachine" = some (.ref c_BadMachine)
  Fi_BadMachine : FunD K "__init__" "BadMachine.__init__" (defArgs si_BadMachine) (defBody si_BadMachine) (defScope si_BadMachine) [V.non] [] i_BadMachine di_BadMachine
  E_BadMachine : ErrC K c_BadMachine i_BadMachine
  R_BadMachine : ErrR K c_BadMachine
  ui_BadMachine_1 : List Value
  bi_BadMachine_1 : Binds K di_BadMachine ["self", "place"] ui_BadMachine_1
  vi_BadMachine_1 : Vals [V.non] ui_BadMachine_1
  ui_BadMachine_2 : List Value
  bi_BadMachine_2 : Binds K di_BadMachine ["self", "place"] ui_BadMachine_2
  vi_BadMachine_2 : Vals [] ui_BadMachine_2
  v_ValueError : PySem.W.findCls K (.type "ValueError") (.type "type") "__init__" = some (.val (.builtin "ValueError.__init__"))
  a_is_whole : Addr
  d_is_whole : FuncData
  F_is_whole : FunD K "is_whole" "is_whole" (defArgs s_is_whole) (defBody s_is_whole) (defScope s_is_whole) [] [] a_is_whole d_is_whole
  g_is_whole : mg "is_whole" = some (.ref a_is_whole)
  b_is_whole : Binds K d_is_whole ["value"] []
  a_greatest_divisor : Addr
  d_greatest_divisor : FuncData
  F_greatest_divisor : FunD K "greatest_divisor" "greatest_divisor" (defArgs s_greatest_divisor) (defBody s_greatest_divisor) (defScope s_greatest_divisor) [] [] a_greatest_divisor d_greatest_divisor
  g_greatest_divisor : mg "greatest_divisor" = some (.ref a_greatest_divisor)
  b_greatest_divisor : Binds K d_greatest_divisor ["first", "second"] []
  a_times_columns : Addr
  d_times_columns : FuncData
  F_times_columns : FunD K "times_columns" "times_columns" (defArgs s_times_columns) (defBody s_times_columns) (defScope s_times_columns) [] [] a_times_columns d_times_columns
  g_times_columns : mg "times_columns" = some (.ref a_times_columns)
  b_times_columns : Binds K d_times_columns ["numbers", "matrix", "width"] []
  a_worst_disturbance : Addr
  d_worst_disturbance : FuncData
  F_worst_disturbance : FunD K "worst_disturbance" "worst_disturbance" (defArgs s_worst_disturbance) (defBody s_worst_disturbance) (defScope s_worst_disturbance) [] [] a_worst_disturbance d_worst_disturbance
  g_worst_disturbance : mg "worst_disturbance" = some (.ref a_worst_disturbance)
  b_worst_disturbance : Binds K d_worst_disturbance ["machine", "numbers"] []
  a_divided_row : Addr
  d_divided_row : FuncData
  F_divided_row : FunD K "divided_row" "divided_row" (defArgs s_divided_row) (defBody s_divided_row) (defScope s_divided_row) [] [] a_divided_row d_divided_row
  g_divided_row : mg "divided_row" = some (.ref a_divided_row)
  b_divided_row : Binds K d_divided_row ["numbers", "bound"] []
  a_drawn_back : Addr
  d_drawn_back : FuncData
  F_drawn_back : FunD K "drawn_back" "drawn_back" (defArgs s_drawn_back) (defBody s_drawn_back) (defScope s_drawn_back) [] [] a_drawn_back d_drawn_back
  g_drawn_back : mg "drawn_back" = some (.ref a_drawn_back)
  b_drawn_back : Binds K d_drawn_back ["machine", "row"] []
  a_is_number : Addr
  d_is_number : FuncData
  F_is_number : FunD K "is_number" "is_number" (defArgs s_is_number) (defBody s_is_number) (defScope s_is_number) [] [] a_is_number d_is_number
  g_is_number : mg "is_number" = some (.ref a_is_number)
  b_is_number : Binds K d_is_number ["value", "least", "greatest"] []
  a_are_numbers : Addr
  d_are_numbers : FuncData
  F_are_numbers : FunD K "are_numbers" "are_numbers" (defArgs s_are_numbers) (defBody s_are_numbers) (defScope s_are_numbers) [] [] a_are_numbers d_are_numbers
  g_are_numbers : mg "are_numbers" = some (.ref a_are_numbers)
  b_are_numbers : Binds K d_are_numbers ["value", "count"] []
  a_are_pairs : Addr
  d_are_pairs : FuncData
  F_are_pairs : FunD K "are_pairs" "are_pairs" (defArgs s_are_pairs) (defBody s_are_pairs) (defScope s_are_pairs) [] [] a_are_pairs d_are_pairs
  g_are_pairs : mg "are_pairs" = some (.ref a_are_pairs)
  b_are_pairs : Binds K d_are_pairs ["value", "count"] []
  a_width_of : Addr
  d_width_of : FuncData
  F_width_of : FunD K "width_of" "width_of" (defArgs s_width_of) (defBody s_width_of) (defScope s_width_of) [] [] a_width_of d_width_of
  g_width_of : mg "width_of" = some (.ref a_width_of)
  b_width_of : Binds K d_width_of ["matrix"] []
  a_is_matrix : Addr
  d_is_matrix : FuncData
  F_is_matrix : FunD K "is_matrix" "is_matrix" (defArgs s_is_matrix) (defBody s_is_matrix) (defScope s_is_matrix) [] [] a_is_matrix d_is_matrix
  g_is_matrix : mg "is_matrix" = some (.ref a_is_matrix)
  b_is_matrix : Binds K d_is_matrix ["value", "height", "width"] []
  a_Machine_init : Addr
  d_Machine_init : FuncData
  F_Machine_init : FunD K "__init__" "Machine.__init__" (defArgs s_Machine_init) (defBody s_Machine_init) (defScope s_Machine_init) [] [] a_Machine_init d_Machine_init
  mk_Machine : Mk K c_Machine a_Machine_init
  b_Machine_init : Binds K d_Machine_init ["self", "a", "b", "e", "divisor", "input_limits", "disturbance_limits"] []
  a__law_draw : Addr
  d__law_draw : FuncData
  F__law_draw : FunD K "_law_draw" "_law_draw" (defArgs s__law_draw) (defBody s__law_draw) (defScope s__law_draw) [] [] a__law_draw d__law_draw
  g__law_draw : mg "_law_draw" = some (.ref a__law_draw)
  b__law_draw : Binds K d__law_draw ["script", "k", "below"] []
  a__law_divisor : Addr
  d__law_divisor : FuncData
  F__law_divisor : FunD K "_law_divisor" "_law_divisor" (defArgs s__law_divisor) (defBody s__law_divisor) (defScope s__law_divisor) [] [] a__law_divisor d__law_divisor
  g__law_divisor : mg "_law_divisor" = some (.ref a__law_divisor)
  b__law_divisor : Binds K d__law_divisor ["one", "other"] []
  a__law_fr : Addr
  d__law_fr : FuncData
  F__law_fr : FunD K "_law_fr" "_law_fr" (defArgs s__law_fr) (defBody s__law_fr) (defScope s__law_fr) [] [] a__law_fr d__law_fr
  g__law_fr : mg "_law_fr" = some (.ref a__law_fr)
  b__law_fr : Binds K d__law_fr ["number", "below"] []
  a__law_add : Addr
  d__law_add : FuncData
  F__law_add : FunD K "_law_add" "_law_add" (defArgs s__law_add) (defBody s__law_add) (defScope s__law_add) [] [] a__law_add d__law_add
  g__law_add : mg "_law_add" = some (.ref a__law_add)
  b__law_add : Binds K d__law_add ["one", "other"] []
  a__law_times : Addr
  d__law_times : FuncData
  F__law_times : FunD K "_law_times" "_law_times" (defArgs s__law_times) (defBody s__law_times) (defScope s__law_times) [] [] a__law_times d__law_times
  g__law_times : mg "_law_times" = some (.ref a__law_times)
  b__law_times : Binds K d__law_times ["one", "other"] []
  a__law_less : Addr
  d__law_less : FuncData
  F__law_less : FunD K "_law_less" "_law_less" (defArgs s__law_less) (defBody s__law_less) (defScope s__law_less) [] [] a__law_less d__law_less
  g__law_less : mg "_law_less" = some (.ref a__law_less)
  b__law_less : Binds K d__law_less ["one", "other"] []
  a__law_dot : Addr
  d__law_dot : FuncData
  F__law_dot : FunD K "_law_dot" "_law_dot" (defArgs s__law_dot) (defBody s__law_dot) (defScope s__law_dot) [] [] a__law_dot d__law_dot
  g__law_dot : mg "_law_dot" = some (.ref a__law_dot)
  b__law_dot : Binds K d__law_dot ["numbers", "point"] []
  a__law_next : Addr
  d__law_next : FuncData
  F__law_next : FunD K "_law_next" "_law_next" (defArgs s__law_next) (defBody s__law_next) (defScope s__law_next) [] [] a__law_next d__law_next
  g__law_next : mg "_law_next" = some (.ref a__law_next)
  b__law_next : Binds K d__law_next ["parts", "state", "inputs", "disturbance"] []
  a__law_meets : Addr
  d__law_meets : FuncData
  F__law_meets : FunD K "_law_meets" "_law_meets" (defArgs s__law_meets) (defBody s__law_meets) (defScope s__law_meets) [] [] a__law_meets d__law_meets
  g__law_meets : mg "_law_meets" = some (.ref a__law_meets)
  b__law_meets : Binds K d__law_meets ["row", "point"] []
  a__law_corners : Addr
  d__law_corners : FuncData
  F__law_corners : FunD K "_law_corners" "_law_corners" (defArgs s__law_corners) (defBody s__law_corners) (defScope s__law_corners) [] [] a__law_corners d__law_corners
  g__law_corners : mg "_law_corners" = some (.ref a__law_corners)
  b__law_corners : Binds K d__law_corners ["box"] []
  a__law_matrix : Addr
  d__law_matrix : FuncData
  F__law_matrix : FunD K "_law_matrix" "_law_matrix" (defArgs s__law_matrix) (defBody s__law_matrix) (defScope s__law_matrix) [] [] a__law_matrix d__law_matrix
  g__law_matrix : mg "_law_matrix" = some (.ref a__law_matrix)
  b__law_matrix : Binds K d__law_matrix ["script", "k", "high", "wide", "most"] []
  a__law_box : Addr
  d__law_box : FuncData
  F__law_box : FunD K "_law_box" "_law_box" (defArgs s__law_box) (defBody s__law_box) (defScope s__law_box) [] [] a__law_box d__law_box
  g__law_box : mg "_law_box" = some (.ref a__law_box)
  b__law_box : Binds K d__law_box ["script", "k", "count"] []
  a__law_parts : Addr
  d__law_parts : FuncData
  F__law_parts : FunD K "_law_parts" "_law_parts" (defArgs s__law_parts) (defBody s__law_parts) (defScope s__law_parts) [] [] a__law_parts d__law_parts
  g__law_parts : mg "_law_parts" = some (.ref a__law_parts)
  b__law_parts : Binds K d__law_parts ["script", "k", "states", "inputs", "most"] []
  a__law_machine : Addr
  d__law_machine : FuncData
  F__law_machine : FunD K "_law_machine" "_law_machine" (defArgs s__law_machine) (defBody s__law_machine) (defScope s__law_machine) [] [] a__law_machine d__law_machine
  g__law_machine : mg "_law_machine" = some (.ref a__law_machine)
  b__law_machine : Binds K d__law_machine ["parts"] []
  a__law_point : Addr
  d__law_point : FuncData
  F__law_point : FunD K "_law_point" "_law_point" (defArgs s__law_point) (defBody s__law_point) (defScope s__law_point) [] [] a__law_point d__law_point
  g__law_point : mg "_law_point" = some (.ref a__law_point)
  b__law_point : Binds K d__law_point ["script", "k", "states", "most"] []
  a__law_pushes : Addr
  d__law_pushes : FuncData
  F__law_pushes : FunD K "_law_pushes" "_law_pushes" (defArgs s__law_pushes) (defBody s__law_pushes) (defScope s__law_pushes) [] [] a__law_pushes d__law_pushes
  g__law_pushes : mg "_law_pushes" = some (.ref a__law_pushes)
  b__law_pushes : Binds K d__law_pushes ["parts", "numbers"] []
  a__law_back : Addr
  d__law_back : FuncData
  F__law_back : FunD K "_law_back" "_law_back" (defArgs s__law_back) (defBody s__law_back) (defScope s__law_back) [] [] a__law_back d__law_back
  g__law_back : mg "_law_back" = some (.ref a__law_back)
  b__law_back : Binds K d__law_back ["parts", "row"] []
  a_law : Addr
  d_law : FuncData
  F_law : FunD K "law" "law" (defArgs s_law) (defBody s_law) (defScope s_law) [] [] a_law d_law
  g_law : mg "law" = some (.ref a_law)
  b_law : Binds K d_law ["script"] []
  n_ValueError : mg "ValueError" = none
  n_abs : mg "abs" = none
  n_all : mg "all" = none
  n_bool : mg "bool" = none
  n_int : mg "int" = none
  n_isinstance : mg "isinstance" = none
  n_len : mg "len" = none
  n_max : mg "max" = none
  n_range : mg "range" = none
  n_sum : mg "sum" = none
  n_tuple : mg "tuple" = none
  n_zip : mg "zip" = none
  g_gcd : mg "gcd" = some (.builtin "math.gcd")
  t_MOST_NUMBER : Tok
  g_MOST_NUMBER : mg "MOST_NUMBER" = some (.int (20) t_MOST_NUMBER)
  t_MOST_STATES : Tok
  g_MOST_STATES : mg "MOST_STATES" = some (.int (3) t_MOST_STATES)
  t_MOST_INPUTS : Tok
  g_MOST_INPUTS : mg "MOST_INPUTS" = some (.int (2) t_MOST_INPUTS)
  t_MOST_DISTURBANCES : Tok
  g_MOST_DISTURBANCES : mg "MOST_DISTURBANCES" = some (.int (2) t_MOST_DISTURBANCES)
  t_MOST_DIVISOR : Tok
  g_MOST_DIVISOR : mg "MOST_DIVISOR" = some (.int (100) t_MOST_DIVISOR)
theorem Txt.v_is_whole {K : PySem.W.Frag} {mg : Str → Option Value} (_ : Txt K mg) : Vals [] [] := .nil
theorem Txt.v_greatest_divisor {K : PySem.W.Frag} {mg : Str → Option Value} (_ : Txt K mg) : Vals [] [] := .nil
theorem Txt.v_times_columns {K : PySem.W.Frag} {mg : Str → Option Value} (_ : Txt K mg) : Vals [] [] := .nil
theorem Txt.v_worst_disturbance {K : PySem.W.Frag} {mg : Str → Option Value} (_ : Txt K mg) : Vals [] [] := .nil
theorem Txt.v_divided_row {K : PySem.W.Frag} {mg : Str → Option Value} (_ : Txt K mg) : Vals [] [] := .nil
theorem Txt.v_drawn_back {K : PySem.W.Frag} {mg : Str → Option Value} (_ : Txt K mg) : Vals [] [] := .nil
theorem Txt.v_is_number {K : PySem.W.Frag} {mg : Str → Option Value} (_ : Txt K mg) : Vals [] [] := .nil
theorem Txt.v_are_numbers {K : PySem.W.Frag} {mg : Str → Option Value} (_ : Txt K mg) : Vals [] [] := .nil
theorem Txt.v_are_pairs {K : PySem.W.Frag} {mg : Str → Option Value} (_ : Txt K mg) : Vals [] [] := .nil
theorem Txt.v_width_of {K : PySem.W.Frag} {mg : Str → Option Value} (_ : Txt K mg) : Vals [] [] := .nil
theorem Txt.v_is_matrix {K : PySem.W.Frag} {mg : Str → Option Value} (_ : Txt K mg) : Vals [] [] := .nil
theorem Txt.v_Machine_init {K : PySem.W.Frag} {mg : Str → Option Value} (_ : Txt K mg) : Vals [] [] := .nil
theorem Txt.v__law_draw {K : PySem.W.Frag} {mg : Str → Option Value} (_ : Txt K mg) : Vals [] [] := .nil
theorem Txt.v__law_divisor {K : PySem.W.Frag} {mg : Str → Option Value} (_ : Txt K mg) : Vals [] [] := .nil
theorem Txt.v__law_fr {K : PySem.W.Frag} {mg : Str → Option Value} (_ : Txt K mg) : Vals [] [] := .nil
theorem Txt.v__law_add {K : PySem.W.Frag} {mg : Str → Option Value} (_ : Txt K mg) : Vals [] [] := .nil
theorem Txt.v__law_times {K : PySem.W.Frag} {mg : Str → Option Value} (_ : Txt K mg) : Vals [] [] := .nil
theorem Txt.v__law_less {K : PySem.W.Frag} {mg : Str → Option Value} (_ : Txt K mg) : Vals [] [] := .nil
theorem Txt.v__law_dot {K : PySem.W.Frag} {mg : Str → Option Value} (_ : Txt K mg) : Vals [] [] := .nil
theorem Txt.v__law_next {K : PySem.W.Frag} {mg : Str → Option Value} (_ : Txt K mg) : Vals [] [] := .nil
theorem Txt.v__law_meets {K : PySem.W.Frag} {mg : Str → Option Value} (_ : Txt K mg) : Vals [] [] := .nil
theorem Txt.v__law_corners {K : PySem.W.Frag} {mg : Str → Option Value} (_ : Txt K mg) : Vals [] [] := .nil
theorem Txt.v__law_matrix {K : PySem.W.Frag} {mg : Str → Option Value} (_ : Txt K mg) : Vals [] [] := .nil
theorem Txt.v__law_box {K : PySem.W.Frag} {mg : Str → Option Value} (_ : Txt K mg) : Vals [] [] := .nil
theorem Txt.v__law_parts {K : PySem.W.Frag} {mg : Str → Option Value} (_ : Txt K mg) : Vals [] [] := .nil
theorem Txt.v__law_machine {K : PySem.W.Frag} {mg : Str → Option Value} (_ : Txt K mg) : Vals [] [] := .nil
theorem Txt.v__law_point {K : PySem.W.Frag} {mg : Str → Option Value} (_ : Txt K mg) : Vals [] [] := .nil
theorem Txt.v__law_pushes {K : PySem.W.Frag} {mg : Str → Option Value} (_ : Txt K mg) : Vals [] [] := .nil
theorem Txt.v__law_back {K : PySem.W.Frag} {mg : Str → Option Value} (_ : Txt K mg) : Vals [] [] := .nil
theorem Txt.v_law {K : PySem.W.Frag} {mg : Str → Option Value} (_ : Txt K mg) : Vals [] [] := .nil
theorem Txt.fld_word {K : PySem.W.Frag} {mg : Str → Option Value} (T : Txt K mg) : ∀ t ∈ errTags, ∀ C, mg t = some (.ref C) → XfC K C ∧ PySem.W.findIn K (.ref C) "word" = some none := by
  intro t ht C hC
  simp only [errTags, List.mem_cons, List.not_mem_nil, or_false] at ht
  rcases ht with rfl
  · rw [T.g_BadMachine] at hC
    cases hC
    exact ⟨T.R_BadMachine.xf, T.E_BadMachine.nw⟩
theorem Txt.fld_place {K : PySem.W.Frag} {mg : Str → Option Value} (T : Txt K mg) : ∀ t ∈ errTags, ∀ C, mg t = some (.ref C) → XfC K C ∧ PySem.W.findIn K (.ref C) "place" = some none := by
  intro t ht C hC
  simp only [errTags, List.mem_cons, List.not_mem_nil, or_false] at ht
  rcases ht with rfl
  · rw [T.g_BadMachine] at hC
    cases hC
    exact ⟨T.R_BadMachine.xf, T.E_BadMachine.np⟩
theorem oki_BoundError {P : Program} {w : World} {K : PySem.W.Frag} {mg : Str → Option Value} {base : Heap} {CX : CXT} (T : Txt K mg) : FnOk P w K mg base CX 1 T.i_BoundError T.di_BoundError ["self", "word", "place"] (spB K) :=
  T.Fi_BoundError.ok sci_BoundError spB_len fun cdv A outer s H vs Q E hr h => ⟨_, pss_cons (ps_if (pt_cmpR op_isN (pe_var (i := 2) rfl (Or.inl rfl)) pe_non (nomark _))
      (pss_one (ps_expr (pe_veinit rfl T.n_ValueError T.v_ValueError (pa_cons (pe_var (i := 0) rfl (Or.inl rfl)) (pa_cons (pe_joined1 (pe_fmt (pe_var (i := 1) rfl (Or.inl rfl)))) pa_nil)))))
      (pss_one (ps_expr (pe_veinit rfl T.n_ValueError T.v_ValueError (pa_cons (pe_var (i := 0) rfl (Or.inl rfl)) (pa_cons (pe_joined (.cons (pe_fmt (pe_var (i := 1) rfl (Or.inl rfl))) (.cons pe_str (.cons (pe_fmt (pe_var (i := 2) rfl (Or.inl rfl))) .nil)))) pa_nil))))))
    (pss_cons (ps_ost (pe_var (i := 0) rfl (Or.inl rfl)) (pe_var (i := 1) rfl (Or.inl rfl))) (pss_one (ps_ost (pe_var (i := 0) rfl (Or.inl rfl)) (pe_var (i := 2) rfl (Or.inl rfl))))), spB_pure (by decide) h⟩
theorem okc_BadMachine {P : Program} {w : World} {K : PySem.W.Frag} {mg : Str → Option Value} {base : Heap} (T : Txt K mg) : FnOk P w K mg base (L2.CX P w) 2 T.i_BadMachine T.di_BadMachine ["self", "place"] (spC K (Str.ofString "BadMachine")) :=
  T.Fi_BadMachine.ok sci_BadMachine spC_len fun cdv A outer s H vs Q E hr h => ⟨_, pss_one (ps_expr (pe_clsfn (E := noX) T.g_BoundError T.rd_BoundError T.iv_BoundError T.Fi_BoundError.kp (oki_BoundError T) (hr.mono (by decide)) T.bi_BoundError_3 T.vi_BoundError_3 (passes_call (W := fun cls d _ H => E cls d H) (takes_of rfl rfl rfl rfl) fun _ _ _ _ z => False.elim z)
    (pa_cons (pe_var (i := 0) rfl (Or.inl rfl)) (pa_cons pe_str (pa_cons (pe_var (i := 1) rfl (Or.inl rfl)) pa_nil))))), spC_pure h⟩
/-! def is_whole -/
noncomputable def b_is_whole : Rho → Option Res :=
    (mRet (mAndV (m1 (isD "int") (mVar 0)) (mNotV (m1 (isD "bool") (mVar 0)))))
noncomputable def m_is_whole : List D → Option D := runDef 1 0 b_is_whole
theorem ok_is_whole {P : Program} {w : World} {K : PySem.W.Frag} {mg : Str → Option Value} {base : Heap} (T : Txt K mg) : FnG P w K mg base 1 T.a_is_whole T.d_is_whole ["value"] m_is_whole :=
  fn_def T.F_is_whole sc_is_whole fun cdv A outer s H hG hr => (mss_one (ms_ret (me_and (me_isi T.n_isinstance T.n_int (ME.t (me_var 0))) (me_one (me_not (me_isi T.n_isinstance T.n_bool (ME.t (me_var 0))))))))
/-! def greatest_divisor -/
noncomputable def b_greatest_divisor : Rho → Option Res :=
    (mRet (mFn fGcd (mCons (mVar 0) (mCons (mVar 1) mNil))))
noncomputable def m_greatest_divisor : List D → Option D := runDef 2 0 b_greatest_divisor
theorem ok_greatest_divisor {P : Program} {w : World} {K : PySem.W.Frag} {mg : Str → Option Value} {base : Heap} (T : Txt K mg) : FnG P w K mg base 1 T.a_greatest_divisor T.d_greatest_divisor ["first", "second"] m_greatest_divisor :=
  fn_def T.F_greatest_divisor sc_greatest_divisor fun cdv A outer s H hG hr => (mss_one (ms_ret (me_fnM fd_gcd T.g_gcd (mat_cons (ME.t (me_var 0)) (mat_cons (ME.t (me_var 1)) mat_nil)))))
/-! def times_columns -/
noncomputable def el_times_columns_1 : Rho → Option D :=
    (m2 dMul (mVar 4) (m2 dIx (mVar 5) (mVar 3)))
theorem un_el_times_columns_1 {ρ : Rho} {r : Option D} (h : (m2 dMul (mVar 4) (m2 dIx (mVar 5) (mVar 3))) ρ = r) : el_times_columns_1 ρ = r := h
noncomputable def el_times_columns_2 : Rho → Option D :=
    (mFn fSum (mCons (mL (mLc (mL2 wZip (mCons (mVar 0) (mCons (mVar 1) mNil))) (gTupD (gsCons (gSet 4) (gsCons (gSet 5) gsNil))) mYes el_times_columns_1 [4, 5])) mNil))
theorem un_el_times_columns_2 {ρ : Rho} {r : Option D} (h : (mFn fSum (mCons (mL (mLc (mL2 wZip (mCons (mVar 0) (mCons (mVar 1) mNil))) (gTupD (gsCons (gSet 4) (gsCons (gSet 5) gsNil))) mYes el_times_columns_1 [4, 5])) mNil)) ρ = r) : el_times_columns_2 ρ = r := h
noncomputable def b_times_columns : Rho → Option Res :=
    (mRet (mL (mLc (mL2 rng1 (mCons (mVar 2) mNil)) (gSet 3) mYes el_times_columns_2 [3])))
noncomputable def m_times_columns : List D → Option D := runDef 3 3 b_times_columns
theorem ok_times_columns {P : Program} {w : World} {K : PySem.W.Frag} {mg : Str → Option Value} {base : Heap} (T : Txt K mg) : FnG P w K mg base 1 T.a_times_columns T.d_times_columns ["numbers", "matrix", "width"] m_times_columns :=
  fn_def T.F_times_columns sc_times_columns fun cdv A outer s H hG hr => (mss_one (ms_ret (MO.e (mo_lc (own := [(("column" : Str), 3)]) rfl sc_times_columns.nd (MI.h (mi_range1 T.n_range (mat_cons (ME.t (me_var 2)) mat_nil))) (blkOk_by (N := N_times_columns) (sc := defScope s_times_columns) (own := [(("column" : Str), 3)]) (by decide +kernel)) (fun _ _ _ _ _ => (mg_name 3 sc_times_columns.nd)) (fun _ _ _ _ _ => mts_nil) (fun _ _ _ _ _ => (me_fnB (fd_sum rfl) T.n_sum (mat_cons (ME.t (MO.e (mo_lc (own := [(("number" : Str), 4), (("line" : Str), 5)]) rfl sc_times_columns.nd (mih_zip T.n_zip (mat_cons (ME.t (me_var 0)) (mat_cons (ME.t (me_var 1)) mat_nil))) (blkOk_by (own := [(("number" : Str), 4), (("line" : Str), 5)]) (by kernel_rfl)) (fun _ _ _ _ _ => (mg_tup rfl (mgs_cons (mg_name 4 sc_times_columns.nd) (mgs_cons (mg_name 5 sc_times_columns.nd) mgs_nil)) (fun _ _ _ h => gs_lenS (fun _ _ _ h => gs_lenS (fun _ _ _ h => gs_len0 h) h) h))) (fun _ _ _ _ _ => mts_nil) (fun _ _ _ _ _ => (me_bin od_mul (ME.t (me_var 4)) (ME.t (me_ix (ME.t (me_var 5)) (ME.t (me_var 3))))))))) mat_nil)))))))
/-! def worst_disturbance -/
noncomputable def el_worst_disturbance_1 : Rho → Option D :=
    (mIf (mAsB (m2 dGt (mVar 4) (mC (.int 0)))) (mVar 6) (mVar 5))
theorem un_el_worst_disturbance_1 {ρ : Rho} {r : Option D} (h : (mIf (mAsB (m2 dGt (mVar 4) (mC (.int 0)))) (mVar 6) (mVar 5)) ρ = r) : el_worst_disturbance_1 ρ = r := h
noncomputable def b_worst_disturbance : Rho → Option Res :=
    (mSeq (mPost [1] (mSet 2 (mCall m_times_columns [] (mCons (mVar 1) (mCons (m1 (dFld (Str.ofString "Machine") (Str.ofString "matrix_e")) (mVar 0)) (mCons (m1 (dFld (Str.ofString "Machine") (Str.ofString "disturbances")) (mVar 0)) mNil))))))
    (mZipRet 3 (mCons (mVar 2) (mCons (m1 (dFld (Str.ofString "Machine") (Str.ofString "disturbance_limits")) (mVar 0)) mNil)) (gTupD (gsCons (gSet 4) (gsCons (gTupD (gsCons (gSet 5) (gsCons (gSet 6) gsNil))) gsNil))) mYes el_worst_disturbance_1 [4, 5, 6]))
noncomputable def m_worst_disturbance : List D → Option D := runDef 2 5 b_worst_disturbance
theorem ok_worst_disturbance {P : Program} {w : World} {K : PySem.W.Frag} {mg : Str → Option Value} {base : Heap} (T : Txt K mg) : FnG P w K mg base 2 T.a_worst_disturbance T.d_worst_disturbance ["machine", "numbers"] m_worst_disturbance :=
  fn_def T.F_worst_disturbance sc_worst_disturbance fun cdv A outer s H hG hr => (mss_cons (ms_post [1] (ms_set (i := 2) sc_worst_disturbance.nd (me_call (ok_times_columns T) hG (hr.mono (by decide)) T.g_times_columns T.F_times_columns.kp (T.b_times_columns) (T.v_times_columns) (fun _ => .nil) (mae_cons (me_var 1) (mae_cons (me_fld T.ns_Machine T.cl_Machine T.na_Machine_matrix_e (me_var 0)) (mae_cons (me_fld T.ns_Machine T.cl_Machine T.na_Machine_disturbances (me_var 0)) mae_nil)))))) (mss_zipRet (own := [(("share" : Str), 4), (("least" : Str), 5), (("greatest" : Str), 6)]) 3 T.n_zip T.n_tuple rfl sc_worst_disturbance.nd (mae_cons (me_var 2) (mae_cons (me_fld T.ns_Machine T.cl_Machine T.na_Machine_disturbance_limits (me_var 0)) mae_nil)) (blkOk_by (N := N_worst_disturbance) (sc := defScope s_worst_disturbance) (own := [(("share" : Str), 4), (("least" : Str), 5), (("greatest" : Str), 6)]) (by decide +kernel)) (fun _ _ _ _ _ => (mg_tup rfl (mgs_cons (mg_name 4 sc_worst_disturbance.nd) (mgs_cons (mg_tup rfl (mgs_cons (mg_name 5 sc_worst_disturbance.nd) (mgs_cons (mg_name 6 sc_worst_disturbance.nd) mgs_nil)) (fun _ _ _ h => gs_lenS (fun _ _ _ h => gs_lenS (fun _ _ _ h => gs_len0 h) h) h)) mgs_nil)) (fun _ _ _ h => gs_lenS (fun _ _ _ h => gs_lenS (fun _ _ _ h => gs_len0 h) h) h))) (fun _ _ _ _ _ => mts_nil) (fun _ _ _ _ _ => (me_if (mb_cmp od_gt (ME.t (me_var 4)) (ME.t me_int)) (me_var 6) (me_var 5)))))
/-! def divided_row -/
noncomputable def lp_divided_row_1 : Rho → Option Res :=
    (mPost [3] (mSet 2 (mCall m_greatest_divisor [] (mCons (mVar 2) (mCons (mVar 3) mNil)))))
theorem un_lp_divided_row_1 {ρ : Rho} {r : Option Res} (h : (mPost [3] (mSet 2 (mCall m_greatest_divisor [] (mCons (mVar 2) (mCons (mVar 3) mNil))))) ρ = r) : lp_divided_row_1 ρ = r := h
noncomputable def el_divided_row_1 : Rho → Option D :=
    (m2 dDiv (mVar 3) (mVar 2))
theorem un_el_divided_row_1 {ρ : Rho} {r : Option D} (h : (m2 dDiv (mVar 3) (mVar 2)) ρ = r) : el_divided_row_1 ρ = r := h
noncomputable def b_divided_row : Rho → Option Res :=
    (mSeq (mSet 2 (mVar 1))
    (mSeq (mPost [3] (mFor (mSeqOf (mVar 0)) (gSet 3) lp_divided_row_1))
    (mSeq (mIfS (mAsB (m2 dEq (mVar 2) (mC (.int 0)))) (mRet (mTup (mCons (mFn fTuple (mCons (mVar 0) mNil)) (mCons (mVar 1) mNil)))) mSkip)
    (mRet (mTup (mCons (mFn fTuple (mCons (mL (mLc (mSeqOf (mVar 0)) (gSet 3) mYes el_divided_row_1 [3])) mNil)) (mCons (m2 dDiv (mVar 1) (mVar 2)) mNil)))))))
noncomputable def m_divided_row : List D → Option D := runDef 2 2 b_divided_row
theorem ok_divided_row {P : Program} {w : World} {K : PySem.W.Frag} {mg : Str → Option Value} {base : Heap} (T : Txt K mg) : FnG P w K mg base 2 T.a_divided_row T.d_divided_row ["numbers", "bound"] m_divided_row :=
  fn_def T.F_divided_row sc_divided_row fun cdv A outer s H hG hr => (mss_cons (ms_set (i := 2) sc_divided_row.nd (me_var 1)) (mss_cons (ms_post [3] (ms_for PassesOwn.never rfl (mi_seq (me_var 0)) (mg_name 3 sc_divided_row.nd) (mss_one (ms_post [3] (ms_set (i := 2) sc_divided_row.nd (me_call (ok_greatest_divisor T) hG (hr.mono (by decide)) T.g_greatest_divisor T.F_greatest_divisor.kp (T.b_greatest_divisor) (T.v_greatest_divisor) (fun _ => .nil) (mae_cons (me_var 2) (mae_cons (me_var 3) mae_nil)))))))) (mss_cons (ms_if (mb_cmp (od_eq hr.units) (ME.t (me_var 2)) (ME.t me_int)) (mss_one (ms_ret (me_tup (mae_cons (me_fnT fd_tuple T.n_tuple (mat_cons (ME.t (me_var 0)) mat_nil)) (mae_cons (me_var 1) mae_nil))))) mss_nil) (mss_one (ms_ret (me_tup (mae_cons (me_fnT fd_tuple T.n_tuple (mat_cons (ME.t (MO.e (mo_lc (own := [(("number" : Str), 3)]) rfl sc_divided_row.nd (mih_seq (ME.t (me_var 0))) (blkOk_by (N := N_divided_row) (sc := defScope s_divided_row) (own := [(("number" : Str), 3)]) (by decide +kernel)) (fun _ _ _ _ _ => (mg_name 3 sc_divided_row.nd)) (fun _ _ _ _ _ => mts_nil) (fun _ _ _ _ _ => (me_bin od_div (ME.t (me_var 3)) (ME.t (me_var 2))))))) mat_nil)) (mae_cons (me_bin od_div (ME.t (me_var 1)) (ME.t (me_var 2))) mae_nil))))))))
/-! def drawn_back -/
noncomputable def el_drawn_back_1 : Rho → Option D :=
    (m2 dMul (mVar 7) (mVar 8))
theorem un_el_drawn_back_1 {ρ : Rho} {r : Option D} (h : (m2 dMul (mVar 7) (mVar 8)) ρ = r) : el_drawn_back_1 ρ = r := h
noncomputable def b_drawn_back : Rho → Option Res :=
    (mSeq (mPost [1] (mAsg (gTupD (gsCons (gSet 2) (gsCons (gSet 3) gsNil))) (mVar 1)))
    (mSeq (mSet 4 (mCall m_times_columns [] (mCons (mVar 2) (mCons (m1 (dFld (Str.ofString "Machine") (Str.ofString "matrix_a")) (mVar 0)) (mCons (m1 (dFld (Str.ofString "Machine") (Str.ofString "states")) (mVar 0)) mNil)))))
    (mSeq (mSet 5 (mCall m_times_columns [] (mCons (mVar 2) (mCons (m1 (dFld (Str.ofString "Machine") (Str.ofString "matrix_e")) (mVar 0)) (mCons (m1 (dFld (Str.ofString "Machine") (Str.ofString "disturbances")) (mVar 0)) mNil)))))
    (mSeq (mPost [2, 5] (mSet 6 (mFn fSum (mCons (mL (mLc (mL2 wZip (mCons (mVar 5) (mCons (mCall m_worst_disturbance [] (mCons (mVar 0) (mCons (mVar 2) mNil))) mNil))) (gTupD (gsCons (gSet 7) (gsCons (gSet 8) gsNil))) mYes el_drawn_back_1 [7, 8])) mNil))))
    (mRet (mCall m_divided_row [] (mCons (mVar 4) (mCons (m2 dSub (m2 dMul (m1 (dFld (Str.ofString "Machine") (Str.ofString "divisor")) (mVar 0)) (mVar 3)) (mVar 6)) mNil))))))))
noncomputable def m_drawn_back : List D → Option D := runDef 2 7 b_drawn_back
theorem ok_drawn_back {P : Program} {w : World} {K : PySem.W.Frag} {mg : Str → Option Value} {base : Heap} (T : Txt K mg) : FnG P w K mg base 3 T.a_drawn_back T.d_drawn_back ["machine", "row"] m_drawn_back :=
  fn_def T.F_drawn_back sc_drawn_back fun cdv A outer s H hG hr => (mss_cons (ms_post [1] (ms_asg (me_var 1) (mg_tup rfl (mgs_cons (mg_name 2 sc_drawn_back.nd) (mgs_cons (mg_name 3 sc_drawn_back.nd) mgs_nil)) (fun _ _ _ h => gs_lenS (fun _ _ _ h => gs_lenS (fun _ _ _ h => gs_len0 h) h) h)))) (mss_cons (ms_set (i := 4) sc_drawn_back.nd (me_call (ok_times_columns T) hG (hr.mono (by decide)) T.g_times_columns T.F_times_columns.kp (T.b_times_columns) (T.v_times_columns) (fun _ => .nil) (mae_cons (me_var 2) (mae_cons (me_fld T.ns_Machine T.cl_Machine T.na_Machine_matrix_a (me_var 0)) (mae_cons (me_fld T.ns_Machine T.cl_Machine T.na_Machine_states (me_var 0)) mae_nil))))) (mss_cons (ms_set (i := 5) sc_drawn_back.nd (me_call (ok_times_columns T) hG (hr.mono (by decide)) T.g_times_columns T.F_times_columns.kp (T.b_times_columns) (T.v_times_columns) (fun _ => .nil) (mae_cons (me_var 2) (mae_cons (me_fld T.ns_Machine T.cl_Machine T.na_Machine_matrix_e (me_var 0)) (mae_cons (me_fld T.ns_Machine T.cl_Machine T.na_Machine_disturbances (me_var 0)) mae_nil))))) (mss_cons (ms_post [2, 5] (ms_set (i := 6) sc_drawn_back.nd (me_fnB (fd_sum rfl) T.n_sum (mat_cons (ME.t (MO.e (mo_lc (own := [(("share" : Str), 7), (("part" : Str), 8)]) rfl sc_drawn_back.nd (mih_zip T.n_zip (mat_cons (ME.t (me_var 5)) (mat_cons (ME.t (me_call (ok_worst_disturbance T) hG (hr.mono (by decide)) T.g_worst_disturbance T.F_worst_disturbance.kp (T.b_worst_disturbance) (T.v_worst_disturbance) (fun _ => .nil) (mae_cons (me_var 0) (mae_cons (me_var 2) mae_nil)))) mat_nil))) (blkOk_by (N := N_drawn_back) (sc := defScope s_drawn_back) (own := [(("share" : Str), 7), (("part" : Str), 8)]) (by decide +kernel)) (fun _ _ _ _ _ => (mg_tup rfl (mgs_cons (mg_name 7 sc_drawn_back.nd) (mgs_cons (mg_name 8 sc_drawn_back.nd) mgs_nil)) (fun _ _ _ h => gs_lenS (fun _ _ _ h => gs_lenS (fun _ _ _ h => gs_len0 h) h) h))) (fun _ _ _ _ _ => mts_nil) (fun _ _ _ _ _ => (me_bin od_mul (ME.t (me_var 7)) (ME.t (me_var 8))))))) mat_nil)))) (mss_one (ms_ret (me_call (ok_divided_row T) hG (hr.mono (by decide)) T.g_divided_row T.F_divided_row.kp (T.b_divided_row) (T.v_divided_row) (fun _ => .nil) (mae_cons (me_var 4) (mae_cons (me_bin od_sub (ME.t (me_bin od_mul (ME.t (me_fld T.ns_Machine T.cl_Machine T.na_Machine_divisor (me_var 0))) (ME.t (me_var 3)))) (ME.t (me_var 6))) mae_nil)))))))))
/-! def is_number -/
noncomputable def b_is_number : Rho → Option Res :=
    (mRet (mAndV (mCall m_is_whole [] (mCons (mVar 0) mNil)) (mChain dLe dLe (mVar 1) (mVar 0) (mVar 2))))
noncomputable def m_is_number : List D → Option D := runDef 3 0 b_is_number
theorem ok_is_number {P : Program} {w : World} {K : PySem.W.Frag} {mg : Str → Option Value} {base : Heap} (T : Txt K mg) : FnG P w K mg base 2 T.a_is_number T.d_is_number ["value", "least", "greatest"] m_is_number :=
  fn_def T.F_is_number sc_is_number fun cdv A outer s H hG hr => (mss_one (ms_ret (me_and (me_call (ok_is_whole T) hG (hr.mono (by decide)) T.g_is_whole T.F_is_whole.kp (T.b_is_whole) (T.v_is_whole) (fun _ => .nil) (mae_cons (me_var 0) mae_nil)) (me_one (me_chain od_le od_le (ME.t (me_var 1)) (ME.t (me_var 0)) (ME.t (me_var 2)))))))
/-! def are_numbers -/
noncomputable def el_are_numbers_1 : Rho → Option D :=
    (mCall m_is_number [] (mCons (mVar 2) (mCons (m1 dNeg (mC (.int (20)))) (mCons (mC (.int (20))) mNil))))
theorem un_el_are_numbers_1 {ρ : Rho} {r : Option D} (h : (mCall m_is_number [] (mCons (mVar 2) (mCons (m1 dNeg (mC (.int (20)))) (mCons (mC (.int (20))) mNil)))) ρ = r) : el_are_numbers_1 ρ = r := h
noncomputable def b_are_numbers : Rho → Option Res :=
    (mSeq (mPost [1] (mIfS (mOr (mNot (mAsB (m1 (isD "tuple") (mVar 0)))) (mAsB (m2 dNe (mFn fLen (mCons (mVar 0) mNil)) (mVar 1)))) (mRet (mC (.bool false))) mSkip))
    (mRet (mFn fAll (mCons (mL (mLc (mSeqOf (mVar 0)) (gSet 2) mYes el_are_numbers_1 [2])) mNil))))
noncomputable def m_are_numbers : List D → Option D := runDef 2 1 b_are_numbers
theorem ok_are_numbers {P : Program} {w : World} {K : PySem.W.Frag} {mg : Str → Option Value} {base : Heap} (T : Txt K mg) : FnG P w K mg base 3 T.a_are_numbers T.d_are_numbers ["value", "count"] m_are_numbers :=
  fn_def T.F_are_numbers sc_are_numbers fun cdv A outer s H hG hr => (mss_cons (ms_post [1] (ms_if (MW.toB (mw_or (mb_not (mb_val (ME.t (me_isi T.n_isinstance T.n_tuple (ME.t (me_var 0)))))) (mw_or1 (mb_cmp (od_ne hr.units) (ME.t (me_fnB fd_len T.n_len (mat_cons (ME.t (me_var 0)) mat_nil))) (ME.t (me_var 1)))))) (mss_one (ms_ret me_bl)) mss_nil)) (mss_one (ms_ret (me_fnB (fd_all rfl) T.n_all (mat_cons (ME.t (MO.e (mo_lc (own := [(("number" : Str), 2)]) rfl sc_are_numbers.nd (mih_seq (ME.t (me_var 0))) (blkOk_by (N := N_are_numbers) (sc := defScope s_are_numbers) (own := [(("number" : Str), 2)]) (by decide +kernel)) (fun _ _ _ _ _ => (mg_name 2 sc_are_numbers.nd)) (fun _ _ _ _ _ => mts_nil) (fun _ _ _ _ _ => (me_call (ok_is_number T) hG (hr.mono (by decide)) T.g_is_number T.F_is_number.kp (T.b_is_number) (T.v_is_number) (fun _ => .nil) (mae_cons (me_var 2) (mae_cons (me_neg (ME.t (me_glob (v := .int (20)) T.g_MOST_NUMBER ⟨_, rfl⟩ (fun _ => .int (20))))) (mae_cons (me_glob (v := .int (20)) T.g_MOST_NUMBER ⟨_, rfl⟩ (fun _ => .int (20))) mae_nil)))))))) mat_nil)))))
/-! def are_pairs -/
noncomputable def el_are_pairs_1 : Rho → Option D :=
    (mAndV (mCall m_are_numbers [] (mCons (mVar 2) (mCons (mC (.int 2)) mNil))) (m2 dLe (m2 dIx (mVar 2) (mC (.int 0))) (m2 dIx (mVar 2) (mC (.int 1)))))
theorem un_el_are_pairs_1 {ρ : Rho} {r : Option D} (h : (mAndV (mCall m_are_numbers [] (mCons (mVar 2) (mCons (mC (.int 2)) mNil))) (m2 dLe (m2 dIx (mVar 2) (mC (.int 0))) (m2 dIx (mVar 2) (mC (.int 1))))) ρ = r) : el_are_pairs_1 ρ = r := h
noncomputable def b_are_pairs : Rho → Option Res :=
    (mSeq (mPost [1] (mIfS (mOr (mNot (mAsB (m1 (isD "tuple") (mVar 0)))) (mAsB (m2 dNe (mFn fLen (mCons (mVar 0) mNil)) (mVar 1)))) (mRet (mC (.bool false))) mSkip))
    (mRet (mFn fAll (mCons (mL (mLc (mSeqOf (mVar 0)) (gSet 2) mYes el_are_pairs_1 [2])) mNil))))
noncomputable def m_are_pairs : List D → Option D := runDef 2 1 b_are_pairs
theorem ok_are_pairs {P : Program} {w : World} {K : PySem.W.Frag} {mg : Str → Option Value} {base : Heap} (T : Txt K mg) : FnG P w K mg base 4 T.a_are_pairs T.d_are_pairs ["value", "count"] m_are_pairs :=
  fn_def T.F_are_pairs sc_are_pairs fun cdv A outer s H hG hr => (mss_cons (ms_post [1] (ms_if (MW.toB (mw_or (mb_not (mb_val (ME.t (me_isi T.n_isinstance T.n_tuple (ME.t (me_var 0)))))) (mw_or1 (mb_cmp (od_ne hr.units) (ME.t (me_fnB fd_len T.n_len (mat_cons (ME.t (me_var 0)) mat_nil))) (ME.t (me_var 1)))))) (mss_one (ms_ret me_bl)) mss_nil)) (mss_one (ms_ret (me_fnB (fd_all rfl) T.n_all (mat_cons (ME.t (MO.e (mo_lc (own := [(("pair" : Str), 2)]) rfl sc_are_pairs.nd (mih_seq (ME.t (me_var 0))) (blkOk_by (N := N_are_pairs) (sc := defScope s_are_pairs) (own := [(("pair" : Str), 2)]) (by decide +kernel)) (fun _ _ _ _ _ => (mg_name 2 sc_are_pairs.nd)) (fun _ _ _ _ _ => mts_nil) (fun _ _ _ _ _ => (me_and (me_call (ok_are_numbers T) hG (hr.mono (by decide)) T.g_are_numbers T.F_are_numbers.kp (T.b_are_numbers) (T.v_are_numbers) (fun _ => .nil) (mae_cons (me_var 2) (mae_cons me_int mae_nil))) (me_one (me_cmp od_le (ME.t (me_ix (ME.t (me_var 2)) (ME.t me_int))) (ME.t (me_ix (ME.t (me_var 2)) (ME.t me_int)))))))))) mat_nil)))))
/-! def width_of -/
noncomputable def b_width_of : Rho → Option Res :=
    (mSeq (mIfS (mOr (mNot (mAsB (m1 (isD "tuple") (mVar 0)))) (mOr (mAsB (m2 dEq (mFn fLen (mCons (mVar 0) mNil)) (mC (.int 0)))) (mNot (mAsB (m1 (isD "tuple") (m2 dIx (mVar 0) (mC (.int 0)))))))) (mRet (mC .none)) mSkip)
    (mRet (mFn fLen (mCons (m2 dIx (mVar 0) (mC (.int 0))) mNil))))
noncomputable def m_width_of : List D → Option D := runDef 1 0 b_width_of
theorem ok_width_of {P : Program} {w : World} {K : PySem.W.Frag} {mg : Str → Option Value} {base : Heap} (T : Txt K mg) : FnG P w K mg base 1 T.a_width_of T.d_width_of ["matrix"] m_width_of :=
  fn_def T.F_width_of sc_width_of fun cdv A outer s H hG hr => (mss_cons (ms_if (MW.toB (mw_or (mb_not (mb_val (ME.t (me_isi T.n_isinstance T.n_tuple (ME.t (me_var 0)))))) (mw_or (mb_cmp (od_eq hr.units) (ME.t (me_fnB fd_len T.n_len (mat_cons (ME.t (me_var 0)) mat_nil))) (ME.t me_int)) (mw_or1 (mb_not (mb_val (ME.t (me_isi T.n_isinstance T.n_tuple (ME.t (me_ix (ME.t (me_var 0)) (ME.t me_int))))))))))) (mss_one (ms_ret me_non)) mss_nil) (mss_one (ms_ret (me_fnB fd_len T.n_len (mat_cons (ME.t (me_ix (ME.t (me_var 0)) (ME.t me_int))) mat_nil)))))
/-! def is_matrix -/
noncomputable def el_is_matrix_1 : Rho → Option D :=
    (mCall m_are_numbers [] (mCons (mVar 3) (mCons (mVar 2) mNil)))
theorem un_el_is_matrix_1 {ρ : Rho} {r : Option D} (h : (mCall m_are_numbers [] (mCons (mVar 3) (mCons (mVar 2) mNil))) ρ = r) : el_is_matrix_1 ρ = r := h
noncomputable def b_is_matrix : Rho → Option Res :=
    (mSeq (mPost [1] (mIfS (mOr (mNot (mAsB (m1 (isD "tuple") (mVar 0)))) (mAsB (m2 dNe (mFn fLen (mCons (mVar 0) mNil)) (mVar 1)))) (mRet (mC (.bool false))) mSkip))
    (mRet (mFn fAll (mCons (mL (mLc (mSeqOf (mVar 0)) (gSet 3) mYes el_is_matrix_1 [3])) mNil))))
noncomputable def m_is_matrix : List D → Option D := runDef 3 1 b_is_matrix
theorem ok_is_matrix {P : Program} {w : World} {K : PySem.W.Frag} {mg : Str → Option Value} {base : Heap} (T : Txt K mg) : FnG P w K mg base 4 T.a_is_matrix T.d_is_matrix ["value", "height", "width"] m_is_matrix :=
  fn_def T.F_is_matrix sc_is_matrix fun cdv A outer s H hG hr => (mss_cons (ms_post [1] (ms_if (MW.toB (mw_or (mb_not (mb_val (ME.t (me_isi T.n_isinstance T.n_tuple (ME.t (me_var 0)))))) (mw_or1 (mb_cmp (od_ne hr.units) (ME.t (me_fnB fd_len T.n_len (mat_cons (ME.t (me_var 0)) mat_nil))) (ME.t (me_var 1)))))) (mss_one (ms_ret me_bl)) mss_nil)) (mss_one (ms_ret (me_fnB (fd_all rfl) T.n_all (mat_cons (ME.t (MO.e (mo_lc (own := [(("row" : Str), 3)]) rfl sc_is_matrix.nd (mih_seq (ME.t (me_var 0))) (blkOk_by (N := N_is_matrix) (sc := defScope s_is_matrix) (own := [(("row" : Str), 3)]) (by decide +kernel)) (fun _ _ _ _ _ => (mg_name 3 sc_is_matrix.nd)) (fun _ _ _ _ _ => mts_nil) (fun _ _ _ _ _ => (me_call (ok_are_numbers T) hG (hr.mono (by decide)) T.g_are_numbers T.F_are_numbers.kp (T.b_are_numbers) (T.v_are_numbers) (fun _ => .nil) (mae_cons (me_var 3) (mae_cons (me_var 2) mae_nil))))))) mat_nil)))))
/-! def Machine_init -/
noncomputable def b_Machine_init : Rho → Option Res :=
    (mSeq (mFldD 0 (Str.ofString "Machine") (Str.ofString "matrix_a") (mVar 1))
    (mSeq (mFldD 0 (Str.ofString "Machine") (Str.ofString "matrix_b") (mVar 2))
    (mSeq (mFldD 0 (Str.ofString "Machine") (Str.ofString "matrix_e") (mVar 3))
    (mSeq (mFldD 0 (Str.ofString "Machine") (Str.ofString "divisor") (mVar 4))
    (mSeq (mFldD 0 (Str.ofString "Machine") (Str.ofString "input_limits") (mVar 5))
    (mSeq (mFldD 0 (Str.ofString "Machine") (Str.ofString "disturbance_limits") (mVar 6))
    (mSeq (mFldD 0 (Str.ofString "Machine") (Str.ofString "states") (mCall m_width_of [] (mCons (mVar 1) mNil)))
    (mSeq (mFldD 0 (Str.ofString "Machine") (Str.ofString "inputs") (mCall m_width_of [] (mCons (mVar 2) mNil)))
    (mSeq (mFldD 0 (Str.ofString "Machine") (Str.ofString "disturbances") (mCall m_width_of [] (mCons (mVar 3) mNil)))
    (mSeq (mPost [1] (mIfS (mOr (mNot (mAsB (mCall m_is_number [] (mCons (mGetD 0 (Str.ofString "Machine") (Str.ofString "states")) (mCons (mC (.int 1)) (mCons (mC (.int (3))) mNil)))))) (mNot (mAsB (mCall m_is_matrix [] (mCons (mVar 1) (mCons (mGetD 0 (Str.ofString "Machine") (Str.ofString "states")) (mCons (mGetD 0 (Str.ofString "Machine") (Str.ofString "states")) mNil))))))) (mRaise (mErr (Str.ofString "BadMachine") [] (mCons (mC (.str (Str.ofString "a"))) mNil))) mSkip))
    (mSeq (mPost [2] (mIfS (mOr (mNot (mAsB (mCall m_is_number [] (mCons (mGetD 0 (Str.ofString "Machine") (Str.ofString "inputs")) (mCons (mC (.int 0)) (mCons (mC (.int (2))) mNil)))))) (mNot (mAsB (mCall m_is_matrix [] (mCons (mVar 2) (mCons (mGetD 0 (Str.ofString "Machine") (Str.ofString "states")) (mCons (mGetD 0 (Str.ofString "Machine") (Str.ofString "inputs")) mNil))))))) (mRaise (mErr (Str.ofString "BadMachine") [] (mCons (mC (.str (Str.ofString "b"))) mNil))) mSkip))
    (mSeq (mPost [3] (mIfS (mOr (mNot (mAsB (mCall m_is_number [] (mCons (mGetD 0 (Str.ofString "Machine") (Str.ofString "disturbances")) (mCons (mC (.int 0)) (mCons (mC (.int (2))) mNil)))))) (mNot (mAsB (mCall m_is_matrix [] (mCons (mVar 3) (mCons (mGetD 0 (Str.ofString "Machine") (Str.ofString "states")) (mCons (mGetD 0 (Str.ofString "Machine") (Str.ofString "disturbances")) mNil))))))) (mRaise (mErr (Str.ofString "BadMachine") [] (mCons (mC (.str (Str.ofString "e"))) mNil))) mSkip))
    (mSeq (mPost [4] (mIfS (mNot (mAsB (mCall m_is_number [] (mCons (mVar 4) (mCons (mC (.int 1)) (mCons (mC (.int (100))) mNil)))))) (mRaise (mErr (Str.ofString "BadMachine") [] (mCons (mC (.str (Str.ofString "divisor"))) mNil))) mSkip))
    (mSeq (mPost [5] (mIfS (mNot (mAsB (mCall m_are_pairs [] (mCons (mVar 5) (mCons (mGetD 0 (Str.ofString "Machine") (Str.ofString "inputs")) mNil))))) (mRaise (mErr (Str.ofString "BadMachine") [] (mCons (mC (.str (Str.ofString "input_limits"))) mNil))) mSkip))
    (mPost [6] (mIfS (mNot (mAsB (mCall m_are_pairs [] (mCons (mVar 6) (mCons (mGetD 0 (Str.ofString "Machine") (Str.ofString "disturbances")) mNil))))) (mRaise (mErr (Str.ofString "BadMachine") [] (mCons (mC (.str (Str.ofString "disturbance_limits"))) mNil))) mSkip))))))))))))))))
noncomputable def m_Machine_init : List D → Option OutI := runDefI (Str.ofString "Machine") 7 0 b_Machine_init
theorem ok_Machine_init {P : Program} {w : World} {K : PySem.W.Frag} {mg : Str → Option Value} {base : Heap} (T : Txt K mg) : FnI P w K mg base 5 T.a_Machine_init T.d_Machine_init ["self", "a", "b", "e", "divisor", "input_limits", "disturbance_limits"] (Str.ofString "Machine") m_Machine_init :=
  fn_defI T.F_Machine_init sc_Machine_init fun cdv A outer s H E hG hr => (mss_cons (ms_fldD T.ns_Machine T.cl_Machine T.na_Machine_matrix_a 0 (me_var 1)) (mss_cons (ms_fldD T.ns_Machine T.cl_Machine T.na_Machine_matrix_b 0 (me_var 2)) (mss_cons (ms_fldD T.ns_Machine T.cl_Machine T.na_Machine_matrix_e 0 (me_var 3)) (mss_cons (ms_fldD T.ns_Machine T.cl_Machine T.na_Machine_divisor 0 (me_var 4)) (mss_cons (ms_fldD T.ns_Machine T.cl_Machine T.na_Machine_input_limits 0 (me_var 5)) (mss_cons (ms_fldD T.ns_Machine T.cl_Machine T.na_Machine_disturbance_limits 0 (me_var 6)) (mss_cons (ms_fldD T.ns_Machine T.cl_Machine T.na_Machine_states 0 (me_call (ok_width_of T) hG (hr.mono (by decide)) T.g_width_of T.F_width_of.kp (T.b_width_of) (T.v_width_of) (fun _ => .nil) (mae_cons (me_var 1) mae_nil))) (mss_cons (ms_fldD T.ns_Machine T.cl_Machine T.na_Machine_inputs 0 (me_call (ok_width_of T) hG (hr.mono (by decide)) T.g_width_of T.F_width_of.kp (T.b_width_of) (T.v_width_of) (fun _ => .nil) (mae_cons (me_var 2) mae_nil))) (mss_cons (ms_fldD T.ns_Machine T.cl_Machine T.na_Machine_disturbances 0 (me_call (ok_width_of T) hG (hr.mono (by decide)) T.g_width_of T.F_width_of.kp (T.b_width_of) (T.v_width_of) (fun _ => .nil) (mae_cons (me_var 3) mae_nil))) (mss_cons (ms_post [1] (ms_if (MW.toB (mw_or (mb_not (mb_val (ME.t (me_call (ok_is_number T) hG (hr.mono (by decide)) T.g_is_number T.F_is_number.kp (T.b_is_number) (T.v_is_number) (fun _ => .nil) (mae_cons (me_getD T.ns_Machine T.cl_Machine T.na_Machine_states 0) (mae_cons me_int (mae_cons (me_glob (v := .int (3)) T.g_MOST_STATES ⟨_, rfl⟩ (fun _ => .int (3))) mae_nil))))))) (mw_or1 (mb_not (mb_val (ME.t (me_call (ok_is_matrix T) hG (hr.mono (by decide)) T.g_is_matrix T.F_is_matrix.kp (T.b_is_matrix) (T.v_is_matrix) (fun _ => .nil) (mae_cons (me_var 1) (mae_cons (me_getD T.ns_Machine T.cl_Machine T.na_Machine_states 0) (mae_cons (me_getD T.ns_Machine T.cl_Machine T.na_Machine_states 0) mae_nil)))))))))) (mss_one (ms_raise rfl (takes_of rfl rfl rfl rfl) (mmk_err T.E_BadMachine (okc_BadMachine T) (hr.mono (by decide)) T.g_BadMachine T.bi_BadMachine_2 T.vi_BadMachine_2 (fun _ => .nil) (passes_call (takes_of rfl rfl rfl rfl) fun _ _ _ _ z => False.elim z) (mae_cons me_str mae_nil)))) mss_nil)) (mss_cons (ms_post [2] (ms_if (MW.toB (mw_or (mb_not (mb_val (ME.t (me_call (ok_is_number T) hG (hr.mono (by decide)) T.g_is_number T.F_is_number.kp (T.b_is_number) (T.v_is_number) (fun _ => .nil) (mae_cons (me_getD T.ns_Machine T.cl_Machine T.na_Machine_inputs 0) (mae_cons me_int (mae_cons (me_glob (v := .int (2)) T.g_MOST_INPUTS ⟨_, rfl⟩ (fun _ => .int (2))) mae_nil))))))) (mw_or1 (mb_not (mb_val (ME.t (me_call (ok_is_matrix T) hG (hr.mono (by decide)) T.g_is_matrix T.F_is_matrix.kp (T.b_is_matrix) (T.v_is_matrix) (fun _ => .nil) (mae_cons (me_var 2) (mae_cons (me_getD T.ns_Machine T.cl_Machine T.na_Machine_states 0) (mae_cons (me_getD T.ns_Machine T.cl_Machine T.na_Machine_inputs 0) mae_nil)))))))))) (mss_one (ms_raise rfl (takes_of rfl rfl rfl rfl) (mmk_err T.E_BadMachine (okc_BadMachine T) (hr.mono (by decide)) T.g_BadMachine T.bi_BadMachine_2 T.vi_BadMachine_2 (fun _ => .nil) (passes_call (takes_of rfl rfl rfl rfl) fun _ _ _ _ z => False.elim z) (mae_cons me_str mae_nil)))) mss_nil)) (mss_cons (ms_post [3] (ms_if (MW.toB (mw_or (mb_not (mb_val (ME.t (me_call (ok_is_number T) hG (hr.mono (by decide)) T.g_is_number T.F_is_number.kp (T.b_is_number) (T.v_is_number) (fun _ => .nil) (mae_cons (me_getD T.ns_Machine T.cl_Machine T.na_Machine_disturbances 0) (mae_cons me_int (mae_cons (me_glob (v := .int (2)) T.g_MOST_DISTURBANCES ⟨_, rfl⟩ (fun _ => .int (2))) mae_nil))))))) (mw_or1 (mb_not (mb_val (ME.t (me_call (ok_is_matrix T) hG (hr.mono (by decide)) T.g_is_matrix T.F_is_matrix.kp (T.b_is_matrix) (T.v_is_matrix) (fun _ => .nil) (mae_cons (me_var 3) (mae_cons (me_getD T.ns_Machine T.cl_Machine T.na_Machine_states 0) (mae_cons (me_getD T.ns_Machine T.cl_Machine T.na_Machine_disturbances 0) mae_nil)))))))))) (mss_one (ms_raise rfl (takes_of rfl rfl rfl rfl) (mmk_err T.E_BadMachine (okc_BadMachine T) (hr.mono (by decide)) T.g_BadMachine T.bi_BadMachine_2 T.vi_BadMachine_2 (fun _ => .nil) (passes_call (takes_of rfl rfl rfl rfl) fun _ _ _ _ z => False.elim z) (mae_cons me_str mae_nil)))) mss_nil)) (mss_cons (ms_post [4] (ms_if (mb_not (mb_val (ME.t (me_call (ok_is_number T) hG (hr.mono (by decide)) T.g_is_number T.F_is_number.kp (T.b_is_number) (T.v_is_number) (fun _ => .nil) (mae_cons (me_var 4) (mae_cons me_int (mae_cons (me_glob (v := .int (100)) T.g_MOST_DIVISOR ⟨_, rfl⟩ (fun _ => .int (100))) mae_nil))))))) (mss_one (ms_raise rfl (takes_of rfl rfl rfl rfl) (mmk_err T.E_BadMachine (okc_BadMachine T) (hr.mono (by decide)) T.g_BadMachine T.bi_BadMachine_2 T.vi_BadMachine_2 (fun _ => .nil) (passes_call (takes_of rfl rfl rfl rfl) fun _ _ _ _ z => False.elim z) (mae_cons me_str mae_nil)))) mss_nil)) (mss_cons (ms_post [5] (ms_if (mb_not (mb_val (ME.t (me_call (ok_are_pairs T) hG (hr.mono (by decide)) T.g_are_pairs T.F_are_pairs.kp (T.b_are_pairs) (T.v_are_pairs) (fun _ => .nil) (mae_cons (me_var 5) (mae_cons (me_getD T.ns_Machine T.cl_Machine T.na_Machine_inputs 0) mae_nil)))))) (mss_one (ms_raise rfl (takes_of rfl rfl rfl rfl) (mmk_err T.E_BadMachine (okc_BadMachine T) (hr.mono (by decide)) T.g_BadMachine T.bi_BadMachine_2 T.vi_BadMachine_2 (fun _ => .nil) (passes_call (takes_of rfl rfl rfl rfl) fun _ _ _ _ z => False.elim z) (mae_cons me_str mae_nil)))) mss_nil)) (mss_one (ms_post [6] (ms_if (mb_not (mb_val (ME.t (me_call (ok_are_pairs T) hG (hr.mono (by decide)) T.g_are_pairs T.F_are_pairs.kp (T.b_are_pairs) (T.v_are_pairs) (fun _ => .nil) (mae_cons (me_var 6) (mae_cons (me_getD T.ns_Machine T.cl_Machine T.na_Machine_disturbances 0) mae_nil)))))) (mss_one (ms_raise rfl (takes_of rfl rfl rfl rfl) (mmk_err T.E_BadMachine (okc_BadMachine T) (hr.mono (by decide)) T.g_BadMachine T.bi_BadMachine_2 T.vi_BadMachine_2 (fun _ => .nil) (passes_call (takes_of rfl rfl rfl rfl) fun _ _ _ _ z => False.elim z) (mae_cons me_str mae_nil)))) mss_nil)))))))))))))))))
/-! def _law_draw -/
noncomputable def lp__law_draw_1 : Rho → Option Res :=
    (mPost [4] (mSet 3 (m2 dDiv (mVar 3) (mC (.int 1000)))))
theorem un_lp__law_draw_1 {ρ : Rho} {r : Option Res} (h : (mPost [4] (mSet 3 (m2 dDiv (mVar 3) (mC (.int 1000))))) ρ = r) : lp__law_draw_1 ρ = r := h
noncomputable def b__law_draw : Rho → Option Res :=
    (mSeq (mIfS (mAsB (m2 dEq (mFn fLen (mCons (mVar 0) mNil)) (mC (.int 0)))) (mRet (mC (.int 0))) mSkip)
    (mSeq (mSet 3 (mFn fInt (mCons (m2 dIx (mVar 0) (m2 dMod (mFn fInt (mCons (m2 dDiv (mVar 1) (mC (.int 4))) mNil)) (mFn fLen (mCons (mVar 0) mNil)))) mNil)))
    (mSeq (mPost [0, 4] (mIfS (mAnd (mAsB (m2 dGe (mVar 3) (m2 dPow (mC (.int 10)) (mC (.int 18))))) (mAsB (m2 dLt (m2 dDiv (mVar 1) (mC (.int 4))) (mFn fLen (mCons (mVar 0) mNil))))) (mSeq (mPost [0, 1, 4] (mFor (mL2 rng1 (mCons (m2 dMod (mFn fInt (mCons (mVar 1) mNil)) (mC (.int 4))) mNil)) (gSet 4) lp__law_draw_1))
    (mRet (m2 dMod (m2 dMod (mFn fInt (mCons (mVar 3) mNil)) (mC (.int 1000))) (mVar 2)))) mSkip))
    (mSeq (mSet 5 (m2 dMod (mFn fInt (mCons (m2 dAdd (m2 dAdd (m2 dMul (mVar 3) (mC (.int 48271))) (m2 dMul (mVar 1) (mC (.int 69621)))) (mC (.int 12345))) mNil)) (mC (.int 2147483647))))
    (mSeq (mSet 5 (m2 dMod (mFn fInt (mCons (m2 dAdd (m2 dAdd (m2 dMul (mVar 5) (mVar 5)) (m2 dMul (mC (.int 16807)) (mVar 1))) (mC (.int 7))) mNil)) (mC (.int 998244353))))
    (mSeq (mPost [1, 3] (mSet 5 (m2 dMod (mFn fInt (mCons (m2 dAdd (m2 dAdd (m2 dMul (mVar 5) (mVar 5)) (m2 dMul (mC (.int 48271)) (mVar 1))) (mVar 3)) mNil)) (mC (.int 2147483629)))))
    (mRet (m2 dMod (m2 dDiv (mVar 5) (mC (.int 13))) (mVar 2)))))))))
noncomputable def m__law_draw : List D → Option D := runDef 3 3 b__law_draw
theorem ok__law_draw {P : Program} {w : World} {K : PySem.W.Frag} {mg : Str → Option Value} {base : Heap} (T : Txt K mg) : FnG P w K mg base 1 T.a__law_draw T.d__law_draw ["script", "k", "below"] m__law_draw :=
  fn_def T.F__law_draw sc__law_draw fun cdv A outer s H hG hr => (mss_cons (ms_if (mb_cmp (od_eq hr.units) (ME.t (me_fnB fd_len T.n_len (mat_cons (ME.t (me_var 0)) mat_nil))) (ME.t me_int)) (mss_one (ms_ret me_int)) mss_nil) (mss_cons (ms_set (i := 3) sc__law_draw.nd (me_fnT fd_int T.n_int (mat_cons (ME.t (me_ix (ME.t (me_var 0)) (ME.t (me_bin od_mod (ME.t (me_fnT fd_int T.n_int (mat_cons (ME.t (me_bin od_div (ME.t (me_var 1)) (ME.t me_int))) mat_nil))) (ME.t (me_fnB fd_len T.n_len (mat_cons (ME.t (me_var 0)) mat_nil))))))) mat_nil))) (mss_cons (ms_post [0, 4] (ms_if (MW.toB (mw_and (mb_cmp od_ge (ME.t (me_var 3)) (ME.t (me_bin od_pow (ME.t me_int) (ME.t me_int)))) (mw_and1 (mb_cmp od_lt (ME.t (me_bin od_div (ME.t (me_var 1)) (ME.t me_int))) (ME.t (me_fnB fd_len T.n_len (mat_cons (ME.t (me_var 0)) mat_nil))))))) (mss_cons (ms_post [0, 1, 4] (ms_for PassesOwn.never rfl (mi_range1 T.n_range (mat_cons (ME.t (me_bin od_mod (ME.t (me_fnT fd_int T.n_int (mat_cons (ME.t (me_var 1)) mat_nil))) (ME.t me_int))) mat_nil)) (mg_name 4 sc__law_draw.nd) (mss_one (ms_post [4] (ms_set (i := 3) sc__law_draw.nd (me_bin od_div (ME.t (me_var 3)) (ME.t me_int))))))) (mss_one (ms_ret (me_bin od_mod (ME.t (me_bin od_mod (ME.t (me_fnT fd_int T.n_int (mat_cons (ME.t (me_var 3)) mat_nil))) (ME.t me_int))) (ME.t (me_var 2)))))) mss_nil)) (mss_cons (ms_set (i := 5) sc__law_draw.nd (me_bin od_mod (ME.t (me_fnT fd_int T.n_int (mat_cons (ME.t (me_bin od_add (ME.t (me_bin od_add (ME.t (me_bin od_mul (ME.t (me_var 3)) (ME.t me_int))) (ME.t (me_bin od_mul (ME.t (me_var 1)) (ME.t me_int))))) (ME.t me_int))) mat_nil))) (ME.t me_int))) (mss_cons (ms_set (i := 5) sc__law_draw.nd (me_bin od_mod (ME.t (me_fnT fd_int T.n_int (mat_cons (ME.t (me_bin od_add (ME.t (me_bin od_add (ME.t (me_bin od_mul (ME.t (me_var 5)) (ME.t (me_var 5)))) (ME.t (me_bin od_mul (ME.t me_int) (ME.t (me_var 1)))))) (ME.t me_int))) mat_nil))) (ME.t me_int))) (mss_cons (ms_post [1, 3] (ms_set (i := 5) sc__law_draw.nd (me_bin od_mod (ME.t (me_fnT fd_int T.n_int (mat_cons (ME.t (me_bin od_add (ME.t (me_bin od_add (ME.t (me_bin od_mul (ME.t (me_var 5)) (ME.t (me_var 5)))) (ME.t (me_bin od_mul (ME.t me_int) (ME.t (me_var 1)))))) (ME.t (me_var 3)))) mat_nil))) (ME.t me_int)))) (mss_one (ms_ret (me_bin od_mod (ME.t (me_bin od_div (ME.t (me_var 5)) (ME.t me_int))) (ME.t (me_var 2)))))))))))
/-! def _law_divisor -/
noncomputable def lp__law_divisor_1 : Rho → Option Res :=
    (mSeq (mPost [2] (mIfS (mAsB (m2 dEq (mVar 1) (mC (.int 0)))) mBrk mSkip))
    (mPar 0 1 (mVar 1) (m2 dSub (mVar 0) (m2 dMul (m2 dDiv (mVar 0) (mVar 1)) (mVar 1)))))
theorem un_lp__law_divisor_1 {ρ : Rho} {r : Option Res} (h : (mSeq (mPost [2] (mIfS (mAsB (m2 dEq (mVar 1) (mC (.int 0)))) mBrk mSkip))
    (mPar 0 1 (mVar 1) (m2 dSub (mVar 0) (m2 dMul (m2 dDiv (mVar 0) (mVar 1)) (mVar 1))))) ρ = r) : lp__law_divisor_1 ρ = r := h
noncomputable def b__law_divisor : Rho → Option Res :=
    (mSeq (mSet 0 (mFn fAbs (mCons (mVar 0) mNil)))
    (mSeq (mSet 1 (mFn fAbs (mCons (mVar 1) mNil)))
    (mSeq (mPost [1, 2] (mFor (mL2 rng1 (mCons (mC (.int 4000)) mNil)) (gSet 2) lp__law_divisor_1))
    (mRet (mFn fMax (mCons (mC (.int 1)) (mCons (mVar 0) mNil)))))))
noncomputable def m__law_divisor : List D → Option D := runDef 2 1 b__law_divisor
theorem ok__law_divisor {P : Program} {w : World} {K : PySem.W.Frag} {mg : Str → Option Value} {base : Heap} (T : Txt K mg) : FnG P w K mg base 1 T.a__law_divisor T.d__law_divisor ["one", "other"] m__law_divisor :=
  fn_def T.F__law_divisor sc__law_divisor fun cdv A outer s H hG hr => (mss_cons (ms_set (i := 0) sc__law_divisor.nd (me_fnB fd_abs T.n_abs (mat_cons (ME.t (me_var 0)) mat_nil))) (mss_cons (ms_set (i := 1) sc__law_divisor.nd (me_fnB fd_abs T.n_abs (mat_cons (ME.t (me_var 1)) mat_nil))) (mss_cons (ms_post [1, 2] (ms_for PassesOwn.never rfl (mi_range1 T.n_range (mat_cons (ME.t me_int) mat_nil)) (mg_name 2 sc__law_divisor.nd) (mss_cons (ms_post [2] (ms_if (mb_cmp (od_eq hr.units) (ME.t (me_var 1)) (ME.t me_int)) (mss_one ms_brk) mss_nil)) (mss_one (ms_par (i := 0) (j := 1) rfl sc__law_divisor.nd (me_var 1) (me_bin od_sub (ME.t (me_var 0)) (ME.t (me_bin od_mul (ME.t (me_bin od_div (ME.t (me_var 0)) (ME.t (me_var 1)))) (ME.t (me_var 1)))))))))) (mss_one (ms_ret (me_fnB (fd_max rfl) T.n_max (mat_cons (ME.t me_int) (mat_cons (ME.t (me_var 0)) mat_nil))))))))
/-! def _law_fr -/
noncomputable def b__law_fr : Rho → Option Res :=
    (mSeq (mIfS (mAsB (m2 dLt (mVar 1) (mC (.int 0)))) (mPar 0 1 (m1 dNeg (mVar 0)) (m1 dNeg (mVar 1))) mSkip)
    (mSeq (mSet 2 (mCall m__law_divisor [] (mCons (mVar 0) (mCons (mVar 1) mNil))))
    (mRet (mTup (mCons (m2 dDiv (mVar 0) (mVar 2)) (mCons (m2 dDiv (mVar 1) (mVar 2)) mNil))))))
noncomputable def m__law_fr : List D → Option D := runDef 2 1 b__law_fr
theorem ok__law_fr {P : Program} {w : World} {K : PySem.W.Frag} {mg : Str → Option Value} {base : Heap} (T : Txt K mg) : FnG P w K mg base 2 T.a__law_fr T.d__law_fr ["number", "below"] m__law_fr :=
  fn_def T.F__law_fr sc__law_fr fun cdv A outer s H hG hr => (mss_cons (ms_if (mb_cmp od_lt (ME.t (me_var 1)) (ME.t me_int)) (mss_one (ms_par (i := 0) (j := 1) rfl sc__law_fr.nd (me_neg (ME.t (me_var 0))) (me_neg (ME.t (me_var 1))))) mss_nil) (mss_cons (ms_set (i := 2) sc__law_fr.nd (me_call (ok__law_divisor T) hG (hr.mono (by decide)) T.g__law_divisor T.F__law_divisor.kp (T.b__law_divisor) (T.v__law_divisor) (fun _ => .nil) (mae_cons (me_var 0) (mae_cons (me_var 1) mae_nil)))) (mss_one (ms_ret (me_tup (mae_cons (me_bin od_div (ME.t (me_var 0)) (ME.t (me_var 2))) (mae_cons (me_bin od_div (ME.t (me_var 1)) (ME.t (me_var 2))) mae_nil)))))))
/-! def _law_add -/
noncomputable def b__law_add : Rho → Option Res :=
    (mRet (mCall m__law_fr [] (mCons (m2 dAdd (m2 dMul (m2 dIx (mVar 0) (mC (.int 0))) (m2 dIx (mVar 1) (mC (.int 1)))) (m2 dMul (m2 dIx (mVar 1) (mC (.int 0))) (m2 dIx (mVar 0) (mC (.int 1))))) (mCons (m2 dMul (m2 dIx (mVar 0) (mC (.int 1))) (m2 dIx (mVar 1) (mC (.int 1)))) mNil))))
noncomputable def m__law_add : List D → Option D := runDef 2 0 b__law_add
theorem ok__law_add {P : Program} {w : World} {K : PySem.W.Frag} {mg : Str → Option Value} {base : Heap} (T : Txt K mg) : FnG P w K mg base 3 T.a__law_add T.d__law_add ["one", "other"] m__law_add :=
  fn_def T.F__law_add sc__law_add fun cdv A outer s H hG hr => (mss_one (ms_ret (me_call (ok__law_fr T) hG (hr.mono (by decide)) T.g__law_fr T.F__law_fr.kp (T.b__law_fr) (T.v__law_fr) (fun _ => .nil) (mae_cons (me_bin od_add (ME.t (me_bin od_mul (ME.t (me_ix (ME.t (me_var 0)) (ME.t me_int))) (ME.t (me_ix (ME.t (me_var 1)) (ME.t me_int))))) (ME.t (me_bin od_mul (ME.t (me_ix (ME.t (me_var 1)) (ME.t me_int))) (ME.t (me_ix (ME.t (me_var 0)) (ME.t me_int)))))) (mae_cons (me_bin od_mul (ME.t (me_ix (ME.t (me_var 0)) (ME.t me_int))) (ME.t (me_ix (ME.t (me_var 1)) (ME.t me_int)))) mae_nil)))))
/-! def _law_times -/
noncomputable def b__law_times : Rho → Option Res :=
    (mRet (mCall m__law_fr [] (mCons (m2 dMul (m2 dIx (mVar 0) (mC (.int 0))) (m2 dIx (mVar 1) (mC (.int 0)))) (mCons (m2 dMul (m2 dIx (mVar 0) (mC (.int 1))) (m2 dIx (mVar 1) (mC (.int 1)))) mNil))))
noncomputable def m__law_times : List D → Option D := runDef 2 0 b__law_times
theorem ok__law_times {P : Program} {w : World} {K : PySem.W.Frag} {mg : Str → Option Value} {base : Heap} (T : Txt K mg) : FnG P w K mg base 3 T.a__law_times T.d__law_times ["one", "other"] m__law_times :=
  fn_def T.F__law_times sc__law_times fun cdv A outer s H hG hr => (mss_one (ms_ret (me_call (ok__law_fr T) hG (hr.mono (by decide)) T.g__law_fr T.F__law_fr.kp (T.b__law_fr) (T.v__law_fr) (fun _ => .nil) (mae_cons (me_bin od_mul (ME.t (me_ix (ME.t (me_var 0)) (ME.t me_int))) (ME.t (me_ix (ME.t (me_var 1)) (ME.t me_int)))) (mae_cons (me_bin od_mul (ME.t (me_ix (ME.t (me_var 0)) (ME.t me_int))) (ME.t (me_ix (ME.t (me_var 1)) (ME.t me_int)))) mae_nil)))))
/-! def _law_less -/
noncomputable def b__law_less : Rho → Option Res :=
    (mRet (m2 dLt (m2 dMul (m2 dIx (mVar 0) (mC (.int 0))) (m2 dIx (mVar 1) (mC (.int 1)))) (m2 dMul (m2 dIx (mVar 1) (mC (.int 0))) (m2 dIx (mVar 0) (mC (.int 1))))))
noncomputable def m__law_less : List D → Option D := runDef 2 0 b__law_less
theorem ok__law_less {P : Program} {w : World} {K : PySem.W.Frag} {mg : Str → Option Value} {base : Heap} (T : Txt K mg) : FnG P w K mg base 1 T.a__law_less T.d__law_less ["one", "other"] m__law_less :=
  fn_def T.F__law_less sc__law_less fun cdv A outer s H hG hr => (mss_one (ms_ret (me_cmp od_lt (ME.t (me_bin od_mul (ME.t (me_ix (ME.t (me_var 0)) (ME.t me_int))) (ME.t (me_ix (ME.t (me_var 1)) (ME.t me_int))))) (ME.t (me_bin od_mul (ME.t (me_ix (ME.t (me_var 1)) (ME.t me_int))) (ME.t (me_ix (ME.t (me_var 0)) (ME.t me_int))))))))
/-! def _law_dot -/
noncomputable def lp__law_dot_1 : Rho → Option Res :=
    (mPost [3] (mSet 2 (mCall m__law_add [] (mCons (mVar 2) (mCons (mCall m__law_times [] (mCons (mTup (mCons (m2 dIx (mVar 0) (mVar 3)) (mCons (mC (.int 1)) mNil))) (mCons (m2 dIx (mVar 1) (mVar 3)) mNil))) mNil)))))
theorem un_lp__law_dot_1 {ρ : Rho} {r : Option Res} (h : (mPost [3] (mSet 2 (mCall m__law_add [] (mCons (mVar 2) (mCons (mCall m__law_times [] (mCons (mTup (mCons (m2 dIx (mVar 0) (mVar 3)) (mCons (mC (.int 1)) mNil))) (mCons (m2 dIx (mVar 1) (mVar 3)) mNil))) mNil))))) ρ = r) : lp__law_dot_1 ρ = r := h
noncomputable def b__law_dot : Rho → Option Res :=
    (mSeq (mSet 2 (mTup (mCons (mC (.int 0)) (mCons (mC (.int 1)) mNil))))
    (mSeq (mPost [0, 1, 3] (mFor (mL2 rng1 (mCons (mFn fLen (mCons (mVar 0) mNil)) mNil)) (gSet 3) lp__law_dot_1))
    (mRet (mVar 2))))
noncomputable def m__law_dot : List D → Option D := runDef 2 2 b__law_dot
theorem ok__law_dot {P : Program} {w : World} {K : PySem.W.Frag} {mg : Str → Option Value} {base : Heap} (T : Txt K mg) : FnG P w K mg base 4 T.a__law_dot T.d__law_dot ["numbers", "point"] m__law_dot :=
  fn_def T.F__law_dot sc__law_dot fun cdv A outer s H hG hr => (mss_cons (ms_set (i := 2) sc__law_dot.nd (me_tup (mae_cons me_int (mae_cons me_int mae_nil)))) (mss_cons (ms_post [0, 1, 3] (ms_for PassesOwn.never rfl (mi_range1 T.n_range (mat_cons (ME.t (me_fnB fd_len T.n_len (mat_cons (ME.t (me_var 0)) mat_nil))) mat_nil)) (mg_name 3 sc__law_dot.nd) (mss_one (ms_post [3] (ms_set (i := 2) sc__law_dot.nd (me_call (ok__law_add T) hG (hr.mono (by decide)) T.g__law_add T.F__law_add.kp (T.b__law_add) (T.v__law_add) (fun _ => .nil) (mae_cons (me_var 2) (mae_cons (me_call (ok__law_times T) hG (hr.mono (by decide)) T.g__law_times T.F__law_times.kp (T.b__law_times) (T.v__law_times) (fun _ => .nil) (mae_cons (me_tup (mae_cons (me_ix (ME.t (me_var 0)) (ME.t (me_var 3))) (mae_cons me_int mae_nil))) (mae_cons (me_ix (ME.t (me_var 1)) (ME.t (me_var 3))) mae_nil))) mae_nil)))))))) (mss_one (ms_ret (me_var 2)))))
/-! def _law_next -/
noncomputable def lp__law_next_1 : Rho → Option Res :=
    (mSeq (mSet 6 (mCall m__law_add [] (mCons (mCall m__law_dot [] (mCons (m2 dIx (m1 (dKey (Str.ofString "a")) (mVar 0)) (mVar 5)) (mCons (mVar 1) mNil))) (mCons (mCall m__law_dot [] (mCons (m2 dIx (m1 (dKey (Str.ofString "b")) (mVar 0)) (mVar 5)) (mCons (mVar 2) mNil))) mNil))))
    (mSeq (mPost [5] (mSet 6 (mCall m__law_add [] (mCons (mVar 6) (mCons (mCall m__law_dot [] (mCons (m2 dIx (m1 (dKey (Str.ofString "e")) (mVar 0)) (mVar 5)) (mCons (mVar 3) mNil))) mNil)))))
    (mPost [6] (mApp 4 (mCall m__law_times [] (mCons (mVar 6) (mCons (mTup (mCons (mC (.int 1)) (mCons (m1 (dKey (Str.ofString "divisor")) (mVar 0)) mNil))) mNil)))))))
theorem un_lp__law_next_1 {ρ : Rho} {r : Option Res} (h : (mSeq (mSet 6 (mCall m__law_add [] (mCons (mCall m__law_dot [] (mCons (m2 dIx (m1 (dKey (Str.ofString "a")) (mVar 0)) (mVar 5)) (mCons (mVar 1) mNil))) (mCons (mCall m__law_dot [] (mCons (m2 dIx (m1 (dKey (Str.ofString "b")) (mVar 0)) (mVar 5)) (mCons (mVar 2) mNil))) mNil))))
    (mSeq (mPost [5] (mSet 6 (mCall m__law_add [] (mCons (mVar 6) (mCons (mCall m__law_dot [] (mCons (m2 dIx (m1 (dKey (Str.ofString "e")) (mVar 0)) (mVar 5)) (mCons (mVar 3) mNil))) mNil)))))
    (mPost [6] (mApp 4 (mCall m__law_times [] (mCons (mVar 6) (mCons (mTup (mCons (mC (.int 1)) (mCons (m1 (dKey (Str.ofString "divisor")) (mVar 0)) mNil))) mNil))))))) ρ = r) : lp__law_next_1 ρ = r := h
noncomputable def b__law_next : Rho → Option Res :=
    (mSeq (mSetO 4 (mLst mNil))
    (mSeq (mPost [0, 1, 2, 3, 5, 6] (mFor (mL2 rng1 (mCons (mFn fLen (mCons (mVar 1) mNil)) mNil)) (gSet 5) lp__law_next_1))
    (mRet (mFn fTuple (mCons (mOwn 4) mNil)))))
noncomputable def m__law_next : List D → Option D := runDef 4 3 b__law_next
theorem ok__law_next {P : Program} {w : World} {K : PySem.W.Frag} {mg : Str → Option Value} {base : Heap} (T : Txt K mg) : FnG P w K mg base 5 T.a__law_next T.d__law_next ["parts", "state", "inputs", "disturbance"] m__law_next :=
  fn_def T.F__law_next sc__law_next fun cdv A outer s H hG hr => (mss_cons (ms_setO (i := 4) sc__law_next.nd (mo_lst mae_nil)) (mss_cons (ms_post [0, 1, 2, 3, 5, 6] (ms_for PassesOwn.never rfl (mi_range1 T.n_range (mat_cons (ME.t (me_fnB fd_len T.n_len (mat_cons (ME.t (me_var 1)) mat_nil))) mat_nil)) (mg_name 5 sc__law_next.nd) (mss_cons (ms_set (i := 6) sc__law_next.nd (me_call (ok__law_add T) hG (hr.mono (by decide)) T.g__law_add T.F__law_add.kp (T.b__law_add) (T.v__law_add) (fun _ => .nil) (mae_cons (me_call (ok__law_dot T) hG (hr.mono (by decide)) T.g__law_dot T.F__law_dot.kp (T.b__law_dot) (T.v__law_dot) (fun _ => .nil) (mae_cons (me_ix (ME.t (me_key (me_var 0) (room1 hr))) (ME.t (me_var 5))) (mae_cons (me_var 1) mae_nil))) (mae_cons (me_call (ok__law_dot T) hG (hr.mono (by decide)) T.g__law_dot T.F__law_dot.kp (T.b__law_dot) (T.v__law_dot) (fun _ => .nil) (mae_cons (me_ix (ME.t (me_key (me_var 0) (room1 hr))) (ME.t (me_var 5))) (mae_cons (me_var 2) mae_nil))) mae_nil)))) (mss_cons (ms_post [5] (ms_set (i := 6) sc__law_next.nd (me_call (ok__law_add T) hG (hr.mono (by decide)) T.g__law_add T.F__law_add.kp (T.b__law_add) (T.v__law_add) (fun _ => .nil) (mae_cons (me_var 6) (mae_cons (me_call (ok__law_dot T) hG (hr.mono (by decide)) T.g__law_dot T.F__law_dot.kp (T.b__law_dot) (T.v__law_dot) (fun _ => .nil) (mae_cons (me_ix (ME.t (me_key (me_var 0) (room1 hr))) (ME.t (me_var 5))) (mae_cons (me_var 3) mae_nil))) mae_nil))))) (mss_one (ms_post [6] (ms_app 4 (me_call (ok__law_times T) hG (hr.mono (by decide)) T.g__law_times T.F__law_times.kp (T.b__law_times) (T.v__law_times) (fun _ => .nil) (mae_cons (me_var 6) (mae_cons (me_tup (mae_cons me_int (mae_cons (me_key (me_var 0) (room1 hr)) mae_nil))) mae_nil)))))))))) (mss_one (ms_ret (me_fnT fd_tuple T.n_tuple (mat_cons (mt_own 4) mat_nil))))))
/-! def _law_meets -/
noncomputable def b__law_meets : Rho → Option Res :=
    (mRet (mNotV (mCall m__law_less [] (mCons (mTup (mCons (m2 dIx (mVar 0) (mC (.int 1))) (mCons (mC (.int 1)) mNil))) (mCons (mCall m__law_dot [] (mCons (m2 dIx (mVar 0) (mC (.int 0))) (mCons (mVar 1) mNil))) mNil)))))
noncomputable def m__law_meets : List D → Option D := runDef 2 0 b__law_meets
theorem ok__law_meets {P : Program} {w : World} {K : PySem.W.Frag} {mg : Str → Option Value} {base : Heap} (T : Txt K mg) : FnG P w K mg base 5 T.a__law_meets T.d__law_meets ["row", "point"] m__law_meets :=
  fn_def T.F__law_meets sc__law_meets fun cdv A outer s H hG hr => (mss_one (ms_ret (me_not (me_call (ok__law_less T) hG (hr.mono (by decide)) T.g__law_less T.F__law_less.kp (T.b__law_less) (T.v__law_less) (fun _ => .nil) (mae_cons (me_tup (mae_cons (me_ix (ME.t (me_var 0)) (ME.t me_int)) (mae_cons me_int mae_nil))) (mae_cons (me_call (ok__law_dot T) hG (hr.mono (by decide)) T.g__law_dot T.F__law_dot.kp (T.b__law_dot) (T.v__law_dot) (fun _ => .nil) (mae_cons (me_ix (ME.t (me_var 0)) (ME.t me_int)) (mae_cons (me_var 1) mae_nil))) mae_nil))))))
/-! def _law_corners -/
noncomputable def el__law_corners_1 : Rho → Option D :=
    (m2 dAdd (mVar 6) (mTup (mCons (mTup (mCons (mVar 7) (mCons (mC (.int 1)) mNil))) mNil)))
theorem un_el__law_corners_1 {ρ : Rho} {r : Option D} (h : (m2 dAdd (mVar 6) (mTup (mCons (mTup (mCons (mVar 7) (mCons (mC (.int 1)) mNil))) mNil))) ρ = r) : el__law_corners_1 ρ = r := h
noncomputable def lp__law_corners_1 : Rho → Option Res :=
    (mPost [6] (mExt 5 (mLc (mSeqOf (mVar 4)) (gSet 7) mYes el__law_corners_1 [7])))
theorem un_lp__law_corners_1 {ρ : Rho} {r : Option Res} (h : (mPost [6] (mExt 5 (mLc (mSeqOf (mVar 4)) (gSet 7) mYes el__law_corners_1 [7]))) ρ = r) : lp__law_corners_1 ρ = r := h
noncomputable def lp__law_corners_2 : Rho → Option Res :=
    (mSeq (mSet 4 (mL (mLst (mCons (mVar 2) mNil))))
    (mSeq (mPost [2, 3] (mIfS (mAsB (m2 dGt (mVar 3) (mVar 2))) (mPost [2, 3] (mSet 4 (mL (mLst (mCons (mVar 2) (mCons (mVar 3) mNil)))))) mSkip))
    (mSeq (mSetO 5 (mLst mNil))
    (mSeq (mPost [1, 4, 6] (mFor (mSeqOf (mVar 1)) (gSet 6) lp__law_corners_1))
    (mFrz 5 (mPost [5] (mSet 1 (mVar 5))))))))
theorem un_lp__law_corners_2 {ρ : Rho} {r : Option Res} (h : (mSeq (mSet 4 (mL (mLst (mCons (mVar 2) mNil))))
    (mSeq (mPost [2, 3] (mIfS (mAsB (m2 dGt (mVar 3) (mVar 2))) (mPost [2, 3] (mSet 4 (mL (mLst (mCons (mVar 2) (mCons (mVar 3) mNil)))))) mSkip))
    (mSeq (mSetO 5 (mLst mNil))
    (mSeq (mPost [1, 4, 6] (mFor (mSeqOf (mVar 1)) (gSet 6) lp__law_corners_1))
    (mFrz 5 (mPost [5] (mSet 1 (mVar 5)))))))) ρ = r) : lp__law_corners_2 ρ = r := h
noncomputable def b__law_corners : Rho → Option Res :=
    (mSeq (mSet 1 (mL (mLst (mCons (mTup mNil) mNil))))
    (mSeq (mPost [0, 2, 3, 4, 5, 6] (mFor (mSeqOf (mVar 0)) (gTupD (gsCons (gSet 2) (gsCons (gSet 3) gsNil))) lp__law_corners_2))
    (mRet (mVar 1))))
noncomputable def m__law_corners : List D → Option D := runDef 1 7 b__law_corners
theorem ok__law_corners {P : Program} {w : World} {K : PySem.W.Frag} {mg : Str → Option Value} {base : Heap} (T : Txt K mg) : FnG P w K mg base 1 T.a__law_corners T.d__law_corners ["box"] m__law_corners :=
  fn_def T.F__law_corners sc__law_corners fun cdv A outer s H hG hr => (mss_cons (ms_set (i := 1) sc__law_corners.nd (MO.e (mo_lst (mae_cons (me_tup mae_nil) mae_nil)))) (mss_cons (ms_post [0, 2, 3, 4, 5, 6] (ms_for PassesOwn.never rfl (mi_seq (me_var 0)) (mg_tup rfl (mgs_cons (mg_name 2 sc__law_corners.nd) (mgs_cons (mg_name 3 sc__law_corners.nd) mgs_nil)) (fun _ _ _ h => gs_lenS (fun _ _ _ h => gs_lenS (fun _ _ _ h => gs_len0 h) h) h)) (mss_cons (ms_set (i := 4) sc__law_corners.nd (MO.e (mo_lst (mae_cons (me_var 2) mae_nil)))) (mss_cons (ms_post [2, 3] (ms_if (mb_cmp od_gt (ME.t (me_var 3)) (ME.t (me_var 2))) (mss_one (ms_post [2, 3] (ms_set (i := 4) sc__law_corners.nd (MO.e (mo_lst (mae_cons (me_var 2) (mae_cons (me_var 3) mae_nil))))))) mss_nil)) (mss_cons (ms_setO (i := 5) sc__law_corners.nd (mo_lst mae_nil)) (mss_cons (ms_post [1, 4, 6] (ms_for PassesOwn.never rfl (mi_seq (me_var 1)) (mg_name 6 sc__law_corners.nd) (mss_one (ms_post [6] (ms_ext 5 (mo_lc (own := [(("end" : Str), 7)]) rfl sc__law_corners.nd (mih_seq (ME.t (me_var 4))) (blkOk_by (N := N__law_corners) (sc := defScope s__law_corners) (own := [(("end" : Str), 7)]) (by decide +kernel)) (fun _ _ _ _ _ => (mg_name 7 sc__law_corners.nd)) (fun _ _ _ _ _ => mts_nil) (fun _ _ _ _ _ => (me_bin od_add (ME.t (me_var 6)) (ME.t (me_tup (mae_cons (me_tup (mae_cons (me_var 7) (mae_cons me_int mae_nil))) mae_nil))))))))))) (mss_frz 5 (mss_one (ms_post [5] (ms_set (i := 1) sc__law_corners.nd (me_var 5))))))))))) (mss_one (ms_ret (me_var 1)))))
/-! def _law_matrix -/
noncomputable def el__law_matrix_1 : Rho → Option D :=
    (m2 dSub (mCall m__law_draw [] (mCons (mVar 0) (mCons (m2 dAdd (m2 dAdd (mVar 1) (m2 dMul (mC (.int 3)) (mVar 6))) (mVar 7)) (mCons (m2 dAdd (m2 dMul (mC (.int 2)) (mVar 4)) (mC (.int 1))) mNil)))) (mVar 4))
theorem un_el__law_matrix_1 {ρ : Rho} {r : Option D} (h : (m2 dSub (mCall m__law_draw [] (mCons (mVar 0) (mCons (m2 dAdd (m2 dAdd (mVar 1) (m2 dMul (mC (.int 3)) (mVar 6))) (mVar 7)) (mCons (m2 dAdd (m2 dMul (mC (.int 2)) (mVar 4)) (mC (.int 1))) mNil)))) (mVar 4)) ρ = r) : el__law_matrix_1 ρ = r := h
noncomputable def lp__law_matrix_1 : Rho → Option Res :=
    (mPost [6] (mApp 5 (mFn fTuple (mCons (mL (mLc (mL2 rng1 (mCons (mVar 3) mNil)) (gSet 7) mYes el__law_matrix_1 [7])) mNil))))
theorem un_lp__law_matrix_1 {ρ : Rho} {r : Option Res} (h : (mPost [6] (mApp 5 (mFn fTuple (mCons (mL (mLc (mL2 rng1 (mCons (mVar 3) mNil)) (gSet 7) mYes el__law_matrix_1 [7])) mNil)))) ρ = r) : lp__law_matrix_1 ρ = r := h
noncomputable def b__law_matrix : Rho → Option Res :=
    (mSeq (mSetO 5 (mLst mNil))
    (mSeq (mPost [0, 1, 2, 3, 4, 6] (mFor (mL2 rng1 (mCons (mVar 2) mNil)) (gSet 6) lp__law_matrix_1))
    (mRet (mFn fTuple (mCons (mOwn 5) mNil)))))
noncomputable def m__law_matrix : List D → Option D := runDef 5 3 b__law_matrix
theorem ok__law_matrix {P : Program} {w : World} {K : PySem.W.Frag} {mg : Str → Option Value} {base : Heap} (T : Txt K mg) : FnG P w K mg base 2 T.a__law_matrix T.d__law_matrix ["script", "k", "high", "wide", "most"] m__law_matrix :=
  fn_def T.F__law_matrix sc__law_matrix fun cdv A outer s H hG hr => (mss_cons (ms_setO (i := 5) sc__law_matrix.nd (mo_lst mae_nil)) (mss_cons (ms_post [0, 1, 2, 3, 4, 6] (ms_for PassesOwn.never rfl (mi_range1 T.n_range (mat_cons (ME.t (me_var 2)) mat_nil)) (mg_name 6 sc__law_matrix.nd) (mss_one (ms_post [6] (ms_app 5 (me_fnT fd_tuple T.n_tuple (mat_cons (ME.t (MO.e (mo_lc (own := [(("place" : Str), 7)]) rfl sc__law_matrix.nd (MI.h (mi_range1 T.n_range (mat_cons (ME.t (me_var 3)) mat_nil))) (blkOk_by (N := N__law_matrix) (sc := defScope s__law_matrix) (own := [(("place" : Str), 7)]) (by decide +kernel)) (fun _ _ _ _ _ => (mg_name 7 sc__law_matrix.nd)) (fun _ _ _ _ _ => mts_nil) (fun _ _ _ _ _ => (me_bin od_sub (ME.t (me_call (ok__law_draw T) hG (hr.mono (by decide)) T.g__law_draw T.F__law_draw.kp (T.b__law_draw) (T.v__law_draw) (fun _ => .nil) (mae_cons (me_var 0) (mae_cons (me_bin od_add (ME.t (me_bin od_add (ME.t (me_var 1)) (ME.t (me_bin od_mul (ME.t me_int) (ME.t (me_var 6)))))) (ME.t (me_var 7))) (mae_cons (me_bin od_add (ME.t (me_bin od_mul (ME.t me_int) (ME.t (me_var 4)))) (ME.t me_int)) mae_nil))))) (ME.t (me_var 4))))))) mat_nil))))))) (mss_one (ms_ret (me_fnT fd_tuple T.n_tuple (mat_cons (mt_own 5) mat_nil))))))
/-! def _law_box -/
noncomputable def lp__law_box_1 : Rho → Option Res :=
    (mSeq (mSet 5 (m2 dSub (mCall m__law_draw [] (mCons (mVar 0) (mCons (m2 dAdd (mVar 1) (m2 dMul (mC (.int 2)) (mVar 4))) (mCons (mC (.int 5)) mNil)))) (mC (.int 3))))
    (mPost [4, 5] (mApp 3 (mTup (mCons (mVar 5) (mCons (m2 dAdd (mVar 5) (mCall m__law_draw [] (mCons (mVar 0) (mCons (m2 dAdd (m2 dAdd (mVar 1) (m2 dMul (mC (.int 2)) (mVar 4))) (mC (.int 1))) (mCons (mC (.int 5)) mNil))))) mNil))))))
theorem un_lp__law_box_1 {ρ : Rho} {r : Option Res} (h : (mSeq (mSet 5 (m2 dSub (mCall m__law_draw [] (mCons (mVar 0) (mCons (m2 dAdd (mVar 1) (m2 dMul (mC (.int 2)) (mVar 4))) (mCons (mC (.int 5)) mNil)))) (mC (.int 3))))
    (mPost [4, 5] (mApp 3 (mTup (mCons (mVar 5) (mCons (m2 dAdd (mVar 5) (mCall m__law_draw [] (mCons (mVar 0) (mCons (m2 dAdd (m2 dAdd (mVar 1) (m2 dMul (mC (.int 2)) (mVar 4))) (mC (.int 1))) (mCons (mC (.int 5)) mNil))))) mNil)))))) ρ = r) : lp__law_box_1 ρ = r := h
noncomputable def b__law_box : Rho → Option Res :=
    (mSeq (mSetO 3 (mLst mNil))
    (mSeq (mPost [0, 1, 2, 4, 5] (mFor (mL2 rng1 (mCons (mVar 2) mNil)) (gSet 4) lp__law_box_1))
    (mRet (mFn fTuple (mCons (mOwn 3) mNil)))))
noncomputable def m__law_box : List D → Option D := runDef 3 3 b__law_box
theorem ok__law_box {P : Program} {w : World} {K : PySem.W.Frag} {mg : Str → Option Value} {base : Heap} (T : Txt K mg) : FnG P w K mg base 2 T.a__law_box T.d__law_box ["script", "k", "count"] m__law_box :=
  fn_def T.F__law_box sc__law_box fun cdv A outer s H hG hr => (mss_cons (ms_setO (i := 3) sc__law_box.nd (mo_lst mae_nil)) (mss_cons (ms_post [0, 1, 2, 4, 5] (ms_for PassesOwn.never rfl (mi_range1 T.n_range (mat_cons (ME.t (me_var 2)) mat_nil)) (mg_name 4 sc__law_box.nd) (mss_cons (ms_set (i := 5) sc__law_box.nd (me_bin od_sub (ME.t (me_call (ok__law_draw T) hG (hr.mono (by decide)) T.g__law_draw T.F__law_draw.kp (T.b__law_draw) (T.v__law_draw) (fun _ => .nil) (mae_cons (me_var 0) (mae_cons (me_bin od_add (ME.t (me_var 1)) (ME.t (me_bin od_mul (ME.t me_int) (ME.t (me_var 4))))) (mae_cons me_int mae_nil))))) (ME.t me_int))) (mss_one (ms_post [4, 5] (ms_app 3 (me_tup (mae_cons (me_var 5) (mae_cons (me_bin od_add (ME.t (me_var 5)) (ME.t (me_call (ok__law_draw T) hG (hr.mono (by decide)) T.g__law_draw T.F__law_draw.kp (T.b__law_draw) (T.v__law_draw) (fun _ => .nil) (mae_cons (me_var 0) (mae_cons (me_bin od_add (ME.t (me_bin od_add (ME.t (me_var 1)) (ME.t (me_bin od_mul (ME.t me_int) (ME.t (me_var 4)))))) (ME.t me_int)) (mae_cons me_int mae_nil)))))) mae_nil))))))))) (mss_one (ms_ret (me_fnT fd_tuple T.n_tuple (mat_cons (mt_own 3) mat_nil))))))
/-! def _law_parts -/
noncomputable def b__law_parts : Rho → Option Res :=
    (mSeq (mSet 5 (mCall m__law_draw [] (mCons (mVar 0) (mCons (mVar 1) (mCons (mC (.int 3)) mNil)))))
    (mSeq (mIfS (mAsB (m2 dEq (mVar 2) (mC (.int 2)))) (mSet 5 (mCall m__law_draw [] (mCons (mVar 0) (mCons (mVar 1) (mCons (mC (.int 2)) mNil))))) mSkip)
    (mRet (mDic [Str.ofString "a", Str.ofString "b", Str.ofString "e", Str.ofString "divisor", Str.ofString "inputs", Str.ofString "pushes"] (mCons (mCall m__law_matrix [] (mCons (mVar 0) (mCons (m2 dAdd (mVar 1) (mC (.int 2))) (mCons (mVar 2) (mCons (mVar 2) (mCons (mVar 4) mNil)))))) (mCons (mCall m__law_matrix [] (mCons (mVar 0) (mCons (m2 dAdd (mVar 1) (mC (.int 12))) (mCons (mVar 2) (mCons (mVar 3) (mCons (mC (.int 3)) mNil)))))) (mCons (mCall m__law_matrix [] (mCons (mVar 0) (mCons (m2 dAdd (mVar 1) (mC (.int 22))) (mCons (mVar 2) (mCons (mVar 5) (mCons (mC (.int 2)) mNil)))))) (mCons (m2 dAdd (mC (.int 1)) (mCall m__law_draw [] (mCons (mVar 0) (mCons (m2 dAdd (mVar 1) (mC (.int 32))) (mCons (mC (.int 9)) mNil))))) (mCons (mCall m__law_box [] (mCons (mVar 0) (mCons (m2 dAdd (mVar 1) (mC (.int 34))) (mCons (mVar 3) mNil)))) (mCons (mCall m__law_box [] (mCons (mVar 0) (mCons (m2 dAdd (mVar 1) (mC (.int 40))) (mCons (mVar 5) mNil)))) mNil))))))))))
noncomputable def m__law_parts : List D → Option D := runDef 5 1 b__law_parts
theorem ok__law_parts {P : Program} {w : World} {K : PySem.W.Frag} {mg : Str → Option Value} {base : Heap} (T : Txt K mg) : FnG P w K mg base 3 T.a__law_parts T.d__law_parts ["script", "k", "states", "inputs", "most"] m__law_parts :=
  fn_def T.F__law_parts sc__law_parts fun cdv A outer s H hG hr => (mss_cons (ms_set (i := 5) sc__law_parts.nd (me_call (ok__law_draw T) hG (hr.mono (by decide)) T.g__law_draw T.F__law_draw.kp (T.b__law_draw) (T.v__law_draw) (fun _ => .nil) (mae_cons (me_var 0) (mae_cons (me_var 1) (mae_cons me_int mae_nil))))) (mss_cons (ms_if (mb_cmp (od_eq hr.units) (ME.t (me_var 2)) (ME.t me_int)) (mss_one (ms_set (i := 5) sc__law_parts.nd (me_call (ok__law_draw T) hG (hr.mono (by decide)) T.g__law_draw T.F__law_draw.kp (T.b__law_draw) (T.v__law_draw) (fun _ => .nil) (mae_cons (me_var 0) (mae_cons (me_var 1) (mae_cons me_int mae_nil)))))) mss_nil) (mss_one (ms_ret (me_dic (mpp_cons (me_call (ok__law_matrix T) hG (hr.mono (by decide)) T.g__law_matrix T.F__law_matrix.kp (T.b__law_matrix) (T.v__law_matrix) (fun _ => .nil) (mae_cons (me_var 0) (mae_cons (me_bin od_add (ME.t (me_var 1)) (ME.t me_int)) (mae_cons (me_var 2) (mae_cons (me_var 2) (mae_cons (me_var 4) mae_nil)))))) (mpp_cons (me_call (ok__law_matrix T) hG (hr.mono (by decide)) T.g__law_matrix T.F__law_matrix.kp (T.b__law_matrix) (T.v__law_matrix) (fun _ => .nil) (mae_cons (me_var 0) (mae_cons (me_bin od_add (ME.t (me_var 1)) (ME.t me_int)) (mae_cons (me_var 2) (mae_cons (me_var 3) (mae_cons me_int mae_nil)))))) (mpp_cons (me_call (ok__law_matrix T) hG (hr.mono (by decide)) T.g__law_matrix T.F__law_matrix.kp (T.b__law_matrix) (T.v__law_matrix) (fun _ => .nil) (mae_cons (me_var 0) (mae_cons (me_bin od_add (ME.t (me_var 1)) (ME.t me_int)) (mae_cons (me_var 2) (mae_cons (me_var 5) (mae_cons me_int mae_nil)))))) (mpp_cons (me_bin od_add (ME.t me_int) (ME.t (me_call (ok__law_draw T) hG (hr.mono (by decide)) T.g__law_draw T.F__law_draw.kp (T.b__law_draw) (T.v__law_draw) (fun _ => .nil) (mae_cons (me_var 0) (mae_cons (me_bin od_add (ME.t (me_var 1)) (ME.t me_int)) (mae_cons me_int mae_nil)))))) (mpp_cons (me_call (ok__law_box T) hG (hr.mono (by decide)) T.g__law_box T.F__law_box.kp (T.b__law_box) (T.v__law_box) (fun _ => .nil) (mae_cons (me_var 0) (mae_cons (me_bin od_add (ME.t (me_var 1)) (ME.t me_int)) (mae_cons (me_var 3) mae_nil)))) (mpp_cons (me_call (ok__law_box T) hG (hr.mono (by decide)) T.g__law_box T.F__law_box.kp (T.b__law_box) (T.v__law_box) (fun _ => .nil) (mae_cons (me_var 0) (mae_cons (me_bin od_add (ME.t (me_var 1)) (ME.t me_int)) (mae_cons (me_var 5) mae_nil)))) mpp_nil)))))))))))
/-! def _law_machine -/
noncomputable def b__law_machine : Rho → Option Res :=
    (mRet (mMake (Str.ofString "Machine") m_Machine_init [] (mCons (m1 (dKey (Str.ofString "a")) (mVar 0)) (mCons (m1 (dKey (Str.ofString "b")) (mVar 0)) (mCons (m1 (dKey (Str.ofString "e")) (mVar 0)) (mCons (m1 (dKey (Str.ofString "divisor")) (mVar 0)) (mCons (m1 (dKey (Str.ofString "inputs")) (mVar 0)) (mCons (m1 (dKey (Str.ofString "pushes")) (mVar 0)) mNil))))))))
noncomputable def m__law_machine : List D → Option D := runDef 1 0 b__law_machine
theorem ok__law_machine {P : Program} {w : World} {K : PySem.W.Frag} {mg : Str → Option Value} {base : Heap} (T : Txt K mg) : FnG P w K mg base 7 T.a__law_machine T.d__law_machine ["parts"] m__law_machine :=
  fn_def T.F__law_machine sc__law_machine fun cdv A outer s H hG hr => (mss_one (ms_ret (me_make T.mk_Machine (ok_Machine_init T) T.ns_Machine hG (hr.mono (by decide)) T.g_Machine T.b_Machine_init T.v_Machine_init (fun _ => .nil) (mae_cons (me_key (me_var 0) (room1 hr)) (mae_cons (me_key (me_var 0) (room1 hr)) (mae_cons (me_key (me_var 0) (room1 hr)) (mae_cons (me_key (me_var 0) (room1 hr)) (mae_cons (me_key (me_var 0) (room1 hr)) (mae_cons (me_key (me_var 0) (room1 hr)) mae_nil)))))))))
/-! def _law_point -/
noncomputable def lp__law_point_1 : Rho → Option Res :=
    (mSeq (mSet 6 (m2 dSub (mCall m__law_draw [] (mCons (mVar 0) (mCons (m2 dAdd (mVar 1) (m2 dMul (mC (.int 2)) (mVar 5))) (mCons (m2 dAdd (m2 dMul (mC (.int 2)) (mVar 3)) (mC (.int 1))) mNil)))) (mVar 3)))
    (mPost [5, 6] (mApp 4 (mCall m__law_fr [] (mCons (mVar 6) (mCons (m2 dAdd (mC (.int 1)) (mCall m__law_draw [] (mCons (mVar 0) (mCons (m2 dAdd (m2 dAdd (mVar 1) (m2 dMul (mC (.int 2)) (mVar 5))) (mC (.int 1))) (mCons (mC (.int 4)) mNil))))) mNil))))))
theorem un_lp__law_point_1 {ρ : Rho} {r : Option Res} (h : (mSeq (mSet 6 (m2 dSub (mCall m__law_draw [] (mCons (mVar 0) (mCons (m2 dAdd (mVar 1) (m2 dMul (mC (.int 2)) (mVar 5))) (mCons (m2 dAdd (m2 dMul (mC (.int 2)) (mVar 3)) (mC (.int 1))) mNil)))) (mVar 3)))
    (mPost [5, 6] (mApp 4 (mCall m__law_fr [] (mCons (mVar 6) (mCons (m2 dAdd (mC (.int 1)) (mCall m__law_draw [] (mCons (mVar 0) (mCons (m2 dAdd (m2 dAdd (mVar 1) (m2 dMul (mC (.int 2)) (mVar 5))) (mC (.int 1))) (mCons (mC (.int 4)) mNil))))) mNil)))))) ρ = r) : lp__law_point_1 ρ = r := h
noncomputable def b__law_point : Rho → Option Res :=
    (mSeq (mSetO 4 (mLst mNil))
    (mSeq (mPost [0, 1, 2, 3, 5, 6] (mFor (mL2 rng1 (mCons (mVar 2) mNil)) (gSet 5) lp__law_point_1))
    (mRet (mFn fTuple (mCons (mOwn 4) mNil)))))
noncomputable def m__law_point : List D → Option D := runDef 4 3 b__law_point
theorem ok__law_point {P : Program} {w : World} {K : PySem.W.Frag} {mg : Str → Option Value} {base : Heap} (T : Txt K mg) : FnG P w K mg base 3 T.a__law_point T.d__law_point ["script", "k", "states", "most"] m__law_point :=
  fn_def T.F__law_point sc__law_point fun cdv A outer s H hG hr => (mss_cons (ms_setO (i := 4) sc__law_point.nd (mo_lst mae_nil)) (mss_cons (ms_post [0, 1, 2, 3, 5, 6] (ms_for PassesOwn.never rfl (mi_range1 T.n_range (mat_cons (ME.t (me_var 2)) mat_nil)) (mg_name 5 sc__law_point.nd) (mss_cons (ms_set (i := 6) sc__law_point.nd (me_bin od_sub (ME.t (me_call (ok__law_draw T) hG (hr.mono (by decide)) T.g__law_draw T.F__law_draw.kp (T.b__law_draw) (T.v__law_draw) (fun _ => .nil) (mae_cons (me_var 0) (mae_cons (me_bin od_add (ME.t (me_var 1)) (ME.t (me_bin od_mul (ME.t me_int) (ME.t (me_var 5))))) (mae_cons (me_bin od_add (ME.t (me_bin od_mul (ME.t me_int) (ME.t (me_var 3)))) (ME.t me_int)) mae_nil))))) (ME.t (me_var 3)))) (mss_one (ms_post [5, 6] (ms_app 4 (me_call (ok__law_fr T) hG (hr.mono (by decide)) T.g__law_fr T.F__law_fr.kp (T.b__law_fr) (T.v__law_fr) (fun _ => .nil) (mae_cons (me_var 6) (mae_cons (me_bin od_add (ME.t me_int) (ME.t (me_call (ok__law_draw T) hG (hr.mono (by decide)) T.g__law_draw T.F__law_draw.kp (T.b__law_draw) (T.v__law_draw) (fun _ => .nil) (mae_cons (me_var 0) (mae_cons (me_bin od_add (ME.t (me_bin od_add (ME.t (me_var 1)) (ME.t (me_bin od_mul (ME.t me_int) (ME.t (me_var 5)))))) (ME.t me_int)) (mae_cons me_int mae_nil)))))) mae_nil))))))))) (mss_one (ms_ret (me_fnT fd_tuple T.n_tuple (mat_cons (mt_own 4) mat_nil))))))
/-! def _law_pushes -/
noncomputable def el__law_pushes_1 : Rho → Option D :=
    (m2 dMul (m2 dIx (mVar 1) (mVar 4)) (m2 dIx (m2 dIx (m1 (dKey (Str.ofString "e")) (mVar 0)) (mVar 4)) (mVar 3)))
theorem un_el__law_pushes_1 {ρ : Rho} {r : Option D} (h : (m2 dMul (m2 dIx (mVar 1) (mVar 4)) (m2 dIx (m2 dIx (m1 (dKey (Str.ofString "e")) (mVar 0)) (mVar 4)) (mVar 3))) ρ = r) : el__law_pushes_1 ρ = r := h
noncomputable def lp__law_pushes_1 : Rho → Option Res :=
    (mPost [3] (mApp 2 (mFn fSum (mCons (mL (mLc (mL2 rng1 (mCons (mFn fLen (mCons (mVar 1) mNil)) mNil)) (gSet 4) mYes el__law_pushes_1 [4])) mNil))))
theorem un_lp__law_pushes_1 {ρ : Rho} {r : Option Res} (h : (mPost [3] (mApp 2 (mFn fSum (mCons (mL (mLc (mL2 rng1 (mCons (mFn fLen (mCons (mVar 1) mNil)) mNil)) (gSet 4) mYes el__law_pushes_1 [4])) mNil)))) ρ = r) : lp__law_pushes_1 ρ = r := h
noncomputable def b__law_pushes : Rho → Option Res :=
    (mSeq (mSetO 2 (mLst mNil))
    (mSeq (mPost [0, 1, 3] (mFor (mL2 rng1 (mCons (mFn fLen (mCons (m1 (dKey (Str.ofString "pushes")) (mVar 0)) mNil)) mNil)) (gSet 3) lp__law_pushes_1))
    (mRetO 2)))
noncomputable def m__law_pushes : List D → Option D := runDef 2 3 b__law_pushes
theorem ok__law_pushes {P : Program} {w : World} {K : PySem.W.Frag} {mg : Str → Option Value} {base : Heap} (T : Txt K mg) : FnG P w K mg base 1 T.a__law_pushes T.d__law_pushes ["parts", "numbers"] m__law_pushes :=
  fn_def T.F__law_pushes sc__law_pushes fun cdv A outer s H hG hr => (mss_cons (ms_setO (i := 2) sc__law_pushes.nd (mo_lst mae_nil)) (mss_cons (ms_post [0, 1, 3] (ms_for PassesOwn.never rfl (mi_range1 T.n_range (mat_cons (ME.t (me_fnB fd_len T.n_len (mat_cons (ME.t (me_key (me_var 0) (room1 hr))) mat_nil))) mat_nil)) (mg_name 3 sc__law_pushes.nd) (mss_one (ms_post [3] (ms_app 2 (me_fnB (fd_sum rfl) T.n_sum (mat_cons (ME.t (MO.e (mo_lc (own := [(("k" : Str), 4)]) rfl sc__law_pushes.nd (MI.h (mi_range1 T.n_range (mat_cons (ME.t (me_fnB fd_len T.n_len (mat_cons (ME.t (me_var 1)) mat_nil))) mat_nil))) (blkOk_by (N := N__law_pushes) (sc := defScope s__law_pushes) (own := [(("k" : Str), 4)]) (by decide +kernel)) (fun _ _ _ _ _ => (mg_name 4 sc__law_pushes.nd)) (fun _ _ _ _ _ => mts_nil) (fun _ _ _ _ _ => (me_bin od_mul (ME.t (me_ix (ME.t (me_var 1)) (ME.t (me_var 4)))) (ME.t (me_ix (ME.t (me_ix (ME.t (me_key (me_var 0) (room1 hr))) (ME.t (me_var 4)))) (ME.t (me_var 3))))))))) mat_nil))))))) (mss_one (ms_retO 2))))
/-! def _law_back -/
noncomputable def el__law_back_1 : Rho → Option D :=
    (m2 dMul (m2 dIx (mVar 2) (mVar 11)) (m2 dIx (m2 dIx (m1 (dKey (Str.ofString "a")) (mVar 0)) (mVar 11)) (mVar 5)))
theorem un_el__law_back_1 {ρ : Rho} {r : Option D} (h : (m2 dMul (m2 dIx (mVar 2) (mVar 11)) (m2 dIx (m2 dIx (m1 (dKey (Str.ofString "a")) (mVar 0)) (mVar 11)) (mVar 5))) ρ = r) : el__law_back_1 ρ = r := h
noncomputable def lp__law_back_1 : Rho → Option Res :=
    (mPost [5] (mApp 4 (mFn fSum (mCons (mL (mLc (mL2 rng1 (mCons (mFn fLen (mCons (mVar 2) mNil)) mNil)) (gSet 11) mYes el__law_back_1 [11])) mNil))))
theorem un_lp__law_back_1 {ρ : Rho} {r : Option Res} (h : (mPost [5] (mApp 4 (mFn fSum (mCons (mL (mLc (mL2 rng1 (mCons (mFn fLen (mCons (mVar 2) mNil)) mNil)) (gSet 11) mYes el__law_back_1 [11])) mNil)))) ρ = r) : lp__law_back_1 ρ = r := h
noncomputable def el__law_back_2 : Rho → Option D :=
    (m2 dIx (mCall m__law_dot [] (mCons (mVar 6) (mCons (mVar 10) mNil))) (mC (.int 0)))
theorem un_el__law_back_2 {ρ : Rho} {r : Option D} (h : (m2 dIx (mCall m__law_dot [] (mCons (mVar 6) (mCons (mVar 10) mNil))) (mC (.int 0))) ρ = r) : el__law_back_2 ρ = r := h
noncomputable def lp__law_back_2 : Rho → Option Res :=
    (mPost [9] (mIfS (mAsB (m2 dEq (mVar 8) (mC (.int 0)))) (mPost [9] (mSet 8 (mFn fAbs (mCons (mVar 9) mNil)))) (mPost [9] (mIfS (mAsB (m2 dNe (mVar 9) (mC (.int 0)))) (mPost [9] (mSet 8 (mCall m__law_divisor [] (mCons (mVar 8) (mCons (mVar 9) mNil))))) mSkip))))
theorem un_lp__law_back_2 {ρ : Rho} {r : Option Res} (h : (mPost [9] (mIfS (mAsB (m2 dEq (mVar 8) (mC (.int 0)))) (mPost [9] (mSet 8 (mFn fAbs (mCons (mVar 9) mNil)))) (mPost [9] (mIfS (mAsB (m2 dNe (mVar 9) (mC (.int 0)))) (mPost [9] (mSet 8 (mCall m__law_divisor [] (mCons (mVar 8) (mCons (mVar 9) mNil))))) mSkip)))) ρ = r) : lp__law_back_2 ρ = r := h
noncomputable def el__law_back_3 : Rho → Option D :=
    (m2 dDiv (mVar 9) (mVar 8))
theorem un_el__law_back_3 {ρ : Rho} {r : Option D} (h : (m2 dDiv (mVar 9) (mVar 8)) ρ = r) : el__law_back_3 ρ = r := h
noncomputable def b__law_back : Rho → Option Res :=
    (mSeq (mPost [1] (mAsg (gTupD (gsCons (gSet 2) (gsCons (gSet 3) gsNil))) (mVar 1)))
    (mSeq (mSetO 4 (mLst mNil))
    (mSeq (mPost [5] (mFor (mL2 rng1 (mCons (mFn fLen (mCons (mVar 2) mNil)) mNil)) (gSet 5) lp__law_back_1))
    (mSeq (mPost [2] (mSet 6 (mCall m__law_pushes [] (mCons (mVar 0) (mCons (mVar 2) mNil)))))
    (mSeq (mPost [6] (mSet 7 (mFn fMax (mCons (mL (mLc (mSeqOf (mCall m__law_corners [] (mCons (m1 (dKey (Str.ofString "pushes")) (mVar 0)) mNil))) (gSet 10) mYes el__law_back_2 [10])) mNil))))
    (mSeq (mPost [0, 7] (mSet 3 (m2 dSub (m2 dMul (m1 (dKey (Str.ofString "divisor")) (mVar 0)) (mVar 3)) (mVar 7))))
    (mSeq (mSet 8 (mFn fAbs (mCons (mVar 3) mNil)))
    (mFrz 4 (mSeq (mPost [9] (mFor (mSeqOf (mVar 4)) (gSet 9) lp__law_back_2))
    (mSeq (mSet 8 (mFn fMax (mCons (mC (.int 1)) (mCons (mVar 8) mNil))))
    (mRet (mTup (mCons (mFn fTuple (mCons (mL (mLc (mSeqOf (mVar 4)) (gSet 9) mYes el__law_back_3 [9])) mNil)) (mCons (m2 dDiv (mVar 3) (mVar 8)) mNil))))))))))))))
noncomputable def m__law_back : List D → Option D := runDef 2 10 b__law_back
theorem ok__law_back {P : Program} {w : World} {K : PySem.W.Frag} {mg : Str → Option Value} {base : Heap} (T : Txt K mg) : FnG P w K mg base 5 T.a__law_back T.d__law_back ["parts", "row"] m__law_back :=
  fn_def T.F__law_back sc__law_back fun cdv A outer s H hG hr => (mss_cons (ms_post [1] (ms_asg (me_var 1) (mg_tup rfl (mgs_cons (mg_name 2 sc__law_back.nd) (mgs_cons (mg_name 3 sc__law_back.nd) mgs_nil)) (fun _ _ _ h => gs_lenS (fun _ _ _ h => gs_lenS (fun _ _ _ h => gs_len0 h) h) h)))) (mss_cons (ms_setO (i := 4) sc__law_back.nd (mo_lst mae_nil)) (mss_cons (ms_post [5] (ms_for PassesOwn.never rfl (mi_range1 T.n_range (mat_cons (ME.t (me_fnB fd_len T.n_len (mat_cons (ME.t (me_var 2)) mat_nil))) mat_nil)) (mg_name 5 sc__law_back.nd) (mss_one (ms_post [5] (ms_app 4 (me_fnB (fd_sum rfl) T.n_sum (mat_cons (ME.t (MO.e (mo_lc (own := [(("k" : Str), 11)]) rfl sc__law_back.nd (MI.h (mi_range1 T.n_range (mat_cons (ME.t (me_fnB fd_len T.n_len (mat_cons (ME.t (me_var 2)) mat_nil))) mat_nil))) (blkOk_by (N := N__law_back) (sc := defScope s__law_back) (own := [(("k" : Str), 11)]) (by decide +kernel)) (fun _ _ _ _ _ => (mg_name 11 sc__law_back.nd)) (fun _ _ _ _ _ => mts_nil) (fun _ _ _ _ _ => (me_bin od_mul (ME.t (me_ix (ME.t (me_var 2)) (ME.t (me_var 11)))) (ME.t (me_ix (ME.t (me_ix (ME.t (me_key (me_var 0) (room1 hr))) (ME.t (me_var 11)))) (ME.t (me_var 5))))))))) mat_nil))))))) (mss_cons (ms_post [2] (ms_set (i := 6) sc__law_back.nd (me_call (ok__law_pushes T) hG (hr.mono (by decide)) T.g__law_pushes T.F__law_pushes.kp (T.b__law_pushes) (T.v__law_pushes) (fun _ => .nil) (mae_cons (me_var 0) (mae_cons (me_var 2) mae_nil))))) (mss_cons (ms_post [6] (ms_set (i := 7) sc__law_back.nd (me_fnB (fd_max rfl) T.n_max (mat_cons (ME.t (MO.e (mo_lc (own := [(("corner" : Str), 10)]) rfl sc__law_back.nd (mih_seq (ME.t (me_call (ok__law_corners T) hG (hr.mono (by decide)) T.g__law_corners T.F__law_corners.kp (T.b__law_corners) (T.v__law_corners) (fun _ => .nil) (mae_cons (me_key (me_var 0) (room1 hr)) mae_nil)))) (blkOk_by (N := N__law_back) (sc := defScope s__law_back) (own := [(("corner" : Str), 10)]) (by decide +kernel)) (fun _ _ _ _ _ => (mg_name 10 sc__law_back.nd)) (fun _ _ _ _ _ => mts_nil) (fun _ _ _ _ _ => (me_ix (ME.t (me_call (ok__law_dot T) hG (hr.mono (by decide)) T.g__law_dot T.F__law_dot.kp (T.b__law_dot) (T.v__law_dot) (fun _ => .nil) (mae_cons (me_var 6) (mae_cons (me_var 10) mae_nil)))) (ME.t me_int)))))) mat_nil)))) (mss_cons (ms_post [0, 7] (ms_set (i := 3) sc__law_back.nd (me_bin od_sub (ME.t (me_bin od_mul (ME.t (me_key (me_var 0) (room1 hr))) (ME.t (me_var 3)))) (ME.t (me_var 7))))) (mss_cons (ms_set (i := 8) sc__law_back.nd (me_fnB fd_abs T.n_abs (mat_cons (ME.t (me_var 3)) mat_nil))) (mss_frz 4 (mss_cons (ms_post [9] (ms_for PassesOwn.never rfl (mi_seq (me_var 4)) (mg_name 9 sc__law_back.nd) (mss_one (ms_post [9] (ms_if (mb_cmp (od_eq hr.units) (ME.t (me_var 8)) (ME.t me_int)) (mss_one (ms_post [9] (ms_set (i := 8) sc__law_back.nd (me_fnB fd_abs T.n_abs (mat_cons (ME.t (me_var 9)) mat_nil))))) (mss_one (ms_post [9] (ms_if (mb_cmp (od_ne hr.units) (ME.t (me_var 9)) (ME.t me_int)) (mss_one (ms_post [9] (ms_set (i := 8) sc__law_back.nd (me_call (ok__law_divisor T) hG (hr.mono (by decide)) T.g__law_divisor T.F__law_divisor.kp (T.b__law_divisor) (T.v__law_divisor) (fun _ => .nil) (mae_cons (me_var 8) (mae_cons (me_var 9) mae_nil)))))) mss_nil)))))))) (mss_cons (ms_set (i := 8) sc__law_back.nd (me_fnB (fd_max rfl) T.n_max (mat_cons (ME.t me_int) (mat_cons (ME.t (me_var 8)) mat_nil)))) (mss_one (ms_ret (me_tup (mae_cons (me_fnT fd_tuple T.n_tuple (mat_cons (ME.t (MO.e (mo_lc (own := [(("number" : Str), 9)]) rfl sc__law_back.nd (mih_seq (ME.t (me_var 4))) (blkOk_by (N := N__law_back) (sc := defScope s__law_back) (own := [(("number" : Str), 9)]) (by decide +kernel)) (fun _ _ _ _ _ => (mg_name 9 sc__law_back.nd)) (fun _ _ _ _ _ => mts_nil) (fun _ _ _ _ _ => (me_bin od_div (ME.t (me_var 9)) (ME.t (me_var 8))))))) mat_nil)) (mae_cons (me_bin od_div (ME.t (me_var 3)) (ME.t (me_var 8))) mae_nil)))))))))))))))
/-! def law -/
noncomputable def el_law_1 : Rho → Option D :=
    (m2 dSub (mCall m__law_draw [] (mCons (mVar 0) (mCons (m2 dAdd (mC (.int 202)) (mVar 6)) (mCons (mC (.int 41)) mNil)))) (mC (.int 20)))
theorem un_el_law_1 {ρ : Rho} {r : Option D} (h : (m2 dSub (mCall m__law_draw [] (mCons (mVar 0) (mCons (m2 dAdd (mC (.int 202)) (mVar 6)) (mCons (mC (.int 41)) mNil)))) (mC (.int 20))) ρ = r) : el_law_1 ρ = r := h
noncomputable def el_law_2 : Rho → Option D :=
    (mC (.int 0))
theorem un_el_law_2 {ρ : Rho} {r : Option D} (h : (mC (.int 0)) ρ = r) : el_law_2 ρ = r := h
noncomputable def el_law_3 : Rho → Option D :=
    (mCall m__law_next [] (mCons (mVar 2) (mCons (mVar 7) (mCons (mTup mNil) (mCons (mVar 9) mNil)))))
theorem un_el_law_3 {ρ : Rho} {r : Option D} (h : (mCall m__law_next [] (mCons (mVar 2) (mCons (mVar 7) (mCons (mTup mNil) (mCons (mVar 9) mNil))))) ρ = r) : el_law_3 ρ = r := h
noncomputable def el_law_4 : Rho → Option D :=
    (mCall m__law_meets [] (mCons (mVar 4) (mCons (mVar 11) mNil)))
theorem un_el_law_4 {ρ : Rho} {r : Option D} (h : (mCall m__law_meets [] (mCons (mVar 4) (mCons (mVar 11) mNil))) ρ = r) : el_law_4 ρ = r := h
noncomputable def lp_law_1 : Rho → Option Res :=
    (mSeq (mPost [6] (mSet 7 (mCall m__law_point [] (mCons (mVar 0) (mCons (m2 dAdd (mC (.int 210)) (m2 dMul (mC (.int 8)) (mVar 6))) (mCons (mVar 1) (mCons (mC (.int 20)) mNil)))))))
    (mSeq (mSet 8 (mL (mLc (mSeqOf (mCall m__law_corners [] (mCons (m1 (dKey (Str.ofString "pushes")) (mVar 2)) mNil))) (gSet 9) mYes el_law_3 [9])))
    (mPost [7, 8] (mIfS (mAsB (m2 dNe (mCall m__law_meets [] (mCons (mVar 5) (mCons (mVar 7) mNil))) (mFn fAll (mCons (mL (mLc (mSeqOf (mVar 8)) (gSet 11) mYes el_law_4 [11])) mNil)))) (mRet (mC (.bool false))) mSkip))))
theorem un_lp_law_1 {ρ : Rho} {r : Option Res} (h : (mSeq (mPost [6] (mSet 7 (mCall m__law_point [] (mCons (mVar 0) (mCons (m2 dAdd (mC (.int 210)) (m2 dMul (mC (.int 8)) (mVar 6))) (mCons (mVar 1) (mCons (mC (.int 20)) mNil)))))))
    (mSeq (mSet 8 (mL (mLc (mSeqOf (mCall m__law_corners [] (mCons (m1 (dKey (Str.ofString "pushes")) (mVar 2)) mNil))) (gSet 9) mYes el_law_3 [9])))
    (mPost [7, 8] (mIfS (mAsB (m2 dNe (mCall m__law_meets [] (mCons (mVar 5) (mCons (mVar 7) mNil))) (mFn fAll (mCons (mL (mLc (mSeqOf (mVar 8)) (gSet 11) mYes el_law_4 [11])) mNil)))) (mRet (mC (.bool false))) mSkip)))) ρ = r) : lp_law_1 ρ = r := h
noncomputable def b_law : Rho → Option Res :=
    (mSeq (mSet 1 (m2 dAdd (mC (.int 1)) (mCall m__law_draw [] (mCons (mVar 0) (mCons (mC (.int 200)) (mCons (mC (.int 3)) mNil))))))
    (mSeq (mSet 2 (mCall m__law_parts [] (mCons (mVar 0) (mCons (mC (.int 0)) (mCons (mVar 1) (mCons (mC (.int 0)) (mCons (mC (.int 6)) mNil)))))))
    (mSeq (mSet 3 (mCall m__law_machine [] (mCons (mVar 2) mNil)))
    (mSeq (mSet 4 (mTup (mCons (mFn fTuple (mCons (mL (mLc (mL2 rng1 (mCons (mVar 1) mNil)) (gSet 6) mYes el_law_1 [6])) mNil)) (mCons (m2 dSub (mCall m__law_draw [] (mCons (mVar 0) (mCons (mC (.int 206)) (mCons (mC (.int 201)) mNil)))) (mC (.int 100))) mNil))))
    (mSeq (mIfS (mAsB (m2 dEq (mCall m__law_draw [] (mCons (mVar 0) (mCons (mC (.int 207)) (mCons (mC (.int 6)) mNil)))) (mC (.int 0)))) (mSet 4 (mTup (mCons (m2 dIx (mVar 4) (mC (.int 0))) (mCons (m2 dMul (mFn fInt (mCons (m2 dIx (mVar 4) (mC (.int 1))) mNil)) (m2 dPow (mC (.int 10)) (mC (.int 20)))) mNil)))) mSkip)
    (mSeq (mIfS (mAsB (m2 dEq (mCall m__law_draw [] (mCons (mVar 0) (mCons (mC (.int 208)) (mCons (mC (.int 8)) mNil)))) (mC (.int 0)))) (mSet 4 (mTup (mCons (mFn fTuple (mCons (mL (mLc (mSeqOf (m2 dIx (mVar 4) (mC (.int 0)))) (gSet 10) mYes el_law_2 [10])) mNil)) (mCons (m2 dIx (mVar 4) (mC (.int 1))) mNil)))) mSkip)
    (mSeq (mPost [3] (mSet 5 (mCall m_drawn_back [] (mCons (mVar 3) (mCons (mVar 4) mNil)))))
    (mSeq (mIfS (mAsB (m2 dNe (mVar 5) (mCall m__law_back [] (mCons (mVar 2) (mCons (mVar 4) mNil))))) (mRet (mC (.bool false))) mSkip)
    (mSeq (mPost [0, 1, 2, 4, 5, 6, 7, 8] (mFor (mL2 rng1 (mCons (mC (.int 4)) mNil)) (gSet 6) lp_law_1))
    (mRet (mC (.bool true))))))))))))
noncomputable def m_law : List D → Option D := runDef 1 11 b_law
theorem ok_law {P : Program} {w : World} {K : PySem.W.Frag} {mg : Str → Option Value} {base : Heap} (T : Txt K mg) : FnG P w K mg base 8 T.a_law T.d_law ["script"] m_law :=
  fn_def T.F_law sc_law fun cdv A outer s H hG hr => (mss_cons (ms_set (i := 1) sc_law.nd (me_bin od_add (ME.t me_int) (ME.t (me_call (ok__law_draw T) hG (hr.mono (by decide)) T.g__law_draw T.F__law_draw.kp (T.b__law_draw) (T.v__law_draw) (fun _ => .nil) (mae_cons (me_var 0) (mae_cons me_int (mae_cons me_int mae_nil))))))) (mss_cons (ms_set (i := 2) sc_law.nd (me_call (ok__law_parts T) hG (hr.mono (by decide)) T.g__law_parts T.F__law_parts.kp (T.b__law_parts) (T.v__law_parts) (fun _ => .nil) (mae_cons (me_var 0) (mae_cons me_int (mae_cons (me_var 1) (mae_cons me_int (mae_cons me_int mae_nil))))))) (mss_cons (ms_set (i := 3) sc_law.nd (me_call (ok__law_machine T) hG (hr.mono (by decide)) T.g__law_machine T.F__law_machine.kp (T.b__law_machine) (T.v__law_machine) (fun _ => .nil) (mae_cons (me_var 2) mae_nil))) (mss_cons (ms_set (i := 4) sc_law.nd (me_tup (mae_cons (me_fnT fd_tuple T.n_tuple (mat_cons (ME.t (MO.e (mo_lc (own := [(("k" : Str), 6)]) rfl sc_law.nd (MI.h (mi_range1 T.n_range (mat_cons (ME.t (me_var 1)) mat_nil))) (blkOk_by (N := N_law) (sc := defScope s_law) (own := [(("k" : Str), 6)]) (by decide +kernel)) (fun _ _ _ _ _ => (mg_name 6 sc_law.nd)) (fun _ _ _ _ _ => mts_nil) (fun _ _ _ _ _ => (me_bin od_sub (ME.t (me_call (ok__law_draw T) hG (hr.mono (by decide)) T.g__law_draw T.F__law_draw.kp (T.b__law_draw) (T.v__law_draw) (fun _ => .nil) (mae_cons (me_var 0) (mae_cons (me_bin od_add (ME.t me_int) (ME.t (me_var 6))) (mae_cons me_int mae_nil))))) (ME.t me_int)))))) mat_nil)) (mae_cons (me_bin od_sub (ME.t (me_call (ok__law_draw T) hG (hr.mono (by decide)) T.g__law_draw T.F__law_draw.kp (T.b__law_draw) (T.v__law_draw) (fun _ => .nil) (mae_cons (me_var 0) (mae_cons me_int (mae_cons me_int mae_nil))))) (ME.t me_int)) mae_nil)))) (mss_cons (ms_if (mb_cmp (od_eq hr.units) (ME.t (me_call (ok__law_draw T) hG (hr.mono (by decide)) T.g__law_draw T.F__law_draw.kp (T.b__law_draw) (T.v__law_draw) (fun _ => .nil) (mae_cons (me_var 0) (mae_cons me_int (mae_cons me_int mae_nil))))) (ME.t me_int)) (mss_one (ms_set (i := 4) sc_law.nd (me_tup (mae_cons (me_ix (ME.t (me_var 4)) (ME.t me_int)) (mae_cons (me_bin od_mul (ME.t (me_fnT fd_int T.n_int (mat_cons (ME.t (me_ix (ME.t (me_var 4)) (ME.t me_int))) mat_nil))) (ME.t (me_bin od_pow (ME.t me_int) (ME.t me_int)))) mae_nil))))) mss_nil) (mss_cons (ms_if (mb_cmp (od_eq hr.units) (ME.t (me_call (ok__law_draw T) hG (hr.mono (by decide)) T.g__law_draw T.F__law_draw.kp (T.b__law_draw) (T.v__law_draw) (fun _ => .nil) (mae_cons (me_var 0) (mae_cons me_int (mae_cons me_int mae_nil))))) (ME.t me_int)) (mss_one (ms_set (i := 4) sc_law.nd (me_tup (mae_cons (me_fnT fd_tuple T.n_tuple (mat_cons (ME.t (MO.e (mo_lc (own := [(("number" : Str), 10)]) rfl sc_law.nd (mih_seq (ME.t (me_ix (ME.t (me_var 4)) (ME.t me_int)))) (blkOk_by (N := N_law) (sc := defScope s_law) (own := [(("number" : Str), 10)]) (by decide +kernel)) (fun _ _ _ _ _ => (mg_name 10 sc_law.nd)) (fun _ _ _ _ _ => mts_nil) (fun _ _ _ _ _ => me_int)))) mat_nil)) (mae_cons (me_ix (ME.t (me_var 4)) (ME.t me_int)) mae_nil))))) mss_nil) (mss_cons (ms_post [3] (ms_set (i := 5) sc_law.nd (me_call (ok_drawn_back T) hG (hr.mono (by decide)) T.g_drawn_back T.F_drawn_back.kp (T.b_drawn_back) (T.v_drawn_back) (fun _ => .nil) (mae_cons (me_var 3) (mae_cons (me_var 4) mae_nil))))) (mss_cons (ms_if (mb_cmp (od_ne hr.units) (ME.t (me_var 5)) (ME.t (me_call (ok__law_back T) hG (hr.mono (by decide)) T.g__law_back T.F__law_back.kp (T.b__law_back) (T.v__law_back) (fun _ => .nil) (mae_cons (me_var 2) (mae_cons (me_var 4) mae_nil))))) (mss_one (ms_ret me_bl)) mss_nil) (mss_cons (ms_post [0, 1, 2, 4, 5, 6, 7, 8] (ms_for PassesOwn.never rfl (mi_range1 T.n_range (mat_cons (ME.t me_int) mat_nil)) (mg_name 6 sc_law.nd) (mss_cons (ms_post [6] (ms_set (i := 7) sc_law.nd (me_call (ok__law_point T) hG (hr.mono (by decide)) T.g__law_point T.F__law_point.kp (T.b__law_point) (T.v__law_point) (fun _ => .nil) (mae_cons (me_var 0) (mae_cons (me_bin od_add (ME.t me_int) (ME.t (me_bin od_mul (ME.t me_int) (ME.t (me_var 6))))) (mae_cons (me_var 1) (mae_cons me_int mae_nil))))))) (mss_cons (ms_setLc (i := 8) (own := [(("corner" : Str), 9)]) rfl sc_law.nd (mih_seq (ME.t (me_call (ok__law_corners T) hG (hr.mono (by decide)) T.g__law_corners T.F__law_corners.kp (T.b__law_corners) (T.v__law_corners) (fun _ => .nil) (mae_cons (me_key (me_var 2) (room1 hr)) mae_nil)))) (blkOk_by (N := N_law) (sc := defScope s_law) (own := [(("corner" : Str), 9)]) (by decide +kernel)) (fun _ _ _ _ _ => (mg_name 9 sc_law.nd)) (fun _ _ _ _ _ => mts_nil) (fun _ _ _ _ _ => (me_call (ok__law_next T) hG (hr.mono (by decide)) T.g__law_next T.F__law_next.kp (T.b__law_next) (T.v__law_next) (fun _ => .nil) (mae_cons (me_var 2) (mae_cons (me_var 7) (mae_cons (me_tup mae_nil) (mae_cons (me_var 9) mae_nil)))))) (sw_true rfl rfl rfl (by decide +kernel))) (mss_one (ms_post [7, 8] (ms_if (mb_cmp (od_ne hr.units) (ME.t (me_call (ok__law_meets T) hG (hr.mono (by decide)) T.g__law_meets T.F__law_meets.kp (T.b__law_meets) (T.v__law_meets) (fun _ => .nil) (mae_cons (me_var 5) (mae_cons (me_var 7) mae_nil)))) (ME.t (me_fnB (fd_all rfl) T.n_all (mat_cons (ME.t (MO.e (mo_lc (own := [(("point" : Str), 11)]) rfl sc_law.nd (mih_seq (ME.t (me_var 8))) (blkOk_by (N := N_law) (sc := defScope s_law) (own := [(("point" : Str), 11)]) (by decide +kernel)) (fun _ _ _ _ _ => (mg_name 11 sc_law.nd)) (fun _ _ _ _ _ => mts_nil) (fun _ _ _ _ _ => (me_call (ok__law_meets T) hG (hr.mono (by decide)) T.g__law_meets T.F__law_meets.kp (T.b__law_meets) (T.v__law_meets) (fun _ => .nil) (mae_cons (me_var 4) (mae_cons (me_var 11) mae_nil))))))) mat_nil)))) (mss_one (ms_ret me_bl)) mss_nil))))))) (mss_one (ms_ret me_bl)))))))))))
end Tx

namespace Tx
open PySem PySem.Spec PyProof.Rows L2 MV
local macro_rules | `(tactic| iterate 1001 $ts:tacticSeq) => `(tactic| repeat (first | ($ts) | (with_reducible first | apply MV.seq_ok | apply MV.then_nx | apply MV.then_rt | apply MV.ar_cons | apply MV.ar_nil | apply MV.ex_c | apply MV.var_0 | apply MV.var_s | apply MV.own_0 | apply MV.own_0d | apply MV.own_s | apply MV.ex_2 | apply MV.ex_call0 | apply MV.ex_fn | apply MV.st_set | apply MV.set_0 | apply MV.set_s | apply MV.st_post | apply MV.post_nx | apply MV.post_rt | apply MV.wipe_0 | apply MV.wipe_s | apply MV.op_add' | apply MV.op_sub' | (apply MV.dMul_ok; rotate_left) | (apply MV.dDiv_ok; rotate_left) | (apply MV.dMod_ok; rotate_left) | apply MV.op_ixL | apply MV.op_ixT | apply MV.at_0 | apply MV.fn_int | apply MV.fn_abs | apply MV.fn_len | apply MV.fn_lenT | apply MV.fn_tupL | apply MV.fn_tupT | apply MV.fn_lstL | apply MV.fn_lstT | apply MV.ex_tup | apply MV.ex_lst | apply MV.ex_l | apply MV.ex_dic | apply MV.len_0 | apply MV.len_s | apply MV.st_ret | apply MV.retO_0 | apply MV.retO_0d | apply MV.retO_s | apply MV.st_if | apply MV.ite_tt | apply MV.ite_ff | apply MV.bo_as | apply MV.bo_tru | apply MV.bo_and | apply MV.bo_or | apply MV.bo_not | apply MV.not_t | apply MV.not_f | apply MV.ex_and | apply MV.ex_or | apply MV.ex_not | apply MV.ex_if | apply MV.st_skip | apply MV.st_drop | apply MV.st_brk | apply MV.st_cnt | apply MV.st_setO | apply MV.app_at | apply MV.ext_at | apply MV.get_0 | apply MV.get_s | apply MV.st_par | apply MV.st_asg | apply MV.tg_set | apply MV.tg_tup | apply MV.tg_cons | apply MV.tg_nil | apply MV.st_for | apply MV.st_frz | apply MV.put_at | apply MV.src_seq | apply MV.src_2 | apply MV.seq_l | apply MV.seq_t | apply MV.zip_ok | apply MV.enum_ok | apply MV.ex_1 | apply MV.ex_call | apply MV.op_neg' | apply MV.op_lt' | apply MV.op_le' | apply MV.op_gt' | apply MV.op_ge' | apply MV.op_p18 | apply MV.op_p9 | apply MV.op_p30 | apply MV.op_eqI | apply MV.op_neI | apply MV.op_eqSS | apply MV.op_neSS | apply MV.op_eqS | apply MV.op_neS | apply MV.op_eqB | apply MV.op_neB | apply MV.fn_gcd | apply MV.fn_intB | apply MV.post_bk | apply MV.post_ct | apply MV.then_bk | apply MV.then_ct | apply MV.cut_ok | apply MV.part_ok | apply MV.part_no | apply MV.then_ex | apply MV.post_ex | apply MV.st_raise | apply MV.mk_err | apply MV.err_int | apply MV.err_non | apply MV.st_ifX | apply MV.ifX_ok | apply MV.ifX_er | apply MV.ex_2X | apply MV.m2R_er | apply MV.m2R_ok | apply MV.ex_callX | apply MV.st_try | apply MV.try_nx | apply MV.try_rt | apply MV.try_ex | apply MV.end_rt | apply MV.end_nx | apply MV.st_guard | apply MV.fld_ok | apply MV.isv_ok | apply MV.n_pw | apply MV.n_seq | apply MV.n_then | apply MV.n_then_rt | apply MV.n_then_ro | apply MV.n_set | apply MV.n_setO | apply MV.n_eq | apply MV.n_post | apply MV.n_ifS | apply MV.n_callW | apply MV.n_callWL | apply MV.n_dk | apply MV.n_cons | apply MV.n_nil | apply MV.n_bin | apply MV.n_asB | apply MV.n_isB | apply MV.n_isI | apply MV.n_ret | apply MV.n_retL | apply MV.n_retO | apply MV.n_app | apply MV.n_put | apply MV.n_asg | apply MV.n_tup | apply MV.n_lst | apply MV.n_l | apply MV.n_fn | apply MV.n_callG0 | apply MV.n_callG | apply MV.n_callWO | apply MV.n_tru | apply MV.n_not | apply MV.n_and | apply MV.n_or | apply MV.n_if | apply MV.n_andV | apply MV.n_orV | apply MV.n_notV | apply MV.n_tt | apply MV.n_ff | apply MV.n_noPart | apply MV.n_part | apply MV.n_cut | apply MV.n_drop | apply MV.n_frz | apply MV.n_end | apply MV.n_endo | apply MV.n_endO | apply MV.n_for | apply MV.n_lc | apply MV.n_yes | apply MV.n_seqOf | apply MV.n_l2 | apply MV.n_un | apply MV.post_ro | apply MV.n_len | apply MV.n_len' | apply MV.n_ex | apply MV.st_retL | apply MV.ex_callO0 | apply MV.ex_callO | apply MV.ex_star | apply MV.ex_listO | apply MV.ex_rep | apply MV.st_aug | apply MV.st_retN | apply MV.ex_chain | apply MV.bind_ok | apply MV.op_inL | apply MV.op_notinL | apply MV.op_isNN | apply MV.op_isIN | apply MV.op_isTN | apply MV.op_isLN | apply MV.op_ntNN | apply MV.op_ntIN | apply MV.op_ntTN | apply MV.op_ntLN | apply MV.some_rfl | apply MV.st_fldN | apply MV.sn_0 | apply MV.sn_s | apply MV.st_fldON | apply MV.gf_hd | apply MV.ge_dat | apply MV.ge_own | apply MV.ge_ownD | apply MV.n_listO | apply MV.ex_meth1 | apply MV.ex_meth | apply MV.ex_methO) | (refine MV.gf_tl (by decide +kernel) ?_) | ((show MV.newName _ _ = true; simp only [List.map_cons, List.map_nil, List.cons_append, List.nil_append]; decide +kernel)) | ((show List.length _ < 100; exact Nat.le_of_ble_eq_true rfl)) | (refine MV.ite_t (by assumption) ?_) | (refine MV.ite_f (by assumption) ?_) | (exact (by assumption : _ = true)) | (refine MV.ite_dt (by omega) ?_) | (refine MV.ite_df (by omega) ?_) | (refine MV.ite_et (by omega) ?_) | (refine MV.ite_ef (by omega) ?_) | (refine MV.n_dt (by omega) ?_) | (refine MV.n_df (by omega) ?_) | (refine MV.n_et (by omega) ?_) | (refine MV.n_ef (by omega) ?_)))
local macro_rules | `(tactic| iterate 1002 $ts:tacticSeq) => `(tactic| repeat (first | ($ts) | (with_reducible first | apply MV.seq_ok | apply MV.then_nx | apply MV.then_rt | apply MV.ar_cons | apply MV.ar_nil | apply MV.ex_c | apply MV.var_0 | apply MV.var_s | apply MV.own_0 | apply MV.own_0d | apply MV.own_s | apply MV.ex_2 | apply MV.ex_call0 | apply MV.ex_fn | apply MV.st_set | apply MV.set_0 | apply MV.set_s | apply MV.st_post | apply MV.post_nx | apply MV.post_rt | apply MV.wipe_0 | apply MV.wipe_s | apply MV.op_add' | apply MV.op_sub' | (apply MV.dMul_ok; rotate_left) | (apply MV.dDiv_ok; rotate_left) | (apply MV.dMod_ok; rotate_left) | apply MV.op_ixL | apply MV.op_ixT | apply MV.at_0 | apply MV.fn_int | apply MV.fn_abs | apply MV.fn_len | apply MV.fn_lenT | apply MV.fn_tupL | apply MV.fn_tupT | apply MV.fn_lstL | apply MV.fn_lstT | apply MV.ex_tup | apply MV.ex_lst | apply MV.ex_l | apply MV.ex_dic | apply MV.len_0 | apply MV.len_s | apply MV.st_ret | apply MV.retO_0 | apply MV.retO_0d | apply MV.retO_s | apply MV.st_if | apply MV.ite_tt | apply MV.ite_ff | apply MV.bo_as | apply MV.bo_tru | apply MV.bo_and | apply MV.bo_or | apply MV.bo_not | apply MV.not_t | apply MV.not_f | apply MV.ex_and | apply MV.ex_or | apply MV.ex_not | apply MV.ex_if | apply MV.st_skip | apply MV.st_drop | apply MV.st_brk | apply MV.st_cnt | apply MV.st_setO | apply MV.app_at | apply MV.ext_at | apply MV.get_0 | apply MV.get_s | apply MV.st_par | apply MV.st_asg | apply MV.tg_set | apply MV.tg_tup | apply MV.tg_cons | apply MV.tg_nil | apply MV.st_for | apply MV.st_frz | apply MV.put_at | apply MV.src_seq | apply MV.src_2 | apply MV.seq_l | apply MV.seq_t | apply MV.zip_ok | apply MV.enum_ok | apply MV.ex_1 | apply MV.ex_call | apply MV.op_neg' | apply MV.op_lt' | apply MV.op_le' | apply MV.op_gt' | apply MV.op_ge' | apply MV.op_p18 | apply MV.op_p9 | apply MV.op_p30 | apply MV.op_eqI | apply MV.op_neI | apply MV.op_eqSS | apply MV.op_neSS | apply MV.op_eqS | apply MV.op_neS | apply MV.op_eqB | apply MV.op_neB | apply MV.fn_gcd | apply MV.fn_intB | apply MV.post_bk | apply MV.post_ct | apply MV.then_bk | apply MV.then_ct | apply MV.cut_ok | apply MV.part_ok | apply MV.part_no | apply MV.then_ex | apply MV.post_ex | apply MV.st_raise | apply MV.mk_err | apply MV.err_int | apply MV.err_non | apply MV.st_ifX | apply MV.ifX_ok | apply MV.ifX_er | apply MV.ex_2X | apply MV.m2R_er | apply MV.m2R_ok | apply MV.ex_callX | apply MV.st_try | apply MV.try_nx | apply MV.try_rt | apply MV.try_ex | apply MV.end_rt | apply MV.end_nx | apply MV.st_guard | apply MV.fld_ok | apply MV.isv_ok | apply MV.n_pw | apply MV.n_then | apply MV.n_then_rt | apply MV.n_then_ro | apply MV.n_set | apply MV.n_setO | apply MV.n_eq | apply MV.n_post | apply MV.n_ifS | apply MV.n_callW | apply MV.n_callWL | apply MV.n_dk | apply MV.n_cons | apply MV.n_nil | apply MV.n_bin | apply MV.n_asB | apply MV.n_isB | apply MV.n_isI | apply MV.n_ret | apply MV.n_retL | apply MV.n_retO | apply MV.n_app | apply MV.n_put | apply MV.n_asg | apply MV.n_tup | apply MV.n_lst | apply MV.n_l | apply MV.n_fn | apply MV.n_callG0 | apply MV.n_callG | apply MV.n_callWO | apply MV.n_tru | apply MV.n_not | apply MV.n_and | apply MV.n_or | apply MV.n_if | apply MV.n_andV | apply MV.n_orV | apply MV.n_notV | apply MV.n_tt | apply MV.n_ff | apply MV.n_noPart | apply MV.n_part | apply MV.n_cut | apply MV.n_drop | apply MV.n_frz | apply MV.n_end | apply MV.n_endo | apply MV.n_endO | apply MV.n_for | apply MV.n_lc | apply MV.n_yes | apply MV.n_seqOf | apply MV.n_l2 | apply MV.n_un | apply MV.post_ro | apply MV.n_len | apply MV.n_len' | apply MV.n_ex | apply MV.st_retL | apply MV.ex_callO0 | apply MV.ex_callO | apply MV.ex_star | apply MV.ex_listO | apply MV.ex_rep | apply MV.st_aug | apply MV.st_retN | apply MV.ex_chain | apply MV.bind_ok | apply MV.op_inL | apply MV.op_notinL | apply MV.op_isNN | apply MV.op_isIN | apply MV.op_isTN | apply MV.op_isLN | apply MV.op_ntNN | apply MV.op_ntIN | apply MV.op_ntTN | apply MV.op_ntLN | apply MV.some_rfl | apply MV.st_fldN | apply MV.sn_0 | apply MV.sn_s | apply MV.st_fldON | apply MV.gf_hd | apply MV.ge_dat | apply MV.ge_own | apply MV.ge_ownD | apply MV.n_listO | apply MV.ex_meth1 | apply MV.ex_meth | apply MV.ex_methO) | (refine MV.gf_tl (by decide +kernel) ?_) | ((show MV.newName _ _ = true; simp only [List.map_cons, List.map_nil, List.cons_append, List.nil_append]; decide +kernel)) | ((show List.length _ < 100; exact Nat.le_of_ble_eq_true rfl)) | (refine MV.ite_t (by assumption) ?_) | (refine MV.ite_f (by assumption) ?_) | (exact (by assumption : _ = true)) | (refine MV.ite_dt (by omega) ?_) | (refine MV.ite_df (by omega) ?_) | (refine MV.ite_et (by omega) ?_) | (refine MV.ite_ef (by omega) ?_) | (refine MV.n_dt (by omega) ?_) | (refine MV.n_df (by omega) ?_) | (refine MV.n_et (by omega) ?_) | (refine MV.n_ef (by omega) ?_)))
set_option exponentiation.threshold 9000
/-! numbers -/
theorem pow_le {a b : Nat} (h : a ≤ b) : 2 ^ a ≤ 2 ^ b := Nat.pow_le_pow_right (by decide) h
theorem lt_pow {n a b : Nat} (h : n < 2 ^ a) (h2 : a ≤ b) : n < 2 ^ b := Nat.lt_of_lt_of_le h (pow_le h2)
theorem mul_lt {a b : Int} {m n : Nat} (ha : a.natAbs < 2 ^ m) (hb : b.natAbs < 2 ^ n) : (a * b).natAbs < 2 ^ (m + n) := by
  rw [Int.natAbs_mul, Nat.pow_add]
  exact Nat.mul_lt_mul'' ha hb
theorem add_lt {a b : Int} {m : Nat} (ha : a.natAbs < 2 ^ m) (hb : b.natAbs < 2 ^ m) : (a + b).natAbs < 2 ^ (m + 1) := by
  rw [Nat.pow_succ]
  omega
theorem sub_lt {a b : Int} {m : Nat} (ha : a.natAbs < 2 ^ m) (hb : b.natAbs < 2 ^ m) : (a - b).natAbs < 2 ^ (m + 1) := by
  rw [Nat.pow_succ]
  omega
theorem fmod_range (a : Int) {b : Int} (h : 0 < b) : 0 ≤ a.fmod b ∧ a.fmod b < b := ⟨Int.fmod_nonneg_of_pos a h, Int.fmod_lt_of_pos a h⟩
theorem cast_fdiv (a b : Nat) : ((a : Int)).fdiv (b : Int) = ((a / b : Nat) : Int) := by
  rw [Int.fdiv_eq_ediv_of_nonneg _ (by omega), Int.natCast_ediv]
/-! fractions as data -/
def ratD (q : Rat) : D := .tuple [.int q.num, .int (q.den : Int)]
theorem rat0 (q : Rat) : dIx (ratD q) (.int 0) = some (.int q.num) := rfl
theorem rat1 (q : Rat) : dIx (ratD q) (.int 1) = some (.int (q.den : Int)) := rfl
theorem rat_tg {gs : List D → Rho → Option Rho} {q : Rat} {ρ ρ' : Rho} (h : gs [.int q.num, .int (q.den : Int)] ρ = some ρ') : gTupD gs (ratD q) ρ = some ρ' := h
def ptD (qs : List Rat) : D := .tuple (qs.map ratD)
/-- how great the parts of a fraction may be -/
def Sm (B : Nat) (q : Rat) : Prop := q.num.natAbs < 2 ^ B ∧ q.den < 2 ^ B
theorem Sm.mono {a b : Nat} {q : Rat} (h : Sm a q) (e : a ≤ b) : Sm b q := ⟨lt_pow h.1 e, lt_pow h.2 e⟩
theorem Sm.den {a : Nat} {q : Rat} (h : Sm a q) : ((q.den : Int)).natAbs < 2 ^ a := by rw [Int.natAbs_natCast]; exact h.2
theorem Sm.okD {a : Nat} {q : Rat} (h : Sm a q) (e : a ≤ 1900) : okD (ratD q) := okD_tup fun d hd => by
  simp only [List.mem_cons, List.not_mem_nil, or_false] at hd
  rcases hd with rfl | rfl
  · exact okD_int (lt_pow h.1 e)
  · exact okD_int (lt_pow h.den e)
theorem rat_pos (n : Int) {d : Nat} (hd : d ≠ 0) : (Rat.divInt n (d : Int)).num = n / ((Nat.gcd n.natAbs d : Nat) : Int) ∧ ((Rat.divInt n (d : Int)).den : Int) = (d : Int) / ((Nat.gcd n.natAbs d : Nat) : Int) := by
  rw [Rat.divInt_ofNat, Rat.num_mkRat, Rat.den_mkRat, if_neg hd, if_neg hd, Nat.gcd_comm d, ← Int.natCast_ediv]
  exact ⟨rfl, rfl⟩
theorem rat_le (n : Int) {d : Nat} (hd : d ≠ 0) : (Rat.divInt n (d : Int)).num.natAbs ≤ n.natAbs ∧ (Rat.divInt n (d : Int)).den ≤ d := by
  obtain ⟨h1, h2⟩ := rat_pos n hd
  refine ⟨?_, ?_⟩
  · rw [h1, Int.natAbs_ediv_of_dvd (Int.ofNat_dvd_left.mpr (Nat.gcd_dvd_left _ _))]
    exact Nat.div_le_self _ _
  · have h3 : (Rat.divInt n (d : Int)).den = d / Nat.gcd n.natAbs d := by
      rw [← Int.natCast_ediv] at h2
      exact Int.ofNat.inj h2
    rw [h3]
    exact Nat.div_le_self _ _
theorem sm_divInt {n d : Int} {B : Nat} (hd : d ≠ 0) (h1 : n.natAbs < 2 ^ B) (h2 : d.natAbs < 2 ^ B) : Sm B (Rat.divInt n d) := by
  by_cases h0 : d < 0
  · have ed : -d = (d.natAbs : Int) := by omega
    have p := rat_le (-n) (d := d.natAbs) (by omega)
    rw [Int.natAbs_neg, ← ed, Rat.neg_divInt_neg] at p
    exact ⟨by omega, by omega⟩
  · have ed : (d.natAbs : Int) = d := by omega
    have p := rat_le n (d := d.natAbs) (by omega)
    rw [ed] at p
    exact ⟨by omega, by omega⟩
theorem den_ne (q : Rat) : (q.den : Int) ≠ 0 := by
  have := q.den_pos
  omega
theorem num_den (q : Rat) : Rat.divInt q.num (q.den : Int) = q := Rat.num_divInt_den q
theorem add_eq (p q : Rat) : Rat.divInt (p.num * q.den + q.num * p.den) (p.den * q.den) = p + q := by
  rw [← Rat.divInt_add_divInt _ _ (den_ne p) (den_ne q), num_den, num_den]
theorem sub_eq (p q : Rat) : Rat.divInt (p.num * q.den - q.num * p.den) (p.den * q.den) = p - q := by
  rw [← Rat.divInt_sub_divInt _ _ (den_ne p) (den_ne q), num_den, num_den]
theorem mul_eq (p q : Rat) : Rat.divInt (p.num * q.num) (p.den * q.den) = p * q := by
  rw [← Rat.divInt_mul_divInt, num_den, num_den]
theorem Sm.add {a b : Nat} {p q : Rat} (h : Sm a p) (k : Sm b q) : Sm (a + b + 1) (p + q) := by
  rw [← add_eq]
  refine sm_divInt (Int.mul_ne_zero (den_ne p) (den_ne q)) (add_lt (mul_lt h.1 k.den) ?_) (lt_pow (mul_lt h.den k.den) (by omega))
  rw [Nat.add_comm]
  exact mul_lt k.1 h.den
theorem Sm.sub {a b : Nat} {p q : Rat} (h : Sm a p) (k : Sm b q) : Sm (a + b + 1) (p - q) := by
  rw [← sub_eq]
  refine sm_divInt (Int.mul_ne_zero (den_ne p) (den_ne q)) (sub_lt (mul_lt h.1 k.den) ?_) (lt_pow (mul_lt h.den k.den) (by omega))
  rw [Nat.add_comm]
  exact mul_lt k.1 h.den
theorem Sm.mul {a b : Nat} {p q : Rat} (h : Sm a p) (k : Sm b q) : Sm (a + b) (p * q) := by
  rw [← mul_eq]
  exact sm_divInt (Int.mul_ne_zero (den_ne p) (den_ne q)) (mul_lt h.1 k.1) (mul_lt h.den k.den)
theorem mulSm {i j : Int} {a b : Nat} (ha : i.natAbs < 2 ^ a) (hb : j.natAbs < 2 ^ b) (h : a + b < 900000) : mulOk i j = true :=
  decide_eq_true (.inl (by
    have x := log2_lt' (n := i.natAbs) (a := a + 1) (by omega) (lt_pow ha (by omega))
    have y := log2_lt' (n := j.natAbs) (a := b + 1) (by omega) (lt_pow hb (by omega))
    omega))

/-! the script laws' fractions -/
theorem sdiv_loop : ∀ (k a b : Nat) (items : List D) (x : Cell), a < 2 ^ 2000 → b < 2 ^ 2000 → b < 2 ^ k → 2 * k + 1 ≤ items.length → loopD (gSet 2) lp__law_divisor_1 items [.dat (.int (a : Int)), .dat (.int (b : Int)), x] = some (.nx [.dat (.int ((Nat.gcd a b : Nat) : Int)), .dat (.int 0), .un]) := by
  have brk : ∀ (a b : Nat) (d : D) (ds : List D) (x : Cell), b = 0 → loopD (gSet 2) lp__law_divisor_1 (d :: ds) [.dat (.int (a : Int)), .dat (.int (b : Int)), x] = some (.nx [.dat (.int ((Nat.gcd a b : Nat) : Int)), .dat (.int 0), .un]) := fun a b d ds x hb => by
    subst hb
    rw [Nat.gcd_zero_right]
    refine loop_bk (ρ1 := [.dat (.int (a : Int)), .dat (.int ((0 : Nat) : Int)), .dat d]) rfl ?_
    unfold lp__law_divisor_1
    apply val_eq
    (iterate 1001 (first | fail))
    rfl
  have step : ∀ (a b : Nat) (d : D) (ds : List D) (x : Cell) (R : Option Res), b ≠ 0 → a < 2 ^ 2000 → b < 2 ^ 2000 → loopD (gSet 2) lp__law_divisor_1 ds [.dat (.int (b : Int)), .dat (.int ((a % b : Nat) : Int)), .un] = R → loopD (gSet 2) lp__law_divisor_1 (d :: ds) [.dat (.int (a : Int)), .dat (.int (b : Int)), x] = R := fun a b d ds x R hb ha hl h => by
    refine loop_cons (ρ1 := [.dat (.int (a : Int)), .dat (.int (b : Int)), .dat d]) rfl (ρ' := [.dat (.int (b : Int)), .dat (.int ((a % b : Nat) : Int)), .un]) ?_ h
    have e : (a : Int) - ((a : Int)).fdiv (b : Int) * (b : Int) = ((a % b : Nat) : Int) := by
      rw [cast_fdiv, ← Int.natCast_mul]
      have := Nat.div_add_mod a b
      rw [Nat.mul_comm] at this
      omega
    have o1 : divOk (b : Int) = true := divOk_n (b := 2000) (by omega) (by rw [Int.natAbs_natCast]; exact hl) (by decide)
    have o2 : mulOk (((a : Int)).fdiv (b : Int)) (b : Int) = true := by
      rw [cast_fdiv]
      exact mulSm (a := 2000) (b := 2000) (by rw [Int.natAbs_natCast]; exact Nat.lt_of_le_of_lt (Nat.div_le_self _ _) ha) (by rw [Int.natAbs_natCast]; exact hl) (by decide)
    unfold lp__law_divisor_1
    apply val_eq
    (iterate 1001 (first | fail))
    · rw [e]
    all_goals first | exact o1 | exact o2 | omega | rfl
  intro k
  induction k with
  | zero =>
    intro a b items x ha hb h0 hl
    match items, hl with
    | d :: ds, _ => exact brk a b d ds x (by omega)
  | succ k ih =>
    intro a b items x ha hb h0 hl
    match items, hl with
    | d :: d2 :: ds, hl =>
      by_cases hz : b = 0
      · exact brk a b d _ x hz
      · have m1 : a % b < b := Nat.mod_lt _ (by omega)
        refine step a b d _ x _ hz ha hb ?_
        have g1 : Nat.gcd a b = Nat.gcd b (a % b) := by rw [Nat.gcd_comm a b, Nat.gcd_rec b a, Nat.gcd_comm]
        rw [g1]
        by_cases hz2 : a % b = 0
        · exact brk b (a % b) d2 ds _ hz2
        · have m2 : b % (a % b) < a % b := Nat.mod_lt _ (by omega)
          refine step b (a % b) d2 ds _ _ hz2 hb (by omega) ?_
          have g2 : Nat.gcd b (a % b) = Nat.gcd (a % b) (b % (a % b)) := by rw [Nat.gcd_comm b (a % b), Nat.gcd_rec (a % b) b, Nat.gcd_comm]
          rw [g2]
          have m3 : b % (a % b) + a % b ≤ b := by
            have h1 := Nat.div_add_mod b (a % b)
            have h2 : 1 ≤ b / (a % b) := (Nat.one_le_div_iff (by omega)).mpr (by omega)
            have h3 : (a % b) * 1 ≤ (a % b) * (b / (a % b)) := Nat.mul_le_mul_left _ h2
            omega
          exact ih _ _ ds _ (by omega) (by omega) (by rw [Nat.pow_succ] at h0; omega) (by rw [List.length_cons, List.length_cons] at hl; omega)
theorem sdiv_at {a b : Int} (ha : a.natAbs < 2 ^ 1990) (hb : b.natAbs < 2 ^ 1990) : m__law_divisor [.int a, .int b] = some (.int ((max 1 (Nat.gcd a.natAbs b.natAbs) : Nat) : Int)) := by
  have h := fun x => sdiv_loop 1990 a.natAbs b.natAbs ((List.range 4000).map fun (k : Nat) => PyData.int (k : Int)) x (lt_pow ha (by decide)) (lt_pow hb (by decide)) hb (by rw [List.length_map, List.length_range]; decide)
  have rg : rng1 [.int 4000] = some ((List.range 4000).map fun (k : Nat) => PyData.int (k : Int)) := rng_int (n := 4000) rfl (by decide)
  generalize ((List.range 4000).map fun (k : Nat) => PyData.int (k : Int)) = its at h rg
  have mx : fMax [.int 1, .int ((Nat.gcd a.natAbs b.natAbs : Nat) : Int)] = some (.int ((max 1 (Nat.gcd a.natAbs b.natAbs) : Nat) : Int)) := by
    show some (PyData.int (if ((Nat.gcd a.natAbs b.natAbs : Nat) : Int) > 1 then _ else _)) = _
    congr 2
    split <;> omega
  (apply run_ok; case hl => exact rfl); (unfold b__law_divisor; simp only [List.map_cons, List.map_nil, List.replicate, List.cons_append, List.nil_append])
  (iterate 1001 (first | (with_reducible apply rg <;> first | omega | skip) | (with_reducible apply h <;> first | omega | skip) | (with_reducible apply mx <;> first | omega | skip)))
  rfl
theorem sfr_at {n d : Int} (hd : d ≠ 0) (hn : n.natAbs < 2 ^ 1990) (hdb : d.natAbs < 2 ^ 1990) : m__law_fr [.int n, .int d] = some (ratD (Rat.divInt n d)) := by
  have hg : 0 < Nat.gcd n.natAbs d.natAbs := Nat.gcd_pos_of_pos_right _ (by omega)
  have hm : (max 1 (Nat.gcd n.natAbs d.natAbs) : Nat) = Nat.gcd n.natAbs d.natAbs := by omega
  have hgd : Nat.gcd n.natAbs d.natAbs ≤ d.natAbs := Nat.le_of_dvd (by omega) (Nat.gcd_dvd_right _ _)
  have o : divOk (((Nat.gcd n.natAbs d.natAbs : Nat) : Int)) = true := divOk_n (b := 1990) (by omega) (by rw [Int.natAbs_natCast]; omega) (by omega)
  by_cases h0 : d < 0
  · have p := rat_pos (-n) (d := d.natAbs) (by omega)
    have ed : ((d.natAbs : Nat) : Int) = -d := by omega
    have c := sdiv_at (a := -n) (b := -d) (by rw [Int.natAbs_neg]; exact hn) (by rw [Int.natAbs_neg]; exact hdb)
    rw [ed, Rat.neg_divInt_neg, Int.natAbs_neg] at p
    rw [Int.natAbs_neg, Int.natAbs_neg, hm] at c
    have e1 : (-n).fdiv (((Nat.gcd n.natAbs d.natAbs : Nat) : Int)) = (Rat.divInt n d).num := by rw [p.1, Int.fdiv_eq_ediv_of_nonneg _ (by omega)]
    have e2 : (-d).fdiv (((Nat.gcd n.natAbs d.natAbs : Nat) : Int)) = ((Rat.divInt n d).den : Int) := by rw [p.2, Int.fdiv_eq_ediv_of_nonneg _ (by omega)]
    (apply run_ok; case hl => exact rfl); (unfold b__law_fr; simp only [List.map_cons, List.map_nil, List.replicate, List.cons_append, List.nil_append])
    (iterate 1001 (first | (with_reducible apply c <;> first | omega | skip)))
    · rw [e1, e2]; rfl
    · exact o
    · exact o
  · have p := rat_pos n (d := d.natAbs) (by omega)
    have ed : ((d.natAbs : Nat) : Int) = d := by omega
    have c := sdiv_at hn hdb
    rw [ed] at p
    rw [hm] at c
    have e1 : n.fdiv (((Nat.gcd n.natAbs d.natAbs : Nat) : Int)) = (Rat.divInt n d).num := by rw [p.1, Int.fdiv_eq_ediv_of_nonneg _ (by omega)]
    have e2 : d.fdiv (((Nat.gcd n.natAbs d.natAbs : Nat) : Int)) = ((Rat.divInt n d).den : Int) := by rw [p.2, Int.fdiv_eq_ediv_of_nonneg _ (by omega)]
    (apply run_ok; case hl => exact rfl); (unfold b__law_fr; simp only [List.map_cons, List.map_nil, List.replicate, List.cons_append, List.nil_append])
    (iterate 1001 (first | (with_reducible apply c <;> first | omega | skip)))
    · rw [e1, e2]; rfl
    · exact o
    · exact o
theorem sadd_at {B : Nat} (hB : B ≤ 990) {p q : Rat} (hp : Sm B p) (hq : Sm B q) : m__law_add [ratD p, ratD q] = some (ratD (p + q)) := by
  have h1 := mul_lt hp.1 hq.den
  have h2 := mul_lt hq.1 hp.den
  have h3 := mul_lt hp.den hq.den
  have f := sfr_at (n := p.num * q.den + q.num * p.den) (d := p.den * q.den) (Int.mul_ne_zero (den_ne p) (den_ne q)) (lt_pow (add_lt h1 h2) (by omega)) (lt_pow h3 (by omega))
  rw [add_eq] at f
  have o1 := mulSm hp.1 hq.den (by omega)
  have o2 := mulSm hq.1 hp.den (by omega)
  have o3 := mulSm hp.den hq.den (by omega)
  (apply run_ok; case hl => exact rfl); (unfold b__law_add; simp only [List.map_cons, List.map_nil, List.replicate, List.cons_append, List.nil_append])
  (iterate 1001 (first | (with_reducible apply rat0 <;> first | omega | skip) | (with_reducible apply rat1 <;> first | omega | skip) | (with_reducible apply f <;> first | omega | skip)))
  all_goals first | exact o1 | exact o2 | exact o3 | rfl
theorem stimes_at {B : Nat} (hB : B ≤ 990) {p q : Rat} (hp : Sm B p) (hq : Sm B q) : m__law_times [ratD p, ratD q] = some (ratD (p * q)) := by
  have h1 := mul_lt hp.1 hq.1
  have h3 := mul_lt hp.den hq.den
  have f := sfr_at (n := p.num * q.num) (d := p.den * q.den) (Int.mul_ne_zero (den_ne p) (den_ne q)) (lt_pow h1 (by omega)) (lt_pow h3 (by omega))
  rw [mul_eq] at f
  have o1 := mulSm hp.1 hq.1 (by omega)
  have o3 := mulSm hp.den hq.den (by omega)
  (apply run_ok; case hl => exact rfl); (unfold b__law_times; simp only [List.map_cons, List.map_nil, List.replicate, List.cons_append, List.nil_append])
  (iterate 1001 (first | (with_reducible apply rat0 <;> first | omega | skip) | (with_reducible apply rat1 <;> first | omega | skip) | (with_reducible apply f <;> first | omega | skip)))
  all_goals first | exact o1 | exact o3 | rfl
theorem sless_at {B : Nat} (hB : B ≤ 990) {p q : Rat} (hp : Sm B p) (hq : Sm B q) : m__law_less [ratD p, ratD q] = some (.bool (decide (p < q))) := by
  have o1 := mulSm hp.1 hq.den (by omega)
  have o2 := mulSm hq.1 hp.den (by omega)
  have e : decide (p.num * (q.den : Int) < q.num * (p.den : Int)) = decide (p < q) := by
    rw [decide_eq_decide]
    exact (Rat.lt_iff _ _).symm
  (apply run_ok; case hl => exact rfl); (unfold b__law_less; simp only [List.map_cons, List.map_nil, List.replicate, List.cons_append, List.nil_append])
  (iterate 1001 (first | (with_reducible apply rat0 <;> first | omega | skip) | (with_reducible apply rat1 <;> first | omega | skip)))
  all_goals first | exact o1 | exact o2 | skip
  rw [e]

/-! isinstance -/
theorem isOb_plain {v : D} (h : plainD v = true) : isOb v = false := by cases v <;> first | rfl | cases h
theorem plain_mem : ∀ {ds : List D}, plainAll ds = true → ∀ d ∈ ds, plainD d = true
  | d :: ds, h, e, he => by
    rw [plainAll, Bool.and_eq_true] at h
    rcases List.mem_cons.mp he with rfl | he
    · exact h.1
    · exact plain_mem h.2 e he
  | [], _, _, he => nomatch he
theorem plain_all : ∀ {ds : List D}, (∀ d ∈ ds, plainD d = true) → plainAll ds = true
  | [], _ => rfl
  | d :: ds, h => by
    rw [plainAll, h d List.mem_cons_self, plain_all fun e he => h e (List.mem_cons_of_mem _ he)]
    rfl
theorem plain_tup {ds : List D} (h : ∀ d ∈ ds, plainD d = true) : plainD (.tuple ds) = true := by
  rw [plainD]
  exact plain_all h
theorem plain_lst {ds : List D} (h : ∀ d ∈ ds, plainD d = true) : plainD (.list ds) = true := by
  rw [plainD]
  exact plain_all h
def isTup : D → Bool
  | .tuple _ => true
  | _ => false
def isWhole : D → Bool
  | .int _ => true
  | _ => false
def isBoo : D → Bool
  | .bool _ => true
  | _ => false
theorem isD_of {T : String} {v : D} {b : Bool} (ho : isOb v = false) (h : kitB (tyName v) T = some b) : isD T v = some (.bool b) := by
  unfold isD
  rw [if_pos ho, h]
  rfl
theorem isD_tup (v : D) (hp : plainD v = true) : isD "tuple" v = some (.bool (isTup v)) := by
  refine isD_of (isOb_plain hp) ?_
  cases v <;> (show kitB _ _ = some _; simp only [tyName, isTup]; decide +kernel)
theorem isD_bool (v : D) (hp : plainD v = true) : isD "bool" v = some (.bool (isBoo v)) := by
  refine isD_of (isOb_plain hp) ?_
  cases v <;> (show kitB _ _ = some _; simp only [tyName, isBoo]; decide +kernel)
theorem isD_int (v : D) (hp : plainD v = true) : isD "int" v = some (.bool (isWhole v || isBoo v)) := by
  refine isD_of (isOb_plain hp) ?_
  cases v <;> (show kitB _ _ = some _; simp only [tyName, isBoo, isWhole]; decide +kernel)
theorem int_of {v : D} (h : isWhole v = true) : ∃ n : Int, v = .int n := by cases v <;> first | exact ⟨_, rfl⟩ | cases h

theorem whole_at (v : D) (hp : plainD v = true) : m_is_whole [v] = some (.bool (isWhole v)) := by
  have t1 := isD_int v hp
  have t2 := isD_bool v hp
  cases h2 : isBoo v with
  | true =>
    have e : isWhole v = false := by cases v <;> first | rfl | cases h2
    rw [h2, e, Bool.false_or] at t1
    rw [h2] at t2
    rw [e]
    (apply run_ok; case hl => exact rfl); (unfold b_is_whole; simp only [List.map_cons, List.map_nil, List.replicate, List.cons_append, List.nil_append])
    (iterate 1001 (first | (with_reducible apply t1 <;> first | omega | skip) | (with_reducible apply t2 <;> first | omega | skip)))
    rfl
  | false =>
    rw [h2, Bool.or_false] at t1
    rw [h2] at t2
    cases h1 : isWhole v with
    | true =>
      rw [h1] at t1
      (apply run_ok; case hl => exact rfl); (unfold b_is_whole; simp only [List.map_cons, List.map_nil, List.replicate, List.cons_append, List.nil_append])
      (iterate 1001 (first | (with_reducible apply t1 <;> first | omega | skip) | (with_reducible apply t2 <;> first | omega | skip)))
      rfl
    | false =>
      rw [h1] at t1
      (apply run_ok; case hl => exact rfl); (unfold b_is_whole; simp only [List.map_cons, List.map_nil, List.replicate, List.cons_append, List.nil_append])
      (iterate 1001 (first | (with_reducible apply t1 <;> first | omega | skip) | (with_reducible apply t2 <;> first | omega | skip)))
      rfl

/-! what a machine is made of, checked -/
theorem ne_I {n m : Int} (h : n ≠ m) : dNe (.int n) (.int m) = some (.bool true) := by
  rw [op_neI]
  simp [h]
theorem ne_self (n : Int) : dNe (.int n) (.int n) = some (.bool false) := by
  rw [op_neI]
  simp
theorem fn_allD {α : Type} (f : α → Bool) (xs : List α) : fAll [.list (xs.map fun x => PyData.bool (f x))] = some (.bool (xs.all f)) := by
  have bm : ∀ ys : List α, boolsD (ys.map fun x => PyData.bool (f x)) = some (ys.map f) := fun ys => by
    induction ys with
    | nil => rfl
    | cons y ys ih => simp only [List.map_cons, boolsD, ih, Option.map_some]
  show (boolsD (xs.map fun x => PyData.bool (f x))).map _ = _
  rw [bm, Option.map_some, List.all_map]
  rfl
def isNum (lo hi : Int) : D → Bool
  | .int n => decide (lo ≤ n ∧ n ≤ hi)
  | _ => false
def numsOk (c : Nat) : D → Bool
  | .tuple ds => decide (ds.length = c) && ds.all (isNum (-20) 20)
  | _ => false
def matOk (h w : Nat) : D → Bool
  | .tuple ds => decide (ds.length = h) && ds.all (numsOk w)
  | _ => false
def ordP : D → Bool
  | .tuple [.int a, .int b] => decide (a ≤ b)
  | _ => false
def pairOk (p : D) : Bool := numsOk 2 p && ordP p
def pairsOk (c : Nat) : D → Bool
  | .tuple ds => decide (ds.length = c) && ds.all pairOk
  | _ => false
def widD : D → D
  | .tuple (.tuple ds :: _) => .int (ds.length : Int)
  | _ => .none
theorem num_no {lo hi : Int} {v : D} (h : isWhole v = false) : isNum lo hi v = false := by cases v <;> first | rfl | cases h
theorem is_number_at (lo hi : Int) (v : D) (hp : plainD v = true) : m_is_number [v, .int lo, .int hi] = some (.bool (isNum lo hi v)) := by
  have w := whole_at v hp
  cases hw : isWhole v with
  | false =>
    rw [hw] at w
    rw [num_no hw]
    (apply run_ok; case hl => exact rfl); (unfold b_is_number; simp only [List.map_cons, List.map_nil, List.replicate, List.cons_append, List.nil_append])
    (iterate 1001 (first | (with_reducible apply w <;> first | omega | skip)))
    all_goals rfl
  | true =>
    rw [hw] at w
    obtain ⟨n, rfl⟩ := int_of hw
    by_cases h1 : lo ≤ n
    · by_cases h2 : n ≤ hi
      · rw [show isNum lo hi (.int n) = true from decide_eq_true ⟨h1, h2⟩]
        (apply run_ok; case hl => exact rfl); (unfold b_is_number; simp only [List.map_cons, List.map_nil, List.replicate, List.cons_append, List.nil_append])
        (iterate 1001 (first | (with_reducible apply w <;> first | omega | skip)))
        exact congrArg PyData.bool (decide_eq_true h2)
      · rw [show isNum lo hi (.int n) = false from decide_eq_false fun h => h2 h.2]
        (apply run_ok; case hl => exact rfl); (unfold b_is_number; simp only [List.map_cons, List.map_nil, List.replicate, List.cons_append, List.nil_append])
        (iterate 1001 (first | (with_reducible apply w <;> first | omega | skip)))
        exact congrArg PyData.bool (decide_eq_false h2)
    · rw [show isNum lo hi (.int n) = false from decide_eq_false fun h => h1 h.1]
      (apply run_ok; case hl => exact rfl); (unfold b_is_number; simp only [List.map_cons, List.map_nil, List.replicate, List.cons_append, List.nil_append])
      (iterate 1001 (first | (with_reducible apply w <;> first | omega | skip)))
      all_goals rfl
theorem are_numbers_at (c : Nat) (v : D) (hp : plainD v = true) (hl : ∀ ds, v = .tuple ds → ds.length ≤ 1000) : m_are_numbers [v, .int (c : Int)] = some (.bool (numsOk c v)) := by
  have t := isD_tup v hp
  cases hv : isTup v with
  | false =>
    rw [hv] at t
    rw [show numsOk c v = false by cases v <;> first | rfl | cases hv]
    (apply run_ok; case hl => exact rfl); (unfold b_are_numbers; simp only [List.map_cons, List.map_nil, List.replicate, List.cons_append, List.nil_append])
    (iterate 1001 (first | (with_reducible apply t <;> first | omega | skip)))
    all_goals rfl
  | true =>
    cases v <;> first | cases hv | skip
    rename_i ds
    have t' : isD "tuple" (.tuple ds) = some (.bool true) := t
    have bl := hl ds rfl
    have pm := plain_mem (show plainAll ds = true by rw [plainD] at hp; exact hp)
    have ln : fLen [.tuple ds] = some (.int (ds.length : Int)) := rfl
    by_cases e : ds.length = c
    · have n1 := ne_self (c : Int)
      rw [e] at ln
      have cm : ∀ x y, mLc (mSeqOf (mVar 0)) (gSet 2) mYes el_are_numbers_1 [2] [.dat (.tuple ds), x, y] = some (ds.map fun d => PyData.bool (isNum (-20) 20 d)) := fun x y => by
        have src : mSeqOf (mVar 0) [.dat (.tuple ds), x, y] = some (ds.map id) := by rw [List.map_id]; rfl
        refine comp_at id _ ds src (by omega) fun d hd => ?_
        show CompEl _ _ _ _ d _
        have nu := is_number_at (-20) 20 d (pm d hd)
        apply comp_el
        (iterate 1001 (first | (with_reducible apply un_el_are_numbers_1 <;> first | omega | skip) | (with_reducible apply nu <;> first | omega | skip)))
        all_goals rfl
      rw [show numsOk c (.tuple ds) = ds.all (isNum (-20) 20) by show (decide (ds.length = c) && ds.all (isNum (-20) 20)) = _; rw [decide_eq_true e, Bool.true_and]]
      (apply run_ok; case hl => exact rfl); (unfold b_are_numbers; simp only [List.map_cons, List.map_nil, List.replicate, List.cons_append, List.nil_append])
      (iterate 1001 (first | (with_reducible apply t' <;> first | omega | skip) | (with_reducible apply ln <;> first | omega | skip) | (with_reducible apply n1 <;> first | omega | skip) | (with_reducible apply cm <;> first | omega | skip) | (with_reducible apply fn_allD <;> first | omega | skip)))
      all_goals rfl
    · have n1 := ne_I (n := (ds.length : Int)) (m := (c : Int)) (by omega)
      rw [show numsOk c (.tuple ds) = false by show (decide (ds.length = c) && ds.all (isNum (-20) 20)) = _; rw [decide_eq_false e, Bool.false_and]]
      (apply run_ok; case hl => exact rfl); (unfold b_are_numbers; simp only [List.map_cons, List.map_nil, List.replicate, List.cons_append, List.nil_append])
      (iterate 1001 (first | (with_reducible apply t' <;> first | omega | skip) | (with_reducible apply ln <;> first | omega | skip) | (with_reducible apply n1 <;> first | omega | skip)))
      all_goals rfl
/-- no tuple in it is long -/
def shortT (v : D) : Prop := ∀ ds, v = .tuple ds → ds.length ≤ 1000 ∧ ∀ d ∈ ds, ∀ es, d = .tuple es → es.length ≤ 1000
theorem width_at (v : D) (hp : plainD v = true) (hs : shortT v) : m_width_of [v] = some (widD v) := by
  have t := isD_tup v hp
  cases hv : isTup v with
  | false =>
    rw [hv] at t
    rw [show widD v = .none by cases v <;> first | rfl | cases hv]
    (apply run_ok; case hl => exact rfl); (unfold b_width_of; simp only [List.map_cons, List.map_nil, List.replicate, List.cons_append, List.nil_append])
    (iterate 1001 (first | (with_reducible apply t <;> first | omega | skip)))
    all_goals rfl
  | true =>
    cases v <;> first | cases hv | skip
    rename_i ds
    have t' : isD "tuple" (.tuple ds) = some (.bool true) := t
    have pm := plain_mem (show plainAll ds = true by rw [plainD] at hp; exact hp)
    cases ds with
    | nil =>
      have ln : fLen [.tuple []] = some (.int 0) := rfl
      have z : dEq (.int 0) (.int 0) = some (.bool true) := rfl
      (apply run_ok; case hl => exact rfl); (unfold b_width_of; simp only [List.map_cons, List.map_nil, List.replicate, List.cons_append, List.nil_append])
      (iterate 1001 (first | (with_reducible apply t' <;> first | omega | skip) | (with_reducible apply ln <;> first | omega | skip) | (with_reducible apply z <;> first | omega | skip)))
      all_goals rfl
    | cons d ds =>
      have ln : fLen [.tuple (d :: ds)] = some (.int ((ds.length + 1 : Nat) : Int)) := rfl
      have z : dEq (.int ((ds.length + 1 : Nat) : Int)) (.int 0) = some (.bool false) := by
        rw [op_eqI]
        exact congrArg (fun b => some (PyData.bool b)) (beq_eq_false_iff_ne.mpr (by omega))
      have g : dIx (.tuple (d :: ds)) (.int 0) = some d := op_ixT at_0
      have td := isD_tup d (pm d List.mem_cons_self)
      cases hd : isTup d with
      | false =>
        rw [hd] at td
        rw [show widD (.tuple (d :: ds)) = .none by cases d <;> first | rfl | cases hd]
        (apply run_ok; case hl => exact rfl); (unfold b_width_of; simp only [List.map_cons, List.map_nil, List.replicate, List.cons_append, List.nil_append])
        (iterate 1001 (first | (with_reducible apply t' <;> first | omega | skip) | (with_reducible apply ln <;> first | omega | skip) | (with_reducible apply z <;> first | omega | skip) | (with_reducible apply g <;> first | omega | skip) | (with_reducible apply td <;> first | omega | skip)))
        all_goals rfl
      | true =>
        cases d <;> first | cases hd | skip
        rename_i es
        have td' : isD "tuple" (.tuple es) = some (.bool true) := td
        have l2 : fLen [.tuple es] = some (.int (es.length : Int)) := rfl
        (apply run_ok; case hl => exact rfl); (unfold b_width_of; simp only [List.map_cons, List.map_nil, List.replicate, List.cons_append, List.nil_append])
        (iterate 1001 (first | (with_reducible apply t' <;> first | omega | skip) | (with_reducible apply ln <;> first | omega | skip) | (with_reducible apply z <;> first | omega | skip) | (with_reducible apply g <;> first | omega | skip) | (with_reducible apply td' <;> first | omega | skip) | (with_reducible apply l2 <;> first | omega | skip)))
        all_goals rfl
theorem is_matrix_at (h w : Nat) (v : D) (hp : plainD v = true) (hs : shortT v) : m_is_matrix [v, .int (h : Int), .int (w : Int)] = some (.bool (matOk h w v)) := by
  have t := isD_tup v hp
  cases hv : isTup v with
  | false =>
    rw [hv] at t
    rw [show matOk h w v = false by cases v <;> first | rfl | cases hv]
    (apply run_ok; case hl => exact rfl); (unfold b_is_matrix; simp only [List.map_cons, List.map_nil, List.replicate, List.cons_append, List.nil_append])
    (iterate 1001 (first | (with_reducible apply t <;> first | omega | skip)))
    all_goals rfl
  | true =>
    cases v <;> first | cases hv | skip
    rename_i ds
    have t' : isD "tuple" (.tuple ds) = some (.bool true) := t
    obtain ⟨bl, bs⟩ := hs ds rfl
    have pm := plain_mem (show plainAll ds = true by rw [plainD] at hp; exact hp)
    have ln : fLen [.tuple ds] = some (.int (ds.length : Int)) := rfl
    by_cases e : ds.length = h
    · have n1 := ne_self (h : Int)
      rw [e] at ln
      have cm : ∀ x y, mLc (mSeqOf (mVar 0)) (gSet 3) mYes el_is_matrix_1 [3] [.dat (.tuple ds), x, .dat (.int (w : Int)), y] = some (ds.map fun d => PyData.bool (numsOk w d)) := fun x y => by
        have src : mSeqOf (mVar 0) [.dat (.tuple ds), x, .dat (.int (w : Int)), y] = some (ds.map id) := by rw [List.map_id]; rfl
        refine comp_at id _ ds src (by omega) fun d hd => ?_
        show CompEl _ _ _ _ d _
        have nu := are_numbers_at w d (pm d hd) (bs d hd)
        apply comp_el
        (iterate 1001 (first | (with_reducible apply un_el_is_matrix_1 <;> first | omega | skip) | (with_reducible apply nu <;> first | omega | skip)))
        all_goals rfl
      rw [show matOk h w (.tuple ds) = ds.all (numsOk w) by show (decide (ds.length = h) && ds.all (numsOk w)) = _; rw [decide_eq_true e, Bool.true_and]]
      (apply run_ok; case hl => exact rfl); (unfold b_is_matrix; simp only [List.map_cons, List.map_nil, List.replicate, List.cons_append, List.nil_append])
      (iterate 1001 (first | (with_reducible apply t' <;> first | omega | skip) | (with_reducible apply ln <;> first | omega | skip) | (with_reducible apply n1 <;> first | omega | skip) | (with_reducible apply cm <;> first | omega | skip) | (with_reducible apply fn_allD <;> first | omega | skip)))
      all_goals rfl
    · have n1 := ne_I (n := (ds.length : Int)) (m := (h : Int)) (by omega)
      rw [show matOk h w (.tuple ds) = false by show (decide (ds.length = h) && ds.all (numsOk w)) = _; rw [decide_eq_false e, Bool.false_and]]
      (apply run_ok; case hl => exact rfl); (unfold b_is_matrix; simp only [List.map_cons, List.map_nil, List.replicate, List.cons_append, List.nil_append])
      (iterate 1001 (first | (with_reducible apply t' <;> first | omega | skip) | (with_reducible apply ln <;> first | omega | skip) | (with_reducible apply n1 <;> first | omega | skip)))
      all_goals rfl
theorem two_ints {p : D} (h : numsOk 2 p = true) : ∃ a b : Int, p = .tuple [.int a, .int b] := by
  cases p <;> first | cases h | skip
  rename_i ds
  change (decide (ds.length = 2) && ds.all (isNum (-20) 20)) = true at h
  rw [Bool.and_eq_true] at h
  have l := of_decide_eq_true h.1
  match ds, l, h.2 with
  | [x, y], _, h2 =>
    have hx := List.all_eq_true.mp h2 x (by simp)
    have hy := List.all_eq_true.mp h2 y (by simp)
    cases x <;> first | cases hx | skip
    cases y <;> first | cases hy | skip
    exact ⟨_, _, rfl⟩
theorem at2_1 {x y : D} : atI [x, y] 1 = some y := rfl
theorem are_pairs_at (c : Nat) (v : D) (hp : plainD v = true) (hs : shortT v) : m_are_pairs [v, .int (c : Int)] = some (.bool (pairsOk c v)) := by
  have t := isD_tup v hp
  cases hv : isTup v with
  | false =>
    rw [hv] at t
    rw [show pairsOk c v = false by cases v <;> first | rfl | cases hv]
    (apply run_ok; case hl => exact rfl); (unfold b_are_pairs; simp only [List.map_cons, List.map_nil, List.replicate, List.cons_append, List.nil_append])
    (iterate 1001 (first | (with_reducible apply t <;> first | omega | skip)))
    all_goals rfl
  | true =>
    cases v <;> first | cases hv | skip
    rename_i ds
    have t' : isD "tuple" (.tuple ds) = some (.bool true) := t
    obtain ⟨bl, bs⟩ := hs ds rfl
    have pm := plain_mem (show plainAll ds = true by rw [plainD] at hp; exact hp)
    have ln : fLen [.tuple ds] = some (.int (ds.length : Int)) := rfl
    by_cases e : ds.length = c
    · have n1 := ne_self (c : Int)
      rw [e] at ln
      have cm : ∀ x y, mLc (mSeqOf (mVar 0)) (gSet 2) mYes el_are_pairs_1 [2] [.dat (.tuple ds), x, y] = some (ds.map fun d => PyData.bool (pairOk d)) := fun x y => by
        have src : mSeqOf (mVar 0) [.dat (.tuple ds), x, y] = some (ds.map id) := by rw [List.map_id]; rfl
        refine comp_at id _ ds src (by omega) fun d hd => ?_
        show CompEl _ _ _ _ d _
        have nu := are_numbers_at 2 d (pm d hd) (bs d hd)
        have nu' : m_are_numbers [d, .int 2] = some (.bool (numsOk 2 d)) := nu
        unfold pairOk
        cases h2 : numsOk 2 d with
        | false =>
          rw [h2] at nu'
          apply comp_el
          (iterate 1001 (first | (with_reducible apply un_el_are_pairs_1 <;> first | omega | skip) | (with_reducible apply nu' <;> first | omega | skip)))
          all_goals rfl
        | true =>
          rw [h2] at nu'
          obtain ⟨a, b, rfl⟩ := two_ints h2
          apply comp_el
          (iterate 1001 (first | (with_reducible apply un_el_are_pairs_1 <;> first | omega | skip) | (with_reducible apply nu' <;> first | omega | skip) | (with_reducible apply at2_1 <;> first | omega | skip)))
          all_goals rfl
      rw [show pairsOk c (.tuple ds) = ds.all pairOk by show (decide (ds.length = c) && ds.all pairOk) = _; rw [decide_eq_true e, Bool.true_and]]
      (apply run_ok; case hl => exact rfl); (unfold b_are_pairs; simp only [List.map_cons, List.map_nil, List.replicate, List.cons_append, List.nil_append])
      (iterate 1001 (first | (with_reducible apply t' <;> first | omega | skip) | (with_reducible apply ln <;> first | omega | skip) | (with_reducible apply n1 <;> first | omega | skip) | (with_reducible apply cm <;> first | omega | skip) | (with_reducible apply fn_allD <;> first | omega | skip)))
      all_goals rfl
    · have n1 := ne_I (n := (ds.length : Int)) (m := (c : Int)) (by omega)
      rw [show pairsOk c (.tuple ds) = false by show (decide (ds.length = c) && ds.all pairOk) = _; rw [decide_eq_false e, Bool.false_and]]
      (apply run_ok; case hl => exact rfl); (unfold b_are_pairs; simp only [List.map_cons, List.map_nil, List.replicate, List.cons_append, List.nil_append])
      (iterate 1001 (first | (with_reducible apply t' <;> first | omega | skip) | (with_reducible apply ln <;> first | omega | skip) | (with_reducible apply n1 <;> first | omega | skip)))
      all_goals rfl

/-! machines as data -/
def mNames : List Str := [Str.ofString "matrix_a", Str.ofString "matrix_b", Str.ofString "matrix_e", Str.ofString "divisor", Str.ofString "input_limits", Str.ofString "disturbance_limits", Str.ofString "states", Str.ofString "inputs", Str.ofString "disturbances"]
def mkM (a b e dv il dl n m p : D) : D := obD (Str.ofString "Machine") mNames [a, b, e, dv, il, dl, n, m, p]
def mFs (a b e dv il dl n m p : D) : List (Str × Fd) := [(Str.ofString "matrix_a", .dat a), (Str.ofString "matrix_b", .dat b), (Str.ofString "matrix_e", .dat e), (Str.ofString "divisor", .dat dv), (Str.ofString "input_limits", .dat il), (Str.ofString "disturbance_limits", .dat dl), (Str.ofString "states", .dat n), (Str.ofString "inputs", .dat m), (Str.ofString "disturbances", .dat p)]
theorem mFs_all (a b e dv il dl n m p : D) : allDat (mFs a b e dv il dl n m p) = some [a, b, e, dv, il, dl, n, m, p] := rfl
theorem mFs_ob (a b e dv il dl n m p : D) : obD (Str.ofString "Machine") ((mFs a b e dv il dl n m p).map (·.1)) [a, b, e, dv, il, dl, n, m, p] = mkM a b e dv il dl n m p := rfl
section
variable {a b e dv il dl n m p : D}
theorem mk_a : dFld (Str.ofString "Machine") (Str.ofString "matrix_a") (mkM a b e dv il dl n m p) = some a := dFld_ob fldIn_hd
theorem mk_b : dFld (Str.ofString "Machine") (Str.ofString "matrix_b") (mkM a b e dv il dl n m p) = some b := dFld_ob (fldIn_tl (by decide +kernel) fldIn_hd)
theorem mk_e : dFld (Str.ofString "Machine") (Str.ofString "matrix_e") (mkM a b e dv il dl n m p) = some e := dFld_ob (fldIn_tl (by decide +kernel) (fldIn_tl (by decide +kernel) fldIn_hd))
theorem mk_dv : dFld (Str.ofString "Machine") (Str.ofString "divisor") (mkM a b e dv il dl n m p) = some dv := dFld_ob (fldIn_tl (by decide +kernel) (fldIn_tl (by decide +kernel) (fldIn_tl (by decide +kernel) fldIn_hd)))
theorem mk_il : dFld (Str.ofString "Machine") (Str.ofString "input_limits") (mkM a b e dv il dl n m p) = some il := dFld_ob (fldIn_tl (by decide +kernel) (fldIn_tl (by decide +kernel) (fldIn_tl (by decide +kernel) (fldIn_tl (by decide +kernel) fldIn_hd))))
theorem mk_dl : dFld (Str.ofString "Machine") (Str.ofString "disturbance_limits") (mkM a b e dv il dl n m p) = some dl := dFld_ob (fldIn_tl (by decide +kernel) (fldIn_tl (by decide +kernel) (fldIn_tl (by decide +kernel) (fldIn_tl (by decide +kernel) (fldIn_tl (by decide +kernel) fldIn_hd)))))
theorem mk_n : dFld (Str.ofString "Machine") (Str.ofString "states") (mkM a b e dv il dl n m p) = some n := dFld_ob (fldIn_tl (by decide +kernel) (fldIn_tl (by decide +kernel) (fldIn_tl (by decide +kernel) (fldIn_tl (by decide +kernel) (fldIn_tl (by decide +kernel) (fldIn_tl (by decide +kernel) fldIn_hd))))))
theorem mk_m : dFld (Str.ofString "Machine") (Str.ofString "inputs") (mkM a b e dv il dl n m p) = some m := dFld_ob (fldIn_tl (by decide +kernel) (fldIn_tl (by decide +kernel) (fldIn_tl (by decide +kernel) (fldIn_tl (by decide +kernel) (fldIn_tl (by decide +kernel) (fldIn_tl (by decide +kernel) (fldIn_tl (by decide +kernel) fldIn_hd)))))))
theorem mk_p : dFld (Str.ofString "Machine") (Str.ofString "disturbances") (mkM a b e dv il dl n m p) = some p := dFld_ob (fldIn_tl (by decide +kernel) (fldIn_tl (by decide +kernel) (fldIn_tl (by decide +kernel) (fldIn_tl (by decide +kernel) (fldIn_tl (by decide +kernel) (fldIn_tl (by decide +kernel) (fldIn_tl (by decide +kernel) (fldIn_tl (by decide +kernel) fldIn_hd))))))))
theorem noFld_of {mm : Str} : ∀ {ns : List Str}, newName mm ns = true → noFld mm (ns.map .str) = true
  | [], _ => rfl
  | g :: r, h => by
    change (neS g mm && newName mm r) = true at h
    rw [Bool.and_eq_true] at h
    show (if g = mm then false else noFld mm (r.map .str)) = true
    rw [if_neg (neS_ne h.1)]
    exact noFld_of h.2
theorem mk_is {mm : Str} (h : newName mm mNames = true) : obIs (Str.ofString "Machine") mm (mkM a b e dv il dl n m p) = true := by
  show (decide (Str.ofString "Machine" = Str.ofString "Machine") && noFld mm (mNames.map .str)) = true
  rw [decide_eq_true rfl, noFld_of h]
  rfl
end
theorem init_ok {a b e dv il dl : D} {n m p : Nat} (pa : plainD a = true) (pb : plainD b = true) (pe : plainD e = true) (pd : plainD dv = true) (pi : plainD il = true) (pl : plainD dl = true) (sa : shortT a) (sb : shortT b) (se : shortT e) (si : shortT il) (sl : shortT dl)
    (wa : widD a = .int (n : Int)) (wb : widD b = .int (m : Int)) (we : widD e = .int (p : Int)) (hn : 1 ≤ n ∧ n ≤ 3) (hm : m ≤ 2) (hp : p ≤ 2) (ma : matOk n n a = true) (mb : matOk n m b = true) (me : matOk n p e = true) (hd : isNum 1 100 dv = true) (hi : pairsOk m il = true) (hl : pairsOk p dl = true) :
    m_Machine_init [a, b, e, dv, il, dl] = some (.ok (mFs a b e dv il dl (.int (n : Int)) (.int (m : Int)) (.int (p : Int)))) := by
  have w1 := width_at a pa sa
  have w2 := width_at b pb sb
  have w3 := width_at e pe se
  rw [wa] at w1
  rw [wb] at w2
  rw [we] at w3
  have n1 := is_number_at 1 3 (.int (n : Int)) rfl
  rw [show isNum 1 3 (.int (n : Int)) = true from decide_eq_true (by omega)] at n1
  have n2 := is_number_at 0 2 (.int (m : Int)) rfl
  rw [show isNum 0 2 (.int (m : Int)) = true from decide_eq_true (by omega)] at n2
  have n3 := is_number_at 0 2 (.int (p : Int)) rfl
  rw [show isNum 0 2 (.int (p : Int)) = true from decide_eq_true (by omega)] at n3
  have x1 := is_matrix_at n n a pa sa
  have x2 := is_matrix_at n m b pb sb
  have x3 := is_matrix_at n p e pe se
  rw [ma] at x1
  rw [mb] at x2
  rw [me] at x3
  have d1 := is_number_at 1 100 dv pd
  rw [hd] at d1
  have p1 := are_pairs_at m il pi si
  have p2 := are_pairs_at p dl pl sl
  rw [hi] at p1
  rw [hl] at p2
  refine runI_go rfl fun q => ⟨[.ob (Str.ofString "Machine", some q) (mFs a b e dv il dl (.int (n : Int)) (.int (m : Int)) (.int (p : Int))), .un, .un, .un, .un, .un, .un], ?_, rfl⟩
  unfold startCells b_Machine_init
  simp only [List.map_cons, List.map_nil, List.replicate, List.cons_append, List.nil_append]
  apply val_eq
  (iterate 1001 (first | (with_reducible apply w1 <;> first | omega | skip) | (with_reducible apply w2 <;> first | omega | skip) | (with_reducible apply w3 <;> first | omega | skip) | (with_reducible apply n1 <;> first | omega | skip) | (with_reducible apply n2 <;> first | omega | skip) | (with_reducible apply n3 <;> first | omega | skip) | (with_reducible apply x1 <;> first | omega | skip) | (with_reducible apply x2 <;> first | omega | skip) | (with_reducible apply x3 <;> first | omega | skip) | (with_reducible apply d1 <;> first | omega | skip) | (with_reducible apply p1 <;> first | omega | skip) | (with_reducible apply p2 <;> first | omega | skip)))
  all_goals first | rfl | skip

/-! corners of limits -/
def pairI (p : Int × Int) : D := .tuple [.int p.1, .int p.2]
def boxD (box : List (Int × Int)) : D := .tuple (box.map pairI)
def goC (p : Int × Int) (c : List Int) : List (List Int) := if p.1 = p.2 then [c ++ [p.1]] else [c ++ [p.1], c ++ [p.2]]
def stepC (cs : List (List Int)) (p : Int × Int) : List (List Int) := cs.flatMap (goC p)
def cornersL (box : List (Int × Int)) : List (List Int) := box.foldl stepC [[]]
/-! a machine's parts as data -/
/-- the pairs within -20 .. 20 -/
def BoxOk (p : Int × Int) : Prop := -20 ≤ p.1 ∧ p.1 ≤ p.2 ∧ p.2 ≤ 20
def rowI (r : List Int) : D := .tuple (r.map PyData.int)
def matD (M : List (List Int)) : D := .tuple (M.map rowI)
def MatOk (h w : Nat) (M : List (List Int)) : Prop := M.length = h ∧ ∀ r ∈ M, r.length = w ∧ ∀ x ∈ r, -20 ≤ x ∧ x ≤ 20
structure Mach where
  n : Nat
  m : Nat
  p : Nat
  a : List (List Int)
  b : List (List Int)
  e : List (List Int)
  dv : Int
  il : List (Int × Int)
  dl : List (Int × Int)
structure MOk (M : Mach) : Prop where
  hn : 1 ≤ M.n ∧ M.n ≤ 3
  hm : M.m ≤ 2
  hp : M.p ≤ 2
  ha : MatOk M.n M.n M.a
  hb : MatOk M.n M.m M.b
  he : MatOk M.n M.p M.e
  hd : 1 ≤ M.dv ∧ M.dv ≤ 100
  hi : M.il.length = M.m ∧ ∀ q ∈ M.il, BoxOk q
  hl : M.dl.length = M.p ∧ ∀ q ∈ M.dl, BoxOk q
def machD (M : Mach) : D := mkM (matD M.a) (matD M.b) (matD M.e) (.int M.dv) (boxD M.il) (boxD M.dl) (.int (M.n : Int)) (.int (M.m : Int)) (.int (M.p : Int))
def partsD (M : Mach) : D := .tuple [matD M.a, matD M.b, matD M.e, .int M.dv, boxD M.il, boxD M.dl]
theorem row_all {w : Nat} {r : List Int} (h : r.length = w ∧ ∀ x ∈ r, -20 ≤ x ∧ x ≤ 20) : numsOk w (rowI r) = true := by
  show (decide ((r.map PyData.int).length = w) && (r.map PyData.int).all (isNum (-20) 20)) = true
  rw [List.length_map, decide_eq_true h.1, Bool.true_and, List.all_map]
  refine List.all_eq_true.mpr fun x hx => ?_
  exact decide_eq_true (by have := h.2 x hx; omega)
theorem mat_all {h w : Nat} {M : List (List Int)} (o : MatOk h w M) : matOk h w (matD M) = true := by
  show (decide ((M.map rowI).length = h) && (M.map rowI).all (numsOk w)) = true
  rw [List.length_map, decide_eq_true o.1, Bool.true_and, List.all_map]
  exact List.all_eq_true.mpr fun r hr => row_all (o.2 r hr)
theorem mat_plain (M : List (List Int)) : plainD (matD M) = true := plain_tup fun d hd => by
  obtain ⟨r, _, rfl⟩ := List.mem_map.mp hd
  exact plain_tup fun e he => by
    obtain ⟨x, _, rfl⟩ := List.mem_map.mp he
    rfl
theorem mat_short {h w : Nat} {M : List (List Int)} (o : MatOk h w M) (h1 : h ≤ 1000) (h2 : w ≤ 1000) : shortT (matD M) := fun ds e => by
  cases e
  rw [List.length_map]
  refine ⟨by rw [o.1]; exact h1, fun d hd es e => ?_⟩
  obtain ⟨r, hr, rfl⟩ := List.mem_map.mp hd
  cases e
  rw [List.length_map, (o.2 r hr).1]
  exact h2
theorem mat_wid {h w : Nat} {M : List (List Int)} (o : MatOk h w M) (h1 : 1 ≤ h) : widD (matD M) = .int (w : Int) := by
  obtain ⟨o1, o2⟩ := o
  match M, o1, o2 with
  | [], o1, _ => simp at o1; omega
  | r :: M, _, o2 =>
    show PyData.int (((r.map PyData.int).length : Nat) : Int) = _
    rw [List.length_map, (o2 r List.mem_cons_self).1]
theorem box_all {c : Nat} {l : List (Int × Int)} (h : l.length = c ∧ ∀ q ∈ l, BoxOk q) : pairsOk c (boxD l) = true := by
  show (decide ((l.map pairI).length = c) && (l.map pairI).all pairOk) = true
  rw [List.length_map, decide_eq_true h.1, Bool.true_and, List.all_map]
  refine List.all_eq_true.mpr fun q hq => ?_
  obtain ⟨b1, b2, b3⟩ := h.2 q hq
  show (((decide ((2 : Nat) = 2)) && (decide (-20 ≤ q.1 ∧ q.1 ≤ 20) && (decide (-20 ≤ q.2 ∧ q.2 ≤ 20) && true))) && decide (q.1 ≤ q.2)) = true
  rw [decide_eq_true (show -20 ≤ q.1 ∧ q.1 ≤ 20 by omega), decide_eq_true (show -20 ≤ q.2 ∧ q.2 ≤ 20 by omega), decide_eq_true b2]
  rfl
theorem box_plain (l : List (Int × Int)) : plainD (boxD l) = true := plain_tup fun d hd => by
  obtain ⟨r, _, rfl⟩ := List.mem_map.mp hd
  rfl
theorem box_short {l : List (Int × Int)} (h : l.length ≤ 1000) : shortT (boxD l) := fun ds e => by
  cases e
  rw [List.length_map]
  refine ⟨h, fun d hd es e => ?_⟩
  obtain ⟨r, hr, rfl⟩ := List.mem_map.mp hd
  cases e
  show 2 ≤ 1000
  decide
theorem init_at {M : Mach} (o : MOk M) : m_Machine_init [matD M.a, matD M.b, matD M.e, .int M.dv, boxD M.il, boxD M.dl] = some (.ok (mFs (matD M.a) (matD M.b) (matD M.e) (.int M.dv) (boxD M.il) (boxD M.dl) (.int (M.n : Int)) (.int (M.m : Int)) (.int (M.p : Int)))) := by
  have hn := o.hn
  have hm := o.hm
  have hp := o.hp
  exact init_ok (mat_plain _) (mat_plain _) (mat_plain _) rfl (box_plain _) (box_plain _) (mat_short o.ha (by omega) (by omega)) (mat_short o.hb (by omega) (by omega)) (mat_short o.he (by omega) (by omega)) (box_short (by have := o.hi.1; omega)) (box_short (by have := o.hl.1; omega))
    (mat_wid o.ha hn.1) (mat_wid o.hb hn.1) (mat_wid o.he hn.1) hn hm hp (mat_all o.ha) (mat_all o.hb) (mat_all o.he) (decide_eq_true o.hd) (box_all o.hi) (box_all o.hl)

def pKeys : List Str := [Str.ofString "a", Str.ofString "b", Str.ofString "e", Str.ofString "divisor", Str.ofString "inputs", Str.ofString "pushes"]
def pD (M : Mach) : D := dicD pKeys [matD M.a, matD M.b, matD M.e, .int M.dv, boxD M.il, boxD M.dl]
section
variable {M : Mach}
theorem pk_a : dKey (Str.ofString "a") (pD M) = some (matD M.a) := dKey_ok fldIn_hd
theorem pk_b : dKey (Str.ofString "b") (pD M) = some (matD M.b) := dKey_ok (fldIn_tl (by decide +kernel) fldIn_hd)
theorem pk_e : dKey (Str.ofString "e") (pD M) = some (matD M.e) := dKey_ok (fldIn_tl (by decide +kernel) (fldIn_tl (by decide +kernel) fldIn_hd))
theorem pk_d : dKey (Str.ofString "divisor") (pD M) = some (.int M.dv) := dKey_ok (fldIn_tl (by decide +kernel) (fldIn_tl (by decide +kernel) (fldIn_tl (by decide +kernel) fldIn_hd)))
theorem pk_i : dKey (Str.ofString "inputs") (pD M) = some (boxD M.il) := dKey_ok (fldIn_tl (by decide +kernel) (fldIn_tl (by decide +kernel) (fldIn_tl (by decide +kernel) (fldIn_tl (by decide +kernel) fldIn_hd))))
theorem pk_p : dKey (Str.ofString "pushes") (pD M) = some (boxD M.dl) := dKey_ok (fldIn_tl (by decide +kernel) (fldIn_tl (by decide +kernel) (fldIn_tl (by decide +kernel) (fldIn_tl (by decide +kernel) (fldIn_tl (by decide +kernel) fldIn_hd)))))
end
theorem smade_at {M : Mach} (o : MOk M) : m__law_machine [pD M] = some (machD M) := by
  have i := init_at o
  have mk : mMake (Str.ofString "Machine") m_Machine_init [] (mCons (m1 (dKey (Str.ofString "a")) (mVar 0)) (mCons (m1 (dKey (Str.ofString "b")) (mVar 0)) (mCons (m1 (dKey (Str.ofString "e")) (mVar 0)) (mCons (m1 (dKey (Str.ofString "divisor")) (mVar 0)) (mCons (m1 (dKey (Str.ofString "inputs")) (mVar 0)) (mCons (m1 (dKey (Str.ofString "pushes")) (mVar 0)) mNil)))))) [.dat (pD M)] = some (machD M) := by
    refine ex_make (ds := [matD M.a, matD M.b, matD M.e, .int M.dv, boxD M.il, boxD M.dl]) ?_ i (mFs_all ..) (mFs_ob ..)
    (iterate 1001 (first | (with_reducible apply pk_a <;> first | omega | skip) | (with_reducible apply pk_b <;> first | omega | skip) | (with_reducible apply pk_e <;> first | omega | skip) | (with_reducible apply pk_d <;> first | omega | skip) | (with_reducible apply pk_i <;> first | omega | skip) | (with_reducible apply pk_p <;> first | omega | skip)))
  (apply run_ok; case hl => exact rfl); (unfold b__law_machine; simp only [List.map_cons, List.map_nil, List.replicate, List.cons_append, List.nil_append])
  (iterate 1001 (first | (with_reducible apply mk <;> first | omega | skip)))
  rfl

theorem depth_ints : ∀ ns : List Int, PyData.depthAll (ns.map PyData.int) = 0
  | [] => rfl
  | n :: ns => by
    have i := depth_ints ns
    rw [List.map_cons, PyData.depthAll, i]
    rfl
theorem bulk_ints : ∀ ns : List Int, PyData.bulkAll (ns.map PyData.int) = ns.length
  | [] => rfl
  | n :: ns => by
    have i := bulk_ints ns
    have e : (PyData.int n).bulk = 0 := rfl
    rw [List.map_cons, PyData.bulkAll, i, List.length_cons, e]
    omega
theorem ok_ints {B : Nat} {ns : List Int} (h : ∀ n ∈ ns, n.natAbs < 2 ^ B) (e : B ≤ 1900) : ∀ d ∈ ns.map PyData.int, okD d := fun d hd => by
  obtain ⟨n, hn, e2⟩ := List.mem_map.mp hd
  rw [← e2]
  exact okD_int (lt_pow (h n hn) e)
theorem depth_map {α : Type} (f : α → D) (n : Nat) (h : ∀ a, (f a).depth ≤ n) : ∀ xs : List α, PyData.depthAll (xs.map f) ≤ n := fun xs => depth_le fun d hd => by
  obtain ⟨a, _, e⟩ := List.mem_map.mp hd
  rw [← e]
  exact h a
theorem zipWith_range {α β γ : Type} (f : α → β → γ) (a0 : α) (b0 : β) : ∀ (as : List α) (bs : List β) (n : Nat), as.length = n → bs.length = n → List.zipWith f as bs = (List.range n).map fun k => f (as.getD k a0) (bs.getD k b0) := fun as bs n ha hb => by
  refine List.ext_getElem (by rw [List.length_zipWith, List.length_map, List.length_range, ha, hb, Nat.min_self]) fun i h1 h2 => ?_
  rw [List.length_zipWith, ha, hb, Nat.min_self] at h1
  rw [List.getElem_zipWith, List.getElem_map, List.getElem_range]
  simp only [List.getD_eq_getElem?_getD]
  rw [List.getElem?_eq_getElem (by omega), List.getElem?_eq_getElem (by omega)]
  rfl
theorem getD_at {α : Type} (f : α → D) (xs : List α) (x0 : α) {k : Nat} (h : k < xs.length) : atI (xs.map f) (k : Int) = some (f (xs.getD k x0)) := by
  refine at_map ?_
  rw [List.getD_eq_getElem?_getD, List.getElem?_eq_getElem h]
  rfl
theorem getD_in {α : Type} {l : List α} {k : Nat} {x0 : α} (h : k < l.length) : l.getD k x0 ∈ l := by
  rw [List.getD_eq_getElem?_getD, List.getElem?_eq_getElem h]
  exact List.getElem_mem h
theorem getD_last {α : Type} (f : α → D) (xs : List α) (x0 : α) (h : xs ≠ []) : atI (xs.map f) (-1) = some (f (xs.getD (xs.length - 1) x0)) := by
  have hl := List.length_pos_iff.mpr h
  unfold atI ixN
  rw [if_neg (by decide), if_pos (by rw [List.length_map]; omega)]
  rw [List.length_map]
  show (xs.map f)[((xs.length : Int) + -1).toNat]? = _
  rw [show ((xs.length : Int) + -1).toNat = xs.length - 1 by omega]
  rw [List.getElem?_map, List.getElem?_eq_getElem (by omega), List.getD_eq_getElem?_getD, List.getElem?_eq_getElem (by omega)]
  rfl

/-! the script laws' products of a row and a point -/
def dotq : List Int → List Rat → Rat
  | a :: as, q :: qs => (a : Rat) * q + dotq as qs
  | _, _ => 0
theorem sm_int {A : Nat} {a : Int} (h : a.natAbs < 2 ^ A) (h0 : 0 < A) : Sm A (a : Rat) := ⟨h, Nat.one_lt_two_pow (by omega)⟩
theorem oneQ (a : Int) : PyData.tuple [.int a, .int 1] = ratD (a : Rat) := rfl
theorem sdot_loop {A B : Nat} {s t : D} (h0 : 0 < A) {as : List Int} {qs : List Rat} (hx : ∀ k, k < as.length → dIx s (.int (k : Int)) = some (.int (as.getD k 0))) (ht : ∀ k, k < qs.length → dIx t (.int (k : Int)) = some (ratD (qs.getD k 0))) (hl : qs.length = as.length)
    (ha : ∀ a ∈ as, a.natAbs < 2 ^ A) (hq : ∀ q ∈ qs, Sm B q) : ∀ (n k C : Nat) (acc : Rat), k + n = as.length → Sm C acc → A + B ≤ C → C + (A + B + 1) * n ≤ 990 →
    loopD (gSet 3) lp__law_dot_1 ((List.range' k n).map fun (k : Nat) => PyData.int (k : Int)) [.dat s, .dat t, .dat (ratD acc), .un] = some (.nx [.dat s, .dat t, .dat (ratD (acc + dotq (as.drop k) (qs.drop k))), .un])
  | 0, k, C, acc, hk, _, _, _ => by
    rw [List.drop_eq_nil_of_le (by omega), List.drop_eq_nil_of_le (by omega), show dotq [] [] = 0 from rfl, Rat.add_zero]
    rfl
  | n + 1, k, C, acc, hk, hs, hc, hb => by
    have hb' : C + (A + B + 1) + (A + B + 1) * n ≤ 990 := by rw [Nat.mul_add] at hb; omega
    have k1 : k < as.length := by omega
    have k2 : k < qs.length := by omega
    have e1 : as.getD k 0 = as[k] := by rw [List.getD_eq_getElem?_getD, List.getElem?_eq_getElem k1]; rfl
    have e2 : qs.getD k 0 = qs[k] := by rw [List.getD_eq_getElem?_getD, List.getElem?_eq_getElem k2]; rfl
    have g1 := hx k k1
    have g2 := ht k k2
    rw [e1] at g1
    rw [e2] at g2
    have s1 : Sm (max A B) (as[k] : Rat) := (sm_int (ha _ (List.getElem_mem k1)) h0).mono (Nat.le_max_left _ _)
    have s2 : Sm (max A B) qs[k] := (hq _ (List.getElem_mem k2)).mono (Nat.le_max_right _ _)
    have s3 : Sm (A + B) ((as[k] : Rat) * qs[k]) := (sm_int (ha _ (List.getElem_mem k1)) h0).mul (hq _ (List.getElem_mem k2))
    have t1 := stimes_at (B := max A B) (by omega) s1 s2
    have t2 := sadd_at (B := C) (by omega) hs (s3.mono hc)
    have ih := sdot_loop h0 hx ht hl ha hq n (k + 1) (C + (A + B + 1)) (acc + (as[k] : Rat) * qs[k]) (by omega) ((hs.add s3).mono (by omega)) (by omega) hb'
    rw [List.drop_eq_getElem_cons k1, List.drop_eq_getElem_cons k2, dotq, ← Rat.add_assoc]
    refine loop_cons (ρ1 := [.dat s, .dat t, .dat (ratD acc), .dat (.int (k : Int))]) rfl ?_ ih
    have t1' : m__law_times [.tuple [.int as[k], .int 1], ratD qs[k]] = some (ratD ((as[k] : Rat) * qs[k])) := t1
    unfold lp__law_dot_1
    apply val_eq
    (iterate 1001 (first | (with_reducible apply g1 <;> first | omega | skip) | (with_reducible apply g2 <;> first | omega | skip) | (with_reducible apply t1' <;> first | omega | skip) | (with_reducible apply t2 <;> first | omega | skip)))
    rfl
theorem sdot_at {A B : Nat} {s t : D} (h0 : 0 < A) {as : List Int} {qs : List Rat} (hn : fLen [s] = some (.int (as.length : Int))) (hx : ∀ k, k < as.length → dIx s (.int (k : Int)) = some (.int (as.getD k 0))) (ht : ∀ k, k < qs.length → dIx t (.int (k : Int)) = some (ratD (qs.getD k 0))) (hl : qs.length = as.length)
    (ha : ∀ a ∈ as, a.natAbs < 2 ^ A) (hq : ∀ q ∈ qs, Sm B q) (h3 : as.length ≤ 3) (hb : 4 * (A + B + 1) ≤ 990) : m__law_dot [s, t] = some (ratD (dotq as qs)) ∧ Sm (4 * (A + B + 1)) (dotq as qs) := by
  have sm : ∀ (as : List Int) (qs : List Rat), (∀ a ∈ as, a.natAbs < 2 ^ A) → (∀ q ∈ qs, Sm B q) → Sm ((A + B + 1) * as.length + 1) (dotq as qs) := fun as => by
    induction as with
    | nil => exact fun qs _ _ => ⟨Nat.pow_pos (by decide), Nat.one_lt_two_pow (by simp)⟩
    | cons a as ih =>
      intro qs ha hq
      cases qs with
      | nil => exact ⟨Nat.pow_pos (by decide), Nat.one_lt_two_pow (by simp)⟩
      | cons q qs =>
        have i := ih qs (fun x h => ha x (List.mem_cons_of_mem _ h)) fun x h => hq x (List.mem_cons_of_mem _ h)
        have k := ((sm_int (ha a List.mem_cons_self) h0).mul (hq q List.mem_cons_self)).add i
        rw [dotq]
        refine k.mono ?_
        rw [List.length_cons, Nat.mul_add]
        omega
  have hm : (A + B + 1) * as.length ≤ (A + B + 1) * 3 := Nat.mul_le_mul_left _ h3
  refine ⟨?_, (sm as qs ha hq).mono (by omega)⟩
  have lo := sdot_loop h0 hx ht hl ha hq as.length 0 (A + B + 1) 0 (by omega) ⟨Nat.pow_pos (by decide), Nat.one_lt_two_pow (by omega)⟩ (by omega) (by omega)
  rw [List.drop_zero, List.drop_zero, Rat.zero_add, ← List.range_eq_range'] at lo
  have lo' : loopD (gSet 3) lp__law_dot_1 ((List.range as.length).map fun (k : Nat) => PyData.int (k : Int)) [.dat s, .dat t, .dat (.tuple [.int 0, .int 1]), .un] = some (.nx [.dat s, .dat t, .dat (ratD (dotq as qs)), .un]) := lo
  have rg : rng1 [.int (as.length : Int)] = some ((List.range as.length).map fun (k : Nat) => PyData.int (k : Int)) := rng_nat (by omega)
  (apply run_ok; case hl => exact rfl); (unfold b__law_dot; simp only [List.map_cons, List.map_nil, List.replicate, List.cons_append, List.nil_append])
  (iterate 1001 (first | (with_reducible apply hn <;> first | omega | skip) | (with_reducible apply rg <;> first | omega | skip) | (with_reducible apply lo' <;> first | omega | skip)))
  rfl
theorem ixT_int (as : List Int) {k : Nat} (h : k < as.length) : dIx (.tuple (as.map PyData.int)) (.int (k : Int)) = some (.int (as.getD k 0)) := op_ixT (getD_at PyData.int as 0 h)
theorem ixL_int (as : List Int) {k : Nat} (h : k < as.length) : dIx (.list (as.map PyData.int)) (.int (k : Int)) = some (.int (as.getD k 0)) := op_ixL (getD_at PyData.int as 0 h)
theorem ixP (qs : List Rat) {k : Nat} (h : k < qs.length) : dIx (ptD qs) (.int (k : Int)) = some (ratD (qs.getD k 0)) := op_ixT (getD_at ratD qs 0 h)
/-- a row of integers, as a tuple -/
theorem sdotT {A B : Nat} (h0 : 0 < A) (as : List Int) (qs : List Rat) (hl : qs.length = as.length) (ha : ∀ a ∈ as, a.natAbs < 2 ^ A) (hq : ∀ q ∈ qs, Sm B q) (h3 : as.length ≤ 3) (hb : 4 * (A + B + 1) ≤ 990) : m__law_dot [rowI as, ptD qs] = some (ratD (dotq as qs)) ∧ Sm (4 * (A + B + 1)) (dotq as qs) :=
  sdot_at h0 (s := rowI as) (congrArg (fun n : Nat => some (PyData.int (n : Int))) (List.length_map _)) (fun k h => ixT_int as h) (fun k h => ixP qs h) hl ha hq h3 hb
/-! rows met -/
def rowD (r : List Int × Int) : D := .tuple [rowI r.1, .int r.2]
theorem row0 (r : List Int × Int) : dIx (rowD r) (.int 0) = some (rowI r.1) := rfl
theorem row1 (r : List Int × Int) : dIx (rowD r) (.int 1) = some (.int r.2) := rfl
def metQ (r : List Int × Int) (qs : List Rat) : Bool := decide (dotq r.1 qs ≤ (r.2 : Rat))
theorem smeets_at {A B : Nat} (h0 : 0 < A) (r : List Int × Int) (qs : List Rat) (hl : qs.length = r.1.length) (ha : ∀ a ∈ r.1, a.natAbs < 2 ^ A) (h2 : r.2.natAbs < 2 ^ A) (hq : ∀ q ∈ qs, Sm B q) (h3 : r.1.length ≤ 3) (hb : 4 * (A + B + 1) ≤ 990) : m__law_meets [rowD r, ptD qs] = some (.bool (metQ r qs)) := by
  obtain ⟨d1, d2⟩ := sdotT h0 r.1 qs hl ha hq h3 hb
  have l := sless_at (B := 4 * (A + B + 1)) hb ((sm_int h2 h0).mono (by omega)) d2
  have l' : m__law_less [.tuple [.int r.2, .int 1], ratD (dotq r.1 qs)] = some (.bool (decide ((r.2 : Rat) < dotq r.1 qs))) := l
  have e : (!decide ((r.2 : Rat) < dotq r.1 qs)) = metQ r qs := by
    unfold metQ
    by_cases h : (r.2 : Rat) < dotq r.1 qs
    · rw [decide_eq_true h, decide_eq_false (Rat.not_le.mpr h)]
      rfl
    · rw [decide_eq_false h, decide_eq_true (Rat.not_lt.mp h)]
      rfl
  rw [← e]
  have r0 := row0 r
  have r1 := row1 r
  generalize rowI r.1 = w at d1 r0
  generalize decide ((r.2 : Rat) < dotq r.1 qs) = t at l'
  have nt : (!t) = (!t) := rfl
  (apply run_ok; case hl => exact rfl); (unfold b__law_meets; simp only [List.map_cons, List.map_nil, List.replicate, List.cons_append, List.nil_append])
  (iterate 1001 (first | (with_reducible apply r0 <;> first | omega | skip) | (with_reducible apply r1 <;> first | omega | skip) | (with_reducible apply d1 <;> first | omega | skip) | (with_reducible apply l' <;> first | omega | skip) | (with_reducible apply nt <;> first | omega | skip)))
  all_goals rfl

/-! the script laws' corners -/
def oneD (n : Int) : D := .tuple [.int n, .int 1]
def cornerQ (c : List Int) : D := .tuple (c.map oneD)
theorem goC_len (p : Int × Int) (c : List Int) : (goC p c).length ≤ 2 := by
  unfold goC
  split <;> simp
theorem flat_len {α β : Type} {f : α → List β} {k : Nat} (h : ∀ a, (f a).length ≤ k) : ∀ xs : List α, (xs.flatMap f).length ≤ k * xs.length
  | [] => by simp
  | x :: xs => by
    have i := flat_len h xs
    have j := h x
    rw [List.flatMap_cons, List.length_append, List.length_cons, Nat.mul_add]
    omega
theorem stepC_len (cs : List (List Int)) (p : Int × Int) : (stepC cs p).length ≤ 2 * cs.length := flat_len (goC_len p) cs
theorem goC_mem {p : Int × Int} {c d : List Int} (h : d ∈ goC p c) : d.length = c.length + 1 ∧ ∀ n ∈ d, n ∈ c ∨ n = p.1 ∨ n = p.2 := by
  unfold goC at h
  split at h
  · simp only [List.mem_singleton] at h
    subst h
    refine ⟨by simp, fun n hn => ?_⟩
    simp only [List.mem_append, List.mem_singleton] at hn
    rcases hn with hn | hn
    · exact .inl hn
    · exact .inr (.inl hn)
  · simp only [List.mem_cons, List.not_mem_nil, or_false] at h
    rcases h with rfl | rfl
    · refine ⟨by simp, fun n hn => ?_⟩
      simp only [List.mem_append, List.mem_singleton] at hn
      rcases hn with hn | hn
      · exact .inl hn
      · exact .inr (.inl hn)
    · refine ⟨by simp, fun n hn => ?_⟩
      simp only [List.mem_append, List.mem_singleton] at hn
      rcases hn with hn | hn
      · exact .inl hn
      · exact .inr (.inr hn)
def endsL (p : Int × Int) : List Int := if p.1 = p.2 then [p.1] else [p.1, p.2]
theorem goC_ends (p : Int × Int) (c : List Int) : goC p c = (endsL p).map fun n => c ++ [n] := by
  unfold goC endsL
  split <;> rfl
theorem stepC_mem {cs : List (List Int)} {p : Int × Int} {d : List Int} (h : d ∈ stepC cs p) : ∃ c ∈ cs, d.length = c.length + 1 ∧ ∀ n ∈ d, n ∈ c ∨ n = p.1 ∨ n = p.2 := by
  unfold stepC at h
  obtain ⟨c, h1, h2⟩ := List.mem_flatMap.mp h
  exact ⟨c, h1, goC_mem h2⟩
theorem foldC_mem : ∀ (box : List (Int × Int)) (cs : List (List Int)) (d : List Int), d ∈ box.foldl stepC cs → ∃ c ∈ cs, d.length = c.length + box.length ∧ ∀ n ∈ d, n ∈ c ∨ ∃ p ∈ box, n = p.1 ∨ n = p.2
  | [], cs, d, h => ⟨d, h, rfl, fun n hn => .inl hn⟩
  | p :: box, cs, d, h => by
    obtain ⟨c, h1, h2, h3⟩ := foldC_mem box (stepC cs p) d h
    obtain ⟨c', k1, k2, k3⟩ := stepC_mem h1
    refine ⟨c', k1, by rw [List.length_cons]; omega, fun n hn => ?_⟩
    rcases h3 n hn with h | ⟨q, hq, hn'⟩
    · rcases k3 n h with h | h
      · exact .inl h
      · exact .inr ⟨p, List.mem_cons_self, h⟩
    · exact .inr ⟨q, List.mem_cons_of_mem _ hq, hn'⟩
theorem cornersL_mem {box : List (Int × Int)} {d : List Int} (h : d ∈ cornersL box) : d.length = box.length ∧ ∀ n ∈ d, ∃ p ∈ box, n = p.1 ∨ n = p.2 := by
  obtain ⟨c, h1, h2, h3⟩ := foldC_mem box [[]] d h
  simp at h1
  subst h1
  exact ⟨by simpa using h2, fun n hn => (h3 n hn).resolve_left (by simp)⟩
theorem foldC_len : ∀ (box : List (Int × Int)) (cs : List (List Int)), (box.foldl stepC cs).length ≤ cs.length * 2 ^ box.length
  | [], cs => by simp
  | p :: box, cs => by
    refine Nat.le_trans (foldC_len box (stepC cs p)) ?_
    rw [List.length_cons, Nat.pow_succ, Nat.mul_comm (2 ^ box.length) 2, ← Nat.mul_assoc]
    exact Nat.mul_le_mul_right _ (by have := stepC_len cs p; omega)
theorem cornersL_len (box : List (Int × Int)) : (cornersL box).length ≤ 2 ^ box.length := by
  have := foldC_len box [[]]
  rw [show ([[]] : List (List Int)).length = 1 from rfl, Nat.one_mul] at this
  exact this

theorem scor_in {r0 r1 : Cell} (p : Int × Int) : ∀ (cs acc : List (List Int)), (∀ c ∈ cs, c.length < 900) → acc.length + 2 * cs.length < 10000 → loopD (gSet 6) lp__law_corners_1 (cs.map cornerQ) [r0, r1, .un, .un, .dat (.list ((endsL p).map PyData.int)), .own (acc.map cornerQ), .un, .un] = some (.nx [r0, r1, .un, .un, .dat (.list ((endsL p).map PyData.int)), .own ((acc ++ cs.flatMap (goC p)).map cornerQ), .un, .un])
  | [], acc, _, _ => by
    rw [List.flatMap_nil, List.append_nil]
    rfl
  | c :: cs, acc, hl, hn => by
    have gl := goC_len p c
    rw [List.length_cons] at hn
    have ih := scor_in (r0 := r0) (r1 := r1) p cs (acc ++ goC p c) (fun d hd => hl d (List.mem_cons_of_mem _ hd)) (by rw [List.length_append]; omega)
    rw [List.flatMap_cons, ← List.append_assoc]
    refine loop_cons (ρ1 := [r0, r1, .un, .un, .dat (.list ((endsL p).map PyData.int)), .own (acc.map cornerQ), .dat (cornerQ c), .un]) rfl ?_ ih
    have cl := hl c List.mem_cons_self
    have el : (endsL p).length ≤ 2 := by
      unfold endsL
      split <;> simp
    have cm : mLc (mSeqOf (mVar 4)) (gSet 7) mYes el__law_corners_1 [7] [r0, r1, .un, .un, .dat (.list ((endsL p).map PyData.int)), .own (acc.map cornerQ), .dat (cornerQ c), .un] = some ((goC p c).map cornerQ) := by
      rw [goC_ends, List.map_map]
      refine comp_at PyData.int _ (endsL p) rfl (by omega) fun n hn => ?_
      have ad : dAdd (cornerQ c) (.tuple [.tuple [.int n, .int 1]]) = some (cornerQ (c ++ [n])) := by
        unfold cornerQ
        show (if (c.map oneD).length + [PyData.tuple [.int n, .int 1]].length ≤ 100000 then _ else _) = _
        rw [if_pos (by rw [List.length_map, List.length_singleton]; omega), List.map_append]
        rfl
      apply comp_el
      (iterate 1001 (first | (with_reducible apply un_el__law_corners_1 <;> first | omega | skip) | (with_reducible apply ad <;> first | omega | skip)))
      rfl
    have ad2 : acc.map cornerQ ++ (goC p c).map cornerQ = (acc ++ goC p c).map cornerQ := (List.map_append).symm
    have ln : (acc.map cornerQ).length + ((goC p c).map cornerQ).length < 100000 := by rw [List.length_map, List.length_map]; omega
    unfold lp__law_corners_1
    apply val_eq
    (iterate 1001 (first | (with_reducible apply cm <;> first | omega | skip) | (with_reducible apply ln <;> first | omega | skip)))
    rw [ad2]
theorem scor_turn {r0 : Cell} {p : Int × Int} (hp : p.1 ≤ p.2) {cs : List (List Int)} (hl : ∀ c ∈ cs, c.length < 900) (hn : 2 * cs.length < 10000) :
    lp__law_corners_2 [r0, .dat (.list (cs.map cornerQ)), .dat (.int p.1), .dat (.int p.2), .un, .un, .un, .un] = some (.nx [r0, .dat (.list ((stepC cs p).map cornerQ)), .un, .un, .un, .un, .un, .un]) := by
  have lo := fun r1 => scor_in (r0 := r0) (r1 := r1) p cs [] hl (by simpa using hn)
  simp only [List.nil_append, List.map_nil] at lo
  unfold stepC
  by_cases h : p.1 = p.2
  · have e : endsL p = [p.1] := if_pos h
    rw [e] at lo
    simp only [List.map_cons, List.map_nil] at lo
    unfold lp__law_corners_2
    apply val_eq
    (iterate 1001 (first | (with_reducible apply lo <;> first | omega | skip)))
    all_goals rfl
  · have e : endsL p = [p.1, p.2] := if_neg h
    rw [e] at lo
    simp only [List.map_cons, List.map_nil] at lo
    unfold lp__law_corners_2
    apply val_eq
    (iterate 1001 (first | (with_reducible apply lo <;> first | omega | skip)))
    all_goals rfl
theorem scor_loop {r0 : Cell} (k : Nat) : ∀ (box : List (Int × Int)) (cs : List (List Int)), (∀ p ∈ box, p.1 ≤ p.2) → box.length ≤ k → (∀ c ∈ cs, c.length + k < 900) → cs.length * 2 ^ k < 4000 →
    loopD (gTupD (gsCons (gSet 2) (gsCons (gSet 3) gsNil))) lp__law_corners_2 (box.map pairI) [r0, .dat (.list (cs.map cornerQ)), .un, .un, .un, .un, .un, .un] = some (.nx [r0, .dat (.list ((box.foldl stepC cs).map cornerQ)), .un, .un, .un, .un, .un, .un]) := by
  induction k with
  | zero =>
    intro box cs _ h0 _ _
    have : box = [] := List.eq_nil_of_length_eq_zero (by omega)
    subst this
    rfl
  | succ k ih =>
    intro box cs hb h0 h1 h2
    cases box with
    | nil => rfl
    | cons p box =>
      have hp : 0 < 2 ^ k := Nat.two_pow_pos k
      rw [Nat.pow_succ] at h2
      have h3 : cs.length * 2 * 2 ^ k < 4000 := by
        rw [Nat.mul_assoc, Nat.mul_comm 2]
        exact h2
      have h4 : cs.length * 2 < 4000 := by
        have : cs.length * 2 * 1 ≤ cs.length * 2 * 2 ^ k := Nat.mul_le_mul_left _ hp
        omega
      refine loop_cons (ρ1 := [r0, .dat (.list (cs.map cornerQ)), .dat (.int p.1), .dat (.int p.2), .un, .un, .un, .un]) rfl (scor_turn (hb p List.mem_cons_self) (fun c hc => by have := h1 c hc; omega) (by omega)) ?_
      refine ih box (stepC cs p) (fun q hq => hb q (List.mem_cons_of_mem _ hq)) (by simp at h0; omega) (fun d hd => ?_) ?_
      · obtain ⟨c, k1, k2, _⟩ := stepC_mem hd
        have := h1 c k1
        omega
      · refine Nat.lt_of_le_of_lt (Nat.mul_le_mul_right _ (stepC_len cs p)) ?_
        rw [Nat.mul_comm 2]
        exact h3
theorem scorners_at (box : List (Int × Int)) (hb : ∀ p ∈ box, p.1 ≤ p.2) (hl : box.length ≤ 2) : m__law_corners [boxD box] = some (.list ((cornersL box).map cornerQ)) := by
  have lo := scor_loop (r0 := .dat (boxD box)) 2 box [[]] hb hl (fun c hc => by simp at hc; subst hc; decide) (by decide)
  have lo' : loopD (gTupD (gsCons (gSet 2) (gsCons (gSet 3) gsNil))) lp__law_corners_2 (box.map pairI) [.dat (boxD box), .dat (.list [.tuple []]), .un, .un, .un, .un, .un, .un] = some (.nx [.dat (boxD box), .dat (.list ((cornersL box).map cornerQ)), .un, .un, .un, .un, .un, .un]) := lo
  have sq : seqOf (boxD box) = some (box.map pairI) := rfl
  (apply run_ok; case hl => exact rfl); (unfold b__law_corners; simp only [List.map_cons, List.map_nil, List.replicate, List.cons_append, List.nil_append])
  (iterate 1001 (first | (with_reducible apply sq <;> first | omega | skip) | (with_reducible apply lo' <;> first | omega | skip)))
  rfl

/-! the next state, as the script laws work it out -/
def nextK (M : Mach) (x u c : List Rat) (k : Nat) : Rat := (dotq (M.a.getD k []) x + dotq (M.b.getD k []) u + dotq (M.e.getD k []) c) * Rat.divInt 1 M.dv
def nextQ (M : Mach) (x u c : List Rat) : List Rat := (List.range M.n).map (nextK M x u c)
theorem getD_row {h w : Nat} {L : List (List Int)} (o : MatOk h w L) {k : Nat} (hk : k < h) : (L.getD k []).length = w ∧ ∀ a ∈ L.getD k [], a.natAbs < 2 ^ 5 := by
  have h1 := o.2 (L.getD k []) (getD_in (by rw [o.1]; exact hk))
  exact ⟨h1.1, fun a ha => by have := h1.2 a ha; omega⟩
theorem ixM {h w : Nat} {L : List (List Int)} (o : MatOk h w L) {k : Nat} (hk : k < h) : dIx (matD L) (.int (k : Int)) = some (rowI (L.getD k [])) := op_ixT (getD_at rowI L [] (by rw [o.1]; exact hk))
theorem divD {d : Int} (h : 0 < d) : PyData.tuple [.int 1, .int d] = ratD (Rat.divInt 1 d) := by
  have p := rat_pos 1 (d := d.natAbs) (by omega)
  have e : ((d.natAbs : Nat) : Int) = d := by omega
  rw [e] at p
  unfold ratD
  rw [p.1, p.2, show Nat.gcd (Int.natAbs 1) d.natAbs = 1 from Nat.gcd_one_left _]
  simp
theorem ptD_len (qs : List Rat) : fLen [ptD qs] = some (.int (qs.length : Int)) := congrArg (fun n : Nat => some (PyData.int (n : Int))) (List.length_map _)
theorem snext_turn {M : Mach} (o : MOk M) {x u c : List Rat} {B : Nat} (hx : x.length = M.n) (hu : u.length = M.m) (hc : c.length = M.p) (sx : ∀ q ∈ x, Sm B q) (su : ∀ q ∈ u, Sm B q) (sc : ∀ q ∈ c, Sm B q) (hB : B ≤ 40) {k : Nat} (hk : k < M.n) (acc : List Rat) (ha : acc.length ≤ 10) :
    lp__law_next_1 [.dat (pD M), .dat (ptD x), .dat (ptD u), .dat (ptD c), .own (acc.map ratD), .dat (.int (k : Int)), .un] = some (.nx [.dat (pD M), .dat (ptD x), .dat (ptD u), .dat (ptD c), .own ((acc ++ [nextK M x u c k]).map ratD), .un, .un]) ∧ Sm 700 (nextK M x u c k) := by
  have hn := o.hn
  have hm := o.hm
  have hp := o.hp
  have hd := o.hd
  obtain ⟨a1, a2⟩ := getD_row o.ha hk
  obtain ⟨b1, b2⟩ := getD_row o.hb hk
  obtain ⟨e1, e2⟩ := getD_row o.he hk
  obtain ⟨d1, s1⟩ := sdotT (A := 5) (B := B) (by decide) (M.a.getD k []) x (by omega) a2 sx (by omega) (by omega)
  obtain ⟨d2, s2⟩ := sdotT (A := 5) (B := B) (by decide) (M.b.getD k []) u (by omega) b2 su (by omega) (by omega)
  obtain ⟨d3, s3⟩ := sdotT (A := 5) (B := B) (by decide) (M.e.getD k []) c (by omega) e2 sc (by omega) (by omega)
  have i1 := ixM o.ha hk
  have i2 := ixM o.hb hk
  have i3 := ixM o.he hk
  have t1 := s1.add s2
  have p1 := sadd_at (B := 4 * (5 + B + 1)) (by omega) s1 s2
  have p2 := sadd_at (B := 4 * (5 + B + 1) + 4 * (5 + B + 1) + 1) (by omega) t1 (s3.mono (by omega))
  have t2 := t1.add s3
  have dv : Sm 8 (Rat.divInt 1 M.dv) := sm_divInt (by omega) (by decide) (by omega)
  have p3 := stimes_at (B := 4 * (5 + B + 1) + 4 * (5 + B + 1) + 1 + 4 * (5 + B + 1) + 1) (by omega) t2 (dv.mono (by omega))
  have p3' : m__law_times [ratD (dotq (M.a.getD k []) x + dotq (M.b.getD k []) u + dotq (M.e.getD k []) c), .tuple [.int 1, .int M.dv]] = some (ratD (nextK M x u c k)) := by
    rw [divD (by omega)]
    exact p3
  refine ⟨?_, (t2.mul dv).mono (by omega)⟩
  rw [List.map_append]
  generalize nextK M x u c k = y at p3'
  generalize dotq (M.a.getD k []) x = y1 at d1 p1 p2 p3'
  generalize dotq (M.b.getD k []) u = y2 at d2 p1 p2 p3'
  generalize dotq (M.e.getD k []) c = y3 at d3 p2 p3'
  have lb : (acc.map ratD).length < 100000 := by rw [List.length_map]; omega
  generalize acc.map ratD = as at lb
  unfold lp__law_next_1
  apply val_eq
  (iterate 1001 (first | (with_reducible apply pk_a <;> first | omega | skip) | (with_reducible apply pk_b <;> first | omega | skip) | (with_reducible apply pk_e <;> first | omega | skip) | (with_reducible apply pk_d <;> first | omega | skip) | (with_reducible apply i1 <;> first | omega | skip) | (with_reducible apply i2 <;> first | omega | skip) | (with_reducible apply i3 <;> first | omega | skip) | (with_reducible apply d1 <;> first | omega | skip) | (with_reducible apply d2 <;> first | omega | skip) | (with_reducible apply d3 <;> first | omega | skip) | (with_reducible apply p1 <;> first | omega | skip) | (with_reducible apply p2 <;> first | omega | skip) | (with_reducible apply p3' <;> first | omega | skip) | (with_reducible apply lb <;> first | omega | skip)))
  rfl
theorem snext_loop {M : Mach} (o : MOk M) {x u c : List Rat} {B : Nat} (hx : x.length = M.n) (hu : u.length = M.m) (hc : c.length = M.p) (sx : ∀ q ∈ x, Sm B q) (su : ∀ q ∈ u, Sm B q) (sc : ∀ q ∈ c, Sm B q) (hB : B ≤ 40) : ∀ (ks : List Nat) (acc : List Rat), (∀ k ∈ ks, k < M.n) → acc.length + ks.length ≤ 10 →
    loopD (gSet 5) lp__law_next_1 (ks.map fun (k : Nat) => PyData.int (k : Int)) [.dat (pD M), .dat (ptD x), .dat (ptD u), .dat (ptD c), .own (acc.map ratD), .un, .un] = some (.nx [.dat (pD M), .dat (ptD x), .dat (ptD u), .dat (ptD c), .own ((acc ++ ks.map (nextK M x u c)).map ratD), .un, .un])
  | [], acc, _, _ => by
    rw [List.map_nil, List.map_nil, List.append_nil]
    rfl
  | k :: ks, acc, hk, hl => by
    rw [List.length_cons] at hl
    have t := (snext_turn o hx hu hc sx su sc hB (hk k List.mem_cons_self) acc (by omega)).1
    have ih := snext_loop o hx hu hc sx su sc hB ks (acc ++ [nextK M x u c k]) (fun j hj => hk j (List.mem_cons_of_mem _ hj)) (by rw [List.length_append, List.length_singleton]; omega)
    rw [List.append_assoc] at ih
    exact loop_cons (ρ1 := [.dat (pD M), .dat (ptD x), .dat (ptD u), .dat (ptD c), .own (acc.map ratD), .dat (.int (k : Int)), .un]) rfl t ih
theorem snext_at {M : Mach} (o : MOk M) {x u c : List Rat} {B : Nat} (hx : x.length = M.n) (hu : u.length = M.m) (hc : c.length = M.p) (sx : ∀ q ∈ x, Sm B q) (su : ∀ q ∈ u, Sm B q) (sc : ∀ q ∈ c, Sm B q) (hB : B ≤ 40) :
    m__law_next [pD M, ptD x, ptD u, ptD c] = some (ptD (nextQ M x u c)) := by
  have hn := o.hn
  have lo := snext_loop o hx hu hc sx su sc hB (List.range M.n) [] (fun k hk => List.mem_range.mp hk) (by rw [List.length_range, List.length_nil]; omega)
  rw [List.nil_append, List.map_nil] at lo
  have ln := ptD_len x
  rw [hx] at ln
  have rg : rng1 [.int (M.n : Int)] = some ((List.range M.n).map fun (k : Nat) => PyData.int (k : Int)) := rng_nat (by omega)
  (apply run_ok; case hl => exact rfl); (unfold b__law_next; simp only [List.map_cons, List.map_nil, List.replicate, List.cons_append, List.nil_append])
  (iterate 1001 (first | (with_reducible apply ln <;> first | omega | skip) | (with_reducible apply rg <;> first | omega | skip) | (with_reducible apply lo <;> first | omega | skip)))
  rfl
theorem nextQ_sm {M : Mach} (o : MOk M) {x u c : List Rat} {B : Nat} (hx : x.length = M.n) (hu : u.length = M.m) (hc : c.length = M.p) (sx : ∀ q ∈ x, Sm B q) (su : ∀ q ∈ u, Sm B q) (sc : ∀ q ∈ c, Sm B q) (hB : B ≤ 6) : ∀ q ∈ nextQ M x u c, Sm 160 q := fun q hq => by
  obtain ⟨k, hk, rfl⟩ := List.mem_map.mp hq
  have hk := List.mem_range.mp hk
  have hn := o.hn
  have hm := o.hm
  have hp := o.hp
  have hd := o.hd
  obtain ⟨a1, a2⟩ := getD_row o.ha hk
  obtain ⟨b1, b2⟩ := getD_row o.hb hk
  obtain ⟨e1, e2⟩ := getD_row o.he hk
  have s1 := (sdotT (A := 5) (B := B) (by decide) (M.a.getD k []) x (by omega) a2 sx (by omega) (by omega)).2
  have s2 := (sdotT (A := 5) (B := B) (by decide) (M.b.getD k []) u (by omega) b2 su (by omega) (by omega)).2
  have s3 := (sdotT (A := 5) (B := B) (by decide) (M.e.getD k []) c (by omega) e2 sc (by omega) (by omega)).2
  have dv : Sm 8 (Rat.divInt 1 M.dv) := sm_divInt (by omega) (by decide) (by omega)
  exact (((s1.add s2).add s3).mul dv).mono (by omega)
theorem nextQ_len {M : Mach} {x u c : List Rat} : (nextQ M x u c).length = M.n := by
  unfold nextQ
  rw [List.length_map, List.length_range]

/-! drawing from the script -/
def scrD (ns : List Int) : D := .list (ns.map PyData.int)
theorem sdraw_loop {r0 r1 r2 x5 : Cell} : ∀ (its : List D) (c : Int), loopD (gSet 4) lp__law_draw_1 its [r0, r1, r2, .dat (.int c), .un, x5] = some (.nx [r0, r1, r2, .dat (.int (its.foldl (fun c _ => c.fdiv 1000) c)), .un, x5])
  | [], c => rfl
  | d :: its, c => by
    have h := sdraw_loop (r0 := r0) (r1 := r1) (r2 := r2) (x5 := x5) its (c.fdiv 1000)
    refine loop_cons (ρ1 := [r0, r1, r2, .dat (.int c), .dat d, x5]) rfl ?_ h
    unfold lp__law_draw_1
    apply val_eq
    (iterate 1001 (first | fail))
    · rfl
    · exact divOk_n (b := 64) (by decide) (by decide) (by decide)
theorem sdraw_ex (ns : List Int) (hl : ns.length < 1000) {k below : Int} (hk : 0 ≤ k) (hk2 : k < 100000) (hb : 1 ≤ below) (hb2 : below < 100000) : ∃ w : Int, m__law_draw [scrD ns, .int k, .int below] = some (.int (w.fmod below)) := by
  have ln : fLen [scrD ns] = some (.int (ns.length : Int)) := congrArg (fun n : Nat => some (PyData.int (n : Int))) (List.length_map _)
  have ob : divOk below = true := divOk_n (b := 64) (by omega) (by omega) (by decide)
  have o4 : divOk (4 : Int) = true := divOk_n (b := 64) (by decide) (by decide) (by decide)
  have rg := fun z : Int => fmod_range z (b := below) (by omega)
  by_cases h0 : ns = []
  · subst h0
    refine ⟨0, ?_⟩
    rw [Int.zero_fmod]
    have ln' : fLen [scrD []] = some (.int 0) := rfl
    generalize scrD [] = s at ln'
    (apply run_ok; case hl => exact rfl); (unfold b__law_draw; simp only [List.map_cons, List.map_nil, List.replicate, List.cons_append, List.nil_append])
    (iterate 1001 (first | (with_reducible apply ln' <;> first | omega | skip)))
    all_goals rfl
  · have hp : 0 < ns.length := List.length_pos_iff.mpr h0
    have ol : divOk (ns.length : Int) = true := divOk_n (b := 64) (by omega) (by rw [Int.natAbs_natCast]; omega) (by decide)
    have r1 := fmod_range (k.fdiv 4) (b := (ns.length : Int)) (by omega)
    obtain ⟨j, hj⟩ := Int.eq_ofNat_of_zero_le r1.1
    have hj2 : j < ns.length := by omega
    have ix : dIx (scrD ns) (.int ((k.fdiv 4).fmod (ns.length : Int))) = some (.int ns[j]) := by
      rw [hj]
      exact op_ixL (at_map (List.getElem?_eq_getElem hj2))
    generalize ns[j] = cell at ix
    have n0 : dEq (.int (ns.length : Int)) (.int 0) = some (.bool false) := by
      rw [op_eqI]
      exact congrArg (fun b => some (PyData.bool b)) (beq_eq_false_iff_ne.mpr (by omega))
    generalize scrD ns = s at ln ix
    have sm : ∀ (z : Int) (m : Int), 0 < m → m < 3000000000 → (z.fmod m).natAbs < 2 ^ 64 := fun z m h0 h1 => by
      have := fmod_range z h0
      omega
    have gd1 := sm ((cell * 48271 + k * 69621 + 12345)) 2147483647 (by decide) (by decide)
    have big : (10 : Int) ^ 18 = 1000000000000000000 := by decide
    by_cases c1 : cell ≥ 1000000000000000000
    · by_cases c2 : k.fdiv 4 < (ns.length : Int)
      · have r4 := fmod_range k (b := 4) (by decide)
        obtain ⟨t, ht⟩ := Int.eq_ofNat_of_zero_le r4.1
        have rgt : rng1 [.int (k.fmod 4)] = some ((List.range t).map fun (k : Nat) => PyData.int (k : Int)) := rng_int ht (by omega)
        have hlo := fun r0 r1 r2 x5 => sdraw_loop (r0 := r0) (r1 := r1) (r2 := r2) (x5 := x5) ((List.range t).map fun (k : Nat) => PyData.int (k : Int)) cell
        generalize ((List.range t).map fun (k : Nat) => PyData.int (k : Int)).foldl (fun c _ => c.fdiv 1000) cell = c' at hlo
        generalize ((List.range t).map fun (k : Nat) => PyData.int (k : Int)) = its at rgt hlo
        apply Exists.intro
        (apply run_ok; case hl => exact rfl); (unfold b__law_draw; simp only [List.map_cons, List.map_nil, List.replicate, List.cons_append, List.nil_append])
        (iterate 1001 (first | (with_reducible apply ln <;> first | omega | skip) | (with_reducible apply n0 <;> first | omega | skip) | (with_reducible apply ix <;> first | omega | skip) | (with_reducible apply rgt <;> first | omega | skip) | (with_reducible apply hlo <;> first | omega | skip)))
        all_goals first | rfl | exact o4 | omega | exact ob | exact ol | exact mulOk_r (by decide) | exact mulOk_l (by decide) | exact mulOk_l (sm _ _ (by decide) (by decide))
      · apply Exists.intro
        (apply run_ok; case hl => exact rfl); (unfold b__law_draw; simp only [List.map_cons, List.map_nil, List.replicate, List.cons_append, List.nil_append])
        (iterate 1001 (first | (with_reducible apply ln <;> first | omega | skip) | (with_reducible apply n0 <;> first | omega | skip) | (with_reducible apply ix <;> first | omega | skip)))
        all_goals first | rfl | exact o4 | omega | exact ob | exact ol | exact mulOk_r (by decide) | exact mulOk_l (by decide) | exact mulOk_l (sm _ _ (by decide) (by decide))
    · apply Exists.intro
      (apply run_ok; case hl => exact rfl); (unfold b__law_draw; simp only [List.map_cons, List.map_nil, List.replicate, List.cons_append, List.nil_append])
      (iterate 1001 (first | (with_reducible apply ln <;> first | omega | skip) | (with_reducible apply n0 <;> first | omega | skip) | (with_reducible apply ix <;> first | omega | skip)))
      all_goals first | rfl | exact o4 | omega | exact ob | exact ol | exact mulOk_r (by decide) | exact mulOk_l (by decide) | exact mulOk_l (sm _ _ (by decide) (by decide))

noncomputable def sdV (ns : List Int) (k below : Int) : Int := match m__law_draw [scrD ns, .int k, .int below] with
  | some (.int z) => z
  | _ => 0
theorem sd_at {ns : List Int} (hl : ns.length < 1000) {k below : Int} (hk : 0 ≤ k) (hk2 : k < 100000) (hb : 1 ≤ below) (hb2 : below < 100000) : m__law_draw [scrD ns, .int k, .int below] = some (.int (sdV ns k below)) := by
  obtain ⟨w, h⟩ := sdraw_ex ns hl hk hk2 hb hb2
  unfold sdV
  rw [h]
theorem sd_rg {ns : List Int} (hl : ns.length < 1000) {k below : Int} (hk : 0 ≤ k) (hk2 : k < 100000) (hb : 1 ≤ below) (hb2 : below < 100000) : 0 ≤ sdV ns k below ∧ sdV ns k below < below := by
  obtain ⟨w, h⟩ := sdraw_ex ns hl hk hk2 hb hb2
  unfold sdV
  rw [h]
  exact fmod_range w (by omega)
noncomputable def rowV (ns : List Int) (k : Int) (row : Nat) (w : Nat) (most : Int) : List Int := (List.range w).map fun (p : Nat) => sdV ns (k + 3 * (row : Int) + (p : Int)) (2 * most + 1) - most
theorem smat_turn {ns : List Int} (hl : ns.length < 1000) {k most h : Int} (hk : 0 ≤ k) (hk2 : k < 90000) (hm : 0 ≤ most) (hm2 : most ≤ 20) {w : Nat} (hw : w ≤ 3) {row : Nat} (hr : row < 100) (acc : List (List Int)) (ha : acc.length < 100) :
    lp__law_matrix_1 [.dat (scrD ns), .dat (.int k), .dat (.int h), .dat (.int (w : Int)), .dat (.int most), .own (acc.map rowI), .dat (.int (row : Int)), .un] = some (.nx [.dat (scrD ns), .dat (.int k), .dat (.int h), .dat (.int (w : Int)), .dat (.int most), .own ((acc ++ [rowV ns k row w most]).map rowI), .un, .un]) := by
  have cm : ∀ x, mLc (mL2 rng1 (mCons (mVar 3) mNil)) (gSet 7) mYes el__law_matrix_1 [7] [.dat (scrD ns), .dat (.int k), .dat (.int h), .dat (.int (w : Int)), .dat (.int most), .own (acc.map rowI), .dat (.int (row : Int)), x] = some ((rowV ns k row w most).map PyData.int) := fun x => by
    unfold rowV
    rw [List.map_map]
    refine comp_at (fun (p : Nat) => PyData.int (p : Int)) _ (List.range w) ?_ (by rw [List.length_range]; omega) fun p hp => ?_
    · have rg : rng1 [.int (w : Int)] = some ((List.range w).map fun (k : Nat) => PyData.int (k : Int)) := rng_nat (by omega)
      (iterate 1001 (first | (with_reducible apply rg <;> first | omega | skip)))
    · have hp := List.mem_range.mp hp
      have sd := sd_at (ns := ns) hl (k := k + 3 * (row : Int) + (p : Int)) (below := 2 * most + 1) (by omega) (by omega) (by omega) (by omega)
      apply comp_el
      (iterate 1001 (first | (with_reducible apply un_el__law_matrix_1 <;> first | omega | skip) | (with_reducible apply sd <;> first | omega | skip)))
      all_goals first | rfl | exact mulOk_l (by decide)
  have lb : (acc.map rowI).length < 100000 := by rw [List.length_map]; omega
  rw [List.map_append]
  unfold lp__law_matrix_1
  apply val_eq
  (iterate 1001 (first | (with_reducible apply cm <;> first | omega | skip) | (with_reducible apply lb <;> first | omega | skip)))
  rfl
noncomputable def matV (ns : List Int) (k : Int) (h w : Nat) (most : Int) : List (List Int) := (List.range h).map fun r => rowV ns k r w most
theorem smat_loop {ns : List Int} (hl : ns.length < 1000) {k most h : Int} (hk : 0 ≤ k) (hk2 : k < 90000) (hm : 0 ≤ most) (hm2 : most ≤ 20) {w : Nat} (hw : w ≤ 3) : ∀ (rs : List Nat) (acc : List (List Int)), (∀ r ∈ rs, r < 100) → acc.length + rs.length < 100 →
    loopD (gSet 6) lp__law_matrix_1 (rs.map fun (k : Nat) => PyData.int (k : Int)) [.dat (scrD ns), .dat (.int k), .dat (.int h), .dat (.int (w : Int)), .dat (.int most), .own (acc.map rowI), .un, .un] = some (.nx [.dat (scrD ns), .dat (.int k), .dat (.int h), .dat (.int (w : Int)), .dat (.int most), .own ((acc ++ rs.map fun r => rowV ns k r w most).map rowI), .un, .un])
  | [], acc, _, _ => by
    rw [List.map_nil, List.map_nil, List.append_nil]
    rfl
  | r :: rs, acc, hr, ha => by
    rw [List.length_cons] at ha
    have t := smat_turn hl (h := h) hk hk2 hm hm2 hw (hr r List.mem_cons_self) acc (by omega)
    have ih := smat_loop hl (h := h) hk hk2 hm hm2 hw rs (acc ++ [rowV ns k r w most]) (fun j hj => hr j (List.mem_cons_of_mem _ hj)) (by rw [List.length_append, List.length_singleton]; omega)
    rw [List.append_assoc] at ih
    exact loop_cons (ρ1 := [.dat (scrD ns), .dat (.int k), .dat (.int h), .dat (.int (w : Int)), .dat (.int most), .own (acc.map rowI), .dat (.int (r : Int)), .un]) rfl t ih
theorem smat_at {ns : List Int} (hl : ns.length < 1000) {k most : Int} (hk : 0 ≤ k) (hk2 : k < 90000) (hm : 0 ≤ most) (hm2 : most ≤ 20) {h w : Nat} (hh : h ≤ 3) (hw : w ≤ 3) : m__law_matrix [scrD ns, .int k, .int (h : Int), .int (w : Int), .int most] = some (matD (matV ns k h w most)) ∧ MatOk h w (matV ns k h w most) := by
  refine ⟨?_, ⟨by unfold matV; rw [List.length_map, List.length_range], fun r hr => ?_⟩⟩
  · have lo := smat_loop hl (h := (h : Int)) hk hk2 hm hm2 hw (List.range h) [] (fun r hr => by have := List.mem_range.mp hr; omega) (by rw [List.length_range, List.length_nil]; omega)
    rw [List.nil_append, List.map_nil] at lo
    have rg : rng1 [.int (h : Int)] = some ((List.range h).map fun (k : Nat) => PyData.int (k : Int)) := rng_nat (by omega)
    generalize scrD ns = s at lo
    (apply run_ok; case hl => exact rfl); (unfold b__law_matrix; simp only [List.map_cons, List.map_nil, List.replicate, List.cons_append, List.nil_append])
    (iterate 1001 (first | (with_reducible apply rg <;> first | omega | skip) | (with_reducible apply lo <;> first | omega | skip)))
    rfl
  · unfold matV at hr
    obtain ⟨i, hi, rfl⟩ := List.mem_map.mp hr
    have hi := List.mem_range.mp hi
    refine ⟨by unfold rowV; rw [List.length_map, List.length_range], fun x hx => ?_⟩
    unfold rowV at hx
    obtain ⟨p, hp, rfl⟩ := List.mem_map.mp hx
    have hp := List.mem_range.mp hp
    have := sd_rg (ns := ns) hl (k := k + 3 * (i : Int) + (p : Int)) (below := 2 * most + 1) (by omega) (by omega) (by omega) (by omega)
    omega
noncomputable def boxV1 (ns : List Int) (k : Int) (j : Nat) : Int × Int := (sdV ns (k + 2 * (j : Int)) 5 - 3, sdV ns (k + 2 * (j : Int)) 5 - 3 + sdV ns (k + 2 * (j : Int) + 1) 5)
theorem sbox_turn {ns : List Int} (hl : ns.length < 1000) {k c : Int} (hk : 0 ≤ k) (hk2 : k < 90000) {j : Nat} (hj : j < 100) (acc : List (Int × Int)) (ha : acc.length < 100) :
    lp__law_box_1 [.dat (scrD ns), .dat (.int k), .dat (.int c), .own (acc.map pairI), .dat (.int (j : Int)), .un] = some (.nx [.dat (scrD ns), .dat (.int k), .dat (.int c), .own ((acc ++ [boxV1 ns k j]).map pairI), .un, .un]) := by
  have s1 := sd_at (ns := ns) hl (k := k + 2 * (j : Int)) (below := 5) (by omega) (by omega) (by omega) (by omega)
  have s2 := sd_at (ns := ns) hl (k := k + 2 * (j : Int) + 1) (below := 5) (by omega) (by omega) (by omega) (by omega)
  have lb : (acc.map pairI).length < 100000 := by rw [List.length_map]; omega
  rw [List.map_append]
  generalize scrD ns = s at s1 s2
  unfold lp__law_box_1
  apply val_eq
  (iterate 1001 (first | (with_reducible apply s1 <;> first | omega | skip) | (with_reducible apply s2 <;> first | omega | skip) | (with_reducible apply lb <;> first | omega | skip)))
  all_goals first | rfl | exact mulOk_l (by decide)
theorem sbox_loop {ns : List Int} (hl : ns.length < 1000) {k c : Int} (hk : 0 ≤ k) (hk2 : k < 90000) : ∀ (js : List Nat) (acc : List (Int × Int)), (∀ j ∈ js, j < 100) → acc.length + js.length < 100 →
    loopD (gSet 4) lp__law_box_1 (js.map fun (k : Nat) => PyData.int (k : Int)) [.dat (scrD ns), .dat (.int k), .dat (.int c), .own (acc.map pairI), .un, .un] = some (.nx [.dat (scrD ns), .dat (.int k), .dat (.int c), .own ((acc ++ js.map (boxV1 ns k)).map pairI), .un, .un])
  | [], acc, _, _ => by
    rw [List.map_nil, List.map_nil, List.append_nil]
    rfl
  | j :: js, acc, hj, ha => by
    rw [List.length_cons] at ha
    have t := sbox_turn hl (c := c) hk hk2 (hj j List.mem_cons_self) acc (by omega)
    have ih := sbox_loop hl (c := c) hk hk2 js (acc ++ [boxV1 ns k j]) (fun i hi => hj i (List.mem_cons_of_mem _ hi)) (by rw [List.length_append, List.length_singleton]; omega)
    rw [List.append_assoc] at ih
    exact loop_cons (ρ1 := [.dat (scrD ns), .dat (.int k), .dat (.int c), .own (acc.map pairI), .dat (.int (j : Int)), .un]) rfl t ih
theorem sbox_at {ns : List Int} (hl : ns.length < 1000) {k : Int} (hk : 0 ≤ k) (hk2 : k < 90000) {c : Nat} (hc : c ≤ 10) : ∃ box : List (Int × Int), m__law_box [scrD ns, .int k, .int (c : Int)] = some (boxD box) ∧ box.length = c ∧ ∀ q ∈ box, BoxOk q := by
  refine ⟨(List.range c).map (boxV1 ns k), ?_, by rw [List.length_map, List.length_range], fun q hq => ?_⟩
  · have lo := sbox_loop hl (c := (c : Int)) hk hk2 (List.range c) [] (fun r hr => by have := List.mem_range.mp hr; omega) (by rw [List.length_range, List.length_nil]; omega)
    rw [List.nil_append, List.map_nil] at lo
    have rg : rng1 [.int (c : Int)] = some ((List.range c).map fun (k : Nat) => PyData.int (k : Int)) := rng_nat (by omega)
    generalize scrD ns = s at lo
    (apply run_ok; case hl => exact rfl); (unfold b__law_box; simp only [List.map_cons, List.map_nil, List.replicate, List.cons_append, List.nil_append])
    (iterate 1001 (first | (with_reducible apply rg <;> first | omega | skip) | (with_reducible apply lo <;> first | omega | skip)))
    rfl
  · obtain ⟨j, hj, rfl⟩ := List.mem_map.mp hq
    have hj := List.mem_range.mp hj
    have s1 := sd_rg (ns := ns) hl (k := k + 2 * (j : Int)) (below := 5) (by omega) (by omega) (by omega) (by omega)
    have s2 := sd_rg (ns := ns) hl (k := k + 2 * (j : Int) + 1) (below := 5) (by omega) (by omega) (by omega) (by omega)
    unfold boxV1 BoxOk
    simp only
    omega
theorem sparts_at {ns : List Int} (hl : ns.length < 1000) {k most : Int} (hk : 0 ≤ k) (hk2 : k < 80000) (hm : 0 ≤ most) (hm2 : most ≤ 20) {n m : Nat} (hn : 1 ≤ n ∧ n ≤ 3) (hm' : m ≤ 2) : ∃ M : Mach, MOk M ∧ M.n = n ∧ M.m = m ∧ m__law_parts [scrD ns, .int k, .int (n : Int), .int (m : Int), .int most] = some (pD M) := by
  have s1 := sd_at (ns := ns) hl (k := k) (below := 3) (by omega) (by omega) (by omega) (by omega)
  have s2 := sd_at (ns := ns) hl (k := k) (below := 2) (by omega) (by omega) (by omega) (by omega)
  have s3 := sd_at (ns := ns) hl (k := k + 32) (below := 9) (by omega) (by omega) (by omega) (by omega)
  have g1 := sd_rg (ns := ns) hl (k := k) (below := 3) (by omega) (by omega) (by omega) (by omega)
  have g2 := sd_rg (ns := ns) hl (k := k) (below := 2) (by omega) (by omega) (by omega) (by omega)
  have g3 := sd_rg (ns := ns) hl (k := k + 32) (below := 9) (by omega) (by omega) (by omega) (by omega)
  obtain ⟨p1, h1⟩ := Int.eq_ofNat_of_zero_le g1.1
  obtain ⟨p2, h2⟩ := Int.eq_ofNat_of_zero_le g2.1
  rw [h1] at s1 g1
  rw [h2] at s2 g2
  generalize sdV ns (k + 32) 9 = dv at s3 g3
  obtain ⟨a1, a2⟩ := smat_at hl (k := k + 2) (by omega) (by omega) hm hm2 hn.2 hn.2
  obtain ⟨b1, b2⟩ := smat_at hl (k := k + 12) (most := 3) (by omega) (by omega) (by decide) (by decide) hn.2 (w := m) (by omega)
  obtain ⟨il, i1, i2, i3⟩ := sbox_at hl (k := k + 34) (by omega) (by omega) (c := m) (by omega)
  by_cases e2 : n = 2
  · subst e2
    obtain ⟨e1, e2⟩ := smat_at hl (k := k + 22) (most := 2) (by omega) (by omega) (by decide) (by decide) hn.2 (w := p2) (by omega)
    obtain ⟨dl, l1, l2, l3⟩ := sbox_at hl (k := k + 40) (by omega) (by omega) (c := p2) (by omega)
    refine ⟨⟨2, m, p2, _, _, _, 1 + dv, il, dl⟩, ⟨hn, hm', by show p2 ≤ 2; omega, a2, b2, e2, ⟨by show 1 ≤ 1 + dv; omega, by show 1 + dv ≤ 100; omega⟩, ⟨i2, i3⟩, ⟨l2, l3⟩⟩, rfl, rfl, ?_⟩
    generalize scrD ns = s at s1 s2 s3 a1 b1 e1 i1 l1
    (apply run_ok; case hl => exact rfl); (unfold b__law_parts; simp only [List.map_cons, List.map_nil, List.replicate, List.cons_append, List.nil_append])
    (iterate 1001 (first | (with_reducible apply s1 <;> first | omega | skip) | (with_reducible apply s2 <;> first | omega | skip) | (with_reducible apply s3 <;> first | omega | skip) | (with_reducible apply a1 <;> first | omega | skip) | (with_reducible apply b1 <;> first | omega | skip) | (with_reducible apply e1 <;> first | omega | skip) | (with_reducible apply i1 <;> first | omega | skip) | (with_reducible apply l1 <;> first | omega | skip)))
    all_goals rfl
  · have hne : (n : Int) ≠ 2 := by omega
    obtain ⟨e1, e2⟩ := smat_at hl (k := k + 22) (most := 2) (by omega) (by omega) (by decide) (by decide) hn.2 (w := p1) (by omega)
    obtain ⟨dl, l1, l2, l3⟩ := sbox_at hl (k := k + 40) (by omega) (by omega) (c := p1) (by omega)
    refine ⟨⟨n, m, p1, _, _, _, 1 + dv, il, dl⟩, ⟨hn, hm', by show p1 ≤ 2; omega, a2, b2, e2, ⟨by show 1 ≤ 1 + dv; omega, by show 1 + dv ≤ 100; omega⟩, ⟨i2, i3⟩, ⟨l2, l3⟩⟩, rfl, rfl, ?_⟩
    generalize scrD ns = s at s1 s2 s3 a1 b1 e1 i1 l1
    (apply run_ok; case hl => exact rfl); (unfold b__law_parts; simp only [List.map_cons, List.map_nil, List.replicate, List.cons_append, List.nil_append])
    (iterate 1001 (first | (with_reducible apply s1 <;> first | omega | skip) | (with_reducible apply s2 <;> first | omega | skip) | (with_reducible apply s3 <;> first | omega | skip) | (with_reducible apply a1 <;> first | omega | skip) | (with_reducible apply b1 <;> first | omega | skip) | (with_reducible apply e1 <;> first | omega | skip) | (with_reducible apply i1 <;> first | omega | skip) | (with_reducible apply l1 <;> first | omega | skip)))
    all_goals rfl

noncomputable def ptV1 (ns : List Int) (k most : Int) (p : Nat) : Rat := Rat.divInt (sdV ns (k + 2 * (p : Int)) (2 * most + 1) - most) (1 + sdV ns (k + 2 * (p : Int) + 1) 4)
theorem spt_turn {ns : List Int} (hl : ns.length < 1000) {k most n : Int} (hk : 0 ≤ k) (hk2 : k < 90000) (hm : 0 ≤ most) (hm2 : most ≤ 20) {p : Nat} (hp : p < 100) (acc : List Rat) (ha : acc.length < 100) :
    lp__law_point_1 [.dat (scrD ns), .dat (.int k), .dat (.int n), .dat (.int most), .own (acc.map ratD), .dat (.int (p : Int)), .un] = some (.nx [.dat (scrD ns), .dat (.int k), .dat (.int n), .dat (.int most), .own ((acc ++ [ptV1 ns k most p]).map ratD), .un, .un]) ∧ Sm 6 (ptV1 ns k most p) := by
  have s1 := sd_at (ns := ns) hl (k := k + 2 * (p : Int)) (below := 2 * most + 1) (by omega) (by omega) (by omega) (by omega)
  have s2 := sd_at (ns := ns) hl (k := k + 2 * (p : Int) + 1) (below := 4) (by omega) (by omega) (by omega) (by omega)
  have g1 := sd_rg (ns := ns) hl (k := k + 2 * (p : Int)) (below := 2 * most + 1) (by omega) (by omega) (by omega) (by omega)
  have g2 := sd_rg (ns := ns) hl (k := k + 2 * (p : Int) + 1) (below := 4) (by omega) (by omega) (by omega) (by omega)
  have lb : (acc.map ratD).length < 100000 := by rw [List.length_map]; omega
  unfold ptV1
  generalize sdV ns (k + 2 * (p : Int)) (2 * most + 1) = v at s1 g1
  generalize sdV ns (k + 2 * (p : Int) + 1) 4 = d at s2 g2
  have b1 : (v - most).natAbs < 2 ^ 6 := by omega
  have b2 : (1 + d).natAbs < 2 ^ 6 := by omega
  have f := sfr_at (n := v - most) (d := 1 + d) (by omega) (lt_pow b1 (by decide)) (lt_pow b2 (by decide))
  refine ⟨?_, sm_divInt (by omega) b1 b2⟩
  rw [List.map_append]
  generalize scrD ns = s at s1 s2
  unfold lp__law_point_1
  apply val_eq
  (iterate 1001 (first | (with_reducible apply s1 <;> first | omega | skip) | (with_reducible apply s2 <;> first | omega | skip) | (with_reducible apply f <;> first | omega | skip) | (with_reducible apply lb <;> first | omega | skip)))
  all_goals first | rfl | exact mulOk_l (by decide)
theorem spt_loop {ns : List Int} (hl : ns.length < 1000) {k most n : Int} (hk : 0 ≤ k) (hk2 : k < 90000) (hm : 0 ≤ most) (hm2 : most ≤ 20) : ∀ (ps : List Nat) (acc : List Rat), (∀ j ∈ ps, j < 100) → acc.length + ps.length < 100 →
    loopD (gSet 5) lp__law_point_1 (ps.map fun (k : Nat) => PyData.int (k : Int)) [.dat (scrD ns), .dat (.int k), .dat (.int n), .dat (.int most), .own (acc.map ratD), .un, .un] = some (.nx [.dat (scrD ns), .dat (.int k), .dat (.int n), .dat (.int most), .own ((acc ++ ps.map (ptV1 ns k most)).map ratD), .un, .un])
  | [], acc, _, _ => by
    rw [List.map_nil, List.map_nil, List.append_nil]
    rfl
  | j :: js, acc, hj, ha => by
    rw [List.length_cons] at ha
    have t := (spt_turn hl (n := n) hk hk2 hm hm2 (hj j List.mem_cons_self) acc (by omega)).1
    have ih := spt_loop hl (n := n) hk hk2 hm hm2 js (acc ++ [ptV1 ns k most j]) (fun i hi => hj i (List.mem_cons_of_mem _ hi)) (by rw [List.length_append, List.length_singleton]; omega)
    rw [List.append_assoc] at ih
    exact loop_cons (ρ1 := [.dat (scrD ns), .dat (.int k), .dat (.int n), .dat (.int most), .own (acc.map ratD), .dat (.int (j : Int)), .un]) rfl t ih
theorem spoint_at {ns : List Int} (hl : ns.length < 1000) {k most : Int} (hk : 0 ≤ k) (hk2 : k < 90000) (hm : 0 ≤ most) (hm2 : most ≤ 20) {n : Nat} (hn : n ≤ 10) : ∃ qs : List Rat, m__law_point [scrD ns, .int k, .int (n : Int), .int most] = some (ptD qs) ∧ qs.length = n ∧ ∀ q ∈ qs, Sm 6 q := by
  refine ⟨(List.range n).map (ptV1 ns k most), ?_, by rw [List.length_map, List.length_range], fun q hq => ?_⟩
  · have lo := spt_loop hl (n := (n : Int)) hk hk2 hm hm2 (List.range n) [] (fun r hr => by have := List.mem_range.mp hr; omega) (by rw [List.length_range, List.length_nil]; omega)
    rw [List.nil_append, List.map_nil] at lo
    have rg : rng1 [.int (n : Int)] = some ((List.range n).map fun (k : Nat) => PyData.int (k : Int)) := rng_nat (by omega)
    generalize scrD ns = s at lo
    (apply run_ok; case hl => exact rfl); (unfold b__law_point; simp only [List.map_cons, List.map_nil, List.replicate, List.cons_append, List.nil_append])
    (iterate 1001 (first | (with_reducible apply rg <;> first | omega | skip) | (with_reducible apply lo <;> first | omega | skip)))
    rfl
  · obtain ⟨j, hj, rfl⟩ := List.mem_map.mp hq
    have hj := List.mem_range.mp hj
    exact (spt_turn hl (n := 0) hk hk2 hm hm2 (p := j) (by omega) [] (by decide)).2

/-! rows drawn back -/
theorem zipRet_at {ρ : Rho} {i : Nat} {c : Cell} {ma : Rho → Option (List D)} {mg : D → Rho → Option Rho} {mt : Rho → Option Bool} {me : Rho → Option D} {vs : List Nat} {ds ys : List D} (h0 : ρ[i]? = some c) (h1 : mL2 wZip ma ρ = some ds) (h2 : mLc (fun _ => some ds) mg mt me vs (ρ.set i .un) = some ys) : mZipRet i ma mg mt me vs ρ = some (.rt (.tuple ys)) := by
  unfold mZipRet
  rw [h0, h1, Option.bind_some, Option.bind_some, h2]
  rfl
theorem zipD_map {α β : Type} (f : α → D) (g : β → D) : ∀ (as : List α) (bs : List β), zipD (as.map f) (bs.map g) = (as.zip bs).map fun p => PyData.tuple [f p.1, g p.2]
  | [], _ => by simp [zipD]
  | _ :: _, [] => by simp [zipD]
  | a :: as, b :: bs => by
    have i := zipD_map f g as bs
    unfold zipD at i ⊢
    simp only [List.map_cons, List.zipWith_cons_cons, List.zip_cons_cons, i]
theorem ints_map (ns : List Int) : intsD (ns.map PyData.int) = some ns := by
  induction ns with
  | nil => rfl
  | cons n ns ih => simp only [List.map_cons, intsD, ih, Option.map_some]
def colS (ns : List Int) (L : List (List Int)) (j : Nat) : Int := ((ns.zip L).map fun p => p.1 * p.2.getD j 0).sum
def colsV (ns : List Int) (L : List (List Int)) (w : Nat) : List Int := (List.range w).map (colS ns L)
theorem tcols_at {h w : Nat} {L : List (List Int)} (o : MatOk h w L) (hh : h ≤ 3) (hw : w ≤ 3) (ns : List Int) (hn : ns.length = h) : m_times_columns [rowI ns, matD L, .int (w : Int)] = some (.list ((colsV ns L w).map PyData.int)) := by
  have cm : ∀ x3 x4 x5, mLc (mL2 rng1 (mCons (mVar 2) mNil)) (gSet 3) mYes el_times_columns_2 [3] [.dat (rowI ns), .dat (matD L), .dat (.int (w : Int)), x3, x4, x5] = some ((colsV ns L w).map PyData.int) := fun x3 x4 x5 => by
    unfold colsV
    rw [List.map_map]
    refine comp_at (fun (p : Nat) => PyData.int (p : Int)) _ (List.range w) ?_ (by rw [List.length_range]; omega) fun j hj => ?_
    · have rg : rng1 [.int (w : Int)] = some ((List.range w).map fun (k : Nat) => PyData.int (k : Int)) := rng_nat (by omega)
      (iterate 1001 (first | (with_reducible apply rg <;> first | omega | skip)))
    · have hj := List.mem_range.mp hj
      have ci : ∀ x4 x5, mLc (mL2 wZip (mCons (mVar 0) (mCons (mVar 1) mNil))) (gTupD (gsCons (gSet 4) (gsCons (gSet 5) gsNil))) mYes el_times_columns_1 [4, 5] [.dat (rowI ns), .dat (matD L), .dat (.int (w : Int)), .dat (.int (j : Int)), x4, x5] = some ((((ns.zip L).map fun p => p.1 * p.2.getD j 0)).map PyData.int) := fun x4 x5 => by
        rw [List.map_map]
        refine comp_at (fun (p : Int × List Int) => PyData.tuple [.int p.1, rowI p.2]) _ (ns.zip L) ?_ (by rw [List.length_zip]; omega) fun p hp => ?_
        · have wz : wZip [rowI ns, matD L] = some ((ns.zip L).map fun p => PyData.tuple [.int p.1, rowI p.2]) := by
            rw [zip_ok (xs := ns.map PyData.int) (ys := L.map rowI) rfl rfl, zipD_map]
          exact src_2 rfl wz
        · have h2 := (List.of_mem_zip (a := p.1) (b := p.2) hp).2
          have o2 := o.2 _ h2
          have ix := ixT_int p.2 (k := j) (by omega)
          have ix' : dIx (rowI p.2) (.int (j : Int)) = some (.int (p.2.getD j 0)) := ix
          have mk : mulOk p.1 (p.2.getD j 0) = true := mulOk_r (by
            have := o2.2 _ (getD_in (l := p.2) (k := j) (x0 := 0) (by omega))
            omega)
          generalize rowI p.2 = rr at ix'
          apply comp_el
          (iterate 1001 (first | (with_reducible apply un_el_times_columns_1 <;> first | omega | skip) | (with_reducible apply ix' <;> first | omega | skip) | (with_reducible apply dMul_ok mk <;> first | omega | skip)))
          rfl
      have sm := fn_sum (ints_map ((ns.zip L).map fun p => p.1 * p.2.getD j 0))
      apply comp_el
      (iterate 1001 (first | (with_reducible apply un_el_times_columns_2 <;> first | omega | skip) | (with_reducible apply ci <;> first | omega | skip) | (with_reducible apply sm <;> first | omega | skip)))
      rfl
  (apply run_ok; case hl => exact rfl); (unfold b_times_columns; simp only [List.map_cons, List.map_nil, List.replicate, List.cons_append, List.nil_append])
  (iterate 1001 (first | (with_reducible apply cm <;> first | omega | skip)))
  rfl
def worstV (ss : List Int) (dl : List (Int × Int)) : List Int := (ss.zip dl).map fun p => if p.1 > 0 then p.2.2 else p.2.1
theorem colsV_len {ns : List Int} {L : List (List Int)} {w : Nat} : (colsV ns L w).length = w := by unfold colsV; rw [List.length_map, List.length_range]
theorem worst_at {M : Mach} (o : MOk M) (ns : List Int) (hn : ns.length = M.n) : m_worst_disturbance [machD M, rowI ns] = some (rowI (worstV (colsV ns M.e M.p) M.dl)) := by
  have hn1 := o.hn
  have hp := o.hp
  have tc := tcols_at o.he (by omega) (by omega) ns hn
  have f1 : dFld (Str.ofString "Machine") (Str.ofString "matrix_e") (machD M) = some (matD M.e) := mk_e
  have f2 : dFld (Str.ofString "Machine") (Str.ofString "disturbances") (machD M) = some (.int (M.p : Int)) := mk_p
  have f3 : dFld (Str.ofString "Machine") (Str.ofString "disturbance_limits") (machD M) = some (boxD M.dl) := mk_dl
  have ll := o.hl.1
  have zr : ∀ x1, mZipRet 3 (mCons (mVar 2) (mCons (m1 (dFld (Str.ofString "Machine") (Str.ofString "disturbance_limits")) (mVar 0)) mNil)) (gTupD (gsCons (gSet 4) (gsCons (gTupD (gsCons (gSet 5) (gsCons (gSet 6) gsNil))) gsNil))) mYes el_worst_disturbance_1 [4, 5, 6] [.dat (machD M), x1, .dat (.list ((colsV ns M.e M.p).map PyData.int)), .un, .un, .un, .un] = some (.rt (rowI (worstV (colsV ns M.e M.p) M.dl))) := fun x1 => by
    have wz : wZip [.list ((colsV ns M.e M.p).map PyData.int), boxD M.dl] = some (((colsV ns M.e M.p).zip M.dl).map fun p => PyData.tuple [.int p.1, pairI p.2]) := by
      rw [zip_ok (xs := (colsV ns M.e M.p).map PyData.int) (ys := M.dl.map pairI) rfl rfl, zipD_map]
    refine zipRet_at (ds := ((colsV ns M.e M.p).zip M.dl).map fun p => PyData.tuple [.int p.1, pairI p.2]) rfl ?_ ?_
    · refine src_2 (ds := [.list ((colsV ns M.e M.p).map PyData.int), boxD M.dl]) ?_ wz
      generalize machD M = mm at f3
      (iterate 1001 (first | (with_reducible apply f3 <;> first | omega | skip)))
    · unfold worstV
      rw [List.map_map]
      refine comp_at (fun (p : Int × Int × Int) => PyData.tuple [.int p.1, pairI p.2]) _ ((colsV ns M.e M.p).zip M.dl) rfl (by rw [List.length_zip]; omega) fun p hp => ?_
      obtain ⟨z, lo, hi⟩ := p
      refine ⟨[.dat (machD M), x1, .dat (.list ((colsV ns M.e M.p).map PyData.int)), .un, .dat (.int z), .dat (.int lo), .dat (.int hi)], rfl, ?_⟩
      show el_worst_disturbance_1 _ = some (PyData.int (if z > 0 then hi else lo))
      refine un_el_worst_disturbance_1 ?_
      by_cases h : z > 0
      · rw [if_pos h]
        (iterate 1001 (first | fail))
      · rw [if_neg h]
        (iterate 1001 (first | fail))
  generalize machD M = mm at f1 f2 zr
  (apply run_ok; case hl => exact rfl); (unfold b_worst_disturbance; simp only [List.map_cons, List.map_nil, List.replicate, List.cons_append, List.nil_append])
  (iterate 1001 (first | (with_reducible apply f1 <;> first | omega | skip) | (with_reducible apply f2 <;> first | omega | skip) | (with_reducible apply tc <;> first | omega | skip) | (with_reducible apply zr <;> first | omega | skip)))
  rfl

/-! the divided row -/
def gfold (b : Int) (ns : List Int) : Int := ns.foldl (fun g x => ((Nat.gcd g.natAbs x.natAbs : Nat) : Int)) b
def gcdL (b : Int) (ns : List Int) : Nat := ns.foldl (fun g x => Nat.gcd g x.natAbs) b.natAbs
theorem gfold_nat : ∀ (ns : List Int) (b : Int), (gfold b ns).natAbs = gcdL b ns
  | [], b => rfl
  | n :: ns, b => gfold_nat ns _
theorem gfold_eq {ns : List Int} (b : Int) (h : ns ≠ []) : gfold b ns = (gcdL b ns : Int) := by
  match ns, h with
  | n :: ns, _ =>
    have nn : ∀ (ms : List Int) (c : Nat), 0 ≤ gfold (c : Int) ms := fun ms => by
      induction ms with
      | nil => exact fun c => Int.natCast_nonneg c
      | cons m ms ih => exact fun c => ih (Nat.gcd (c : Int).natAbs m.natAbs)
    have e := gfold_nat (n :: ns) b
    have p : 0 ≤ gfold b (n :: ns) := nn ns (Nat.gcd b.natAbs n.natAbs)
    omega
theorem gcdL_dvd : ∀ (ns : List Int) (b : Int), (gcdL b ns ∣ b.natAbs) ∧ ∀ n ∈ ns, gcdL b ns ∣ n.natAbs := by
  have go : ∀ (ns : List Int) (c : Nat), (ns.foldl (fun g x => Nat.gcd g x.natAbs) c ∣ c) ∧ ∀ n ∈ ns, ns.foldl (fun g x => Nat.gcd g x.natAbs) c ∣ n.natAbs := fun ns => by
    induction ns with
    | nil => exact fun c => ⟨Nat.dvd_refl _, fun n h => by cases h⟩
    | cons m ms ih =>
      intro c
      obtain ⟨h1, h2⟩ := ih (Nat.gcd c m.natAbs)
      refine ⟨Nat.dvd_trans h1 (Nat.gcd_dvd_left _ _), fun n hn => ?_⟩
      rcases List.mem_cons.mp hn with rfl | hn
      · exact Nat.dvd_trans h1 (Nat.gcd_dvd_right _ _)
      · exact h2 n hn
  exact fun ns b => go ns b.natAbs
def divRow (b : Int) (ns : List Int) : List Int × Int := (ns.map fun n => n.fdiv ((max 1 (gcdL b ns) : Nat) : Int), b.fdiv ((max 1 (gcdL b ns) : Nat) : Int))
theorem gcdL_lt {K : Nat} : ∀ (ns : List Int) (c : Nat), c < 2 ^ K → (∀ n ∈ ns, n.natAbs < 2 ^ K) → ns.foldl (fun g x => Nat.gcd g x.natAbs) c < 2 ^ K
  | [], c, h, _ => h
  | n :: ns, c, h, hn => by
    refine gcdL_lt ns _ ?_ fun m hm => hn m (List.mem_cons_of_mem _ hm)
    have h1 := hn n List.mem_cons_self
    show Nat.gcd c n.natAbs < 2 ^ K
    by_cases hc : c = 0
    · subst hc
      rw [Nat.gcd_zero_left]
      exact h1
    · exact Nat.lt_of_le_of_lt (Nat.le_of_dvd (by omega) (Nat.gcd_dvd_left _ _)) h
theorem gdv_at (a b : Int) : m_greatest_divisor [.int a, .int b] = some (.int ((Nat.gcd a.natAbs b.natAbs : Nat) : Int)) := by
  (apply run_ok; case hl => exact rfl); (unfold b_greatest_divisor; simp only [List.map_cons, List.map_nil, List.replicate, List.cons_append, List.nil_append])
  (iterate 1001 (first | fail))
  rfl
theorem divided_at (ns : List Int) (b : Int) (hne : ns ≠ []) (hl : ns.length < 100) (hb : b.natAbs < 2 ^ 1900) (hn : ∀ n ∈ ns, n.natAbs < 2 ^ 1900) : m_divided_row [.list (ns.map PyData.int), .int b] = some (rowD (divRow b ns)) := by
  have lo := (loop_fold (mg := gSet 3) (mb := lp_divided_row_1) PyData.int (fun g => [.dat (.list (ns.map PyData.int)), .dat (.int b), .dat (.int g), .un]) (fun (g x : Int) => ((Nat.gcd g.natAbs x.natAbs : Nat) : Int)) (fun _ => True) ns b trivial fun g x hx _ => ⟨trivial, [.dat (.list (ns.map PyData.int)), .dat (.int b), .dat (.int g), .dat (.int x)], rfl, by
    have gd := gdv_at g x
    unfold lp_divided_row_1
    apply val_eq
    (iterate 1001 (first | (with_reducible apply gd <;> first | omega | skip)))
    rfl⟩).1
  have lo' : loopD (gSet 3) lp_divided_row_1 (ns.map PyData.int) [.dat (.list (ns.map PyData.int)), .dat (.int b), .dat (.int b), .un] = some (.nx [.dat (.list (ns.map PyData.int)), .dat (.int b), .dat (.int (gfold b ns)), .un]) := lo
  rw [gfold_eq b hne] at lo'
  have gl : gcdL b ns < 2 ^ 1900 := gcdL_lt ns _ hb hn
  unfold divRow
  generalize gcdL b ns = G at lo' gl
  have ft : fTuple [.list (ns.map PyData.int)] = some (.tuple (ns.map PyData.int)) := rfl
  by_cases h0 : G = 0
  · subst h0
    have e : ns.map (fun n => n.fdiv ((max 1 0 : Nat) : Int)) = ns := by
      have : ∀ n : Int, n.fdiv ((max 1 0 : Nat) : Int) = n := fun n => Int.fdiv_one n
      simp only [this, List.map_id']
    rw [e, show b.fdiv ((max 1 0 : Nat) : Int) = b from Int.fdiv_one b]
    have lo2 : loopD (gSet 3) lp_divided_row_1 (ns.map PyData.int) [.dat (.list (ns.map PyData.int)), .dat (.int b), .dat (.int b), .un] = some (.nx [.dat (.list (ns.map PyData.int)), .dat (.int b), .dat (.int 0), .un]) := lo'
    (apply run_ok; case hl => exact rfl); (unfold b_divided_row; simp only [List.map_cons, List.map_nil, List.replicate, List.cons_append, List.nil_append])
    (iterate 1001 (first | (with_reducible apply lo2 <;> first | omega | skip) | (with_reducible apply ft <;> first | omega | skip)))
    rfl
  · rw [show max 1 G = G by omega]
    have o : divOk (G : Int) = true := divOk_n (b := 1900) (by omega) (by rw [Int.natAbs_natCast]; exact gl) (by decide)
    have cm : ∀ x, mLc (mSeqOf (mVar 0)) (gSet 3) mYes el_divided_row_1 [3] [.dat (.list (ns.map PyData.int)), .dat (.int b), .dat (.int (G : Int)), x] = some ((ns.map fun n => n.fdiv (G : Int)).map PyData.int) := fun x => by
      rw [List.map_map]
      refine comp_at PyData.int _ ns rfl (by omega) fun n hn' => ?_
      apply comp_el
      (iterate 1001 (first | (with_reducible apply un_el_divided_row_1 <;> first | omega | skip)))
      all_goals first | rfl | exact o | omega
    have hG : (G : Int) ≠ 0 := by omega
    (apply run_ok; case hl => exact rfl); (unfold b_divided_row; simp only [List.map_cons, List.map_nil, List.replicate, List.cons_append, List.nil_append])
    (iterate 1001 (first | (with_reducible apply lo' <;> first | omega | skip) | (with_reducible apply ft <;> first | omega | skip) | (with_reducible apply cm <;> first | omega | skip)))
    all_goals first | rfl | exact o | omega

/-- a sum of products of integers -/
def mulS (as bs : List Int) : Int := ((as.zip bs).map fun p => p.1 * p.2).sum
def backB (M : Mach) (ns : List Int) (b : Int) : Int := M.dv * b - mulS (colsV ns M.e M.p) (worstV (colsV ns M.e M.p) M.dl)
def backV (M : Mach) (ns : List Int) (b : Int) : List Int × Int := divRow (backB M ns b) (colsV ns M.a M.n)
theorem mulS_lt {A B : Nat} : ∀ (as bs : List Int), (∀ a ∈ as, a.natAbs < 2 ^ A) → (∀ b ∈ bs, b.natAbs < 2 ^ B) → (mulS as bs).natAbs < 2 ^ (A + B + as.length)
  | [], _, _, _ => Nat.pow_pos (by decide)
  | _ :: _, [], _, _ => Nat.pow_pos (by decide)
  | a :: as, b :: bs, ha, hb => by
    have i := mulS_lt as bs (fun x h => ha x (List.mem_cons_of_mem _ h)) fun x h => hb x (List.mem_cons_of_mem _ h)
    have k := mul_lt (ha a List.mem_cons_self) (hb b List.mem_cons_self)
    have e : mulS (a :: as) (b :: bs) = a * b + mulS as bs := by
      unfold mulS
      rw [List.zip_cons_cons, List.map_cons, List.sum_cons]
    rw [e, List.length_cons]
    exact lt_pow (add_lt (m := A + B + as.length) (lt_pow k (Nat.le_add_right _ _)) i) (by omega)
theorem colS_mul (ns : List Int) (L : List (List Int)) (j : Nat) : colS ns L j = mulS ns (L.map fun r => r.getD j 0) := by
  unfold colS mulS
  rw [List.zip_map_right, List.map_map]
  rfl
theorem colsV_lt {A h w : Nat} {L : List (List Int)} (o : MatOk h w L) {ns : List Int} (hn : ns.length ≤ 3) (ha : ∀ a ∈ ns, a.natAbs < 2 ^ A) : ∀ x ∈ colsV ns L w, x.natAbs < 2 ^ (A + 8) := fun x hx => by
  obtain ⟨j, hj, rfl⟩ := List.mem_map.mp hx
  have hj := List.mem_range.mp hj
  rw [colS_mul]
  refine lt_pow (mulS_lt (A := A) (B := 5) ns _ ha fun b hb => ?_) (by omega)
  obtain ⟨r, hr, rfl⟩ := List.mem_map.mp hb
  have := (o.2 r hr).2 _ (getD_in (l := r) (k := j) (x0 := 0) (by rw [(o.2 r hr).1]; exact hj))
  omega
theorem worstV_mem {ss : List Int} {dl : List (Int × Int)} (hb : ∀ q ∈ dl, BoxOk q) : ∀ x ∈ worstV ss dl, -20 ≤ x ∧ x ≤ 20 := fun x hx => by
  obtain ⟨p, hp, rfl⟩ := List.mem_map.mp hx
  obtain ⟨b1, b2, b3⟩ := hb _ (List.of_mem_zip (a := p.1) (b := p.2) hp).2
  split <;> omega
theorem back_lt {M : Mach} (o : MOk M) {ns : List Int} {b : Int} {A : Nat} (hn : ns.length = M.n) (ha : ∀ a ∈ ns, a.natAbs < 2 ^ A) (hb : b.natAbs < 2 ^ A) : (backB M ns b).natAbs < 2 ^ (A + 20) := by
  have hn1 := o.hn
  have hd := o.hd
  have hp := o.hp
  have h1 := mul_lt (a := M.dv) (m := 7) (by omega) hb
  have h2 := mulS_lt (A := A + 8) (B := 5) (colsV ns M.e M.p) (worstV (colsV ns M.e M.p) M.dl) (colsV_lt o.he (by omega) ha) fun x hx => by
    have := worstV_mem o.hl.2 x hx
    omega
  rw [colsV_len] at h2
  exact lt_pow (sub_lt (m := A + 16) (lt_pow h1 (by omega)) (lt_pow h2 (by omega))) (by omega)
theorem drawn_at {M : Mach} (o : MOk M) {ns : List Int} {b : Int} (hn : ns.length = M.n) (ha : ∀ a ∈ ns, a.natAbs < 2 ^ 200) (hb : b.natAbs < 2 ^ 200) : m_drawn_back [machD M, rowD (ns, b)] = some (rowD (backV M ns b)) := by
  have hn1 := o.hn
  have hp := o.hp
  have hd := o.hd
  have t1 := tcols_at o.ha (by omega) (by omega) ns hn
  have t2 := tcols_at o.he (by omega) (by omega) ns hn
  have wo := worst_at o ns hn
  have f1 : dFld (Str.ofString "Machine") (Str.ofString "matrix_e") (machD M) = some (matD M.e) := mk_e
  have f2 : dFld (Str.ofString "Machine") (Str.ofString "disturbances") (machD M) = some (.int (M.p : Int)) := mk_p
  have f3 : dFld (Str.ofString "Machine") (Str.ofString "matrix_a") (machD M) = some (matD M.a) := mk_a
  have f4 : dFld (Str.ofString "Machine") (Str.ofString "states") (machD M) = some (.int (M.n : Int)) := mk_n
  have f5 : dFld (Str.ofString "Machine") (Str.ofString "divisor") (machD M) = some (.int M.dv) := mk_dv
  have bl := back_lt o hn ha hb
  have cl := colsV_lt o.ha (ns := ns) (by omega) ha
  have el := colsV_lt o.he (ns := ns) (by omega) ha
  have wm := worstV_mem (ss := colsV ns M.e M.p) o.hl.2
  have dr := divided_at (colsV ns M.a M.n) (backB M ns b) (fun z => by have := colsV_len (ns := ns) (L := M.a) (w := M.n); rw [z] at this; simp at this; omega) (by rw [colsV_len]; omega) (lt_pow bl (by decide)) fun x hx => lt_pow (cl x hx) (by decide)
  have le := colsV_len (ns := ns) (L := M.e) (w := M.p)
  have cm : ∀ x5 x6 x7 x8, mLc (mL2 wZip (mCons (mVar 5) (mCons (mCall m_worst_disturbance [] (mCons (mVar 0) (mCons (mVar 2) mNil))) mNil))) (gTupD (gsCons (gSet 7) (gsCons (gSet 8) gsNil))) mYes el_drawn_back_1 [7, 8] [.dat (machD M), x5, .dat (rowI ns), .dat (.int b), .dat (.list ((colsV ns M.a M.n).map PyData.int)), .dat (.list ((colsV ns M.e M.p).map PyData.int)), x6, x7, x8] = some ((((colsV ns M.e M.p).zip (worstV (colsV ns M.e M.p) M.dl)).map fun p => p.1 * p.2).map PyData.int) := fun x5 x6 x7 x8 => by
    rw [List.map_map]
    refine comp_at (fun (p : Int × Int) => PyData.tuple [.int p.1, .int p.2]) _ ((colsV ns M.e M.p).zip (worstV (colsV ns M.e M.p) M.dl)) ?_ (by rw [List.length_zip]; omega) fun p hp => ?_
    · have wz : wZip [.list ((colsV ns M.e M.p).map PyData.int), rowI (worstV (colsV ns M.e M.p) M.dl)] = some (((colsV ns M.e M.p).zip (worstV (colsV ns M.e M.p) M.dl)).map fun p => PyData.tuple [.int p.1, .int p.2]) := by
        rw [zip_ok (xs := (colsV ns M.e M.p).map PyData.int) (ys := (worstV (colsV ns M.e M.p) M.dl).map PyData.int) rfl rfl, zipD_map]
      refine src_2 (ds := [.list ((colsV ns M.e M.p).map PyData.int), rowI (worstV (colsV ns M.e M.p) M.dl)]) ?_ wz
      generalize machD M = mm at wo
      (iterate 1001 (first | (with_reducible apply wo <;> first | omega | skip)))
    · have h2 := wm p.2 (List.of_mem_zip (a := p.1) (b := p.2) hp).2
      have mk : mulOk p.1 p.2 = true := mulOk_r (by omega)
      apply comp_el
      (iterate 1001 (first | (with_reducible apply un_el_drawn_back_1 <;> first | omega | skip) | (with_reducible apply dMul_ok mk <;> first | omega | skip)))
      rfl
  have sm := fn_sum (ints_map (((colsV ns M.e M.p).zip (worstV (colsV ns M.e M.p) M.dl)).map fun p => p.1 * p.2))
  have mk2 : mulOk M.dv b = true := mulOk_l (by omega)
  have dr' : m_divided_row [.list ((colsV ns M.a M.n).map PyData.int), .int (M.dv * b - (((colsV ns M.e M.p).zip (worstV (colsV ns M.e M.p) M.dl)).map fun p => p.1 * p.2).sum)] = some (rowD (backV M ns b)) := dr
  generalize machD M = mm at f1 f2 f3 f4 f5 cm wo
  generalize rowD (backV M ns b) = res at dr'
  unfold rowD
  (apply run_ok; case hl => exact rfl); (unfold b_drawn_back; simp only [List.map_cons, List.map_nil, List.replicate, List.cons_append, List.nil_append])
  (iterate 1001 (first | (with_reducible apply f1 <;> first | omega | skip) | (with_reducible apply f2 <;> first | omega | skip) | (with_reducible apply f3 <;> first | omega | skip) | (with_reducible apply f4 <;> first | omega | skip) | (with_reducible apply f5 <;> first | omega | skip) | (with_reducible apply t1 <;> first | omega | skip) | (with_reducible apply t2 <;> first | omega | skip) | (with_reducible apply cm <;> first | omega | skip) | (with_reducible apply sm <;> first | omega | skip) | (with_reducible apply dr' <;> first | omega | skip) | (with_reducible apply dMul_ok mk2 <;> first | omega | skip)))
  all_goals rfl

/-! the row drawn back, as the script laws work it out -/
theorem zip_zw {α β γ : Type} (f : α → β → γ) : ∀ (as : List α) (bs : List β), (as.zip bs).map (fun p => f p.1 p.2) = List.zipWith f as bs
  | [], _ => by simp
  | _ :: _, [] => by simp
  | a :: as, b :: bs => by rw [List.zip_cons_cons, List.map_cons, List.zipWith_cons_cons, zip_zw f as bs]
theorem colS_range {n : Nat} (ns : List Int) (L : List (List Int)) (j : Nat) (h1 : ns.length = n) (h2 : L.length = n) : (ns.zip L).map (fun p => p.1 * p.2.getD j 0) = (List.range n).map fun k => ns.getD k 0 * (L.getD k []).getD j 0 := by
  rw [zip_zw (fun (a : Int) (r : List Int) => a * r.getD j 0)]
  exact zipWith_range _ 0 [] ns L n h1 h2
theorem rowI_len (ns : List Int) : fLen [rowI ns] = some (.int (ns.length : Int)) := congrArg (fun n : Nat => some (PyData.int (n : Int))) (List.length_map _)
theorem boxD_len (l : List (Int × Int)) : fLen [boxD l] = some (.int (l.length : Int)) := congrArg (fun n : Nat => some (PyData.int (n : Int))) (List.length_map _)
theorem ixE {h w : Nat} {L : List (List Int)} (o : MatOk h w L) {k j : Nat} (hk : k < h) (hj : j < w) : dIx (rowI (L.getD k [])) (.int (j : Int)) = some (.int ((L.getD k []).getD j 0)) := ixT_int _ (by rw [(getD_row o hk).1]; exact hj)
theorem mulE {h w : Nat} {L : List (List Int)} (o : MatOk h w L) {k j : Nat} (hk : k < h) (hj : j < w) (z : Int) : mulOk z ((L.getD k []).getD j 0) = true := mulOk_r (by
  have := (getD_row o hk).2 _ (getD_in (l := L.getD k []) (k := j) (x0 := 0) (by rw [(getD_row o hk).1]; exact hj))
  omega)
theorem spush_turn {M : Mach} (o : MOk M) {ns : List Int} (hn : ns.length = M.n) {j : Nat} (hj : j < M.p) (acc : List Int) (ha : acc.length < 100) :
    lp__law_pushes_1 [.dat (pD M), .dat (rowI ns), .own (acc.map PyData.int), .dat (.int (j : Int)), .un] = some (.nx [.dat (pD M), .dat (rowI ns), .own ((acc ++ [colS ns M.e j]).map PyData.int), .un, .un]) := by
  have hn1 := o.hn
  have ln := rowI_len ns
  rw [hn] at ln
  have cm : ∀ x, mLc (mL2 rng1 (mCons (mFn fLen (mCons (mVar 1) mNil)) mNil)) (gSet 4) mYes el__law_pushes_1 [4] [.dat (pD M), .dat (rowI ns), .own (acc.map PyData.int), .dat (.int (j : Int)), x] = some (((ns.zip M.e).map fun p => p.1 * p.2.getD j 0).map PyData.int) := fun x => by
    rw [colS_range (n := M.n) ns M.e j hn o.he.1, List.map_map]
    refine comp_at (fun (p : Nat) => PyData.int (p : Int)) _ (List.range M.n) ?_ (by rw [List.length_range]; omega) fun k hk => ?_
    · have rg : rng1 [.int (M.n : Int)] = some ((List.range M.n).map fun (k : Nat) => PyData.int (k : Int)) := rng_nat (by omega)
      generalize rowI ns = rr at ln
      (iterate 1001 (first | (with_reducible apply ln <;> first | omega | skip) | (with_reducible apply rg <;> first | omega | skip)))
    · have hk := List.mem_range.mp hk
      have i1 : dIx (rowI ns) (.int (k : Int)) = some (.int (ns.getD k 0)) := ixT_int ns (by omega)
      have i2 := ixM o.he hk
      have i3 := ixE o.he hk hj
      have mk := mulE o.he hk hj (ns.getD k 0)
      have k1 := pk_e (M := M)
      generalize rowI ns = rr at i1
      generalize pD M = pp at k1
      generalize rowI (M.e.getD k []) = r2 at i2 i3
      apply comp_el
      (iterate 1001 (first | (with_reducible apply un_el__law_pushes_1 <;> first | omega | skip) | (with_reducible apply k1 <;> first | omega | skip) | (with_reducible apply i1 <;> first | omega | skip) | (with_reducible apply i2 <;> first | omega | skip) | (with_reducible apply i3 <;> first | omega | skip) | (with_reducible apply dMul_ok mk <;> first | omega | skip)))
      rfl
  have sm := fn_sum (ints_map ((ns.zip M.e).map fun p => p.1 * p.2.getD j 0))
  have lb : (acc.map PyData.int).length < 100000 := by rw [List.length_map]; omega
  rw [List.map_append]
  unfold colS
  unfold lp__law_pushes_1
  apply val_eq
  (iterate 1001 (first | (with_reducible apply cm <;> first | omega | skip) | (with_reducible apply sm <;> first | omega | skip) | (with_reducible apply lb <;> first | omega | skip)))
  rfl
theorem spush_loop {M : Mach} (o : MOk M) {ns : List Int} (hn : ns.length = M.n) : ∀ (js : List Nat) (acc : List Int), (∀ j ∈ js, j < M.p) → acc.length + js.length < 100 →
    loopD (gSet 3) lp__law_pushes_1 (js.map fun (k : Nat) => PyData.int (k : Int)) [.dat (pD M), .dat (rowI ns), .own (acc.map PyData.int), .un, .un] = some (.nx [.dat (pD M), .dat (rowI ns), .own ((acc ++ js.map (colS ns M.e)).map PyData.int), .un, .un])
  | [], acc, _, _ => by
    rw [List.map_nil, List.map_nil, List.append_nil]
    rfl
  | j :: js, acc, hj, ha => by
    rw [List.length_cons] at ha
    have t := spush_turn o hn (hj j List.mem_cons_self) acc (by omega)
    have ih := spush_loop o hn js (acc ++ [colS ns M.e j]) (fun i hi => hj i (List.mem_cons_of_mem _ hi)) (by rw [List.length_append, List.length_singleton]; omega)
    rw [List.append_assoc] at ih
    exact loop_cons (ρ1 := [.dat (pD M), .dat (rowI ns), .own (acc.map PyData.int), .dat (.int (j : Int)), .un]) rfl t ih
theorem spush_at {M : Mach} (o : MOk M) {ns : List Int} (hn : ns.length = M.n) : m__law_pushes [pD M, rowI ns] = some (.list ((colsV ns M.e M.p).map PyData.int)) := by
  have hp := o.hp
  have lo := spush_loop o hn (List.range M.p) [] (fun j hj => List.mem_range.mp hj) (by rw [List.length_range, List.length_nil]; omega)
  rw [List.nil_append, List.map_nil] at lo
  have rg : rng1 [.int (M.p : Int)] = some ((List.range M.p).map fun (k : Nat) => PyData.int (k : Int)) := rng_nat (by omega)
  have ln := boxD_len M.dl
  rw [o.hl.1] at ln
  have k1 := pk_p (M := M)
  generalize pD M = pp at k1 lo
  generalize boxD M.dl = bb at k1 ln
  (apply run_ok; case hl => exact rfl); (unfold b__law_pushes; simp only [List.map_cons, List.map_nil, List.replicate, List.cons_append, List.nil_append])
  (iterate 1001 (first | (with_reducible apply k1 <;> first | omega | skip) | (with_reducible apply ln <;> first | omega | skip) | (with_reducible apply rg <;> first | omega | skip) | (with_reducible apply lo <;> first | omega | skip)))
  rfl
theorem sbef_turn {M : Mach} (o : MOk M) {ns : List Int} (hn : ns.length = M.n) {b : Int} {j : Nat} (hj : j < M.n) (acc : List Int) (ha : acc.length < 100) :
    lp__law_back_1 [.dat (pD M), .un, .dat (rowI ns), .dat (.int b), .own (acc.map PyData.int), .dat (.int (j : Int)), .un, .un, .un, .un, .un, .un] = some (.nx [.dat (pD M), .un, .dat (rowI ns), .dat (.int b), .own ((acc ++ [colS ns M.a j]).map PyData.int), .un, .un, .un, .un, .un, .un, .un]) := by
  have hn1 := o.hn
  have ln := rowI_len ns
  rw [hn] at ln
  have cm : ∀ x, mLc (mL2 rng1 (mCons (mFn fLen (mCons (mVar 2) mNil)) mNil)) (gSet 11) mYes el__law_back_1 [11] [.dat (pD M), .un, .dat (rowI ns), .dat (.int b), .own (acc.map PyData.int), .dat (.int (j : Int)), .un, .un, .un, .un, .un, x] = some (((ns.zip M.a).map fun p => p.1 * p.2.getD j 0).map PyData.int) := fun x => by
    rw [colS_range (n := M.n) ns M.a j hn o.ha.1, List.map_map]
    refine comp_at (fun (p : Nat) => PyData.int (p : Int)) _ (List.range M.n) ?_ (by rw [List.length_range]; omega) fun k hk => ?_
    · have rg : rng1 [.int (M.n : Int)] = some ((List.range M.n).map fun (k : Nat) => PyData.int (k : Int)) := rng_nat (by omega)
      generalize rowI ns = rr at ln
      (iterate 1001 (first | (with_reducible apply ln <;> first | omega | skip) | (with_reducible apply rg <;> first | omega | skip)))
    · have hk := List.mem_range.mp hk
      have i1 : dIx (rowI ns) (.int (k : Int)) = some (.int (ns.getD k 0)) := ixT_int ns (by omega)
      have i2 := ixM o.ha hk
      have i3 := ixE o.ha hk hj
      have mk := mulE o.ha hk hj (ns.getD k 0)
      have k1 := pk_a (M := M)
      generalize rowI ns = rr at i1
      generalize pD M = pp at k1
      generalize rowI (M.a.getD k []) = r2 at i2 i3
      apply comp_el
      (iterate 1001 (first | (with_reducible apply un_el__law_back_1 <;> first | omega | skip) | (with_reducible apply k1 <;> first | omega | skip) | (with_reducible apply i1 <;> first | omega | skip) | (with_reducible apply i2 <;> first | omega | skip) | (with_reducible apply i3 <;> first | omega | skip) | (with_reducible apply dMul_ok mk <;> first | omega | skip)))
      rfl
  have sm := fn_sum (ints_map ((ns.zip M.a).map fun p => p.1 * p.2.getD j 0))
  have lb : (acc.map PyData.int).length < 100000 := by rw [List.length_map]; omega
  rw [List.map_append]
  unfold colS
  unfold lp__law_back_1
  apply val_eq
  (iterate 1001 (first | (with_reducible apply cm <;> first | omega | skip) | (with_reducible apply sm <;> first | omega | skip) | (with_reducible apply lb <;> first | omega | skip)))
  rfl
theorem sbef_loop {M : Mach} (o : MOk M) {ns : List Int} (hn : ns.length = M.n) {b : Int} : ∀ (js : List Nat) (acc : List Int), (∀ j ∈ js, j < M.n) → acc.length + js.length < 100 →
    loopD (gSet 5) lp__law_back_1 (js.map fun (k : Nat) => PyData.int (k : Int)) [.dat (pD M), .un, .dat (rowI ns), .dat (.int b), .own (acc.map PyData.int), .un, .un, .un, .un, .un, .un, .un] = some (.nx [.dat (pD M), .un, .dat (rowI ns), .dat (.int b), .own ((acc ++ js.map (colS ns M.a)).map PyData.int), .un, .un, .un, .un, .un, .un, .un])
  | [], acc, _, _ => by
    rw [List.map_nil, List.map_nil, List.append_nil]
    rfl
  | j :: js, acc, hj, ha => by
    rw [List.length_cons] at ha
    have t := sbef_turn o hn (b := b) (hj j List.mem_cons_self) acc (by omega)
    have ih := sbef_loop o hn (b := b) js (acc ++ [colS ns M.a j]) (fun i hi => hj i (List.mem_cons_of_mem _ hi)) (by rw [List.length_append, List.length_singleton]; omega)
    rw [List.append_assoc] at ih
    exact loop_cons (ρ1 := [.dat (pD M), .un, .dat (rowI ns), .dat (.int b), .own (acc.map PyData.int), .dat (.int (j : Int)), .un, .un, .un, .un, .un, .un]) rfl t ih

/-! corners: one end of each pair -/
def IsC : List (Int × Int) → List Int → Prop
  | [], [] => True
  | p :: box, x :: t => (x = p.1 ∨ x = p.2) ∧ IsC box t
  | _, _ => False
theorem foldC_iff : ∀ (box : List (Int × Int)) (cs : List (List Int)) (d : List Int), d ∈ box.foldl stepC cs ↔ ∃ c ∈ cs, ∃ t, IsC box t ∧ d = c ++ t
  | [], cs, d => by
    refine ⟨fun h => ⟨d, h, [], trivial, (List.append_nil d).symm⟩, fun ⟨c, h1, t, h2, h3⟩ => ?_⟩
    cases t with
    | nil => rw [h3, List.append_nil]; exact h1
    | cons x t => exact h2.elim
  | p :: box, cs, d => by
    rw [List.foldl_cons, foldC_iff box (stepC cs p) d]
    have mem : ∀ c', c' ∈ stepC cs p ↔ ∃ c ∈ cs, ∃ x, (x = p.1 ∨ x = p.2) ∧ c' = c ++ [x] := fun c' => by
      unfold stepC
      rw [List.mem_flatMap]
      refine exists_congr fun c => and_congr_right fun _ => ?_
      unfold goC
      split
      · rename_i e
        rw [List.mem_singleton]
        refine ⟨fun h => ⟨p.1, .inl rfl, h⟩, fun ⟨x, hx, h⟩ => ?_⟩
        rcases hx with rfl | rfl
        · exact h
        · rw [h, e]
      · rw [List.mem_cons, List.mem_singleton]
        refine ⟨fun h => ?_, fun ⟨x, hx, h⟩ => ?_⟩
        · rcases h with h | h
          · exact ⟨p.1, .inl rfl, h⟩
          · exact ⟨p.2, .inr rfl, h⟩
        · rcases hx with rfl | rfl
          · exact .inl h
          · exact .inr h
    refine ⟨fun ⟨c', h1, t, h2, h3⟩ => ?_, fun ⟨c, h1, t, h2, h3⟩ => ?_⟩
    · obtain ⟨c, k1, x, k2, k3⟩ := (mem c').mp h1
      exact ⟨c, k1, x :: t, ⟨k2, h2⟩, by rw [h3, k3, List.append_assoc]; rfl⟩
    · cases t with
      | nil => exact h2.elim
      | cons x t => exact ⟨c ++ [x], (mem _).mpr ⟨c, h1, x, h2.1, rfl⟩, t, h2.2, by rw [h3, List.append_assoc]; rfl⟩
theorem corner_iff (box : List (Int × Int)) (d : List Int) : d ∈ cornersL box ↔ IsC box d := by
  unfold cornersL
  rw [foldC_iff]
  refine ⟨fun ⟨c, h1, t, h2, h3⟩ => ?_, fun h => ⟨[], List.mem_singleton.mpr rfl, d, h, rfl⟩⟩
  rw [List.mem_singleton] at h1
  subst h1
  rw [h3]
  exact h2
theorem isC_len : ∀ {box : List (Int × Int)} {t : List Int}, IsC box t → t.length = box.length
  | [], [], _ => rfl
  | p :: box, x :: t, h => by rw [List.length_cons, List.length_cons, isC_len h.2]
  | [], _ :: _, h => h.elim
  | _ :: _, [], h => h.elim
theorem mulS_cons (a b : Int) (as bs : List Int) : mulS (a :: as) (b :: bs) = a * b + mulS as bs := by
  unfold mulS
  rw [List.zip_cons_cons, List.map_cons, List.sum_cons]
theorem mulS_nil (as : List Int) : mulS as [] = 0 := by
  unfold mulS
  rw [List.zip_nil_right]
  rfl
theorem worst_isC : ∀ (ss : List Int) (box : List (Int × Int)), ss.length = box.length → IsC box (worstV ss box)
  | [], [], _ => trivial
  | s :: ss, p :: box, h => by
    refine ⟨?_, worst_isC ss box (by simpa using h)⟩
    show (if s > 0 then p.2 else p.1) = p.1 ∨ (if s > 0 then p.2 else p.1) = p.2
    split
    · exact .inr rfl
    · exact .inl rfl
  | [], _ :: _, h => by simp at h
  | _ :: _, [], h => by simp at h
theorem worst_max : ∀ (ss : List Int) (box : List (Int × Int)) (t : List Int), ss.length = box.length → (∀ q ∈ box, q.1 ≤ q.2) → IsC box t → mulS ss t ≤ mulS ss (worstV ss box)
  | [], [], [], _, _, _ => Int.le_refl _
  | s :: ss, p :: box, x :: t, h, hb, hc => by
    have i := worst_max ss box t (by simpa using h) (fun q hq => hb q (List.mem_cons_of_mem _ hq)) hc.2
    have hp := hb p List.mem_cons_self
    have e : worstV (s :: ss) (p :: box) = (if s > 0 then p.2 else p.1) :: worstV ss box := rfl
    rw [e, mulS_cons, mulS_cons]
    refine Int.add_le_add ?_ i
    split
    · rename_i hs
      refine Int.mul_le_mul_of_nonneg_left ?_ (by omega)
      rcases hc.1 with r | r <;> omega
    · rename_i hs
      refine Int.mul_le_mul_of_nonpos_left (by omega) ?_
      rcases hc.1 with r | r <;> omega
  | [], _ :: _, _, h, _, _ => by simp at h
  | _ :: _, [], _, h, _, _ => by simp at h
  | [], [], _ :: _, _, _, h => h.elim
  | _ :: _, _ :: _, [], _, _, h => h.elim
theorem maxZ_is {ns : List Int} {m : Int} (h1 : m ∈ ns) (h2 : ∀ y ∈ ns, y ≤ m) : maxZ ns = some m := by
  have ne : ∃ k, maxZ ns = some k := by
    match ns, h1 with
    | i :: is, _ =>
      unfold maxZ
      cases maxZ is with
      | none => exact ⟨_, rfl⟩
      | some j => exact ⟨_, rfl⟩
  obtain ⟨k, hk⟩ := ne
  obtain ⟨k1, k2⟩ := maxZ_le hk
  rw [hk]
  have := h2 k k1
  have := k2 m h1
  congr 1
  omega
theorem dot_cast : ∀ (as cs : List Int), dotq as (cs.map fun (c : Int) => (c : Rat)) = ((mulS as cs : Int) : Rat)
  | [], _ => rfl
  | _ :: _, [] => by
    rw [mulS_nil]
    rfl
  | a :: as, c :: cs => by
    rw [List.map_cons, dotq, dot_cast as cs, mulS_cons, Rat.intCast_add, Rat.intCast_mul]
theorem cornerQ_pt (c : List Int) : cornerQ c = ptD (c.map fun (c : Int) => (c : Rat)) := by
  unfold cornerQ ptD
  rw [List.map_map]
  rfl
theorem corner_sm {box : List (Int × Int)} (hb : ∀ q ∈ box, BoxOk q) : ∀ {c : List Int}, IsC box c → ∀ x ∈ c, -20 ≤ x ∧ x ≤ 20 := by
  induction box with
  | nil =>
    intro c h x hx
    cases c with
    | nil => cases hx
    | cons => exact h.elim
  | cons p box ih =>
    intro c h x hx
    cases c with
    | nil => exact h.elim
    | cons y c =>
      obtain ⟨b1, b2, b3⟩ := hb p List.mem_cons_self
      rcases List.mem_cons.mp hx with rfl | hx
      · rcases h.1 with r | r <;> omega
      · exact ih (fun q hq => hb q (List.mem_cons_of_mem _ hq)) h.2 x hx
theorem cornQ_sm {box : List (Int × Int)} (hb : ∀ q ∈ box, BoxOk q) {c : List Int} (h : IsC box c) : ∀ q ∈ c.map (fun (c : Int) => (c : Rat)), Sm 6 q := fun q hq => by
  obtain ⟨x, hx, rfl⟩ := List.mem_map.mp hq
  have := corner_sm hb h x hx
  exact sm_int (by omega) (by decide)
theorem ssize_loop {ns : List Int} {B : Nat} (hB : B ≤ 1900) {b : Int} (hb : b.natAbs < 2 ^ B) (hn : ∀ n ∈ ns, n.natAbs < 2 ^ B) {c0 c3 c4 : Cell} : loopD (gSet 9) lp__law_back_2 (ns.map PyData.int) [c0, .un, .un, c3, c4, .un, .un, .un, .dat (.int (b.natAbs : Int)), .un, .un, .un] = some (.nx [c0, .un, .un, c3, c4, .un, .un, .un, .dat (.int (gcdL b ns : Int)), .un, .un, .un]) := by
  have lo := (loop_fold (mg := gSet 9) (mb := lp__law_back_2) PyData.int (fun (g : Nat) => [c0, .un, .un, c3, c4, .un, .un, .un, .dat (.int (g : Int)), .un, .un, .un]) (fun (g : Nat) (x : Int) => Nat.gcd g x.natAbs) (fun g => g < 2 ^ B) ns b.natAbs hb fun g x hx hg => by
    have hxl := hn x hx
    refine ⟨?_, [c0, .un, .un, c3, c4, .un, .un, .un, .dat (.int (g : Int)), .dat (.int x), .un, .un], rfl, ?_⟩
    · by_cases hc : g = 0
      · subst hc
        rw [Nat.gcd_zero_left]
        exact hxl
      · exact Nat.lt_of_le_of_lt (Nat.le_of_dvd (by omega) (Nat.gcd_dvd_left _ _)) hg
    · by_cases hc : g = 0
      · subst hc
        rw [Nat.gcd_zero_left]
        unfold lp__law_back_2
        apply val_eq
        (iterate 1001 (first | fail))
        rfl
      · have hg0 : (g : Int) ≠ 0 := by omega
        by_cases hx0 : x = 0
        · subst hx0
          rw [show Nat.gcd g (Int.natAbs 0) = g from Nat.gcd_zero_right g]
          have e0 : dNe (.int 0) (.int 0) = some (.bool false) := rfl
          unfold lp__law_back_2
          apply val_eq
          (iterate 1001 (first | (with_reducible apply e0 <;> first | omega | skip)))
          all_goals rfl
        · have hm : max 1 (Nat.gcd g x.natAbs) = Nat.gcd g x.natAbs := by
            have := Nat.gcd_pos_of_pos_left x.natAbs (show 0 < g by omega)
            omega
          have sd := sdiv_at (a := (g : Int)) (b := x) (by rw [Int.natAbs_natCast]; exact lt_pow hg (by omega)) (lt_pow hxl (by omega))
          rw [Int.natAbs_natCast, hm] at sd
          have e1 := ne_I hx0
          unfold lp__law_back_2
          apply val_eq
          (iterate 1001 (first | (with_reducible apply sd <;> first | omega | skip) | (with_reducible apply e1 <;> first | omega | skip)))
          all_goals rfl).1
  exact lo

theorem sback_at {M : Mach} (o : MOk M) {ns : List Int} {b : Int} (hn : ns.length = M.n) (ha : ∀ a ∈ ns, a.natAbs < 2 ^ 200) (hb : b.natAbs < 2 ^ 200) : m__law_back [pD M, rowD (ns, b)] = some (rowD (backV M ns b)) := by
  have hn1 := o.hn
  have hp := o.hp
  have hd := o.hd
  have bl := back_lt o hn ha hb
  have cl := colsV_lt o.ha (ns := ns) (by omega) ha
  have el := colsV_lt o.he (ns := ns) (by omega) ha
  have le := colsV_len (ns := ns) (L := M.e) (w := M.p)
  have la := colsV_len (ns := ns) (L := M.a) (w := M.n)
  have hl := o.hl
  have ln := rowI_len ns
  rw [hn] at ln
  have rg : rng1 [.int (M.n : Int)] = some ((List.range M.n).map fun (k : Nat) => PyData.int (k : Int)) := rng_nat (by omega)
  have lo1 := sbef_loop o hn (b := b) (List.range M.n) [] (fun j hj => List.mem_range.mp hj) (by rw [List.length_range, List.length_nil]; omega)
  rw [List.nil_append, List.map_nil] at lo1
  have lo1' : loopD (gSet 5) lp__law_back_1 ((List.range M.n).map fun (k : Nat) => PyData.int (k : Int)) [.dat (pD M), .un, .dat (rowI ns), .dat (.int b), .own [], .un, .un, .un, .un, .un, .un, .un] = some (.nx [.dat (pD M), .un, .dat (rowI ns), .dat (.int b), .own ((colsV ns M.a M.n).map PyData.int), .un, .un, .un, .un, .un, .un, .un]) := lo1
  have pu := spush_at o hn
  have co := scorners_at M.dl (fun q hq => (hl.2 q hq).2.1) (by omega)
  have cm : ∀ x2 x4 x10, mLc (mSeqOf (mCall m__law_corners [] (mCons (m1 (dKey (Str.ofString "pushes")) (mVar 0)) mNil))) (gSet 10) mYes el__law_back_2 [10] [.dat (pD M), .un, x2, .dat (.int b), x4, .un, .dat (.list ((colsV ns M.e M.p).map PyData.int)), .un, .un, .un, x10, .un] = some (((cornersL M.dl).map (mulS (colsV ns M.e M.p))).map PyData.int) := fun x2 x4 x10 => by
    rw [List.map_map]
    refine comp_at cornerQ _ (cornersL M.dl) ?_ (by have := cornersL_len M.dl; rw [hl.1] at this; have : 2 ^ M.p ≤ 2 ^ 2 := Nat.pow_le_pow_right (by decide) hp; omega) fun c hc => ?_
    · have k1 := pk_p (M := M)
      have sq : ∀ ds : List D, seqOf (.list ds) = some ds := fun _ => rfl
      generalize pD M = pp at k1
      (iterate 1001 (first | (with_reducible apply k1 <;> first | omega | skip) | (with_reducible apply co <;> first | omega | skip) | (with_reducible apply sq <;> first | omega | skip)))
    · have ic := (corner_iff M.dl c).mp hc
      have cl' := isC_len ic
      have d := (sdot_at (A := 208) (B := 6) (s := .list ((colsV ns M.e M.p).map PyData.int)) (t := cornerQ c) (by decide) (as := colsV ns M.e M.p) (qs := c.map fun (c : Int) => (c : Rat)) (congrArg (fun n : Nat => some (PyData.int (n : Int))) (List.length_map _)) (fun k h => ixL_int _ h) (fun k h => by rw [cornerQ_pt]; exact ixP _ h) (by rw [List.length_map]; omega) el (cornQ_sm hl.2 ic) (by omega) (by decide)).1
      rw [dot_cast] at d
      have i0 : dIx (ratD ((mulS (colsV ns M.e M.p) c : Int) : Rat)) (.int 0) = some (.int (mulS (colsV ns M.e M.p) c)) := rfl
      generalize ratD ((mulS (colsV ns M.e M.p) c : Int) : Rat) = rr at d i0
      generalize cornerQ c = cc at d
      apply comp_el
      (iterate 1001 (first | (with_reducible apply un_el__law_back_2 <;> first | omega | skip) | (with_reducible apply d <;> first | omega | skip) | (with_reducible apply i0 <;> first | omega | skip)))
      rfl
  have wm : worstV (colsV ns M.e M.p) M.dl ∈ cornersL M.dl := (corner_iff _ _).mpr (worst_isC _ _ (by omega))
  have mx : fMax [.list (((cornersL M.dl).map (mulS (colsV ns M.e M.p))).map PyData.int)] = some (.int (mulS (colsV ns M.e M.p) (worstV (colsV ns M.e M.p) M.dl))) := by
    show ((intsD _).bind fun ns => (maxZ ns).map PyData.int) = _
    rw [ints_map, Option.bind_some, maxZ_is (List.mem_map_of_mem wm) fun y hy => ?_]
    · rfl
    · obtain ⟨c, hc, rfl⟩ := List.mem_map.mp hy
      exact worst_max _ _ c (by omega) (fun q hq => (hl.2 q hq).2.1) ((corner_iff _ _).mp hc)
  have mk2 : mulOk M.dv b = true := mulOk_l (by omega)
  have lo2 := fun c0 c3 c4 => ssize_loop (B := 300) (by decide) (ns := colsV ns M.a M.n) (b := backB M ns b) (lt_pow bl (by decide)) (fun x hx => lt_pow (cl x hx) (by decide)) (c0 := c0) (c3 := c3) (c4 := c4)
  have gl : gcdL (backB M ns b) (colsV ns M.a M.n) < 2 ^ 1900 := gcdL_lt _ _ (lt_pow bl (by decide)) fun x hx => lt_pow (cl x hx) (by decide)
  have mx1 : fMax [.int 1, .int (gcdL (backB M ns b) (colsV ns M.a M.n) : Int)] = some (.int ((max 1 (gcdL (backB M ns b) (colsV ns M.a M.n)) : Nat) : Int)) := by
    show some (PyData.int (if ((gcdL (backB M ns b) (colsV ns M.a M.n) : Nat) : Int) > 1 then _ else _)) = _
    congr 2
    split <;> omega
  have od : divOk ((max 1 (gcdL (backB M ns b) (colsV ns M.a M.n)) : Nat) : Int) = true := divOk_n (b := 1900) (by omega) (by rw [Int.natAbs_natCast]; exact Nat.max_lt.mpr ⟨Nat.one_lt_two_pow (by decide), gl⟩) (by decide)
  have cm2 : ∀ x0 x3 x9, mLc (mSeqOf (mVar 4)) (gSet 9) mYes el__law_back_3 [9] [x0, .un, .un, x3, .dat (.list ((colsV ns M.a M.n).map PyData.int)), .un, .un, .un, .dat (.int ((max 1 (gcdL (backB M ns b) (colsV ns M.a M.n)) : Nat) : Int)), x9, .un, .un] = some (((colsV ns M.a M.n).map fun n => n.fdiv ((max 1 (gcdL (backB M ns b) (colsV ns M.a M.n)) : Nat) : Int)).map PyData.int) := fun x0 x3 x9 => by
    rw [List.map_map]
    refine comp_at PyData.int _ (colsV ns M.a M.n) rfl (by omega) fun n hn' => ?_
    apply comp_el
    (iterate 1001 (first | (with_reducible apply un_el__law_back_3 <;> first | omega | skip)))
    all_goals first | rfl | exact od | omega
  have res : rowD (backV M ns b) = .tuple [.tuple (((colsV ns M.a M.n).map fun n => n.fdiv ((max 1 (gcdL (backB M ns b) (colsV ns M.a M.n)) : Nat) : Int)).map PyData.int), .int ((backB M ns b).fdiv ((max 1 (gcdL (backB M ns b) (colsV ns M.a M.n)) : Nat) : Int))] := rfl
  rw [res]
  have k1 := pk_d (M := M)
  have hb0 : backB M ns b = M.dv * b - mulS (colsV ns M.e M.p) (worstV (colsV ns M.e M.p) M.dl) := rfl
  have hz : max 1 (gcdL (backB M ns b) (colsV ns M.a M.n)) ≠ 0 := by omega
  generalize max 1 (gcdL (backB M ns b) (colsV ns M.a M.n)) = G at mx1 od cm2 hz
  generalize gcdL (backB M ns b) (colsV ns M.a M.n) = g at lo2 mx1
  rw [hb0] at lo2 ⊢
  have hG : (G : Int) ≠ 0 := by omega
  unfold rowD
  generalize pD M = pp at k1 lo1' pu cm
  generalize rowI ns = rr at ln lo1' pu
  (apply run_ok; case hl => exact rfl); (unfold b__law_back; simp only [List.map_cons, List.map_nil, List.replicate, List.cons_append, List.nil_append])
  (iterate 1001 (first | (with_reducible apply ln <;> first | omega | skip) | (with_reducible apply rg <;> first | omega | skip) | (with_reducible apply lo1' <;> first | omega | skip) | (with_reducible apply pu <;> first | omega | skip) | (with_reducible apply cm <;> first | omega | skip) | (with_reducible apply mx <;> first | omega | skip) | (with_reducible apply k1 <;> first | omega | skip) | (with_reducible apply dMul_ok mk2 <;> first | omega | skip) | (with_reducible apply lo2 <;> first | omega | skip) | (with_reducible apply mx1 <;> first | omega | skip) | (with_reducible apply cm2 <;> first | omega | skip)))
  all_goals first | rfl | exact od | omega

/-! a state meets the row drawn back exactly if the next state meets the row at all corners -/
theorem fdiv_back {n : Int} {G : Nat} (h : G ∣ n.natAbs) : n.fdiv (G : Int) * (G : Int) = n := by
  rw [Int.fdiv_eq_ediv_of_nonneg _ (by omega)]
  exact Int.ediv_mul_cancel (Int.ofNat_dvd_left.mpr h)
theorem dotq_fdiv {G : Nat} : ∀ (ns : List Int) (x : List Rat), (∀ n ∈ ns, G ∣ n.natAbs) → dotq (ns.map fun n => n.fdiv (G : Int)) x * (G : Rat) = dotq ns x
  | [], _, _ => by
    show (0 : Rat) * _ = 0
    rw [Rat.zero_mul]
  | _ :: _, [], _ => by
    show (0 : Rat) * _ = 0
    rw [Rat.zero_mul]
  | n :: ns, q :: x, h => by
    have i := dotq_fdiv ns x fun m hm => h m (List.mem_cons_of_mem _ hm)
    have e := fdiv_back (h n List.mem_cons_self)
    have e' : ((n.fdiv (G : Int) : Int) : Rat) * (G : Rat) = (n : Rat) := by
      rw [← Rat.intCast_natCast, ← Rat.intCast_mul, e]
    rw [List.map_cons, dotq, dotq, ← i, ← e']
    grind
theorem dotq_add (f g : Nat → Int) : ∀ (w s : Nat) (x : List Rat), dotq ((List.range' s w).map fun j => f j + g j) x = dotq ((List.range' s w).map f) x + dotq ((List.range' s w).map g) x
  | 0, _, _ => by
    show (0 : Rat) = 0 + 0
    rw [Rat.add_zero]
  | w + 1, s, [] => by
    show (0 : Rat) = 0 + 0
    rw [Rat.add_zero]
  | w + 1, s, q :: x => by
    have i := dotq_add f g w (s + 1) x
    simp only [List.range'_succ, List.map_cons, dotq, i, Rat.intCast_add]
    grind
theorem dotq_scale (c : Int) (g : Nat → Int) : ∀ (w s : Nat) (x : List Rat), dotq ((List.range' s w).map fun j => c * g j) x = (c : Rat) * dotq ((List.range' s w).map g) x
  | 0, _, _ => by
    show (0 : Rat) = _ * 0
    rw [Rat.mul_zero]
  | w + 1, s, [] => by
    show (0 : Rat) = _ * 0
    rw [Rat.mul_zero]
  | w + 1, s, q :: x => by
    have i := dotq_scale c g w (s + 1) x
    simp only [List.range'_succ, List.map_cons, dotq, i, Rat.intCast_mul]
    grind
theorem row_range (r : List Int) : (List.range r.length).map (fun j => r.getD j 0) = r := by
  refine List.ext_getElem (by rw [List.length_map, List.length_range]) fun i h1 h2 => ?_
  rw [List.getElem_map, List.getElem_range, List.getD_eq_getElem?_getD, List.getElem?_eq_getElem h2]
  rfl
theorem cols_dot {w : Nat} {x : List Rat} : ∀ (ns : List Int) (L : List (List Int)), (∀ r ∈ L, r.length = w) → dotq (colsV ns L w) x = dotq ns (L.map fun r => dotq r x) := by
  have zero : ∀ (w s : Nat) (x : List Rat), dotq ((List.range' s w).map fun _ => (0 : Int)) x = 0 := fun w => by
    induction w with
    | zero => exact fun s x => rfl
    | succ w ih =>
      intro s x
      cases x with
      | nil => rfl
      | cons q x =>
        simp only [List.range'_succ, List.map_cons, dotq, ih]
        grind
  intro ns
  induction ns with
  | nil =>
    intro L _
    unfold colsV
    rw [List.range_eq_range']
    exact zero w 0 x
  | cons n ns ih =>
    intro L hL
    cases L with
    | nil =>
      unfold colsV
      rw [List.range_eq_range']
      exact zero w 0 x
    | cons r L =>
      have i := ih L fun s hs => hL s (List.mem_cons_of_mem _ hs)
      have hr := hL r List.mem_cons_self
      have e : colsV (n :: ns) (r :: L) w = (List.range' 0 w).map fun j => n * r.getD j 0 + colS ns L j := by
        unfold colsV
        rw [List.range_eq_range']
        refine List.map_congr_left fun j _ => ?_
        unfold colS
        rw [List.zip_cons_cons, List.map_cons, List.sum_cons]
      rw [e, dotq_add, dotq_scale n (fun j => r.getD j 0), List.map_cons, dotq, ← i]
      have rr := row_range r
      rw [hr, List.range_eq_range'] at rr
      rw [rr]
      congr 1
      unfold colsV
      rw [List.range_eq_range']
theorem map_getD {α β : Type} (f : α → β) (a0 : α) (L : List α) : L.map f = (List.range L.length).map fun k => f (L.getD k a0) := by
  refine List.ext_getElem (by rw [List.length_map, List.length_map, List.length_range]) fun i h1 h2 => ?_
  rw [List.length_map] at h1
  rw [List.getElem_map, List.getElem_map, List.getElem_range, List.getD_eq_getElem?_getD, List.getElem?_eq_getElem h1]
  rfl
theorem dotq_lin (f g : Nat → Rat) (δ : Rat) : ∀ (ns : List Int) (s : Nat), dotq ns ((List.range' s ns.length).map fun k => (f k + g k) * δ) = (dotq ns ((List.range' s ns.length).map f) + dotq ns ((List.range' s ns.length).map g)) * δ
  | [], s => by
    show (0 : Rat) = (0 + 0) * δ
    grind
  | n :: ns, s => by
    have i := dotq_lin f g δ ns (s + 1)
    simp only [List.length_cons, List.range'_succ, List.map_cons, dotq, i]
    grind
theorem next_dot {M : Mach} (o : MOk M) {ns : List Int} (hn : ns.length = M.n) (x c : List Rat) : dotq ns (nextQ M x [] c) = (dotq ns (M.a.map fun r => dotq r x) + dotq ns (M.e.map fun r => dotq r c)) * Rat.divInt 1 M.dv := by
  have e0 : ∀ r : List Int, dotq r [] = 0 := fun r => by cases r <;> rfl
  have e : nextQ M x [] c = (List.range' 0 ns.length).map fun k => (dotq (M.a.getD k []) x + dotq (M.e.getD k []) c) * Rat.divInt 1 M.dv := by
    unfold nextQ nextK
    rw [List.range_eq_range', hn]
    refine List.map_congr_left fun k _ => ?_
    rw [e0, Rat.add_zero]
  rw [e, dotq_lin, map_getD (fun r => dotq r x) [] M.a, map_getD (fun r => dotq r c) [] M.e, o.ha.1, o.he.1, hn, List.range_eq_range']
theorem met_back {M : Mach} (o : MOk M) {ns : List Int} {b : Int} (hn : ns.length = M.n) (x : List Rat) : metQ (backV M ns b) x = (cornersL M.dl).all fun c => metQ (ns, b) (nextQ M x [] (c.map fun (c : Int) => (c : Rat))) := by
  have hd := o.hd
  have hl := o.hl
  obtain ⟨g1, g2⟩ := gcdL_dvd (colsV ns M.a M.n) (backB M ns b)
  have hG : ∀ n ∈ colsV ns M.a M.n, max 1 (gcdL (backB M ns b) (colsV ns M.a M.n)) ∣ n.natAbs := fun n hn' => by
    have d := g2 n hn'
    by_cases h0 : gcdL (backB M ns b) (colsV ns M.a M.n) = 0
    · rw [h0]
      exact Nat.one_dvd _
    · rwa [show max 1 (gcdL (backB M ns b) (colsV ns M.a M.n)) = gcdL (backB M ns b) (colsV ns M.a M.n) by omega]
  have hB : max 1 (gcdL (backB M ns b) (colsV ns M.a M.n)) ∣ (backB M ns b).natAbs := by
    by_cases h0 : gcdL (backB M ns b) (colsV ns M.a M.n) = 0
    · rw [h0]
      exact Nat.one_dvd _
    · rwa [show max 1 (gcdL (backB M ns b) (colsV ns M.a M.n)) = gcdL (backB M ns b) (colsV ns M.a M.n) by omega]
  have hz : 0 < max 1 (gcdL (backB M ns b) (colsV ns M.a M.n)) := by omega
  have left : metQ (backV M ns b) x = decide (dotq (colsV ns M.a M.n) x ≤ (backB M ns b : Rat)) := by
    unfold metQ backV divRow
    generalize max 1 (gcdL (backB M ns b) (colsV ns M.a M.n)) = G at hG hB hz
    have k1 := dotq_fdiv (colsV ns M.a M.n) x hG
    have k2 : (((backB M ns b).fdiv (G : Int) : Int) : Rat) * (G : Rat) = (backB M ns b : Rat) := by
      rw [← Rat.intCast_natCast, ← Rat.intCast_mul, fdiv_back hB]
    have gp : (0 : Rat) < (G : Rat) := by
      rw [← Rat.intCast_natCast]
      exact Rat.intCast_pos.mpr (by omega)
    rw [decide_eq_decide, ← k1, ← k2]
    exact ⟨fun h => Rat.mul_le_mul_of_nonneg_right h (Rat.le_of_lt gp), fun h => Rat.le_of_mul_le_mul_right h gp⟩
  have dvp : (0 : Rat) < (M.dv : Rat) := Rat.intCast_pos.mpr (by omega)
  have dvn : (M.dv : Rat) ≠ 0 := fun z => by rw [z] at dvp; exact absurd dvp (by decide)
  have inv : Rat.divInt 1 M.dv * (M.dv : Rat) = 1 := by
    rw [Rat.divInt_eq_div, Rat.intCast_one, Rat.div_def, Rat.one_mul, Rat.mul_comm, Rat.mul_inv_cancel _ dvn]
  have aw : ∀ r ∈ M.a, r.length = M.n := fun r hr => (o.ha.2 r hr).1
  have ew : ∀ r ∈ M.e, r.length = M.p := fun r hr => (o.he.2 r hr).1
  have right : ∀ c : List Int, metQ (ns, b) (nextQ M x [] (c.map fun (c : Int) => (c : Rat))) = decide (dotq (colsV ns M.a M.n) x + (mulS (colsV ns M.e M.p) c : Rat) ≤ (M.dv : Rat) * (b : Rat)) := fun c => by
    unfold metQ
    rw [next_dot o hn, ← cols_dot (w := M.n) ns M.a aw, ← cols_dot (w := M.p) ns M.e ew, dot_cast, decide_eq_decide]
    generalize dotq (colsV ns M.a M.n) x + (mulS (colsV ns M.e M.p) c : Rat) = y
    show y * Rat.divInt 1 M.dv ≤ (b : Rat) ↔ _
    have e : y * Rat.divInt 1 M.dv * (M.dv : Rat) = y := by rw [Rat.mul_assoc, inv, Rat.mul_one]
    refine ⟨fun h => ?_, fun h => Rat.le_of_mul_le_mul_right (c := (M.dv : Rat)) ?_ dvp⟩
    · have := Rat.mul_le_mul_of_nonneg_right h (Rat.le_of_lt dvp)
      rw [e, Rat.mul_comm] at this
      exact this
    · rw [e, Rat.mul_comm]
      exact h
  rw [left, Bool.eq_iff_iff, List.all_eq_true]
  have le := colsV_len (ns := ns) (L := M.e) (w := M.p)
  have eb : (backB M ns b : Rat) = (M.dv : Rat) * (b : Rat) - (mulS (colsV ns M.e M.p) (worstV (colsV ns M.e M.p) M.dl) : Rat) := by
    unfold backB
    rw [Rat.intCast_sub, Rat.intCast_mul]
  rw [decide_eq_true_eq, eb]
  refine ⟨fun h c hc => ?_, fun h => ?_⟩
  · rw [right, decide_eq_true_eq]
    have w := worst_max (colsV ns M.e M.p) M.dl c (by omega) (fun q hq => (hl.2 q hq).2.1) ((corner_iff _ _).mp hc)
    have w' : (mulS (colsV ns M.e M.p) c : Rat) ≤ (mulS (colsV ns M.e M.p) (worstV (colsV ns M.e M.p) M.dl) : Rat) := Rat.intCast_le_intCast.mpr w
    grind
  · have := h _ ((corner_iff _ _).mpr (worst_isC (colsV ns M.e M.p) M.dl (by omega)))
    rw [right, decide_eq_true_eq] at this
    grind

/-! the law on rows drawn back -/
theorem row_ok {B : Nat} {r : List Int × Int} (h1 : ∀ a ∈ r.1, a.natAbs < 2 ^ B) (h2 : r.2.natAbs < 2 ^ B) (e : B ≤ 1900) : okD (rowD r) := okD_tup fun d hd => by
  simp only [List.mem_cons, List.not_mem_nil, or_false] at hd
  rcases hd with rfl | rfl
  · exact okD_tup (ok_ints h1 e)
  · exact okD_int (lt_pow h2 e)
theorem row_depth (r : List Int × Int) : (rowD r).depth ≤ 60 := by
  have i := depth_ints r.1
  unfold rowD rowI
  simp only [PyData.depth, PyData.depthAll, i]
  decide
theorem div_lt {n : Int} {G K : Nat} (hd : G ∣ n.natAbs) (h0 : 0 < G) (h : n.natAbs < 2 ^ K) : (n.fdiv (G : Int)).natAbs < 2 ^ K := by
  have e := fdiv_back hd
  have e2 : (n.fdiv (G : Int)).natAbs * G = n.natAbs := by
    have := congrArg Int.natAbs e
    rwa [Int.natAbs_mul, Int.natAbs_natCast] at this
  have : (n.fdiv (G : Int)).natAbs * 1 ≤ (n.fdiv (G : Int)).natAbs * G := Nat.mul_le_mul_left _ h0
  omega
theorem backV_lt {M : Mach} (o : MOk M) {ns : List Int} {b : Int} {A : Nat} (hn : ns.length = M.n) (ha : ∀ a ∈ ns, a.natAbs < 2 ^ A) (hb : b.natAbs < 2 ^ A) : (∀ a ∈ (backV M ns b).1, a.natAbs < 2 ^ (A + 20)) ∧ (backV M ns b).2.natAbs < 2 ^ (A + 20) ∧ (backV M ns b).1.length = M.n := by
  have hn1 := o.hn
  have bl := back_lt o hn ha hb
  have cl := colsV_lt o.ha (ns := ns) (by omega) ha
  obtain ⟨g1, g2⟩ := gcdL_dvd (colsV ns M.a M.n) (backB M ns b)
  have hd : ∀ z : Nat, gcdL (backB M ns b) (colsV ns M.a M.n) ∣ z → max 1 (gcdL (backB M ns b) (colsV ns M.a M.n)) ∣ z := fun z d => by
    by_cases h0 : gcdL (backB M ns b) (colsV ns M.a M.n) = 0
    · rw [h0]
      exact Nat.one_dvd _
    · rwa [show max 1 (gcdL (backB M ns b) (colsV ns M.a M.n)) = gcdL (backB M ns b) (colsV ns M.a M.n) by omega]
  have hz : 0 < max 1 (gcdL (backB M ns b) (colsV ns M.a M.n)) := by omega
  refine ⟨fun a h => ?_, div_lt (hd _ g1) hz bl, ?_⟩
  · obtain ⟨n, hn', rfl⟩ := List.mem_map.mp h
    exact div_lt (hd _ (g2 n hn')) hz (lt_pow (cl n hn') (by omega))
  · show ((colsV ns M.a M.n).map _).length = _
    rw [List.length_map, colsV_len]
theorem k49_turn {M : Mach} (o : MOk M) (hm : M.m = 0) {ns : List Int} (hl : ns.length < 1000) {rs : List Int} {b : Int} (hr : rs.length = M.n) (ha : ∀ a ∈ rs, a.natAbs < 2 ^ 75) (hb : b.natAbs < 2 ^ 75) (k : Nat) (hk : k < 10) :
    lp_law_1 [.dat (scrD ns), .dat (.int (M.n : Int)), .dat (pD M), .un, .dat (rowD (rs, b)), .dat (rowD (backV M rs b)), .dat (.int (k : Int)), .un, .un, .un, .un, .un] = some (.nx [.dat (scrD ns), .dat (.int (M.n : Int)), .dat (pD M), .un, .dat (rowD (rs, b)), .dat (rowD (backV M rs b)), .un, .un, .un, .un, .un, .un]) := by
  have hn := o.hn
  have hb' := o.hl
  have hp := o.hp
  obtain ⟨qs, p1, p2, p3⟩ := spoint_at hl (k := 210 + 8 * (k : Int)) (most := 20) (by omega) (by omega) (by decide) (by decide) (n := M.n) (by omega)
  obtain ⟨v1, v2, v3⟩ := backV_lt o hr ha hb
  have me1 := smeets_at (A := 95) (B := 6) (by decide) (backV M rs b) qs (by omega) v1 v2 p3 (by omega) (by decide)
  have co := scorners_at M.dl (fun q hq => (hb'.2 q hq).2.1) (by omega)
  have cl : (cornersL M.dl).length < 100000 := by
    have h1 := cornersL_len M.dl
    rw [hb'.1] at h1
    have h2 : 2 ^ M.p ≤ 2 ^ 2 := Nat.pow_le_pow_right (by decide) hp
    omega
  have c3 : ∀ x6 x8 x9, mLc (mSeqOf (mCall m__law_corners [] (mCons (m1 (dKey (Str.ofString "pushes")) (mVar 2)) mNil))) (gSet 9) mYes el_law_3 [9] [.dat (scrD ns), .dat (.int (M.n : Int)), .dat (pD M), .un, .dat (rowD (rs, b)), .dat (rowD (backV M rs b)), x6, .dat (ptD qs), x8, x9, .un, .un] = some ((cornersL M.dl).map fun c => ptD (nextQ M qs [] (c.map fun (c : Int) => (c : Rat)))) := fun x6 x8 x9 => by
    refine comp_at cornerQ _ (cornersL M.dl) ?_ cl fun c hc => ?_
    · have k1 := pk_p (M := M)
      have sq : ∀ ds : List D, seqOf (.list ds) = some ds := fun _ => rfl
      generalize pD M = pp at k1
      (iterate 1001 (first | (with_reducible apply k1 <;> first | omega | skip) | (with_reducible apply co <;> first | omega | skip) | (with_reducible apply sq <;> first | omega | skip)))
    · have ic := (corner_iff M.dl c).mp hc
      have cn := isC_len ic
      have nx := snext_at o (x := qs) (u := []) (c := c.map fun (c : Int) => (c : Rat)) (B := 6) p2 (by rw [hm]; rfl) (by rw [List.length_map]; omega) p3 (fun q h => by cases h) (cornQ_sm hb'.2 ic) (by decide)
      have nx' : m__law_next [pD M, ptD qs, .tuple [], cornerQ c] = some (ptD (nextQ M qs [] (c.map fun (c : Int) => (c : Rat)))) := by
        rw [cornerQ_pt]
        exact nx
      generalize ptD (nextQ M qs [] (c.map fun (c : Int) => (c : Rat))) = res at nx'
      generalize cornerQ c = cc at nx'
      generalize pD M = pp at nx'
      apply comp_el
      (iterate 1001 (first | (with_reducible apply un_el_law_3 <;> first | omega | skip) | (with_reducible apply nx' <;> first | omega | skip)))
      rfl
  have c4 : ∀ x6 x7 x9 x11, mLc (mSeqOf (mVar 8)) (gSet 11) mYes el_law_4 [11] [.dat (scrD ns), .dat (.int (M.n : Int)), .dat (pD M), .un, .dat (rowD (rs, b)), .dat (rowD (backV M rs b)), x6, x7, .dat (.list ((cornersL M.dl).map fun c => ptD (nextQ M qs [] (c.map fun (c : Int) => (c : Rat))))), x9, .un, x11] = some ((cornersL M.dl).map fun c => PyData.bool (metQ (rs, b) (nextQ M qs [] (c.map fun (c : Int) => (c : Rat))))) := fun x6 x7 x9 x11 => by
    refine comp_at (fun c => ptD (nextQ M qs [] (c.map fun (c : Int) => (c : Rat)))) _ (cornersL M.dl) rfl cl fun c hc => ?_
    have ic := (corner_iff M.dl c).mp hc
    have cn := isC_len ic
    have sm := nextQ_sm o (x := qs) (u := []) (c := c.map fun (c : Int) => (c : Rat)) (B := 6) p2 (by rw [hm]; rfl) (by rw [List.length_map]; omega) p3 (fun q h => by cases h) (cornQ_sm hb'.2 ic) (by decide)
    have me2 := smeets_at (A := 75) (B := 160) (by decide) (rs, b) (nextQ M qs [] (c.map fun (c : Int) => (c : Rat))) (by rw [nextQ_len]; exact hr.symm) ha hb sm (by show rs.length ≤ 3; omega) (by decide)
    generalize nextQ M qs [] (c.map fun (c : Int) => (c : Rat)) = y at me2
    generalize ptD y = py at me2
    generalize rowD (rs, b) = rr at me2
    apply comp_el
    (iterate 1001 (first | (with_reducible apply un_el_law_4 <;> first | omega | skip) | (with_reducible apply me2 <;> first | omega | skip)))
    rfl
  have al := fn_allD (fun c => metQ (rs, b) (nextQ M qs [] (c.map fun (c : Int) => (c : Rat)))) (cornersL M.dl)
  rw [← met_back o hr qs] at al
  generalize (cornersL M.dl).map (fun c => PyData.bool (metQ (rs, b) (nextQ M qs [] (c.map fun (c : Int) => (c : Rat))))) = L4 at c4 al
  generalize (cornersL M.dl).map (fun c => ptD (nextQ M qs [] (c.map fun (c : Int) => (c : Rat)))) = L3 at c3 c4
  have nb : dNe (.bool (metQ (backV M rs b) qs)) (.bool (metQ (backV M rs b) qs)) = some (.bool false) := by
    rw [op_neB]
    simp
  generalize metQ (backV M rs b) qs = t at me1 al nb
  generalize scrD ns = s at p1 c3 c4
  generalize rowD (backV M rs b) = r1 at me1 c3 c4
  generalize rowD (rs, b) = r0 at c3 c4
  generalize pD M = pp at c3 c4
  generalize ptD qs = pq at p1 me1 c3
  unfold lp_law_1
  apply val_eq
  (iterate 1001 (first | (with_reducible apply p1 <;> first | omega | skip) | (with_reducible apply c3 <;> first | omega | skip) | (with_reducible apply c4 <;> first | omega | skip) | (with_reducible apply me1 <;> first | omega | skip) | (with_reducible apply al <;> first | omega | skip) | (with_reducible apply nb <;> first | omega | skip)))
  all_goals first | rfl | exact mulOk_l (by decide)

theorem op_p20 : dPow (.int 10) (.int 20) = some (.int 100000000000000000000) := by
  rw [op_pow' (by decide)]
  rfl
theorem k49_loop {M : Mach} (o : MOk M) (hm : M.m = 0) {ns : List Int} (hl : ns.length < 1000) {rs : List Int} {b : Int} (hr : rs.length = M.n) (ha : ∀ a ∈ rs, a.natAbs < 2 ^ 75) (hb : b.natAbs < 2 ^ 75) :
    loopD (gSet 6) lp_law_1 [.int 0, .int 1, .int 2, .int 3] [.dat (scrD ns), .dat (.int (M.n : Int)), .dat (pD M), .un, .dat (rowD (rs, b)), .dat (rowD (backV M rs b)), .un, .un, .un, .un, .un, .un] = some (.nx [.dat (scrD ns), .dat (.int (M.n : Int)), .dat (pD M), .un, .dat (rowD (rs, b)), .dat (rowD (backV M rs b)), .un, .un, .un, .un, .un, .un]) :=
  MV.loop_cons rfl (k49_turn o hm hl hr ha hb 0 (by decide)) (MV.loop_cons rfl (k49_turn o hm hl hr ha hb 1 (by decide)) (MV.loop_cons rfl (k49_turn o hm hl hr ha hb 2 (by decide)) (MV.loop_cons rfl (k49_turn o hm hl hr ha hb 3 (by decide)) rfl)))
theorem law_true (ns : List Int) (hn : ns.length ≤ 63) : m_law [.list (ns.map PyData.int)] = some (.bool true) := by
  have hl : ns.length < 1000 := by omega
  show m_law [scrD ns] = some (.bool true)
  have s1 := sd_at hl (k := 200) (below := 3) (by decide) (by decide) (by decide) (by decide)
  have g1 := sd_rg hl (k := 200) (below := 3) (by decide) (by decide) (by decide) (by decide)
  generalize sdV ns 200 3 = v1 at s1 g1
  obtain ⟨i, rfl⟩ := Int.eq_ofNat_of_zero_le g1.1
  have hA : dAdd (.int 1) (.int (i : Int)) = some (.int ((1 + i : Nat) : Int)) := congrArg (fun z => some (PyData.int z)) (by omega)
  have hN : 1 ≤ 1 + i ∧ 1 + i ≤ 3 := by omega
  generalize 1 + i = n at hA hN
  obtain ⟨M, o, rfl, hm, hp⟩ := sparts_at hl (k := 0) (most := 6) (by decide) (by decide) (by decide) (by decide) hN (m := 0) (by decide)
  have hp' : m__law_parts [scrD ns, .int 0, .int (M.n : Int), .int 0, .int 6] = some (pD M) := hp
  have md := smade_at o
  have s6 := sd_at hl (k := 206) (below := 201) (by decide) (by decide) (by decide) (by decide)
  have g6 := sd_rg hl (k := 206) (below := 201) (by decide) (by decide) (by decide) (by decide)
  have s7 := sd_at hl (k := 207) (below := 6) (by decide) (by decide) (by decide) (by decide)
  have s8 := sd_at hl (k := 208) (below := 8) (by decide) (by decide) (by decide) (by decide)
  generalize sdV ns 206 201 = v6 at s6 g6
  generalize sdV ns 207 6 = v7 at s7
  generalize sdV ns 208 8 = v8 at s8
  have cr : ∀ x2 x3 x4 x5 x6 x7 x8 x9 x10 x11, mLc (mL2 rng1 (mCons (mVar 1) mNil)) (gSet 6) mYes el_law_1 [6] [.dat (scrD ns), .dat (.int (M.n : Int)), x2, x3, x4, x5, x6, x7, x8, x9, x10, x11] = some (((List.range M.n).map fun (k : Nat) => sdV ns (202 + (k : Int)) 41 - 20).map PyData.int) := fun x2 x3 x4 x5 x6 x7 x8 x9 x10 x11 => by
    rw [List.map_map]
    refine comp_at (fun (p : Nat) => PyData.int (p : Int)) _ (List.range M.n) ?_ (by rw [List.length_range]; omega) fun k hk => ?_
    · have rg : rng1 [.int (M.n : Int)] = some ((List.range M.n).map fun (k : Nat) => PyData.int (k : Int)) := rng_nat (by omega)
      (iterate 1001 (first | (with_reducible apply rg <;> first | omega | skip)))
    · have hk := List.mem_range.mp hk
      have sd := sd_at hl (k := 202 + (k : Int)) (below := 41) (by omega) (by omega) (by decide) (by decide)
      generalize scrD ns = s at sd
      apply comp_el
      (iterate 1001 (first | (with_reducible apply un_el_law_1 <;> first | omega | skip) | (with_reducible apply sd <;> first | omega | skip)))
      all_goals rfl
  have lr : ((List.range M.n).map fun (k : Nat) => sdV ns (202 + (k : Int)) 41 - 20).length = M.n := by rw [List.length_map, List.length_range]
  have br : ∀ a ∈ (List.range M.n).map fun (k : Nat) => sdV ns (202 + (k : Int)) 41 - 20, a.natAbs < 2 ^ 75 := fun a h => by
    obtain ⟨k, hk, rfl⟩ := List.mem_map.mp h
    have hk := List.mem_range.mp hk
    have := sd_rg hl (k := 202 + (k : Int)) (below := 41) (by omega) (by omega) (by decide) (by decide)
    omega
  generalize (List.range M.n).map (fun (k : Nat) => sdV ns (202 + (k : Int)) 41 - 20) = rs at cr lr br
  have z0 : ∀ x1 x2 x3 x5 x6 x7 x8 x9 x10 x11, mLc (mSeqOf (m2 dIx (mVar 4) (mC (.int 0)))) (gSet 10) mYes el_law_2 [10] [.dat (scrD ns), x1, x2, x3, .dat (.tuple [rowI rs, x11]), x5, x6, x7, x8, x9, x10, .un] = some ((rs.map fun _ => (0 : Int)).map PyData.int) := fun x1 x2 x3 x5 x6 x7 x8 x9 x10 x11 => by
    rw [List.map_map]
    refine comp_at PyData.int _ rs rfl (by have := o.hn; omega) fun k hk => ?_
    apply comp_el
    (iterate 1001 (first | (with_reducible apply un_el_law_2 <;> first | omega | skip)))
    rfl
  have lz : (rs.map fun _ => (0 : Int)).length = M.n := by rw [List.length_map]; exact lr
  have bz : ∀ a ∈ rs.map (fun _ => (0 : Int)), a.natAbs < 2 ^ 75 := fun a h => by
    obtain ⟨_, _, rfl⟩ := List.mem_map.mp h
    decide
  have fin : ∀ (qs : List Int) (b : Int), qs.length = M.n → (∀ a ∈ qs, a.natAbs < 2 ^ 75) → b.natAbs < 2 ^ 75 → m_drawn_back [machD M, .tuple [rowI qs, .int b]] = some (rowD (backV M qs b)) ∧ m__law_back [pD M, .tuple [rowI qs, .int b]] = some (rowD (backV M qs b)) ∧ dNe (rowD (backV M qs b)) (rowD (backV M qs b)) = some (.bool false) ∧
      loopD (gSet 6) lp_law_1 [.int 0, .int 1, .int 2, .int 3] [.dat (scrD ns), .dat (.int (M.n : Int)), .dat (pD M), .un, .dat (.tuple [rowI qs, .int b]), .dat (rowD (backV M qs b)), .un, .un, .un, .un, .un, .un] = some (.nx [.dat (scrD ns), .dat (.int (M.n : Int)), .dat (pD M), .un, .dat (.tuple [rowI qs, .int b]), .dat (rowD (backV M qs b)), .un, .un, .un, .un, .un, .un]) := fun qs b h1 h2 h3 => by
    have v := backV_lt o h1 h2 h3
    exact ⟨drawn_at o h1 (fun a h => lt_pow (h2 a h) (by decide)) (lt_pow h3 (by decide)), sback_at o h1 (fun a h => lt_pow (h2 a h) (by decide)) (lt_pow h3 (by decide)), MV.ne_self (row_ok v.1 v.2.1 (by decide)) (row_depth _), k49_loop o hm hl h1 h2 h3⟩
  have r4 : rng1 [.int 4] = some [.int 0, .int 1, .int 2, .int 3] := rng_int (n := 4) rfl (by decide)
  have ft : ∀ qs : List Int, fTuple [.list (qs.map PyData.int)] = some (rowI qs) := fun _ => rfl
  have i0 : ∀ x y : D, dIx (.tuple [x, y]) (.int 0) = some x := fun _ _ => rfl
  have i1 : ∀ x y : D, dIx (.tuple [x, y]) (.int 1) = some y := fun _ _ => rfl
  by_cases h7 : v7 = 0
  · by_cases h8 : v8 = 0
    · obtain ⟨f1, f2, f3, f4⟩ := fin (rs.map fun _ => 0) ((v6 - 100) * 100000000000000000000) lz bz (by omega)
      generalize scrD ns = s at s1 hp' s6 s7 s8 cr z0 f4
      generalize pD M = pp at hp' md f2 f4
      generalize machD M = mm at md f1
      generalize rowD (backV M (rs.map fun _ => 0) ((v6 - 100) * 100000000000000000000)) = rb at f1 f2 f3 f4
      (apply run_ok; case hl => exact rfl); (unfold b_law; simp only [List.map_cons, List.map_nil, List.replicate, List.cons_append, List.nil_append])
      (iterate 1001 (first | (with_reducible apply s1 <;> first | omega | skip) | (with_reducible apply hA <;> first | omega | skip) | (with_reducible apply hp' <;> first | omega | skip) | (with_reducible apply md <;> first | omega | skip) | (with_reducible apply s6 <;> first | omega | skip) | (with_reducible apply s7 <;> first | omega | skip) | (with_reducible apply s8 <;> first | omega | skip) | (with_reducible apply cr <;> first | omega | skip) | (with_reducible apply ft <;> first | omega | skip) | (with_reducible apply i0 <;> first | omega | skip) | (with_reducible apply i1 <;> first | omega | skip) | (with_reducible apply op_p20 <;> first | omega | skip) | (with_reducible apply z0 <;> first | omega | skip) | (with_reducible apply f1 <;> first | omega | skip) | (with_reducible apply f2 <;> first | omega | skip) | (with_reducible apply f3 <;> first | omega | skip) | (with_reducible apply f4 <;> first | omega | skip) | (with_reducible apply r4 <;> first | omega | skip)))
      all_goals first | rfl | exact mulOk_l (by omega)
    · obtain ⟨f1, f2, f3, f4⟩ := fin rs ((v6 - 100) * 100000000000000000000) lr br (by omega)
      generalize scrD ns = s at s1 hp' s6 s7 s8 cr z0 f4
      generalize pD M = pp at hp' md f2 f4
      generalize machD M = mm at md f1
      generalize rowD (backV M rs ((v6 - 100) * 100000000000000000000)) = rb at f1 f2 f3 f4
      (apply run_ok; case hl => exact rfl); (unfold b_law; simp only [List.map_cons, List.map_nil, List.replicate, List.cons_append, List.nil_append])
      (iterate 1001 (first | (with_reducible apply s1 <;> first | omega | skip) | (with_reducible apply hA <;> first | omega | skip) | (with_reducible apply hp' <;> first | omega | skip) | (with_reducible apply md <;> first | omega | skip) | (with_reducible apply s6 <;> first | omega | skip) | (with_reducible apply s7 <;> first | omega | skip) | (with_reducible apply s8 <;> first | omega | skip) | (with_reducible apply cr <;> first | omega | skip) | (with_reducible apply ft <;> first | omega | skip) | (with_reducible apply i0 <;> first | omega | skip) | (with_reducible apply i1 <;> first | omega | skip) | (with_reducible apply op_p20 <;> first | omega | skip) | (with_reducible apply z0 <;> first | omega | skip) | (with_reducible apply f1 <;> first | omega | skip) | (with_reducible apply f2 <;> first | omega | skip) | (with_reducible apply f3 <;> first | omega | skip) | (with_reducible apply f4 <;> first | omega | skip) | (with_reducible apply r4 <;> first | omega | skip)))
      all_goals first | rfl | exact mulOk_l (by omega)
  · by_cases h8 : v8 = 0
    · obtain ⟨f1, f2, f3, f4⟩ := fin (rs.map fun _ => 0) (v6 - 100) lz bz (by omega)
      generalize scrD ns = s at s1 hp' s6 s7 s8 cr z0 f4
      generalize pD M = pp at hp' md f2 f4
      generalize machD M = mm at md f1
      generalize rowD (backV M (rs.map fun _ => 0) (v6 - 100)) = rb at f1 f2 f3 f4
      (apply run_ok; case hl => exact rfl); (unfold b_law; simp only [List.map_cons, List.map_nil, List.replicate, List.cons_append, List.nil_append])
      (iterate 1001 (first | (with_reducible apply s1 <;> first | omega | skip) | (with_reducible apply hA <;> first | omega | skip) | (with_reducible apply hp' <;> first | omega | skip) | (with_reducible apply md <;> first | omega | skip) | (with_reducible apply s6 <;> first | omega | skip) | (with_reducible apply s7 <;> first | omega | skip) | (with_reducible apply s8 <;> first | omega | skip) | (with_reducible apply cr <;> first | omega | skip) | (with_reducible apply ft <;> first | omega | skip) | (with_reducible apply i0 <;> first | omega | skip) | (with_reducible apply i1 <;> first | omega | skip) | (with_reducible apply op_p20 <;> first | omega | skip) | (with_reducible apply z0 <;> first | omega | skip) | (with_reducible apply f1 <;> first | omega | skip) | (with_reducible apply f2 <;> first | omega | skip) | (with_reducible apply f3 <;> first | omega | skip) | (with_reducible apply f4 <;> first | omega | skip) | (with_reducible apply r4 <;> first | omega | skip)))
      all_goals first | rfl | exact mulOk_l (by omega)
    · obtain ⟨f1, f2, f3, f4⟩ := fin rs (v6 - 100) lr br (by omega)
      generalize scrD ns = s at s1 hp' s6 s7 s8 cr z0 f4
      generalize pD M = pp at hp' md f2 f4
      generalize machD M = mm at md f1
      generalize rowD (backV M rs (v6 - 100)) = rb at f1 f2 f3 f4
      (apply run_ok; case hl => exact rfl); (unfold b_law; simp only [List.map_cons, List.map_nil, List.replicate, List.cons_append, List.nil_append])
      (iterate 1001 (first | (with_reducible apply s1 <;> first | omega | skip) | (with_reducible apply hA <;> first | omega | skip) | (with_reducible apply hp' <;> first | omega | skip) | (with_reducible apply md <;> first | omega | skip) | (with_reducible apply s6 <;> first | omega | skip) | (with_reducible apply s7 <;> first | omega | skip) | (with_reducible apply s8 <;> first | omega | skip) | (with_reducible apply cr <;> first | omega | skip) | (with_reducible apply ft <;> first | omega | skip) | (with_reducible apply i0 <;> first | omega | skip) | (with_reducible apply i1 <;> first | omega | skip) | (with_reducible apply op_p20 <;> first | omega | skip) | (with_reducible apply z0 <;> first | omega | skip) | (with_reducible apply f1 <;> first | omega | skip) | (with_reducible apply f2 <;> first | omega | skip) | (with_reducible apply f3 <;> first | omega | skip) | (with_reducible apply f4 <;> first | omega | skip) | (with_reducible apply r4 <;> first | omega | skip)))
      all_goals first | rfl | exact mulOk_l (by omega)

end Tx
namespace Tx
open PySem PySem.Spec PyProof.Rows L2 MV
/-- the law's def by its address -/
theorem all_end {l : PySem.W.OpenLaw} {w : World} {K : PySem.W.Frag} {mg : Str → Option Value} (T : Txt K mg) :
    ∃ fd : FuncData, (∀ (s : Shared) (u : Value), BindsTo s fd ⟨[u], []⟩ [("script", u)]) ∧ ∀ base : Heap, K.In base → base.Ns mainGlobals mg → FnG l.prog w K mg base 8 T.a_law fd ["script"] m_law :=
  ⟨T.d_law, fun s u => T.F_law.bindsA (ps := ["script"]) (fun _ _ _ _ _ _ us hl => match us, hl with | [_], _ => rfl) s [u] rfl, fun _ _ _ => ok_law T⟩
end Tx
namespace Tx
open PySem PySem.Spec PyProof.Rows L2 MV
set_option maxHeartbeats 0 in
theorem all_mk {l : PySem.W.OpenLaw} {w : World} {K : PySem.W.Frag} {h : Heap} {mg : Str → Option Value} {fa : Addr} (X : K.In h) (G : h.Ns mainGlobals mg) (hfa : mg "law" = some (.ref fa))
    {c_BoundError c_BadMachine : Addr}
    {i_BoundError t_BoundError : Addr} {od_BoundError an_BoundError oe_BoundError : Option Addr} {sl_BoundError se_BoundError : Array (Option Value)} {oc_BoundError kV_BoundError dc_BoundError pm_BoundError cd_BoundError ct_BoundError oe'_BoundError : Value} {n_BoundError : Nat}
    (ga_BoundError : PySem.W.nsIn K mainGlobals "BoundError" = some (some (.ref c_BoundError)))
    (rd1_BoundError : PySem.W.readsIn K c_BoundError (.type "type") = true)
    (rd2_BoundError : PySem.W.specialIn K (.ref c_BoundError) "__getattribute__" = some (some (.builtin "type.__getattribute__")))
    (iv_BoundError : PySem.W.findCls K (.ref c_BoundError) (.type "type") "__init__" = some (.val (.ref i_BoundError)))
    (li_BoundError : K.lookup i_BoundError = some ⟨oc_BoundError, od_BoundError, .func (PySem.W.fnOf "__init__" "BoundError.__init__" (defArgs si_BoundError) (defBody si_BoundError) (defScope si_BoundError) (.ref t_BoundError) kV_BoundError dc_BoundError pm_BoundError an_BoundError cd_BoundError ct_BoundError), sl_BoundError⟩)
    (lq_BoundError : K.lookup t_BoundError = some ⟨oe'_BoundError, oe_BoundError, .seq #[.none] n_BoundError, se_BoundError⟩)
    (lc_BoundError : PySem.W.codeIn K cd_BoundError "BoundError.__init__" = true)
    (lk_BoundError : PySem.W.keepIn K (.ref i_BoundError) = true)
    (eC_BoundError : PySem.W.subIn K (.ref c_BoundError) (.type "BaseException") = some true)
    (tC_BoundError : PySem.W.typeIn K (.ref c_BoundError) = some (.type "type"))
    (hd_BoundError : PySem.W.hasDictIn K c_BoundError = true)
    {i_BadMachine t_BadMachine : Addr} {od_BadMachine an_BadMachine oe_BadMachine : Option Addr} {sl_BadMachine se_BadMachine : Array (Option Value)} {oc_BadMachine kV_BadMachine dc_BadMachine pm_BadMachine cd_BadMachine ct_BadMachine oe'_BadMachine : Value} {n_BadMachine : Nat}
    {nm_BadMachine qn_BadMachine : Str} {N_BadMachine : Addr} {bs_BadMachine : List Value} {sn_BadMachine : List Str} {sb_BadMachine : List Value} {ab_BadMachine : Bool} {co_BadMachine : Option Bool} {dd_BadMachine : Option Addr} {m0_BadMachine m1_BadMachine m2_BadMachine m3_BadMachine m5_BadMachine : Option Value}
    (ga_BadMachine : PySem.W.nsIn K mainGlobals "BadMachine" = some (some (.ref c_BadMachine)))
    (xL_BadMachine : K.lookup c_BadMachine = some (excClassObj nm_BadMachine qn_BadMachine c_BadMachine N_BadMachine bs_BadMachine [.ref c_BoundError, .type "ValueError", .type "Exception", .type "BaseException", .type "object"] true sn_BadMachine sb_BadMachine ab_BadMachine co_BadMachine dd_BadMachine m0_BadMachine m1_BadMachine m2_BadMachine m3_BadMachine m5_BadMachine "ValueError.__new__"))
    (iC_BadMachine : PySem.W.findIn K (.ref c_BadMachine) "__init__" = some (some (.ref i_BadMachine)))
    (tI_BadMachine : PySem.W.typeIn K (.ref i_BadMachine) = some (.type "function"))
    (li_BadMachine : K.lookup i_BadMachine = some ⟨oc_BadMachine, od_BadMachine, .func (PySem.W.fnOf "__init__" "BadMachine.__init__" (defArgs si_BadMachine) (defBody si_BadMachine) (defScope si_BadMachine) (.ref t_BadMachine) kV_BadMachine dc_BadMachine pm_BadMachine an_BadMachine cd_BadMachine ct_BadMachine), sl_BadMachine⟩)
    (lq_BadMachine : K.lookup t_BadMachine = some ⟨oe'_BadMachine, oe_BadMachine, .seq #[.none] n_BadMachine, se_BadMachine⟩)
    (lc_BadMachine : PySem.W.codeIn K cd_BadMachine "BadMachine.__init__" = true)
    (lk_BadMachine : PySem.W.keepIn K (.ref i_BadMachine) = true)
    (eC_BadMachine : PySem.W.subIn K (.ref c_BadMachine) (.type "BaseException") = some true)
    (tC_BadMachine : PySem.W.typeIn K (.ref c_BadMachine) = some (.type "type"))
    (hd_BadMachine : PySem.W.hasDictIn K c_BadMachine = true)
    (sa_BadMachine : PySem.W.findIn K (.ref c_BadMachine) "__setattr__" = some (some (.builtin "object.__setattr__")))
    (kC_BadMachine : PySem.W.keepIn K (.ref c_BadMachine) = true)
    (nw_BadMachine : PySem.W.findIn K (.ref c_BadMachine) "word" = some none)
    (np_BadMachine : PySem.W.findIn K (.ref c_BadMachine) "place" = some none)
    (xg_BadMachine : PySem.W.findIn K (.ref c_BadMachine) "__getattribute__" = some (some (.builtin "BaseException.__getattribute__")))
    (xh_BadMachine : PySem.W.findIn K (.ref c_BadMachine) "__getattr__" = some none)
    (cl_BadMachine : PySem.W.isClsIn K c_BadMachine = true)
    (ha_BadMachine : PySem.W.findIn K (.ref c_BadMachine) "__class__" = some (some (.builtin "object.__class__")))
    (hm_BadMachine : PySem.W.mroIn K c_BadMachine (.type "object") = some true)
    (ocG : PySem.W.specialIn K (.builtin "object.__class__") "__get__" = some (some (.builtin "getset_descriptor.__get__")))
    (ocT : PySem.W.takesIn K (.builtin "object.__class__") = some true)
    (vVE : PySem.W.findCls K (.type "ValueError") (.type "type") "__init__" = some (.val (.builtin "ValueError.__init__")))
    {c_Machine : Addr}
    (ga_Machine : PySem.W.nsIn K mainGlobals "Machine" = some (some (.ref c_Machine)))
    (pg_Machine : PySem.W.plainGet K c_Machine Str.empty = true)
    (hd_Machine : PySem.W.hasDictIn K c_Machine = true)
    (po_Machine : PySem.W.plainOver K c_Machine = true)
    (sa_Machine : PySem.W.findIn K (.ref c_Machine) "__setattr__" = some (some (.builtin "object.__setattr__")))
    (mm_Machine : PySem.W.makesIn K c_Machine = true)
    (kC_Machine : PySem.W.keepIn K (.ref c_Machine) = true)
    (na_Machine_matrix_a : PySem.W.findIn K (.ref c_Machine) "matrix_a" = some none)
    (na_Machine_matrix_b : PySem.W.findIn K (.ref c_Machine) "matrix_b" = some none)
    (na_Machine_matrix_e : PySem.W.findIn K (.ref c_Machine) "matrix_e" = some none)
    (na_Machine_divisor : PySem.W.findIn K (.ref c_Machine) "divisor" = some none)
    (na_Machine_input_limits : PySem.W.findIn K (.ref c_Machine) "input_limits" = some none)
    (na_Machine_disturbance_limits : PySem.W.findIn K (.ref c_Machine) "disturbance_limits" = some none)
    (na_Machine_states : PySem.W.findIn K (.ref c_Machine) "states" = some none)
    (na_Machine_inputs : PySem.W.findIn K (.ref c_Machine) "inputs" = some none)
    (na_Machine_disturbances : PySem.W.findIn K (.ref c_Machine) "disturbances" = some none)
    {f1 : Addr} {od1 an1 : Option Addr} {sl1 : Array (Option Value)} {oc1 kV1 dc1 pm1 cd1 ct1 : Value}
    (a1 : PySem.W.nsIn K mainGlobals "is_whole" = some (some (.ref f1)))
    (l1 : K.lookup f1 = some ⟨oc1, od1, .func (PySem.W.fnOf "is_whole" "is_whole" (defArgs s_is_whole) (defBody s_is_whole) (defScope s_is_whole) .none kV1 dc1 pm1 an1 cd1 ct1), sl1⟩)
    (c1 : PySem.W.codeIn K cd1 "is_whole" = true) (k1 : PySem.W.keepIn K (.ref f1) = true)
    {f2 : Addr} {od2 an2 : Option Addr} {sl2 : Array (Option Value)} {oc2 kV2 dc2 pm2 cd2 ct2 : Value}
    (a2 : PySem.W.nsIn K mainGlobals "greatest_divisor" = some (some (.ref f2)))
    (l2 : K.lookup f2 = some ⟨oc2, od2, .func (PySem.W.fnOf "greatest_divisor" "greatest_divisor" (defArgs s_greatest_divisor) (defBody s_greatest_divisor) (defScope s_greatest_divisor) .none kV2 dc2 pm2 an2 cd2 ct2), sl2⟩)
    (c2 : PySem.W.codeIn K cd2 "greatest_divisor" = true) (k2 : PySem.W.keepIn K (.ref f2) = true)
    {f3 : Addr} {od3 an3 : Option Addr} {sl3 : Array (Option Value)} {oc3 kV3 dc3 pm3 cd3 ct3 : Value}
    (a3 : PySem.W.nsIn K mainGlobals "times_columns" = some (some (.ref f3)))
    (l3 : K.lookup f3 = some ⟨oc3, od3, .func (PySem.W.fnOf "times_columns" "times_columns" (defArgs s_times_columns) (defBody s_times_columns) (defScope s_times_columns) .none kV3 dc3 pm3 an3 cd3 ct3), sl3⟩)
    (c3 : PySem.W.codeIn K cd3 "times_columns" = true) (k3 : PySem.W.keepIn K (.ref f3) = true)
    {f4 : Addr} {od4 an4 : Option Addr} {sl4 : Array (Option Value)} {oc4 kV4 dc4 pm4 cd4 ct4 : Value}
    (a4 : PySem.W.nsIn K mainGlobals "worst_disturbance" = some (some (.ref f4)))
    (l4 : K.lookup f4 = some ⟨oc4, od4, .func (PySem.W.fnOf "worst_disturbance" "worst_disturbance" (defArgs s_worst_disturbance) (defBody s_worst_disturbance) (defScope s_worst_disturbance) .none kV4 dc4 pm4 an4 cd4 ct4), sl4⟩)
    (c4 : PySem.W.codeIn K cd4 "worst_disturbance" = true) (k4 : PySem.W.keepIn K (.ref f4) = true)
    {f5 : Addr} {od5 an5 : Option Addr} {sl5 : Array (Option Value)} {oc5 kV5 dc5 pm5 cd5 ct5 : Value}
    (a5 : PySem.W.nsIn K mainGlobals "divided_row" = some (some (.ref f5)))
    (l5 : K.lookup f5 = some ⟨oc5, od5, .func (PySem.W.fnOf "divided_row" "divided_row" (defArgs s_divided_row) (defBody s_divided_row) (defScope s_divided_row) .none kV5 dc5 pm5 an5 cd5 ct5), sl5⟩)
    (c5 : PySem.W.codeIn K cd5 "divided_row" = true) (k5 : PySem.W.keepIn K (.ref f5) = true)
    {f6 : Addr} {od6 an6 : Option Addr} {sl6 : Array (Option Value)} {oc6 kV6 dc6 pm6 cd6 ct6 : Value}
    (a6 : PySem.W.nsIn K mainGlobals "drawn_back" = some (some (.ref f6)))
    (l6 : K.lookup f6 = some ⟨oc6, od6, .func (PySem.W.fnOf "drawn_back" "drawn_back" (defArgs s_drawn_back) (defBody s_drawn_back) (defScope s_drawn_back) .none kV6 dc6 pm6 an6 cd6 ct6), sl6⟩)
    (c6 : PySem.W.codeIn K cd6 "drawn_back" = true) (k6 : PySem.W.keepIn K (.ref f6) = true)
    {f7 : Addr} {od7 an7 : Option Addr} {sl7 : Array (Option Value)} {oc7 kV7 dc7 pm7 cd7 ct7 : Value}
    (a7 : PySem.W.nsIn K mainGlobals "is_number" = some (some (.ref f7)))
    (l7 : K.lookup f7 = some ⟨oc7, od7, .func (PySem.W.fnOf "is_number" "is_number" (defArgs s_is_number) (defBody s_is_number) (defScope s_is_number) .none kV7 dc7 pm7 an7 cd7 ct7), sl7⟩)
    (c7 : PySem.W.codeIn K cd7 "is_number" = true) (k7 : PySem.W.keepIn K (.ref f7) = true)
    {f8 : Addr} {od8 an8 : Option Addr} {sl8 : Array (Option Value)} {oc8 kV8 dc8 pm8 cd8 ct8 : Value}
    (a8 : PySem.W.nsIn K mainGlobals "are_numbers" = some (some (.ref f8)))
    (l8 : K.lookup f8 = some ⟨oc8, od8, .func (PySem.W.fnOf "are_numbers" "are_numbers" (defArgs s_are_numbers) (defBody s_are_numbers) (defScope s_are_numbers) .none kV8 dc8 pm8 an8 cd8 ct8), sl8⟩)
    (c8 : PySem.W.codeIn K cd8 "are_numbers" = true) (k8 : PySem.W.keepIn K (.ref f8) = true)
    {f9 : Addr} {od9 an9 : Option Addr} {sl9 : Array (Option Value)} {oc9 kV9 dc9 pm9 cd9 ct9 : Value}
    (a9 : PySem.W.nsIn K mainGlobals "are_pairs" = some (some (.ref f9)))
    (l9 : K.lookup f9 = some ⟨oc9, od9, .func (PySem.W.fnOf "are_pairs" "are_pairs" (defArgs s_are_pairs) (defBody s_are_pairs) (defScope s_are_pairs) .none kV9 dc9 pm9 an9 cd9 ct9), sl9⟩)
    (c9 : PySem.W.codeIn K cd9 "are_pairs" = true) (k9 : PySem.W.keepIn K (.ref f9) = true)
    {f10 : Addr} {od10 an10 : Option Addr} {sl10 : Array (Option Value)} {oc10 kV10 dc10 pm10 cd10 ct10 : Value}
    (a10 : PySem.W.nsIn K mainGlobals "width_of" = some (some (.ref f10)))
    (l10 : K.lookup f10 = some ⟨oc10, od10, .func (PySem.W.fnOf "width_of" "width_of" (defArgs s_width_of) (defBody s_width_of) (defScope s_width_of) .none kV10 dc10 pm10 an10 cd10 ct10), sl10⟩)
    (c10 : PySem.W.codeIn K cd10 "width_of" = true) (k10 : PySem.W.keepIn K (.ref f10) = true)
    {f11 : Addr} {od11 an11 : Option Addr} {sl11 : Array (Option Value)} {oc11 kV11 dc11 pm11 cd11 ct11 : Value}
    (a11 : PySem.W.nsIn K mainGlobals "is_matrix" = some (some (.ref f11)))
    (l11 : K.lookup f11 = some ⟨oc11, od11, .func (PySem.W.fnOf "is_matrix" "is_matrix" (defArgs s_is_matrix) (defBody s_is_matrix) (defScope s_is_matrix) .none kV11 dc11 pm11 an11 cd11 ct11), sl11⟩)
    (c11 : PySem.W.codeIn K cd11 "is_matrix" = true) (k11 : PySem.W.keepIn K (.ref f11) = true)
    {f12 : Addr} {od12 an12 : Option Addr} {sl12 : Array (Option Value)} {oc12 kV12 dc12 pm12 cd12 ct12 : Value}
    (a12 : PySem.W.findIn K (.ref c_Machine) "__init__" = some (some (.ref f12))) (i12 : PySem.W.isFn K (.ref f12) = true)
    (l12 : K.lookup f12 = some ⟨oc12, od12, .func (PySem.W.fnOf "__init__" "Machine.__init__" (defArgs s_Machine_init) (defBody s_Machine_init) (defScope s_Machine_init) .none kV12 dc12 pm12 an12 cd12 ct12), sl12⟩)
    (c12 : PySem.W.codeIn K cd12 "Machine.__init__" = true) (k12 : PySem.W.keepIn K (.ref f12) = true)
    {f13 : Addr} {od13 an13 : Option Addr} {sl13 : Array (Option Value)} {oc13 kV13 dc13 pm13 cd13 ct13 : Value}
    (a13 : PySem.W.nsIn K mainGlobals "_law_draw" = some (some (.ref f13)))
    (l13 : K.lookup f13 = some ⟨oc13, od13, .func (PySem.W.fnOf "_law_draw" "_law_draw" (defArgs s__law_draw) (defBody s__law_draw) (defScope s__law_draw) .none kV13 dc13 pm13 an13 cd13 ct13), sl13⟩)
    (c13 : PySem.W.codeIn K cd13 "_law_draw" = true) (k13 : PySem.W.keepIn K (.ref f13) = true)
    {f14 : Addr} {od14 an14 : Option Addr} {sl14 : Array (Option Value)} {oc14 kV14 dc14 pm14 cd14 ct14 : Value}
    (a14 : PySem.W.nsIn K mainGlobals "_law_divisor" = some (some (.ref f14)))
    (l14 : K.lookup f14 = some ⟨oc14, od14, .func (PySem.W.fnOf "_law_divisor" "_law_divisor" (defArgs s__law_divisor) (defBody s__law_divisor) (defScope s__law_divisor) .none kV14 dc14 pm14 an14 cd14 ct14), sl14⟩)
    (c14 : PySem.W.codeIn K cd14 "_law_divisor" = true) (k14 : PySem.W.keepIn K (.ref f14) = true)
    {f15 : Addr} {od15 an15 : Option Addr} {sl15 : Array (Option Value)} {oc15 kV15 dc15 pm15 cd15 ct15 : Value}
    (a15 : PySem.W.nsIn K mainGlobals "_law_fr" = some (some (.ref f15)))
    (l15 : K.lookup f15 = some ⟨oc15, od15, .func (PySem.W.fnOf "_law_fr" "_law_fr" (defArgs s__law_fr) (defBody s__law_fr) (defScope s__law_fr) .none kV15 dc15 pm15 an15 cd15 ct15), sl15⟩)
    (c15 : PySem.W.codeIn K cd15 "_law_fr" = true) (k15 : PySem.W.keepIn K (.ref f15) = true)
    {f16 : Addr} {od16 an16 : Option Addr} {sl16 : Array (Option Value)} {oc16 kV16 dc16 pm16 cd16 ct16 : Value}
    (a16 : PySem.W.nsIn K mainGlobals "_law_add" = some (some (.ref f16)))
    (l16 : K.lookup f16 = some ⟨oc16, od16, .func (PySem.W.fnOf "_law_add" "_law_add" (defArgs s__law_add) (defBody s__law_add) (defScope s__law_add) .none kV16 dc16 pm16 an16 cd16 ct16), sl16⟩)
    (c16 : PySem.W.codeIn K cd16 "_law_add" = true) (k16 : PySem.W.keepIn K (.ref f16) = true)
    {f17 : Addr} {od17 an17 : Option Addr} {sl17 : Array (Option Value)} {oc17 kV17 dc17 pm17 cd17 ct17 : Value}
    (a17 : PySem.W.nsIn K mainGlobals "_law_times" = some (some (.ref f17)))
    (l17 : K.lookup f17 = some ⟨oc17, od17, .func (PySem.W.fnOf "_law_times" "_law_times" (defArgs s__law_times) (defBody s__law_times) (defScope s__law_times) .none kV17 dc17 pm17 an17 cd17 ct17), sl17⟩)
    (c17 : PySem.W.codeIn K cd17 "_law_times" = true) (k17 : PySem.W.keepIn K (.ref f17) = true)
    {f18 : Addr} {od18 an18 : Option Addr} {sl18 : Array (Option Value)} {oc18 kV18 dc18 pm18 cd18 ct18 : Value}
    (a18 : PySem.W.nsIn K mainGlobals "_law_less" = some (some (.ref f18)))
    (l18 : K.lookup f18 = some ⟨oc18, od18, .func (PySem.W.fnOf "_law_less" "_law_less" (defArgs s__law_less) (defBody s__law_less) (defScope s__law_less) .none kV18 dc18 pm18 an18 cd18 ct18), sl18⟩)
    (c18 : PySem.W.codeIn K cd18 "_law_less" = true) (k18 : PySem.W.keepIn K (.ref f18) = true)
    {f19 : Addr} {od19 an19 : Option Addr} {sl19 : Array (Option Value)} {oc19 kV19 dc19 pm19 cd19 ct19 : Value}
    (a19 : PySem.W.nsIn K mainGlobals "_law_dot" = some (some (.ref f19)))
    (l19 : K.lookup f19 = some ⟨oc19, od19, .func (PySem.W.fnOf "_law_dot" "_law_dot" (defArgs s__law_dot) (defBody s__law_dot) (defScope s__law_dot) .none kV19 dc19 pm19 an19 cd19 ct19), sl19⟩)
    (c19 : PySem.W.codeIn K cd19 "_law_dot" = true) (k19 : PySem.W.keepIn K (.ref f19) = true)
    {f20 : Addr} {od20 an20 : Option Addr} {sl20 : Array (Option Value)} {oc20 kV20 dc20 pm20 cd20 ct20 : Value}
    (a20 : PySem.W.nsIn K mainGlobals "_law_next" = some (some (.ref f20)))
    (l20 : K.lookup f20 = some ⟨oc20, od20, .func (PySem.W.fnOf "_law_next" "_law_next" (defArgs s__law_next) (defBody s__law_next) (defScope s__law_next) .none kV20 dc20 pm20 an20 cd20 ct20), sl20⟩)
    (c20 : PySem.W.codeIn K cd20 "_law_next" = true) (k20 : PySem.W.keepIn K (.ref f20) = true)
    {f21 : Addr} {od21 an21 : Option Addr} {sl21 : Array (Option Value)} {oc21 kV21 dc21 pm21 cd21 ct21 : Value}
    (a21 : PySem.W.nsIn K mainGlobals "_law_meets" = some (some (.ref f21)))
    (l21 : K.lookup f21 = some ⟨oc21, od21, .func (PySem.W.fnOf "_law_meets" "_law_meets" (defArgs s__law_meets) (defBody s__law_meets) (defScope s__law_meets) .none kV21 dc21 pm21 an21 cd21 ct21), sl21⟩)
    (c21 : PySem.W.codeIn K cd21 "_law_meets" = true) (k21 : PySem.W.keepIn K (.ref f21) = true)
    {f22 : Addr} {od22 an22 : Option Addr} {sl22 : Array (Option Value)} {oc22 kV22 dc22 pm22 cd22 ct22 : Value}
    (a22 : PySem.W.nsIn K mainGlobals "_law_corners" = some (some (.ref f22)))
    (l22 : K.lookup f22 = some ⟨oc22, od22, .func (PySem.W.fnOf "_law_corners" "_law_corners" (defArgs s__law_corners) (defBody s__law_corners) (defScope s__law_corners) .none kV22 dc22 pm22 an22 cd22 ct22), sl22⟩)
    (c22 : PySem.W.codeIn K cd22 "_law_corners" = true) (k22 : PySem.W.keepIn K (.ref f22) = true)
    {f23 : Addr} {od23 an23 : Option Addr} {sl23 : Array (Option Value)} {oc23 kV23 dc23 pm23 cd23 ct23 : Value}
    (a23 : PySem.W.nsIn K mainGlobals "_law_matrix" = some (some (.ref f23)))
    (l23 : K.lookup f23 = some ⟨oc23, od23, .func (PySem.W.fnOf "_law_matrix" "_law_matrix" (defArgs s__law_matrix) (defBody s__law_matrix) (defScope s__law_matrix) .none kV23 dc23 pm23 an23 cd23 ct23), sl23⟩)
    (c23 : PySem.W.codeIn K cd23 "_law_matrix" = true) (k23 : PySem.W.keepIn K (.ref f23) = true)
    {f24 : Addr} {od24 an24 : Option Addr} {sl24 : Array (Option Value)} {oc24 kV24 dc24 pm24 cd24 ct24 : Value}
    (a24 : PySem.W.nsIn K mainGlobals "_law_box" = some (some (.ref f24)))
    (l24 : K.lookup f24 = some ⟨oc24, od24, .func (PySem.W.fnOf "_law_box" "_law_box" (defArgs s__law_box) (defBody s__law_box) (defScope s__law_box) .none kV24 dc24 pm24 an24 cd24 ct24), sl24⟩)
    (c24 : PySem.W.codeIn K cd24 "_law_box" = true) (k24 : PySem.W.keepIn K (.ref f24) = true)
    {f25 : Addr} {od25 an25 : Option Addr} {sl25 : Array (Option Value)} {oc25 kV25 dc25 pm25 cd25 ct25 : Value}
    (a25 : PySem.W.nsIn K mainGlobals "_law_parts" = some (some (.ref f25)))
    (l25 : K.lookup f25 = some ⟨oc25, od25, .func (PySem.W.fnOf "_law_parts" "_law_parts" (defArgs s__law_parts) (defBody s__law_parts) (defScope s__law_parts) .none kV25 dc25 pm25 an25 cd25 ct25), sl25⟩)
    (c25 : PySem.W.codeIn K cd25 "_law_parts" = true) (k25 : PySem.W.keepIn K (.ref f25) = true)
    {f26 : Addr} {od26 an26 : Option Addr} {sl26 : Array (Option Value)} {oc26 kV26 dc26 pm26 cd26 ct26 : Value}
    (a26 : PySem.W.nsIn K mainGlobals "_law_machine" = some (some (.ref f26)))
    (l26 : K.lookup f26 = some ⟨oc26, od26, .func (PySem.W.fnOf "_law_machine" "_law_machine" (defArgs s__law_machine) (defBody s__law_machine) (defScope s__law_machine) .none kV26 dc26 pm26 an26 cd26 ct26), sl26⟩)
    (c26 : PySem.W.codeIn K cd26 "_law_machine" = true) (k26 : PySem.W.keepIn K (.ref f26) = true)
    {f27 : Addr} {od27 an27 : Option Addr} {sl27 : Array (Option Value)} {oc27 kV27 dc27 pm27 cd27 ct27 : Value}
    (a27 : PySem.W.nsIn K mainGlobals "_law_point" = some (some (.ref f27)))
    (l27 : K.lookup f27 = some ⟨oc27, od27, .func (PySem.W.fnOf "_law_point" "_law_point" (defArgs s__law_point) (defBody s__law_point) (defScope s__law_point) .none kV27 dc27 pm27 an27 cd27 ct27), sl27⟩)
    (c27 : PySem.W.codeIn K cd27 "_law_point" = true) (k27 : PySem.W.keepIn K (.ref f27) = true)
    {f28 : Addr} {od28 an28 : Option Addr} {sl28 : Array (Option Value)} {oc28 kV28 dc28 pm28 cd28 ct28 : Value}
    (a28 : PySem.W.nsIn K mainGlobals "_law_pushes" = some (some (.ref f28)))
    (l28 : K.lookup f28 = some ⟨oc28, od28, .func (PySem.W.fnOf "_law_pushes" "_law_pushes" (defArgs s__law_pushes) (defBody s__law_pushes) (defScope s__law_pushes) .none kV28 dc28 pm28 an28 cd28 ct28), sl28⟩)
    (c28 : PySem.W.codeIn K cd28 "_law_pushes" = true) (k28 : PySem.W.keepIn K (.ref f28) = true)
    {f29 : Addr} {od29 an29 : Option Addr} {sl29 : Array (Option Value)} {oc29 kV29 dc29 pm29 cd29 ct29 : Value}
    (a29 : PySem.W.nsIn K mainGlobals "_law_back" = some (some (.ref f29)))
    (l29 : K.lookup f29 = some ⟨oc29, od29, .func (PySem.W.fnOf "_law_back" "_law_back" (defArgs s__law_back) (defBody s__law_back) (defScope s__law_back) .none kV29 dc29 pm29 an29 cd29 ct29), sl29⟩)
    (c29 : PySem.W.codeIn K cd29 "_law_back" = true) (k29 : PySem.W.keepIn K (.ref f29) = true)
    {f30 : Addr} {od30 an30 : Option Addr} {sl30 : Array (Option Value)} {oc30 kV30 dc30 pm30 cd30 ct30 : Value}
    (a30 : PySem.W.nsIn K mainGlobals "law" = some (some (.ref f30)))
    (l30 : K.lookup f30 = some ⟨oc30, od30, .func (PySem.W.fnOf "law" "law" (defArgs s_law) (defBody s_law) (defScope s_law) .none kV30 dc30 pm30 an30 cd30 ct30), sl30⟩)
    (c30 : PySem.W.codeIn K cd30 "law" = true) (k30 : PySem.W.keepIn K (.ref f30) = true)
    (z_ValueError : PySem.W.nsIn K mainGlobals "ValueError" = some none)
    (z_abs : PySem.W.nsIn K mainGlobals "abs" = some none)
    (z_all : PySem.W.nsIn K mainGlobals "all" = some none)
    (z_bool : PySem.W.nsIn K mainGlobals "bool" = some none)
    (z_int : PySem.W.nsIn K mainGlobals "int" = some none)
    (z_isinstance : PySem.W.nsIn K mainGlobals "isinstance" = some none)
    (z_len : PySem.W.nsIn K mainGlobals "len" = some none)
    (z_max : PySem.W.nsIn K mainGlobals "max" = some none)
    (z_range : PySem.W.nsIn K mainGlobals "range" = some none)
    (z_sum : PySem.W.nsIn K mainGlobals "sum" = some none)
    (z_tuple : PySem.W.nsIn K mainGlobals "tuple" = some none)
    (z_zip : PySem.W.nsIn K mainGlobals "zip" = some none)
    (i_gcd : PySem.W.nsIn K mainGlobals "gcd" = some (some (.builtin "math.gcd")))
    {tk_MOST_NUMBER : Tok} (x_MOST_NUMBER : PySem.W.nsIn K mainGlobals "MOST_NUMBER" = some (some (.int (20) tk_MOST_NUMBER)))
    {tk_MOST_STATES : Tok} (x_MOST_STATES : PySem.W.nsIn K mainGlobals "MOST_STATES" = some (some (.int (3) tk_MOST_STATES)))
    {tk_MOST_INPUTS : Tok} (x_MOST_INPUTS : PySem.W.nsIn K mainGlobals "MOST_INPUTS" = some (some (.int (2) tk_MOST_INPUTS)))
    {tk_MOST_DISTURBANCES : Tok} (x_MOST_DISTURBANCES : PySem.W.nsIn K mainGlobals "MOST_DISTURBANCES" = some (some (.int (2) tk_MOST_DISTURBANCES)))
    {tk_MOST_DIVISOR : Tok} (x_MOST_DIVISOR : PySem.W.nsIn K mainGlobals "MOST_DIVISOR" = some (some (.int (100) tk_MOST_DIVISOR)))
    : ∃ fd : FuncData, (∀ (s : Shared) (u : Value), BindsTo s fd ⟨[u], []⟩ [("script", u)]) ∧ ∀ base : Heap, K.In base → base.Ns mainGlobals mg → FnG l.prog w K mg base 8 fa fd ["script"] m_law := by
  have e := hfa.symm.trans (PySem.W.mg_of X G a30)
  cases e
  have Fi_BoundError : FunD K "__init__" "BoundError.__init__" (defArgs si_BoundError) (defBody si_BoundError) (defScope si_BoundError) [V.non] [] i_BoundError _ := ⟨⟨_, _, _, _, _, _, _, _, _, _, rfl, li_BoundError, lc_BoundError, .inr ⟨by simp, t_BoundError, _, [.none], n_BoundError, rfl, lq_BoundError, rfl, .cons rfl .nil⟩, .inl rfl⟩, lk_BoundError⟩
  have Bi_BoundError_3 := Fi_BoundError.binds1 (ps := ["self", "word", "place"]) 3 1 (by simp) rfl (fun _ _ _ _ _ _ _ us its h1 h2 => match us, its, h1, h2 with | [_, _, _], [_], _, _ => ⟨_, rfl, rfl⟩)
  obtain ⟨ui_BoundError_3, vi_BoundError_3, bi_BoundError_3⟩ := Bi_BoundError_3
  have Fi_BadMachine : FunD K "__init__" "BadMachine.__init__" (defArgs si_BadMachine) (defBody si_BadMachine) (defScope si_BadMachine) [V.non] [] i_BadMachine _ := ⟨⟨_, _, _, _, _, _, _, _, _, _, rfl, li_BadMachine, lc_BadMachine, .inr ⟨by simp, t_BadMachine, _, [.none], n_BadMachine, rfl, lq_BadMachine, rfl, .cons rfl .nil⟩, .inl rfl⟩, lk_BadMachine⟩
  have Bi_BadMachine_1 := Fi_BadMachine.binds1 (ps := ["self", "place"]) 1 0 (by simp) rfl (fun _ _ _ _ _ _ _ us its h1 h2 => match us, its, h1, h2 with | [_], [_], _, _ => ⟨_, rfl, rfl⟩)
  obtain ⟨ui_BadMachine_1, vi_BadMachine_1, bi_BadMachine_1⟩ := Bi_BadMachine_1
  have Bi_BadMachine_2 := Fi_BadMachine.binds1 (ps := ["self", "place"]) 2 1 (by simp) rfl (fun _ _ _ _ _ _ _ us its h1 h2 => match us, its, h1, h2 with | [_, _], [_], _, _ => ⟨_, rfl, rfl⟩)
  obtain ⟨ui_BadMachine_2, vi_BadMachine_2, bi_BadMachine_2⟩ := Bi_BadMachine_2
  have F1 : FunD K "is_whole" "is_whole" (defArgs s_is_whole) (defBody s_is_whole) (defScope s_is_whole) [] [] f1 _ := ⟨⟨_, _, _, _, _, _, _, _, _, _, rfl, l1, c1, .inl ⟨rfl, rfl⟩, .inl rfl⟩, k1⟩
  have b1 := F1.bindsN (ps := ["value"]) (fun _ _ _ _ _ _ us hl => match us, hl with | [_], _ => rfl)
  have F2 : FunD K "greatest_divisor" "greatest_divisor" (defArgs s_greatest_divisor) (defBody s_greatest_divisor) (defScope s_greatest_divisor) [] [] f2 _ := ⟨⟨_, _, _, _, _, _, _, _, _, _, rfl, l2, c2, .inl ⟨rfl, rfl⟩, .inl rfl⟩, k2⟩
  have b2 := F2.bindsN (ps := ["first", "second"]) (fun _ _ _ _ _ _ us hl => match us, hl with | [_, _], _ => rfl)
  have F3 : FunD K "times_columns" "times_columns" (defArgs s_times_columns) (defBody s_times_columns) (defScope s_times_columns) [] [] f3 _ := ⟨⟨_, _, _, _, _, _, _, _, _, _, rfl, l3, c3, .inl ⟨rfl, rfl⟩, .inl rfl⟩, k3⟩
  have b3 := F3.bindsN (ps := ["numbers", "matrix", "width"]) (fun _ _ _ _ _ _ us hl => match us, hl with | [_, _, _], _ => rfl)
  have F4 : FunD K "worst_disturbance" "worst_disturbance" (defArgs s_worst_disturbance) (defBody s_worst_disturbance) (defScope s_worst_disturbance) [] [] f4 _ := ⟨⟨_, _, _, _, _, _, _, _, _, _, rfl, l4, c4, .inl ⟨rfl, rfl⟩, .inl rfl⟩, k4⟩
  have b4 := F4.bindsN (ps := ["machine", "numbers"]) (fun _ _ _ _ _ _ us hl => match us, hl with | [_, _], _ => rfl)
  have F5 : FunD K "divided_row" "divided_row" (defArgs s_divided_row) (defBody s_divided_row) (defScope s_divided_row) [] [] f5 _ := ⟨⟨_, _, _, _, _, _, _, _, _, _, rfl, l5, c5, .inl ⟨rfl, rfl⟩, .inl rfl⟩, k5⟩
  have b5 := F5.bindsN (ps := ["numbers", "bound"]) (fun _ _ _ _ _ _ us hl => match us, hl with | [_, _], _ => rfl)
  have F6 : FunD K "drawn_back" "drawn_back" (defArgs s_drawn_back) (defBody s_drawn_back) (defScope s_drawn_back) [] [] f6 _ := ⟨⟨_, _, _, _, _, _, _, _, _, _, rfl, l6, c6, .inl ⟨rfl, rfl⟩, .inl rfl⟩, k6⟩
  have b6 := F6.bindsN (ps := ["machine", "row"]) (fun _ _ _ _ _ _ us hl => match us, hl with | [_, _], _ => rfl)
  have F7 : FunD K "is_number" "is_number" (defArgs s_is_number) (defBody s_is_number) (defScope s_is_number) [] [] f7 _ := ⟨⟨_, _, _, _, _, _, _, _, _, _, rfl, l7, c7, .inl ⟨rfl, rfl⟩, .inl rfl⟩, k7⟩
  have b7 := F7.bindsN (ps := ["value", "least", "greatest"]) (fun _ _ _ _ _ _ us hl => match us, hl with | [_, _, _], _ => rfl)
  have F8 : FunD K "are_numbers" "are_numbers" (defArgs s_are_numbers) (defBody s_are_numbers) (defScope s_are_numbers) [] [] f8 _ := ⟨⟨_, _, _, _, _, _, _, _, _, _, rfl, l8, c8, .inl ⟨rfl, rfl⟩, .inl rfl⟩, k8⟩
  have b8 := F8.bindsN (ps := ["value", "count"]) (fun _ _ _ _ _ _ us hl => match us, hl with | [_, _], _ => rfl)
  have F9 : FunD K "are_pairs" "are_pairs" (defArgs s_are_pairs) (defBody s_are_pairs) (defScope s_are_pairs) [] [] f9 _ := ⟨⟨_, _, _, _, _, _, _, _, _, _, rfl, l9, c9, .inl ⟨rfl, rfl⟩, .inl rfl⟩, k9⟩
  have b9 := F9.bindsN (ps := ["value", "count"]) (fun _ _ _ _ _ _ us hl => match us, hl with | [_, _], _ => rfl)
  have F10 : FunD K "width_of" "width_of" (defArgs s_width_of) (defBody s_width_of) (defScope s_width_of) [] [] f10 _ := ⟨⟨_, _, _, _, _, _, _, _, _, _, rfl, l10, c10, .inl ⟨rfl, rfl⟩, .inl rfl⟩, k10⟩
  have b10 := F10.bindsN (ps := ["matrix"]) (fun _ _ _ _ _ _ us hl => match us, hl with | [_], _ => rfl)
  have F11 : FunD K "is_matrix" "is_matrix" (defArgs s_is_matrix) (defBody s_is_matrix) (defScope s_is_matrix) [] [] f11 _ := ⟨⟨_, _, _, _, _, _, _, _, _, _, rfl, l11, c11, .inl ⟨rfl, rfl⟩, .inl rfl⟩, k11⟩
  have b11 := F11.bindsN (ps := ["value", "height", "width"]) (fun _ _ _ _ _ _ us hl => match us, hl with | [_, _, _], _ => rfl)
  have F12 : FunD K "__init__" "Machine.__init__" (defArgs s_Machine_init) (defBody s_Machine_init) (defScope s_Machine_init) [] [] f12 _ := ⟨⟨_, _, _, _, _, _, _, _, _, _, rfl, l12, c12, .inl ⟨rfl, rfl⟩, .inl rfl⟩, k12⟩
  have b12 := F12.bindsN (ps := ["self", "a", "b", "e", "divisor", "input_limits", "disturbance_limits"]) (fun _ _ _ _ _ _ us hl => match us, hl with | [_, _, _, _, _, _, _], _ => rfl)
  have F13 : FunD K "_law_draw" "_law_draw" (defArgs s__law_draw) (defBody s__law_draw) (defScope s__law_draw) [] [] f13 _ := ⟨⟨_, _, _, _, _, _, _, _, _, _, rfl, l13, c13, .inl ⟨rfl, rfl⟩, .inl rfl⟩, k13⟩
  have b13 := F13.bindsN (ps := ["script", "k", "below"]) (fun _ _ _ _ _ _ us hl => match us, hl with | [_, _, _], _ => rfl)
  have F14 : FunD K "_law_divisor" "_law_divisor" (defArgs s__law_divisor) (defBody s__law_divisor) (defScope s__law_divisor) [] [] f14 _ := ⟨⟨_, _, _, _, _, _, _, _, _, _, rfl, l14, c14, .inl ⟨rfl, rfl⟩, .inl rfl⟩, k14⟩
  have b14 := F14.bindsN (ps := ["one", "other"]) (fun _ _ _ _ _ _ us hl => match us, hl with | [_, _], _ => rfl)
  have F15 : FunD K "_law_fr" "_law_fr" (defArgs s__law_fr) (defBody s__law_fr) (defScope s__law_fr) [] [] f15 _ := ⟨⟨_, _, _, _, _, _, _, _, _, _, rfl, l15, c15, .inl ⟨rfl, rfl⟩, .inl rfl⟩, k15⟩
  have b15 := F15.bindsN (ps := ["number", "below"]) (fun _ _ _ _ _ _ us hl => match us, hl with | [_, _], _ => rfl)
  have F16 : FunD K "_law_add" "_law_add" (defArgs s__law_add) (defBody s__law_add) (defScope s__law_add) [] [] f16 _ := ⟨⟨_, _, _, _, _, _, _, _, _, _, rfl, l16, c16, .inl ⟨rfl, rfl⟩, .inl rfl⟩, k16⟩
  have b16 := F16.bindsN (ps := ["one", "other"]) (fun _ _ _ _ _ _ us hl => match us, hl with | [_, _], _ => rfl)
  have F17 : FunD K "_law_times" "_law_times" (defArgs s__law_times) (defBody s__law_times) (defScope s__law_times) [] [] f17 _ := ⟨⟨_, _, _, _, _, _, _, _, _, _, rfl, l17, c17, .inl ⟨rfl, rfl⟩, .inl rfl⟩, k17⟩
  have b17 := F17.bindsN (ps := ["one", "other"]) (fun _ _ _ _ _ _ us hl => match us, hl with | [_, _], _ => rfl)
  have F18 : FunD K "_law_less" "_law_less" (defArgs s__law_less) (defBody s__law_less) (defScope s__law_less) [] [] f18 _ := ⟨⟨_, _, _, _, _, _, _, _, _, _, rfl, l18, c18, .inl ⟨rfl, rfl⟩, .inl rfl⟩, k18⟩
  have b18 := F18.bindsN (ps := ["one", "other"]) (fun _ _ _ _ _ _ us hl => match us, hl with | [_, _], _ => rfl)
  have F19 : FunD K "_law_dot" "_law_dot" (defArgs s__law_dot) (defBody s__law_dot) (defScope s__law_dot) [] [] f19 _ := ⟨⟨_, _, _, _, _, _, _, _, _, _, rfl, l19, c19, .inl ⟨rfl, rfl⟩, .inl rfl⟩, k19⟩
  have b19 := F19.bindsN (ps := ["numbers", "point"]) (fun _ _ _ _ _ _ us hl => match us, hl with | [_, _], _ => rfl)
  have F20 : FunD K "_law_next" "_law_next" (defArgs s__law_next) (defBody s__law_next) (defScope s__law_next) [] [] f20 _ := ⟨⟨_, _, _, _, _, _, _, _, _, _, rfl, l20, c20, .inl ⟨rfl, rfl⟩, .inl rfl⟩, k20⟩
  have b20 := F20.bindsN (ps := ["parts", "state", "inputs", "disturbance"]) (fun _ _ _ _ _ _ us hl => match us, hl with | [_, _, _, _], _ => rfl)
  have F21 : FunD K "_law_meets" "_law_meets" (defArgs s__law_meets) (defBody s__law_meets) (defScope s__law_meets) [] [] f21 _ := ⟨⟨_, _, _, _, _, _, _, _, _, _, rfl, l21, c21, .inl ⟨rfl, rfl⟩, .inl rfl⟩, k21⟩
  have b21 := F21.bindsN (ps := ["row", "point"]) (fun _ _ _ _ _ _ us hl => match us, hl with | [_, _], _ => rfl)
  have F22 : FunD K "_law_corners" "_law_corners" (defArgs s__law_corners) (defBody s__law_corners) (defScope s__law_corners) [] [] f22 _ := ⟨⟨_, _, _, _, _, _, _, _, _, _, rfl, l22, c22, .inl ⟨rfl, rfl⟩, .inl rfl⟩, k22⟩
  have b22 := F22.bindsN (ps := ["box"]) (fun _ _ _ _ _ _ us hl => match us, hl with | [_], _ => rfl)
  have F23 : FunD K "_law_matrix" "_law_matrix" (defArgs s__law_matrix) (defBody s__law_matrix) (defScope s__law_matrix) [] [] f23 _ := ⟨⟨_, _, _, _, _, _, _, _, _, _, rfl, l23, c23, .inl ⟨rfl, rfl⟩, .inl rfl⟩, k23⟩
  have b23 := F23.bindsN (ps := ["script", "k", "high", "wide", "most"]) (fun _ _ _ _ _ _ us hl => match us, hl with | [_, _, _, _, _], _ => rfl)
  have F24 : FunD K "_law_box" "_law_box" (defArgs s__law_box) (defBody s__law_box) (defScope s__law_box) [] [] f24 _ := ⟨⟨_, _, _, _, _, _, _, _, _, _, rfl, l24, c24, .inl ⟨rfl, rfl⟩, .inl rfl⟩, k24⟩
  have b24 := F24.bindsN (ps := ["script", "k", "count"]) (fun _ _ _ _ _ _ us hl => match us, hl with | [_, _, _], _ => rfl)
  have F25 : FunD K "_law_parts" "_law_parts" (defArgs s__law_parts) (defBody s__law_parts) (defScope s__law_parts) [] [] f25 _ := ⟨⟨_, _, _, _, _, _, _, _, _, _, rfl, l25, c25, .inl ⟨rfl, rfl⟩, .inl rfl⟩, k25⟩
  have b25 := F25.bindsN (ps := ["script", "k", "states", "inputs", "most"]) (fun _ _ _ _ _ _ us hl => match us, hl with | [_, _, _, _, _], _ => rfl)
  have F26 : FunD K "_law_machine" "_law_machine" (defArgs s__law_machine) (defBody s__law_machine) (defScope s__law_machine) [] [] f26 _ := ⟨⟨_, _, _, _, _, _, _, _, _, _, rfl, l26, c26, .inl ⟨rfl, rfl⟩, .inl rfl⟩, k26⟩
  have b26 := F26.bindsN (ps := ["parts"]) (fun _ _ _ _ _ _ us hl => match us, hl with | [_], _ => rfl)
  have F27 : FunD K "_law_point" "_law_point" (defArgs s__law_point) (defBody s__law_point) (defScope s__law_point) [] [] f27 _ := ⟨⟨_, _, _, _, _, _, _, _, _, _, rfl, l27, c27, .inl ⟨rfl, rfl⟩, .inl rfl⟩, k27⟩
  have b27 := F27.bindsN (ps := ["script", "k", "states", "most"]) (fun _ _ _ _ _ _ us hl => match us, hl with | [_, _, _, _], _ => rfl)
  have F28 : FunD K "_law_pushes" "_law_pushes" (defArgs s__law_pushes) (defBody s__law_pushes) (defScope s__law_pushes) [] [] f28 _ := ⟨⟨_, _, _, _, _, _, _, _, _, _, rfl, l28, c28, .inl ⟨rfl, rfl⟩, .inl rfl⟩, k28⟩
  have b28 := F28.bindsN (ps := ["parts", "numbers"]) (fun _ _ _ _ _ _ us hl => match us, hl with | [_, _], _ => rfl)
  have F29 : FunD K "_law_back" "_law_back" (defArgs s__law_back) (defBody s__law_back) (defScope s__law_back) [] [] f29 _ := ⟨⟨_, _, _, _, _, _, _, _, _, _, rfl, l29, c29, .inl ⟨rfl, rfl⟩, .inl rfl⟩, k29⟩
  have b29 := F29.bindsN (ps := ["parts", "row"]) (fun _ _ _ _ _ _ us hl => match us, hl with | [_, _], _ => rfl)
  have F30 : FunD K "law" "law" (defArgs s_law) (defBody s_law) (defScope s_law) [] [] fa _ := ⟨⟨_, _, _, _, _, _, _, _, _, _, rfl, l30, c30, .inl ⟨rfl, rfl⟩, .inl rfl⟩, k30⟩
  have b30 := F30.bindsN (ps := ["script"]) (fun _ _ _ _ _ _ us hl => match us, hl with | [_], _ => rfl)
  exact all_end { c_BoundError := c_BoundError, i_BoundError := i_BoundError, di_BoundError := _, g_BoundError := PySem.W.mg_of X G ga_BoundError, Fi_BoundError := Fi_BoundError, rd_BoundError := ⟨rd1_BoundError, rd2_BoundError⟩, iv_BoundError := iv_BoundError, ui_BoundError_3 := ui_BoundError_3, bi_BoundError_3 := bi_BoundError_3, vi_BoundError_3 := vi_BoundError_3, c_BadMachine := c_BadMachine, i_BadMachine := i_BadMachine, di_BadMachine := _, g_BadMachine := PySem.W.mg_of X G ga_BadMachine, Fi_BadMachine := Fi_BadMachine, E_BadMachine := ⟨⟨⟨_, _, _, _, _, _, _, _, _, _, _, _, _, _, _, xL_BadMachine, (by decide +kernel : PySem.HandSPX.refsVE [.type "ValueError", .type "Exception", .type "BaseException", .type "object"] = true)⟩, sa_BadMachine, eC_BadMachine, tC_BadMachine, kC_BadMachine⟩, nw_BadMachine, np_BadMachine, iC_BadMachine, tI_BadMachine⟩, R_BadMachine := ⟨⟨xg_BadMachine, xh_BadMachine, eC_BadMachine, hd_BadMachine⟩, cl_BadMachine, ha_BadMachine, ocG, ocT, hm_BadMachine⟩, ui_BadMachine_1 := ui_BadMachine_1, bi_BadMachine_1 := bi_BadMachine_1, vi_BadMachine_1 := vi_BadMachine_1, ui_BadMachine_2 := ui_BadMachine_2, bi_BadMachine_2 := bi_BadMachine_2, vi_BadMachine_2 := vi_BadMachine_2, v_ValueError := vVE, c_Machine := c_Machine, g_Machine := PySem.W.mg_of X G ga_Machine, ns_Machine := ga_Machine, cl_Machine := ⟨pg_Machine, hd_Machine, po_Machine, sa_Machine⟩, na_Machine_matrix_a := na_Machine_matrix_a, na_Machine_matrix_b := na_Machine_matrix_b, na_Machine_matrix_e := na_Machine_matrix_e, na_Machine_divisor := na_Machine_divisor, na_Machine_input_limits := na_Machine_input_limits, na_Machine_disturbance_limits := na_Machine_disturbance_limits, na_Machine_states := na_Machine_states, na_Machine_inputs := na_Machine_inputs, na_Machine_disturbances := na_Machine_disturbances, a_is_whole := f1, d_is_whole := _, F_is_whole := F1, g_is_whole := PySem.W.mg_of X G a1, b_is_whole := b1, a_greatest_divisor := f2, d_greatest_divisor := _, F_greatest_divisor := F2, g_greatest_divisor := PySem.W.mg_of X G a2, b_greatest_divisor := b2, a_times_columns := f3, d_times_columns := _, F_times_columns := F3, g_times_columns := PySem.W.mg_of X G a3, b_times_columns := b3, a_worst_disturbance := f4, d_worst_disturbance := _, F_worst_disturbance := F4, g_worst_disturbance := PySem.W.mg_of X G a4, b_worst_disturbance := b4, a_divided_row := f5, d_divided_row := _, F_divided_row := F5, g_divided_row := PySem.W.mg_of X G a5, b_divided_row := b5, a_drawn_back := f6, d_drawn_back := _, F_drawn_back := F6, g_drawn_back := PySem.W.mg_of X G a6, b_drawn_back := b6, a_is_number := f7, d_is_number := _, F_is_number := F7, g_is_number := PySem.W.mg_of X G a7, b_is_number := b7, a_are_numbers := f8, d_are_numbers := _, F_are_numbers := F8, g_are_numbers := PySem.W.mg_of X G a8, b_are_numbers := b8, a_are_pairs := f9, d_are_pairs := _, F_are_pairs := F9, g_are_pairs := PySem.W.mg_of X G a9, b_are_pairs := b9, a_width_of := f10, d_width_of := _, F_width_of := F10, g_width_of := PySem.W.mg_of X G a10, b_width_of := b10, a_is_matrix := f11, d_is_matrix := _, F_is_matrix := F11, g_is_matrix := PySem.W.mg_of X G a11, b_is_matrix := b11, a_Machine_init := f12, d_Machine_init := _, F_Machine_init := F12, mk_Machine := ⟨mm_Machine, a12, i12, kC_Machine⟩, b_Machine_init := b12, a__law_draw := f13, d__law_draw := _, F__law_draw := F13, g__law_draw := PySem.W.mg_of X G a13, b__law_draw := b13, a__law_divisor := f14, d__law_divisor := _, F__law_divisor := F14, g__law_divisor := PySem.W.mg_of X G a14, b__law_divisor := b14, a__law_fr := f15, d__law_fr := _, F__law_fr := F15, g__law_fr := PySem.W.mg_of X G a15, b__law_fr := b15, a__law_add := f16, d__law_add := _, F__law_add := F16, g__law_add := PySem.W.mg_of X G a16, b__law_add := b16, a__law_times := f17, d__law_times := _, F__law_times := F17, g__law_times := PySem.W.mg_of X G a17, b__law_times := b17, a__law_less := f18, d__law_less := _, F__law_less := F18, g__law_less := PySem.W.mg_of X G a18, b__law_less := b18, a__law_dot := f19, d__law_dot := _, F__law_dot := F19, g__law_dot := PySem.W.mg_of X G a19, b__law_dot := b19, a__law_next := f20, d__law_next := _, F__law_next := F20, g__law_next := PySem.W.mg_of X G a20, b__law_next := b20, a__law_meets := f21, d__law_meets := _, F__law_meets := F21, g__law_meets := PySem.W.mg_of X G a21, b__law_meets := b21, a__law_corners := f22, d__law_corners := _, F__law_corners := F22, g__law_corners := PySem.W.mg_of X G a22, b__law_corners := b22, a__law_matrix := f23, d__law_matrix := _, F__law_matrix := F23, g__law_matrix := PySem.W.mg_of X G a23, b__law_matrix := b23, a__law_box := f24, d__law_box := _, F__law_box := F24, g__law_box := PySem.W.mg_of X G a24, b__law_box := b24, a__law_parts := f25, d__law_parts := _, F__law_parts := F25, g__law_parts := PySem.W.mg_of X G a25, b__law_parts := b25, a__law_machine := f26, d__law_machine := _, F__law_machine := F26, g__law_machine := PySem.W.mg_of X G a26, b__law_machine := b26, a__law_point := f27, d__law_point := _, F__law_point := F27, g__law_point := PySem.W.mg_of X G a27, b__law_point := b27, a__law_pushes := f28, d__law_pushes := _, F__law_pushes := F28, g__law_pushes := PySem.W.mg_of X G a28, b__law_pushes := b28, a__law_back := f29, d__law_back := _, F__law_back := F29, g__law_back := PySem.W.mg_of X G a29, b__law_back := b29, a_law := fa, d_law := _, F_law := F30, g_law := PySem.W.mg_of X G a30, b_law := b30, n_ValueError := PySem.W.mg_none_of X G z_ValueError, n_abs := PySem.W.mg_none_of X G z_abs, n_all := PySem.W.mg_none_of X G z_all, n_bool := PySem.W.mg_none_of X G z_bool, n_int := PySem.W.mg_none_of X G z_int, n_isinstance := PySem.W.mg_none_of X G z_isinstance, n_len := PySem.W.mg_none_of X G z_len, n_max := PySem.W.mg_none_of X G z_max, n_range := PySem.W.mg_none_of X G z_range, n_sum := PySem.W.mg_none_of X G z_sum, n_tuple := PySem.W.mg_none_of X G z_tuple, n_zip := PySem.W.mg_none_of X G z_zip, g_gcd := PySem.W.mg_of X G i_gcd, t_MOST_NUMBER := tk_MOST_NUMBER, g_MOST_NUMBER := PySem.W.mg_of X G x_MOST_NUMBER, t_MOST_STATES := tk_MOST_STATES, g_MOST_STATES := PySem.W.mg_of X G x_MOST_STATES, t_MOST_INPUTS := tk_MOST_INPUTS, g_MOST_INPUTS := PySem.W.mg_of X G x_MOST_INPUTS, t_MOST_DISTURBANCES := tk_MOST_DISTURBANCES, g_MOST_DISTURBANCES := PySem.W.mg_of X G x_MOST_DISTURBANCES, t_MOST_DIVISOR := tk_MOST_DIVISOR, g_MOST_DIVISOR := PySem.W.mg_of X G x_MOST_DIVISOR }
end Tx
open PySem PySem.W PyProof.Rows
set_option maxHeartbeats 0 in
theorem PySem.Challenge.cw_stayswithin_k49_rows_drawn_back_holds : PySem.Challenge.rw_stayswithin_k49_rows_drawn_back.Holds := by
  w_on; o_law; k_head; (case hw => w_witness2)
  k_fill
  refine MV.law_of (l := PySem.Challenge.rw_stayswithin_k49_rows_drawn_back) (n := 63) (k := 8) (x := "script") (m := Tx.m_law) rfl (by decide) rfl ⟨rfl, by decide, by decide⟩ (fun w h Y => PySem.W.kIn_of Y) ?F Tx.law_true
  case F =>
    intro w mg fa h KX G hmg
    refine' Tx.all_mk KX G hmg ?h0 ?h1 ?h2 ?h3 ?h4 ?h5 ?h6 ?h7 ?h8 ?h9 ?h10 ?h11 ?h12 ?h13 ?h14 ?h15 ?h16 ?h17 ?h18 ?h19 ?h20 ?h21 ?h22 ?h23 ?h24 ?h25 ?h26 ?h27 ?h28 ?h29 ?h30 ?h31 ?h32 ?h33 ?h34 ?h35 ?h36 ?h37 ?h38 ?h39 ?h40 ?h41 ?h42 ?h43 ?h44 ?h45 ?h46 ?h47 ?h48 ?h49 ?h50 ?h51 ?h52 ?h53 ?h54 ?h55 ?h56 ?h57 ?h58 ?h59 ?h60 ?h61 ?h62 ?h63 ?h64 ?h65 ?h66 ?h67 ?h68 ?h69 ?h70 ?h71 ?h72 ?h73 ?h74 ?h75 ?h76 ?h77 ?h78 ?h79 ?h80 ?h81 ?h82 ?h83 ?h84 ?h85 ?h86 ?h87 ?h88 ?h89 ?h90 ?h91 ?h92 ?h93 ?h94 ?h95 ?h96 ?h97 ?h98 ?h99 ?h100 ?h101 ?h102 ?h103 ?h104 ?h105 ?h106 ?h107 ?h108 ?h109 ?h110 ?h111 ?h112 ?h113 ?h114 ?h115 ?h116 ?h117 ?h118 ?h119 ?h120 ?h121 ?h122 ?h123 ?h124 ?h125 ?h126 ?h127 ?h128 ?h129 ?h130 ?h131 ?h132 ?h133 ?h134 ?h135 ?h136 ?h137 ?h138 ?h139 ?h140 ?h141 ?h142 ?h143 ?h144 ?h145 ?h146 ?h147 ?h148 ?h149 ?h150 ?h151 ?h152 ?h153 ?h154 ?h155 ?h156 ?h157 ?h158 ?h159 ?h160 ?h161 ?h162 ?h163 ?h164 ?h165 ?h166 ?h167 ?h168 ?h169 ?h170 ?h171 ?h172 ?h173 ?h174 ?h175 ?h176 ?h177 ?h178 ?h179 ?h180 ?h181 ?h182 ?h183 ?h184 ?h185 ?h186 ?h187 ?h188
    (case h0 => k_is); (case h1 => k_is); (case h2 => k_is); (case h3 => k_is); (case h4 => k_is); (case h5 => k_is); (case h6 => k_is); (case h7 => k_is); (case h8 => k_is); (case h9 => k_is); (case h10 => k_is); (case h11 => k_is); (case h12 => k_is); (case h13 => k_is); (case h14 => k_is); (case h15 => k_is); (case h16 => k_is); (case h17 => k_is); (case h18 => k_is); (case h19 => k_is); (case h20 => k_is); (case h21 => k_is); (case h22 => k_is); (case h23 => k_is); (case h24 => k_is); (case h25 => k_is); (case h26 => k_is); (case h27 => k_is); (case h28 => k_is); (case h29 => k_is); (case h30 => k_is); (case h31 => k_is); (case h32 => k_is); (case h33 => k_is); (case h34 => k_is); (case h35 => k_is); (case h36 => k_is); (case h37 => k_is); (case h38 => k_is); (case h39 => k_is); (case h40 => k_is); (case h41 => k_is); (case h42 => k_is); (case h43 => k_is); (case h44 => k_is); (case h45 => k_is); (case h46 => k_is); (case h47 => k_is); (case h48 => k_is); (case h49 => k_is); (case h50 => k_is); (case h51 => k_is); (case h52 => k_is); (case h53 => k_is); (case h54 => k_is); (case h55 => k_is); (case h56 => k_is); (case h57 => k_is); (case h58 => k_is); (case h59 => k_is); (case h60 => k_is); (case h61 => k_is); (case h62 => k_is); (case h63 => k_is); (case h64 => k_is); (case h65 => k_is); (case h66 => k_is); (case h67 => k_is); (case h68 => k_is); (case h69 => k_is); (case h70 => k_is); (case h71 => k_is); (case h72 => k_is); (case h73 => k_is); (case h74 => k_is); (case h75 => k_is); (case h76 => k_is); (case h77 => k_is); (case h78 => k_is); (case h79 => k_is); (case h80 => k_is); (case h81 => k_is); (case h82 => k_is); (case h83 => k_is); (case h84 => k_is); (case h85 => k_is); (case h86 => k_is); (case h87 => k_is); (case h88 => k_is); (case h89 => k_is); (case h90 => k_is); (case h91 => k_is); (case h92 => k_is); (case h93 => k_is); (case h94 => k_is); (case h95 => k_is); (case h96 => k_is); (case h97 => k_is); (case h98 => k_is); (case h99 => k_is); (case h100 => k_is); (case h101 => k_is); (case h102 => k_is); (case h103 => k_is); (case h104 => k_is); (case h105 => k_is); (case h106 => k_is); (case h107 => k_is); (case h108 => k_is); (case h109 => k_is); (case h110 => k_is); (case h111 => k_is); (case h112 => k_is); (case h113 => k_is); (case h114 => k_is); (case h115 => k_is); (case h116 => k_is); (case h117 => k_is); (case h118 => k_is); (case h119 => k_is); (case h120 => k_is); (case h121 => k_is); (case h122 => k_is); (case h123 => k_is); (case h124 => k_is); (case h125 => k_is); (case h126 => k_is); (case h127 => k_is); (case h128 => k_is); (case h129 => k_is); (case h130 => k_is); (case h131 => k_is); (case h132 => k_is); (case h133 => k_is); (case h134 => k_is); (case h135 => k_is); (case h136 => k_is); (case h137 => k_is); (case h138 => k_is); (case h139 => k_is); (case h140 => k_is); (case h141 => k_is); (case h142 => k_is); (case h143 => k_is); (case h144 => k_is); (case h145 => k_is); (case h146 => k_is); (case h147 => k_is); (case h148 => k_is); (case h149 => k_is); (case h150 => k_is); (case h151 => k_is); (case h152 => k_is); (case h153 => k_is); (case h154 => k_is); (case h155 => k_is); (case h156 => k_is); (case h157 => k_is); (case h158 => k_is); (case h159 => k_is); (case h160 => k_is); (case h161 => k_is); (case h162 => k_is); (case h163 => k_is); (case h164 => k_is); (case h165 => k_is); (case h166 => k_is); (case h167 => k_is); (case h168 => k_is); (case h169 => k_is); (case h170 => k_is); (case h171 => k_is); (case h172 => k_is); (case h173 => k_is); (case h174 => k_is); (case h175 => k_is); (case h176 => k_is); (case h177 => k_is); (case h178 => k_is); (case h179 => k_is); (case h180 => k_is); (case h181 => k_is); (case h182 => k_is); (case h183 => k_is); (case h184 => k_is); (case h185 => k_is); (case h186 => k_is); (case h187 => k_is); (case h188 => k_is)

